import PyProof.Rows.All
import Wide.All
import OpenK.AllK
import Wide.FinOn
import Lean
import PyProof.EqAt
import PyProof.EqKinds
import PyProof.TupleCall
import PyProof.NeKinds
import PySem.Challenge.RW_flowkinds_k11_no_name_and_twice
set_option Elab.async false
set_option linter.all false
set_option maxRecDepth 100000
set_option maxHeartbeats 4000000
set_option genInjectivity false
set_option genSizeOf false
set_option bootstrap.genMatcherCode false
set_option compiler.extract_closed false
namespace L2.Internal
theorem auR (h : True = True := by rfl) : True := trivial
theorem auD (h : True := by decide) : True := trivial
theorem auI (h : True → True = True := by intro _; rfl) : True := trivial
theorem auL (h : True = True ∨ True := by first | exact .inl rfl | exact .inr rfl | assumption) : True := trivial
open PySem PySem.Spec PyProof.Rows

noncomputable abbrev Key := Sum Int Str
noncomputable def keyIs : Key → Value → Bool
  | .inl k, v => Value.isInt k v
  | .inr x, v => Value.isStrOf x v
noncomputable def keyH (w : World) : Key → Int
  | .inl k => hashInt k
  | .inr x => hashStr w x
theorem keyIs_shape : ∀ {k : Key} {v : Value}, keyIs k v = true → (∃ i t, k = Sum.inl i ∧ v = Value.int i t) ∨ (∃ x t, k = Sum.inr x ∧ v = Value.str x t)
  | .inl i, v, h => by
    obtain ⟨t, e⟩ := Value.isInt_shape (k := i) (v := v) h
    exact .inl ⟨i, t, rfl, e⟩
  | .inr x, v, h => by
    obtain ⟨t, e⟩ := Value.isStrOf_shape (x := x) (v := v) h
    exact .inr ⟨x, t, rfl, e⟩
theorem keyIs_int (i : Int) (t : Tok) : keyIs (.inl i) (.int i t) = true := by simp [keyIs, Value.isInt]
theorem keyIs_str (x : Str) (t : Tok) : keyIs (.inr x) (.str x t) = true := by simp [keyIs, Value.isStrOf]
theorem key_ll (a b : Int) : decide ((Sum.inl a : Key) = Sum.inl b) = (a == b) := by
  by_cases e : a = b
  · subst e; simp
  · have h : ¬ (Sum.inl a : Key) = Sum.inl b := fun q => e (Sum.inl.inj q)
    rw [decide_eq_false h]
    exact (beq_eq_false_iff_ne.mpr e).symm
theorem key_rr (a b : Str) : decide ((Sum.inr a : Key) = Sum.inr b) = decide (a = b) := by
  by_cases e : a = b
  · subst e; simp
  · have h : ¬ (Sum.inr a : Key) = Sum.inr b := fun q => e (Sum.inr.inj q)
    rw [decide_eq_false h, decide_eq_false e]
theorem key_lr (a : Int) (b : Str) : decide ((Sum.inl a : Key) = Sum.inr b) = false := decide_eq_false (fun q => nomatch q)
theorem key_rl (a : Str) (b : Int) : decide ((Sum.inr a : Key) = Sum.inl b) = false := decide_eq_false (fun q => nomatch q)

noncomputable def mixKind (prog : Program) (w : World) : PySem.KeyKind prog w Key where
  is := keyIs
  hash := keyH w
  inj := fun v a b ha hb => by
    rcases keyIs_shape ha with ⟨i, t, rfl, rfl⟩ | ⟨x, t, rfl, rfl⟩
    · rcases keyIs_shape hb with ⟨j, u, rfl, e⟩ | ⟨y, u, rfl, e⟩
      · injection e with e1 _; rw [e1]
      · exact nomatch e
    · rcases keyIs_shape hb with ⟨j, u, rfl, e⟩ | ⟨y, u, rfl, e⟩
      · exact nomatch e
      · injection e with e1 _; rw [e1]
  byValue := fun k v h => by
    rcases keyIs_shape h with ⟨i, t, rfl, rfl⟩ | ⟨x, t, rfl, rfl⟩ <;> rfl
  pyHash := fun hv h => by
    rcases keyIs_shape hv with ⟨i, t, rfl, rfl⟩ | ⟨x, t, rfl, rfl⟩
    · exact wpAny_pyHash_int h
    · exact wpAny_pyHash_str h
  eqBool := fun hu hv h => by
    rcases keyIs_shape hu with ⟨i, t, rfl, rfl⟩ | ⟨x, t, rfl, rfl⟩
    · rcases keyIs_shape hv with ⟨j, u, rfl, rfl⟩ | ⟨y, u, rfl, rfl⟩
      · rw [key_ll] at h; exact wpAny_eqBool_int h
      · rw [key_lr] at h; exact SeqAt.EqAt.int_str i t y u _ _ _ _ h
    · rcases keyIs_shape hv with ⟨j, u, rfl, rfl⟩ | ⟨y, u, rfl, rfl⟩
      · rw [key_rl] at h; exact SeqAt.EqAt.str_int x t j u _ _ _ _ h
      · rw [key_rr] at h; exact wpAny_eqBool_str h
  «strs» := fun k x t v h => by
    rcases keyIs_shape h with ⟨i, u, rfl, e⟩ | ⟨y, u, rfl, e⟩
    · exact nomatch e
    · injection e with e1 _
      subst e1
      cases v <;> rfl

theorem mixKind_int (prog : Program) (w : World) (i : Int) (t : Tok) : (mixKind prog w).is (.inl i) (.int i t) = true := keyIs_int i t
theorem mixKind_str (prog : Program) (w : World) (x : Str) (t : Tok) : (mixKind prog w).is (.inr x) (.str x t) = true := keyIs_str x t
end L2.Internal

namespace L2.Internal
open PySem PySem.Spec PyProof.Rows

set_option genInjectivity true in
inductive V where
  | non | bl (b : Bool) | int (i : Int) | str (x : Str) | byt (b : Array UInt8) | flt (b : UInt64) | ref (a : Addr) | ty (n : String)
  deriving DecidableEq

noncomputable def RelV : V → Value → Prop
  | .non, u => u = Value.none
  | .bl b, u => u = Value.bool b
  | .int i, u => ∃ t, u = Value.int i t
  | .str x, u => ∃ t, u = Value.str x t
  | .byt b, u => ∃ t, u = Value.bytes b t
  | .flt b, u => ∃ t, u = Value.float b t
  | .ref a, u => u = Value.ref a
  | .ty n, u => u = Value.type n

noncomputable abbrev Vals : List V → List Value → Prop := Paired RelV
theorem Vals.length {xs : List V} {us : List Value} (r : Vals xs us) : xs.length = us.length := Paired.length r
theorem Vals.get : ∀ {xs : List V} {us : List Value} {i : Nat} {x : V}, Vals xs us → xs[i]? = some x → ∃ u, us[i]? = some u ∧ RelV x u
  | _, _, _, _, .nil, e => by simp at e
  | _, _, 0, _, .cons r _, e => by simp at e; subst e; exact ⟨_, rfl, r⟩
  | _, _, i + 1, x, .cons _ t, e => by
    obtain ⟨u, h1, h2⟩ := Vals.get (i := i) (x := x) t (by simpa using e)
    exact ⟨u, by simpa using h1, h2⟩
theorem Vals.set {x : V} {u : Value} (r : RelV x u) : ∀ {xs : List V} {us : List Value} (i : Nat), Vals xs us → Vals (xs.set i x) (us.set i u)
  | _, _, _, .nil => .nil
  | _, _, 0, .cons _ t => .cons r t
  | _, _, i + 1, .cons q t => .cons q (Vals.set r i t)
theorem Vals.append : ∀ {xs ys : List V} {us ws : List Value}, Vals xs us → Vals ys ws → Vals (xs ++ ys) (us ++ ws)
  | _, _, _, _, .nil, s => s
  | _, _, _, _, .cons r t, s => .cons r (Vals.append t s)
theorem Vals.take : ∀ {xs : List V} {us : List Value} (n : Nat), Vals xs us → Vals (xs.take n) (us.take n)
  | _, _, 0, _ => .nil
  | _, _, _ + 1, .nil => .nil
  | _, _, n + 1, .cons r t => .cons r (Vals.take n t)
theorem Vals.drop : ∀ {xs : List V} {us : List Value} (n : Nat), Vals xs us → Vals (xs.drop n) (us.drop n)
  | _, _, 0, r => r
  | _, _, _ + 1, .nil => .nil
  | _, _, n + 1, .cons _ t => Vals.drop n t
noncomputable def RelO : Option V → Option Value → Prop
  | some v, some u => RelV v u
  | none, none => True
  | _, _ => False
noncomputable def KV {κ : Type} : List (κ × V) → List (κ × Value) → Prop := Paired fun (p : κ × V) (q : κ × Value) => p.1 = q.1 ∧ RelV p.2 q.2

noncomputable def kV : Key → V
  | .inl i => .int i
  | .inr x => .str x

inductive HO where
  /-- a list -/
  | lst (xs : List V)
  /-- a tuple (never changes) -/
  | tup (xs : List V)
  /-- a dict whose keys are ints and texts; one whose keys are tuples of ints and texts (the empty one is both) -/
  | dK (kvs : List (Key × V)) | dT (kvs : List (List Key × V))
  /-- a set of ints: its members, its size -/
  | set (S : Int → Bool) (n : Nat)
  /-- an instance of the class at C, its dict at dx, its attributes -/
  | ins (C dx : Addr) (fs : List (Str × V))
  /-- the dict of the instance at x -/
  | own (x : Addr)
  /-- the dict of an exception -/
  | xd (fs : List (Str × V))
  /-- a bound method, f of x -/
  | met (f x : Addr)
  /-- a range object lo, lo + 1, .. below hi -/
  | rng (lo hi : Int)
  /-- a thing that is known to the object (the script; a dict while a loop walks it): read, never written while it is so -/
  | frz (o : Obj) (u : HO)
  /-- a code object's table -/
  | tbl (ps : Array Value)
  /-- any other thing, by what is true of its one object (a def of one's own: SetO a S n := HO.ext fun h => ..) -/
  | ext (φ : Heap → Prop)

noncomputable abbrev Hp := Addr → Option HO
noncomputable def Tup0 (h : Heap) (a : Addr) (items : Array Value) : Prop := ∃ o, h.get? a = some o ∧ o.cls = .type "tuple" ∧ ∃ n, o.data = .seq items n ∧ o.dict = none
theorem Tup0.tup {h : Heap} {a : Addr} {items : Array Value} : Tup0 h a items → IsTup h a items
  | ⟨o, h1, h2, n, h3, _⟩ => ⟨o, h1, h2, n, h3⟩
theorem Tup0.lt {h : Heap} {a : Addr} {items : Array Value} (p : Tup0 h a items) : a < h.objs.size := by
  obtain ⟨o, e, _⟩ := p
  exact Heap.lt_size e
theorem Tup0.new (h : Heap) (items : Array Value) : Tup0 (h.push { cls := .type "tuple", data := .seq items }) h.objs.size items := ⟨_, Heap.get?_push_size _ rfl, rfl, _, rfl, rfl⟩
noncomputable def upd (H : Hp) (a : Addr) (o : HO) : Hp := fun b => if b = a then some o else H b
theorem upd_same {H : Hp} {a : Addr} {o : HO} : upd H a o a = some o := by unfold upd; rw [if_pos rfl]
theorem upd_ne {H : Hp} {a b : Addr} {o : HO} (h : b ≠ a) : upd H a o b = H b := by unfold upd; rw [if_neg h]
theorem upd_upd {H : Hp} {a : Addr} {o u : HO} : upd (upd H a o) a u = upd H a u := by
  funext b; unfold upd; split <;> rfl
theorem ne_of {H : Hp} {a b : Addr} {o u : HO} (h : H a = some o) (h' : H b = some u) (d : o ≠ u) : a ≠ b := by
  intro e; subst e; rw [h] at h'; exact d (Option.some.inj h')
theorem ne_of_none {H : Hp} {a b : Addr} {o : HO} (h : H a = some o) (h' : H b = none) : a ≠ b := by
  intro e; subst e; rw [h] at h'; cases h'

section
variable (P : Program) (w : World)
noncomputable def ObjOk (H : Hp) (h : Heap) (a : Addr) : HO → Prop
  | .lst xs => xs.length ≤ sizeLine ∧ ∃ (its : List Value) (n : Nat), Vals xs its ∧ h.get? a = some { cls := .type "list", data := .seq its.toArray n }
  | .tup xs => xs.length ≤ sizeLine ∧ ∃ its : List Value, Vals xs its ∧ Tup0 h a its.toArray
  | .dK kvs => kvs.length ≤ sizeLine ∧ (a == sysModules) = false ∧ ∃ vs, KV kvs vs ∧ h.DictOf (mixKind P w) a vs
  | .dT kvs => kvs.length ≤ sizeLine ∧ (a == sysModules) = false ∧ ∃ xs : List (List Key × Addr × Value),
      Paired (fun (p : List Key × V) (q : List Key × Addr × Value) => p.1 = q.1 ∧ H q.2.1 = some (.tup (p.1.map kV)) ∧ RelV p.2 q.2.2) kvs xs ∧
      ∃ o es ep, h.get? a = some o ∧ o.ExactDict ∧ o.data = .dict es ep ∧ es.toList = xs.map (entryOfKey (tupleKind (mixKind P w))) ∧ (xs.map (·.1)).Nodup
  | .set S n => h.SetOf (intKind P w) a S n
  | .ins C dx fs => H dx = some (.own a) ∧ fs.length ≤ 1000 ∧ dx ≠ a ∧ h.get? a = some (PySem.W.instObj C dx) ∧
      ∃ mA, h.Ns1 dx mA ∧ (∀ f, RelO (fs.lookup f) (mA f)) ∧ PySem.Within mA (fs.map (·.1))
  | .own _ => ∃ o, h.get? a = some o
  | .xd fs => ∃ mA, h.Ns1 a mA ∧ ∀ f, RelO (fs.lookup f) (mA f)
  | .rng lo hi => ∃ t u v, h.get? a = some { cls := .type "range", data := .fields #[.int lo t, .int hi u, .int 1 v] }
  | .frz o u => h.get? a = some o ∧ ObjOk H h a u
  | .tbl ps => h.get? a = some { cls := .none, data := .fields ps }
  | .met f x => h.get? a = some (PySem.W.methodObj (.ref f) (.ref x))
  | .ext φ => φ h ∧ (∃ o, h.get? a = some o) ∧ ∀ h1 h2 : Heap, φ h1 → (∀ o, h1.get? a = some o → h2.get? a = some o) → φ h2
noncomputable def HOk (H : Hp) (h : Heap) : Prop := ∀ a o, H a = some o → ObjOk P w H h a o
end

section
variable {P : Program} {w : World} {H H' : Hp} {h h' : Heap} {a : Addr} {o : HO}
theorem ObjOk.lt (x : ObjOk P w H h a o) : a < h.objs.size := by
  cases o with
  | lst xs => obtain ⟨_, _, _, _, e⟩ := x; exact Heap.lt_size e
  | tup xs => obtain ⟨_, _, _, p⟩ := x; exact p.lt
  | dK kvs => obtain ⟨_, _, _, _, o, _, _, e, _⟩ := x; exact Heap.lt_size e
  | dT kvs => obtain ⟨_, _, _, _, o, _, _, e, _⟩ := x; exact Heap.lt_size e
  | set S n => obtain ⟨o, _, _, _, e, _⟩ := x; exact Heap.lt_size e
  | ins C dx fs => obtain ⟨_, _, _, e, _⟩ := x; exact Heap.lt_size e
  | own y => obtain ⟨_, e⟩ := x; exact Heap.lt_size e
  | xd fs => obtain ⟨_, ⟨_, _, _, e, _⟩, _⟩ := x; exact Heap.lt_size e
  | rng lo hi => obtain ⟨_, _, _, e⟩ := x; exact Heap.lt_size e
  | frz ob u => obtain ⟨e, _⟩ := x; exact Heap.lt_size e
  | tbl ps => exact Heap.lt_size (show h.get? a = some _ from x)
  | met f y => exact Heap.lt_size (show h.get? a = some _ from x)
  | ext φ => obtain ⟨_, ⟨_, e⟩, _⟩ := x; exact Heap.lt_size e
theorem Paired.mapP {α β : Type} {F G : α → β → Prop} : ∀ {l₁ : List α} {l₂ : List β}, Paired F l₁ l₂ → (∀ a b, F a b → G a b) → Paired G l₁ l₂
  | _, _, .nil, _ => .nil
  | _, _, .cons r t, f => .cons (f _ _ r) (Paired.mapP t f)
theorem ObjOk.stay (x : ObjOk P w H h a o) (k : ∀ b u, (b = a ∨ H b = some (.own a)) → h.get? b = some u → h'.get? b = some u)
    (ho : ∀ b, H b = some (.own a) → H' b = some (.own a)) (ht : ∀ b xs, H b = some (.tup xs) → H' b = some (.tup xs)) : ObjOk P w H' h' a o := by
  induction o with
  | lst xs => obtain ⟨z, its, n, r, e⟩ := x; exact ⟨z, its, n, r, k _ _ (.inl rfl) e⟩
  | tup xs => obtain ⟨z, its, r, ob, e, c⟩ := x; exact ⟨z, its, r, ob, k _ _ (.inl rfl) e, c⟩
  | dK kvs => obtain ⟨z, y, vs, r, ob, es, ep, e, c⟩ := x; exact ⟨z, y, vs, r, ob, es, ep, k _ _ (.inl rfl) e, c⟩
  | dT kvs =>
    obtain ⟨z, y, xs, r, ob, es, ep, e, c⟩ := x
    exact ⟨z, y, xs, Paired.mapP r fun p q z => ⟨z.1, ht _ _ z.2.1, z.2.2⟩, ob, es, ep, k _ _ (.inl rfl) e, c⟩
  | set S n => obtain ⟨ob, es, ep, t, e, c⟩ := x; exact ⟨ob, es, ep, t, k _ _ (.inl rfl) e, c⟩
  | ins C dx fs =>
    obtain ⟨d, z, ne, e, mA, ⟨od, es, ep, e2, c⟩, r⟩ := x
    exact ⟨ho _ d, z, ne, k _ _ (.inl rfl) e, mA, ⟨od, es, ep, k _ _ (.inr d) e2, c⟩, r⟩
  | own y => obtain ⟨ob, e⟩ := x; exact ⟨ob, k _ _ (.inl rfl) e⟩
  | xd fs => obtain ⟨mA, ⟨od, es, ep, e, c⟩, r⟩ := x; exact ⟨mA, ⟨od, es, ep, k _ _ (.inl rfl) e, c⟩, r⟩
  | rng lo hi => obtain ⟨t, u, v, e⟩ := x; exact ⟨t, u, v, k _ _ (.inl rfl) e⟩
  | frz ob u ih => obtain ⟨e, q⟩ := x; exact ⟨k _ _ (.inl rfl) e, ih q⟩
  | tbl ps =>
    have e : h.get? a = some { cls := .none, data := .fields ps } := x
    show h'.get? a = some { cls := .none, data := .fields ps }
    exact k a _ (.inl rfl) e
  | met f y =>
    have e : h.get? a = some (PySem.W.methodObj (.ref f) (.ref y)) := x
    show h'.get? a = some (PySem.W.methodObj (.ref f) (.ref y))
    exact k a _ (.inl rfl) e
  | ext φ => obtain ⟨p, ⟨o, e⟩, st⟩ := x; exact ⟨st _ _ p fun o q => k _ _ (.inl rfl) q, ⟨o, k _ _ (.inl rfl) e⟩, st⟩
theorem HOk.lt (x : HOk P w H h) (e : H a = some o) : a < h.objs.size := (x a o e).lt
theorem HOk.fresh (x : HOk P w H h) (e : h.objs.size ≤ a) : H a = none := by
  cases q : H a with
  | none => rfl
  | some u => exact absurd (Nat.lt_of_lt_of_le (x.lt q) e) (Nat.lt_irrefl _)
theorem HOk.kept (x : HOk P w H h) (k : ∀ b u, h.get? b = some u → h'.get? b = some u) : HOk P w H h' := fun a o e =>
  (x a o e).stay (fun b u _ q => k b u q) (fun _ q => q) fun _ _ q => q
theorem HOk.laid (x : HOk P w H h) (k : ∀ b u, h.get? b = some u → h'.get? b = some u) (hp : h.objs.size ≤ a) (new : ObjOk P w (upd H a o) h' a o) : HOk P w (upd H a o) h' := fun b u e => by
  have hn := x.fresh hp
  by_cases hb : b = a
  · subst hb; rw [upd_same] at e; cases e; exact new
  · rw [upd_ne hb] at e
    exact (x b u e).stay (fun c v _ q => k c v q) (fun c q => by rw [upd_ne (ne_of_none q hn)]; exact q) fun c xs q => by rw [upd_ne (ne_of_none q hn)]; exact q
end

noncomputable def Rd (H : Hp) (a : Addr) (u : HO) : Prop := H a = some u ∨ ∃ o, H a = some (.frz o u)
theorem Rd.ok {P : Program} {w : World} {H : Hp} {h : Heap} {a : Addr} {u : HO} (r : Rd H a u) (x : HOk P w H h) : ObjOk P w H h a u := by
  rcases r with r | ⟨o, r⟩
  · exact x a u r
  · obtain ⟨_, q⟩ := x a _ r
    exact q
noncomputable def Mut : Option HO → Prop
  | some (.lst _) => True
  | some (.dK _) => True
  | some (.dT _) => True
  | some (.set _ _) => True
  | some (.ins _ _ _) => True
  | some (.ext _) => True
  | _ => False
section
variable {P : Program} {w : World} {H : Hp} {h h' : Heap} {x e : Addr} {o' : HO}
theorem HOk.write (ok : HOk P w H h) (mu : Mut (H x)) (he : e = x ∨ H e = some (.own x)) (k : ∀ b u, b ≠ e → h.get? b = some u → h'.get? b = some u) (heo : ∃ u, h'.get? e = some u)
    (new : ObjOk P w (upd H x o') h' x o') : HOk P w (upd H x o') h' := fun b u q => by
  have nown : ∀ c y, H c = some (.own y) → c ≠ x := fun c y r z => by subst z; rw [r] at mu; exact mu
  have ntup : ∀ c xs, H c = some (.tup xs) → c ≠ x := fun c xs r z => by subst z; rw [r] at mu; exact mu
  by_cases hb : b = x
  · subst hb; rw [upd_same] at q; cases q; exact new
  · rw [upd_ne hb] at q
    by_cases hbe : b = e
    · have q' : H b = some (.own x) := by
        rcases he with z | z
        · exact absurd (hbe.trans z) hb
        · rw [hbe]; exact z
      rw [q] at q'; cases q'
      obtain ⟨v, hv⟩ := heo
      exact ⟨v, by rw [hbe]; exact hv⟩
    · refine (ok b u q).stay (fun c v hc r => k c v ?_ r) (fun c r => by rw [upd_ne (nown c b r)]; exact r) fun c xs r => by rw [upd_ne (ntup c xs r)]; exact r
      rcases hc with rfl | hc
      · exact hbe
      · rintro rfl
        rcases he with z | z
        · exact nown c b hc z
        · rw [hc] at z; cases z; exact hb rfl
end

structure Un (fs ex : List Addr) (H H' : Hp) (h h' : Heap) : Prop where
  keep : ∀ b o, h.get? b = some o → H b = none → b ∉ fs → b ∉ ex → h'.get? b = some o
  slot : ∀ b o, h.get? b = some o → H b = none → b ∈ fs → b ∉ ex → ∃ sl, h'.get? b = some { o with slots := sl }
  free : ∀ b o, h.get? b = some o → H b = none → b ∉ ex → H' b = none
  there : ∀ b o, h.get? b = some o → b ∉ ex → ∃ o', h'.get? b = some o'
  tups : ∀ b xs, H b = some (.tup xs) → H' b = some (.tup xs)
  frzs : ∀ b o u, H b = some (.frz o u) → H' b = some (.frz o u)
  tbls : ∀ b ps, H b = some (.tbl ps) → ∃ more, H' b = some (.tbl (ps ++ more))
section
variable {fs fs' ex ex' : List Addr} {H H1 H2 : Hp} {h h1 h2 h' : Heap} {a x e : Addr} {o : HO}
theorem Un.any (u : Un fs ex H H1 h h1) {b : Addr} {ob : Obj} (q : h.get? b = some ob) (n : H b = none) (hx : b ∉ ex) : ∃ sl, h1.get? b = some { ob with slots := sl } := by
  by_cases hb : b ∈ fs
  · exact u.slot b ob q n hb hx
  · exact ⟨ob.slots, u.keep b ob q n hb hx⟩
theorem Un.trans (a : Un fs ex H H1 h h1) (b : Un fs ex H1 H2 h1 h2) : Un fs ex H H2 h h2 where
  keep := fun c ob q n hc hx => b.keep c ob (a.keep c ob q n hc hx) (a.free c ob q n hx) hc hx
  slot := fun c ob q n hc hx => by
    obtain ⟨sl, e1⟩ := a.slot c ob q n hc hx
    obtain ⟨sl', e2⟩ := b.slot c _ e1 (a.free c ob q n hx) hc hx
    exact ⟨sl', e2⟩
  free := fun c ob q n hx => by
    obtain ⟨o', e1⟩ := a.there c ob q hx
    exact b.free c o' e1 (a.free c ob q n hx) hx
  there := fun c ob q hx => by
    obtain ⟨o', e1⟩ := a.there c ob q hx
    exact b.there c o' e1 hx
  tups := fun c xs q => b.tups c xs (a.tups c xs q)
  frzs := fun c ob xs q => b.frzs c ob xs (a.frzs c ob xs q)
  tbls := fun c ps q => by
    obtain ⟨m1, e1⟩ := a.tbls c ps q
    obtain ⟨m2, e2⟩ := b.tbls c _ e1
    exact ⟨m1 ++ m2, by rw [e2, Array.append_assoc]⟩
theorem Un.kept (k : ∀ b u, h.get? b = some u → h'.get? b = some u) : Un fs ex H H h h' :=
  ⟨fun b ob q _ _ _ => k b ob q, fun b ob q _ _ _ => ⟨ob.slots, k b ob q⟩, fun _ _ _ n _ => n, fun b ob q _ => ⟨ob, k b ob q⟩, fun _ _ q => q, fun _ _ _ q => q, fun _ ps q => ⟨#[], by rw [q]; simp⟩⟩
theorem Un.refl : Un fs ex H H h h := Un.kept fun _ _ q => q
theorem Un.laid (k : ∀ b u, h.get? b = some u → h'.get? b = some u) (hp : h.objs.size ≤ a) (hn : H a = none) : Un fs ex H (upd H a o) h h' where
  keep := fun b u q _ _ _ => k b u q
  slot := fun b u q _ _ _ => ⟨u.slots, k b u q⟩
  free := fun b u q n _ => by rw [upd_ne (Nat.ne_of_lt (Nat.lt_of_lt_of_le (Heap.lt_size q) hp))]; exact n
  there := fun b u q _ => ⟨u, k b u q⟩
  tups := fun b xs q => by rw [upd_ne (ne_of_none q hn)]; exact q
  frzs := fun b u xs q => by rw [upd_ne (ne_of_none q hn)]; exact q
  tbls := fun b ps q => ⟨#[], by rw [upd_ne (ne_of_none q hn), q]; simp⟩
theorem Un.write (mu : Mut (H x)) (he : e = x ∨ H e = some (.own x)) (k : ∀ b u, b ≠ e → h.get? b = some u → h'.get? b = some u) (heo : ∃ u, h'.get? e = some u) : Un fs ex H (upd H x o) h h' := by
  have hx : ∀ b, H b = none → b ≠ x := fun b n z => by subst z; rw [n] at mu; exact mu
  have hb : ∀ b, H b = none → b ≠ e := fun b n z => by
    subst z
    rcases he with r | r
    · exact hx b n r
    · rw [n] at r; cases r
  have hm : ∀ b u, H b = some u → ¬ Mut (some u) → b ≠ x := fun b u q nm z => by subst z; rw [q] at mu; exact nm mu
  refine ⟨fun b u q n _ _ => k b u (hb b n) q, fun b u q n _ _ => ⟨u.slots, k b u (hb b n) q⟩, fun b u q n _ => by rw [upd_ne (hx b n)]; exact n, fun b u q _ => ?_,
    fun b xs q => by rw [upd_ne (hm b _ q fun z => z)]; exact q, fun b u xs q => by rw [upd_ne (hm b _ q fun z => z)]; exact q, fun b ps q => ⟨#[], by rw [upd_ne (hm b _ q fun z => z), q]; simp⟩⟩
  by_cases hbe : b = e
  · subst hbe; exact heo
  · exact ⟨u, k b u hbe q⟩
end

noncomputable def trk (h : Heap) (H : Hp) : List Addr := (List.range h.objs.size).filter fun a => (H a).isSome
noncomputable def hidT (h : Heap) (H : Hp) : Heap := PySem.W.hideAll h (trk h H)
theorem hidT_size (h : Heap) (H : Hp) : (hidT h H).objs.size = h.objs.size := PySem.W.hideAll_size _ _
theorem hidT_get {h : Heap} {H : Hp} {b : Addr} {o : Obj} (e : h.get? b = some o) (n : H b = none) : (hidT h H).get? b = some o :=
  PySem.W.hideAll_get _ e fun hm => by
    have q : (H b).isSome = true := (List.mem_filter.mp hm).2
    rw [n] at q; simp at q
theorem of_hidT {h : Heap} {H : Hp} {b : Addr} {o : Obj} (e : (hidT h H).get? b = some o) : h.get? b = some o ∧ H b = none := by
  have e' : h.get? b = some o := PySem.W.of_hideAll (trk h H) e
  refine ⟨e', ?_⟩
  cases q : H b with
  | none => rfl
  | some x =>
    have hm : b ∈ trk h H := List.mem_filter.mpr ⟨List.mem_range.mpr (Heap.lt_size e'), by simp [q]⟩
    have z : (hidT h H).get? b = none := PySem.W.hideAll_none (trk h H) hm
    rw [z] at e; cases e

end L2.Internal

namespace L2.Internal
open PySem PySem.Spec PyProof.Rows

structure Mod (K : PySem.W.Frag) (mg : Str → Option Value) (base : Heap) : Prop where
  kin : K.In base
  glob : base.Ns mainGlobals mg
  blt : ∃ mb, base.Ns builtinsNs mb ∧ ∀ x : Str, x ≠ "__name__" → mb x = bootBuiltins x
  nolimit : base.NoLimit

structure Cx where
  prog : Program
  w : World
  K : PySem.W.Frag
  mg : Str → Option Value
  base : Heap
  A : Around
  N : List Str
  s₀ : Shared
  H₀ : Hp
  env : Env
  outer : List Env
  stack : List Env
  ex : List Addr
  fn : Str → Bool
  calm : Bool
  pn : List (Addr × Obj)
  xe : Value → Shared → Prop
noncomputable def frs (l : List Env) : List Addr := l.filterMap (·.frame)
noncomputable abbrev Cx.fs (X : Cx) : List Addr := frs X.outer

noncomputable def Vis (sc : Scope) (x : Str) : Prop := sc.names.lookup x = some .local ∨ sc.names.lookup x = some .cell ∨ sc.names.lookup x = some .free
noncomputable def Loc (sc : Scope) (x : Str) : Prop := sc.names.lookup x = some .local ∨ sc.names.lookup x = some .cell
noncomputable def Look (env : Env) (h : Heap) (m : Str → Option Value) (x : Str) (u : Value) : Prop :=
  (env.kindOf x = some .local ∧ m x = some u) ∨ ((env.kindOf x = some .cell ∨ env.kindOf x = some .free) ∧ ∃ c, env.cells.lookup x = some c ∧ h.IsCell c (some u))

structure Cx.Ok (X : Cx) : Prop where
  mod : Mod X.K X.mg X.base
  kind : X.env.scope.kind = .function
  glob : X.env.globals = mainGlobals
  blt : X.env.builtins = builtinsNs
  above : X.s₀.heap.objs.size ≤ X.env.locals
  inj : ∀ x y c, X.env.cells.lookup x = some c → X.env.cells.lookup y = some c → x = y
  has : ∀ x, (X.env.kindOf x = some .cell ∨ X.env.kindOf x = some .free) → ∃ c, X.env.cells.lookup x = some c
  cab : ∀ x c, X.fn x = true → X.env.cells.lookup x = some c → X.s₀.heap.objs.size ≤ c
  hd : X.calm = true → X.A.handled = none
  frames : X.A.frames = some X.stack
  stk : X.stack = X.outer ∨ (X.stack = X.env :: X.outer ∧ X.env.frame = some X.env.locals)
  exf : ∀ b ∈ X.ex, b ≠ X.env.locals ∧ ∀ x c, X.env.cells.lookup x = some c → c ≠ b
  bs : ∀ b o, X.base.get? b = some o → X.s₀.heap.get? b = some o ∧ X.H₀ b = none
  bsz : X.base.objs.size ≤ X.s₀.heap.objs.size
  noex : ∀ b o, X.base.get? b = some o → b ∉ X.ex
  exfs : ∀ b ∈ X.ex, b ∉ X.fs
  funs : X.s₀.heap.FunFrames X.base X.outer
  frf : ∀ b ∈ X.fs, X.H₀ b = none

structure Inv (X : Cx) (pins : List (Addr × Obj)) (σ : List (Option V)) (H : Hp) (s : Shared) : Prop where
  ok : X.Ok
  os : s.os = X.s₀.os
  bare : AllBare s.gens
  base : Un X.fs X.ex X.H₀ H X.s₀.heap s.heap
  loc : ∃ m, s.heap.Ns X.env.locals m ∧ ∀ (i : Nat) (x : Str) (v : V), X.N[i]? = some x → σ[i]? = some (some v) → Vis X.env.scope x → ∃ u, RelV v u ∧ Look X.env s.heap m x u
  cell : ∀ x c, X.env.cells.lookup x = some c → ∃ v, s.heap.IsCell c v
  free : H X.env.locals = none
  freeC : ∀ x c, X.env.cells.lookup x = some c → H c = none
  pin : ∀ p ∈ X.pn ++ pins, s.heap.get? p.1 = some p.2 ∧ H p.1 = none ∧ p.1 ≠ X.env.locals ∧ p.1 ∉ X.fs ∧ ∀ v, p.2.data ≠ .cell v
  hok : HOk X.prog X.w H s.heap
  len : σ.length = X.N.length

section
variable {X : Cx} {pins : List (Addr × Obj)} {σ : List (Option V)} {H H' : Hp} {s : Shared} {h' : Heap}

theorem Cx.Ok.nofr (ok : X.Ok) {b : Addr} {o : Obj} (e : X.base.get? b = some o) : b ∉ X.fs := fun hb => by
  have := (ok.funs.mem hb).1
  rw [e] at this; cases this
theorem Inv.bs (I : Inv X pins σ H s) : ∀ b o, X.base.get? b = some o → s.heap.get? b = some o ∧ H b = none := fun b o e =>
  ⟨I.base.keep b o (I.ok.bs b o e).1 (I.ok.bs b o e).2 (I.ok.nofr e) (I.ok.noex b o e), I.base.free b o (I.ok.bs b o e).1 (I.ok.bs b o e).2 (I.ok.noex b o e)⟩
theorem Inv.bk (I : Inv X pins σ H s) : ∀ b o, X.base.get? b = some o → s.heap.get? b = some o := fun b o e => (I.bs b o e).1
theorem Inv.mod (I : Inv X pins σ H s) : Mod X.K X.mg X.base := I.ok.mod
theorem Inv.kIn (I : Inv X pins σ H s) : X.K.In s.heap := I.ok.mod.kin.keeps I.bk
theorem Inv.lt (I : Inv X pins σ H s) : X.env.locals < s.heap.objs.size := let ⟨_, hn, _⟩ := I.loc; hn.lt
theorem Inv.sz (I : Inv X pins σ H s) : X.s₀.heap.objs.size ≤ s.heap.objs.size := Nat.le_trans I.ok.above (Nat.le_of_lt I.lt)
theorem Inv.nofs (I : Inv X pins σ H s) {a : Addr} (h : s.heap.objs.size ≤ a) : a ∉ X.fs := fun hb => by
  obtain ⟨_, o, ho, _⟩ := I.ok.funs.mem hb
  exact absurd (Nat.lt_of_lt_of_le (Heap.lt_size ho) (Nat.le_trans I.sz h)) (Nat.lt_irrefl _)
theorem Inv.cne (I : Inv X pins σ H s) : ∀ x c, X.env.cells.lookup x = some c → c ≠ X.env.locals := fun x c e z => by
  obtain ⟨v, o, ho, hd⟩ := I.cell x c e
  obtain ⟨m, ⟨o', es, ep, ho', hd', _⟩, _⟩ := I.loc
  rw [z, ho'] at ho; cases ho; rw [hd'] at hd; cases hd
theorem Inv.funs (I : Inv X pins σ H s) : s.heap.FunFrames X.base X.outer := by
  have all : ∀ (l : List Env), (∀ b ∈ frs l, b ∈ X.fs) → X.s₀.heap.FunFrames X.base l → s.heap.FunFrames X.base l := by
    intro l
    induction l with
    | nil => intro _ _; trivial
    | cons env r ih =>
      intro hs hl
      obtain ⟨hk, ⟨L, o, hf, hn, ho, hd⟩, hr⟩ := hl
      have hL : L ∈ X.fs := hs L (by unfold frs; rw [List.filterMap_cons, hf]; exact List.mem_cons_self)
      obtain ⟨sl, e⟩ := I.base.slot L o ho (I.ok.frf L hL) hL fun z => I.ok.exfs L z hL
      exact ⟨hk, ⟨L, _, hf, hn, e, hd⟩, ih (fun b hb => hs b (by unfold frs; rw [List.filterMap_cons, hf]; exact List.mem_cons_of_mem _ hb)) hr⟩
  exact all X.outer (fun _ hb => hb) I.ok.funs

theorem Inv.stack (I : Inv X pins σ H s) : s.heap.FunFrames X.base X.stack := by
  rcases I.ok.stk with e | ⟨e, hf⟩
  · rw [e]; exact I.funs
  · rw [e]
    obtain ⟨m, hn, _⟩ := I.loc
    refine .cons (by rw [I.ok.kind]; decide) hf hn ?_ I.funs
    exact Heap.get?_none_of_le (Nat.le_trans I.ok.bsz I.ok.above)
theorem Inv.stkSub (I : Inv X pins σ H s) : ∀ b ∈ frs X.stack, b ∈ X.env.locals :: X.fs := fun b hb => by
  rcases I.ok.stk with e | ⟨e, hf⟩
  · rw [e] at hb; exact List.mem_cons_of_mem _ hb
  · rw [e] at hb
    unfold frs at hb
    rw [List.filterMap_cons, hf] at hb
    exact hb
theorem Inv.stkFree (I : Inv X pins σ H s) : ∀ b ∈ frs X.stack, H b = none := fun b hb => by
  rcases List.mem_cons.mp (I.stkSub b hb) with e | hb
  · rw [e]; exact I.free
  · obtain ⟨_, o, ho, _⟩ := I.ok.funs.mem hb
    exact I.base.free b o ho (I.ok.frf b hb) fun z => I.ok.exfs b z hb

theorem Inv.step {g' : Array GenState} {t' : Nat} {d' : Drawn} {ch : List Addr} (I : Inv X pins σ H s)
    (hch : ∀ b ∈ ch, (b ∈ X.ex ∨ X.s₀.heap.objs.size ≤ b) ∧ b ≠ X.env.locals ∧ (∀ x c, X.env.cells.lookup x = some c → c ≠ b) ∧ ∀ p ∈ X.pn ++ pins, p.1 ≠ b)
    (keep : ∀ b o, b ≠ X.env.locals → b ∉ X.fs → b ∉ ch → s.heap.get? b = some o → H b = none → h'.get? b = some o)
    (slot : ∀ b o, b ≠ X.env.locals → b ∈ X.fs → b ∉ ch → s.heap.get? b = some o → H b = none → ∃ sl, h'.get? b = some { o with slots := sl }) (free : ∀ b o, b ∉ ch → s.heap.get? b = some o → H b = none → H' b = none)
    (there : ∀ b o, b ∉ ch → s.heap.get? b = some o → ∃ o', h'.get? b = some o')
    (tups : ∀ b xs, H b = some (.tup xs) → H' b = some (.tup xs)) (frzs : ∀ b o u, H b = some (.frz o u) → H' b = some (.frz o u)) (tbls : ∀ b ps, H b = some (.tbl ps) → ∃ more, H' b = some (.tbl (ps ++ more)))
    (ns : ∀ m, s.heap.Ns X.env.locals m → h'.Ns X.env.locals m) (hok : HOk X.prog X.w H' h') (hg : AllBare g') :
    Inv X pins σ H' { s with heap := h', gens := g', drawn := d', toks := t' } := by
  have neL : ∀ b o, X.s₀.heap.get? b = some o → b ≠ X.env.locals := fun b o e => Nat.ne_of_lt (Nat.lt_of_lt_of_le (Heap.lt_size e) I.ok.above)
  have neC : ∀ b o, X.s₀.heap.get? b = some o → b ∉ X.ex → b ∉ ch := fun b o e hx hb => by
    rcases (hch b hb).1 with z | z
    · exact hx z
    · exact absurd (Nat.lt_of_lt_of_le (Heap.lt_size e) z) (Nat.lt_irrefl _)
  have cellK : ∀ x c, X.env.cells.lookup x = some c → ∀ v, s.heap.IsCell c v → h'.IsCell c v := fun x c e v ⟨o, ho, hd⟩ => by
    have nch : c ∉ ch := fun z => (hch c z).2.2.1 x c e rfl
    by_cases hc : c ∈ X.fs
    · obtain ⟨sl, q⟩ := slot c o (I.cne x c e) hc nch ho (I.freeC x c e)
      exact ⟨_, q, hd⟩
    · exact ⟨o, keep c o (I.cne x c e) hc nch ho (I.freeC x c e), hd⟩
  refine ⟨I.ok, I.os, hg, ⟨fun b o e n hb hx => ?_, fun b o e n hb hx => ?_, fun b o e n hx => ?_, fun b o e hx => ?_, fun b xs e => tups b xs (I.base.tups b xs e), fun b o xs e => frzs b o xs (I.base.frzs b o xs e), fun b ps e => ?_⟩, ?_, fun x c e => ?_, ?_, fun x c e => ?_, fun p hp => ?_, hok, I.len⟩
  · exact keep b o (neL b o e) hb (neC b o e hx) (I.base.keep b o e n hb hx) (I.base.free b o e n hx)
  · obtain ⟨sl, e1⟩ := I.base.slot b o e n hb hx
    obtain ⟨sl', e2⟩ := slot b _ (neL b o e) hb (neC b o e hx) e1 (I.base.free b o e n hx)
    exact ⟨sl', e2⟩
  · obtain ⟨o', e1⟩ := I.base.there b o e hx
    exact free b o' (neC b o e hx) e1 (I.base.free b o e n hx)
  · obtain ⟨o', e1⟩ := I.base.there b o e hx
    exact there b o' (neC b o e hx) e1
  · obtain ⟨m1, e1⟩ := I.base.tbls b ps e
    obtain ⟨m2, e2⟩ := tbls b _ e1
    exact ⟨m1 ++ m2, by rw [e2, Array.append_assoc]⟩
  · obtain ⟨m, hn, hl⟩ := I.loc
    refine ⟨m, ns m hn, fun i x v e1 e2 e3 => ?_⟩
    obtain ⟨u, r, l⟩ := hl i x v e1 e2 e3
    refine ⟨u, r, ?_⟩
    rcases l with l | ⟨k, c, e, z⟩
    · exact .inl l
    · exact .inr ⟨k, c, e, cellK x c e _ z⟩
  · obtain ⟨v, z⟩ := I.cell x c e
    exact ⟨v, cellK x c e v z⟩
  · obtain ⟨m, ⟨o, _, _, ho, _⟩, _⟩ := I.loc
    exact free _ o (fun z => (hch _ z).2.1 rfl) ho I.free
  · obtain ⟨v, o, ho, hd⟩ := I.cell x c e
    exact free c o (fun z => (hch c z).2.2.1 x c e rfl) ho (I.freeC x c e)
  · obtain ⟨e, n, ne, nf, d⟩ := I.pin p hp
    have nch : p.1 ∉ ch := fun z => (hch p.1 z).2.2.2 p hp rfl
    exact ⟨keep p.1 p.2 ne nf nch e n, free p.1 p.2 nch e n, ne, nf, d⟩
theorem Inv.un {t' : Nat} (I : Inv X pins σ H s) (u : Un X.fs [] H H' s.heap h') (hok : HOk X.prog X.w H' h') : Inv X pins σ H' { s with heap := h', toks := t' } := by
  obtain ⟨m, ⟨o, es, ep, ho, r⟩, _⟩ := id I.loc
  obtain ⟨sl, hL⟩ := u.any ho I.free (by simp)
  exact I.step (g' := s.gens) (d' := s.drawn) (ch := []) (fun _ z => nomatch z) (fun b o _ hb _ e n => u.keep b o e n hb (by simp)) (fun b o _ hb _ e n => u.slot b o e n hb (by simp)) (fun b o _ e n => u.free b o e n (by simp)) (fun b o _ e => u.there b o e (by simp)) u.tups u.frzs u.tbls (fun m' hm => by
    obtain ⟨o', es', ep', ho', r'⟩ := hm
    rw [ho] at ho'; cases ho'
    exact ⟨_, es', ep', hL, r'⟩) hok I.bare
theorem Inv.call {g' : Array GenState} {t' : Nat} {d' : Drawn} {ch : List Addr} (I : Inv X pins σ H s) (u : Un (frs X.stack) ch H H' s.heap h') (hok : HOk X.prog X.w H' h') (hg : AllBare g')
    (hch : ∀ b ∈ ch, (b ∈ X.ex ∨ X.s₀.heap.objs.size ≤ b) ∧ b ≠ X.env.locals ∧ (∀ x c, X.env.cells.lookup x = some c → c ≠ b) ∧ ∀ p ∈ X.pn ++ pins, p.1 ≠ b) :
    Inv X pins σ H' { s with heap := h', gens := g', drawn := d', toks := t' } := by
  obtain ⟨m, ⟨o, es, ep, ho, r⟩, _⟩ := id I.loc
  obtain ⟨sl, hL⟩ := u.any ho I.free fun z => (hch _ z).2.1 rfl
  exact I.step (ch := ch) hch (fun b o hL hb hc e n => u.keep b o e n (fun z => (List.mem_cons.mp (I.stkSub b z)).elim hL hb) hc) (fun b o _ _ hc e n => u.any e n hc) (fun b o hc e n => u.free b o e n hc) (fun b o hc e => u.there b o e hc) u.tups u.frzs u.tbls (fun m' hm => by
    obtain ⟨o', es', ep', ho', r'⟩ := hm
    rw [ho] at ho'; cases ho'
    exact ⟨_, es', ep', hL, r'⟩) hok hg
theorem Inv.turned {t' : Nat} {it : Addr} (I : Inv X pins σ H s) (k : ∀ b o, b ≠ it → s.heap.get? b = some o → h'.get? b = some o) (hn : H it = none) (hL : it ≠ X.env.locals)
    (h1 : it ∈ X.ex ∨ X.s₀.heap.objs.size ≤ it) (h2 : ∀ x c, X.env.cells.lookup x = some c → c ≠ it) (h3 : ∀ p ∈ X.pn ++ pins, p.1 ≠ it) : Inv X pins σ H { s with heap := h', toks := t' } := by
  have nit : ∀ b u, H b = some u → b ≠ it := fun b u e z => by rw [z, hn] at e; cases e
  refine I.step (g' := s.gens) (d' := s.drawn) (ch := [it]) (fun b hb => ?_) (fun b o _ _ hc e _ => k b o (fun z => hc (by simp [z])) e) (fun b o _ _ hc e _ => ⟨o.slots, k b o (fun z => hc (by simp [z])) e⟩) (fun _ _ _ _ n => n)
    (fun b o hc e => ⟨o, k b o (fun z => hc (by simp [z])) e⟩) (fun _ _ e => e) (fun _ _ _ e => e) (fun b ps e => ⟨#[], by rw [e]; simp⟩) (fun m hm => ?_) (fun b u e => ?_) I.bare
  · have e : b = it := by simpa using hb
    subst e
    exact ⟨h1, hL, h2, h3⟩
  · obtain ⟨o, es, ep, ho, r⟩ := hm
    exact ⟨o, es, ep, k _ o (Ne.symm hL) ho, r⟩
  · refine (I.hok b u e).stay (fun c v hc q => k c v ?_ q) (fun _ q => q) fun _ _ q => q
    rcases hc with z | z
    · rw [z]; exact nit b u e
    · exact nit c _ z
theorem Inv.tok (I : Inv X pins σ H s) (t : Nat) : Inv X pins σ H { s with toks := t } := I.un (h' := s.heap) (t' := t) Un.refl I.hok
theorem Inv.kept {t' : Nat} (I : Inv X pins σ H s) (k : ∀ b u, s.heap.get? b = some u → h'.get? b = some u) : Inv X pins σ H { s with heap := h', toks := t' } := I.un (Un.kept k) (I.hok.kept k)
theorem Inv.laid {a : Addr} {o : HO} {t' : Nat} (I : Inv X pins σ H s) (k : ∀ b u, s.heap.get? b = some u → h'.get? b = some u) (hp : s.heap.objs.size ≤ a) (new : ObjOk X.prog X.w (upd H a o) h' a o) :
    Inv X pins σ (upd H a o) { s with heap := h', toks := t' } := I.un (Un.laid k hp (I.hok.fresh hp)) (I.hok.laid k hp new)
theorem Inv.write {x e : Addr} {o : HO} {t' : Nat} (I : Inv X pins σ H s) (mu : Mut (H x)) (he : e = x ∨ H e = some (.own x)) (k : ∀ b u, b ≠ e → s.heap.get? b = some u → h'.get? b = some u) (heo : ∃ u, h'.get? e = some u)
    (new : ObjOk X.prog X.w (upd H x o) h' x o) : Inv X pins σ (upd H x o) { s with heap := h', toks := t' } := I.un (Un.write mu he k heo) (I.hok.write mu he k heo new)
theorem Inv.pins_of {pins' : List (Addr × Obj)} (I : Inv X pins σ H s) (h : ∀ p ∈ pins', s.heap.get? p.1 = some p.2 ∧ H p.1 = none ∧ p.1 ≠ X.env.locals ∧ p.1 ∉ X.fs ∧ ∀ v, p.2.data ≠ .cell v) : Inv X pins' σ H s :=
  ⟨I.ok, I.os, I.bare, I.base, I.loc, I.cell, I.free, I.freeC, fun p hp => (List.mem_append.mp hp).elim (fun z => I.pin p (List.mem_append_left _ z)) (h p), I.hok, I.len⟩

theorem nodup_ix {N : List Str} (hN : N.Nodup) {i j : Nat} {x : Str} (a : N[i]? = some x) (b : N[j]? = some x) : i = j := by
  obtain ⟨h1, e1⟩ := List.getElem?_eq_some_iff.mp a
  obtain ⟨h2, e2⟩ := List.getElem?_eq_some_iff.mp b
  exact (List.getElem_inj hN).mp (e1.trans e2.symm)

theorem store_ok2 {M : Model} {A : Around} {E : Value → Shared → Prop} {i : Nat} {x : Str} {v : V} {u : Value} {Q : Unit → Shared → Prop} (I : Inv X pins σ H s) (hN : X.N.Nodup) (hi : X.N[i]? = some x) (hx : Loc X.env.scope x) (r : RelV v u)
    (h : ∀ s', Inv X pins (σ.set i (some v)) H s' → (∃ a, Heap.SameBut a s.heap s'.heap ∧ (a = X.env.locals ∨ X.env.cells.lookup x = some a)) → Q () s') (hf : autoParam (X.fn x = true ∨ X.env.scope.names.lookup x = some .local) L2.Internal.auL._auto_1) : wpAny M A (storeName X.env x u) Q E s := by
  obtain ⟨m, hn, hl⟩ := id I.loc
  have hcls : (X.env.scope.kind == .class || (X.env.scope.kind == .module && X.env.locals != X.env.globals)) = false := by rw [I.ok.kind]; rfl
  have hiσ : i < σ.length := by rw [I.len]; exact (List.getElem?_eq_some_iff.mp hi).1
  have cne := I.cne
  have tracked : ∀ {a : Addr} {h' : Heap}, (∃ o, s.heap.get? a = some o ∧ H a = none) → Heap.SameBut a s.heap h' → HOk X.prog X.w H h' := fun {a h'} ha hs b ob e => by
    obtain ⟨_, _, hfree⟩ := ha
    refine (I.hok b ob e).stay (fun c w' hc q => (hs.2 c ?_).trans q) (fun _ q => q) fun _ _ q => q
    rintro rfl
    rcases hc with rfl | hc
    · rw [hfree] at e; cases e
    · rw [hfree] at hc; cases hc
  rcases hx with hk | hk
  · refine wpAny_storeName_local hk hn (fun h' hn' hs => ?_) hcls
    obtain ⟨oL, _, _, hoL, _⟩ := id hn
    refine h _ ⟨I.ok, I.os, I.bare, ⟨fun b o e n hb hx => ?_, fun b o e n hb hx => ?_, I.base.free, fun b o e hx => ?_, I.base.tups, I.base.frzs, I.base.tbls⟩, ⟨_, hn', fun j y v' e1 e2 e3 => ?_⟩, fun y c e => ?_, I.free, I.freeC, fun p hp => ?_, tracked ⟨oL, hoL, I.free⟩ hs, by simpa using I.len⟩ ⟨_, hs, .inl rfl⟩
    · exact (hs.2 b (Nat.ne_of_lt (Nat.lt_of_lt_of_le (Heap.lt_size e) I.ok.above))).trans (I.base.keep b o e n hb hx)
    · obtain ⟨sl, e1⟩ := I.base.slot b o e n hb hx
      exact ⟨sl, (hs.2 b (Nat.ne_of_lt (Nat.lt_of_lt_of_le (Heap.lt_size e) I.ok.above))).trans e1⟩
    · obtain ⟨o', e1⟩ := I.base.there b o e hx
      exact ⟨o', (hs.2 b (Nat.ne_of_lt (Nat.lt_of_lt_of_le (Heap.lt_size e) I.ok.above))).trans e1⟩
    · by_cases hj : j = i
      · subst hj
        rw [hi] at e1; cases e1
        rw [List.getElem?_set_self hiσ] at e2
        cases e2
        exact ⟨u, r, .inl ⟨hk, by simp⟩⟩
      · rw [List.getElem?_set_ne (Ne.symm hj)] at e2
        obtain ⟨u', r', q⟩ := hl j y v' e1 e2 e3
        refine ⟨u', r', ?_⟩
        rcases q with ⟨k, e⟩ | ⟨k, c, e, z⟩
        · refine .inl ⟨k, ?_⟩
          have : y ≠ x := fun e => hj (nodup_ix hN e1 (e ▸ hi))
          simp [this, e]
        · exact .inr ⟨k, c, e, z.sameBut hs (cne y c e)⟩
    · obtain ⟨w', z⟩ := I.cell y c e
      exact ⟨w', z.sameBut hs (cne y c e)⟩
    · obtain ⟨e, n, ne, nf, d⟩ := I.pin p hp
      exact ⟨(hs.2 p.1 ne).trans e, n, ne, nf, d⟩
  · have hfn : X.fn x = true := by
      rcases hf with z | z
      · exact z
      · rw [z] at hk; cases hk
    obtain ⟨c, hc⟩ := I.ok.has x (.inl hk)
    obtain ⟨w', z⟩ := I.cell x c hc
    refine wpAny_storeName_cell I.ok.kind hk hc z (fun h' hc' hs => ?_)
    obtain ⟨oc, hoc, hocd⟩ := id z
    refine h { s with heap := h' } ⟨I.ok, I.os, I.bare, ⟨fun b o e n hb hx => ?_, fun b o e n hb hx => ?_, I.base.free, fun b o e hx => ?_, I.base.tups, I.base.frzs, I.base.tbls⟩, ⟨m, hn.sameBut hs (Ne.symm (cne x c hc)), fun j y v' e1 e2 e3 => ?_⟩, fun y c' e => ?_, I.free, I.freeC, fun p hp => ?_, tracked ⟨oc, hoc, I.freeC x c hc⟩ hs, by simpa using I.len⟩ ⟨c, hs, .inr hc⟩
    · exact (hs.2 b (Nat.ne_of_lt (Nat.lt_of_lt_of_le (Heap.lt_size e) (I.ok.cab x c hfn hc)))).trans (I.base.keep b o e n hb hx)
    · obtain ⟨sl, e1⟩ := I.base.slot b o e n hb hx
      exact ⟨sl, (hs.2 b (Nat.ne_of_lt (Nat.lt_of_lt_of_le (Heap.lt_size e) (I.ok.cab x c hfn hc)))).trans e1⟩
    · obtain ⟨o', e1⟩ := I.base.there b o e hx
      exact ⟨o', (hs.2 b (Nat.ne_of_lt (Nat.lt_of_lt_of_le (Heap.lt_size e) (I.ok.cab x c hfn hc)))).trans e1⟩
    · by_cases hj : j = i
      · subst hj
        rw [hi] at e1; cases e1
        rw [List.getElem?_set_self hiσ] at e2
        cases e2
        exact ⟨u, r, .inr ⟨.inl hk, c, hc, hc'⟩⟩
      · rw [List.getElem?_set_ne (Ne.symm hj)] at e2
        obtain ⟨u', r', q⟩ := hl j y v' e1 e2 e3
        refine ⟨u', r', ?_⟩
        rcases q with q | ⟨k, c', e, z'⟩
        · exact .inl q
        · refine .inr ⟨k, c', e, z'.sameBut hs ?_⟩
          rintro rfl
          exact hj (nodup_ix hN e1 (I.ok.inj _ _ _ e hc ▸ hi))
    · by_cases hcc : c' = c
      · subst hcc; exact ⟨_, hc'⟩
      · obtain ⟨w2, z2⟩ := I.cell y c' e
        exact ⟨w2, z2.sameBut hs hcc⟩
    · obtain ⟨e, n, ne, nf, d⟩ := I.pin p hp
      refine ⟨(hs.2 p.1 ?_).trans e, n, ne, nf, d⟩
      intro q
      rw [q, hoc] at e
      have q' : oc = p.2 := Option.some.inj e
      exact d w' (by rw [← q']; exact hocd)
theorem store_ok {M : Model} {A : Around} {E : Value → Shared → Prop} {i : Nat} {x : Str} {v : V} {u : Value} {Q : Unit → Shared → Prop} (I : Inv X pins σ H s) (hN : X.N.Nodup) (hi : X.N[i]? = some x) (hx : Loc X.env.scope x) (r : RelV v u)
    (h : ∀ s', Inv X pins (σ.set i (some v)) H s' → Q () s') (hf : autoParam (X.fn x = true ∨ X.env.scope.names.lookup x = some .local) L2.Internal.auL._auto_1) : wpAny M A (storeName X.env x u) Q E s :=
  store_ok2 I hN hi hx r (fun s' I' _ => h s' I') hf
theorem Inv.call' {s' : Shared} {ch : List Addr} (I : Inv X pins σ H s) (ho : s'.os = s.os) (u : Un (frs X.stack) ch H H' s.heap s'.heap) (hok : HOk X.prog X.w H' s'.heap) (hg : AllBare s'.gens)
    (hch : ∀ b ∈ ch, (b ∈ X.ex ∨ X.s₀.heap.objs.size ≤ b) ∧ b ≠ X.env.locals ∧ (∀ x c, X.env.cells.lookup x = some c → c ≠ b) ∧ ∀ p ∈ X.pn ++ pins, p.1 ≠ b) : Inv X pins σ H' s' := by
  obtain ⟨h', g', d', t', o'⟩ := s'
  have e : o' = s.os := ho
  subst e
  exact I.call (g' := g') (t' := t') (d' := d') u hok hg hch
end

noncomputable abbrev XK := Value → Option Addr → Hp → Prop
noncomputable abbrev St := List (Option V)
noncomputable abbrev VK := V → Hp → Prop
noncomputable abbrev TE := St → Hp → VK → Prop
noncomputable abbrev TT := St → Hp → (Bool → Hp → Prop) → Prop
noncomputable abbrev TA := St → Hp → (List V → Hp → Prop) → Prop
structure Ends where
  nx : St → Hp → Prop
  rt : VK
  bk : St → Hp → Prop := fun _ _ => False
  ct : St → Hp → Prop := fun _ _ => False
noncomputable abbrev TS := Ends → St → Hp → Prop

noncomputable def EP (X : Cx) (pins : List (Addr × Obj)) (σ : St) (Q : VK) (u : Value) (s' : Shared) : Prop := ∃ v H', Inv X pins σ H' s' ∧ RelV v u ∧ Q v H'
noncomputable def TP (X : Cx) (pins : List (Addr × Obj)) (σ : St) (Q : Bool → Hp → Prop) (b : Bool) (s' : Shared) : Prop := ∃ H', Inv X pins σ H' s' ∧ Q b H'
noncomputable def AP (X : Cx) (pins : List (Addr × Obj)) (σ : St) (Q : List V → Hp → Prop) (us : List Value) (s' : Shared) : Prop := ∃ vs H', Inv X pins σ H' s' ∧ Vals vs us ∧ Q vs H'
noncomputable def SP (X : Cx) (pins : List (Addr × Obj)) (D : Ends) (f : Flow) (s' : Shared) : Prop :=
  match f with
  | .next => ∃ σ' H', Inv X pins σ' H' s' ∧ D.nx σ' H'
  | .brk => ∃ σ' H', Inv X pins σ' H' s' ∧ D.bk σ' H'
  | .cont => ∃ σ' H', Inv X pins σ' H' s' ∧ D.ct σ' H'
  | .ret u => ∃ v σ' H', Inv X pins σ' H' s' ∧ RelV v u ∧ D.rt v H'

noncomputable def PE (X : Cx) (e : Expr) (t : TE) : Prop :=
  ∀ (pins : List (Addr × Obj)) (s : Shared) (σ : St) (H : Hp) (Q : VK), Inv X pins σ H s → t σ H Q → wpAny (model X.prog X.w) X.A (eval e X.env) (EP X pins σ Q) X.xe s
noncomputable def PT (X : Cx) (e : Expr) (t : TT) : Prop :=
  ∀ (pins : List (Addr × Obj)) (s : Shared) (σ : St) (H : Hp) (Q : Bool → Hp → Prop), Inv X pins σ H s → t σ H Q → wpAny (model X.prog X.w) X.A (isTrue e X.env (eval e X.env)) (TP X pins σ Q) X.xe s
noncomputable def PW (X : Cx) (e : Expr) (t : TT) : Prop :=
  ∀ (whole : Sem Value) (pins : List (Addr × Obj)) (s : Shared) (σ : St) (H : Hp) (Q : Bool → Hp → Prop), Inv X pins σ H s → t σ H Q → wpAny (model X.prog X.w) X.A (isTrue e X.env whole) (TP X pins σ Q) X.xe s
theorem PW.pt {X : Cx} {e : Expr} {t : TT} (h : PW X e t) : PT X e t := h _
noncomputable def PA (X : Cx) (es : List Expr) (t : TA) : Prop :=
  ∀ (pos : Pos) (pins : List (Addr × Obj)) (s : Shared) (σ : St) (H : Hp) (Q : List V → Hp → Prop), Inv X pins σ H s → t σ H Q → wpAny (model X.prog X.w) X.A (spliced (backTo pos (starEach es X.env))) (AP X pins σ Q) X.xe s
noncomputable def PS (X : Cx) (st : Stmt) (t : TS) : Prop :=
  ∀ (pins : List (Addr × Obj)) (s : Shared) (σ : St) (H : Hp) (D : Ends), Inv X pins σ H s → t D σ H → wpAny (model X.prog X.w) X.A (exec st X.env) (SP X pins D) X.xe s
noncomputable def PSs (X : Cx) (st : List Stmt) (t : TS) : Prop :=
  ∀ (pins : List (Addr × Obj)) (s : Shared) (σ : St) (H : Hp) (D : Ends), Inv X pins σ H s → t D σ H → wpAny (model X.prog X.w) X.A (execs st X.env) (SP X pins D) X.xe s
theorem thn {α : Type} {t : Sem α} {Q Q' : α → Shared → Prop} {M : Model} {A : Around} {E : Value → Shared → Prop} {s : Shared} (h : wpAny M A t Q E s) (hQ : ∀ a s, Q a s → Q' a s) : wpAny M A t Q' E s := wpAny_mono h hQ fun _ _ x => x
end L2.Internal

namespace L2.Internal
open PySem PySem.Spec PyProof.Rows
section
variable {X : Cx}

noncomputable def tVar (i : Nat) : TE := fun σ H Q => ∃ v, σ[i]? = some (some v) ∧ Q v H
noncomputable def tC (v : V) : TE := fun _ H Q => Q v H
theorem pe_var {i : Nat} {x : Str} {pos : Pos} (hN : X.N[i]? = some x) (hv : Vis X.env.scope x) (hd : autoParam ((x == ("__debug__" : Str)) = false) L2.Internal.auD._auto_1) (hcd : autoParam ((x == ("__classdict__" : Str)) = false) L2.Internal.auD._auto_1) : PE X (.Name x pos) (tVar i) := by
  intro pins s σ H Q I h
  obtain ⟨v, e, h⟩ := h
  obtain ⟨m, hn, hl⟩ := I.loc
  obtain ⟨u, r, l⟩ := hl i x v hN e hv
  have fin : EP X pins σ Q u s := ⟨v, H, I, r, h⟩
  rcases l with ⟨hk, hm⟩ | ⟨hk, c, hc, hcell⟩
  · exact wpAny_Name (wpAny_loadName_local I.ok.kind hk hn hm fin) hd
  · rcases hk with hk | hk
    · exact wpAny_Name (wpAny_loadName_cell I.ok.kind hk hc hcell fin) hd
    · exact wpAny_Name (wpAny_loadName_free I.ok.kind hk hc hcell fin hcd) hd
theorem pe_int {i j pos} : PE X (.Constant (.int i) j pos) (tC (.int i)) := fun _ _ _ H _ I h => wpAny_Constant_int ⟨.int i, H, I.tok _, ⟨_, rfl⟩, h⟩
theorem pe_bl {b j pos} : PE X (.Constant (.bool b) j pos) (tC (.bl b)) := fun _ _ _ H _ I h => Constant_bool ⟨.bl b, H, I, rfl, h⟩
theorem pe_non {j pos} : PE X (.Constant .none j pos) (tC .non) := fun _ _ _ H _ I h => Constant_none ⟨.non, H, I, rfl, h⟩
theorem pe_str {x j pos} : PE X (.Constant (.str x) j pos) (tC (.str x)) := fun _ _ _ H _ I h => Calls.Constant_str ⟨.str x, H, I.tok _, ⟨_, rfl⟩, h⟩

noncomputable def Gl (X : Cx) (x : Str) : Prop := X.env.kindOf x = some .globalImplicit
theorem ld_glob {E : Value → Shared → Prop} {pins : List (Addr × Obj)} {s : Shared} {σ : St} {H : Hp} {x : Str} {u : Value} {pos : Pos} {Q : Value → Shared → Prop} (I : Inv X pins σ H s) (hg : Gl X x) (hm : X.mg x = some u) (h : Q u s)
    (hd : autoParam ((x == ("__debug__" : Str)) = false) L2.Internal.auD._auto_1) : wpAny (model X.prog X.w) X.A (eval (.Name x pos) X.env) Q E s :=
  Calls.Name_function_global I.ok.kind hg (Calls.loadGlobal_global (by rw [I.ok.glob]; exact I.mod.glob.keeps I.bk) hm h) hd
theorem ld_blt {E : Value → Shared → Prop} {pins : List (Addr × Obj)} {s : Shared} {σ : St} {H : Hp} {x : Str} {u : Value} {pos : Pos} {Q : Value → Shared → Prop} (I : Inv X pins σ H s) (hg : Gl X x) (hm : X.mg x = none) (hv : bootBuiltins x = some u) (h : Q u s)
    (hn : autoParam (x ≠ "__name__") L2.Internal.auD._auto_1) (hd : autoParam ((x == ("__debug__" : Str)) = false) L2.Internal.auD._auto_1) : wpAny (model X.prog X.w) X.A (eval (.Name x pos) X.env) Q E s := by
  obtain ⟨mb, h1, h2⟩ := I.mod.blt
  exact Calls.Name_function_global I.ok.kind hg (Calls.loadGlobal_builtin (by rw [I.ok.glob]; exact I.mod.glob.keeps I.bk) hm (by rw [I.ok.blt]; exact h1.keeps I.bk) ((h2 x hn).trans hv) h) hd
theorem pe_glob {x : Str} {v : V} {u : Value} {pos : Pos} (hg : Gl X x) (hm : X.mg x = some u) (r : RelV v u) (hd : autoParam ((x == ("__debug__" : Str)) = false) L2.Internal.auD._auto_1) : PE X (.Name x pos) (tC v) :=
  fun _ _ _ H _ I h => ld_glob I hg hm ⟨v, H, I, r, h⟩ hd
theorem pe_bltn {x : Str} {v : V} {u : Value} {pos : Pos} (hg : Gl X x) (hm : X.mg x = none) (hv : bootBuiltins x = some u) (r : RelV v u) (hn : autoParam (x ≠ "__name__") L2.Internal.auD._auto_1) (hd : autoParam ((x == ("__debug__" : Str)) = false) L2.Internal.auD._auto_1) : PE X (.Name x pos) (tC v) :=
  fun _ _ _ H _ I h => ld_blt I hg hm hv ⟨v, H, I, r, h⟩ hn hd

variable {a b : Expr} {ta tb : TE} {pos : Pos}
noncomputable def PC (X : Cx) (op : CmpOp) (a b : Expr) (t : TE) : Prop :=
  ∀ (pins : List (Addr × Obj)) (s : Shared) (σ : St) (H : Hp) (Q : VK), Inv X pins σ H s → t σ H Q →
    wpAny (model X.prog X.w) X.A (eval a X.env) (fun v s₁ => wpAny (model X.prog X.w) X.A (eval b X.env) (fun u s₂ => wpAny (model X.prog X.w) X.A (compareOp op v u) (EP X pins σ Q) X.xe s₂) X.xe s₁) X.xe s
theorem nobehind (b : Expr) {op : CmpOp} (h : op ≠ .In) (h2 : op ≠ .NotIn) : behindInMarks op b = false := by
  have e1 : (op == CmpOp.In) = false := by cases op <;> first | rfl | exact absurd rfl h
  have e2 : (op == CmpOp.NotIn) = false := by cases op <;> first | rfl | exact absurd rfl h2
  cases b <;> simp [behindInMarks, e1, e2]
noncomputable def tIsN (ta : TE) : TE := fun σ H Q => ta σ H fun x H1 => Q (.bl (decide (x = .non))) H1
noncomputable def tNotN (ta : TE) : TE := fun σ H Q => ta σ H fun x H1 => Q (.bl (!decide (x = .non))) H1
theorem RelV.none_iff {x : V} {v : Value} (r : RelV x v) : (v == Value.none) = decide (x = .non) := by
  cases x with
  | non => cases r; rfl
  | bl _ => cases r; rfl
  | int _ => obtain ⟨t, rfl⟩ := r; rfl
  | str _ => obtain ⟨t, rfl⟩ := r; rfl
  | byt _ => obtain ⟨t, rfl⟩ := r; rfl
  | flt _ => obtain ⟨t, rfl⟩ := r; rfl
  | ref _ => cases r; rfl
  | ty _ => cases r; rfl
theorem pc_isN {j pos'} (ha : PE X a ta) : PC X .Is a (.Constant .none j pos') (tIsN ta) := by
  intro pins s σ H Q I h
  refine thn (ha pins s σ H _ I h) fun v s1 ⟨x, H1, I1, r1, q1⟩ => ?_
  exact Constant_none (is_none_gen ⟨.bl _, H1, I1, by rw [r1.none_iff]; rfl, q1⟩)
theorem pc_notN {j pos'} (ha : PE X a ta) : PC X .IsNot a (.Constant .none j pos') (tNotN ta) := by
  intro pins s σ H Q I h
  refine thn (ha pins s σ H _ I h) fun v s1 ⟨x, H1, I1, r1, q1⟩ => ?_
  exact Constant_none (isnot_none_gen ⟨.bl _, H1, I1, by rw [r1.none_iff]; rfl, q1⟩)
noncomputable def tB (t : TE) : TT := fun σ H Q => t σ H fun x H1 => ∃ c, x = .bl c ∧ Q c H1
theorem pe_cmp {op : CmpOp} {t : TE} (h : PC X op a b t) (h1 : behindInMarks op b = false := by first | exact nobehind _ (by decide) (by decide) | rfl) : PE X (.Compare a [op] [b] pos) t := fun pins s σ H Q I hw => wpAny_Compare1 (h pins s σ H Q I hw) h1
theorem pt_cmp {op : CmpOp} {t : TE} (h : PC X op a b t) (h1 : behindInMarks op b = false := by first | exact nobehind _ (by decide) (by decide) | rfl) : PT X (.Compare a [op] [b] pos) (tB t) := by
  intro pins s σ H Q I hw
  refine wpAny_isTrue_Compare1 (thn (h pins s σ H _ I hw) fun v s1 h1 => thn h1 fun u s2 h2 => thn h2 fun c s3 ⟨x, H1, I1, r1, q1⟩ => ?_) h1
  obtain ⟨d, rfl, q⟩ := q1
  cases r1
  exact wpAny_truthy_bool ⟨H1, I1, q⟩
theorem pt_val {e : Expr} {t : TE} (h : PE X e t) (he : autoParam (∀ whole, isTrue e X.env whole = (do let v ← whole; standAt e.pos; holding [v] (truthy v))) L2.Internal.auI._auto_1) : PT X e (tB t) := by
  intro pins s σ H Q I hw
  refine isTrue_plain (thn (h pins s σ H _ I hw) fun v s1 ⟨x, H1, I1, r1, q1⟩ => ?_) (he _)
  obtain ⟨d, rfl, q⟩ := q1
  cases r1
  exact wpAny_truthy_bool ⟨H1, I1, q⟩

variable {tA tB' : TT} {rest : List Expr}
noncomputable def tAnd (t u : TT) : TT := fun σ H Q => t σ H fun c H1 => if c = true then u σ H1 Q else Q false H1
noncomputable def tOr (t u : TT) : TT := fun σ H Q => t σ H fun c H1 => if c = true then Q true H1 else u σ H1 Q
noncomputable def tNot (t : TT) : TT := fun σ H Q => t σ H fun c H1 => Q (!c) H1
theorem pw_and1 (ha : PT X a tA) : PW X (.BoolOp .And [a] pos) tA := by
  intro wh pins s σ H Q I h
  refine isTrue_and (thn (ha pins s σ H Q I h) fun c s1 e => ?_)
  cases c with
  | true => exact isTrue_and_nil e
  | false => exact e
theorem pw_or1 (ha : PT X a tA) : PW X (.BoolOp .Or [a] pos) tA := by
  intro wh pins s σ H Q I h
  refine isTrue_or (thn (ha pins s σ H Q I h) fun c s1 e => ?_)
  cases c with
  | false => exact isTrue_or_nil e
  | true => exact e
theorem pw_and (ha : PT X a tA) (hb : PW X (.BoolOp .And (b :: rest) pos) tB') : PW X (.BoolOp .And (a :: b :: rest) pos) (tAnd tA tB') := by
  intro wh pins s σ H Q I h
  refine isTrue_and (thn (ha pins s σ H _ I h) fun c s1 ⟨H1, I1, q1⟩ => ?_)
  cases c with
  | true => exact hb wh pins s1 σ H1 Q I1 q1
  | false => exact ⟨H1, I1, q1⟩
theorem pw_or (ha : PT X a tA) (hb : PW X (.BoolOp .Or (b :: rest) pos) tB') : PW X (.BoolOp .Or (a :: b :: rest) pos) (tOr tA tB') := by
  intro wh pins s σ H Q I h
  refine isTrue_or (thn (ha pins s σ H _ I h) fun c s1 ⟨H1, I1, q1⟩ => ?_)
  cases c with
  | true => exact ⟨H1, I1, q1⟩
  | false => exact hb wh pins s1 σ H1 Q I1 q1
theorem pt_not (ha : PT X a tA) : PT X (.UnaryOp .Not a pos) (tNot tA) := by
  intro pins s σ H Q I h
  exact isTrue_not (ha pins s σ H (fun c H1 => Q (!c) H1) I h)
noncomputable def tAndV (ta tb : TE) : TE := fun σ H Q => ta σ H fun x H1 => ∃ c, x = .bl c ∧ if c = true then tb σ H1 Q else Q (.bl false) H1
noncomputable def tNotV (ta : TE) : TE := fun σ H Q => ta σ H fun x H1 => ∃ c, x = .bl c ∧ Q (.bl (!c)) H1
theorem pe_one {op} {t : TE} (h : PE X a t) : PE X (.BoolOp op [a] pos) t := fun pins s σ H Q I hw => BoolOp_one (h pins s σ H Q I hw)
theorem pe_and (ha : PE X a ta) (hb : PE X (.BoolOp .And (b :: rest) pos) tb) : PE X (.BoolOp .And (a :: b :: rest) pos) (tAndV ta tb) := by
  intro pins s σ H Q I h
  refine BoolOp_and (thn (ha pins s σ H _ I h) fun v s1 ⟨x, H1, I1, r1, q1⟩ => ?_)
  obtain ⟨c, rfl, q1⟩ := q1
  cases r1
  refine wpAny_truthy_bool ?_
  cases c with
  | true => exact hb pins s1 σ H1 Q I1 q1
  | false => exact ⟨.bl false, H1, I1, rfl, q1⟩
theorem pe_not (ha : PE X a ta) : PE X (.UnaryOp .Not a pos) (tNotV ta) := by
  intro pins s σ H Q I h
  refine UnaryOp_ (thn (ha pins s σ H _ I h) fun v s1 ⟨x, H1, I1, r1, q1⟩ => ?_)
  obtain ⟨c, rfl, q1⟩ := q1
  cases r1
  exact not_of (wpAny_truthy_bool ⟨.bl (!c), H1, I1, rfl, q1⟩)
noncomputable def tIf (t : TT) (ta tb : TE) : TE := fun σ H Q => t σ H fun c H1 => if c = true then ta σ H1 Q else tb σ H1 Q
theorem pe_ifExp {c : Expr} (hc : PT X c tA) (ha : PE X a ta) (hb : PE X b tb) : PE X (.IfExp c a b pos) (tIf tA ta tb) := by
  intro pins s σ H Q I h
  refine wpAny_IfExp (thn (hc pins s σ H _ I h) fun d s1 ⟨H1, I1, q1⟩ => ?_)
  cases d with
  | true => exact ha pins s1 σ H1 Q I1 q1
  | false => exact hb pins s1 σ H1 Q I1 q1
end
end L2.Internal

namespace L2.Internal
open PySem PySem.Spec PyProof.Rows

noncomputable def SqL (K : PySem.W.Frag) (H : Hp) (a : Addr) (xs : List V) : Prop :=
  Rd H a (.lst xs) ∨
    ∃ (o : Obj) (its : Array Value) (n : Nat), K.lookup a = some o ∧ o.cls = .type "list" ∧ o.dict = none ∧ o.data = .seq its n ∧ its.size ≤ sizeLine ∧ Vals xs its.toList
noncomputable def SqT (K : PySem.W.Frag) (H : Hp) (a : Addr) (xs : List V) : Prop :=
  Rd H a (.tup xs) ∨
    ∃ (o : Obj) (its : Array Value) (n : Nat), K.lookup a = some o ∧ o.cls = .type "tuple" ∧ o.data = .seq its n ∧ its.size ≤ sizeLine ∧ Vals xs its.toList
noncomputable def absV : Value → Option V
  | .none => some .non
  | .bool b => some (.bl b)
  | .int i _ => some (.int i)
  | .str x _ => some (.str x)
  | .bytes b _ => some (.byt b)
  | .float b _ => some (.flt b)
  | .ref a => some (.ref a)
  | .type n => some (.ty n)
  | _ => none
theorem RelV.abs {x : V} {u : Value} (r : RelV x u) : absV u = some x := by
  cases x with
  | non => cases r; rfl
  | bl _ => cases r; rfl
  | int _ => obtain ⟨t, rfl⟩ := r; rfl
  | str _ => obtain ⟨t, rfl⟩ := r; rfl
  | byt _ => obtain ⟨t, rfl⟩ := r; rfl
  | flt _ => obtain ⟨t, rfl⟩ := r; rfl
  | ref _ => cases r; rfl
  | ty _ => cases r; rfl
theorem RelV.inj {x y : V} {u : Value} (r : RelV x u) (q : RelV y u) : x = y := Option.some.inj (r.abs.symm.trans q.abs)
theorem Vals.inj : ∀ {xs ys : List V} {us : List Value}, Vals xs us → Vals ys us → xs = ys
  | _, _, _, .nil, .nil => rfl
  | _, _, _, .cons r t, .cons r' t' => by rw [r.inj r', Vals.inj t t']
section
variable {X : Cx} {pins : List (Addr × Obj)} {σ : St} {H : Hp} {s : Shared} {a : Addr} {xs ys : List V}
theorem SqL.of {K : PySem.W.Frag} (h : H a = some (.lst xs)) : SqL K H a xs := .inl (.inl h)
theorem SqT.of {K : PySem.W.Frag} (h : H a = some (.tup xs)) : SqT K H a xs := .inl (.inl h)
theorem Inv.list (I : Inv X pins σ H s) (h : SqL X.K H a xs) : ∃ its : List Value, Vals xs its ∧ PlainL s.heap a its.toArray ∧ xs.length ≤ sizeLine := by
  rcases h with h | ⟨o, its, n, hk, hc, hd, hs, hz, r⟩
  · obtain ⟨z, its, n, r, e⟩ := h.ok I.hok
    exact ⟨its, r, ⟨_, n, e, rfl, rfl, rfl⟩, z⟩
  · refine ⟨its.toList, r, ⟨o, n, I.kIn a o hk, hc, hd, by simpa using hs⟩, ?_⟩
    have e := r.length
    simp only [Array.length_toList] at e
    omega
theorem Inv.tuple (I : Inv X pins σ H s) (h : SqT X.K H a xs) : ∃ its : List Value, Vals xs its ∧ IsTup s.heap a its.toArray ∧ xs.length ≤ sizeLine := by
  rcases h with h | ⟨o, its, n, hk, hc, hs, hz, r⟩
  · obtain ⟨z, its, r, p⟩ := h.ok I.hok
    exact ⟨its, r, p.tup, z⟩
  · refine ⟨its.toList, r, ⟨o, I.kIn a o hk, hc, n, by simpa using hs⟩, ?_⟩
    have e := r.length
    simp only [Array.length_toList] at e
    omega
theorem Inv.list_inj (I : Inv X pins σ H s) (h : SqL X.K H a xs) (h' : SqL X.K H a ys) : xs = ys := by
  obtain ⟨its, r, ⟨o, n, e, _, _, d⟩, _⟩ := I.list h
  obtain ⟨its', r', ⟨o', n', e', _, _, d'⟩, _⟩ := I.list h'
  rw [e] at e'; cases e'
  rw [d] at d'
  injection d' with d1 _
  have : its = its' := by simpa using congrArg Array.toList d1
  subst this
  exact r.inj r'
theorem Inv.tuple_inj (I : Inv X pins σ H s) (h : SqT X.K H a xs) (h' : SqT X.K H a ys) : xs = ys := by
  obtain ⟨its, r, ⟨o, e, _, n, d⟩, _⟩ := I.tuple h
  obtain ⟨its', r', ⟨o', e', _, n', d'⟩, _⟩ := I.tuple h'
  rw [e] at e'; cases e'
  rw [d] at d'
  injection d' with d1 _
  have : its = its' := by simpa using congrArg Array.toList d1
  subst this
  exact r.inj r'
end

noncomputable abbrev Cx.wish (X : Cx) (E : Value → Shared → Prop) : Cx := { X with xe := E }
noncomputable abbrev Cx.nox (X : Cx) : Cx := X.wish fun _ _ => False
theorem Cx.Ok.wish {X : Cx} (ok : X.Ok) (E : Value → Shared → Prop) : (X.wish E).Ok :=
  ⟨ok.mod, ok.kind, ok.glob, ok.blt, ok.above, ok.inj, ok.has, ok.cab, ok.hd, ok.frames, ok.stk, ok.exf, ok.bs, ok.bsz, ok.noex, ok.exfs, ok.funs, ok.frf⟩
theorem Cx.Ok.unwish {X : Cx} {E : Value → Shared → Prop} (ok : (X.wish E).Ok) : X.Ok :=
  ⟨ok.mod, ok.kind, ok.glob, ok.blt, ok.above, ok.inj, ok.has, ok.cab, ok.hd, ok.frames, ok.stk, ok.exf, ok.bs, ok.bsz, ok.noex, ok.exfs, ok.funs, ok.frf⟩
section
variable {X : Cx} {pins : List (Addr × Obj)} {σ : St} {H : Hp} {s : Shared} {E : Value → Shared → Prop}
theorem Inv.wish (I : Inv X pins σ H s) (E : Value → Shared → Prop) : Inv (X.wish E) pins σ H s := ⟨I.ok.wish E, I.os, I.bare, I.base, I.loc, I.cell, I.free, I.freeC, I.pin, I.hok, I.len⟩
theorem Inv.unwish (I : Inv (X.wish E) pins σ H s) : Inv X pins σ H s := ⟨I.ok.unwish, I.os, I.bare, I.base, I.loc, I.cell, I.free, I.freeC, I.pin, I.hok, I.len⟩
theorem SP.unwish {D : Ends} {f : Flow} {s' : Shared} (h : SP (X.wish E) pins D f s') : SP X pins D f s' := by
  cases f with
  | next => obtain ⟨σ', H', I, q⟩ := h; exact ⟨σ', H', I.unwish, q⟩
  | brk => obtain ⟨σ', H', I, q⟩ := h; exact ⟨σ', H', I.unwish, q⟩
  | cont => obtain ⟨σ', H', I, q⟩ := h; exact ⟨σ', H', I.unwish, q⟩
  | ret u => obtain ⟨v, σ', H', I, r, q⟩ := h; exact ⟨v, σ', H', I.unwish, r, q⟩
theorem PSs.nox {st : List Stmt} {t : TS} (h : PSs X.nox st t) : PSs X st t := fun pins s σ H D I hw =>
  wpAny_mono (h pins s σ H D (I.wish _) hw) (fun _ _ q => q.unwish) fun _ _ z => False.elim z
end

section
variable {X : Cx} {st : Stmt} {rest : List Stmt} {t u : TS} {e : Expr} {te : TE} {pos : Pos}
noncomputable def tNext : TS := fun D σ H => D.nx σ H
noncomputable def tSeq (t u : TS) : TS := fun D σ H => t { D with nx := u D } σ H
theorem pss_nil : PSs X [] tNext := fun _ _ σ H _ I h => wpAny_execs_nil ⟨σ, H, I, h⟩
theorem pss_cons (h1 : PS X st t) (h2 : PSs X rest u) : PSs X (st :: rest) (tSeq t u) := by
  intro pins s σ H D I h
  refine wpAny_execs_cons (thn (h1 pins s σ H { D with nx := u D } I h) fun f s1 q => ?_)
  cases f with
  | next =>
    obtain ⟨σ', H', I', q⟩ := q
    exact h2 pins s1 σ' H' D I' q
  | ret v => exact q
  | brk => exact q
  | cont => exact q
theorem pss_one (h1 : PS X st t) : PSs X [st] t := by
  intro pins s σ H D I h
  refine wpAny_execs_cons (thn (h1 pins s σ H D I h) fun f s1 q => ?_)
  cases f with
  | next => exact wpAny_execs_nil q
  | ret v => exact q
  | brk => exact q
  | cont => exact q
noncomputable def tBreak : TS := fun D σ H => D.bk σ H
theorem ps_break : PS X (.Break pos) tBreak := fun _ _ σ H _ I h => wpAny_Break ⟨σ, H, I, h⟩
theorem Inv.quiet {pins : List (Addr × Obj)} {σ : St} {H : Hp} {s : Shared} (I : Inv X pins σ H s) : interactive X.env = false := by simp [interactive, I.ok.kind]
noncomputable def tDrop (te : TE) : TS := fun D σ H => te σ H fun _ H1 => D.nx σ H1
theorem ps_expr (he : PE X e te) (hs : autoParam (swapsWith e none pos.line X.env = pure false) L2.Internal.auR._auto_1) : PS X (.Expr e pos) (tDrop te) := by
  intro pins s σ H D I h
  exact wpAny_Expr_any (thn (he pins s σ H _ I h) fun v s1 ⟨x, H1, I1, r1, q1⟩ => ⟨σ, H1, I1, q1⟩) I.quiet hs
noncomputable def tRet (te : TE) : TS := fun D σ H => te σ H D.rt
theorem ps_ret (he : PE X e te) : PS X (.Return (some e) pos) (tRet te) := by
  intro pins s σ H D I h
  exact wpAny_Return_some (thn (he pins s σ H _ I h) fun v s1 ⟨x, H1, I1, r1, q1⟩ => ⟨x, σ, H1, I1, r1, q1⟩)
noncomputable def tIfS (c : TT) (t u : TS) : TS := fun D σ H => c σ H fun b H1 => if b = true then t D σ H1 else u D σ H1
theorem ps_if {c : Expr} {a b : List Stmt} {tc : TT} (hc : PT X c tc) (ha : PSs X a t) (hb : PSs X b u) : PS X (.If c a b pos) (tIfS tc t u) := by
  intro pins s σ H D I h
  refine wpAny_If (thn (hc pins s σ H _ I h) fun d s1 ⟨H1, I1, q1⟩ => ?_)
  cases d with
  | true => exact ha pins s1 σ H1 D I1 q1
  | false => exact hb pins s1 σ H1 D I1 q1
end

noncomputable abbrev TG := V → St → Hp → (St → Hp → Prop) → Prop
noncomputable abbrev TGs := List V → St → Hp → (St → Hp → Prop) → Prop
noncomputable def PG (X : Cx) (target : Expr) (t : TG) : Prop :=
  ∀ (pins : List (Addr × Obj)) (s : Shared) (σ : St) (H : Hp) (v : V) (u : Value) (Q : St → Hp → Prop), Inv X pins σ H s → RelV v u → t v σ H Q →
    wpAny (model X.prog X.w) X.A (assign target X.env u) (fun _ s' => ∃ σ' H', Inv X pins σ' H' s' ∧ Q σ' H') X.xe s
noncomputable def PGs (X : Cx) (ts : List Expr) (t : TGs) : Prop :=
  ∀ (pins : List (Addr × Obj)) (s : Shared) (σ : St) (H : Hp) (vs : List V) (us : List Value) (Q : St → Hp → Prop), Inv X pins σ H s → Vals vs us → t vs σ H Q →
    wpAny (model X.prog X.w) X.A (assignInOrder ((assignEach ts X.env).map (·.2)) us) (fun _ s' => ∃ σ' H', Inv X pins σ' H' s' ∧ Q σ' H') X.xe s
noncomputable abbrev TSet := V → V → V → Hp → (Hp → Prop) → Prop
noncomputable def PSet (X : Cx) (t : TSet) : Prop :=
  ∀ (pins : List (Addr × Obj)) (s : Shared) (σ : St) (H : Hp) (o i v : V) (ov iv u : Value) (Q : Hp → Prop), Inv X pins σ H s → RelV o ov → RelV i iv → RelV v u → t o i v H Q →
    wpAny (model X.prog X.w) X.A (setItem ov iv u) (fun _ s' => ∃ H', Inv X pins σ H' s' ∧ Q H') X.xe s
section
variable {X : Cx} {pos : Pos}
noncomputable def gName (i : Nat) : TG := fun v σ H Q => Q (σ.set i (some v)) H
theorem pg_name {i : Nat} {x : Str} (hN : X.N.Nodup) (hi : X.N[i]? = some x) (hx : Loc X.env.scope x) (hf : autoParam (X.fn x = true ∨ X.env.scope.names.lookup x = some .local) L2.Internal.auL._auto_1) : PG X (.Name x pos) (gName i) := by
  intro pins s σ H v u Q I r h
  exact wpAny_assign_Name (store_ok I hN hi hx r (fun s' I' => ⟨_, H, I', h⟩) hf)
noncomputable def gNil : TGs := fun vs σ H Q => vs = [] ∧ Q σ H
noncomputable def gCons (t : TG) (u : TGs) : TGs := fun vs σ H Q => ∃ v r, vs = v :: r ∧ t v σ H fun σ' H' => u r σ' H' Q
theorem pgs_nil : PGs X [] gNil := by
  intro pins s σ H vs us Q I r h
  obtain ⟨e, h⟩ := h
  subst e
  cases r
  exact assignInOrder_nil ⟨σ, H, I, h⟩
theorem pgs_cons {e : Expr} {es : List Expr} {t : TG} {u : TGs} (h1 : PG X e t) (h2 : PGs X es u)
    (hs : autoParam ((assignEach (e :: es) X.env).map (·.2) = assign e X.env :: (assignEach es X.env).map (·.2)) L2.Internal.auR._auto_1) : PGs X (e :: es) (gCons t u) := by
  intro pins s σ H vs us Q I r h
  obtain ⟨v, vr, e1, h⟩ := h
  subst e1
  cases r with
  | cons r rr =>
    rw [hs]
    refine assignInOrder_cons (thn (h1 pins s σ H _ _ _ I r h) fun _ s1 ⟨σ1, H1, I1, q1⟩ => ?_)
    exact h2 pins s1 σ1 H1 _ _ Q I1 rr q1
noncomputable def gTup (K : PySem.W.Frag) (n : Nat) (t : TGs) : TG := fun v σ H Q => ∃ a xs, v = .ref a ∧ SqT K H a xs ∧ xs.length = n ∧ t xs σ H Q
theorem pg_tup {es : List Expr} {k : Nat} {t : TGs} {n : Nat} (hc : X.calm = true) (h : PGs X es t)
    (hn : autoParam ((assignEach es X.env).length = n) L2.Internal.auR._auto_1) (hst : autoParam ((assignEach es X.env).findIdx? (·.1) = none) L2.Internal.auR._auto_1) : PG X (.Tuple es k pos) (gTup X.K n t) := by
  intro pins s σ H v u Q I r hw
  obtain ⟨a, xs, e1, hq, hl, hw⟩ := hw
  subst e1
  cases r
  obtain ⟨its, rv, ht, hz⟩ := I.tuple hq
  refine assign_Tuple_tuple (I.ok.hd hc) ht (by simp [hn, ← hl, rv.length]) hst fun h' hx => ?_
  have I1 : Inv X pins σ H { s with heap := h' } := I.kept (t' := s.toks) fun b o e => hx b o (Nat.ne_of_lt (Heap.lt_size e)) e
  exact h pins _ σ H xs _ Q I1 (by simpa using rv) hw
noncomputable def gSub (to ti : TE) (t : TSet) : TG := fun v σ H Q => to σ H fun o H1 => ti σ H1 fun i H2 => t o i v H2 fun H3 => Q σ H3
theorem pg_sub {o i : Expr} {to ti : TE} {t : TSet} (ho : PE X o to) (hi : PE X i ti) (hs : PSet X t)
    (ha : ∀ v, assign (.Subscript o i pos) X.env v = (do
      let ov ← holding [v] (eval o X.env)
      let iv ← holding [v, ov] (eval i X.env)
      standAt pos
      holding [v, ov, iv] (setItem ov iv v)
      release [v, ov, iv] []) := by intro _; rfl) : PG X (.Subscript o i pos) (gSub to ti t) := by
  intro pins s σ H v u Q I r h
  rw [ha]
  refine wpAny_bind (wpAny_holding (thn (ho pins s σ H _ I h) fun ov s1 ⟨x, H1, I1, r1, q1⟩ => ?_))
  refine wpAny_bind (wpAny_holding (thn (hi pins s1 σ H1 _ I1 q1) fun iv s2 ⟨y, H2, I2, r2, q2⟩ => ?_))
  refine wpAny_bind (wpAny_standAt (wpAny_bind (wpAny_holding (thn (hs pins s2 σ H2 x y v ov iv u _ I2 r1 r2 r q2) fun _ s3 ⟨H3, I3, q3⟩ => ?_))))
  exact wpAny_release ⟨σ, H3, I3, q3⟩
noncomputable def tAsg (te : TE) (g : TG) : TS := fun D σ H => te σ H fun x H1 => g x σ H1 D.nx
theorem ps_asg {tg e : Expr} {te : TE} {g : TG} (he : PE X e te) (hg : PG X tg g) (hs : autoParam (swapsWithSole [tg] e pos.line X.env = pure false) L2.Internal.auR._auto_1) (hw : autoParam (swappedStores [tg] e X.env = pure none) L2.Internal.auR._auto_1)
    (h1 : autoParam ((assignEach [tg] X.env).map (·.2) = [assign tg X.env]) L2.Internal.auR._auto_1) : PS X (.Assign [tg] e pos) (tAsg te g) := by
  intro pins s σ H D I h
  refine wpAny_Assign_stores (thn (he pins s σ H _ I h) fun v s1 ⟨x, H1, I1, r1, q1⟩ => ?_) hs hw
  rw [h1]
  exact thn (hg pins s1 σ H1 x v _ I1 r1 q1) fun _ s2 q => q
theorem ps_set {i : Nat} {x : Str} {e : Expr} {te : TE} {pos' : Pos} (hN : X.N.Nodup) (hi : X.N[i]? = some x) (hx : Loc X.env.scope x) (he : PE X e te) (hs : autoParam (swapsWith e (some (.Name x pos')) pos.line X.env = pure false) L2.Internal.auR._auto_1) (hf : autoParam (X.fn x = true ∨ X.env.scope.names.lookup x = some .local) L2.Internal.auL._auto_1) :
    PS X (.Assign [.Name x pos'] e pos) (tAsg te (gName i)) := by
  intro pins s σ H D I h
  refine wpAny_Assign_Name (thn (he pins s σ H _ I h) fun v s1 ⟨y, H1, I1, r1, q1⟩ => ?_) hs
  exact store_ok I1 hN hi hx r1 (fun s2 I2 => ⟨_, H1, I2, q1⟩) hf
end

section
variable {X : Cx} {pos : Pos}
noncomputable def tWhile (c : TT) (tb : TS) : TS := fun D σ H => ∃ W : Nat → St → Hp → Prop, (∃ m, W m σ H) ∧ ∀ m σ H, W m σ H →
  c σ H fun b H1 => if b = true then ∃ N : St → Hp → Prop, (∀ σ' H', N σ' H' → ∃ m', m' < m ∧ W m' σ' H') ∧ tb { D with nx := N, ct := N, bk := D.nx } σ H1 else D.nx σ H1
theorem ps_while {c : Expr} {body : List Stmt} {tc : TT} {tb : TS} (hp : PassesOwn (model X.prog X.w) X.A X.env X.xe) (hc : PT X c tc) (hb : PSs X body tb) : PS X (.While c body [] pos) (tWhile tc tb) := by
  intro pins s σ H D I h
  obtain ⟨W, ⟨m0, w0⟩, turn⟩ := h
  refine wpAny_While (codeAny_whileLoop (fun n s' => ∃ σ' H', Inv X pins σ' H' s' ∧ W n σ' H') ?_ m0 ⟨σ, H, I, w0⟩)
  rintro n s1 ⟨σ1, H1, I1, w1⟩
  refine wpAny_passesOwn hp (thn (hc pins s1 σ1 H1 _ I1 (turn n σ1 H1 w1)) fun b s2 ⟨H2, I2, q2⟩ => ?_)
  cases b with
  | true =>
    obtain ⟨N, hN, q2⟩ := q2
    rw [if_pos rfl]
    refine wpAny_passesOwn hp (thn (hb pins s2 σ1 H2 _ I2 q2) fun f s3 q3 => ?_)
    cases f with
    | next =>
      obtain ⟨σ3, H3, I3, n3⟩ := q3
      obtain ⟨m', hm, w3⟩ := hN σ3 H3 n3
      exact ⟨m', hm, σ3, H3, I3, w3⟩
    | cont =>
      obtain ⟨σ3, H3, I3, n3⟩ := q3
      obtain ⟨m', hm, w3⟩ := hN σ3 H3 n3
      exact ⟨m', hm, σ3, H3, I3, w3⟩
    | brk => exact q3
    | ret v => exact q3
  | false =>
    rw [if_neg Bool.false_ne_true]
    exact wpAny_execs_nil ⟨σ1, H2, I2, q2⟩
end

structure It where
  go : Nat → Hp → Prop
  yld : Nat → Hp → V → Hp → Prop
  stop : Nat → Hp → Prop
noncomputable def FpOk (X : Cx) (pins : List (Addr × Obj)) (H : Hp) (b : Addr) : Prop :=
  H b = none ∧ b ≠ X.env.locals ∧ b ∉ X.fs ∧ (b ∈ X.ex ∨ X.s₀.heap.objs.size ≤ b) ∧ (∀ x c, X.env.cells.lookup x = some c → c ≠ b) ∧ ∀ p ∈ X.pn ++ pins, p.1 ≠ b
theorem Inv.fpOk {X : Cx} {pins : List (Addr × Obj)} {σ : St} {H H' : Hp} {s : Shared} {b : Addr} (I : Inv X pins σ H s) (hb : s.heap.objs.size ≤ b) (hn : H' b = none) : FpOk X pins H' b := by
  refine ⟨hn, Nat.ne_of_gt (Nat.lt_of_lt_of_le I.lt hb), I.nofs hb, .inr (Nat.le_trans I.sz hb), fun x c e z => ?_, fun p hp z => ?_⟩
  · obtain ⟨v, q⟩ := I.cell x c e
    exact absurd (Nat.lt_of_lt_of_le q.lt (by rw [z]; exact hb)) (Nat.lt_irrefl _)
  · exact absurd (Nat.lt_of_lt_of_le (Heap.lt_size (I.pin p hp).1) (by rw [z]; exact hb)) (Nat.lt_irrefl _)
structure Turn (P : Program) (w : World) (K : PySem.W.Frag) (tg : Expr) (J : It) (fp : List Addr) (it : Addr) (tn : Nat → Heap → Prop) : Prop where
  mem : it ∈ fp
  obj : ∀ i h, tn i h → ∀ b ∈ fp, ∃ o, h.get? b = some o ∧ ∀ v, o.data ≠ .cell v
  keep : ∀ i h h', tn i h → (∀ b ∈ fp, ∀ o, h.get? b = some o → h'.get? b = some o) → tn i h'
  item : ∀ (X : Cx), X.prog = P → X.w = w → X.K = K → X.calm = true → ∀ (i : Nat) (pins : List (Addr × Obj)) (s : Shared) (σ : St) (H : Hp) (E : Value → Shared → Prop), Inv X pins σ H s → (∀ b ∈ fp, FpOk X pins H b) → tn i s.heap → J.go i H →
    wpAny (model P w) X.A (pyNext (.ref it)) (fun r s1 => ∃ u, r = some u ∧
      wpAny (model P w) X.A (letOwnedTupleGo tg (.ref it) u) (fun _ s2 => ∃ x H', Inv X pins σ H' s2 ∧ RelV x u ∧ J.yld i H x H' ∧ tn (i + 1) s2.heap ∧ ∀ b ∈ fp, H' b = none) E s1) E s
  done : ∀ (X : Cx), X.prog = P → X.w = w → X.K = K → X.calm = true → ∀ (i : Nat) (pins : List (Addr × Obj)) (s : Shared) (σ : St) (H : Hp) (E : Value → Shared → Prop), Inv X pins σ H s → (∀ b ∈ fp, FpOk X pins H b) → tn i s.heap → J.stop i H →
    wpAny (model P w) X.A (pyNext (.ref it)) (fun r s1 => r = none ∧ Inv X pins σ H s1) E s
  self : ∀ (A : Around) (i : Nat) (s : Shared) (Q : Value → Shared → Prop) (E : Value → Shared → Prop), tn i s.heap → Q (.ref it) s → wpAny (model P w) A (pyIter (.ref it)) Q E s
noncomputable abbrev TI := St → Hp → (It → Hp → Prop) → Prop
noncomputable def PIE (X : Cx) (pins : List (Addr × Obj)) (σ : St) (tg : Expr) (R : It → Hp → Prop) (itv : Value) (s2 : Shared) : Prop :=
  ∃ (it : Addr) (fp : List Addr) (tn : Nat → Heap → Prop) (J : It) (H' : Hp), itv = .ref it ∧ Inv X pins σ H' s2 ∧ Turn X.prog X.w X.K tg J fp it tn ∧ tn 0 s2.heap ∧ (∀ b ∈ fp, FpOk X pins H' b) ∧ R J H'
noncomputable def PI (X : Cx) (tg iter : Expr) (wi : TI) : Prop :=
  ∀ (pins : List (Addr × Obj)) (s : Shared) (σ : St) (H : Hp) (R : It → Hp → Prop), Inv X pins σ H s → wi σ H R →
    wpAny (model X.prog X.w) X.A (eval iter X.env) (fun v s1 => wpAny (model X.prog X.w) X.A (pyIter v) (PIE X pins σ tg R) X.xe s1) X.xe s

theorem go_of {M : Model} {A : Around} {E : Value → Shared → Prop} {s : Shared} {tg : Expr} {it : Addr} {u : Value} {o : Obj} {n : String} {vs : Array Value} {Q : Unit → Shared → Prop} (ho : s.heap.get? it = some o) (hc : o.cls = .type n) (hd : o.data = .fields vs)
    (hn : ["enumerate", "zip", "dict_itemiterator", "dict_reverseitemiterator", "odict_iterator", "itertools.zip_longest", "itertools.pairwise"].contains n = false) (hQ : Q () s) : wpAny M A (letOwnedTupleGo tg (.ref it) u) Q E s := by
  unfold letOwnedTupleGo
  cases tg <;> first
    | exact wpAny_pure hQ
    | (cases u <;> first
        | exact wpAny_pure hQ
        | (refine wpAny_bind (wpAny_load ho ?_)
           rw [hc, hd]
           show wpAny M A (if (["enumerate", "zip", "dict_itemiterator", "dict_reverseitemiterator", "odict_iterator", "itertools.zip_longest", "itertools.pairwise"].contains n && vs[0]? == some (rawInt _)) = true then _ else _) Q E s
           rw [if_neg (by intro h; rw [hn, Bool.false_and] at h; cases h)]
           exact wpAny_pure hQ))

noncomputable def Itl (K : PySem.W.Frag) (a : Addr) : It :=
  ⟨fun i H => ∃ xs x, SqL K H a xs ∧ xs[i]? = some x, fun i H x H' => H' = H ∧ ∀ xs, SqL K H a xs → xs[i]? = some x, fun i H => ∃ xs, SqL K H a xs ∧ xs.length ≤ i⟩
noncomputable def Itt (K : PySem.W.Frag) (a : Addr) : It :=
  ⟨fun i H => ∃ xs x, SqT K H a xs ∧ xs[i]? = some x, fun i H x H' => H' = H ∧ ∀ xs, SqT K H a xs → xs[i]? = some x, fun i H => ∃ xs, SqT K H a xs ∧ xs.length ≤ i⟩
noncomputable def Itr (lo : Int) (n : Nat) : It := ⟨fun i _ => i < n, fun i H x H' => H' = H ∧ x = .int (lo + i), fun i _ => n ≤ i⟩
theorem turn_list {P : Program} {w : World} {K : PySem.W.Frag} {tg : Expr} (a it : Addr) : Turn P w K tg (Itl K a) [it] it (fun i h => h.IsListIter it a i) where
  mem := by simp
  obj := fun i h st b hb => by
    have e : b = it := by simpa using hb
    subst e
    obtain ⟨o, e, c, d⟩ := st
    exact ⟨o, e, fun v z => by rw [d] at z; cases z⟩
  keep := fun i h h' st k => st.at fun o e => k it (by simp) o e
  item := by
    intro X hP hw hK hc i pins s σ H E I hf st hg
    subst hP hw hK
    obtain ⟨xs, x, hq, hx⟩ := hg
    obtain ⟨its, rv, p, hz⟩ := I.list hq
    obtain ⟨u, hu, ru⟩ := rv.get hx
    obtain ⟨f0, f1, f2, f3, f4, f5⟩ := hf it (by simp)
    refine wpAny_pyNext_list_item st p.isList (x := u) (by simpa using hu) fun h' st' sb => ?_
    have I1 : Inv X pins σ H { s with heap := h' } := I.turned (t' := s.toks) (fun b o hb e => (sb.2 b hb).trans e) f0 f1 f3 f4 f5
    obtain ⟨o, e, c, d⟩ := id st'
    exact ⟨u, rfl, go_of (s := { s with heap := h' }) e c d (by decide) ⟨x, H, I1, ru, ⟨rfl, fun ys hy => by rw [I.list_inj hy hq]; exact hx⟩, st', fun b hb => (hf b hb).1⟩⟩
  done := by
    intro X hP hw hK hc i pins s σ H E I hf st hg
    subst hP hw hK
    obtain ⟨xs, hq, hx⟩ := hg
    obtain ⟨its, rv, p, hz⟩ := I.list hq
    obtain ⟨f0, f1, f2, f3, f4, f5⟩ := hf it (by simp)
    have hl := rv.length
    exact wpAny_pyNext_list_end (I.ok.hd hc) st p.isList (by simp; omega) fun h' eb => ⟨rfl, I.turned (t' := s.toks) (fun b o hb e => eb b o hb e) f0 f1 f3 f4 f5⟩
  self := fun _ _ _ _ _ st h => wpAny_pyIter_listiter st h
theorem turn_tuple {P : Program} {w : World} {K : PySem.W.Frag} {tg : Expr} (a it : Addr) : Turn P w K tg (Itt K a) [it] it (fun i h => h.IsTupleIter it a i) where
  mem := by simp
  obj := fun i h st b hb => by
    have e : b = it := by simpa using hb
    subst e
    obtain ⟨o, e, c, d⟩ := st
    exact ⟨o, e, fun v z => by rw [d] at z; cases z⟩
  keep := fun i h h' st k => st.at fun o e => k it (by simp) o e
  item := by
    intro X hP hw hK hc i pins s σ H E I hf st hg
    subst hP hw hK
    obtain ⟨xs, x, hq, hx⟩ := hg
    obtain ⟨its, rv, p, hz⟩ := I.tuple hq
    obtain ⟨u, hu, ru⟩ := rv.get hx
    obtain ⟨f0, f1, f2, f3, f4, f5⟩ := hf it (by simp)
    refine wpAny_pyNext_tuple_item st (show s.heap.IsTuple a its.toArray from p) (x := u) (by simpa using hu) fun h' st' sb => ?_
    have I1 : Inv X pins σ H { s with heap := h' } := I.turned (t' := s.toks) (fun b o hb e => (sb.2 b hb).trans e) f0 f1 f3 f4 f5
    obtain ⟨o, e, c, d⟩ := id st'
    exact ⟨u, rfl, go_of (s := { s with heap := h' }) e c d (by decide) ⟨x, H, I1, ru, ⟨rfl, fun ys hy => by rw [I.tuple_inj hy hq]; exact hx⟩, st', fun b hb => (hf b hb).1⟩⟩
  done := by
    intro X hP hw hK hc i pins s σ H E I hf st hg
    subst hP hw hK
    obtain ⟨xs, hq, hx⟩ := hg
    obtain ⟨its, rv, p, hz⟩ := I.tuple hq
    obtain ⟨f0, f1, f2, f3, f4, f5⟩ := hf it (by simp)
    have hl := rv.length
    exact wpAny_pyNext_tuple_end (I.ok.hd hc) st (show s.heap.IsTuple a its.toArray from p) (by simp; omega) fun h' eb => ⟨rfl, I.turned (t' := s.toks) (fun b o hb e => eb b o hb e) f0 f1 f3 f4 f5⟩
  self := fun _ _ _ _ _ st h => wpAny_pyIter_tupleiter st h
theorem turn_range {P : Program} {w : World} {K : PySem.W.Frag} {tg : Expr} (it : Addr) (lo : Int) (n : Nat) : Turn P w K tg (Itr lo n) [it] it (fun i h => IsRangeIter h it (lo + (i : Nat) * 1) ((n : Int) - (i : Nat)) 1) where
  mem := by simp
  obj := fun i h st b hb => by
    have e : b = it := by simpa using hb
    subst e
    exact ⟨_, st, fun v z => by
      have z' : Data.fields _ = Data.cell v := z
      cases z'⟩
  keep := fun i h h' st k => k it (by simp) _ st
  item := by
    intro X hP hw hK hc i pins s σ H E I hf st hg
    subst hP hw hK
    obtain ⟨f0, f1, f2, f3, f4, f5⟩ := hf it (by simp)
    have W := Walks.range (prog := X.prog) (w := X.w) (I.ok.hd hc) it lo 1 n
    refine W.item i s _ _ hg st fun v h' tk hv st' kk => ?_
    obtain ⟨t, rfl⟩ := hv
    have I1 : Inv X pins σ H { s with heap := h', toks := tk } := I.turned (fun b o hb e => kk b o (by simpa using hb) e) f0 f1 f3 f4 f5
    refine ⟨_, rfl, go_of (s := { s with heap := h', toks := tk }) (n := "range_iterator") st' rfl rfl (by decide) ⟨.int (lo + i), H, I1, ⟨t, ?_⟩, ⟨rfl, rfl⟩, st', fun b hb => (hf b hb).1⟩⟩
    rw [Int.mul_one]
  done := by
    intro X hP hw hK hc i pins s σ H E I hf st hg
    subst hP hw hK
    obtain ⟨f0, f1, f2, f3, f4, f5⟩ := hf it (by simp)
    exact wpAny_pyNext_range_end (I.ok.hd hc) st (by have : n ≤ i := hg; omega) fun h' eb => ⟨rfl, I.turned (t' := s.toks) (fun b o hb e => eb b o hb e) f0 f1 f3 f4 f5⟩
  self := fun _ _ _ _ _ st h => wpAny_pyIter_rangeiter st h
end L2.Internal

namespace L2.Internal
open PySem PySem.Spec PyProof.Rows
section
variable {X : Cx} {tg : Expr}
noncomputable def iList (K : PySem.W.Frag) (tl : TE) : TI := fun σ H R => tl σ H fun x H1 => ∃ a, x = .ref a ∧ (∃ xs, SqL K H1 a xs) ∧ R (Itl K a) H1
noncomputable def iTup (K : PySem.W.Frag) (tl : TE) : TI := fun σ H R => tl σ H fun x H1 => ∃ a, x = .ref a ∧ (∃ xs, SqT K H1 a xs) ∧ R (Itt K a) H1
theorem pi_list {l : Expr} {tl : TE} (hl : PE X l tl) : PI X tg l (iList X.K tl) := by
  intro pins s σ H R I h
  refine thn (hl pins s σ H _ I h) fun v s1 ⟨x, H1, I1, r1, q1⟩ => ?_
  obtain ⟨a, e, ⟨xs, hq⟩, q⟩ := q1
  subst e
  cases r1
  obtain ⟨its, rv, p, hz⟩ := I1.list hq
  refine wpAny_pyIter_list p.isList ?_
  refine ⟨s1.heap.objs.size, [s1.heap.objs.size], _, _, H1, rfl, I1.kept (t' := s1.toks) fun b o e => Heap.get?_push_of_some _ e, turn_list a _, ⟨_, Heap.get?_push_size _ rfl, rfl, rfl⟩, fun b hb => ?_, q⟩
  have e : b = s1.heap.objs.size := by simpa using hb
  subst e
  exact I1.fpOk (Nat.le_refl _) (I1.hok.fresh (Nat.le_refl _))
theorem pi_tup {l : Expr} {tl : TE} (hl : PE X l tl) : PI X tg l (iTup X.K tl) := by
  intro pins s σ H R I h
  refine thn (hl pins s σ H _ I h) fun v s1 ⟨x, H1, I1, r1, q1⟩ => ?_
  obtain ⟨a, e, ⟨xs, hq⟩, q⟩ := q1
  subst e
  cases r1
  obtain ⟨its, rv, p, hz⟩ := I1.tuple hq
  refine wpAny_pyIter_tuple (show s1.heap.IsTuple a its.toArray from p) ?_
  refine ⟨s1.heap.objs.size, [s1.heap.objs.size], _, _, H1, rfl, I1.kept (t' := s1.toks) fun b o e => Heap.get?_push_of_some _ e, turn_tuple a _, ⟨_, Heap.get?_push_size _ rfl, rfl, rfl⟩, fun b hb => ?_, q⟩
  have e : b = s1.heap.objs.size := by simpa using hb
  subst e
  exact I1.fpOk (Nat.le_refl _) (I1.hok.fresh (Nat.le_refl _))
theorem range_it {pins : List (Addr × Obj)} {σ : St} {H : Hp} {s : Shared} {R : It → Hp → Prop} {E : Value → Shared → Prop} {lo hi : Int} {t u v : Tok} {tk : Nat} (I : Inv X pins σ H s) (h1 : -(2 ^ 62) ≤ lo) (h2 : lo < 2 ^ 62) (h3 : -(2 ^ 62) ≤ hi) (h4 : hi < 2 ^ 62)
    (q : R (Itr lo (hi - lo).toNat) H) : wpAny (model X.prog X.w) X.A (pyIter (.ref s.heap.objs.size)) (PIE X pins σ tg R) E { s with heap := s.heap.push { cls := .type "range", data := .fields #[.int lo t, .int hi u, .int 1 v] }, toks := tk } := by
  refine wpAny_pyIter_range (IsRange.new ..) (small_one h1 h2 h3 h4) ?_
  have I1 : Inv X pins σ H { s with heap := s.heap.push { cls := .type "range", data := .fields #[.int lo t, .int hi u, .int 1 v] }, toks := tk } := I.kept fun b o e => Heap.get?_push_of_some _ e
  refine ⟨(s.heap.push { cls := .type "range", data := .fields #[.int lo t, .int hi u, .int 1 v] }).objs.size, [(s.heap.push { cls := .type "range", data := .fields #[.int lo t, .int hi u, .int 1 v] }).objs.size], _, _, H, rfl,
    I1.kept (t' := tk) fun b o e => Heap.get?_push_of_some _ e, turn_range _ lo (hi - lo).toNat, ?_, fun b hb => ?_, q⟩
  · have e1 : lo + ((0 : Nat) : Int) * 1 = lo := by simp
    have e2 : (((hi - lo).toNat : Nat) : Int) - ((0 : Nat) : Int) = Builtin.Range.rangeSize lo hi 1 := by rw [rangeSize_one]; split <;> omega
    show IsRangeIter _ _ (lo + ((0 : Nat) : Int) * 1) ((((hi - lo).toNat : Nat) : Int) - ((0 : Nat) : Int)) 1
    rw [e1, e2]
    exact Heap.get?_push_size _ rfl
  · have e : b = (s.heap.push { cls := .type "range", data := .fields #[.int lo t, .int hi u, .int 1 v] }).objs.size := by simpa using hb
    subst e
    exact I1.fpOk (Nat.le_refl _) (I1.hok.fresh (Nat.le_refl _))
noncomputable def iRng1 (ta : TA) : TI := fun σ H R => ta σ H fun vs H1 => ∃ j : Int, vs = [.int j] ∧ -(2 ^ 62) ≤ j ∧ j < 2 ^ 62 ∧ R (Itr 0 j.toNat) H1
theorem pi_range1 {a : Expr} {ta : TA} {p pos : Pos} (hg : Gl X "range") (hm : X.mg "range" = none) (ha : PA X [a] ta) (hs : autoParam (starEach [a] X.env = [(false, eval a X.env)]) L2.Internal.auR._auto_1) : PI X tg (.Call (.Name "range" p) [a] [] pos) (iRng1 ta) := by
  intro pins s σ H R I h
  refine Call_ (ld_blt I hg hm boot_range (PyProof.Rows.callWith_type1 (thn (ha pos pins s σ H _ I h) fun us s1 ⟨vs, H1, I1, r1, q1⟩ => ?_) hs rfl))
  obtain ⟨j, e, q1, q2, q⟩ := q1
  subst e
  cases r1 with
  | cons r rr =>
    cases rr
    obtain ⟨t, rfl⟩ := r
    exact call_range_1 (range_it I1 (by omega) (by omega) q1 q2 (by simpa using q))
noncomputable def tFor (wi : TI) (g : TG) (tb : TS) : TS := fun D σ H => wi σ H fun J H1 => ∃ W : Nat → Nat → St → Hp → Prop, (∃ m, W 0 m σ H1) ∧ ∀ i m σ H, W i m σ H →
  (J.stop i H ∧ D.nx σ H) ∨ (J.go i H ∧ ∃ N : St → Hp → Prop, (∀ σ' H', N σ' H' → ∃ m', m' < m ∧ W (i + 1) m' σ' H') ∧ ∀ x H', J.yld i H x H' → g x σ H' fun σ2 H2 => tb { D with nx := N, ct := N, bk := D.nx } σ2 H2)
noncomputable def pinsAt (fp : List Addr) (h : Heap) : List (Addr × Obj) := fp.filterMap fun b => (h.get? b).map fun o => (b, o)
theorem mem_pinsAt {fp : List Addr} {h : Heap} {b : Addr} {o : Obj} (hb : b ∈ fp) (e : h.get? b = some o) : (b, o) ∈ pinsAt fp h := List.mem_filterMap.mpr ⟨b, hb, by rw [e]; rfl⟩
theorem of_pinsAt {fp : List Addr} {h : Heap} {p : Addr × Obj} (hp : p ∈ pinsAt fp h) : p.1 ∈ fp ∧ h.get? p.1 = some p.2 := by
  obtain ⟨b, hb, e⟩ := List.mem_filterMap.mp hp
  cases q : h.get? b with
  | none => rw [q] at e; cases e
  | some o =>
    rw [q] at e
    have e' : (b, o) = p := Option.some.inj e
    subst e'
    exact ⟨hb, q⟩
theorem Inv.pinned {pins : List (Addr × Obj)} {σ : St} {H : Hp} {s : Shared} {fp : List Addr} (I : Inv X pins σ H s) (hf : ∀ b ∈ fp, FpOk X pins H b) (ho : ∀ b ∈ fp, ∃ o, s.heap.get? b = some o ∧ ∀ v, o.data ≠ .cell v) : Inv X (pins ++ pinsAt fp s.heap) σ H s :=
  I.pins_of fun p hp => (List.mem_append.mp hp).elim (fun z => I.pin p (List.mem_append_right _ z)) fun z => by
    obtain ⟨hb, e⟩ := of_pinsAt z
    obtain ⟨f0, f1, f2, _⟩ := hf p.1 hb
    obtain ⟨o, e', d⟩ := ho p.1 hb
    rw [e] at e'; cases e'
    exact ⟨e, f0, f1, f2, d⟩
theorem Inv.unpinned {pins pl : List (Addr × Obj)} {σ : St} {H : Hp} {s : Shared} (I : Inv X (pins ++ pl) σ H s) : Inv X pins σ H s := I.pins_of fun p hp => I.pin p (List.mem_append_right _ (List.mem_append_left _ hp))
theorem ps_for {iter : Expr} {body : List Stmt} {wi : TI} {g : TG} {tb : TS} {pos : Pos} (hp : PassesOwn (model X.prog X.w) X.A X.env X.xe) (hc : X.calm = true) (hi : PI X tg iter wi) (hg : PG X tg g) (hb : PSs X body tb)
    (hs : autoParam (∀ x, foldedSetIterable iter X.env x = pure x) L2.Internal.auI._auto_1) : PS X (.For tg iter body [] pos) (tFor wi g tb) := by
  intro pins s σ H D I h
  refine wpAny_For (thn (hi pins s σ H _ I h) fun v s1 h1 => thn h1 fun itv s2 h2 => ?_) hs
  obtain ⟨it, fp, tn, J, H2, e, I2, T, st2, f2, W, ⟨m0, w0⟩, turn⟩ := h2
  subst e
  -- what stays true of the iterator's objects through the loop
  have stat : ∀ {H' : Hp}, (∀ b ∈ fp, H' b = none) → ∀ b ∈ fp, FpOk X pins H' b := fun hn b hb => ⟨hn b hb, (f2 b hb).2⟩
  refine codeAny_forLoop_any (fun n s' => ∃ i σ' H', Inv X pins σ' H' s' ∧ tn i s'.heap ∧ (∀ b ∈ fp, H' b = none) ∧ W i n σ' H') ?_ m0 ⟨0, σ, H2, I2, st2, fun b hb => (f2 b hb).1, w0⟩
  rintro n s3 ⟨i, σ3, H3, I3, st3, fr3, w3⟩
  rcases turn i n σ3 H3 w3 with ⟨stop, qn⟩ | ⟨go, N, hN, step⟩
  · refine wpAny_passesOwn hp (thn (T.done X rfl rfl rfl hc i pins s3 σ3 H3 X.xe I3 (stat fr3) st3 stop) fun r s4 ⟨hr, I4⟩ => ?_)
    subst hr
    exact wpAny_execs_nil ⟨σ3, H3, I4, qn⟩
  · refine wpAny_passesOwn hp (thn (T.item X rfl rfl rfl hc i pins s3 σ3 H3 X.xe I3 (stat fr3) st3 go) fun r s4 ⟨u, hr, h4⟩ => ?_)
    subst hr
    refine wpAny_passesOwn hp (thn h4 fun _ s5 ⟨x, H5, I5, r5, y5, st5, fr5⟩ => ?_)
    have I5' := I5.pinned (stat fr5) (T.obj _ _ st5)
    refine wpAny_passesOwn hp (thn (hg _ s5 σ3 H5 x u _ I5' r5 (step x H5 y5)) fun _ s6 ⟨σ6, H6, I6, q6⟩ => ?_)
    refine wpAny_passesOwn hp (thn (hb _ s6 σ6 H6 _ I6 q6) fun f s7 q7 => ?_)
    have again : ∀ {σ7 : St} {H7 : Hp}, Inv X (pins ++ pinsAt fp s5.heap) σ7 H7 s7 → N σ7 H7 → ∃ m, m < n ∧ ∃ i σ' H', Inv X pins σ' H' s7 ∧ tn i s7.heap ∧ (∀ b ∈ fp, H' b = none) ∧ W i m σ' H' := fun {σ7 H7} I7 n7 => by
      obtain ⟨m', hm, w7⟩ := hN σ7 H7 n7
      refine ⟨m', hm, i + 1, σ7, H7, I7.unpinned, T.keep _ _ _ st5 fun b hb o e => (I7.pin (b, o) (List.mem_append_right _ (List.mem_append_right _ (mem_pinsAt hb e)))).1, fun b hb => ?_, w7⟩
      obtain ⟨o, e, d⟩ := T.obj _ _ st5 b hb
      exact (I7.pin (b, o) (List.mem_append_right _ (List.mem_append_right _ (mem_pinsAt hb e)))).2.1
    cases f with
    | next => obtain ⟨σ7, H7, I7, n7⟩ := q7; exact again I7 n7
    | cont => obtain ⟨σ7, H7, I7, n7⟩ := q7; exact again I7 n7
    | brk => obtain ⟨σ7, H7, I7, q7⟩ := q7; exact ⟨σ7, H7, I7.unpinned, q7⟩
    | ret v => obtain ⟨x7, σ7, H7, I7, r7, q7⟩ := q7; exact ⟨x7, σ7, H7, I7.unpinned, r7, q7⟩
end

theorem for_list {K : PySem.W.Frag} {a : Addr} {xs : List V} {g : TG} {tb : TS} {D : Ends} {σ : St} {H : Hp} (Pv : Nat → St → Hp → Prop) (h0 : Pv 0 σ H) (hl : ∀ i σ H, i ≤ xs.length → Pv i σ H → SqL K H a xs)
    (hs : ∀ i x σ H, xs[i]? = some x → Pv i σ H → g x σ H fun σ2 H2 => tb { D with nx := Pv (i + 1), ct := Pv (i + 1), bk := D.nx } σ2 H2) (hd : ∀ σ H, Pv xs.length σ H → D.nx σ H) :
    ∃ W : Nat → Nat → St → Hp → Prop, (∃ m, W 0 m σ H) ∧ ∀ i m σ H, W i m σ H →
      ((Itl K a).stop i H ∧ D.nx σ H) ∨ ((Itl K a).go i H ∧ ∃ N : St → Hp → Prop, (∀ σ' H', N σ' H' → ∃ m', m' < m ∧ W (i + 1) m' σ' H') ∧ ∀ x H', (Itl K a).yld i H x H' → g x σ H' fun σ2 H2 => tb { D with nx := N, ct := N, bk := D.nx } σ2 H2) := by
  refine ⟨fun i m σ H => m = xs.length - i ∧ i ≤ xs.length ∧ Pv i σ H, ⟨xs.length, by simp, Nat.zero_le _, h0⟩, ?_⟩
  rintro i m σ H ⟨rfl, hi, p⟩
  have q := hl i σ H hi p
  by_cases hlt : i < xs.length
  · refine .inr ⟨⟨xs, xs[i], q, by simp [hlt]⟩, Pv (i + 1), fun σ' H' p' => ⟨xs.length - (i + 1), by omega, rfl, hlt, p'⟩, fun x H' y => ?_⟩
    obtain ⟨e, y⟩ := y
    subst e
    exact hs i x σ _ (y xs q) p
  · have e : i = xs.length := by omega
    subst e
    exact .inl ⟨⟨xs, q, Nat.le_refl _⟩, hd σ H p⟩
theorem for_tup {K : PySem.W.Frag} {a : Addr} {xs : List V} {g : TG} {tb : TS} {D : Ends} {σ : St} {H : Hp} (Pv : Nat → St → Hp → Prop) (h0 : Pv 0 σ H) (hl : ∀ i σ H, i ≤ xs.length → Pv i σ H → SqT K H a xs)
    (hs : ∀ i x σ H, xs[i]? = some x → Pv i σ H → g x σ H fun σ2 H2 => tb { D with nx := Pv (i + 1), ct := Pv (i + 1), bk := D.nx } σ2 H2) (hd : ∀ σ H, Pv xs.length σ H → D.nx σ H) :
    ∃ W : Nat → Nat → St → Hp → Prop, (∃ m, W 0 m σ H) ∧ ∀ i m σ H, W i m σ H →
      ((Itt K a).stop i H ∧ D.nx σ H) ∨ ((Itt K a).go i H ∧ ∃ N : St → Hp → Prop, (∀ σ' H', N σ' H' → ∃ m', m' < m ∧ W (i + 1) m' σ' H') ∧ ∀ x H', (Itt K a).yld i H x H' → g x σ H' fun σ2 H2 => tb { D with nx := N, ct := N, bk := D.nx } σ2 H2) := by
  refine ⟨fun i m σ H => m = xs.length - i ∧ i ≤ xs.length ∧ Pv i σ H, ⟨xs.length, by simp, Nat.zero_le _, h0⟩, ?_⟩
  rintro i m σ H ⟨rfl, hi, p⟩
  have q := hl i σ H hi p
  by_cases hlt : i < xs.length
  · refine .inr ⟨⟨xs, xs[i], q, by simp [hlt]⟩, Pv (i + 1), fun σ' H' p' => ⟨xs.length - (i + 1), by omega, rfl, hlt, p'⟩, fun x H' y => ?_⟩
    obtain ⟨e, y⟩ := y
    subst e
    exact hs i x σ _ (y xs q) p
  · have e : i = xs.length := by omega
    subst e
    exact .inl ⟨⟨xs, q, Nat.le_refl _⟩, hd σ H p⟩
theorem for_range {lo : Int} {n : Nat} {g : TG} {tb : TS} {D : Ends} {σ : St} {H : Hp} (Pv : Nat → St → Hp → Prop) (h0 : Pv 0 σ H)
    (hs : ∀ i σ H, i < n → Pv i σ H → g (.int (lo + i)) σ H fun σ2 H2 => tb { D with nx := Pv (i + 1), ct := Pv (i + 1), bk := D.nx } σ2 H2) (hd : ∀ σ H, Pv n σ H → D.nx σ H) :
    ∃ W : Nat → Nat → St → Hp → Prop, (∃ m, W 0 m σ H) ∧ ∀ i m σ H, W i m σ H →
      ((Itr lo n).stop i H ∧ D.nx σ H) ∨ ((Itr lo n).go i H ∧ ∃ N : St → Hp → Prop, (∀ σ' H', N σ' H' → ∃ m', m' < m ∧ W (i + 1) m' σ' H') ∧ ∀ x H', (Itr lo n).yld i H x H' → g x σ H' fun σ2 H2 => tb { D with nx := N, ct := N, bk := D.nx } σ2 H2) := by
  refine ⟨fun i m σ H => m = n - i ∧ i ≤ n ∧ Pv i σ H, ⟨n, by simp, Nat.zero_le _, h0⟩, ?_⟩
  rintro i m σ H ⟨rfl, hi, p⟩
  by_cases hlt : i < n
  · refine .inr ⟨hlt, Pv (i + 1), fun σ' H' p' => ⟨n - (i + 1), by omega, rfl, hlt, p'⟩, fun x H' y => ?_⟩
    obtain ⟨e, y⟩ := y
    subst e y
    exact hs i σ _ hlt p
  · have e : i = n := by omega
    subst e
    exact .inl ⟨Nat.le_refl _, hd σ H p⟩
end L2.Internal

namespace L2.Internal
open PySem PySem.Spec PyProof.Rows

noncomputable abbrev R2 := V → V → Hp → VK → Prop
noncomputable def OpR (X : Cx) (f : Value → Value → Sem Value) (r : R2) : Prop :=
  ∀ (pins : List (Addr × Obj)) (s : Shared) (σ : St) (H : Hp) (x y : V) (v u : Value) (Q : VK), Inv X pins σ H s → RelV x v → RelV y u → r x y H Q →
    wpAny (model X.prog X.w) X.A (f v u) (EP X pins σ Q) X.xe s
noncomputable def UnR (X : Cx) (f : Value → Sem Value) (r : V → Hp → VK → Prop) : Prop :=
  ∀ (pins : List (Addr × Obj)) (s : Shared) (σ : St) (H : Hp) (x : V) (v : Value) (Q : VK), Inv X pins σ H s → RelV x v → r x H Q →
    wpAny (model X.prog X.w) X.A (f v) (EP X pins σ Q) X.xe s
noncomputable def CallR (X : Cx) (f : Value) (r : List V → Hp → VK → Prop) : Prop :=
  ∀ (pins : List (Addr × Obj)) (s : Shared) (σ : St) (H : Hp) (xs : List V) (us : List Value) (Q : VK), Inv X pins σ H s → Vals xs us → r xs H Q →
    wpAny (model X.prog X.w) X.A (call f us) (EP X pins σ Q) X.xe s
noncomputable def tOp (r : R2) (ta tb : TE) : TE := fun σ H Q => ta σ H fun x H1 => tb σ H1 fun y H2 => r x y H2 Q
noncomputable def tUn (r : V → Hp → VK → Prop) (ta : TE) : TE := fun σ H Q => ta σ H fun x H1 => r x H1 Q
noncomputable def rI (C : Int → Int → Prop) (g : Int → Int → V) : R2 := fun x y H Q => ∃ i j, x = .int i ∧ y = .int j ∧ C i j ∧ Q (g i j) H
noncomputable def rI0 (g : Int → Int → V) : R2 := fun x y H Q => ∃ i j, x = .int i ∧ y = .int j ∧ Q (g i j) H
noncomputable def rU (g : Int → V) : V → Hp → VK → Prop := fun x H Q => ∃ i, x = .int i ∧ Q (g i) H

section
variable {X : Cx} {a b c : Expr} {ta tb tc : TE} {pos : Pos}

theorem binT (ha : PE X a ta) (hb : PE X b tb) {pins : List (Addr × Obj)} {s : Shared} {σ : St} {H : Hp} {R : V → V → Hp → Prop} (I : Inv X pins σ H s)
    (h : ta σ H fun x H1 => tb σ H1 fun y H2 => R x y H2) {Q : Value → Shared → Prop} {f : Value → Value → Sem Value}
    (hf : ∀ v u s2 x y H2, Inv X pins σ H2 s2 → RelV x v → RelV y u → R x y H2 → wpAny (model X.prog X.w) X.A (f v u) Q X.xe s2) :
    wpAny (model X.prog X.w) X.A (eval a X.env) (fun v s₁ => wpAny (model X.prog X.w) X.A (eval b X.env) (fun u s₂ => wpAny (model X.prog X.w) X.A (f v u) Q X.xe s₂) X.xe s₁) X.xe s := by
  refine thn (ha pins s σ H _ I h) fun v s1 ⟨x, H1, I1, r1, q1⟩ => ?_
  refine thn (hb pins s1 σ H1 _ I1 q1) fun u s2 ⟨y, H2, I2, r2, q2⟩ => ?_
  exact hf v u s2 x y H2 I2 r1 r2 q2

theorem pe_op {op : Operator} {r : R2} (ho : OpR X (binaryOp op) r) (ha : PE X a ta) (hb : PE X b tb) : PE X (.BinOp a op b pos) (tOp r ta tb) := by
  intro pins s σ H Q I h
  exact wpAny_BinOp (binT ha hb I h fun v u s2 x y H2 I2 rx ry q => ho pins s2 σ H2 x y v u Q I2 rx ry q)
theorem pe_un {op : UnaryOp} {r : V → Hp → VK → Prop} (ho : UnR X (unaryOp op) r) (ha : PE X a ta) : PE X (.UnaryOp op a pos) (tUn r ta) := by
  intro pins s σ H Q I h
  exact UnaryOp_ (thn (ha pins s σ H _ I h) fun v s1 ⟨x, H1, I1, r1, q1⟩ => ho pins s1 σ H1 x v Q I1 r1 q1)
theorem opI {f : Value → Value → Sem Value} {C : Int → Int → Prop} {g : Int → Int → Int}
    (rule : ∀ (i j : Int) (t u : Tok) (s : Shared) (Q : Value → Shared → Prop) (E : Value → Shared → Prop), C i j → Q (.int (g i j) s.toks) { s with toks := s.toks + 1 } → wpAny (model X.prog X.w) X.A (f (.int i t) (.int j u)) Q E s) :
    OpR X f (rI C fun i j => .int (g i j)) := by
  intro pins s σ H x y v u Q I rx ry h
  obtain ⟨i, j, rfl, rfl, hc, q⟩ := h
  obtain ⟨t, rfl⟩ := rx
  obtain ⟨t', rfl⟩ := ry
  exact rule i j t t' s _ _ hc ⟨.int (g i j), H, I.tok _, ⟨_, rfl⟩, q⟩
theorem opI0 {f : Value → Value → Sem Value} {g : Int → Int → Int}
    (rule : ∀ (i j : Int) (t u : Tok) (s : Shared) (Q : Value → Shared → Prop) (E : Value → Shared → Prop), Q (.int (g i j) s.toks) { s with toks := s.toks + 1 } → wpAny (model X.prog X.w) X.A (f (.int i t) (.int j u)) Q E s) :
    OpR X f (rI0 fun i j => .int (g i j)) := by
  intro pins s σ H x y v u Q I rx ry h
  obtain ⟨i, j, rfl, rfl, q⟩ := h
  obtain ⟨t, rfl⟩ := rx
  obtain ⟨t', rfl⟩ := ry
  exact rule i j t t' s _ _ ⟨.int (g i j), H, I.tok _, ⟨_, rfl⟩, q⟩
theorem opB0 {f : Value → Value → Sem Value} {g : Int → Int → Bool}
    (rule : ∀ (i j : Int) (t u : Tok) (s : Shared) (Q : Value → Shared → Prop) (E : Value → Shared → Prop), Q (.bool (g i j)) s → wpAny (model X.prog X.w) X.A (f (.int i t) (.int j u)) Q E s) :
    OpR X f (rI0 fun i j => .bl (g i j)) := by
  intro pins s σ H x y v u Q I rx ry h
  obtain ⟨i, j, rfl, rfl, q⟩ := h
  obtain ⟨t, rfl⟩ := rx
  obtain ⟨t', rfl⟩ := ry
  exact rule i j t t' s _ _ ⟨.bl (g i j), H, I, rfl, q⟩

noncomputable def CDiv (i j : Int) : Prop := 0 < j ∧ j < 1073741824
noncomputable def CPow (i j : Int) : Prop := 0 ≤ j ∧ j ≤ 1000000 ∧ i.natAbs < 2 ^ 64
noncomputable def CMul (i j : Int) : Prop := (-(2 ^ 64) < i ∧ i < 2 ^ 64) ∨ (-(2 ^ 64) < j ∧ j < 2 ^ 64)
theorem CMul.ok {i j : Int} (h : CMul i j) : IntMulOk i j := by
  rcases h with ⟨h1, h2⟩ | ⟨h1, h2⟩
  · exact .of_left (intBits_le_64 h1 h2)
  · exact .of_right (intBits_le_64 h1 h2)
theorem op_add : OpR X (binaryOp .Add) (rI0 fun i j => .int (i + j)) := opI0 fun _ _ _ _ _ _ _ q => add_int q
theorem op_sub : OpR X (binaryOp .Sub) (rI0 fun i j => .int (i - j)) := opI0 fun _ _ _ _ _ _ _ q => sub_int q
theorem op_mul : OpR X (binaryOp .Mult) (rI CMul fun i j => .int (i * j)) := opI fun _ _ _ _ _ _ _ hc q => mul_int q hc.ok
theorem op_fdiv : OpR X (binaryOp .FloorDiv) (rI CDiv fun i j => .int (i / j)) := opI fun i j _ _ _ _ _ hc q => by
  have h1 : (0 : Int) < j := hc.1
  have h2 : j < 1073741824 := hc.2
  exact floordiv_int (by omega) (by rw [Int.fdiv_eq_ediv_of_nonneg i (by omega)]; exact q) (.inl (PyProof.noPylong_small (by omega)))
theorem op_mod : OpR X (binaryOp .Mod) (rI (fun _ j => 0 < j) fun i j => .int (i % j)) := opI fun i j _ _ _ _ _ hc q => by
  have h1 : (0 : Int) < j := hc
  exact mod_int' (by omega) (by rw [Int.fmod_eq_emod_of_nonneg i (by omega)]; exact q)
theorem op_pow : OpR X (binaryOp .Pow) (rI CPow fun i j => .int (i ^ j.toNat)) := opI fun _ _ _ _ _ _ _ hc q => pow_int_small hc.1 hc.2.1 hc.2.2 q
theorem unI {f : Value → Sem Value} {g : Int → Int}
    (rule : ∀ (i : Int) (t : Tok) (s : Shared) (Q : Value → Shared → Prop) (E : Value → Shared → Prop), Q (.int (g i) s.toks) { s with toks := s.toks + 1 } → wpAny (model X.prog X.w) X.A (f (.int i t)) Q E s) :
    UnR X f (rU fun i => .int (g i)) := by
  intro pins s σ H x v Q I rx h
  obtain ⟨i, rfl, q⟩ := h
  obtain ⟨t, rfl⟩ := rx
  exact rule i t s _ _ ⟨.int (g i), H, I.tok _, ⟨_, rfl⟩, q⟩
theorem un_neg : UnR X (unaryOp .USub) (rU fun i => .int (-i)) := unI fun _ _ _ _ _ q => neg_int q
end

noncomputable def scal : V → V → Bool
  | .non, .non => true | .non, .int _ => true | .int _, .non => true | .non, .bl _ => true | .bl _, .non => true | .non, .str _ => true | .str _, .non => true
  | .int _, .int _ => true | .bl _, .bl _ => true | .str _, .str _ => true | .byt _, .byt _ => true
  | .int _, .str _ => true | .str _, .int _ => true | .bl _, .str _ => true | .str _, .bl _ => true
  | _, _ => false
noncomputable def rEq : R2 := fun x y H Q => scal x y = true ∧ Q (.bl (decide (x = y))) H
noncomputable def rNe : R2 := fun x y H Q => scal x y = true ∧ Q (.bl (!decide (x = y))) H

theorem dec_int {i j : Int} : decide (V.int i = V.int j) = (i == j) := by
  rw [Bool.eq_iff_iff]
  simp
theorem dec_bl {i j : Bool} : decide (V.bl i = V.bl j) = (i == j) := by
  rw [Bool.eq_iff_iff]
  simp
theorem dec_str {i j : Str} : decide (V.str i = V.str j) = (i == j) := by
  rw [Bool.eq_iff_iff]
  simp
theorem dec_byt {i j : Array UInt8} : decide (V.byt i = V.byt j) = (i.toList == j.toList) := by
  rw [Bool.eq_iff_iff]
  cases i
  cases j
  simp

section
variable {X : Cx} {a b c : Expr} {ta tb tc : TE} {pos : Pos}
theorem fin_bl {pins : List (Addr × Obj)} {σ : St} {H : Hp} {s : Shared} {Q : VK} {k k' : Bool} (I : Inv X pins σ H s) (q : Q (.bl k) H) (e : k = k') : EP X pins σ Q (.bool k') s := by
  subst e
  exact ⟨.bl k, H, I, rfl, q⟩
theorem op_eq : OpR X (compareOp .Eq) rEq := by
  intro pins s σ H x y v u Q I rx ry h
  obtain ⟨hs, q⟩ := h
  cases x with
  | non =>
    cases rx
    cases y with
    | non => cases ry; exact PySem.EqNone.eq_none_none (fin_bl I q (by simp))
    | bl j => cases ry; exact PySem.EqNone.eq_none_bool (fin_bl I q (by simp))
    | int j => obtain ⟨t', rfl⟩ := ry; exact PySem.EqNone.eq_none_int (fin_bl I q (by simp))
    | str j => obtain ⟨t', rfl⟩ := ry; exact PySem.EqNone.eq_none_str (fin_bl I q (by simp))
    | _ => exact absurd (show false = true from hs) Bool.false_ne_true
  | bl i =>
    cases rx
    cases y with
    | non => cases ry; exact PySem.EqNone.eq_bool_none (fin_bl I q (by simp))
    | bl j => cases ry; exact eq_bool (fin_bl I q dec_bl)
    | str j => obtain ⟨t', rfl⟩ := ry; exact PySem.EqMixed.eq_bool_str (fin_bl I q (by simp))
    | _ => exact absurd (show false = true from hs) Bool.false_ne_true
  | int i =>
    obtain ⟨t, rfl⟩ := rx
    cases y with
    | non => cases ry; exact PySem.EqNone.eq_int_none (fin_bl I q (by simp))
    | int j => obtain ⟨t', rfl⟩ := ry; exact eq_int (fin_bl I q dec_int)
    | str j => obtain ⟨t', rfl⟩ := ry; exact PySem.EqMixed.eq_int_str (fin_bl I q (by simp))
    | _ => exact absurd (show false = true from hs) Bool.false_ne_true
  | str i =>
    obtain ⟨t, rfl⟩ := rx
    cases y with
    | non => cases ry; exact PySem.EqNone.eq_str_none (fin_bl I q (by simp))
    | bl j => cases ry; exact PySem.EqMixed.eq_str_bool (fin_bl I q (by simp))
    | int j => obtain ⟨t', rfl⟩ := ry; exact PySem.EqMixed.eq_str_int (fin_bl I q (by simp))
    | str j => obtain ⟨t', rfl⟩ := ry; exact eq_str (fin_bl I q dec_str)
    | _ => exact absurd (show false = true from hs) Bool.false_ne_true
  | byt i =>
    obtain ⟨t, rfl⟩ := rx
    cases y with
    | byt j => obtain ⟨t', rfl⟩ := ry; exact PySem.W.eq_bytes (fin_bl I q dec_byt)
    | _ => exact absurd (show false = true from hs) Bool.false_ne_true
  | _ => cases y <;> exact absurd (show false = true from hs) Bool.false_ne_true
theorem op_ne : OpR X (compareOp .NotEq) rNe := by
  intro pins s σ H x y v u Q I rx ry h
  obtain ⟨hs, q⟩ := h
  cases x with
  | non =>
    cases rx
    cases y with
    | non => cases ry; exact PySem.EqNone.ne_none_none (fin_bl I q (by simp))
    | bl j => cases ry; exact PySem.EqNone.ne_none_bool (fin_bl I q (by simp))
    | int j => obtain ⟨t', rfl⟩ := ry; exact PySem.EqNone.ne_none_int (fin_bl I q (by simp))
    | str j => obtain ⟨t', rfl⟩ := ry; exact PySem.EqNone.ne_none_str (fin_bl I q (by simp))
    | _ => exact absurd (show false = true from hs) Bool.false_ne_true
  | bl i =>
    cases rx
    cases y with
    | non => cases ry; exact PySem.EqNone.ne_bool_none (fin_bl I q (by simp))
    | bl j => cases ry; exact ne_bool (fin_bl I q (congrArg not dec_bl))
    | str j => obtain ⟨t', rfl⟩ := ry; exact PySem.EqMixed.ne_bool_str (fin_bl I q (by simp))
    | _ => exact absurd (show false = true from hs) Bool.false_ne_true
  | int i =>
    obtain ⟨t, rfl⟩ := rx
    cases y with
    | non => cases ry; exact PySem.EqNone.ne_int_none (fin_bl I q (by simp))
    | int j => obtain ⟨t', rfl⟩ := ry; exact ne_int (fin_bl I q (congrArg not dec_int))
    | str j => obtain ⟨t', rfl⟩ := ry; exact PySem.EqMixed.ne_int_str (fin_bl I q (by simp))
    | _ => exact absurd (show false = true from hs) Bool.false_ne_true
  | str i =>
    obtain ⟨t, rfl⟩ := rx
    cases y with
    | non => cases ry; exact PySem.EqNone.ne_str_none (fin_bl I q (by simp))
    | bl j => cases ry; exact PySem.EqMixed.ne_str_bool (fin_bl I q (by simp))
    | int j => obtain ⟨t', rfl⟩ := ry; exact PySem.EqMixed.ne_str_int (fin_bl I q (by simp))
    | str j => obtain ⟨t', rfl⟩ := ry; exact ne_str (fin_bl I q (congrArg not dec_str))
    | _ => exact absurd (show false = true from hs) Bool.false_ne_true
  | byt i =>
    obtain ⟨t, rfl⟩ := rx
    cases y with
    | byt j => obtain ⟨t', rfl⟩ := ry; exact PySem.W.ne_bytes (fin_bl I q (congrArg not dec_byt))
    | _ => exact absurd (show false = true from hs) Bool.false_ne_true
  | _ => cases y <;> exact absurd (show false = true from hs) Bool.false_ne_true

theorem op_lt : OpR X (compareOp .Lt) (rI0 fun i j => .bl (decide (i < j))) := opB0 fun _ _ _ _ _ _ _ q => lt_int q
theorem op_gt : OpR X (compareOp .Gt) (rI0 fun i j => .bl (decide (j < i))) := opB0 fun _ _ _ _ _ _ _ q => gt_int q
theorem op_ge : OpR X (compareOp .GtE) (rI0 fun i j => .bl (decide (j ≤ i))) := opB0 fun _ _ _ _ _ _ _ q => ge_int q
theorem nomark (b : Expr) {op : CmpOp} (h : autoParam (op ≠ .In) L2.Internal.auD._auto_1) (h2 : autoParam (op ≠ .NotIn) L2.Internal.auD._auto_1) : behindInMarks op b = false := by
  have e1 : (op == CmpOp.In) = false := by cases op <;> first | rfl | exact absurd rfl h
  have e2 : (op == CmpOp.NotIn) = false := by cases op <;> first | rfl | exact absurd rfl h2
  cases b <;> simp [behindInMarks, e1, e2]
theorem pe_cmpR {op : CmpOp} {r : R2} (ho : OpR X (compareOp op) r) (ha : PE X a ta) (hb : PE X b tb) (hm : behindInMarks op b = false) : PE X (.Compare a [op] [b] pos) (tOp r ta tb) := by
  intro pins s σ H Q I h
  exact wpAny_Compare1 (binT ha hb I h fun v u s2 x y H2 I2 rx ry q => ho pins s2 σ H2 x y v u Q I2 rx ry q) hm
noncomputable def tTest (t : TE) : TT := fun σ H Q => t σ H fun x H' => ∃ k, x = .bl k ∧ Q k H'
theorem pt_cmpR {op : CmpOp} {r : R2} (ho : OpR X (compareOp op) r) (ha : PE X a ta) (hb : PE X b tb) (hm : behindInMarks op b = false) : PT X (.Compare a [op] [b] pos) (tTest (tOp r ta tb)) := by
  intro pins s σ H Q I h
  refine wpAny_isTrue_Compare1 (thn (ha pins s σ H _ I h) fun v s1 ⟨x, H1, I1, r1, q1⟩ => thn (hb pins s1 σ H1 _ I1 q1) fun u s2 ⟨y, H2, I2, r2, q2⟩ =>
    thn (ho pins s2 σ H2 x y v u _ I2 r1 r2 q2) fun c s3 ⟨z, H3, I3, r3, k, e, q3⟩ => ?_) hm
  subst e
  cases r3
  exact wpAny_truthy_bool ⟨H3, I3, q3⟩
theorem line63 : (sizeLine : Nat) < 2 ^ 63 := by rw [sizeLine_eq]; decide
theorem op_add_str : OpR X (binaryOp .Add) (fun x y H Q => ∃ i j, x = .str i ∧ y = .str j ∧ i.length + j.length ≤ sizeLine ∧ Q (.str (i ++ j)) H) := by
  intro pins s σ H x y v u Q I rx ry h
  obtain ⟨i, j, rfl, rfl, hz, q⟩ := h
  obtain ⟨t, rfl⟩ := rx
  obtain ⟨t', rfl⟩ := ry
  exact add_str (fun t' tk => ⟨.str (i ++ j), H, I.tok _, ⟨_, rfl⟩, q⟩) hz
theorem vals1 {x : V} {us : List Value} (r : Vals [x] us) : ∃ u, us = [u] ∧ RelV x u := by
  cases r with
  | cons r1 r2 => cases r2; exact ⟨_, rfl, r1⟩
theorem vals2 {x y : V} {us : List Value} (r : Vals [x, y] us) : ∃ u w', us = [u, w'] ∧ RelV x u ∧ RelV y w' := by
  cases r with
  | cons r1 r2 =>
    cases r2 with
    | cons r3 r4 => cases r4; exact ⟨_, _, rfl, r1, r3⟩
theorem call_int1 : CallR X (.type "int") (fun xs H Q => (∃ i, xs = [.int i] ∧ Q (.int i) H) ∨ ∃ k, xs = [.bl k] ∧ Q (.int (if k then 1 else 0)) H) := by
  intro pins s σ H xs us Q I r h
  rcases h with ⟨i, rfl, q⟩ | ⟨k, rfl, q⟩
  · obtain ⟨u, rfl, t, rfl⟩ := vals1 r
    exact call_int_int ⟨.int i, H, I, ⟨_, rfl⟩, q⟩
  · obtain ⟨u, rfl, r1⟩ := vals1 r
    cases r1
    exact call_int_bool ⟨.int (if k then 1 else 0), H, I.tok _, ⟨_, rfl⟩, q⟩
end
end L2.Internal

namespace L2.Internal
open PySem PySem.Spec PyProof.Rows

structure ObjM (h : Heap) (x dx C : Addr) (mA : Str → Option Value) : Prop where
  obj : h.get? x = some (PySem.W.instObj C dx)
  ns : h.Ns1 dx mA
  ne : dx ≠ x

theorem lookIn_ns {h : Heap} {dx : Addr} {mA : Str → Option Value} (n : h.Ns1 dx mA) : ∃ od, h.get? dx = some od ∧ ∀ name, PySem.W.lookIn name od = some (mA name) := by
  obtain ⟨o, es, ep, ho, hd, hk, _, hm⟩ := n
  refine ⟨o, ho, fun name => ?_⟩
  have e := hm name
  unfold nsFind findBy at e
  rw [← Array.find?_toList] at e
  unfold PySem.W.lookIn
  rw [hd]
  dsimp only
  split
  · rename_i y q
    rw [q] at e
    exact congrArg some e
  · rename_i q
    rw [q] at e
    have a : es.toList.any (·.refKey) = false := by
      rw [List.any_eq_false]
      intro y hy
      obtain ⟨z, t, hkey⟩ := hk y (Array.mem_toList_iff.mp hy)
      simp [DictEntry.refKey, hkey]
    have a' : ¬ es.toList.any (·.refKey) = true := by rw [a]; exact Bool.false_ne_true
    rw [if_neg a']
    exact congrArg some e

theorem ObjM.look {h : Heap} {x dx C : Addr} {mA : Str → Option Value} (I : ObjM h x dx C mA) : ∃ od, PySem.W.InstAt h x (PySem.W.instObj C dx) C (some od) ∧ ∀ name, PySem.W.lookIn name od = some (mA name) :=
  let ⟨od, ho, hl⟩ := lookIn_ns I.ns
  ⟨od, ⟨I.obj, rfl, rfl, ho⟩, hl⟩

section
variable {prog : Program} {w : World} {A : Around} {E : Value → Shared → Prop} {s : Shared} {K : PySem.W.Frag} {x dx C f : Addr} {mA : Str → Option Value} {name : Str} {v : Value}

theorem get_map {expr : Bool} {Q : Value → Shared → Prop} (X : K.In s.heap) (I : ObjM s.heap x dx C mA) (hg : PySem.W.plainGet K C name = true) (hh : PySem.W.hasDictIn K C = true)
    (ha : PySem.W.findIn K (.ref C) name = some none) (hv : mA name = some v) (hv' : PySem.W.handedIn v = true) (h : Q v { s with toks := s.toks + 1 }) :
    wpAny (model prog w) A (getAttr (.ref x) name expr) Q E s := by
  obtain ⟨od, J, hl⟩ := I.look
  exact PySem.W.get_value X J (PySem.W.plainGet_of hg).1 (PySem.W.findObj_own hh ha rfl (by rw [hl, hv])) hv' h

theorem set_map {ns : List Str} {Q : Unit → Shared → Prop} (X : K.In s.heap) (I : ObjM s.heap x dx C mA)
    (hs : PySem.W.findIn K (.ref C) "__setattr__" = some (some (.builtin "object.__setattr__"))) (hp : PySem.W.plainOver K C = true) (ht : PySem.W.takerIn K C name = some none) (hh : PySem.W.hasDictIn K C = true)
    (hw : PySem.Within mA ns) (hsz : ns.length ≤ sizeLine)
    (h : ∀ h', ObjM h' x dx C (fun y => if y = name then some v else mA y) → Heap.SameBut dx s.heap h' → Q () { s with heap := h', toks := s.toks + 2 }) :
    wpAny (model prog w) A (setAttr (.ref x) name v) Q E s := by
  obtain ⟨od, J, hl⟩ := I.look
  refine PySem.W.set_plain X J hs (PySem.W.osa_open (s := { s with toks := s.toks + 1 }) (r := none) X J hp ht fun b => ?_)
  obtain ⟨cd, hc, hd'⟩ := PySem.W.any_some hh
  have hx : s.heap.get? x = some ⟨.ref C, some dx, .plain, #[]⟩ := I.obj
  refine wpAny_bind (wpAny_pure (wpAny_bind (wpAny_bind (wpAny_loadPart hx (wpAny_bind (PySem.W.Looks.here (s := { s with toks := s.toks + 1 }) (PySem.W.looks_clsIn X hc) ?_))))))
  rw [hd']
  refine wpAny_pure (a := some dx) (wpAny_bind (wpAny_pure (wpAny_bind ?_)))
  refine wpAny_nsSet1 (s := { s with toks := s.toks + 1 }) I.ns fun h' hn2 hs2 => ?_
  obtain ⟨oD, esD, epD, hoD, hdD, hcD⟩ := hn2.count (PySem.Within.cons name v hw)
  refine wpAny_bind (wpAny_lookBehind hoD (by rw [hdD]; exact pastItsLine_dict (Nat.le_trans hcD (by rw [List.length_cons]; omega))) ?_)
  exact wpAny_pure (h _ ⟨(hs2.2 _ (Ne.symm I.ne)).trans I.obj, hn2, I.ne⟩ hs2)

theorem make_map {R : Result → Shared → Prop} {vs : List Value} {kw : List (Str × Value)} (X : K.In s.heap) (hm : PySem.W.makesIn K C = true)
    (hi : PySem.W.findIn K (.ref C) "__init__" = some (some (.ref f))) (hf : PySem.W.typeIn K (.ref f) = some (.type "function"))
    (h : codeAny (model prog w) (A.under (.builtin "type.__call__" ⟨.ref C :: vs, kw⟩)) (.call (.ref f) ⟨.ref (s.heap.objs.size + 1) :: vs, kw⟩) (PySem.W.InitBack (s.heap.objs.size + 1) R)
      { s with heap := (s.heap.push PySem.W.emptyDict).push (PySem.W.instObj C s.heap.objs.size) }) :
    codeAny (model prog w) A (.call (.ref C) ⟨vs, kw⟩) R s := by
  obtain ⟨hh, g, d, t, os⟩ := s
  exact PySem.W.make_core (PySem.W.makes_of X hm) (PySem.W.looks_findIn X hi) (fun self => PySem.W.bind_fn X self hf) (.inl rfl) h
end

noncomputable def putF (f : Str) (v : V) : List (Str × V) → List (Str × V)
  | [] => [(f, v)]
  | (g, x) :: r => if g = f then (g, v) :: r else (g, x) :: putF f v r
theorem lookup_putF (f g : Str) (v : V) : ∀ fs : List (Str × V), (putF f v fs).lookup g = if g = f then some v else fs.lookup g
  | [] => by
    show List.lookup g [(f, v)] = _
    by_cases h : g = f
    · have hb : (g == f) = true := beq_iff_eq.mpr h
      simp only [List.lookup, hb, if_pos h]
    · have hb : (g == f) = false := beq_eq_false_iff_ne.mpr h
      simp only [List.lookup, hb, if_neg h]
  | (k, x) :: r => by
    have ih := lookup_putF f g v r
    rw [show putF f v ((k, x) :: r) = (if k = f then (k, v) :: r else (k, x) :: putF f v r) from rfl]
    by_cases hk : k = f
    · rw [if_pos hk]
      by_cases h : g = k
      · have hb : (g == k) = true := beq_iff_eq.mpr h
        simp only [List.lookup, hb, if_pos (h.trans hk)]
      · have hb : (g == k) = false := beq_eq_false_iff_ne.mpr h
        simp only [List.lookup, hb, if_neg (fun e : g = f => h (e.trans hk.symm))]
    · rw [if_neg hk]
      by_cases h : g = k
      · have hb : (g == k) = true := beq_iff_eq.mpr h
        simp only [List.lookup, hb, if_neg (fun e : g = f => hk (h.symm.trans e))]
      · have hb : (g == k) = false := beq_eq_false_iff_ne.mpr h
        simp only [List.lookup, hb]
        exact ih
theorem keys_putF (f : Str) (v : V) : ∀ fs : List (Str × V), f ∈ (putF f v fs).map (·.1) ∧ ∀ g, g ∈ fs.map (·.1) → g ∈ (putF f v fs).map (·.1)
  | [] => ⟨by simp [putF], fun g h => by simp at h⟩
  | (k, x) :: r => by
    obtain ⟨i1, i2⟩ := keys_putF f v r
    rw [show putF f v ((k, x) :: r) = (if k = f then (k, v) :: r else (k, x) :: putF f v r) from rfl]
    by_cases hk : k = f
    · rw [if_pos hk]
      subst hk
      exact ⟨by simp, fun g h => by simpa using h⟩
    · rw [if_neg hk]
      refine ⟨?_, fun g h => ?_⟩
      · rw [List.map_cons]
        exact List.mem_cons_of_mem _ i1
      · rw [List.map_cons] at h ⊢
        rcases List.mem_cons.mp h with e | e
        · exact List.mem_cons.mpr (.inl e)
        · exact List.mem_cons_of_mem _ (i2 g e)
theorem length_putF (f : Str) (v : V) : ∀ fs : List (Str × V), (putF f v fs).length ≤ fs.length + 1
  | [] => by simp [putF]
  | (k, x) :: r => by
    have ih := length_putF f v r
    rw [show putF f v ((k, x) :: r) = (if k = f then (k, v) :: r else (k, x) :: putF f v r) from rfl]
    by_cases hk : k = f
    · rw [if_pos hk, List.length_cons, List.length_cons]; omega
    · rw [if_neg hk, List.length_cons, List.length_cons]; omega

theorem RelO.some_of {v : V} {o : Option Value} (r : RelO (some v) o) : ∃ u, o = some u ∧ RelV v u := by
  cases o with
  | none => exact (show False from r).elim
  | some u => exact ⟨u, rfl, r⟩
theorem handed_of {v : V} {u : Value} (r : RelV v u) : PySem.W.handedIn u = true := by
  cases v with
  | non => cases (show u = Value.none from r); rfl
  | bl b => cases (show u = Value.bool b from r); rfl
  | int i => obtain ⟨t, e⟩ := (show ∃ t, u = Value.int i t from r); cases e; rfl
  | str x => obtain ⟨t, e⟩ := (show ∃ t, u = Value.str x t from r); cases e; rfl
  | byt b => obtain ⟨t, e⟩ := (show ∃ t, u = Value.bytes b t from r); cases e; rfl
  | flt b => obtain ⟨t, e⟩ := (show ∃ t, u = Value.float b t from r); cases e; rfl
  | ref a => cases (show u = Value.ref a from r); rfl
  | ty n => cases (show u = Value.type n from r); rfl

section
variable {P : Program} {w : World} {H H' : Hp} {h h' : Heap} {a C dx : Addr} {fs fs' : List (Str × V)}
theorem ins_get (hok : HOk P w H h) (e : H a = some (.ins C dx fs)) : ∃ mA, ObjM h a dx C mA ∧ (∀ f, RelO (fs.lookup f) (mA f)) ∧ PySem.Within mA (fs.map (·.1)) ∧ fs.length ≤ 1000 ∧ H dx = some (.own a) := by
  obtain ⟨d, z, ne, ob, mA, n, r, q⟩ := (show ObjOk P w H h a (.ins C dx fs) from hok a _ e)
  exact ⟨mA, ⟨ob, n, ne⟩, r, q, z, d⟩
end

structure Cls (K : PySem.W.Frag) (C : Addr) : Prop where
  pg : PySem.W.plainGet K C Str.empty = true
  hd : PySem.W.hasDictIn K C = true
  po : PySem.W.plainOver K C = true
  sa : PySem.W.findIn K (.ref C) "__setattr__" = some (some (.builtin "object.__setattr__"))
theorem Cls.get {K : PySem.W.Frag} {C : Addr} (c : Cls K C) (f : Str) : PySem.W.plainGet K C f = true := c.pg
noncomputable def NoAttr (K : PySem.W.Frag) (C : Addr) (f : Str) : Prop := PySem.W.findIn K (.ref C) f = some none
theorem NoAttr.taker {K : PySem.W.Frag} {C : Addr} {f : Str} (n : NoAttr K C f) : PySem.W.takerIn K C f = some none := by
  unfold PySem.W.takerIn
  rw [show PySem.W.findIn K (.ref C) f = some none from n]
  rfl
section
variable {X : Cx} {pins : List (Addr × Obj)} {σ : St} {H : Hp} {s : Shared} {a C dx : Addr} {fs : List (Str × V)} {f : Str} {v : V} {A : Around} {E : Value → Shared → Prop}

theorem getattr_ok {b : Bool} {Q : Value → Shared → Prop} (I : Inv X pins σ H s) (e : H a = some (.ins C dx fs)) (c : Cls X.K C) (n : NoAttr X.K C f) (l : fs.lookup f = some v)
    (h : ∀ u s', Inv X pins σ H s' → RelV v u → Q u s') : wpAny (model X.prog X.w) A (getAttr (.ref a) f b) Q E s := by
  obtain ⟨mA, O, r, _, _, _⟩ := ins_get I.hok e
  obtain ⟨u, hu, ru⟩ := RelO.some_of (v := v) (o := mA f) (by rw [← l]; exact r f)
  exact get_map I.kIn O (c.get f) c.hd n hu (handed_of ru) (h u _ (I.tok _) ru)

theorem setattr_ok {y : V} {u : Value} {Q : Unit → Shared → Prop} (I : Inv X pins σ H s) (e : H a = some (.ins C dx fs)) (c : Cls X.K C) (n : NoAttr X.K C f) (hl : fs.length < 1000) (ry : RelV y u)
    (h : ∀ s', Inv X pins σ (upd H a (.ins C dx (putF f y fs))) s' → Q () s') : wpAny (model X.prog X.w) A (setAttr (.ref a) f u) Q E s := by
  obtain ⟨mA, O, r, wi, _, ho⟩ := ins_get I.hok e
  have hz : (fs.map (·.1)).length ≤ sizeLine := by rw [List.length_map, sizeLine_eq]; omega
  refine set_map I.kIn O c.sa c.po n.taker c.hd wi hz fun h' O' sb => h _ ?_
  have hd : ∃ o, h'.get? dx = some o := let ⟨o, _, _, e', _⟩ := O'.ns; ⟨o, e'⟩
  refine I.write (x := a) (e := dx) (by rw [e]; exact True.intro) (.inr ho) (fun b q hb z => (sb.2 b hb).trans z) hd ?_
  refine ⟨by rw [upd_ne O.ne]; exact ho, ?_, O.ne, O'.obj, _, O'.ns, fun g => ?_, fun g hg => ?_⟩
  · have := length_putF f y fs; omega
  · show RelO ((putF f y fs).lookup g) (if g = f then some u else mA g)
    rw [lookup_putF]
    by_cases q : g = f
    · rw [if_pos q, if_pos q]; exact ry
    · rw [if_neg q, if_neg q]; exact r g
  · by_cases q : g = f
    · rw [q]; exact (keys_putF f y fs).1
    · refine (keys_putF f y fs).2 g (wi g fun z => hg ?_)
      show (if g = f then some u else mA g) = none
      rw [if_neg q]; exact z

theorem Inv.made (I : Inv X pins σ H s) : Inv X pins σ (upd (upd H s.heap.objs.size (.own (s.heap.objs.size + 1))) (s.heap.objs.size + 1) (.ins C s.heap.objs.size []))
    { s with heap := (s.heap.push PySem.W.emptyDict).push (PySem.W.instObj C s.heap.objs.size) } := by
  have e1 : (s.heap.push PySem.W.emptyDict).get? s.heap.objs.size = some PySem.W.emptyDict := Heap.get?_push_size s.heap rfl
  have e2 : ((s.heap.push PySem.W.emptyDict).push (PySem.W.instObj C s.heap.objs.size)).get? (s.heap.objs.size + 1) = some (PySem.W.instObj C s.heap.objs.size) := by
    have := Heap.get?_push_size (s.heap.push PySem.W.emptyDict) (o := PySem.W.instObj C s.heap.objs.size) rfl
    rwa [Heap.size_push] at this
  have e3 : (s.heap.push PySem.W.emptyDict).Ns s.heap.objs.size (fun _ => none) := ⟨PySem.W.emptyDict, #[], _, e1, rfl, (fun e he => absurd he (by simp)), fun _ => rfl⟩
  have I1 := I.laid (a := s.heap.objs.size) (o := .own (s.heap.objs.size + 1)) (h' := s.heap.push PySem.W.emptyDict) (t' := s.toks) (fun b u q => Heap.get?_push_of_some _ q) (Nat.le_refl _) ⟨_, e1⟩
  refine I1.laid (a := s.heap.objs.size + 1) (o := .ins C s.heap.objs.size []) (t' := s.toks) (fun b u q => Heap.get?_push_of_some _ q) (Nat.le_of_eq (Heap.size_push _ _)) ?_
  have ne : s.heap.objs.size ≠ s.heap.objs.size + 1 := Nat.ne_of_lt (Nat.lt_succ_self _)
  refine ⟨by rw [upd_ne ne, upd_same], Nat.zero_le _, ne, e2, fun _ => none, (Heap.Ns1.of_empty e3).at fun o q => Heap.get?_push_of_some _ q, fun _ => True.intro, fun y hy => absurd rfl hy⟩

theorem attr_of {prog : Program} {w : World} {env : Env} {e : Expr} {f : Str} {pos : Pos} {s : Shared} {Q : Value → Shared → Prop} (hb : attributeBase e f env (eval e env) = eval e env)
    (h : wpAny (model prog w) A (eval e env) (fun o s₁ => wpAny (model prog w) A (getAttr o f true) Q E s₁) E s) : wpAny (model prog w) A (eval (.Attribute e f pos) env) Q E s :=
  Attribute_any_ h (by rw [arm_eval_Attribute, hb])
end

noncomputable def tFld (K : PySem.W.Frag) (ta : TE) (f : Str) : TE := fun σ H Q => ta σ H fun x H1 => ∃ a C dx fs v, x = .ref a ∧ H1 a = some (.ins C dx fs) ∧ Cls K C ∧ NoAttr K C f ∧ fs.lookup f = some v ∧ Q v H1
noncomputable def sFld (K : PySem.W.Frag) (ta tv : TE) (f : Str) : TS := fun D σ H => tv σ H fun y H1 => ta σ H1 fun x H2 => ∃ a C dx fs, x = .ref a ∧ H2 a = some (.ins C dx fs) ∧ Cls K C ∧ NoAttr K C f ∧ fs.length < 1000 ∧
  D.nx σ (upd H2 a (.ins C dx (putF f y fs)))
section
variable {X : Cx} {o e value : Expr} {f : Str} {pos pos' tpos : Pos} {ta tv : TE}
theorem pe_fld (he : PE X e ta) (hb : attributeBase e f X.env (eval e X.env) = eval e X.env) : PE X (.Attribute e f pos) (tFld X.K ta f) := by
  intro pins s σ H Q I h
  refine attr_of hb (thn (he pins s σ H _ I h) fun u s1 ⟨x, H1, I1, rx, a, C, dx, fs, v, ex, ea, c, n, l, q⟩ => ?_)
  subst ex
  obtain rfl : u = Value.ref a := rx
  exact getattr_ok I1 ea c n l fun u' s2 I2 ru => ⟨v, H1, I2, ru, q⟩
theorem ps_fld (ha : PE X o ta) (hv : PE X value tv) (hs : swapsWith value (some (.Attribute o f pos')) pos.line X.env = pure false) : PS X (.Assign [.Attribute o f pos'] value pos) (sFld X.K ta tv f) := by
  intro pins s σ H D I h
  refine plainObj_wpAny_Assign_Attribute (thn (hv pins s σ H _ I h) fun u s1 ⟨y, H1, I1, ry, q⟩ => thn (ha pins s1 σ H1 _ I1 q) fun ov s2 ⟨x, H2, I2, rx, a, C, dx, fs, ex, ea, c, n, l, q2⟩ => ?_) hs
  subst ex
  obtain rfl : ov = Value.ref a := rx
  exact setattr_ok I2 ea c n l ry fun s3 I3 => ⟨σ, _, I3, q2⟩
end

section
variable {X : Cx} {pins : List (Addr × Obj)} {σ : St} {H : Hp} {s : Shared} {A : Around} {E : Value → Shared → Prop} {Q : Value → Shared → Prop} {c : Value} {b : Bool}
inductive TyOf (K : PySem.W.Frag) (H : Hp) : V → Value → Prop where
  | non : TyOf K H .non (.type "NoneType")
  | bl (x : Bool) : TyOf K H (.bl x) (.type "bool")
  | int (i : Int) : TyOf K H (.int i) (.type "int")
  | str (x : Str) : TyOf K H (.str x) (.type "str")
  | flt (x : UInt64) : TyOf K H (.flt x) (.type "float")
  | lst {a : Addr} {xs : List V} (e : H a = some (.lst xs)) : TyOf K H (.ref a) (.type "list")
  | frz {a : Addr} {o : Obj} {xs : List V} (e : H a = some (.frz o (.lst xs))) : TyOf K H (.ref a) (.type "list")
  | tup {a : Addr} {xs : List V} (e : H a = some (.tup xs)) : TyOf K H (.ref a) (.type "tuple")
  | dK {a : Addr} {kvs : List (Key × V)} (e : H a = some (.dK kvs)) : TyOf K H (.ref a) (.type "dict")
  | dT {a : Addr} {kvs : List (List Key × V)} (e : H a = some (.dT kvs)) : TyOf K H (.ref a) (.type "dict")
  | ins {a C dx : Addr} {fs : List (Str × V)} (e : H a = some (.ins C dx fs)) (cl : Cls K C) (ha : PySem.W.findIn K (.ref C) "__class__" = some (some (.builtin "object.__class__")))
      (hn : PySem.W.specialIn K (.builtin "object.__class__") "__get__" = some (some (.builtin "getset_descriptor.__get__"))) (htk : PySem.W.takesIn K (.builtin "object.__class__") = some true)
      (hm : PySem.W.mroIn K C (.type "object") = some true) : TyOf K H (.ref a) (.ref C)
theorem isinst_ok {x : V} {u t : Value} (I : Inv X pins σ H s) (rx : RelV x u) (ty : TyOf X.K H x t) (e : PySem.W.kitOne X.K t c = some b) (h : ∀ tk, Q (.bool b) { s with toks := tk }) :
    wpAny (model X.prog X.w) A (call (.builtin "isinstance") [u, c]) Q E s := by
  cases ty with
  | non => cases (show u = Value.none from rx); exact PySem.W.kia_one PySem.W.kitx_none I.kIn True.intro e (fun z => nomatch z) h
  | bl y => cases (show u = Value.bool y from rx); exact PySem.W.kia_one PySem.W.kitx_bool I.kIn True.intro e (fun z => nomatch z) h
  | int i => obtain ⟨t, q⟩ := (show ∃ t, u = Value.int i t from rx); cases q; exact PySem.W.kia_one PySem.W.kitx_int I.kIn True.intro e (fun z => nomatch z) h
  | str y => obtain ⟨t, q⟩ := (show ∃ t, u = Value.str y t from rx); cases q; exact PySem.W.kia_one PySem.W.kitx_str I.kIn True.intro e (fun z => nomatch z) h
  | flt y => obtain ⟨t, q⟩ := (show ∃ t, u = Value.float y t from rx); cases q; exact PySem.W.kia_one PySem.W.kitx_float I.kIn True.intro e (fun z => nomatch z) h
  | @lst a xs ea =>
    cases (show u = Value.ref a from rx)
    obtain ⟨_, _, n, _, h1⟩ := (show ObjOk X.prog X.w H s.heap a (.lst xs) from I.hok a _ ea)
    exact PySem.W.kia_one PySem.W.kitx_list I.kIn ⟨_, h1, rfl⟩ e (fun z => nomatch z) h
  | @frz a ob xs ea =>
    cases (show u = Value.ref a from rx)
    obtain ⟨_, _, _, n, _, h1⟩ := (show ObjOk X.prog X.w H s.heap a (.frz ob (.lst xs)) from I.hok a _ ea)
    exact PySem.W.kia_one PySem.W.kitx_list I.kIn ⟨_, h1, rfl⟩ e (fun z => nomatch z) h
  | @tup a xs ea =>
    cases (show u = Value.ref a from rx)
    obtain ⟨_, _, _, p⟩ := (show ObjOk X.prog X.w H s.heap a (.tup xs) from I.hok a _ ea)
    obtain ⟨o, h1, h2, _⟩ := p
    exact PySem.W.kia_one PySem.W.kitx_tuple I.kIn ⟨o, h1, h2⟩ e (fun z => nomatch z) h
  | @dK a kvs ea =>
    cases (show u = Value.ref a from rx)
    obtain ⟨_, _, vs, _, p⟩ := (show ObjOk X.prog X.w H s.heap a (.dK kvs) from I.hok a _ ea)
    obtain ⟨o, es, ep, h1, h2, _⟩ := p
    exact PySem.W.kia_one PySem.W.kitx_dict I.kIn ⟨o, h1, h2.1⟩ e (fun z => nomatch z) h
  | @dT a kvs ea =>
    cases (show u = Value.ref a from rx)
    obtain ⟨_, _, xs, _, o, es, ep, h1, h2, _⟩ := (show ObjOk X.prog X.w H s.heap a (.dT kvs) from I.hok a _ ea)
    exact PySem.W.kia_one PySem.W.kitx_dict I.kIn ⟨o, h1, h2.1⟩ e (fun z => nomatch z) h
  | @ins a C dx fs ea cl ha hn htk hm =>
    cases (show u = Value.ref a from rx)
    obtain ⟨mA, O, _⟩ := ins_get I.hok ea
    obtain ⟨od, J, _⟩ := O.look
    exact PySem.W.kia_one (PySem.W.kitx_own (cl.get _) cl.hd ha hn htk hm) I.kIn J e (fun z => nomatch z) h
end
end L2.Internal

namespace L2.Internal
open PySem PySem.Spec PyProof.Rows

structure Room (k : Nat) (A : Around) : Prop where
  hd : A.handled = none
  dp : A.depth + 3 * k + 5 < recursionLimit
  un : A.units + 16 * k + 200 < cLine
theorem Room.mono {j k : Nat} {A : Around} (r : Room k A) (h : j ≤ k) : Room j A := ⟨r.hd, by have := r.dp; omega, by have := r.un; omega⟩
theorem Room.deeper {k : Nat} {A : Around} (r : Room (k + 1) A) (env : Env) : Room k (A.deeper env) :=
  ⟨r.hd, by have := r.dp; show A.depth + 1 + 3 * k + 5 < _; omega, by have := r.un; show A.units + 3 + 16 * k + 200 < _; omega⟩
theorem make_depth {A : Around} {C : Addr} {us : List Value} {kw : List (Str × Value)} : (A.under (.builtin "type.__call__" ⟨.ref C :: us, kw⟩)).depth = A.depth + 1 := by
  first | rfl | simp [Around.under, Code.weight, Code.isCreation, Code.isGuard, Code.isCaller, Code.frames, Code.isFrame, guardIds]
theorem make_units {A : Around} {C : Addr} {us : List Value} {kw : List (Str × Value)} : (A.under (.builtin "type.__call__" ⟨.ref C :: us, kw⟩)).units = A.units + 1 := by
  first | rfl | simp [Around.under, Code.cUnits, Code.frames, Code.isFrame]
theorem Room.make {k : Nat} {A : Around} (r : Room (k + 1) A) (C : Addr) (us : List Value) (kw : List (Str × Value)) : Room k (A.under (.builtin "type.__call__" ⟨.ref C :: us, kw⟩)) :=
  ⟨r.hd, by have := r.dp; rw [make_depth]; omega, by have := r.un; rw [make_units]; omega⟩
theorem Room.depth {k : Nat} {A : Around} (r : Room k A) : A.depth < recursionLimit := by have := r.dp; omega
theorem Room.units {k : Nat} {A : Around} (r : Room k A) : A.units + 64 < cLine := by have := r.un; omega
noncomputable def tNil : TA := fun _ H Q => Q [] H
noncomputable def tCons (ta : TE) (tr : TA) : TA := fun σ H Q => ta σ H fun x H1 => tr σ H1 fun xs H2 => Q (x :: xs) H2
section
variable {X : Cx} {e : Expr} {es : List Expr} {te : TE} {t : TA} {pos : Pos}
theorem pa_nil : PA X [] tNil := fun _ _ _ _ H Q I h => Calls.spliced_nil ⟨[], H, I, .nil, h⟩
theorem pa_cons (ha : PE X e te) (hr : PA X es t) (hs : autoParam (starEach (e :: es) X.env = (false, eval e X.env) :: starEach es X.env) L2.Internal.auR._auto_1) : PA X (e :: es) (tCons te t) := by
  intro pos pins s σ H Q I h
  rw [hs]
  show wpAny _ _ (spliced ((false, eval e X.env) :: backTo pos (starEach es X.env))) _ _ s
  refine Calls.spliced_cons (thn (ha pins s σ H _ I h) fun u s1 ⟨x, H1, I1, r1, q1⟩ => ?_)
  exact thn (hr pos pins s1 σ H1 _ I1 q1) fun us s2 ⟨xs, H2, I2, r2, q2⟩ => ⟨x :: xs, H2, I2, .cons r1 r2, q2⟩

noncomputable def tTup (t : TA) : TE := fun σ H Q => t σ H fun xs H1 => xs.length ≤ sizeLine ∧ ∀ p, H1 p = none → Q (.ref p) (upd H1 p (.tup xs))
noncomputable def tLst (t : TA) : TE := fun σ H Q => t σ H fun xs H1 => xs.length ≤ sizeLine ∧ ∀ p, H1 p = none → Q (.ref p) (upd H1 p (.lst xs))
theorem pe_tup {x1} (h : PA X es t) : PE X (.Tuple es x1 pos) (tTup t) := by
  intro pins s σ H Q I hq
  refine wpAny_Tuple_spliced (thn (h pos pins s σ H _ I hq) fun us s1 ⟨xs, H1, I1, r, z, q⟩ => ⟨by rw [← r.length]; exact z, ?_⟩)
  have hf : H1 s1.heap.objs.size = none := I1.hok.fresh (Nat.le_refl _)
  refine ⟨.ref s1.heap.objs.size, upd H1 s1.heap.objs.size (.tup xs), I1.laid (t' := s1.toks) (fun b u e => Heap.get?_push_of_some _ e) (Nat.le_refl _) ?_, rfl, q _ hf⟩
  exact ⟨z, us, r, ⟨_, Heap.get?_push_size _ rfl, rfl, _, rfl, rfl⟩⟩
theorem pe_lst (h : PA X es t) : PE X (.List es pos) (tLst t) := by
  intro pins s σ H Q I hq
  refine wpAny_List_spliced (thn (h pos pins s σ H _ I hq) fun us s1 ⟨xs, H1, I1, r, z, q⟩ => ⟨by rw [← r.length]; exact z, ?_⟩)
  have hf : H1 s1.heap.objs.size = none := I1.hok.fresh (Nat.le_refl _)
  refine ⟨.ref s1.heap.objs.size, upd H1 s1.heap.objs.size (.lst xs), I1.laid (t' := s1.toks) (fun b u e => Heap.get?_push_of_some _ e) (Nat.le_refl _) ?_, rfl, q _ hf⟩
  exact ⟨z, us, 0, r, Heap.get?_push_size _ rfl⟩
end

noncomputable abbrev Sp := List V → Hp → VK → XK → Prop
noncomputable abbrev CXT := List Env → Hp → Shared → XK → Value → Shared → Prop

structure Env0 (P : Program) (w : World) (K : PySem.W.Frag) (mg : Str → Option Value) (base : Heap) (A : Around) (outer : List Env) (s : Shared) (H : Hp) : Prop where
  frames : A.frames = some outer
  mod : Mod K mg base
  bs : ∀ b o, base.get? b = some o → s.heap.get? b = some o ∧ H b = none
  bsz : base.objs.size ≤ s.heap.objs.size
  funs : s.heap.FunFrames base outer
  frf : ∀ b ∈ frs outer, H b = none
  hok : HOk P w H s.heap
  bare : AllBare s.gens
noncomputable def CE (outer : List Env) (P : Program) (w : World) (H : Hp) (s : Shared) (Q : VK) (u : Value) (s' : Shared) : Prop :=
  ∃ v H', s'.os = s.os ∧ AllBare s'.gens ∧ Un (frs outer) [] H H' s.heap s'.heap ∧ HOk P w H' s'.heap ∧ RelV v u ∧ Q v H'
noncomputable def CR (CX : CXT) (outer : List Env) (P : Program) (w : World) (H : Hp) (s : Shared) (Q : VK) (E : XK) (r : Result) (s' : Shared) : Prop :=
  match r with
  | .ok (.ret u) => CE outer P w H s Q u s'
  | .ok _ => False
  | .error e => CX outer H s E e s'
structure FnOk (P : Program) (w : World) (K : PySem.W.Frag) (mg : Str → Option Value) (base : Heap) (CX : CXT) (k : Nat) (f : Addr) (fd : FuncData) (ps : List Str) (sp : Sp) : Prop where
  len : ∀ vs H Q E, sp vs H Q E → vs.length = ps.length
  run : ∀ (A : Around) (outer : List Env) (s : Shared) (H : Hp) (args : Args) (us : List Value) (vs : List V) (Q : VK) (E : XK), Room k A → Env0 P w K mg base A outer s H → BindsTo s fd args (ps.zip us) → Vals vs us → sp vs H Q E →
    codeAny (model P w) A (.call (.ref f) args) (CR CX outer P w H s Q E) s
theorem Env0.make {P : Program} {w : World} {K : PySem.W.Frag} {mg : Str → Option Value} {base : Heap} {A : Around} {outer : List Env} {s : Shared} {H : Hp} (e : Env0 P w K mg base A outer s H) (C : Addr) (us : List Value) (kw : List (Str × Value)) :
    Env0 P w K mg base (A.under (.builtin "type.__call__" ⟨.ref C :: us, kw⟩)) outer s H := ⟨by first | exact e.frames | (simpa [Around.under, Code.envs, Code.isFrame, pushEnvs] using e.frames), e.mod, e.bs, e.bsz, e.funs, e.frf, e.hok, e.bare⟩
section
variable {X : Cx} {pins : List (Addr × Obj)} {σ : St} {H : Hp} {s s' : Shared}
theorem Inv.env0 (I : Inv X pins σ H s) : Env0 X.prog X.w X.K X.mg X.base X.A X.stack s H :=
  ⟨I.ok.frames, I.ok.mod, I.bs, Nat.le_trans I.ok.bsz I.sz, I.stack, I.stkFree, I.hok, I.bare⟩
theorem Inv.after {Q : VK} {u : Value} (I : Inv X pins σ H s) (h : CE X.stack X.prog X.w H s Q u s') : EP X pins σ Q u s' := by
  obtain ⟨v, H', os, bare, un, hok, r, q⟩ := h
  obtain ⟨hh, g, d, t, os'⟩ := s'
  obtain rfl : os' = s.os := os
  exact ⟨v, H', I.call (h' := hh) (g' := g) (d' := d) (t' := t) (ch := []) un hok bare (fun b z => absurd z (by simp)), r, q⟩
end

noncomputable def tCall (sp : Sp) (dvs : List V) (E : XK) (t : TA) : TE := fun σ H Q => t σ H fun vs H1 => sp (vs ++ dvs) H1 Q E
noncomputable def tMake (C : Addr) (sp : Sp) (dvs : List V) (E : XK) (t : TA) : TE := fun σ H Q => t σ H fun vs H1 => ∀ x dx, H1 x = none → H1 dx = none → dx ≠ x →
  sp (.ref x :: (vs ++ dvs)) (upd (upd H1 dx (.own x)) x (.ins C dx [])) (fun v H2 => v = .non ∧ Q (.ref x) H2) E

noncomputable def Binds (K : PySem.W.Frag) (fd : FuncData) (ps : List Str) (ds : List Value) : Prop :=
  ∀ (s : Shared) (us : List Value), K.In s.heap → (us ++ ds).length = ps.length → BindsTo s fd ⟨us, []⟩ (ps.zip (us ++ ds))
theorem Binds.all {K : PySem.W.Frag} {fd : FuncData} {ps : List Str} (h : ∀ us : List Value, us.length = ps.length → bindArgs fd ⟨us, []⟩ = pure (ps.zip us)) : Binds K fd ps [] := fun s us _ hl => by
  rw [List.append_nil] at hl ⊢
  exact .of_eq (h us hl)

noncomputable def Passes (CX : CXT) (X : Cx) (E : XK) : Prop := ∀ (pins : List (Addr × Obj)) (σ : St) (H : Hp) (s : Shared) (e : Value) (s' : Shared), Inv X pins σ H s → CX X.stack H s E e s' → X.xe e s'

section
variable {X : Cx} {CX : CXT} {k : Nat} {f C : Addr} {fd : FuncData} {ps : List Str} {sp : Sp} {dvs : List V} {ds : List Value} {E : XK} {x m : Str} {p pos apos : Pos} {e o : Expr} {es : List Expr} {ta : TE} {t : TA}

theorem run_fn {pins : List (Addr × Obj)} {σ : St} {H : Hp} {s : Shared} {Q : VK} {us : List Value} {vs : List V} (F : FnOk X.prog X.w X.K X.mg X.base CX k f fd ps sp) (hr : Room k X.A) (hb : Binds X.K fd ps ds) (hd : Vals dvs ds) (hx : Passes CX X E)
    (I : Inv X pins σ H s) (r : Vals vs us) (h : sp (vs ++ dvs) H Q E) : wpAny (model X.prog X.w) X.A (call (.ref f) us) (EP X pins σ Q) X.xe s := by
  have r2 : Vals (vs ++ dvs) (us ++ ds) := r.append hd
  have hl : (us ++ ds).length = ps.length := by rw [← r2.length]; exact F.len _ _ _ _ h
  refine wpAny_call (codeAny_mono (F.run X.A X.stack s H ⟨us, []⟩ (us ++ ds) (vs ++ dvs) Q E hr I.env0 (hb s us I.kIn hl) r2 h) fun r s' hq => ?_)
  cases r with
  | error e => exact hx pins σ H s e s' I hq
  | ok fl =>
    cases fl with
    | ret u => exact I.after hq
    | next => exact False.elim hq
    | brk => exact False.elim hq
    | cont => exact False.elim hq

theorem pe_call (F : FnOk X.prog X.w X.K X.mg X.base CX k f fd ps sp) (hr : Room k X.A) (hg : Gl X x) (hm : X.mg x = some (.ref f)) (hk : PySem.W.keepIn X.K (.ref f) = true) (hb : Binds X.K fd ps ds) (hd : Vals dvs ds) (hx : Passes CX X E)
    (ha : PA X (e :: es) t) (hdb : autoParam ((x == ("__debug__" : Str)) = false) L2.Internal.auD._auto_1) (he : autoParam (starEach (e :: es) X.env = (false, eval e X.env) :: starEach es X.env) L2.Internal.auR._auto_1) (hpl : autoParam ((backTo pos (starEach es X.env)).any (·.1) = false) L2.Internal.auR._auto_1) :
    PE X (.Call (.Name x p) (e :: es) [] pos) (tCall sp dvs E t) := by
  intro pins s σ H Q I h
  refine wpAny_Call_Name_kw (ld_glob I hg hm ?_ hdb)
  refine PySem.W.callWith_K (h₀ := X.base) I.ok.mod.kin hk (thn (ha pos pins s σ H _ I h) fun us s1 ⟨vs, H1, I1, r, q⟩ => ⟨I1.kIn, ?_⟩) he hpl
  exact run_fn F hr hb hd hx I1 r q
structure Mk (K : PySem.W.Frag) (C f : Addr) : Prop where
  makes : PySem.W.makesIn K C = true
  init : PySem.W.findIn K (.ref C) "__init__" = some (some (.ref f))
  fn : PySem.W.isFn K (.ref f) = true
  kp : PySem.W.keepIn K (.ref C) = true

theorem run_make {pins : List (Addr × Obj)} {σ : St} {H : Hp} {s : Shared} {Q : VK} {us : List Value} {vs : List V} (M : Mk X.K C f) (F : FnOk X.prog X.w X.K X.mg X.base CX k f fd ps sp) (hr : Room (k + 1) X.A) (hb : Binds X.K fd ps ds) (hd : Vals dvs ds)
    (hx : Passes CX X E) (I : Inv X pins σ H s) (r : Vals vs us)
    (h : ∀ x dx, H x = none → H dx = none → dx ≠ x → sp (.ref x :: (vs ++ dvs)) (upd (upd H dx (.own x)) x (.ins C dx [])) (fun v H2 => v = .non ∧ Q (.ref x) H2) E) :
    wpAny (model X.prog X.w) X.A (call (.ref C) us) (EP X pins σ Q) X.xe s := by
  have hq := h (s.heap.objs.size + 1) s.heap.objs.size (I.hok.fresh (Nat.le_succ _)) (I.hok.fresh (Nat.le_refl _)) (Nat.ne_of_lt (Nat.lt_succ_self _))
  have I2 := Inv.made (C := C) I
  have r2 : Vals (V.ref (s.heap.objs.size + 1) :: (vs ++ dvs)) (Value.ref (s.heap.objs.size + 1) :: (us ++ ds)) := .cons rfl (r.append hd)
  have hl : (Value.ref (s.heap.objs.size + 1) :: us ++ ds).length = ps.length := by
    have e := r2.length
    rw [F.len _ _ _ _ hq] at e
    exact e.symm
  refine wpAny_call (make_map (f := f) I.kIn M.makes M.init (beq_iff_eq.mp M.fn) (codeAny_mono (F.run _ X.stack _ _ ⟨Value.ref (s.heap.objs.size + 1) :: us, []⟩ (Value.ref (s.heap.objs.size + 1) :: (us ++ ds)) _ _ E (hr.make C us [])
    (I2.env0.make C us []) (hb _ (Value.ref (s.heap.objs.size + 1) :: us) I2.kIn hl) r2 hq) fun r s' hq' => ?_))
  cases r with
  | error e => exact hx pins σ _ _ e s' I2 hq'
  | ok fl =>
    cases fl with
    | ret u =>
      obtain ⟨v, H', I3, rv, ev, q3⟩ := I2.after hq'
      subst ev
      exact ⟨rv, ⟨V.ref (s.heap.objs.size + 1), H', I3, rfl, q3⟩⟩
    | next => exact False.elim hq'
    | brk => exact False.elim hq'
    | cont => exact False.elim hq'
theorem pe_make (M : Mk X.K C f) (F : FnOk X.prog X.w X.K X.mg X.base CX k f fd ps sp) (hr : Room (k + 1) X.A) (hg : Gl X x) (hm : X.mg x = some (.ref C)) (hb : Binds X.K fd ps ds) (hd : Vals dvs ds) (hx : Passes CX X E)
    (ha : PA X (e :: es) t) (hdb : autoParam ((x == ("__debug__" : Str)) = false) L2.Internal.auD._auto_1) (he : autoParam (starEach (e :: es) X.env = (false, eval e X.env) :: starEach es X.env) L2.Internal.auR._auto_1) (hpl : autoParam ((backTo pos (starEach es X.env)).any (·.1) = false) L2.Internal.auR._auto_1) :
    PE X (.Call (.Name x p) (e :: es) [] pos) (tMake C sp dvs E t) := by
  intro pins s σ H Q I h
  refine wpAny_Call_Name_kw (ld_glob I hg hm ?_ hdb)
  refine PySem.W.callWith_K (h₀ := X.base) I.ok.mod.kin M.kp (thn (ha pos pins s σ H _ I h) fun us s1 ⟨vs, H1, I1, r, q⟩ => ⟨I1.kIn, ?_⟩) he hpl
  exact run_make M F hr hb hd hx I1 r q
end

section
variable {X : Cx} {CX : CXT} {k : Nat} {f C : Addr} {fd : FuncData} {ps ks : List Str} {sp : Sp} {E : XK} {x m : Str} {p pos apos kpos : Pos} {e o : Expr} {es : List Expr} {kws : List Keyword} {te ta : TE} {t tk : TA} {nm : Option Str}
variable {g : List Value → List Value → List Value} {gV : List V → List V → List V}
end

structure FnScope (N P : List Str) (sc : Scope) : Prop where
  kind : sc.kind = .function
  co : sc.isCoroutine = false
  gen : sc.isGenerator = false
  nd : N.Nodup
  pre : N.take P.length = P
  par : ∀ x ∈ P, sc.names.lookup x = some .local ∨ sc.names.lookup x = some .cell
  nofree : ∀ y ∈ sc.names, y.2 ≠ .free

theorem bindL_out {kindOf : Str → Option NameKind} {x : Str} : ∀ {binds : List (Str × Value)} {m : Str → Option Value}, (∀ v, (x, v) ∉ binds) → bindL kindOf binds m x = m x
  | [], _, _ => rfl
  | (n, v) :: r, m, h => by
    unfold bindL
    rw [bindL_out fun w hw => h w (List.mem_cons_of_mem _ hw)]
    split
    · have : x ≠ n := by rintro rfl; exact h v List.mem_cons_self
      simp [this]
    · rfl
theorem bindC_out {kindOf : Str → Option NameKind} {x : Str} : ∀ {binds : List (Str × Value)} {m : Str → Option Value}, (∀ v, (x, v) ∉ binds) → bindC kindOf binds m x = m x
  | [], _, _ => rfl
  | (n, v) :: r, m, h => by
    unfold bindC
    rw [bindC_out fun w hw => h w (List.mem_cons_of_mem _ hw)]
    split
    · rfl
    · have : x ≠ n := by rintro rfl; exact h v List.mem_cons_self
      simp [this]
theorem bindL_get {kindOf : Str → Option NameKind} {x : Str} {v : Value} : ∀ {P : List Str} {vs : List Value} {i : Nat} {m : Str → Option Value}, P.Nodup → P[i]? = some x → vs[i]? = some v → kindOf x = some .local →
    bindL kindOf (P.zip vs) m x = some v
  | [], _, _, _, _, h, _, _ => by simp at h
  | _ :: _, [], _, _, _, _, h, _ => by simp at h
  | p :: P, w :: vs, 0, m, nd, h1, h2, hk => by
    simp at h1 h2; subst h1; subst h2
    show bindL kindOf ((p, w) :: P.zip vs) m p = _
    unfold bindL
    rw [bindL_out fun v hv => (List.nodup_cons.mp nd).1 (List.of_mem_zip hv).1, if_pos hk]
    simp
  | p :: P, w :: vs, i + 1, m, nd, h1, h2, hk => by
    show bindL kindOf ((p, w) :: P.zip vs) m x = _
    unfold bindL
    exact bindL_get (i := i) (List.nodup_cons.mp nd).2 (by simpa using h1) (by simpa using h2) hk
theorem bindC_get {kindOf : Str → Option NameKind} {x : Str} {v : Value} : ∀ {P : List Str} {vs : List Value} {i : Nat} {m : Str → Option Value}, P.Nodup → P[i]? = some x → vs[i]? = some v → kindOf x ≠ some .local →
    bindC kindOf (P.zip vs) m x = some v
  | [], _, _, _, _, h, _, _ => by simp at h
  | _ :: _, [], _, _, _, _, h, _ => by simp at h
  | p :: P, w :: vs, 0, m, nd, h1, h2, hk => by
    simp at h1 h2; subst h1; subst h2
    show bindC kindOf ((p, w) :: P.zip vs) m p = _
    unfold bindC
    rw [bindC_out fun v hv => (List.nodup_cons.mp nd).1 (List.of_mem_zip hv).1, if_neg hk]
    simp
  | p :: P, w :: vs, i + 1, m, nd, h1, h2, hk => by
    show bindC kindOf ((p, w) :: P.zip vs) m x = _
    unfold bindC
    exact bindC_get (i := i) (List.nodup_cons.mp nd).2 (by simpa using h1) (by simpa using h2) hk

noncomputable def start (N : List Str) (vs : List V) : St := vs.map some ++ List.replicate (N.length - vs.length) none

noncomputable def cxOf (CX : CXT) (P : Program) (w : World) (K : PySem.W.Frag) (mg : Str → Option Value) (base : Heap) (N : List Str) (qual : Str) (scope : Scope) (f : Addr) (cd : Value) (A : Around) (outer : List Env) (s : Shared) (H : Hp) (E : XK) : Cx where
  prog := P
  w := w
  K := K
  mg := mg
  base := base
  A := A.deeper (envOfC qual scope s.heap.objs.size f cd)
  N := N
  s₀ := s
  H₀ := H
  env := envOfC qual scope s.heap.objs.size f cd
  outer := outer
  stack := envOfC qual scope s.heap.objs.size f cd :: outer
  ex := []
  calm := true
  fn := fun _ => true
  pn := []
  xe := fun e s' => wpAny (model P w) (A.deeper (envOfC qual scope s.heap.objs.size f cd)) (leaving (envOfC qual scope s.heap.objs.size f cd) e) (fun _ s'' => CX outer H s E e s'') (fun e' s'' => CX outer H s E e' s'') s'

theorem cell_has {sc : Scope} {n : Nat} {x : Str} (h : sc.names.lookup x = some .cell) : ∃ c, (cellsFrom n sc.names []).lookup x = some c := by
  have q := PySem.W.cellsFrom_some sc.names n [] (.inl h)
  exact Option.isSome_iff_exists.mp q

theorem inv_start {CX : CXT} {P : Program} {w : World} {K : PySem.W.Frag} {mg : Str → Option Value} {base : Heap} {N ps : List Str} {qual : Str} {scope : Scope} {f : Addr} {cd : Value} {A : Around} {outer : List Env} {s s1 : Shared} {H : Hp} {E : XK} {us : List Value} {vs : List V}
    (S : FnScope N ps scope) (hd : A.handled = none) (e0 : Env0 P w K mg base A outer s H) (hl : vs.length = ps.length) (r : Vals vs us)
    (x : InCallC s s.heap.objs.size (bindL (envOfC qual scope s.heap.objs.size f cd).kindOf (ps.zip us) fun _ => none) (cellsFrom (s.heap.objs.size + 1) scope.names []) (bindC (envOfC qual scope s.heap.objs.size f cd).kindOf (ps.zip us) fun _ => none) s1) :
    Inv (cxOf CX P w K mg base N qual scope f cd A outer s H E) [] (start N vs) H s1 := by
  have hpl : ps.length ≤ N.length := by have := congrArg List.length S.pre; rw [List.length_take] at this; omega
  obtain ⟨h1, tk, rfl, hk⟩ := x.done
  have noA : ∀ b : Addr, b ∉ (cxOf CX P w K mg base N qual scope f cd A outer s H E).ex := fun b z => absurd (show b ∈ ([] : List Addr) from z) (by simp)
  refine ⟨⟨e0.mod, S.kind, rfl, rfl, Nat.le_refl _, fun y z c h1 h2 => ?_, fun y hy => ?_, fun y c _ h => ?_, fun _ => hd, Around.frames_deeper e0.frames, .inr ⟨rfl, rfl⟩, fun b z => absurd z (noA b), e0.bs, e0.bsz, fun b _ _ => noA b, fun b z => absurd z (noA b), e0.funs, e0.frf⟩,
    rfl, e0.bare, Un.kept hk, ⟨_, x.toInCall.ns, fun i y v h1 h2 h3 => ?_⟩, fun y c h => ⟨_, x.cell y c h⟩, e0.hok.fresh (Nat.le_refl _), fun y c h => ?_, fun p hp => absurd (show p ∈ ([] : List (Addr × Obj)) from hp) (by simp), e0.hok.kept hk, ?_⟩
  · exact name_of_addr x.apart (PySem.mem_of_lookup h1) (PySem.mem_of_lookup h2)
  · have hy : scope.names.lookup y = some .cell ∨ scope.names.lookup y = some .free := hy
    rcases hy with hy | hy
    · exact cell_has hy
    · exact absurd rfl (S.nofree _ (PySem.mem_of_lookup hy))
  · exact Nat.le_of_lt (x.above y c (PySem.mem_of_lookup h))
  · have hi : i < vs.length := by
      unfold start at h2
      by_cases hi : i < vs.length
      · exact hi
      · rw [List.getElem?_append_right (by simpa using hi)] at h2
        rw [List.getElem?_replicate] at h2
        split at h2 <;> cases h2
    have ha : vs[i]? = some v := by
      unfold start at h2
      rw [List.getElem?_append_left (by simpa using hi), List.getElem?_map] at h2
      cases e : vs[i]? with
      | none => rw [e] at h2; cases h2
      | some a => rw [e] at h2; cases h2; rfl
    obtain ⟨u, hu, rv⟩ := r.get ha
    have hp : ps[i]? = some y := by
      rw [← S.pre, List.getElem?_take_of_lt (by omega)]; exact h1
    have ndP : ps.Nodup := by rw [← S.pre]; exact S.nd.sublist (List.take_sublist _ _)
    refine ⟨u, rv, ?_⟩
    rcases S.par y (List.mem_of_getElem? hp) with k | k
    · exact .inl ⟨k, bindL_get ndP hp hu k⟩
    · obtain ⟨c, e⟩ := cell_has (n := s.heap.objs.size + 1) k
      refine .inr ⟨.inl k, c, e, ?_⟩
      have q := x.cell y c e
      rw [bindC_get ndP hp hu (by show scope.names.lookup y ≠ _; rw [k]; decide)] at q
      exact q
  · exact e0.hok.fresh (Nat.le_of_lt (x.above y c (PySem.mem_of_lookup h)))
  · unfold start
    show _ = N.length
    rw [List.length_append, List.length_map, List.length_replicate]
    omega

theorem fn_of {CX : CXT} {P : Program} {w : World} {K : PySem.W.Frag} {mg : Str → Option Value} {base : Heap} {k : Nat} {f : Addr} {name qual : Str} {params : Arguments} {body : List Stmt} {scope : Scope} {dV kV doc pm cdv ct oc : Value} {an od : Option Addr}
    {osl : Array (Option Value)} {N ps : List Str} {sp : Sp} (lk : K.lookup f = some ⟨oc, od, .func (PySem.W.fnOf name qual params body scope dV kV doc pm an cdv ct), osl⟩) (hcd : PySem.W.codeIn K cdv qual = true) (S : FnScope N ps scope)
    (len : ∀ vs H Q E, sp vs H Q E → vs.length = ps.length)
    (hbody : ∀ (A : Around) (outer : List Env) (s : Shared) (H : Hp) (vs : List V) (Q : VK) (E : XK), Room k (A.deeper (envOfC qual scope s.heap.objs.size f cdv)) → sp vs H Q E →
      ∃ t, PSs (cxOf CX P w K mg base N qual scope f cdv A outer s H E) body t ∧ t { nx := fun _ H' => Q .non H', rt := Q } (start N vs) H) :
    FnOk P w K mg base CX (k + 1) f (PySem.W.fnOf name qual params body scope dV kV doc pm an cdv ct) ps sp := by
  refine ⟨len, fun A outer s H args us vs Q E hr e0 hb r hsp => ?_⟩
  have hl := len _ _ _ _ hsp
  have KX : K.In s.heap := e0.mod.kin.keeps fun b o e => (e0.bs b o e).1
  have lim : s.heap.NoLimit := e0.mod.nolimit.keeps fun b o e => (e0.bs b o e).1
  have hkind : ∀ y ∈ ps.zip us, scope.names.lookup y.1 = some .local ∨ (scope.names.lookup y.1 = some .cell ∧ ((cellsFrom (s.heap.objs.size + 1) scope.names []).lookup y.1).isSome = true) := fun ⟨n, v⟩ hy => by
    rcases S.par n (List.of_mem_zip hy).1 with q | q
    · exact .inl q
    · exact .inr ⟨q, PySem.W.cellsFrom_some _ _ _ (.inl q)⟩
  refine codeAny_call_function hr.depth (KX _ _ lk) rfl S.co S.gen rfl (PySem.W.codeRec_of KX hcd) (hb _ _ _ _ ?_)
  refine wpAny_newFunctionEnv_cells S.kind hkind fun env he s1 x => ?_
  subst he
  refine ⟨lim.keeps x.toInCall.keep, codeAny_func ?_⟩
  obtain ⟨t, ht, hq⟩ := hbody A outer s H vs Q E (hr.deeper _) hsp
  have I : Inv (cxOf CX P w K mg base N qual scope f cdv A outer s H E) [] (start N vs) H s1 := inv_start S hr.hd e0 hl r x
  refine wpAny_mono (ht [] s1 (start N vs) H _ I hq) (fun fl s' hs => ?_) fun e s' hs => hs
  have fin : ∀ {σ' : St} {H' : Hp} {v : V} {u : Value}, Inv (cxOf CX P w K mg base N qual scope f cdv A outer s H E) [] σ' H' s' → RelV v u → Q v H' → CE outer P w H s Q u s' :=
    fun {σ' H' v u} J rv q => ⟨v, H', J.os, J.bare, J.base, J.hok, rv, q⟩
  cases fl with
  | ret u =>
    obtain ⟨v, σ', H', J, rv, q⟩ := hs
    exact fin J rv q
  | next =>
    obtain ⟨σ', H', J, q⟩ := hs
    exact fin (v := V.non) (u := Value.none) J rfl q
  | brk =>
    obtain ⟨_, _, _, q⟩ := hs
    exact False.elim q
  | cont =>
    obtain ⟨_, _, _, q⟩ := hs
    exact False.elim q
end L2.Internal

namespace L2.Internal
open PySem PySem.Spec PyProof.Rows
section
variable {X : Cx} {x : Str} {p pos : Pos} {e : Expr} {es : List Expr} {t : TA} {id T : String} {r : List V → Hp → VK → Prop}

noncomputable def tCB (r : List V → Hp → VK → Prop) (t : TA) : TE := fun σ H Q => t σ H fun vs H1 => r vs H1 Q
theorem pe_callB (hc : CallR X (.builtin id) r) (hg : Gl X x) (hm : X.mg x = none) (hv : bootBuiltins x = some (.builtin id)) (ha : PA X (e :: es) t) (hn : autoParam (x ≠ "__name__") L2.Internal.auD._auto_1) (hdb : autoParam ((x == ("__debug__" : Str)) = false) L2.Internal.auD._auto_1)
    (he : autoParam (starEach (e :: es) X.env = (false, eval e X.env) :: starEach es X.env) L2.Internal.auR._auto_1) (hpl : autoParam ((backTo pos (starEach es X.env)).any (·.1) = false) L2.Internal.auR._auto_1) : PE X (.Call (.Name x p) (e :: es) [] pos) (tCB r t) := by
  intro pins s σ H Q I h
  refine wpAny_Call_Name_kw (ld_blt I hg hm hv ?_ hn hdb)
  exact PyProof.Rows.callWith_builtin1 (thn (ha pos pins s σ H _ I h) fun us s1 ⟨vs, H1, I1, r1, q1⟩ => hc pins s1 σ H1 vs us Q I1 r1 q1) he hpl
theorem pe_callTy (hc : CallR X (.type T) r) (hg : Gl X x) (hm : X.mg x = none) (hv : bootBuiltins x = some (.type T)) (ha : PA X (e :: es) t) (hn : autoParam (x ≠ "__name__") L2.Internal.auD._auto_1) (hdb : autoParam ((x == ("__debug__" : Str)) = false) L2.Internal.auD._auto_1)
    (he : autoParam (starEach (e :: es) X.env = (false, eval e X.env) :: starEach es X.env) L2.Internal.auR._auto_1) (hpl : autoParam ((backTo pos (starEach es X.env)).any (·.1) = false) L2.Internal.auR._auto_1) : PE X (.Call (.Name x p) (e :: es) [] pos) (tCB r t) := by
  intro pins s σ H Q I h
  refine wpAny_Call_Name_kw (ld_blt I hg hm hv ?_ hn hdb)
  exact PyProof.Rows.callWith_type1 (thn (ha pos pins s σ H _ I h) fun us s1 ⟨vs, H1, I1, r1, q1⟩ => hc pins s1 σ H1 vs us Q I1 r1 q1) he hpl
end
end L2.Internal

namespace L2.Internal
open PySem PySem.Spec PyProof.Rows

section
variable {κ : Type} [DecidableEq κ]
noncomputable def valV (kvs : List (κ × V)) (k : κ) : Option V := (kvs.find? fun kv => decide (kv.1 = k)).map (·.2)
noncomputable def putK (kvs : List (κ × V)) (k : κ) (v : V) : List (κ × V) :=
  if (kvs.any fun kv => decide (kv.1 = k)) = true then kvs.map (fun kv => if kv.1 = k then (kv.1, v) else kv) else kvs ++ [(k, v)]
theorem valV_pos {p : κ × V} {r : List (κ × V)} {k : κ} (e : p.1 = k) : valV (p :: r) k = some p.2 := by simp [valV, List.find?_cons, e]
theorem valV_neg {p : κ × V} {r : List (κ × V)} {k : κ} (e : ¬ p.1 = k) : valV (p :: r) k = valV r k := by simp [valV, List.find?_cons, e]
theorem valV_any (k : κ) : ∀ kvs : List (κ × V), (kvs.any fun kv => decide (kv.1 = k)) = (valV kvs k).isSome
  | [] => rfl
  | p :: r => by
    rw [List.any_cons]
    by_cases e : p.1 = k
    · simp only [valV_pos e, decide_eq_true e, Bool.true_or, Option.isSome_some]
    · rw [valV_neg e, decide_eq_false e, Bool.false_or]; exact valV_any k r
theorem valV_map (k j : κ) (y : V) : ∀ kvs : List (κ × V), valV (kvs.map fun kv => if kv.1 = k then (kv.1, y) else kv) j = (valV kvs j).map fun x => if j = k then y else x
  | [] => rfl
  | p :: r => by
    have ih := valV_map k j y r
    rw [List.map_cons]
    by_cases h : p.1 = k
    · rw [if_pos h]
      by_cases e : p.1 = j
      · rw [valV_pos (p := (p.1, y)) e, valV_pos e, Option.map_some, if_pos (e.symm.trans h)]
      · rw [valV_neg (p := (p.1, y)) e, valV_neg e, ih]
    · rw [if_neg h]
      by_cases e : p.1 = j
      · rw [valV_pos (p := p) e, valV_pos e, Option.map_some, if_neg (fun z => h (e.trans z))]
      · rw [valV_neg (p := p) e, valV_neg e, ih]
theorem valV_snoc (k j : κ) (y : V) : ∀ kvs : List (κ × V), valV kvs k = none → valV (kvs ++ [(k, y)]) j = if j = k then some y else valV kvs j
  | [], _ => by
    by_cases e : k = j
    · rw [if_pos e.symm]; exact valV_pos (p := (k, y)) e
    · rw [if_neg (fun z => e z.symm)]; exact valV_neg (p := (k, y)) e
  | p :: r, hn => by
    rw [List.cons_append]
    have hk : ¬ p.1 = k := fun z => by rw [valV_pos z] at hn; cases hn
    rw [valV_neg hk] at hn
    have ih := valV_snoc k j y r hn
    by_cases e : p.1 = j
    · rw [valV_pos e, valV_pos e, if_neg (fun z => hk (e.trans z))]
    · rw [valV_neg e, valV_neg e, ih]
theorem valV_put (kvs : List (κ × V)) (k j : κ) (y : V) : valV (putK kvs k y) j = if j = k then some y else valV kvs j := by
  unfold putK
  by_cases a : (kvs.any fun kv => decide (kv.1 = k)) = true
  · rw [if_pos a, valV_map]
    rw [valV_any] at a
    by_cases e : j = k
    · obtain ⟨x, hx⟩ := Option.isSome_iff_exists.mp a
      rw [if_pos e, e, hx, Option.map_some, if_pos rfl]
    · rw [if_neg e]
      cases valV kvs j with
      | none => rfl
      | some x => rw [Option.map_some, if_neg e]
  · rw [if_neg a]
    refine valV_snoc k j y kvs ?_
    rw [valV_any] at a
    cases q : valV kvs k with
    | none => rfl
    | some x => rw [q] at a; exact (a rfl).elim
theorem length_putK (kvs : List (κ × V)) (k : κ) (v : V) : (putK kvs k v).length ≤ kvs.length + 1 := by
  unfold putK
  split
  · rw [List.length_map]; omega
  · rw [List.length_append, List.length_cons, List.length_nil]; omega
theorem putK_new {kvs : List (κ × V)} {k : κ} (v : V) (h : valV kvs k = none) : putK kvs k v = kvs ++ [(k, v)] := by
  unfold putK
  rw [valV_any, h]
  exact if_neg (by decide)

theorem RelO.isSome_eq {o : Option V} {u : Option Value} (r : RelO o u) : o.isSome = u.isSome := by
  cases o with
  | none => cases u with
    | none => rfl
    | some _ => exact (show False from r).elim
  | some _ => cases u with
    | none => exact (show False from r).elim
    | some _ => rfl
theorem KV.val {kvs : List (κ × V)} {vs : List (κ × Value)} (r : KV kvs vs) (k : κ) : RelO (valV kvs k) (valueAt vs k) := by
  unfold KV at r
  induction r with
  | nil => exact True.intro
  | @cons p q ps qs h t ih =>
    obtain ⟨h1, h2⟩ := h
    by_cases e : p.1 = k
    · have e' : q.1 = k := h1.symm.trans e
      have b : valueAt (q :: qs) k = some q.2 := by simp [valueAt, List.find?_cons, e']
      rw [valV_pos e, b]; exact h2
    · have e' : ¬ q.1 = k := fun z => e (h1.trans z)
      have b : valueAt (q :: qs) k = valueAt qs k := by simp [valueAt, List.find?_cons, e']
      rw [valV_neg e, b]; exact ih
theorem KV.any {kvs : List (κ × V)} {vs : List (κ × Value)} (r : KV kvs vs) (k : κ) : (kvs.any fun kv => decide (kv.1 = k)) = vs.any fun kv => decide (kv.1 = k) := by
  unfold KV at r
  induction r with
  | nil => rfl
  | cons h t ih => rw [List.any_cons, List.any_cons, ih, h.1]
theorem KV.repl {kvs : List (κ × V)} {vs : List (κ × Value)} (r : KV kvs vs) (k : κ) {y : V} {u : Value} (ry : RelV y u) :
    KV (kvs.map fun kv => if kv.1 = k then (kv.1, y) else kv) (vs.map fun kv => if kv.1 = k then (kv.1, u) else kv) := by
  unfold KV at r ⊢
  induction r with
  | nil => exact .nil
  | @cons p q ps qs h t ih =>
    rw [List.map_cons, List.map_cons]
    refine .cons ?_ ih
    obtain ⟨h1, h2⟩ := h
    by_cases e : p.1 = k
    · rw [if_pos e, if_pos (h1.symm.trans e)]; exact ⟨h1, ry⟩
    · rw [if_neg e, if_neg (fun z => e (h1.trans z))]; exact ⟨h1, h2⟩
theorem KV.put {kvs : List (κ × V)} {vs : List (κ × Value)} (r : KV kvs vs) (k : κ) {y : V} {u : Value} (ry : RelV y u) : KV (putK kvs k y) (stored vs k u) := by
  unfold putK stored
  rw [r.any k]
  by_cases e : (vs.any fun kv => decide (kv.1 = k)) = true
  · rw [if_pos e, if_pos e]; exact r.repl k ry
  · rw [if_neg e, if_neg e]; exact Paired.snoc r ⟨rfl, ry⟩
theorem KV.length {kvs : List (κ × V)} {vs : List (κ × Value)} (r : KV kvs vs) : kvs.length = vs.length := Paired.length r
end


theorem kV_is {P : Program} {w : World} {k : Key} {u : Value} (r : RelV (kV k) u) : (mixKind P w).is k u = true := by
  cases k with
  | inl i => obtain ⟨t, e⟩ := (show ∃ t, u = Value.int i t from r); subst e; exact mixKind_int P w i t
  | inr x => obtain ⟨t, e⟩ := (show ∃ t, u = Value.str x t from r); subst e; exact mixKind_str P w x t
theorem items_are {P : Program} {w : World} : ∀ {ks : List Key} {us : List Value}, Vals (ks.map kV) us → ItemsAre (mixKind P w) ks us
  | [], _, r => by rw [List.map_nil] at r; cases r; exact .nil
  | k :: ks, _, r => by
    rw [List.map_cons] at r
    cases r with
    | cons h t => exact .cons (kV_is h) (items_are t)

noncomputable abbrev KT (H : Hp) : List (List Key × V) → List (List Key × Addr × Value) → Prop := Paired fun p q => p.1 = q.1 ∧ H q.2.1 = some (.tup (p.1.map kV)) ∧ RelV p.2 q.2.2
theorem KT.val {H : Hp} {kvs : List (List Key × V)} {xs : List (List Key × Addr × Value)} (r : KT H kvs xs) (k : List Key) : RelO (valV kvs k) ((atKey xs k).map (·.2)) := by
  induction r with
  | nil => exact True.intro
  | @cons p q ps qs h t ih =>
    obtain ⟨h1, _, h2⟩ := h
    by_cases e : p.1 = k
    · have e' : q.1 = k := h1.symm.trans e
      have b : atKey (q :: qs) k = some q.2 := by simp [atKey, List.find?_cons, e']
      rw [valV_pos e, b]; exact h2
    · have e' : ¬ q.1 = k := fun z => e (h1.trans z)
      have b : atKey (q :: qs) k = atKey qs k := by simp [atKey, List.find?_cons, e']
      rw [valV_neg e, b]; exact ih
theorem KT.repl {H : Hp} {kvs : List (List Key × V)} {xs : List (List Key × Addr × Value)} (r : KT H kvs xs) (k : List Key) {y : V} {u : Value} (ry : RelV y u) :
    KT H (kvs.map fun kv => if kv.1 = k then (kv.1, y) else kv) (xs.map (putAt k u)) := by
  induction r with
  | nil => exact .nil
  | @cons p q ps qs h t ih =>
    rw [List.map_cons, List.map_cons]
    refine .cons ?_ ih
    obtain ⟨h1, h2, h3⟩ := h
    unfold putAt
    by_cases e : p.1 = k
    · rw [if_pos e, if_pos (h1.symm.trans e)]; exact ⟨h1, h2, ry⟩
    · rw [if_neg e, if_neg (fun z => e (h1.trans z))]; exact ⟨h1, h2, h3⟩
theorem KT.put {H : Hp} {kvs : List (List Key × V)} {xs : List (List Key × Addr × Value)} (r : KT H kvs xs) (k : List Key) {b : Addr} {y : V} {u : Value} (hb : H b = some (.tup (k.map kV))) (ry : RelV y u) :
    KT H (putK kvs k y) (storedH xs k b u) := by
  have e : (kvs.any fun kv => decide (kv.1 = k)) = (atKey xs k).isSome := by
    rw [valV_any, (r.val k).isSome_eq, Option.isSome_map]
  unfold putK storedH
  rw [e]
  by_cases q : (atKey xs k).isSome = true
  · rw [if_pos q, if_pos q]; exact r.repl k ry
  · rw [if_neg q, if_neg q]; exact Paired.snoc r ⟨rfl, hb, ry⟩
theorem KT.keeps {H H' : Hp} {kvs : List (List Key × V)} {xs : List (List Key × Addr × Value)} (r : KT H kvs xs) (ht : ∀ b ys, H b = some (.tup ys) → H' b = some (.tup ys)) : KT H' kvs xs :=
  Paired.mapP r fun _ _ z => ⟨z.1, ht _ _ z.2.1, z.2.2⟩

section
variable {P : Program} {w : World} {H : Hp} {h : Heap} {a : Addr}
theorem rd_of {u : HO} (ok : HOk P w H h) (e : Rd H a u) : ObjOk P w H h a u := e.ok ok
theorem dk_rd {kvs : List (Key × V)} (ok : HOk P w H h) (e : Rd H a (.dK kvs)) : kvs.length ≤ sizeLine ∧ (a == sysModules) = false ∧ ∃ vs, KV kvs vs ∧ h.DictOf (mixKind P w) a vs :=
  show ObjOk P w H h a (.dK kvs) from rd_of ok e
theorem dk_of {kvs : List (Key × V)} (ok : HOk P w H h) (e : H a = some (.dK kvs)) : kvs.length ≤ sizeLine ∧ (a == sysModules) = false ∧ ∃ vs, KV kvs vs ∧ h.DictOf (mixKind P w) a vs := dk_rd ok (.inl e)
theorem key_of {ks : List Key} (ok : HOk P w H h) (e : H a = some (.tup (ks.map kV))) : (tupleKind (mixKind P w)).is h ks a := by
  obtain ⟨_, its, r, o, h1, h2, n, h3, _⟩ := (show ObjOk P w H h a (.tup (ks.map kV)) from ok a _ e)
  exact ⟨o, its.toArray, n, h1, h2, h3, by simpa using items_are r⟩
theorem dt_rd {kvs : List (List Key × V)} (ok : HOk P w H h) (e : Rd H a (.dT kvs)) : kvs.length ≤ sizeLine ∧ (a == sysModules) = false ∧
    ∃ xs, KT H kvs xs ∧ h.DictOfH (tupleKind (mixKind P w)) a xs := by
  obtain ⟨z, y, xs, r, o, es, ep, h1, h2, h3, h4, h5⟩ := (show ObjOk P w H h a (.dT kvs) from rd_of ok e)
  refine ⟨z, y, xs, r, o, es, ep, h1, h2, h3, h4, fun x hx => ?_, h5⟩
  have all : ∀ {l : List (List Key × V)} {m : List (List Key × Addr × Value)}, KT H l m → ∀ x ∈ m, (tupleKind (mixKind P w)).is h x.1 x.2.1 := by
    intro l m q
    induction q with
    | nil => intro x hx; exact nomatch hx
    | @cons p q ps qs hq t ih =>
      intro x hx
      rcases List.mem_cons.mp hx with e | hx
      · subst e
        exact key_of ok (by rw [← hq.1]; exact hq.2.1)
      · exact ih x hx
  exact all r x hx
theorem dt_of {kvs : List (List Key × V)} (ok : HOk P w H h) (e : H a = some (.dT kvs)) : kvs.length ≤ sizeLine ∧ (a == sysModules) = false ∧
    ∃ xs, KT H kvs xs ∧ h.DictOfH (tupleKind (mixKind P w)) a xs := dt_rd ok (.inl e)
end

noncomputable def DGet (H : Hp) (a : Addr) (y : V) (r : Option V) : Prop :=
  (∃ kvs k, Rd H a (.dK kvs) ∧ y = kV k ∧ r = valV kvs k) ∨ ∃ kvs k b, Rd H a (.dT kvs) ∧ y = .ref b ∧ H b = some (.tup (k.map kV)) ∧ r = valV kvs k
noncomputable def DPut (H : Hp) (a : Addr) (y v : V) (H' : Hp) : Prop :=
  (∃ kvs k, H a = some (.dK kvs) ∧ y = kV k ∧ kvs.length < sizeLine ∧ H' = upd H a (.dK (putK kvs k v))) ∨
  ∃ kvs k b, H a = some (.dT kvs) ∧ y = .ref b ∧ H b = some (.tup (k.map kV)) ∧ kvs.length < sizeLine ∧ H' = upd H a (.dT (putK kvs k v))
theorem DGet.k {H : Hp} {a : Addr} {kvs : List (Key × V)} {k : Key} (e : H a = some (.dK kvs)) : DGet H a (kV k) (valV kvs k) := .inl ⟨kvs, k, .inl e, rfl, rfl⟩
theorem DPut.k {H : Hp} {a : Addr} {kvs : List (Key × V)} {k : Key} {v : V} (e : H a = some (.dK kvs)) (hl : kvs.length < sizeLine) : DPut H a (kV k) v (upd H a (.dK (putK kvs k v))) := .inl ⟨kvs, k, e, rfl, hl, rfl⟩
section
variable {X : Cx} {pins : List (Addr × Obj)} {σ : St} {H : Hp} {s : Shared} {a : Addr} {y v : V} {u r : Value} {o : Option V} {A : Around} {E : Value → Shared → Prop}

theorem Inv.big (I : Inv X pins σ H s) : sysModules < s.heap.objs.size := by
  have h : mainGlobals < s.heap.objs.size := (I.mod.glob.keeps I.bk).lt
  exact Nat.lt_trans (by decide) h

theorem d_getItem {Q : Value → Shared → Prop} (hu : A.units + 1 < cLine) (I : Inv X pins σ H s) (g : DGet H a y (some v)) (ry : RelV y u) (h : ∀ w' s', Inv X pins σ H s' → RelV v w' → Q w' s') :
    wpAny (model X.prog X.w) A (getItem (.ref a) u) Q E s := by
  rcases g with ⟨kvs, k, e, ey, l⟩ | ⟨kvs, k, b, e, ey, eb, l⟩
  · subst ey
    obtain ⟨z, hd, vs, rel, dd⟩ := dk_rd I.hok e
    obtain ⟨w', hw, rw'⟩ := RelO.some_of (v := v) (o := valueAt vs k) (by rw [l]; exact rel.val k)
    exact wpAny_getItem_of (kV_is ry) dd.mapOf hw (h w' _ (I.tok _) rw')
  · subst ey
    cases (show u = Value.ref b from ry)
    obtain ⟨z, hd, xs, rel, dd⟩ := dt_rd I.hok e
    obtain ⟨w', hw, rw'⟩ := RelO.some_of (v := v) (o := (atKey xs k).map (·.2)) (by rw [l]; exact rel.val k)
    obtain ⟨p, hp, hp2⟩ := Option.map_eq_some_iff.mp hw
    refine wpAny_getItem_heap (tupleKind_room_in1 hu) (key_of I.hok eb) dd hp ?_
    rw [hp2]
    exact h w' _ (I.tok _) rw'
theorem d_in {Q : Value → Shared → Prop} (hu : A.units + 1 < cLine) (I : Inv X pins σ H s) (g : DGet H a y o) (ry : RelV y u) (h : ∀ s', Inv X pins σ H s' → Q (.bool o.isSome) s') :
    wpAny (model X.prog X.w) A (compareOp .In u (.ref a)) Q E s := by
  rcases g with ⟨kvs, k, e, ey, l⟩ | ⟨kvs, k, b, e, ey, eb, l⟩
  · subst ey
    obtain ⟨z, hd, vs, rel, dd⟩ := dk_rd I.hok e
    refine wpAny_in_of (kV_is ry) hd dd.mapOf ?_
    rw [← (rel.val k).isSome_eq, ← l]
    exact h _ (I.tok _)
  · subst ey
    cases (show u = Value.ref b from ry)
    obtain ⟨z, hd, xs, rel, dd⟩ := dt_rd I.hok e
    refine wpAny_in_heap (tupleKind_room_in1 hu) (key_of I.hok eb) hd dd ?_
    have q := (rel.val k).isSome_eq
    rw [Option.isSome_map] at q
    rw [← q, ← l]
    exact h _ (I.tok _)
theorem d_notIn {Q : Value → Shared → Prop} (hu : A.units + 1 < cLine) (I : Inv X pins σ H s) (g : DGet H a y o) (ry : RelV y u) (h : ∀ s', Inv X pins σ H s' → Q (.bool (!o.isSome)) s') :
    wpAny (model X.prog X.w) A (compareOp .NotIn u (.ref a)) Q E s := by
  rcases g with ⟨kvs, k, e, ey, l⟩ | ⟨kvs, k, b, e, ey, eb, l⟩
  · subst ey
    obtain ⟨z, hd, vs, rel, dd⟩ := dk_rd I.hok e
    refine wpAny_notIn_of (kV_is ry) hd dd.mapOf ?_
    rw [← (rel.val k).isSome_eq, ← l]
    exact h _ (I.tok _)
  · subst ey
    cases (show u = Value.ref b from ry)
    obtain ⟨z, hd, xs, rel, dd⟩ := dt_rd I.hok e
    refine wpAny_notIn_heap (tupleKind_room_in1 hu) (key_of I.hok eb) hd dd ?_
    have q := (rel.val k).isSome_eq
    rw [Option.isSome_map] at q
    rw [← q, ← l]
    exact h _ (I.tok _)
theorem d_write {h' : Heap} {t' : Nat} {ob : HO} (I : Inv X pins σ H s) (mu : Mut (H a)) (hs : Heap.SameBut a s.heap h') (he : ∃ q, h'.get? a = some q) (new : ObjOk X.prog X.w (upd H a ob) h' a ob) :
    Inv X pins σ (upd H a ob) { s with heap := h', toks := t' } :=
  I.write (x := a) (e := a) mu (.inl rfl) (fun b q hb z => (hs.2 b hb).trans z) he new
theorem dk_new {P : Program} {w : World} {H' : Hp} {h' : Heap} {kvs : List (Key × V)} {vs : List (Key × Value)} (z : kvs.length ≤ sizeLine) (hd : (a == sysModules) = false) (rel : KV kvs vs) (dd : h'.DictOf (mixKind P w) a vs) :
    ObjOk P w H' h' a (.dK kvs) := ⟨z, hd, vs, rel, dd⟩
theorem d_setItem {H' : Hp} {Q : Unit → Shared → Prop} (hu : A.units + 1 < cLine) (I : Inv X pins σ H s) (g : DPut H a y v H') (ry : RelV y u) (rv : RelV v r) (h : ∀ s', Inv X pins σ H' s' → Q () s') :
    wpAny (model X.prog X.w) A (setItem (.ref a) u r) Q E s := by
  rcases g with ⟨kvs, k, e, ey, l, eH⟩ | ⟨kvs, k, b, e, ey, eb, l, eH⟩
  · subst ey eH
    obtain ⟨z, hd, vs, rel, dd⟩ := dk_of I.hok e
    have hz : vs.length ≤ sizeLine := by rw [← rel.length]; exact z
    have hl : (putK kvs k v).length ≤ sizeLine := by have := length_putK kvs k v; omega
    refine wpAny_setItem_pairs (hsz := hz) (kV_is ry) dd fun h' dd' hs => h _ ?_
    have he : ∃ q, h'.get? a = some q := let ⟨q, _, _, hq, _⟩ := dd'; ⟨q, hq⟩
    exact d_write I (by rw [e]; exact True.intro) hs he (dk_new hl hd (rel.put k rv) dd')
  · subst ey eH
    cases (show u = Value.ref b from ry)
    obtain ⟨z, hd, xs, rel, dd⟩ := dt_of I.hok e
    have hz : xs.length ≤ sizeLine := by rw [← Paired.length rel]; exact z
    have hl : (putK kvs k v).length ≤ sizeLine := by have := length_putK kvs k v; omega
    refine wpAny_setItem_heap (hsz := hz) (tupleKind_room_in1 hu) (key_of I.hok eb) dd fun h' dd' hs => h _ ?_
    obtain ⟨q, es, ep, hq, h2, h3, h4, _, h5⟩ := dd'
    refine d_write I (by rw [e]; exact True.intro) hs ⟨q, hq⟩ ⟨hl, hd, _, (rel.put k eb rv).keeps fun c ys ec => ?_, q, es, ep, hq, h2, h3, h4, h5⟩
    rw [upd_ne (ne_of ec e (fun z => nomatch z))]
    exact ec
end

section
variable {X : Cx} {pins : List (Addr × Obj)} {σ : St} {H : Hp} {s : Shared} {a : Addr} {kvs : List (Key × V)} {k : Key} {u : Value} {A : Around} {E : Value → Shared → Prop}
end


noncomputable def NoSl (i : Expr) : Prop := ∀ ov iv, subscripted i false ov iv = operate [ov, iv] (getItem ov iv)
theorem subD_of {prog : Program} {w : World} {A : Around} {E : Value → Shared → Prop} {s : Shared} {env : Env} {value slice : Expr} {pos : Pos} {T id : String} {Q : Value → Shared → Prop}
    (hl : typeLookup (.type T) "__getitem__" = pure (some (.builtin id))) (hs : NoSl slice)
    (h : wpAny (model prog w) A (eval value env) (fun o s₁ => wpAny (model prog w) A (eval slice env) (fun i s₂ => s₂.TypeIs o T ∧ wpAny (model prog w) A (getItem o i) Q E s₂) E s₁) E s) :
    wpAny (model prog w) A (eval (.Subscript value slice pos) env) Q E s := by
  refine Subscript_ (wpAny_mono h (fun o s₁ h₁ => wpAny_mono h₁ (fun i s₂ h₂ => ?_) fun _ _ x => x) fun _ _ x => x)
  obtain ⟨hT, h₂⟩ := h₂
  unfold subscriptTail
  refine wpAny_bind ?_
  rw [getitemInPython_of_ne hT.not_modules]
  refine wpAny_bind (wpAny_specialOf hT hl ?_)
  have fin : wpAny (model prog w) A (subscripted slice false o i) (fun r s₃ => wpAny (model prog w) A (letTemporaryGo value o r >>= fun _ => pure r) Q E s₃) E s₂ := by
    rw [hs o i]
    exact wpAny_operating (wpAny_mono h₂ (fun r s₃ h₃ => wpAny_bind (wpAny_letTemporaryGo (wpAny_pure h₃))) fun _ _ x => x)
  first
    | exact wpAny_pure (wpAny_bind fin)
    | exact wpAny_bind (wpAny_pure (wpAny_bind fin))
    | exact wpAny_bind fin

theorem dict_typeIs {X : Cx} {pins : List (Addr × Obj)} {σ : St} {H : Hp} {s : Shared} {a : Addr} {y : V} {o : Option V} (I : Inv X pins σ H s) (g : DGet H a y o) : s.TypeIs (.ref a) "dict" := by
  rcases g with ⟨kvs, k, e, _, _⟩ | ⟨kvs, k, b, e, _, _, _⟩
  · obtain ⟨_, _, vs, _, dd⟩ := dk_rd I.hok e
    exact dd.typeIs
  · obtain ⟨_, _, xs, _, dd⟩ := dt_rd I.hok e
    exact dd.typeIs
noncomputable def tDGet (td ty : TE) : TE := fun σ H Q => td σ H fun x H1 => ty σ H1 fun y H2 => ∃ a v, x = .ref a ∧ DGet H2 a y (some v) ∧ Q v H2
noncomputable def tDIn (ty td : TE) : TE := fun σ H Q => ty σ H fun y H1 => td σ H1 fun x H2 => ∃ a o, x = .ref a ∧ DGet H2 a y o ∧ Q (.bl o.isSome) H2
noncomputable def tDNotIn (ty td : TE) : TE := fun σ H Q => ty σ H fun y H1 => td σ H1 fun x H2 => ∃ a o, x = .ref a ∧ DGet H2 a y o ∧ Q (.bl (!o.isSome)) H2
noncomputable def sDPut (td ty tv : TE) : TS := fun D σ H => tv σ H fun v H1 => td σ H1 fun x H2 => ty σ H2 fun y H3 => ∃ a H4, x = .ref a ∧ DPut H3 a y v H4 ∧ D.nx σ H4
section
variable {X : Cx} {o i e value : Expr} {pos pos' tpos : Pos} {td ty tv : TE}
theorem pe_dget (hu : X.A.units + 1 < cLine) (ho : PE X o td) (hi : PE X i ty) (hs : NoSl i) : PE X (.Subscript o i pos) (tDGet td ty) := by
  intro pins s σ H Q I h
  refine subD_of PySem.F.slot_dict_getitem.lookup hs (thn (ho pins s σ H _ I h) fun u s1 ⟨x, H1, I1, rx, q1⟩ => thn (hi pins s1 σ H1 _ I1 q1) fun iv s2 ⟨y, H2, I2, ry, a, v, ex, g, q2⟩ => ?_)
  subst ex
  obtain rfl : u = Value.ref a := rx
  exact ⟨dict_typeIs I2 g, d_getItem hu I2 g ry fun w' s3 I3 rw' => ⟨v, H2, I3, rw', q2⟩⟩
theorem pc_din (hu : X.A.units + 1 < cLine) (hi : PE X i ty) (ho : PE X o td) : PC X .In i o (tDIn ty td) := by
  intro pins s σ H Q I h
  refine thn (hi pins s σ H _ I h) fun iv s1 ⟨y, H1, I1, ry, q1⟩ => thn (ho pins s1 σ H1 _ I1 q1) fun u s2 ⟨x, H2, I2, rx, a, ov, ex, g, q2⟩ => ?_
  subst ex
  obtain rfl : u = Value.ref a := rx
  exact d_in hu I2 g ry fun s3 I3 => ⟨.bl ov.isSome, H2, I3, rfl, q2⟩
theorem pc_dnotin (hu : X.A.units + 1 < cLine) (hi : PE X i ty) (ho : PE X o td) : PC X .NotIn i o (tDNotIn ty td) := by
  intro pins s σ H Q I h
  refine thn (hi pins s σ H _ I h) fun iv s1 ⟨y, H1, I1, ry, q1⟩ => thn (ho pins s1 σ H1 _ I1 q1) fun u s2 ⟨x, H2, I2, rx, a, ov, ex, g, q2⟩ => ?_
  subst ex
  obtain rfl : u = Value.ref a := rx
  exact d_notIn hu I2 g ry fun s3 I3 => ⟨.bl (!ov.isSome), H2, I3, rfl, q2⟩
theorem ps_dput (hu : X.A.units + 1 < cLine) (ho : PE X o td) (hi : PE X i ty) (hv : PE X value tv) (hs : swapsWith value (some (.Subscript o i pos')) pos.line X.env = pure false) :
    PS X (.Assign [.Subscript o i pos'] value pos) (sDPut td ty tv) := by
  intro pins s σ H D I h
  refine wpAny_Assign_Subscript (thn (hv pins s σ H _ I h) fun r s1 ⟨v, H1, I1, rv, q1⟩ => thn (ho pins s1 σ H1 _ I1 q1) fun u s2 ⟨x, H2, I2, rx, q2⟩ => thn (hi pins s2 σ H2 _ I2 q2) fun iv s3 ⟨y, H3, I3, ry, a, H4, ex, g, q3⟩ => ?_) hs
  subst ex
  obtain rfl : u = Value.ref a := rx
  exact d_setItem hu I3 g ry rv fun s4 I4 => ⟨σ, H4, I4, q3⟩
end


theorem dk_empty {P : Program} {w : World} {H : Hp} (h : Heap) (hb : sysModules < h.objs.size) : ObjOk P w H (h.push { cls := .type "dict", data := .dict #[] }) h.objs.size (.dK []) :=
  ⟨Nat.zero_le _, beq_eq_false_iff_ne.mpr (Ne.symm (Nat.ne_of_lt hb)), [], .nil, Heap.DictOf.new h⟩
noncomputable def tDNewK : TE := fun _ H Q => ∀ p, H p = none → Q (.ref p) (upd H p (.dK []))
section
variable {X : Cx} {pos : Pos}
theorem pe_dnewK : PE X (.Dict [] [] pos) tDNewK := fun pins s σ H Q I h =>
  wpAny_Dict_empty ⟨.ref s.heap.objs.size, _, I.laid (a := s.heap.objs.size) (o := .dK []) (t' := s.toks) (fun _ _ q => Heap.get?_push_of_some _ q) (Nat.le_refl _) (dk_empty s.heap I.big), rfl, h _ (I.hok.fresh (Nat.le_refl _))⟩
end

noncomputable def mergeK (kvs more : List (Key × V)) : List (Key × V) := more.foldl (fun acc kv => putK acc kv.1 kv.2) kvs
theorem KV.merge : ∀ {more : List (Key × V)} {rs : List (Key × Value)} {kvs : List (Key × V)} {vs : List (Key × Value)}, KV more rs → KV kvs vs → KV (mergeK kvs more) (merged vs rs) := by
  intro more rs kvs vs r
  unfold KV at r
  induction r generalizing kvs vs with
  | nil => intro q; exact q
  | @cons p q ps qs h t ih =>
    intro r0
    have e : KV (putK kvs p.1 p.2) (stored vs q.1 q.2) := by
      have := r0.put p.1 h.2
      rw [← h.1]; exact this
    exact ih e
theorem length_mergeK : ∀ (more kvs : List (Key × V)), (mergeK kvs more).length ≤ kvs.length + more.length
  | [], kvs => by show kvs.length ≤ kvs.length + 0; omega
  | p :: r, kvs => by
    have h1 := length_mergeK r (putK kvs p.1 p.2)
    have h2 := length_putK kvs p.1 p.2
    show (mergeK (putK kvs p.1 p.2) r).length ≤ _
    rw [List.length_cons]; omega
structure M1 (X : Cx) (o : Expr) (m : Str) (apos : Pos) (e : Expr) (cpos : Pos) : Prop where
  base : attributeBase o m X.env (eval o X.env) = eval o X.env
  few : ((backTo cpos (starEach [e] X.env)).all (fun x => !x.1) && (backToKw cpos (keywordEach [] X.env)).all (fun x => x.1.isSome)
    && decide (([e] : List Expr).length + ([] : List Keyword).length + (if ([] : List Keyword).isEmpty then 0 else 1) < 30)) = true
  line : (apos.endLine == cpos.line) = true
  trees : backTo cpos (starEach [e] X.env) = [(false, eval e X.env)]
structure M2 (X : Cx) (o : Expr) (m : Str) (apos : Pos) (e f : Expr) (cpos : Pos) : Prop where
  base : attributeBase o m X.env (eval o X.env) = eval o X.env
  few : ((backTo cpos (starEach [e, f] X.env)).all (fun x => !x.1) && (backToKw cpos (keywordEach [] X.env)).all (fun x => x.1.isSome)
    && decide (([e, f] : List Expr).length + ([] : List Keyword).length + (if ([] : List Keyword).isEmpty then 0 else 1) < 30)) = true
  line : (apos.endLine == cpos.line) = true
  trees : backTo cpos (starEach [e, f] X.env) = [(false, eval e X.env), (false, eval f X.env)]

section
variable {X : Cx} {pins : List (Addr × Obj)} {σ : St} {H : Hp} {s : Shared} {a : Addr} {y d : V} {u r : Value} {o : Option V} {A : Around} {E : Value → Shared → Prop}
end

section
variable {X : Cx} {o e f : Expr} {apos cpos : Pos} {td ty tx : TE}
end

section
variable {X : Cx} {pins : List (Addr × Obj)} {σ : St} {H : Hp} {s : Shared} {a : Addr} {kvs : List (Key × V)} {A : Around} {E : Value → Shared → Prop}
end


section
variable {X : Cx} {pins : List (Addr × Obj)} {σ : St} {H : Hp} {s : Shared} {a : Addr} {y : V} {u : Value} {A : Around} {E : Value → Shared → Prop}
end
end L2.Internal

namespace HT.Internal
open PySem PyProof.Rows

section
open PySem.SeqAt
open PySem.AutoSeq1 (wpAny_loadPart')
open PySem.MeetsSeq PySem.MeetsSeq2 PySem.MeetsSeq3

end

section
variable {prog : Program} {w : World} {A : Around} {E : Value → Shared → Prop} {s : Shared}

theorem cat_tup {t b : Addr} {vs ws : List Value} {Q : Value → Shared → Prop} (ht : IsTup s.heap t vs.toArray) (hb : IsTup s.heap b ws.toArray) (hv : vs ≠ [])
    (h1 : ws = [] → Q (.ref t) s) (h2 : ws ≠ [] → Q (.ref s.heap.objs.size) { s with heap := s.heap.push { cls := .type "tuple", data := .seq (vs ++ ws).toArray } })
    (hsz : vs.length + ws.length ≤ sizeLine) : wpAny (model prog w) A (binaryOp .Add (.ref t) (.ref b)) Q E s := by
  obtain ⟨⟨cls, dd, data, sl⟩, ho, hc, n, hd⟩ := id ht
  obtain ⟨⟨cls2, dd2, data2, sl2⟩, ho2, hc2, n2, hd2⟩ := id hb
  simp only at hc hd hc2 hd2
  subst hc hd hc2 hd2
  have e : vs.toArray ++ ws.toArray = (vs ++ ws).toArray := by simp
  by_cases hw : ws = []
  · exact concat_meets ⟨_, ho, rfl⟩ ⟨_, ho2, rfl⟩ noFill_tuple_add seq_tuple_add PySem.F.slot_tuple_add PySem.F.entry_tuple_add (PySem.F.args_tuple_add_2 _ _)
      (tuple_addW1 t b vs.toArray ws.toArray n n2 dd dd2 sl sl2 (by simpa using hv) (by simp [hw])) ⟨ho, ho2, h1 hw⟩
  · refine concat_meets ⟨_, ho, rfl⟩ ⟨_, ho2, rfl⟩ noFill_tuple_add seq_tuple_add PySem.F.slot_tuple_add PySem.F.entry_tuple_add (PySem.F.args_tuple_add_2 _ _)
      (tuple_addW2 t b vs.toArray ws.toArray n n2 dd dd2 sl sl2 (by simpa using hv) (by simpa using hw) (by rw [List.size_toArray, List.size_toArray]; exact hsz)) ⟨ho, ho2, ?_⟩
    rw [e]
    exact h2 hw

noncomputable def sIx (n d : Nat) : Option Int → Nat
  | none => d
  | some v => if v < 0 then (v + (n : Int)).toNat else min v.toNat n
theorem sIx_none (n d : Nat) : sIx n d none = d := rfl
theorem sIx_nat (n d k : Nat) : sIx n d (some (k : Int)) = min k n := by
  show (if (k : Int) < 0 then ((k : Int) + (n : Int)).toNat else min (k : Int).toNat n) = min k n
  rw [if_neg (by omega), Int.toNat_natCast]
theorem sIx_le (n d : Nat) (hd : d ≤ n) (o : Option Int) : sIx n d o ≤ n := by
  cases o with
  | none => exact hd
  | some v =>
    show (if v < 0 then (v + (n : Int)).toNat else min v.toNat n) ≤ n
    by_cases hv : v < 0
    · rw [if_pos hv]; omega
    · rw [if_neg hv]; exact Nat.min_le_right _ _
theorem clip_eq (v : Int) (n d : Nat) : (if v < 0 then max (v + (n : Int)) 0 else min v (n : Int)) = ((sIx n d (some v) : Nat) : Int) := by
  show (if v < 0 then max (v + (n : Int)) 0 else min v (n : Int)) = (((if v < 0 then (v + (n : Int)).toNat else min v.toNat n) : Nat) : Int)
  by_cases hv : v < 0
  · simp only [if_pos hv]; omega
  · simp only [if_neg hv]; omega
theorem adjust_gen (lo hi : Option Int) (n : Nat) : Builtin.Slice.sliceAdjust lo hi 1 (n : Int) = (((sIx n 0 lo : Nat) : Int), ((sIx n n hi : Nat) : Int)) := by
  have h1 : ¬ ((1 : Int) < 0) := by omega
  unfold Builtin.Slice.sliceAdjust
  simp only [h1, if_false]
  refine Prod.ext ?_ ?_
  · cases lo with
    | none => rfl
    | some v => exact clip_eq v n 0
  · cases hi with
    | none => rfl
    | some v => exact clip_eq v n n
theorem places_gen (i j : Nat) : Builtin.Slice.slicePlaces (i : Int) (j : Int) 1 = j - i := by
  unfold Builtin.Slice.slicePlaces
  have h1 : (1 : Int) > 0 := by omega
  simp only [h1, if_true, Int.ediv_one]
  split <;> omega
theorem slicePart_ {v : Value} {o : Option Int} {Q : Option Int → Shared → Prop} (p : IsPart v o) (h : Q o s) : wpAny (model prog w) A (Builtin.Slice.slicePartIndex v) Q E s := by
  cases p with
  | none => exact slicePart_none h
  | int i t => exact slicePart_int h
theorem sliceApplied_gen {sl : Addr} {vl vu : Value} {lo hi : Option Int} {n : Nat} {Q : Int × Int × Nat → Shared → Prop} (hs : s.heap.IsSliceOf sl vl vu .none) (pl : IsPart vl lo) (pu : IsPart vu hi)
    (h : Q (((sIx n 0 lo : Nat) : Int), 1, sIx n n hi - sIx n 0 lo) s) : wpAny (model prog w) A (Builtin.Slice.sliceApplied (.ref sl) (pure (n : Int))) Q E s := by
  obtain ⟨os, hos, hcs, hds⟩ := id hs
  unfold Builtin.Slice.sliceApplied Builtin.Slice.sliceFields
  refine wpAny_bind (wpAny_bind (wpAny_field hos hds (x := vl) rfl (wpAny_bind (wpAny_field hos hds (x := vu) rfl (wpAny_bind (wpAny_field hos hds (x := .none) rfl (wpAny_pure ?_)))))))
  refine wpAny_bind (slicePart_none ?_)
  show wpAny _ _ (if ((1 : Int) == 0) = true then _ else _) _ _ s
  rw [if_neg (by decide)]
  refine wpAny_bind (slicePart_ pl (wpAny_bind (slicePart_ pu (wpAny_bind (wpAny_pure ?_)))))
  show wpAny _ _ (match Builtin.Slice.sliceAdjust lo hi 1 (n : Int) with | (lo, hi) => pure (lo, (1 : Int), Builtin.Slice.slicePlaces lo hi 1)) _ _ s
  rw [adjust_gen lo hi n]
  show wpAny _ _ (pure (((sIx n 0 lo : Nat) : Int), (1 : Int), Builtin.Slice.slicePlaces ((sIx n 0 lo : Nat) : Int) ((sIx n n hi : Nat) : Int) 1)) _ _ s
  rw [places_gen]
  exact wpAny_pure h
theorem pick_gen (xs : Array Value) (i k : Nat) : ((List.range k).filterMap fun (m : Nat) => xs[((i : Int) + (m : Int) * 1).toNat]?).toArray = ((xs.toList.drop i).take k).toArray := by
  have e : (fun (m : Nat) => xs[((i : Int) + (m : Int) * 1).toNat]?) = fun m => xs[i + m]? := by
    funext m
    have : ((i : Int) + (m : Int) * 1).toNat = i + m := by omega
    rw [this]
  rw [e]
  have := pick_run xs i k
  rw [List.filterMap_map] at this
  have e2 : ((fun x => xs[x]?) ∘ fun x => i + x) = fun m => xs[i + m]? := rfl
  rw [e2] at this
  rw [this]

theorem getItem_tuple_cut {t sl : Addr} {items : Array Value} {vl vu : Value} {lo hi : Option Int} {Q : Value → Shared → Prop} (ht : IsTup s.heap t items) (hs : s.heap.IsSliceOf sl vl vu .none) (pl : IsPart vl lo) (pu : IsPart vu hi)
    (hw : ¬ (sIx items.size 0 lo = 0 ∧ sIx items.size items.size hi = items.size))
    (h : Q (.ref s.heap.objs.size) { s with heap := s.heap.push { cls := .type "tuple", data := .seq ((items.toList.drop (sIx items.size 0 lo)).take (sIx items.size items.size hi - sIx items.size 0 lo)).toArray } })
    (hsz : items.size ≤ sizeLine) : wpAny (model prog w) A (getItem (.ref t) (.ref sl)) Q E s := by
  have htake : sizeOk (.seq ((items.toList.drop (sIx items.size 0 lo)).take (sIx items.size items.size hi - sIx items.size 0 lo)).toArray) := by
    show ((items.toList.drop (sIx items.size 0 lo)).take (sIx items.size items.size hi - sIx items.size 0 lo)).toArray.size ≤ sizeLine
    rw [List.size_toArray, List.length_take, List.length_drop, Array.length_toList]
    omega
  have hj : sIx items.size items.size hi ≤ items.size := sIx_le _ _ (Nat.le_refl _) hi
  obtain ⟨os, hos, hcs, hds⟩ := id hs
  have hTs : s.TypeIs (.ref sl) "slice" := ⟨os, hos, hcs⟩
  unfold getItem
  try with_reducible refine wpAny_holding ?_
  first | refine wpAny_bind (wpAny_pure ?_) | skip
  refine wpAny_bind (wpAny_sequenceKey ht.typeIs (by decide) ?_)
  refine wpAny_bind (wpAny_callSpecial?_slot (name := Str.ofString "__getitem__") ht.typeIs PyProof.Rows.slot_tuple_getitem
    (wpAny_call_entry PyProof.Rows.slot_tuple_getitem ht.typeIs entry_tuple_getitem ?_ (args_tuple_getitem _ _)))
  show wpAny _ _ (Builtin.Tuple.tupleItemsOf (.ref t) >>= _) _ _ s
  refine wpAny_bind (tupleItemsOf_ ht ?_)
  refine wpAny_bind (wpAny_typeOf hTs ?_)
  rw [if_pos (by decide)]
  refine wpAny_bind (sliceApplied_gen hs pl pu ?_)
  have hno : ¬ ((((sIx items.size 0 lo : Nat) : Int) == 0 && (1 : Int) == 1 && (sIx items.size items.size hi - sIx items.size 0 lo) == items.size) = true) := by
    intro q
    rw [Bool.and_eq_true, Bool.and_eq_true] at q
    have q1 : ((sIx items.size 0 lo : Nat) : Int) = 0 := eq_of_beq q.1.1
    have q2 : sIx items.size items.size hi - sIx items.size 0 lo = items.size := eq_of_beq q.2
    exact hw ⟨by omega, by omega⟩
  show wpAny _ _ (if (((sIx items.size 0 lo : Nat) : Int) == 0 && (1 : Int) == 1 && (sIx items.size items.size hi - sIx items.size 0 lo) == items.size) = true then _ else _) _ _ s
  rw [if_neg hno, pick_gen]
  first
    | exact wpAny_bind (m := Builtin.Tuple.tupleExact _) (wpAny_newObj_type (wpAny_pure ⟨_, rfl, wpAny_pure h⟩) htake)
    | exact wpAny_bind (m := Builtin.Tuple.tupleExact _) (wpAny_newObj_type (wpAny_bind (wpAny_pure (wpAny_pure ⟨_, rfl, wpAny_pure h⟩))) htake)
    | exact wpAny_bind (wpAny_bind (m := Builtin.Tuple.tupleExact _) (wpAny_newObj_type (wpAny_pure (wpAny_pure ⟨_, rfl, wpAny_pure h⟩)) htake))
    | exact wpAny_bind (wpAny_bind (m := Builtin.Tuple.tupleExact _) (wpAny_newObj_type (wpAny_pure ⟨_, rfl, wpAny_pure h⟩) htake))
end
end HT.Internal

namespace L2.Internal
open PySem PySem.Spec PyProof.Rows

noncomputable abbrev TO := St → Hp → (Option Int → Hp → Prop) → Prop
noncomputable def PO (X : Cx) (e : Option Expr) (t : TO) : Prop :=
  ∀ (pins : List (Addr × Obj)) (s : Shared) (σ : St) (H : Hp) (Q : Option Int → Hp → Prop), Inv X pins σ H s → t σ H Q →
    wpAny (model X.prog X.w) X.A (evalPart e X.env) (fun u s' => ∃ o H', Inv X pins σ H' s' ∧ IsPart u o ∧ Q o H') X.xe s
noncomputable def tNoPart : TO := fun _ H Q => Q none H
noncomputable def tPart (t : TE) : TO := fun σ H Q => t σ H fun x H1 => ∃ i, x = .int i ∧ Q (some i) H1

theorem intsAre_of {ns : List Int} : ∀ {us : List Value}, Vals (ns.map V.int) us → IntsAre us ns := by
  induction ns with
  | nil => intro us r; rw [List.map_nil] at r; cases r; exact .nil
  | cons n ns ih =>
    intro us r
    rw [List.map_cons] at r
    cases r with
    | cons r1 r2 =>
      obtain ⟨t, e⟩ := r1
      subst e
      exact .cons n t (ih r2)

section
variable {X : Cx} {e : Expr} {te : TE} {lo hi : Option Expr} {tl th : TO} {pos p2 : Pos}

theorem po_none : PO X none tNoPart := by
  intro pins s σ H Q I h
  rw [evalPart_none]
  exact wpAny_pure ⟨none, H, I, .none, h⟩
theorem po_some (h : PE X e te) : PO X (some e) (tPart te) := by
  intro pins s σ H Q I hw
  rw [evalPart_some]
  refine thn (h pins s σ H _ I hw) fun u s1 ⟨x, H1, I1, r1, q1⟩ => ?_
  obtain ⟨i, rfl, q⟩ := q1
  obtain ⟨t, rfl⟩ := r1
  exact ⟨some i, H1, I1, .int i t, q⟩

noncomputable def SlR (X : Cx) (r : V → Option Int → Option Int → Hp → VK → Prop) : Prop :=
  ∀ (pins : List (Addr × Obj)) (s : Shared) (σ : St) (H : Hp) (x : V) (v vl vu : Value) (lo hi : Option Int) (sl : Addr) (Q : VK), Inv X pins σ H s → RelV x v → s.heap.IsSliceOf sl vl vu .none → IsPart vl lo → IsPart vu hi → r x lo hi H Q →
    ∃ T id, typeLookup (.type T) "__getitem__" = pure (some (.builtin id)) ∧ s.TypeIs v T ∧ wpAny (model X.prog X.w) X.A (getItem v (.ref sl)) (EP X pins σ Q) X.xe s
noncomputable def tSl (r : V → Option Int → Option Int → Hp → VK → Prop) (te : TE) (tl th : TO) : TE := fun σ H Q => te σ H fun x H1 => tl σ H1 fun l H2 => th σ H2 fun u H3 => r x l u H3 Q
theorem pe_slice {r : V → Option Int → Option Int → Hp → VK → Prop} (hr : SlR X r) (he : PE X e te) (hl : PO X lo tl) (hu : PO X hi th) : PE X (.Subscript e (.Slice lo hi none p2) pos) (tSl r te tl th) := by
  intro pins s σ H Q I h
  refine Subscript_ (thn (he pins s σ H _ I h) fun v s1 ⟨x, H1, I1, r1, q1⟩ => ?_)
  refine wpAny_Slice (thn (hl pins s1 σ H1 _ I1 q1) fun vl s2 ⟨l, H2, I2, pl, q2⟩ => thn (hu pins s2 σ H2 _ I2 q2) fun vu s3 ⟨u, H3, I3, pu, q3⟩ => ?_)
  rw [evalPart_none]
  refine wpAny_pure ?_
  have I4 : Inv X pins σ H3 { s3 with heap := s3.heap.push { cls := .type "slice", data := .fields #[vl, vu, .none] } } := I3.kept (t' := s3.toks) fun b ob q => Heap.get?_push_of_some _ q
  obtain ⟨T, id, hT, ht, hg⟩ := hr pins { s3 with heap := s3.heap.push { cls := .type "slice", data := .fields #[vl, vu, .none] } } σ H3 x v vl vu l u s3.heap.objs.size Q I4 r1 (Heap.IsSliceOf.new ..) pl pu q3
  show wpAny (model X.prog X.w) X.A (subscriptTail e (.Slice lo hi none p2) v (.ref s3.heap.objs.size)) (EP X pins σ Q) X.xe { s3 with heap := s3.heap.push { cls := .type "slice", data := .fields #[vl, vu, .none] } }
  exact tail_any (ops := [.ref s3.heap.objs.size, v]) ht hT hg (by with_unfolding_all rfl)

noncomputable def cutV (xs : List V) (lo hi : Option Int) : List V := (xs.drop (HT.Internal.sIx xs.length 0 lo)).take (HT.Internal.sIx xs.length xs.length hi - HT.Internal.sIx xs.length 0 lo)
theorem cutV_length (xs : List V) (lo hi : Option Int) : (cutV xs lo hi).length ≤ xs.length := by
  unfold cutV
  rw [List.length_take, List.length_drop]
  omega
noncomputable def rSlT (K : PySem.W.Frag) : V → Option Int → Option Int → Hp → VK → Prop := fun x lo hi H Q => ∃ a xs, x = .ref a ∧ SqT K H a xs ∧
  ¬ (HT.Internal.sIx xs.length 0 lo = 0 ∧ HT.Internal.sIx xs.length xs.length hi = xs.length) ∧ ∀ p, H p = none → Q (.ref p) (upd H p (.tup (cutV xs lo hi)))
theorem sl_tup : SlR X (rSlT X.K) := by
  intro pins s σ H x v vl vu lo hi sl Q I rx hs pl pu h
  obtain ⟨a, xs, rfl, hx, hw, q⟩ := h
  cases rx
  obtain ⟨its, r, ht, hz⟩ := I.tuple hx
  have hlen : its.toArray.size = xs.length := by rw [List.size_toArray]; exact r.length.symm
  refine ⟨"tuple", _, PyProof.Rows.slot_tuple_getitem.lookup, ht.typeIs, ?_⟩
  refine HT.Internal.getItem_tuple_cut ht hs pl pu (by rw [hlen]; exact hw) ?_ (by rw [hlen]; exact hz)
  rw [hlen]
  refine ⟨.ref s.heap.objs.size, _, I.laid (t' := s.toks) (o := .tup (cutV xs lo hi)) (fun b ob q => Heap.get?_push_of_some _ q) (Nat.le_refl _) ?_, rfl, q _ (I.hok.fresh (Nat.le_refl _))⟩
  exact ⟨Nat.le_trans (cutV_length xs lo hi) hz, _, (r.drop (HT.Internal.sIx xs.length 0 lo)).take (HT.Internal.sIx xs.length xs.length hi - HT.Internal.sIx xs.length 0 lo), Tup0.new _ _⟩

noncomputable def rCatT (K : PySem.W.Frag) : R2 := fun x y H Q => ∃ a b xs ys, x = .ref a ∧ y = .ref b ∧ SqT K H a xs ∧ SqT K H b ys ∧ xs ≠ [] ∧ xs.length + ys.length ≤ sizeLine ∧
  (ys = [] → Q (.ref a) H) ∧ (ys ≠ [] → ∀ p, H p = none → Q (.ref p) (upd H p (.tup (xs ++ ys))))
theorem Vals.nil_iff {xs : List V} {us : List Value} (r : Vals xs us) : us = [] ↔ xs = [] := by
  cases r with
  | nil => simp
  | cons _ _ => simp
theorem op_catT : OpR X (binaryOp .Add) (rCatT X.K) := by
  intro pins s σ H x y v u Q I rx ry h
  obtain ⟨a, b, xs, ys, rfl, rfl, ha, hb, hx, hz, q1, q2⟩ := h
  cases rx
  cases ry
  obtain ⟨its, r1, p1, _⟩ := I.tuple ha
  obtain ⟨its2, r2, p2, _⟩ := I.tuple hb
  refine HT.Internal.cat_tup p1 p2 (fun z => hx (r1.nil_iff.mp z)) (fun z => ⟨.ref a, H, I, rfl, q1 (r2.nil_iff.mp z)⟩) (fun z => ?_) (by rw [← r1.length, ← r2.length]; exact hz)
  refine ⟨.ref s.heap.objs.size, _, I.laid (t' := s.toks) (o := .tup (xs ++ ys)) (fun b ob q => Heap.get?_push_of_some _ q) (Nat.le_refl _) ?_, rfl, q2 (fun w => z (r2.nil_iff.mpr w)) _ (I.hok.fresh (Nat.le_refl _))⟩
  exact ⟨by rw [List.length_append]; exact hz, _, r1.append r2, Tup0.new _ _⟩
end
end L2.Internal

namespace L2.Internal
open PySem PySem.Spec PyProof.Rows

noncomputable def ixN (n : Nat) (i : Int) : Option Nat := if 0 ≤ i then (if i < n then some i.toNat else none) else if -(n : Int) ≤ i then some (i + n).toNat else none
noncomputable def atI {α : Type} (xs : List α) (i : Int) : Option α := (ixN xs.length i).bind fun j => xs[j]?
theorem ixN_seq {n : Nat} {i : Int} {j : Nat} (h : ixN n i = some j) : seqIndex? i n = some j ∧ j < n ∧ -(n : Int) ≤ i ∧ i < n := by
  unfold ixN at h
  by_cases h0 : 0 ≤ i
  · rw [if_pos h0] at h
    by_cases h1 : i < n
    · rw [if_pos h1] at h
      have e : i.toNat = j := Option.some.inj h
      exact ⟨by rw [seqIndex_of h0 h1, e], by omega, by omega, h1⟩
    · rw [if_neg h1] at h; cases h
  · rw [if_neg h0] at h
    by_cases h1 : -(n : Int) ≤ i
    · rw [if_pos h1] at h
      have e : (i + n).toNat = j := Option.some.inj h
      exact ⟨by rw [seqIndex_neg (by omega) h1, e], by omega, h1, by omega⟩
    · rw [if_neg h1] at h; cases h
theorem atI_get {α : Type} {xs : List α} {i : Int} {v : α} (h : atI xs i = some v) : ∃ j, seqIndex? i xs.length = some j ∧ xs[j]? = some v ∧ j < xs.length ∧ -(xs.length : Int) ≤ i ∧ i < xs.length := by
  unfold atI at h
  cases e : ixN xs.length i with
  | none => rw [e] at h; cases h
  | some j =>
    rw [e] at h
    obtain ⟨h1, h2, h3, h4⟩ := ixN_seq e
    exact ⟨j, h1, h, h2, h3, h4⟩
theorem atI_nat {α : Type} {xs : List α} {j : Nat} {v : α} (h : xs[j]? = some v) : atI xs (j : Int) = some v := by
  have hj : j < xs.length := (List.getElem?_eq_some_iff.mp h).1
  have e : ixN xs.length (j : Int) = some j := by
    unfold ixN
    rw [if_pos (by omega), if_pos (by omega)]; simp
  unfold atI; rw [e]; exact h
noncomputable def PlainIx (b : Expr) : Prop := ∀ o i, subscripted b false o i = operate [o, i] (getItem o i)
noncomputable def IxR (X : Cx) (r : R2) : Prop :=
  ∀ (value slice : Expr) (pins : List (Addr × Obj)) (s : Shared) (σ : St) (H : Hp) (x y : V) (v u : Value) (Q : VK), Inv X pins σ H s → RelV x v → RelV y u → r x y H Q →
    subscripted slice false v u = operate [v, u] (getItem v u) → wpAny (model X.prog X.w) X.A (subscriptTail value slice v u) (EP X pins σ Q) X.xe s
noncomputable def MtR (X : Cx) (id : String) (r : V → List V → Hp → VK → Prop) : Prop :=
  ∀ (pins : List (Addr × Obj)) (s : Shared) (σ : St) (H : Hp) (x : V) (xs : List V) (v : Value) (us : List Value) (Q : VK), Inv X pins σ H s → RelV x v → Vals xs us → r x xs H Q →
    wpAny (model X.prog X.w) X.A (call (.builtin id) (v :: us)) (EP X pins σ Q) X.xe s
section
variable {X : Cx} {a b : Expr} {ta tb : TE} {pos : Pos}
theorem pe_ix {r : R2} (hr : IxR X r) (ha : PE X a ta) (hb : PE X b tb) (hs : PlainIx b) : PE X (.Subscript a b pos) (tOp r ta tb) := by
  intro pins s σ H Q I h
  exact Subscript_ (binT ha hb I h fun v u s2 x y H2 I2 rx ry q => hr a b pins s2 σ H2 x y v u Q I2 rx ry q (hs _ _))

noncomputable def rIxL (K : PySem.W.Frag) : R2 := fun x y H Q => ∃ p xs i v, x = .ref p ∧ y = .int i ∧ SqL K H p xs ∧ atI xs i = some v ∧ Q v H
noncomputable def rIxT (K : PySem.W.Frag) : R2 := fun x y H Q => ∃ p xs i v, x = .ref p ∧ y = .int i ∧ SqT K H p xs ∧ atI xs i = some v ∧ Q v H
noncomputable def rIxS : R2 := fun x y H Q => ∃ z i c, x = .str z ∧ y = .int i ∧ z.length ≤ sizeLine ∧ atI z.cps.toList i = some c ∧ Q (.str ⟨#[c]⟩) H
theorem ix_list : IxR X (rIxL X.K) := by
  intro value slice pins s σ H x y v u Q I rx ry h hs
  obtain ⟨p, xs, i, z, rfl, rfl, hq, he, q⟩ := h
  cases rx
  obtain ⟨t, rfl⟩ := ry
  obtain ⟨its, r, pl, hz⟩ := I.list hq
  obtain ⟨j, h1, h2, h3, h4, h5⟩ := atI_get he
  obtain ⟨w, ew, rw'⟩ := r.get h2
  have hl := r.length
  have hn := line63
  have fin : EP X pins σ Q w s := ⟨z, H, I, rw', q⟩
  by_cases h0 : 0 ≤ i
  · have hj : i.toNat = j := by
      rw [seqIndex_of h0 h5] at h1
      exact Option.some.inj h1
    exact item_listR pl.isList h0 (by omega) (by rw [hj]; simpa using ew) fin hs
  · have hj : (i + (its.toArray.size : Int)).toNat = j := by
      rw [seqIndex_neg (by omega) h4] at h1
      rw [List.size_toArray, ← hl]
      exact Option.some.inj h1
    exact subscriptTail_builtinR (x := w) pl.isList.typeIs slot_list_getitem.lookup
      (wpAny_getItem_list_neg (Q := fun r s' => r = w ∧ EP X pins σ Q r s') pl.isList (by omega) (by rw [List.size_toArray] <;> omega) (by omega) (by rw [hj]; simpa using ew) ⟨rfl, fin⟩) hs
theorem ix_tup : IxR X (rIxT X.K) := by
  intro value slice pins s σ H x y v u Q I rx ry h hs
  obtain ⟨p, xs, i, z, rfl, rfl, hq, he, q⟩ := h
  cases rx
  obtain ⟨t, rfl⟩ := ry
  obtain ⟨its, r, pl, hz⟩ := I.tuple hq
  obtain ⟨j, h1, h2, h3, h4, h5⟩ := atI_get he
  obtain ⟨w, ew, rw'⟩ := r.get h2
  have hl := r.length
  have hn := line63
  have fin : EP X pins σ Q w s := ⟨z, H, I, rw', q⟩
  exact subscriptTail_builtinR (x := w) pl.typeIs slot_tuple_getitem.lookup
    (getItem_tuple (j := j) (Q := fun r s' => r = w ∧ EP X pins σ Q r s') pl (by omega) (by omega) (by rw [List.size_toArray, ← hl]; exact h1) (by simpa using ew) ⟨rfl, fin⟩) hs
theorem ix_str : IxR X rIxS := by
  intro value slice pins s σ H x y v u Q I rx ry h hs
  obtain ⟨z, i, c, rfl, rfl, hz, he, q⟩ := h
  obtain ⟨t, rfl⟩ := rx
  obtain ⟨t', rfl⟩ := ry
  obtain ⟨j, h1, h2, h3, h4, h5⟩ := atI_get he
  have hl : z.cps.toList.length = z.length := by simp [Str.length]
  rw [hl] at h1 h4 h5
  have hn := line63
  exact tail_any (typeIs_str s z t) slot_str_getitem.lookup (getItem_str (c := c) (by
    have e1 : decide (i < -(2 ^ 63 : Int)) = false := decide_eq_false (by omega)
    have e2 : decide (i ≥ 2 ^ 63) = false := decide_eq_false (by omega)
    rw [e1, e2, Bool.or_false]) (by rw [h1]; simpa using h2) ⟨.str ⟨#[c]⟩, H, I.tok _, ⟨_, rfl⟩, q⟩) hs
theorem mapSeq_set (its : List Value) (n j : Nat) (u : Value) : Obj.mapSeq (·.setIfInBounds j u) { cls := .type "list", data := .seq its.toArray n } = { cls := .type "list", data := .seq (its.set j u).toArray n } := by
  simp [Obj.mapSeq]
theorem Inv.lst {pins : List (Addr × Obj)} {σ : St} {H : Hp} {s : Shared} {p : Addr} {xs : List V} (I : Inv X pins σ H s) (h : H p = some (.lst xs)) :
    ∃ (its : List Value) (n : Nat), Vals xs its ∧ s.heap.get? p = some { cls := .type "list", data := .seq its.toArray n } ∧ xs.length ≤ sizeLine := by
  obtain ⟨z, its, n, r, e⟩ := I.hok p _ h
  exact ⟨its, n, r, e, z⟩
theorem Inv.lstUpd {pins : List (Addr × Obj)} {σ : St} {H : Hp} {s : Shared} {p : Addr} {xs ys : List V} {its its' : List Value} {n n' : Nat} {f : Obj → Obj} (I : Inv X pins σ H s) (h : H p = some (.lst xs))
    (ho : s.heap.get? p = some { cls := .type "list", data := .seq its.toArray n }) (hf : f { cls := .type "list", data := .seq its.toArray n } = { cls := .type "list", data := .seq its'.toArray n' }) (r : Vals ys its') (hz : ys.length ≤ sizeLine) (t : Nat) :
    Inv X pins σ (upd H p (.lst ys)) { s with heap := s.heap.update p f, toks := t } := by
  have e : (s.heap.update p f).get? p = some { cls := .type "list", data := .seq its'.toArray n' } := by
    rw [Heap.get?_update_self f ho (by rw [hf] <;> rfl), hf]
  refine I.write (x := p) (e := p) (by rw [h]; trivial) (.inl rfl) (fun b u hb q => (Heap.get?_update_other _ _ (Ne.symm hb)).trans q) ⟨_, e⟩ ?_
  exact ⟨hz, its', n', r, e⟩
noncomputable def rSetL : V → V → V → Hp → (Hp → Prop) → Prop := fun o i v H Q => ∃ p xs k j, o = .ref p ∧ i = .int k ∧ H p = some (.lst xs) ∧ ixN xs.length k = some j ∧ Q (upd H p (.lst (xs.set j v)))
theorem set_list : PSet X rSetL := by
  intro pins s σ H o i v ov iv u Q I ro ri rv h
  obtain ⟨p, xs, k, j, rfl, rfl, hp, hj, q⟩ := h
  cases ro
  obtain ⟨t, rfl⟩ := ri
  obtain ⟨its, n, r, ho, hz⟩ := I.lst hp
  obtain ⟨h1, h2, h3, h4⟩ := ixN_seq hj
  have hl := r.length
  have hn := line63
  have I' : Inv X pins σ (upd H p (.lst (xs.set j v))) { s with heap := s.heap.update p (Obj.mapSeq (·.setIfInBounds j u)) } :=
    I.lstUpd hp ho (mapSeq_set its n j u) (r.set rv j) (by rw [List.length_set]; exact hz) s.toks
  by_cases h0 : 0 ≤ k
  · have hk : k.toNat = j := by
      rw [seqIndex_of h0 h4] at h1
      exact Option.some.inj h1
    exact PySem.W.ki_setAt ho h0 (by omega) (by rw [List.size_toArray, ← hl]; exact h4) (by rw [hk]; exact ⟨_, I', q⟩)
  · have hk : (k + (its.toArray.size : Int)).toNat = j := by
      rw [seqIndex_neg (by omega) h3] at h1
      rw [List.size_toArray, ← hl]
      exact Option.some.inj h1
    exact PySem.W.ki_setBack ho (by omega) (by rw [List.size_toArray, ← hl]; exact h3) (by omega) (by rw [hk]; exact ⟨_, I', q⟩)

theorem slice_bounds (lo hi : Option Int) (n : Nat) : (sliceBounds lo hi none n).1 = ((HT.Internal.sIx n 0 lo : Nat) : Int) ∧ (sliceBounds lo hi none n).2.1 = ((HT.Internal.sIx n n hi : Nat) : Int) ∧ (sliceBounds lo hi none n).2.2 = 1 := by
  refine ⟨?_, ?_, rfl⟩
  · cases lo with
    | none => simp [sliceBounds, HT.Internal.sIx]
    | some i =>
      simp only [sliceBounds, HT.Internal.sIx, Option.getD_none, show (1 : Int) > 0 by decide, if_true]
      by_cases h : i < 0
      · simp only [h, if_true] <;> omega
      · simp only [h, if_false] <;> omega
  · cases hi with
    | none => simp [sliceBounds, HT.Internal.sIx]
    | some i =>
      simp only [sliceBounds, HT.Internal.sIx, Option.getD_none, show (1 : Int) > 0 by decide, if_true]
      by_cases h : i < 0
      · simp only [h, if_true] <;> omega
      · simp only [h, if_false] <;> omega
theorem slicePick_cut (its : List Value) (lo hi : Option Int) : slicePick its.toArray lo hi none = ((its.drop (HT.Internal.sIx its.length 0 lo)).take (HT.Internal.sIx its.length its.length hi - HT.Internal.sIx its.length 0 lo)).toArray := by
  obtain ⟨h1, h2, h3⟩ := slice_bounds lo hi its.toArray.size
  unfold slicePick
  rw [h1, h2, h3]
  simp only [sliceRange_one, pick_run, List.size_toArray] <;> rfl
noncomputable def rSlL (K : PySem.W.Frag) : V → Option Int → Option Int → Hp → VK → Prop := fun x lo hi H Q => ∃ a xs, x = .ref a ∧ SqL K H a xs ∧ ∀ p, H p = none → Q (.ref p) (upd H p (.lst (cutV xs lo hi)))
theorem sl_list : SlR X (rSlL X.K) := by
  intro pins s σ H x v vl vu lo hi sl Q I rx hs pl pu h
  obtain ⟨a, xs, rfl, hx, q⟩ := h
  cases rx
  obtain ⟨its, r, ht, hz⟩ := I.list hx
  have hlen := r.length
  refine ⟨"list", _, slot_list_getitem.lookup, ht.isList.typeIs, ?_⟩
  refine wpAny_getItem_list_slice ht.isList hs pl pu .none (by simp) ?_ (by rw [List.size_toArray] <;> omega)
  rw [slicePick_cut, ← hlen]
  refine ⟨.ref s.heap.objs.size, _, I.laid (t' := s.toks) (o := .lst (cutV xs lo hi)) (fun b ob q => Heap.get?_push_of_some _ q) (Nat.le_refl _) ?_, rfl, q _ (I.hok.fresh (Nat.le_refl _))⟩
  exact ⟨Nat.le_trans (cutV_length xs lo hi) hz, _, 0, (r.drop (HT.Internal.sIx xs.length 0 lo)).take (HT.Internal.sIx xs.length xs.length hi - HT.Internal.sIx xs.length 0 lo), Heap.get?_push_size _ rfl⟩

noncomputable def flatV : V → Bool
  | .non => true
  | .bl _ => true
  | .int _ => true
  | .str _ => true
  | _ => false
noncomputable def eqV : V → V → Bool
  | .non, .non => true
  | .bl a, .bl b => a == b
  | .bl a, .int b => (if a then 1 else 0) == b
  | .int a, .bl b => a == (if b then 1 else 0)
  | .int a, .int b => a == b
  | .str a, .str b => a == b
  | _, _ => false
theorem eqAt_V {A : Around} {s : Shared} {y x : V} {u v : Value} (ry : RelV y u) (rx : RelV x v) (fy : flatV y = true) (fx : flatV x = true) : SeqAt.EqAt A s u v (eqV y x) := by
  cases y with
  | non =>
    cases ry
    cases x with
    | non => cases rx; exact SeqAt.EqAt.same _
    | bl b => cases rx; exact SeqAt.EqAt.none_bool b
    | int b => obtain ⟨t, rfl⟩ := rx; exact SeqAt.EqAt.none_int b t
    | str b => obtain ⟨t, rfl⟩ := rx; exact SeqAt.EqAt.none_str b t
    | _ => exact absurd (show false = true from fx) Bool.false_ne_true
  | bl a =>
    cases ry
    cases x with
    | non => cases rx; exact SeqAt.EqAt.bool_none a
    | bl b => cases rx; exact SeqAt.EqAt.bool_bool a b
    | int b => obtain ⟨t, rfl⟩ := rx; exact SeqAt.EqAt.bool_int a b t
    | str b => obtain ⟨t, rfl⟩ := rx; exact SeqAt.EqAt.bool_str a b t
    | _ => exact absurd (show false = true from fx) Bool.false_ne_true
  | int a =>
    obtain ⟨t', rfl⟩ := ry
    cases x with
    | non => cases rx; exact SeqAt.EqAt.int_none a t'
    | bl b => cases rx; exact SeqAt.EqAt.int_bool a t' b
    | int b => obtain ⟨t, rfl⟩ := rx; exact SeqAt.EqAt.int_int a t' b t
    | str b => obtain ⟨t, rfl⟩ := rx; exact SeqAt.EqAt.int_str a t' b t
    | _ => exact absurd (show false = true from fx) Bool.false_ne_true
  | str a =>
    obtain ⟨t', rfl⟩ := ry
    cases x with
    | non => cases rx; exact SeqAt.EqAt.str_none a t'
    | bl b => cases rx; exact SeqAt.EqAt.str_bool a t' b
    | int b => obtain ⟨t, rfl⟩ := rx; exact SeqAt.EqAt.str_int a t' b t
    | str b => obtain ⟨t, rfl⟩ := rx; exact SeqAt.EqAt.str_str a t' b t
    | _ => exact absurd (show false = true from fx) Bool.false_ne_true
  | _ => exact absurd (show false = true from fy) Bool.false_ne_true
noncomputable def eqU (x : V) (u : Value) : Bool := match u with
  | .none => eqV .non x
  | .bool b => eqV (.bl b) x
  | .int i _ => eqV (.int i) x
  | .str z _ => eqV (.str z) x
  | _ => false
theorem eqU_of {x y : V} {u : Value} (r : RelV y u) (f : flatV y = true) : eqU x u = eqV y x := by
  cases y with
  | non => cases r; rfl
  | bl b => cases r; rfl
  | int i => obtain ⟨t, rfl⟩ := r; rfl
  | str z => obtain ⟨t, rfl⟩ := r; rfl
  | _ => exact absurd (show false = true from f) Bool.false_ne_true
theorem any_eqU {x : V} : ∀ {xs : List V} {us : List Value}, Vals xs us → xs.all flatV = true → us.any (eqU x) = xs.any fun y => eqV y x
  | _, _, .nil, _ => rfl
  | y :: xs, u :: us, .cons r t, f => by
    rw [List.all_cons, Bool.and_eq_true] at f
    rw [List.any_cons, List.any_cons, eqU_of r f.1, any_eqU t f.2]
theorem mem_eqAt {A : Around} {s : Shared} {x : V} {v : Value} (rx : RelV x v) (fx : flatV x = true) : ∀ {xs : List V} {us : List Value}, Vals xs us → xs.all flatV = true → ∀ u ∈ us, SeqAt.EqAt A s u v (eqU x u)
  | _, _, .nil, _ => fun u hu => by cases hu
  | y :: xs, u :: us, .cons r t, f => fun u' hu => by
    rw [List.all_cons, Bool.and_eq_true] at f
    rcases List.mem_cons.mp hu with rfl | hu
    · rw [eqU_of r f.1]; exact eqAt_V r rx f.1 fx
    · exact mem_eqAt rx fx t f.2 u' hu
noncomputable def inV (x : V) (xs : List V) : Bool := xs.any fun y => eqV y x
noncomputable def rIn (K : PySem.W.Frag) (neg : Bool) : R2 := fun x y H Q => ∃ p xs, y = .ref p ∧ (SqL K H p xs ∨ SqT K H p xs) ∧ flatV x = true ∧ xs.all flatV = true ∧ Q (.bl (if neg then !inV x xs else inV x xs)) H
theorem op_in_seq : OpR X (compareOp .In) (rIn X.K false) := by
  intro pins s σ H x y v u Q I rx ry h
  obtain ⟨p, xs, rfl, hq, fx, fs, q⟩ := h
  cases ry
  rcases hq with hq | hq
  · obtain ⟨its, r, pl, hz⟩ := I.list hq
    refine SeqAt.in_listAt (eqU x) pl.isList (fun w hw => mem_eqAt rx fx r fs w (by simpa using hw)) ⟨.bl _, H, I, rfl, ?_⟩
    rw [show its.toArray.any (eqU x) = its.any (eqU x) by simp, any_eqU r fs]
    exact q
  · obtain ⟨its, r, pl, hz⟩ := I.tuple hq
    refine SeqAt.in_tupleAt (eqU x) pl (fun w hw => mem_eqAt rx fx r fs w (by simpa using hw)) ⟨.bl _, H, I, rfl, ?_⟩
    rw [show its.toArray.any (eqU x) = its.any (eqU x) by simp, any_eqU r fs]
    exact q
theorem op_notIn_seq : OpR X (compareOp .NotIn) (rIn X.K true) := by
  intro pins s σ H x y v u Q I rx ry h
  obtain ⟨p, xs, rfl, hq, fx, fs, q⟩ := h
  cases ry
  rcases hq with hq | hq
  · obtain ⟨its, r, pl, hz⟩ := I.list hq
    refine SeqAt.notIn_listAt (eqU x) pl.isList (fun w hw => mem_eqAt rx fx r fs w (by simpa using hw)) ⟨.bl _, H, I, rfl, ?_⟩
    rw [show its.toArray.any (eqU x) = its.any (eqU x) by simp, any_eqU r fs]
    exact q
  · obtain ⟨its, r, pl, hz⟩ := I.tuple hq
    refine SeqAt.notIn_tupleAt (eqU x) pl (fun w hw => mem_eqAt rx fx r fs w (by simpa using hw)) ⟨.bl _, H, I, rfl, ?_⟩
    rw [show its.toArray.any (eqU x) = its.any (eqU x) by simp, any_eqU r fs]
    exact q
theorem call_len_seq : CallR X (.builtin "len") (fun xs H Q => ∃ p ys, xs = [.ref p] ∧ (SqL X.K H p ys ∨ SqT X.K H p ys) ∧ Q (.int ys.length) H) := by
  intro pins s σ H xs us Q I r h
  obtain ⟨p, ys, rfl, hq, q⟩ := h
  obtain ⟨u, rfl, rx⟩ := vals1 r
  cases rx
  have hn := line63
  rcases hq with hq | hq
  · obtain ⟨its, r', pl, hz⟩ := I.list hq
    have hlen := r'.length
    exact Calls.call_len_list pl.isList (by simp only [List.size_toArray] <;> omega) ⟨.int ys.length, H, I.tok _, ⟨s.toks + 1, by rw [List.size_toArray, hlen]⟩, q⟩
  · obtain ⟨its, r', pl, hz⟩ := I.tuple hq
    have hlen := r'.length
    exact len_tuple pl (by simp only [List.size_toArray] <;> omega) ⟨.int ys.length, H, I.tok _, ⟨s.toks + 1, by rw [List.size_toArray, hlen]⟩, q⟩
theorem call_list_of : CallR X (.type "list") (fun xs H Q => ∃ p ys, xs = [.ref p] ∧ (SqL X.K H p ys ∨ SqT X.K H p ys) ∧ ∀ l, H l = none → Q (.ref l) (upd H l (.lst ys))) := by
  intro pins s σ H xs us Q I r h
  obtain ⟨p, ys, rfl, hq, q⟩ := h
  obtain ⟨u, rfl, rx⟩ := vals1 r
  cases rx
  have fin : ∀ (its : List Value), Vals ys its → ys.length ≤ sizeLine → ∀ (h' : Heap) (c' : Nat), (∀ b o', s.heap.get? b = some o' → h'.get? b = some o') →
      h'.get? s.heap.objs.size = some { cls := .type "list", dict := none, data := .seq its.toArray c', slots := #[] } → EP X pins σ Q (.ref s.heap.objs.size) { s with heap := h' } := fun its r' hz h' c' kp e =>
    ⟨.ref s.heap.objs.size, _, I.laid (t' := s.toks) kp (Nat.le_refl _) (show ObjOk X.prog X.w _ h' _ (.lst ys) from ⟨hz, its, c', r', e⟩), rfl, q _ (I.hok.fresh (Nat.le_refl _))⟩
  rcases hq with hq | hq
  · obtain ⟨its, r', pl, hz⟩ := I.list hq
    have hlen := r'.length
    obtain ⟨o, ho, hc, n, hd⟩ := pl.isList
    exact call_list_seq p (.inl rfl) ho hc hd (fun h' c' kp e => fin its r' hz h' c' kp e) (by simp only [List.size_toArray] <;> omega)
  · obtain ⟨its, r', pl, hz⟩ := I.tuple hq
    have hlen := r'.length
    obtain ⟨o, ho, hc, n, hd⟩ := pl
    exact call_list_seq p (.inr rfl) ho hc hd (fun h' c' kp e => fin its r' hz h' c' kp e) (by simp only [List.size_toArray] <;> omega)
theorem call_tuple_of : CallR X (.type "tuple") (fun xs H Q => ∃ p ys, xs = [.ref p] ∧ ((SqL X.K H p ys ∧ ∀ l, H l = none → Q (.ref l) (upd H l (.tup ys))) ∨ (SqT X.K H p ys ∧ Q (.ref p) H))) := by
  intro pins s σ H xs us Q I r h
  obtain ⟨p, ys, rfl, h⟩ := h
  obtain ⟨u, rfl, rx⟩ := vals1 r
  cases rx
  rcases h with ⟨hq, q⟩ | ⟨hq, q⟩
  · obtain ⟨its, r', pl, hz⟩ := I.list hq
    have hlen := r'.length
    refine call_tuple_list pl.isList (fun h' kp => ?_) (by simp only [List.size_toArray] <;> omega)
    have I1 : Inv X pins σ H { s with heap := h' } := I.kept (t' := s.toks) kp
    have I2 : Inv X pins σ (upd H h'.objs.size (.tup ys)) { s with heap := h'.push { cls := .type "tuple", data := .seq its.toArray } } :=
      I1.laid (t' := s.toks) (fun b o e => Heap.get?_push_of_some _ e) (Nat.le_refl _) (show ObjOk X.prog X.w _ _ _ (.tup ys) from ⟨hz, its, r', Tup0.new _ _⟩)
    exact ⟨.ref h'.objs.size, _, I2, rfl, q _ (I1.hok.fresh (Nat.le_refl _))⟩
  · obtain ⟨its, r', pl, hz⟩ := I.tuple hq
    exact call_tuple_same pl ⟨.ref p, H, I, rfl, q⟩

noncomputable def tyV (K : PySem.W.Frag) (T : String) (x : V) (H : Hp) : Prop := match x with
  | .str _ => T = "str"
  | .int _ => T = "int"
  | .ref p => (T = "list" ∧ ∃ xs, SqL K H p xs) ∨ (T = "tuple" ∧ ∃ o, K.lookup p = some o ∧ o.cls = .type "tuple" ∧ o.dict = none) ∨
      (T = "dict" ∧ ((∃ kvs, H p = some (.dK kvs)) ∨ ∃ kvs, H p = some (.dT kvs))) ∨ (T = "set" ∧ ∃ S n, H p = some (.set S n))
  | _ => False
theorem tyV_is {pins : List (Addr × Obj)} {σ : St} {H : Hp} {s : Shared} {T : String} {x : V} {v : Value} (I : Inv X pins σ H s) (r : RelV x v) (ty : tyV X.K T x H) :
    s.TypeIs v T ∧ ∀ a, v = .ref a → ∃ ob, s.heap.get? a = some ob ∧ ob.dict = none := by
  cases x with
  | str z =>
    obtain ⟨t, rfl⟩ := r
    cases (show T = "str" from ty)
    exact ⟨typeIs_str s z t, fun _ e => nomatch e⟩
  | int i =>
    obtain ⟨t, rfl⟩ := r
    cases (show T = "int" from ty)
    exact ⟨typeIs_int s i t, fun _ e => nomatch e⟩
  | ref p =>
    cases r
    rcases ty with ⟨rfl, xs, hq⟩ | ⟨rfl, o, hk, hc, hd⟩ | ⟨rfl, hk⟩ | ⟨rfl, S, n, hk⟩
    · obtain ⟨its, _, pl, _⟩ := I.list hq
      refine ⟨pl.isList.typeIs, fun a e => ?_⟩
      cases e
      obtain ⟨o, n, e, c, hd, _⟩ := pl
      exact ⟨o, e, hd⟩
    · refine ⟨⟨o, I.kIn p o hk, hc⟩, fun a e => ?_⟩
      cases e
      exact ⟨o, I.kIn _ o hk, hd⟩
    · have z : ∃ o, s.heap.get? p = some o ∧ o.ExactDict := by
        rcases hk with ⟨kvs, hk⟩ | ⟨kvs, hk⟩
        · obtain ⟨_, _, _, _, o, _, _, e, ex, _⟩ := I.hok p _ hk
          exact ⟨o, e, ex⟩
        · obtain ⟨_, _, _, _, o, _, _, e, ex, _⟩ := I.hok p _ hk
          exact ⟨o, e, ex⟩
      obtain ⟨o, e, ex⟩ := z
      refine ⟨⟨o, e, ex.1⟩, fun a e2 => ?_⟩
      cases e2
      exact ⟨o, e, ex.2.1⟩
    · obtain ⟨o, _, _, _, e, ex, _⟩ := I.hok p _ hk
      refine ⟨⟨o, e, ex.1⟩, fun a e2 => ?_⟩
      cases e2
      exact ⟨o, e, ex.2.1⟩
  | _ => exact False.elim ty
noncomputable def tBM0 (K : PySem.W.Frag) (T : String) (r : V → List V → Hp → VK → Prop) (to : TE) : TE := fun σ H Q => to σ H fun x H1 => tyV K T x H1 ∧ r x [] H1 Q
noncomputable def tBM (K : PySem.W.Frag) (T : String) (r : V → List V → Hp → VK → Prop) (to : TE) (t : TA) : TE := fun σ H Q => to σ H fun x H1 => tyV K T x H1 ∧ t σ H1 fun xs H2 => r x xs H2 Q
variable {o e : Expr} {es : List Expr} {to : TE} {t : TA} {name : Str} {apos cpos : Pos} {T id : String} {r : V → List V → Hp → VK → Prop}
theorem pe_bm0 (pa : PlainAttrs T) (slot : Slot T name id) (hty : typeOf (.builtin id) = pure (.type "method_descriptor")) (hm : MtR X id r) (ho : PE X o to)
    (hbase : autoParam (attributeBase o name X.env (eval o X.env) = eval o X.env) L2.Internal.auR._auto_1) (hline : autoParam ((apos.endLine == cpos.line) = true) L2.Internal.auR._auto_1) : PE X (.Call (.Attribute o name apos) [] [] cpos) (tBM0 X.K T r to) := by
  intro pins s σ H Q I h
  refine wpAny_Call_method0_late hbase hline (thn (ho pins s σ H _ I h) fun v s1 ⟨x, H1, I1, r1, ty, q1⟩ => ?_)
  obtain ⟨h1, h2⟩ := tyV_is I1 r1 ty
  exact ⟨T, id, pa, slot, hty, h1, h2, Calls.callWith_builtin rfl (PySem.evalArgs_none (hm pins s1 σ H1 x [] v [] Q I1 r1 .nil q1))⟩
theorem pe_bm (pa : PlainAttrs T) (slot : Slot T name id) (hty : typeOf (.builtin id) = pure (.type "method_descriptor")) (hm : MtR X id r) (ho : PE X o to) (ha : PA X (e :: es) t)
    (hbase : autoParam (attributeBase o name X.env (eval o X.env) = eval o X.env) L2.Internal.auR._auto_1)
    (hfew : ((backTo cpos (starEach (e :: es) X.env)).all (fun x => !x.1) && (backToKw cpos (keywordEach [] X.env)).all (fun x => x.1.isSome)
      && decide ((e :: es).length + ([] : List Keyword).length + (if ([] : List Keyword).isEmpty then 0 else 1) < 30)) = true := by rfl)
    (hline : autoParam ((apos.endLine == cpos.line) = true) L2.Internal.auR._auto_1) (hs : autoParam (starEach (e :: es) X.env = (false, eval e X.env) :: starEach es X.env) L2.Internal.auR._auto_1) (hplain : autoParam ((backTo cpos (starEach es X.env)).any (·.1) = false) L2.Internal.auR._auto_1) :
    PE X (.Call (.Attribute o name apos) (e :: es) [] cpos) (tBM X.K T r to t) := by
  intro pins s σ H Q I h
  refine wpAny_Call_method_late hbase hfew hline rfl (thn (ho pins s σ H _ I h) fun v s1 ⟨x, H1, I1, r1, ty, q1⟩ => ?_)
  obtain ⟨h1, h2⟩ := tyV_is I1 r1 ty
  refine ⟨T, id, pa, slot, hty, h1, h2, ?_⟩
  have hA := ha cpos pins s1 σ H1 _ I1 q1
  rw [hs] at hA ⊢
  refine Calls.callWith_builtin (by show (false || (backTo cpos (starEach es X.env)).any (·.1)) = false; rw [hplain] <;> rfl) (Calls.evalArgs_plain ?_)
  exact thn hA fun us s2 ⟨vs, H2, I2, r2, q2⟩ => hm pins s2 σ H2 x vs v us Q I2 r1 r2 q2
/- xs.append(e), list.index on a module's tuple .. are MtR facts of 06m -/
end
end L2.Internal

namespace L2.Internal
open PySem PySem.Spec PyProof.Rows

noncomputable def MtM (X : Cx) (id : String) (r : V → List V → Hp → VK → Prop) : Prop :=
  ∀ (pins : List (Addr × Obj)) (s : Shared) (σ : St) (H : Hp) (x : V) (xs : List V) (v : Value) (us : List Value) (Q : VK), Inv X pins σ H s → RelV x v → Vals xs us → r x xs H Q →
    wpAny (model X.prog X.w) X.A (call (.builtin id) (v :: us)) (EP X pins σ Q) X.xe s

theorem Vals.one : ∀ {x : V} {us : List Value}, Vals [x] us → ∃ u, us = [u] ∧ RelV x u
  | _, _, .cons r .nil => ⟨_, rfl, r⟩
theorem Vals.zero : ∀ {us : List Value}, Vals [] us → us = []
  | _, .nil => rfl
theorem Vals.dropLast {xs : List V} {us : List Value} (h : Vals xs us) : Vals xs.dropLast us.dropLast := by
  induction h with
  | nil => exact .nil
  | cons r t ih =>
    cases t with
    | nil => exact .nil
    | cons q t' => exact .cons r ih
theorem erase_last {α : Type} (l : List α) : l.eraseIdx (l.length - 1) = l.dropLast := by
  induction l with
  | nil => rfl
  | cons a r ih =>
    cases r with
    | nil => rfl
    | cons b r =>
      have e : (a :: b :: r).length - 1 = ((b :: r).length - 1) + 1 := by
        have h1 : (a :: b :: r).length = r.length + 2 := rfl
        have h2 : (b :: r).length = r.length + 1 := rfl
        omega
      rw [e, List.eraseIdx_cons_succ, ih]
      all_goals rfl
section
variable {X : Cx} {pins : List (Addr × Obj)} {σ : St} {H : Hp} {s : Shared} {l b : Addr} {xs ys zs : List V}

theorem Inv.lset {its its' : List Value} {n : Nat} {f : Array Value → Array Value} {t' : Nat} (I : Inv X pins σ H s) (hH : H l = some (.lst xs))
    (e : s.heap.get? l = some { cls := .type "list", data := .seq its.toArray n }) (hf : f its.toArray = its'.toArray) (hv : Vals ys its') (hz : ys.length ≤ sizeLine) :
    Inv X pins σ (upd H l (.lst ys)) { s with heap := s.heap.update l (Obj.mapSeq f), toks := t' } := by
  have q := PySem.IsL.update e f
  rw [hf] at q
  refine I.write (x := l) (e := l) (by rw [hH]; exact trivial) (.inl rfl) (fun b' u hb hu => (Heap.get?_update_other s.heap (Obj.mapSeq f) (Ne.symm hb)).trans hu) ⟨_, q⟩ ?_
  exact ⟨hz, its', _, hv, q⟩
theorem Inv.lnew {its : List Value} {t' : Nat} (I : Inv X pins σ H s) (hv : Vals ys its) (hz : ys.length ≤ sizeLine) :
    Inv X pins σ (upd H s.heap.objs.size (.lst ys)) { s with heap := s.heap.push { cls := .type "list", data := .seq its.toArray }, toks := t' } :=
  I.laid (fun _ _ q => Heap.get?_push_of_some _ q) (Nat.le_refl _) ⟨hz, its, 0, hv, Heap.get?_push_size _ rfl⟩
theorem Inv.fresh (I : Inv X pins σ H s) : H s.heap.objs.size = none := I.hok.fresh (Nat.le_refl _)
theorem Inv.lstM (I : Inv X pins σ H s) (hH : H l = some (.lst xs)) : xs.length ≤ sizeLine ∧ ∃ (its : List Value) (n : Nat), Vals xs its ∧ xs.length = its.length ∧ s.heap.get? l = some { cls := .type "list", data := .seq its.toArray n } := by
  obtain ⟨z, its, n, r, e⟩ := I.hok l _ hH
  exact ⟨z, its, n, r, r.length, e⟩

theorem notLongL {n : Nat} (h : n ≤ sizeLine) : Builtin.List.listTooLong n = false := by
  unfold Builtin.List.listTooLong
  exact decide_eq_false (by omega)
end

section
variable {X : Cx}

noncomputable def rAppend : V → List V → Hp → VK → Prop := fun x vs H Q => ∃ l xs y, x = .ref l ∧ vs = [y] ∧ H l = some (.lst xs) ∧ xs.length < sizeLine ∧ Q .non (upd H l (.lst (xs ++ [y])))
theorem mt_append : MtM X "list.append" rAppend := by
  intro pins s σ H x vs v us Q I rx rv h
  obtain ⟨l, xs, y, rfl, rfl, hH, hz, q⟩ := h
  cases rx
  obtain ⟨u, rfl, ru⟩ := rv.one
  obtain ⟨z, its, n, r, hl, e⟩ := I.lstM hH
  refine call_meets F.slot_list_append ⟨_, e, rfl⟩ F.entry_list_append (F.args_list_append_2 _ _) (PySem.list_append l its.toArray n u (by rw [List.size_toArray]; omega)) ⟨e, ?_⟩
  refine ⟨.non, _, I.lset (its' := its ++ [u]) hH e (by simp) (r.append (.cons ru .nil)) ?_, rfl, q⟩
  rw [List.length_append, List.length_singleton]
  omega

noncomputable def rExtend : V → List V → Hp → VK → Prop := fun x vs H Q => ∃ l b xs zs, x = .ref l ∧ vs = [.ref b] ∧ H l = some (.lst xs) ∧ H b = some (.lst zs) ∧ xs.length + zs.length ≤ sizeLine ∧ Q .non (upd H l (.lst (xs ++ zs)))
theorem mt_extend : MtM X "list.extend" rExtend := by
  intro pins s σ H x vs v us Q I rx rv h
  obtain ⟨l, b, xs, zs, rfl, rfl, hH, hB, hz, q⟩ := h
  cases rx
  obtain ⟨u, rfl, ru⟩ := rv.one
  cases ru
  obtain ⟨z, its, n, r, hl, e⟩ := I.lstM hH
  obtain ⟨z2, its2, n2, r2, hl2, e2⟩ := I.lstM hB
  have hsz : its.toArray.size + its2.toArray.size ≤ sizeLine := by rw [List.size_toArray, List.size_toArray]; omega
  have hlong : ¬ (!its.toArray.isEmpty && Builtin.List.listTooLong (its.toArray.size + its2.toArray.size)) = true := by
    rw [notLongL hsz, Bool.and_false]
    exact Bool.false_ne_true
  refine call_meets F.slot_list_extend ⟨_, e, rfl⟩ F.entry_list_extend (F.args_list_extend_2 _ _)
    (AutoSeq1.list_extend_list_list_0 l its.toArray n b its2.toArray n2 hlong (by rw [List.size_toArray]; omega) (by omega)) ⟨e, e2, ?_⟩
  refine ⟨.non, _, I.lset (its' := its ++ its2) hH e (by simp) (r.append r2) ?_, rfl, q⟩
  rw [List.length_append]
  omega

noncomputable def rPop : V → List V → Hp → VK → Prop := fun x vs H Q => ∃ l xs y, x = .ref l ∧ vs = [] ∧ H l = some (.lst xs) ∧ xs[xs.length - 1]? = some y ∧ Q y (upd H l (.lst xs.dropLast))
theorem mt_pop : MtM X "list.pop" rPop := by
  intro pins s σ H x vs v us Q I rx rv h
  obtain ⟨l, xs, y, rfl, rfl, hH, hy, q⟩ := h
  cases rx
  have hus := rv.zero
  subst hus
  obtain ⟨z, its, n, r, hl, e⟩ := I.lstM hH
  obtain ⟨u, hu, ru⟩ := r.get hy
  have hy' : its.toArray[its.toArray.size - 1]? = some u := by
    show its.toArray[its.length - 1]? = some u
    rw [← Array.getElem?_toList, ← hl]
    exact hu
  refine call_meets F.slot_list_pop ⟨_, e, rfl⟩ F.entry_list_pop (F.args_list_pop_1 _) (MeetsSeq.list_pop_last l its.toArray n u hy' (by rw [List.size_toArray]; omega)) ⟨e, ?_⟩
  refine ⟨y, _, I.lset (its' := its.dropLast) hH e ?_ r.dropLast ?_, ru, q⟩
  · show its.toArray.eraseIdxIfInBounds (its.toArray.size - 1) = its.dropLast.toArray
    rw [List.size_toArray, List.eraseIdxIfInBounds_toArray, erase_last]
  · rw [List.length_dropLast]
    omega

noncomputable def rCat : R2 := fun x y H Q => ∃ l b xs zs, x = .ref l ∧ y = .ref b ∧ H l = some (.lst xs) ∧ H b = some (.lst zs) ∧ xs.length + zs.length ≤ sizeLine ∧ ∀ p, H p = none → Q (.ref p) (upd H p (.lst (xs ++ zs)))
theorem op_cat : OpR X (binaryOp .Add) rCat := by
  intro pins s σ H x y v u Q I rx ry h
  obtain ⟨l, b, xs, zs, rfl, rfl, hH, hB, hz, q⟩ := h
  cases rx
  cases ry
  obtain ⟨z, its, n, r, hl, e⟩ := I.lstM hH
  obtain ⟨z2, its2, n2, r2, hl2, e2⟩ := I.lstM hB
  refine PySem.P.add_list e e2 ?_ (by rw [List.size_toArray, List.size_toArray]; omega)
  have ea : its.toArray ++ its2.toArray = (its ++ its2).toArray := by simp
  rw [ea]
  exact ⟨.ref _, _, I.lnew (t' := s.toks) (r.append r2) (by rw [List.length_append]; omega), rfl, q _ I.fresh⟩
end

section
variable {prog : Program} {w : World} {A : Around} {E : Value → Shared → Prop} {s : Shared}
set_option maxRecDepth 100000 in
end

section
variable {X : Cx}
end
end L2.Internal

namespace Att.Internal
open PySem PySem.W PySem.Calls PyProof.Rows

theorem ints_of_wellAll {P : Params} {h : Heap} : ∀ (ns : List Int) (vs : List Value), WellAll P h vs (ns.map WData.int) → IntsAre vs ns := by
  intro ns
  induction ns with
  | nil =>
    intro vs w
    rw [List.map_nil] at w
    cases w
    exact .nil
  | cons n ns ih =>
    intro vs w
    rw [List.map_cons] at w
    cases w with
    | cons a b =>
      cases a
      exact .cons _ _ (ih _ b)

theorem script_of {l : OpenLaw} {n : Nat} (hn : l.most = some n) {P : Params} {h : Heap} {args : List WData} {vals : List Value}
    (hpre : l.row.toRowW.claim.pre args = true) (hwl : WellAll P h vals args) :
    ∃ a vs ns, vals = [Value.ref a] ∧ args = [WData.list (ns.map WData.int)] ∧ h.get? a = some { cls := .type "list", data := .seq vs.toArray } ∧ IntsAre vs ns ∧ ns.length ≤ n := by
  have hsh : WShape.hasAll [] args [.list .int] = true := (pre_splitW hpre).1
  have hc : l.pre.holds [] { args := args } = true := (pre_splitW hpre).2
  obtain ⟨d, r, rfl, h1, h2⟩ := hasAllW_cons hsh
  obtain rfl := hasAllW_nil h2
  obtain ⟨xs, rfl, h3⟩ := hasW_list h1
  obtain ⟨ns, rfl⟩ := items_int h3
  have hlen : ns.length ≤ n := by
    unfold OpenLaw.pre at hc
    have h4 : (WTm.not (.lt (.lit (.int (n : Int))) (.len (.arg 0)))).holds [] { args := [.list (ns.map .int)] } = true := by
      have h4 := (holds_andW hc).1
      rw [hn] at h4
      exact h4
    have h5 := condW_of h4 (w_not (w_lt w_lit (w_len_list (w_arg rfl))))
    rw [List.length_map] at h5
    refine Nat.le_of_not_lt fun q => ?_
    have q' : (n : Int) < ((ns.length : Nat) : Int) := by omega
    first
      | (rw [decide_eq_true q'] at h5; exact absurd h5 (by decide))
      | (simp at h5; omega)
  cases hwl with
  | cons w1 w2 =>
    cases w2
    cases w1 with
    | list ho hall => exact ⟨_, _, ns, rfl, rfl, ho, ints_of_wellAll ns _ hall, hlen⟩

theorem post_true (l : OpenLaw) (args : List WData) : l.row.toRowW.claim.post args (.bool true) args = true :=
  postW_of (r := l.row.toRowW) (X := (true == true))
    (show WShape.has [] (.bool true) .bool = true by first | rfl | decide | simp [WShape.has, WShape.arms, WShape.armsAll])
    (show (WTm.eq .res (.lit (.bool true))).value [] { args := args, res := some (.bool true), after := args } = some (.bool (true == true)) from w_eq_bool (w_res rfl) w_lit) rfl

theorem attach_call {l : OpenLaw} {n : Nat} {q : Program} {loose : List Str} {XP : (Str → Option Value) → Heap → Prop} {YP : World → Heap → Prop} {d : DefRec}
    (hn : l.most = some n) (hdf : d.params.defaults = [])
    (call : ∀ (w : World) (s₀ s₁ : Shared) (mg mb : Str → Option Value) (fa : Addr) (o : Obj) (pm cd doc : Value) (a : Addr) (vs : List Value) (ns : List Int),
      Ground q loose [] XP w s₀ mg mb s₁.heap → YP w s₁.heap →
      s₁.heap.get? fa = some o → o.data = .func (docDef d.name d.params d.body d.scope pm cd doc) → s₁.heap.CodeRec cd d.name → mg d.name = some (.ref fa) →
      s₁.heap.get? a = some { cls := .type "list", data := .seq vs.toArray } → IntsAre vs ns → ns.length ≤ n → s₁.gens = #[] →
      codeAny (model l.prog w) callerA (.call (.ref fa) ⟨[.ref a], []⟩) (fun r s' => r = .ok (.ret (.bool true)) ∧ OldK s₁.heap s'.heap ∧ s'.os = s₁.os ∧ AllBare s'.gens) s₁) :
    WalkO q loose XP YP l.row.toRowW d [] (fun f vs => PySem.call f vs) := by
  intro w s₀ s₁ mg mb G Y fa o pm cd doc dV kV ho hd hcd hD hmg hg args vals as hpre hlay hrd hwl hlo
  obtain rfl : dV = .none := Dflts.none hD hdf
  obtain rfl : kV = .none := Dflts.noKw hD
  obtain ⟨a, vs, ns, rfl, rfl, hobj, hints, hlen⟩ := script_of hn hpre hwl
  refine enter_call (codeAny_mono (call w s₀ s₁ mg mb fa o pm cd doc a vs ns G Y ho (fd_plain hd) hcd hmg hobj hints hlen hg) fun r s' hq => ?_)
  obtain ⟨rfl, h2, h3, h4⟩ := hq
  exact ⟨.inl ⟨.bool true, .bool true, [], rfl, fun _ => rfl, .bool true, post_true l _, fun _ => ⟨List.Pairwise.nil, fun _ hm => (nomatch hm)⟩⟩, h2, h3, h4⟩

section
variable {prog : Program} {w : World} {A : Around} {E : Value → Shared → Prop} {s : Shared} {K : Frag}

end
end Att.Internal

namespace L2.Internal
open PySem PySem.Spec PyProof.Rows

theorem vals_ints : ∀ {vs : List Value} {ns : List Int}, IntsAre vs ns → Vals (ns.map V.int) vs
  | _, _, .nil => .nil
  | _, _, .cons n t h => .cons ⟨t, rfl⟩ (vals_ints h)

noncomputable def Only (H : Hp) : Prop := ∀ b, H b = none ∨ ∃ o xs, H b = some (.frz o (.lst xs))

theorem law_call {P : Program} {w : World} {K : PySem.W.Frag} {mg mb : Str → Option Value} {CX : CXT} {k : Nat} {fa a : Addr} {fd : FuncData} {x : Str} {sp : Sp} {s₁ : Shared} {vs : List Value} {ns : List Int}
    (KX : K.In s₁.heap) (hns : s₁.heap.Ns mainGlobals mg) (hb : s₁.heap.Ns builtinsNs mb) (hbb : ∀ x : Str, x ≠ "__name__" → mb x = bootBuiltins x) (hlim : s₁.heap.NoLimit) (hg : s₁.gens = #[])
    (ha : s₁.heap.get? a = some { cls := .type "list", data := .seq vs.toArray }) (hi : IntsAre vs ns) (hl : ns.length ≤ sizeLine) (hr : Room k callerA)
    (F : ∀ base : Heap, K.In base → base.Ns mainGlobals mg → FnOk P w K mg base CX k fa fd [x] sp) (hbind : ∀ (s : Shared) (u : Value), BindsTo s fd ⟨[u], []⟩ [(x, u)])
    (hsp : ∀ H : Hp, Only H → SqL K H a (ns.map V.int) → sp [.ref a] H (fun v _ => v = .bl true) fun _ _ _ => False)
    (hCX : ∀ H e s', CX [] H s₁ (fun _ _ _ => False) e s' → False) :
    codeAny (model P w) callerA (.call (.ref fa) ⟨[.ref a], []⟩) (fun r s' => r = .ok (.ret (.bool true)) ∧ OldK s₁.heap s'.heap ∧ s'.os = s₁.os ∧ AllBare s'.gens) s₁ := by
  have rv := vals_ints hi
  have lenV := hi.length
  -- from an abstract heap in which nothing but the script may be tracked
  have core : ∀ H : Hp, Only H → SqL K H a (ns.map V.int) → HOk P w H s₁.heap → (∀ b, H b ≠ none → b = a) → (H a ≠ none → K.lookup a = none) →
      codeAny (model P w) callerA (.call (.ref fa) ⟨[.ref a], []⟩) (fun r s' => r = .ok (.ret (.bool true)) ∧ OldK s₁.heap s'.heap ∧ s'.os = s₁.os ∧ AllBare s'.gens) s₁ := by
    intro H hO hS hok hA hK
    have base_of : ∀ {b : Addr} {o : Obj}, s₁.heap.get? b = some o → H b = none → (hidT s₁.heap H).get? b = some o := fun e n => hidT_get e n
    have noA : ∀ {b : Addr} {o : Obj} {es : Array DictEntry} {ep : Nat}, s₁.heap.get? b = some o → o.data = .dict es ep → H b = none := fun {b o es ep} e d => by
      cases q : H b with
      | none => rfl
      | some u =>
        have e' : b = a := hA b (by rw [q]; simp)
        subst e'
        rw [ha] at e; cases e
        have d' : Data.seq vs.toArray _ = Data.dict es ep := d
        cases d'
    have nsK : ∀ {b : Addr} {m : Str → Option Value}, s₁.heap.Ns b m → (hidT s₁.heap H).Ns b m := fun {b m} ⟨o, es, ep, e, d, r⟩ => ⟨o, es, ep, base_of e (noA e d), d, r⟩
    have hKb : K.In (hidT s₁.heap H) := fun b o e => base_of (KX b o e) (by
      cases q : H b with
      | none => rfl
      | some u =>
        have e' : b = a := hA b (by rw [q]; simp)
        subst e'
        rw [hK (by rw [q]; simp)] at e; cases e)
    have hM : Mod K mg (hidT s₁.heap H) := ⟨hKb, nsK hns, ⟨mb, nsK hb, hbb⟩, let ⟨mc, h1, h2⟩ := hlim; ⟨mc, nsK h1, h2⟩⟩
    have e0 : Env0 P w K mg (hidT s₁.heap H) callerA [] s₁ H := ⟨rfl, hM, fun b o e => of_hidT e, Nat.le_of_eq (hidT_size _ _), trivial, fun b hb => absurd (show b ∈ ([] : List Addr) from hb) (by simp), hok, .of_eq hg⟩
    refine codeAny_mono ((F _ hKb (nsK hns)).run callerA [] s₁ H ⟨[.ref a], []⟩ [.ref a] [.ref a] _ _ hr e0 (hbind s₁ (.ref a)) (.cons rfl .nil) (hsp H hO hS)) fun r s' h => ?_
    cases r with
    | error e => exact (hCX H e s' h).elim
    | ok fl =>
      cases fl with
      | next => exact False.elim h
      | brk => exact False.elim h
      | cont => exact False.elim h
      | ret u =>
        obtain ⟨v, H', os, bare, un, hok', r', q⟩ := h
        have q' : v = .bl true := q
        subst q'
        obtain rfl : u = Value.bool true := r'
        refine ⟨rfl, OldK.of_keep fun b o e => ?_, os, bare⟩
        cases q : H b with
        | none => exact un.keep b o e q (by intro z; exact absurd (show b ∈ ([] : List Addr) from z) (by simp)) (by simp)
        | some u =>
          rcases hO b with z | ⟨ob, xs, z⟩
          · rw [q] at z; cases z
          · have z2 := un.frzs b ob _ z
            obtain ⟨e1, _⟩ := hok b _ z
            obtain ⟨e2, _⟩ := hok' b _ z2
            rw [e] at e1; cases e1
            exact e2
  cases hk : K.lookup a with
  | some o =>
    -- the script is one of the module's own objects
    have e := KX a o hk
    rw [ha] at e
    cases e
    refine core (fun _ => none) (fun _ => .inl rfl) (.inr ⟨_, vs.toArray, _, hk, rfl, rfl, rfl, by rw [List.size_toArray, lenV]; exact hl, by simpa using rv⟩) (fun b u z => by have z' : (none : Option HO) = some u := z; cases z') (fun b z => absurd rfl z) fun z => absurd rfl z
  | none =>
    refine core (fun b => if b = a then some (.frz { cls := .type "list", data := .seq vs.toArray } (.lst (ns.map V.int))) else none) (fun b => ?_) (.inl (.inr ⟨{ cls := .type "list", data := .seq vs.toArray }, if_pos rfl⟩)) (fun b u z => ?_) (fun b z => ?_) fun _ => hk
    · by_cases hb : b = a
      · exact .inr ⟨_, _, if_pos hb⟩
      · exact .inl (if_neg hb)
    · by_cases hb : b = a
      · have z' := (if_pos hb).symm.trans z
        cases z'
        subst hb
        exact ⟨ha, by rw [List.length_map]; exact hl, vs, _, rv, ha⟩
      · have z' := (if_neg hb).symm.trans z
        cases z'
    · by_cases hb : b = a
      · exact hb
      · exact absurd (if_neg hb) z
end L2.Internal

namespace L2.Internal
open PySem PySem.Spec PyProof.Rows

theorem walk_of {l : PySem.W.OpenLaw} {n k : Nat} {q : Program} {loose : List Str} {XP : (Str → Option Value) → Heap → Prop} {YP : World → Heap → Prop} {d : DefRec} {K : Params → PySem.W.Frag} {CX : World → CXT} {sp : World → Sp} {x : Str}
    (hn : l.most = some n) (hn2 : n ≤ sizeLine) (hdf : d.params.defaults = []) (hr : Room k callerA)
    (hY : ∀ (w : World) (h : Heap), YP w h → (K w.params).In h)
    (F : ∀ (w : World) (mg : Str → Option Value) (fa : Addr) (h : Heap), (K w.params).In h → h.Ns mainGlobals mg → mg d.name = some (.ref fa) →
      ∃ fd : FuncData, (∀ (s : Shared) (u : Value), BindsTo s fd ⟨[u], []⟩ [(x, u)]) ∧
        ∀ base : Heap, (K w.params).In base → base.Ns mainGlobals mg → FnOk l.prog w (K w.params) mg base (CX w) k fa fd [x] (sp w))
    (hsp : ∀ (w : World) (H : Hp) (a : Addr) (ns : List Int), ns.length ≤ n → Only H → SqL (K w.params) H a (ns.map V.int) → sp w [.ref a] H (fun v _ => v = .bl true) fun _ _ _ => False)
    (hCX : ∀ (w : World) (H : Hp) (s : Shared) (e : Value) (s' : Shared), CX w [] H s (fun _ _ _ => False) e s' → False) :
    PySem.W.WalkO q loose XP YP l.row.toRowW d [] (fun f vs => PySem.call f vs) := by
  refine Att.Internal.attach_call hn hdf fun w s₀ s₁ mg mb fa o pm cd doc a vs ns G Y ho hd hcd hmg hobj hints hlen hg => ?_
  have KX := hY w _ Y
  obtain ⟨fd, hb, hF⟩ := F w mg fa _ KX G.T.g hmg
  exact law_call KX G.T.g G.T.b G.T.builtins G.T.nolimit hg hobj hints (Nat.le_trans hlen hn2) hr hF hb (fun H hO hS => hsp w H a ns hlen hO hS) fun H e s' => hCX w H s₁ e s'
end L2.Internal

/- THE LAST THEOREM (shape; LID, My.* are yours):
   My.Adr: a structure of the addresses that your layer names (classes, functions); My.Txt K t: a structure (Prop) of the equations over K;
   My.txt_mk : {K} {implicit addresses ..} (e1 : nsIn K mainGlobals "law" = some (some (.ref f))) (e2 : K.lookup f = some ⟨oc, od, .func (fnOf "law" "law" params body scope dV kV doc pm an cdv ct), sl⟩) (e3 : codeIn K cdv "law" = true) .. : ∃ t, My.Txt K t

set_option maxRecDepth 100000 in
set_option maxHeartbeats 0 in
theorem PySem.Challenge.cw_LID_holds : PySem.Challenge.rw_LID.Holds := by
  w_on; o_law; k_head; (case hw => w_witness2)
  k_fill
  refine L2.Internal.walk_of (l := PySem.Challenge.rw_LID) (n := 63) (k := 40) (x := "script") (CX := fun w => ..) (sp := fun _ => My.sp_law) rfl (by decide) rfl ⟨rfl, by decide, by decide⟩ (fun w h Y => PySem.W.kIn_of Y) ?F ?S ?C
  case F =>
    intro w mg fa h KX G hmg
    have T : ∃ t, My.Txt (L2.Internal.KOf KX) t := by
      dsimp only [L2.Internal.KOf]                          -- K must stand as «<heap const> w.params» for k_is
      refine' My.txt_mk ?e1 ?e2 ?e3 ..
      (case e1 => PySem.W.k_is)                    -- in the order: a name -> its address -> its object -> its parts
      (case e2 => PySem.W.k_is)
      ..
    obtain ⟨t, T⟩ := T
    have e0 := hmg.symm.trans (PySem.W.mg_of KX G T.law)
    cases e0                                       -- fa is the law's own address
    exact ⟨_, fun s u => .of_eq rfl, fun base kb nb => My.law_fn T kb nb⟩     -- if «.of_eq rfl» comes too early: refine' ⟨_, ?b, fun base kb nb => My.law_fn T kb nb⟩; exact fun s u => .of_eq rfl
  case S => exact fun w H a ns hl hO hS => ..
  case C => exact ..
(the tactic k_is has no namespace: write k_is) -/

namespace L2.Internal
open PySem PySem.Spec PyProof.Rows

noncomputable def inClass (s : Stmt) (j : Nat) : Stmt := match s with
  | .ClassDef _ _ _ body _ _ _ _ _ _ _ => body.getD j (.Pass ⟨0, 0, 0, 0⟩)
  | _ => .Pass ⟨0, 0, 0, 0⟩
noncomputable def defArgs (s : Stmt) : Arguments := match s with
  | .FunctionDef _ a _ _ _ _ _ _ _ _ => a
  | _ => { posonlyargs := [], args := [], vararg := none, kwonlyargs := [], kw_defaults := [], kwarg := none, defaults := [] }
noncomputable def defBody (s : Stmt) : List Stmt := match s with
  | .FunctionDef _ _ b _ _ _ _ _ _ _ => b
  | _ => []
noncomputable def defScope (s : Stmt) : Scope := match s with
  | .FunctionDef _ _ _ _ _ _ sc _ _ _ => sc
  | _ => { kind := .function, names := [], isGenerator := false, isCoroutine := false }

noncomputable abbrev CX0 : CXT := fun _ _ _ _ _ _ => False
noncomputable abbrev E0 : XK := fun _ _ _ => False
theorem pass0 {X : Cx} : Passes CX0 X E0 := fun _ _ _ _ _ _ _ h => h.elim

structure Fun (K : PySem.W.Frag) (x qual : Str) (st : Stmt) (f : Addr) (fd : FuncData) : Prop where
  ex : ∃ (oc : Value) (od : Option Addr) (kV doc pm : Value) (an : Option Addr) (cdv ct : Value) (osl : Array (Option Value)),
    fd = PySem.W.fnOf x qual (defArgs st) (defBody st) (defScope st) .none kV doc pm an cdv ct ∧ K.lookup f = some ⟨oc, od, .func fd, osl⟩ ∧ PySem.W.codeIn K cdv qual = true
  kp : PySem.W.keepIn K (.ref f) = true
section
variable {P : Program} {w : World} {K : PySem.W.Frag} {mg : Str → Option Value} {base : Heap}
theorem Fun.ok {x qual : Str} {st : Stmt} {f : Addr} {fd : FuncData} {N ps : List Str} {k : Nat} {sp : Sp} (F : Fun K x qual st f fd) (S : FnScope N ps (defScope st)) (len : ∀ vs H Q E, sp vs H Q E → vs.length = ps.length)
    (hbody : ∀ (cdv : Value) (A : Around) (outer : List Env) (s : Shared) (H : Hp) (vs : List V) (Q : VK) (E : XK), Room k (A.deeper (envOfC qual (defScope st) s.heap.objs.size f cdv)) → sp vs H Q E →
      ∃ t, PSs (cxOf CX0 P w K mg base N qual (defScope st) f cdv A outer s H E).nox (defBody st) t ∧ t { nx := fun _ H' => Q .non H', rt := Q } (start N vs) H) : FnOk P w K mg base CX0 (k + 1) f fd ps sp := by
  obtain ⟨oc, od, kV, doc, pm, an, cdv, ct, osl, rfl, lk, hcd⟩ := F.ex
  refine fn_of lk hcd S len fun A outer s H vs Q E hr hsp => ?_
  obtain ⟨t, h, q⟩ := hbody cdv A outer s H vs Q E hr hsp
  exact ⟨t, h.nox, q⟩
theorem Fun.binds {x qual : Str} {st : Stmt} {f : Addr} {fd : FuncData} {ps : List Str} (F : Fun K x qual st f fd)
    (h : ∀ (kV doc pm : Value) (an : Option Addr) (cdv ct : Value) (us : List Value), us.length = ps.length → bindArgs (PySem.W.fnOf x qual (defArgs st) (defBody st) (defScope st) .none kV doc pm an cdv ct) ⟨us, []⟩ = pure (ps.zip us)) : Binds K fd ps [] := by
  obtain ⟨oc, od, kV, doc, pm, an, cdv, ct, osl, rfl, lk, hcd⟩ := F.ex
  exact .all (h kV doc pm an cdv ct)
theorem fun_mk {x qual : Str} {st : Stmt} {f : Addr} {oc : Value} {od an : Option Addr} {osl : Array (Option Value)} {kV doc pm cdv ct : Value} (l : K.lookup f = some ⟨oc, od, .func (PySem.W.fnOf x qual (defArgs st) (defBody st) (defScope st) .none kV doc pm an cdv ct), osl⟩)
    (c : PySem.W.codeIn K cdv qual = true) (k : PySem.W.keepIn K (.ref f) = true) : Fun K x qual st f (PySem.W.fnOf x qual (defArgs st) (defBody st) (defScope st) .none kV doc pm an cdv ct) := ⟨⟨oc, od, kV, doc, pm, an, cdv, ct, osl, rfl, l, c⟩, k⟩
end
theorem hu_of {A : Around} {k : Nat} (hr : Room k A) : A.units + 1 < cLine := Nat.lt_of_le_of_lt (Nat.add_le_add_left (by decide : 1 ≤ 64) _) hr.units
section
variable {X : Cx}
theorem pv (i : Nat) {x : Str} {pos : Pos} (hN : autoParam (X.N[i]? = some x) L2.Internal.auR._auto_1) (hv : Vis X.env.scope x := by first | exact Or.inl rfl | exact Or.inr (Or.inl rfl) | exact Or.inr (Or.inr rfl)) (hd : autoParam ((x == ("__debug__" : Str)) = false) L2.Internal.auD._auto_1)
    (hcd : autoParam ((x == ("__classdict__" : Str)) = false) L2.Internal.auD._auto_1) : PE X (.Name x pos) (tVar i) := pe_var hN hv hd hcd
end

theorem iteF {A B : Prop} (h : B) : if false = true then A else B := by
  rw [if_neg Bool.false_ne_true]
  exact h
theorem iteT {A B : Prop} (h : A) : if true = true then A else B := by
  rw [if_pos rfl]
  exact h
noncomputable def Same (H H' : Hp) : Prop := ∀ b o, H b = some o → H' b = some o
theorem Same.refl (H : Hp) : Same H H := fun _ _ h => h
theorem Same.trans {H H1 H2 : Hp} (a : Same H H1) (b : Same H1 H2) : Same H H2 := fun c o h => b c o (a c o h)
theorem Same.free {H H' : Hp} (e : Same H H') {l : Addr} (h : H' l = Option.none) : H l = Option.none := by
  cases q : H l with
  | none => rfl
  | some o =>
    rw [e l o q] at h
    cases h
theorem Same.seq {K : PySem.W.Frag} {H H' : Hp} {a : Addr} {xs : List V} (e : Same H H') (h : SqL K H a xs) : SqL K H' a xs := by
  rcases h with (h | ⟨o, h⟩) | h
  · exact .inl (.inl (e _ _ h))
  · exact .inl (.inr ⟨o, e _ _ h⟩)
  · exact .inr h

section
variable {X : Cx}
end
section
variable {κ : Type} [DecidableEq κ]
theorem valV_not {kvs : List (κ × V)} {k : κ} (h : valV kvs k = none) : ¬ k ∈ kvs.map (·.1) := by
  intro m
  obtain ⟨p, hp, e⟩ := List.mem_map.mp m
  have q : (kvs.any fun kv => decide (kv.1 = k)) = true := List.any_eq_true.mpr ⟨p, hp, decide_eq_true e⟩
  rw [valV_any, h] at q
  exact absurd q (by simp)
theorem valV_in {kvs : List (κ × V)} {k : κ} {v : V} (h : valV kvs k = some v) : k ∈ kvs.map (·.1) := by
  have q : (kvs.any fun kv => decide (kv.1 = k)) = true := by
    rw [valV_any, h]
    all_goals rfl
  obtain ⟨p, hp, e⟩ := List.any_eq_true.mp q
  exact List.mem_map.mpr ⟨p, hp, of_decide_eq_true e⟩
theorem nd_snoc : ∀ {l : List κ} {k : κ}, l.Nodup → ¬ k ∈ l → (l ++ [k]).Nodup
  | [], k, _, _ => by simp
  | a :: r, k, h, hk => by
    obtain ⟨h1, h2⟩ := List.nodup_cons.mp h
    show (a :: (r ++ [k])).Nodup
    refine List.nodup_cons.mpr ⟨fun m => ?_, nd_snoc h2 fun m => hk (List.mem_cons.mpr (Or.inr m))⟩
    rcases List.mem_append.mp m with q | q
    · exact h1 q
    · exact hk (List.mem_cons.mpr (Or.inl (List.mem_singleton.mp q).symm))
theorem nd_putK {kvs : List (κ × V)} {k : κ} (v : V) (hn : (kvs.map (·.1)).Nodup) (h : valV kvs k = none) : ((putK kvs k v).map (·.1)).Nodup := by
  rw [putK_new v h, List.map_append]
  exact nd_snoc hn (valV_not h)
end
end L2.Internal
namespace L2.Internal
open PySem PySem.Spec PyProof.Rows

section
variable {X : Cx}
theorem pe_gR {x : Str} {a : Addr} {pos : Pos} (hg : Gl X x) (hm : X.mg x = some (.ref a)) (hd : autoParam ((x == ("__debug__" : Str)) = false) L2.Internal.auD._auto_1) : PE X (.Name x pos) (tC (.ref a)) := pe_glob hg hm (show RelV (.ref a) _ from rfl) hd
theorem pe_bty {x : Str} {n : String} {pos : Pos} (hg : Gl X x) (hm : X.mg x = none) (hv : bootBuiltins x = some (.type n)) (hn : autoParam (x ≠ "__name__") L2.Internal.auD._auto_1) (hd : autoParam ((x == ("__debug__" : Str)) = false) L2.Internal.auD._auto_1) : PE X (.Name x pos) (tC (.ty n)) := pe_bltn hg hm hv (show RelV (.ty n) _ from rfl) hn hd
end
theorem bt_len : bootBuiltins "len" = some (.builtin "len") := by decide +kernel
theorem bt_sum : bootBuiltins "sum" = some (.builtin "sum") := by decide +kernel
theorem bt_isinstance : bootBuiltins "isinstance" = some (.builtin "isinstance") := by decide +kernel
theorem bt_int : bootBuiltins "int" = some (.type "int") := by decide +kernel
theorem bt_str : bootBuiltins "str" = some (.type "str") := by decide +kernel
theorem bt_bool : bootBuiltins "bool" = some (.type "bool") := by decide +kernel
theorem bt_list : bootBuiltins "list" = some (.type "list") := by decide +kernel
theorem bt_tuple : bootBuiltins "tuple" = some (.type "tuple") := by decide +kernel
theorem bt_dict : bootBuiltins "dict" = some (.type "dict") := by decide +kernel
theorem bt_ValueError : bootBuiltins "ValueError" = some (.type "ValueError") := by decide +kernel

section
variable {X : Cx} {tg : Expr}
end
noncomputable def blk (X : Cx) (N : List Str) (scope : Scope) (cl : List (Str × Addr)) (C : Addr) (s₀ : Shared) (H₀ : Hp) (ex : List Addr) (pins : List (Addr × Obj)) : Cx :=
  { X with N := N, s₀ := s₀, H₀ := H₀, env := compEnvC scope cl C X.env, outer := X.stack, stack := X.stack, ex := ex, fn := fun _ => false, pn := X.pn ++ pins, xe := fun _ _ => False }
noncomputable def PTs (X : Cx) (cs : List Expr) (t : TT) : Prop :=
  ∀ (pins : List (Addr × Obj)) (s : Shared) (σ : St) (H : Hp) (Q : Bool → Hp → Prop), Inv X pins σ H s → t σ H Q →
    wpAny (model X.prog X.w) X.A (forIn cs true fun c r => if r = true then do let ok ← isTrue c X.env (eval c X.env); pure (ForInStep.yield ok) else pure (ForInStep.yield r)) (TP X pins σ Q) X.xe s
noncomputable def tAlways : TT := fun _ H Q => Q true H
theorem pts_nil {X : Cx} : PTs X [] tAlways := fun pins s σ H Q I h => wpAny_pure ⟨H, I, h⟩
theorem pts_one {X : Cx} {c : Expr} {t : TT} (h : PT X c t) : PTs X [c] t := fun pins s σ H Q I hw => wpAny_tests_one (h pins s σ H Q I hw)

structure BlkOk (X : Cx) (N : List Str) (scope : Scope) (cl : List (Str × Addr)) (f : St → St) (i : Nat) (x : Str) : Prop where
  kind : scope.kind = .function
  cell : ∀ y ∈ scope.names, y.2 ≠ .cell
  names : ∀ y ∈ scope.names, y.2 = .local → scope.names.lookup y.1 = some .local
  clos : closureFor scope X.env = pure cl
  lk : ∀ y c, cl.lookup y = some c → X.env.cells.lookup y = some c
  has : ∀ y, ((relabel scope X.env).names.lookup y = some .cell ∨ (relabel scope X.env).names.lookup y = some .free) → ∃ c, cl.lookup y = some c
  nd : N.Nodup
  ix : N[i]? = some x
  loc : scope.names.lookup x = some .local
  len : ∀ σ, σ.length = X.N.length → (f σ).length = N.length
  val : ∀ (σ : St) (k : Nat) (y : Str) (v : V), N[k]? = some y → (f σ)[k]? = some (some v) → ∃ j : Nat, X.N[j]? = some y ∧ σ[j]? = some (some v) ∧ X.env.scope.names.lookup y = some .cell ∧ (relabel scope X.env).names.lookup y = some .cell

theorem inv_blk {X : Cx} {N : List Str} {scope : Scope} {cl : List (Str × Addr)} {f : St → St} {i : Nat} {x : Str} (B : BlkOk X N scope cl f i x) {pins : List (Addr × Obj)} {σ : St} {H : Hp} {s : Shared} {h₁ : Heap} {tk : Nat} {m : Str → Option Value} {ex : List Addr}
    (I : Inv X pins σ H s) (hex : ∀ b ∈ ex, FpOk X pins H b ∧ b < s.heap.objs.size) (keep : ∀ b o, s.heap.get? b = some o → h₁.get? b = some o) (hn : h₁.Ns s.heap.objs.size m) :
    Inv (blk X N scope cl s.heap.objs.size s H ex pins) [] (f σ) H { s with heap := h₁, toks := tk } := by
  have nst : ∀ b, b ≠ X.env.locals → b ∉ X.fs → b ∉ frs X.stack := fun b h1 h2 hb => (List.mem_cons.mp (I.stkSub b hb)).elim h1 h2
  have ltC : ∀ y c, X.env.cells.lookup y = some c → c < s.heap.objs.size := fun y c e => by
    obtain ⟨v, o, ho, _⟩ := I.cell y c e
    exact Heap.lt_size ho
  refine ⟨⟨I.ok.mod, B.kind, I.ok.glob, I.ok.blt, Nat.le_refl _, fun y z c h1 h2 => I.ok.inj y z c (B.lk y c h1) (B.lk z c h2), fun y hy => B.has y hy, fun y c h => (nomatch h), I.ok.hd, I.ok.frames, .inl rfl, fun b hb => ?_, I.bs, Nat.le_trans I.ok.bsz I.sz, fun b o e hb => ?_, fun b hb => ?_, I.stack, I.stkFree⟩,
    rfl, I.bare, Un.kept keep, ⟨m, hn, fun k y v e1 e2 e3 => ?_⟩, fun y c e => ?_, I.hok.fresh (Nat.le_refl _), fun y c e => I.freeC y c (B.lk y c e), fun p hp => ?_, I.hok.kept keep, B.len σ I.len⟩
  · obtain ⟨⟨_, _, _, _, hc, _⟩, lt⟩ := hex b hb
    exact ⟨Nat.ne_of_lt lt, fun y c e => hc y c (B.lk y c e)⟩
  · obtain ⟨⟨_, _, _, h4, _, _⟩, _⟩ := hex b hb
    rcases h4 with z | z
    · exact I.ok.noex b o e z
    · exact absurd (Nat.lt_of_lt_of_le (Heap.lt_size (I.ok.bs b o e).1) z) (Nat.lt_irrefl _)
  · obtain ⟨⟨_, h2, h3, _, _, _⟩, _⟩ := hex b hb
    exact nst b h2 h3
  · obtain ⟨j, h1, h2, h3, h4⟩ := B.val σ k y v e1 e2
    obtain ⟨m', _, hl⟩ := I.loc
    obtain ⟨u, r, l⟩ := hl j y v h1 h2 (.inr (.inl h3))
    refine ⟨u, r, ?_⟩
    rcases l with ⟨hk, _⟩ | ⟨_, c, hc, z⟩
    · have hk' : X.env.scope.names.lookup y = some .local := hk
      rw [h3] at hk'
      cases hk'
    · obtain ⟨c', hc'⟩ := B.has y (.inl h4)
      have e : c' = c := Option.some.inj ((B.lk y c' hc').symm.trans hc)
      subst e
      obtain ⟨o, ho, hd⟩ := z
      exact .inr ⟨.inl h4, c', hc', o, keep _ o ho, hd⟩
  · obtain ⟨v, o, ho, hd⟩ := I.cell y c (B.lk y c e)
    exact ⟨v, o, keep _ o ho, hd⟩
  · rw [List.append_nil] at hp
    obtain ⟨e, n, ne, nf, d⟩ := I.pin p hp
    exact ⟨keep _ _ e, n, Nat.ne_of_lt (Heap.lt_size e), nst _ ne nf, d⟩

theorem lookup_relabel {env : Env} : ∀ {names : List (Str × NameKind)} {x : Str} {k : NameKind},
    (names.map fun (n, k) => if (k == NameKind.free && env.scope.kind == .function && env.kindOf n == some .cell) then (n, NameKind.cell) else (n, k)).lookup x = some k →
    ∃ k0, names.lookup x = some k0 ∧ (k = k0 ∨ (k0 = .free ∧ k = .cell))
  | [], _, _, h => by simp at h
  | (n, k0) :: r, x, k, h => by
    have ih := @lookup_relabel env r x k
    have h : List.lookup x ((if (k0 == NameKind.free && env.scope.kind == .function && env.kindOf n == some .cell) = true then (n, NameKind.cell) else (n, k0)) :: (r.map fun (n, k) => if (k == NameKind.free && env.scope.kind == .function && env.kindOf n == some .cell) then (n, NameKind.cell) else (n, k))) = some k := h
    cases hx : x == n with
    | true =>
      by_cases hc : (k0 == NameKind.free && env.scope.kind == .function && env.kindOf n == some .cell) = true
      · rw [if_pos hc] at h
        simp only [List.lookup_cons, hx] at h ⊢
        have hf : k0 = .free := by
          have hc' := hc
          simp only [Bool.and_eq_true] at hc'
          exact eq_of_beq hc'.1.1
        exact ⟨k0, rfl, .inr ⟨hf, (Option.some.inj h).symm⟩⟩
      · rw [if_neg hc] at h
        simp only [List.lookup_cons, hx] at h ⊢
        exact ⟨k0, rfl, .inl (Option.some.inj h).symm⟩
    | false =>
      have h2 : (r.map fun (n, k) => if (k == NameKind.free && env.scope.kind == .function && env.kindOf n == some .cell) then (n, NameKind.cell) else (n, k)).lookup x = some k := by
        by_cases hc : (k0 == NameKind.free && env.scope.kind == .function && env.kindOf n == some .cell) = true
        · rw [if_pos hc] at h; simp only [List.lookup_cons, hx] at h; exact h
        · rw [if_neg hc] at h; simp only [List.lookup_cons, hx] at h; exact h
      obtain ⟨k1, e1, e2⟩ := ih h2
      exact ⟨k1, by simp only [List.lookup_cons, hx]; exact e1, e2⟩
theorem lookup_relabel_free {env : Env} (hk : env.scope.kind = .function) : ∀ {names : List (Str × NameKind)} {x : Str}, env.scope.names.lookup x = some .cell → names.lookup x = some .free →
    (names.map fun (n, k) => if (k == NameKind.free && env.scope.kind == .function && env.kindOf n == some .cell) then (n, NameKind.cell) else (n, k)).lookup x = some .cell
  | [], _, _, h => by simp at h
  | (n, k0) :: r, x, hc, h => by
    have ih := @lookup_relabel_free env hk r x hc
    show List.lookup x ((if (k0 == NameKind.free && env.scope.kind == .function && env.kindOf n == some .cell) = true then (n, NameKind.cell) else (n, k0)) :: _) = _
    cases hx : x == n with
    | true =>
      simp only [List.lookup_cons, hx] at h
      cases h
      have e : x = n := eq_of_beq hx
      have hc' : env.kindOf n = some .cell := by rw [← e]; exact hc
      simp [List.lookup_cons, hx, hk, hc']
    | false =>
      simp only [List.lookup_cons, hx] at h
      by_cases hq : (k0 == NameKind.free && env.scope.kind == .function && env.kindOf n == some .cell) = true
      · rw [if_pos hq]; simp only [List.lookup_cons, hx]; exact ih h
      · rw [if_neg hq]; simp only [List.lookup_cons, hx]; exact ih h
theorem blk0 {X : Cx} {scope : Scope} {x : Str} (hk : scope.kind = .function) (hn : ∀ p ∈ scope.names, p.2 ≠ .cell ∧ p.2 ≠ .free) (hl : ∀ y ∈ scope.names, y.2 = .local → scope.names.lookup y.1 = some .local)
    (hx : scope.names.lookup x = some .local) (hc : closureFor scope X.env = pure []) : BlkOk X [x] scope [] (fun _ => [none]) 0 x where
  kind := hk
  cell := fun y hy => (hn y hy).1
  names := hl
  clos := hc
  lk := fun y c h => by simp at h
  has := fun y h => by
    rcases h with h | h
    · obtain ⟨k0, e, z⟩ := lookup_relabel h
      have m := hn _ (PySem.mem_of_lookup e)
      rcases z with z | ⟨z, _⟩
      · exact absurd z.symm m.1
      · exact absurd z m.2
    · obtain ⟨k0, e, z⟩ := lookup_relabel h
      have m := hn _ (PySem.mem_of_lookup e)
      rcases z with z | ⟨z, _⟩
      · exact absurd z.symm m.2
      · exact absurd z m.2
  nd := by simp
  ix := rfl
  loc := hx
  len := fun _ _ => rfl
  val := fun σ k y v h1 h2 => by
    cases k with
    | zero => simp at h2
    | succ k => simp at h2
noncomputable def LcP (J : It) (i : Nat) (tt : TT) (te : TE) (Q : VK) (τ : St) (H1 : Hp) (D : Addr) : Prop :=
  ∃ W : Nat → Nat → St → Hp → Prop, (∃ m, W 0 m τ (upd H1 D (.lst []))) ∧ ∀ k m σ' H2, W k m σ' H2 →
    (J.stop k H2 ∧ Q (.ref D) H2) ∨ (J.go k H2 ∧ ∀ v H3, J.yld k H2 v H3 → tt (σ'.set i (some v)) H3 fun ok H4 => if ok = true
      then te (σ'.set i (some v)) H4 fun y H5 => ∃ xs, H5 D = some (.lst xs) ∧ xs.length < sizeLine ∧ ∃ m', m' < m ∧ W (k + 1) m' (σ'.set i (some v)) (upd H5 D (.lst (xs ++ [y])))
      else ∃ m', m' < m ∧ W (k + 1) m' (σ'.set i (some v)) H4)
noncomputable def tLC (wi : TI) (f : St → St) (i : Nat) (tt : TT) (te : TE) : TE := fun σ H Q => wi σ H fun J H1 => ∀ D, H1 D = none → LcP J i tt te Q (f σ) H1 D

theorem pe_lc {X : Cx} {elt iter : Expr} {x : Str} {px : Pos} {ifs : List Expr} {scope : Scope} {pos : Pos} {N : List Str} {cl : List (Str × Addr)} {f : St → St} {i : Nat} {wi : TI} {tt : TT} {te : TE}
    (hc : X.calm = true) (B : BlkOk X N scope cl f i x) (hi : PI X (.Name x px) iter wi)
    (htt : ∀ C s₀ H₀ ex pins, PTs (blk X N scope cl C s₀ H₀ ex pins) ifs tt) (hte : ∀ C s₀ H₀ ex pins, PE (blk X N scope cl C s₀ H₀ ex pins) elt te)
    (hs : autoParam (∀ x, foldedSetIterable iter X.env x = pure x) L2.Internal.auI._auto_1) : PE X (.ListComp elt [⟨.Name x px, iter, ifs, 0⟩] scope pos) (tLC wi f i tt te) := by
  intro pins s σ H Q I h
  rw [eval_ListComp]
  refine wpAny_comprehension_free (use := none) rfl hs B.clos B.kind B.names (thn (hi pins s σ H _ I h) fun xv s1 h1 => thn h1 fun itv s2 h2 => ?_)
  obtain ⟨it, fp, tn, J, H2, rfl, I2, T, st2, f2, q⟩ := h2
  have hD : H2 s2.heap.objs.size = none := I2.fresh
  obtain ⟨W, ⟨m0, w0⟩, turn⟩ := q _ hD
  refine wpAny_newObj_type (wpAny_newFunctionEnv B.cell (by intro y hy; simp at hy) (fun h₁ hns₁ hsb₁ => ?_) B.kind)
  have I3 : Inv X pins σ (upd H2 s2.heap.objs.size (.lst [])) { s2 with heap := s2.heap.push { cls := .type "list", data := .seq ([] : List Value).toArray } } := I2.lnew (its := []) (ys := []) (t' := s2.toks) .nil (Nat.zero_le _)
  have lt2 : ∀ b ∈ fp, b < s2.heap.objs.size := fun b hb => by
    obtain ⟨o, ho, _⟩ := T.obj _ _ st2 b hb
    exact Heap.lt_size ho
  have fp3 : ∀ b ∈ fp, FpOk X pins (upd H2 s2.heap.objs.size (.lst [])) b := fun b hb => by
    refine ⟨?_, (f2 b hb).2⟩
    rw [upd_ne (Nat.ne_of_lt (lt2 b hb))]
    exact (f2 b hb).1
  generalize hs3 : ({ s2 with heap := s2.heap.push { cls := .type "list", data := .seq ([] : List Value).toArray } } : Shared) = s3 at I3 hns₁ hsb₁ ⊢
  have eh : s2.heap.push { cls := .type "list", data := .seq ([] : List Value).toArray } = s3.heap := by rw [← hs3]
  have lt3 : ∀ b ∈ fp, b < s3.heap.objs.size := fun b hb => by
    rw [← eh, Heap.size_push]
    exact Nat.lt_succ_of_lt (lt2 b hb)
  have old : ∀ b o, s3.heap.get? b = some o → h₁.get? b = some o := fun b o e => hsb₁.extBut b o (Nat.ne_of_lt (Heap.lt_size e)) (Heap.get?_push_of_some _ e)
  have I4 := inv_blk (tk := s3.toks + ([] : List (Str × Value)).length) B I3 (ex := fp) (fun b hb => ⟨fp3 b hb, lt3 b hb⟩) old hns₁
  have st4 : tn 0 h₁ := T.keep _ _ _ st2 fun b _ o e => old b o (by rw [← eh]; exact Heap.get?_push_of_some _ e)
  -- the iterators in the block
  have fpB : ∀ {H' : Hp}, (∀ b ∈ fp, H' b = none) → ∀ b ∈ fp, FpOk (blk X N scope cl s3.heap.objs.size s3 (upd H2 s2.heap.objs.size (.lst [])) fp pins) [] H' b := fun {H'} hn b hb => by
    obtain ⟨_, g2, g3, g4, g5, g6⟩ := f2 b hb
    refine ⟨hn b hb, Nat.ne_of_lt (lt3 b hb), fun z => (List.mem_cons.mp (I3.stkSub b z)).elim g2 g3, .inl hb, fun y c e => g5 y c (B.lk y c e), fun p hp => ?_⟩
    rw [List.append_nil] at hp
    exact g6 p hp
  have loop : ∀ s4 : Shared, s4 = { s3 with heap := h₁, toks := s3.toks + ([] : List (Str × Value)).length } →
      codeAny (model X.prog X.w) X.A (.compLoop (.ListComp elt [⟨.Name x px, iter, ifs, 0⟩] scope pos) 0 (.ref it) (.ref s2.heap.objs.size) (compEnvC scope cl s3.heap.objs.size X.env))
        (compPost (model X.prog X.w) X.A X.xe none (EP X pins σ Q) (.ref s2.heap.objs.size) s3.heap.objs.size) s4 := by
    rintro s4 rfl
    refine codeAny_compLoop_tests (I := fun n s' => ∃ k σ' H', Inv (blk X N scope cl s3.heap.objs.size s3 (upd H2 s2.heap.objs.size (.lst [])) fp pins) [] σ' H' s' ∧ tn k s'.heap ∧ (∀ b ∈ fp, H' b = none) ∧ W k n σ' H') ?_ m0
      ⟨0, f σ, _, I4, st4, fun b hb => (fp3 b hb).1, w0⟩
    rintro n s5 ⟨k, σ5, H5, I5, st5, fr5, w5⟩
    rcases turn k n σ5 H5 w5 with ⟨stop, qn⟩ | ⟨go, step⟩
    · refine wpAny_mono (T.done (blk X N scope cl s3.heap.objs.size s3 (upd H2 s2.heap.objs.size (.lst [])) fp pins) rfl rfl rfl hc k [] s5 σ5 H5 _ I5 (fpB fr5) st5 stop) (fun r s6 h6 => ?_) fun _ _ z => z
      obtain ⟨hr, I6⟩ := h6
      subst hr
      obtain ⟨m6, hn6, _⟩ := id I6.loc
      refine ⟨m6, hn6, fun h' sb => ?_⟩
      have nC : ∀ b o, s3.heap.get? b = some o → b ≠ s3.heap.objs.size := fun b o e => Nat.ne_of_lt (Heap.lt_size e)
      have u6 : Un (frs X.stack) fp (upd H2 s2.heap.objs.size (.lst [])) H5 s3.heap s6.heap := I6.base
      have u7 : Un (frs X.stack) fp (upd H2 s2.heap.objs.size (.lst [])) H5 s3.heap h' :=
        ⟨fun b o e z1 z2 z3 => (sb.2 b (nC b o e)).trans (u6.keep b o e z1 z2 z3), fun b o e z1 z2 z3 => by
          obtain ⟨sl, e1⟩ := u6.slot b o e z1 z2 z3
          exact ⟨sl, (sb.2 b (nC b o e)).trans e1⟩, u6.free, fun b o e z => by
          obtain ⟨o', e1⟩ := u6.there b o e z
          exact ⟨o', (sb.2 b (nC b o e)).trans e1⟩, u6.tups, u6.frzs, u6.tbls⟩
      have hok7 : HOk X.prog X.w H5 h' := fun b o e => (I6.hok b o e).stay (fun c w' hcc e1 => (sb.2 c (fun z => by
          have fr : H5 s3.heap.objs.size = none := I6.free
          rcases hcc with y | y
          · rw [← y, z, fr] at e; cases e
          · rw [z, fr] at y; cases y)).trans e1) (fun _ z => z) fun _ _ z => z
      have I7 : Inv X pins σ H5 { s6 with heap := h' } := I3.call' (s' := { s6 with heap := h' }) (ch := fp) I6.os u7 hok7 I6.bare fun b hb => by
        obtain ⟨_, g2, g3, g4, g5, g6⟩ := f2 b hb
        exact ⟨g4, g2, g5, g6⟩
      exact ⟨.ref s2.heap.objs.size, H5, I7, rfl, qn⟩
    · refine wpAny_mono (T.item (blk X N scope cl s3.heap.objs.size s3 (upd H2 s2.heap.objs.size (.lst [])) fp pins) rfl rfl rfl hc k [] s5 σ5 H5 _ I5 (fpB fr5) st5 go) (fun r s6 h6 => ?_) fun _ _ z => z
      obtain ⟨u, hr, h6⟩ := h6
      subst hr
      show wpAny _ _ (pure () >>= fun _ => assign (.Name x px) (compEnvC scope cl s3.heap.objs.size X.env) u) _ _ s6
      refine wpAny_bind (wpAny_mono (show wpAny _ _ (pure ()) _ _ s6 from h6) (fun _ s7 h7 => ?_) fun _ _ z => z)
      obtain ⟨v, H7, I7, r7, y7, st7, fr7⟩ := h7
      have I7' := I7.pinned (fpB fr7) (T.obj _ _ st7)
      refine wpAny_assign_Name (store_ok (X := blk X N scope cl s3.heap.objs.size s3 (upd H2 s2.heap.objs.size (.lst [])) fp pins) I7' B.nd B.ix (.inl (lookup_relabel_local B.loc)) r7 (fun s8 I8 => ?_) (.inr (lookup_relabel_local B.loc)))
      have back : ∀ {σ9 : St} {H9 : Hp} {s9 : Shared}, Inv (blk X N scope cl s3.heap.objs.size s3 (upd H2 s2.heap.objs.size (.lst [])) fp pins) ([] ++ pinsAt fp s7.heap) σ9 H9 s9 → (∃ m', m' < n ∧ W (k + 1) m' σ9 H9) →
          ∃ m', m' < n ∧ ∃ k σ' H', Inv (blk X N scope cl s3.heap.objs.size s3 (upd H2 s2.heap.objs.size (.lst [])) fp pins) [] σ' H' s9 ∧ tn k s9.heap ∧ (∀ b ∈ fp, H' b = none) ∧ W k m' σ' H' := fun {σ9 H9 s9} I9 q9 => by
        obtain ⟨m', hm, w9⟩ := q9
        refine ⟨m', hm, k + 1, σ9, H9, I9.unpinned, T.keep _ _ _ st7 fun b hb o e => (I9.pin (b, o) (List.mem_append_right _ (List.mem_append_right _ (mem_pinsAt hb e)))).1, fun b hb => ?_, w9⟩
        obtain ⟨o, e, d⟩ := T.obj _ _ st7 b hb
        exact (I9.pin (b, o) (List.mem_append_right _ (List.mem_append_right _ (mem_pinsAt hb e)))).2.1
      refine wpAny_mono (htt _ _ _ _ _ _ s8 _ H7 _ I8 (step v H7 y7)) (fun ok s9 h9 => ?_) fun _ _ z => False.elim z
      obtain ⟨H9, I9, q9⟩ := h9
      cases ok with
      | false =>
        rw [if_neg Bool.false_ne_true]
        rw [if_neg Bool.false_ne_true] at q9
        exact back I9 q9
      | true =>
        rw [if_pos rfl]
        rw [if_pos rfl] at q9
        refine wpAny_mono (hte _ _ _ _ _ _ s9 _ H9 _ I9 q9) (fun y s10 h10 => ?_) fun _ _ z => False.elim z
        obtain ⟨v10, H10, I10, r10, xs, hx10, hz, q10⟩ := h10
        refine wpAny_mono (mt_append (X := blk X N scope cl s3.heap.objs.size s3 (upd H2 s2.heap.objs.size (.lst [])) fp pins) _ s10 _ H10 (.ref s2.heap.objs.size) [v10] _ [y] (fun _ H11 => H11 = upd H10 s2.heap.objs.size (.lst (xs ++ [v10]))) I10 rfl (.cons r10 .nil) ⟨_, xs, v10, rfl, rfl, hx10, hz, rfl⟩) (fun _ s11 h11 => ?_) fun _ _ z => False.elim z
        obtain ⟨_, H11, I11, _, e11⟩ := h11
        subst e11
        exact back I11 q10
  exact codeAny_compStart_list (loop _ rfl) (T.self _ 0 _ _ _ st4 (loop _ rfl))

section
variable {X : Cx}
noncomputable def rSlS : V → Option Int → Option Int → Hp → VK → Prop := fun x lo hi H Q => ∃ z, x = .str z ∧ z.length ≤ sizeLine ∧ Q (.str (Txt.slice z lo hi)) H
theorem sl_str : SlR X rSlS := by
  intro pins s σ H x v vl vu lo hi sl Q I rx hs pl pu h
  obtain ⟨z, rfl, hz, q⟩ := h
  obtain ⟨t, rfl⟩ := rx
  refine ⟨"str", _, F.slot_str_getitem.lookup, typeIs_str _ _ _, ?_⟩
  have fin : ∀ t' k, EP X pins σ Q (.str (Txt.slice z lo hi) t') { s with toks := k } := fun t' k => ⟨.str _, H, I.tok k, ⟨t', rfl⟩, q⟩
  cases pl with
  | none =>
    cases pu with
    | none => exact wpAny_getItem_str_slice (l := none) (u := none) (st := none) hs rfl (post_val_or_str ⟨Nat.le_trans (Txt.slice_le z _ _) hz, fun t' k => fin t' k⟩)
    | int j u => exact wpAny_getItem_str_slice (l := none) (u := some (j, u)) (st := none) hs rfl (post_val_or_str ⟨Nat.le_trans (Txt.slice_le z _ _) hz, fun t' k => fin t' k⟩)
  | int i u' =>
    cases pu with
    | none => exact wpAny_getItem_str_slice (l := some (i, u')) (u := none) (st := none) hs rfl (post_val_or_str ⟨Nat.le_trans (Txt.slice_le z _ _) hz, fun t' k => fin t' k⟩)
    | int j u => exact wpAny_getItem_str_slice (l := some (i, u')) (u := some (j, u)) (st := none) hs rfl (post_val_or_str ⟨Nat.le_trans (Txt.slice_le z _ _) hz, fun t' k => fin t' k⟩)

theorem call_isi : CallR X (.builtin "isinstance") (fun xs H Q => ∃ x v c t b, xs = [x, v] ∧ (∀ u, RelV v u → u = c) ∧ TyOf X.K H x t ∧ PySem.W.kitOne X.K t c = some b ∧ Q (.bl b) H) := by
  intro pins s σ H xs us Q I r h
  obtain ⟨x, v, c, t, b, rfl, hc, ht, hk, q⟩ := h
  obtain ⟨u, u', rfl, ru, ru'⟩ := vals2 r
  cases hc u' ru'
  exact isinst_ok I ru ht hk fun tk => ⟨.bl b, H, I.tok tk, rfl, q⟩
end
end L2.Internal
namespace L2.Internal
open PySem PySem.Spec PyProof.Rows
section
variable {X : Cx}
open Builtin Builtin.Str in
end
end L2.Internal
namespace L2.Internal
open PySem PySem.Spec PyProof.Rows
section
variable {X : Cx} {st : Stmt} {rest : List Stmt} {t u : TS}
end
end L2.Internal
namespace L2.Internal
open PySem PySem.Spec PyProof.Rows
section
variable {P : Program} {w : World} {H H' : Hp} {h h' : Heap} {a : Addr} {o : HO}
theorem ObjOk.there (x : ObjOk P w H h a o) : ∃ ob, h.get? a = some ob := by
  cases o with
  | lst xs => obtain ⟨_, _, _, _, e⟩ := x; exact ⟨_, e⟩
  | tup xs => obtain ⟨_, _, _, ⟨ob, e, _⟩⟩ := x; exact ⟨ob, e⟩
  | dK kvs => obtain ⟨_, _, _, _, ob, _, _, e, _⟩ := x; exact ⟨ob, e⟩
  | dT kvs => obtain ⟨_, _, _, _, ob, _, _, e, _⟩ := x; exact ⟨ob, e⟩
  | set S n => obtain ⟨ob, _, _, _, e, _⟩ := x; exact ⟨ob, e⟩
  | ins C dx fs => obtain ⟨_, _, _, e, _⟩ := x; exact ⟨_, e⟩
  | own y => exact x
  | xd fs => obtain ⟨_, ⟨ob, _, _, e, _⟩, _⟩ := x; exact ⟨ob, e⟩
  | rng lo hi => obtain ⟨_, _, _, e⟩ := x; exact ⟨_, e⟩
  | frz ob u => obtain ⟨e, _⟩ := x; exact ⟨_, e⟩
  | tbl ps => exact ⟨_, x⟩
  | met f y => exact ⟨_, x⟩
  | ext φ => exact x.2.1
end

structure Fl (P : Program) (w : World) (outer : List Env) (H : Hp) (s : Shared) (B : Heap) (H' : Hp) (s' : Shared) : Prop where
  os : s'.os = s.os
  bare : AllBare s'.gens
  un : Un (frs outer) [] H H' s.heap s'.heap
  hok : HOk P w H' s'.heap
  stay : B.StaysIn s'.heap
  trk : ∀ b u, H' b = some u → ∃ o, B.get? b = some o
  old : ∀ b o, s.heap.get? b = some o → b ∉ frs outer → ∃ o', B.get? b = some o'
section
variable {X : Cx} {pins : List (Addr × Obj)} {σ : St} {H H' : Hp} {s s' : Shared} {B h : Heap}
theorem Inv.nst (I : Inv X pins σ H s) {b : Addr} (h1 : b ≠ X.env.locals) (h2 : b ∉ X.fs) : b ∉ frs X.stack := fun hb => (List.mem_cons.mp (I.stkSub b hb)).elim h1 h2
theorem Inv.oldNe (I : Inv X pins σ H s) {b : Addr} {o : Obj} (e : X.s₀.heap.get? b = some o) : b ≠ X.env.locals := Nat.ne_of_lt (Nat.lt_of_lt_of_le (Heap.lt_size e) I.ok.above)
theorem Inv.flown (I : Inv X pins σ H s) (F : Fl X.prog X.w X.stack H s B H' s') (st : B.StaysIn h) (up : s'.heap.UpToSlots h) : Inv X pins σ H' { s' with heap := h } := by
  have J : Inv X pins σ H' s' := I.call' (ch := []) F.os F.un F.hok F.bare (fun b hb => nomatch hb)
  have ex : ∀ b o o0, s'.heap.get? b = some o → s.heap.get? b = some o0 → b ∉ frs X.stack → h.get? b = some o := fun b o o0 e e0 hb => by
    obtain ⟨o1, e1⟩ := F.old b o0 e0 hb
    have e2 := F.stay b o1 e1
    rw [e] at e2
    cases e2
    exact st b o e1
  have fr : ∀ b o, b ∈ frs X.stack → s'.heap.get? b = some o → ∃ sl, h.get? b = some { o with slots := sl } := fun b o hb e => by
    obtain ⟨_, o1, e1, hd⟩ := J.stack.mem hb
    rw [e] at e1
    cases e1
    exact up b o e hd
  have cellK : ∀ c v, s'.heap.IsCell c v → h.IsCell c v := fun c v ⟨o, ho, hd⟩ => by
    obtain ⟨sl, e⟩ := up c o ho (fun vs z => by rw [hd] at z; cases z)
    exact ⟨_, e, hd⟩
  refine ⟨J.ok, J.os, J.bare, ⟨fun b o e n hf hx => ?_, fun b o e n hf hx => ?_, J.base.free, fun b o e hx => ?_, J.base.tups, J.base.frzs, J.base.tbls⟩, ?_, fun y c e => ?_, J.free, J.freeC, fun p hp => ?_, fun b u e => ?_, J.len⟩
  · exact ex b o o (J.base.keep b o e n hf hx) (I.base.keep b o e n hf hx) (I.nst (I.oldNe e) hf)
  · obtain ⟨sl, e1⟩ := J.base.slot b o e n hf hx
    obtain ⟨_, o1, e2, hd⟩ := J.funs.mem hf
    rw [e1] at e2
    cases e2
    obtain ⟨sl', e3⟩ := up b _ e1 hd
    exact ⟨sl', e3⟩
  · obtain ⟨o', e1⟩ := J.base.there b o e hx
    by_cases hb : b ∈ frs X.stack
    · obtain ⟨sl, e2⟩ := fr b o' hb e1
      exact ⟨_, e2⟩
    · obtain ⟨o0, e0⟩ := I.base.there b o e hx
      exact ⟨o', ex b o' o0 e1 e0 hb⟩
  · obtain ⟨m, hn, hl⟩ := J.loc
    refine ⟨m, up.ns hn, fun i x v e1 e2 e3 => ?_⟩
    obtain ⟨u, r, l⟩ := hl i x v e1 e2 e3
    refine ⟨u, r, ?_⟩
    rcases l with l | ⟨k, c, e, z⟩
    · exact .inl l
    · exact .inr ⟨k, c, e, cellK _ _ z⟩
  · obtain ⟨v, z⟩ := J.cell y c e
    exact ⟨v, cellK _ _ z⟩
  · obtain ⟨e, n, ne, nf, d⟩ := J.pin p hp
    exact ⟨ex p.1 p.2 p.2 e (I.pin p hp).1 (I.nst ne nf), n, ne, nf, d⟩
  · refine (J.hok b u e).stay (fun c v hc q => ?_) (fun _ z => z) fun _ _ z => z
    have tr : ∃ u', H' c = some u' := by
      rcases hc with z | z
      · rw [z]; exact ⟨u, e⟩
      · exact ⟨_, z⟩
    obtain ⟨u', hu⟩ := tr
    obtain ⟨o1, e1⟩ := F.trk c u' hu
    have e2 := F.stay c o1 e1
    rw [q] at e2
    cases e2
    exact st c v e1
theorem Inv.track {ea : Addr} {o : HO} (I : Inv X pins σ H s) (hn : H ea = none) (h0 : X.s₀.heap.get? ea = none) (hL : ea ≠ X.env.locals) (hC : ∀ x c, X.env.cells.lookup x = some c → c ≠ ea) (hP : ∀ p ∈ X.pn ++ pins, p.1 ≠ ea)
    (new : ObjOk X.prog X.w (upd H ea o) s.heap ea o) : Inv X pins σ (upd H ea o) s := by
  have ne : ∀ b u, H b = some u → b ≠ ea := fun b u e z => by rw [z, hn] at e; cases e
  refine ⟨I.ok, I.os, I.bare, ⟨I.base.keep, I.base.slot, fun b ob e n hx => ?_, I.base.there, fun b xs e => ?_, fun b ob u e => ?_, fun b ps e => ?_⟩, I.loc, I.cell, ?_, fun x c e => ?_, fun p hp => ?_, fun b u e => ?_, I.len⟩
  · rw [upd_ne (fun z => by rw [z, h0] at e; cases e)]
    exact I.base.free b ob e n hx
  · have e1 := I.base.tups b xs e
    rw [upd_ne (ne b _ e1)]
    exact e1
  · have e1 := I.base.frzs b ob u e
    rw [upd_ne (ne b _ e1)]
    exact e1
  · obtain ⟨more, e1⟩ := I.base.tbls b ps e
    exact ⟨more, by rw [upd_ne (ne b _ e1)]; exact e1⟩
  · rw [upd_ne (Ne.symm hL)]
    exact I.free
  · rw [upd_ne (hC x c e)]
    exact I.freeC x c e
  · obtain ⟨e, n, n2, nf, d⟩ := I.pin p hp
    exact ⟨e, by rw [upd_ne (hP p hp)]; exact n, n2, nf, d⟩
  · by_cases hb : b = ea
    · subst hb
      rw [upd_same] at e
      cases e
      exact new
    · rw [upd_ne hb] at e
      exact (I.hok b u e).stay (fun _ _ _ q => q) (fun c z => by rw [upd_ne (ne c _ z)]; exact z) fun c xs z => by rw [upd_ne (ne c _ z)]; exact z
theorem unbind_ok {M : Model} {A : Around} {E : Value → Shared → Prop} {i : Nat} {x : Str} {pos : Pos} {Q : Unit → Shared → Prop} (I : Inv X pins σ H s) (hN : X.N.Nodup) (hi : X.N[i]? = some x) (hx : X.env.scope.names.lookup x = some .local)
    (h : ∀ s', Inv X pins (σ.set i none) H s' → Q () s') : wpAny M A (do bindName X.env x .none; unbindBehindTheSuite X.env x pos) Q E s := by
  obtain ⟨m, hn, hl⟩ := id I.loc
  have hcls : (X.env.scope.kind == .class || (X.env.scope.kind == .module && X.env.locals != X.env.globals)) = false := by rw [I.ok.kind]; rfl
  refine wpAny_nameGoes_keeps hx hn hcls fun h' v hn' hs => ?_
  have old : ∀ b o, X.s₀.heap.get? b = some o → h'.get? b = s.heap.get? b := fun b o e => hs.2 b (I.oldNe e)
  have tr : ∀ b u, H b = some u → h'.get? b = s.heap.get? b := fun b u e => hs.2 b (fun z => by rw [z, I.free] at e; cases e)
  refine h _ ⟨I.ok, I.os, I.bare, ⟨fun b o e n hf hx' => ?_, fun b o e n hf hx' => ?_, I.base.free, fun b o e hx' => ?_, I.base.tups, I.base.frzs, I.base.tbls⟩, ⟨_, hn', fun j y v' e1 e2 e3 => ?_⟩, fun y c e => ?_, I.free, I.freeC, fun p hp => ?_, fun b u e => ?_, by simpa using I.len⟩
  · show h'.get? b = _
    rw [old b o e]
    exact I.base.keep b o e n hf hx'
  · show ∃ sl, h'.get? b = _
    rw [old b o e]
    exact I.base.slot b o e n hf hx'
  · show ∃ o', h'.get? b = _
    rw [old b o e]
    exact I.base.there b o e hx'
  · have hj : j ≠ i := fun z => by
      rw [z] at e2
      have hiσ : i < σ.length := by rw [I.len]; exact (List.getElem?_eq_some_iff.mp hi).1
      rw [List.getElem?_set_self hiσ] at e2
      cases e2
    rw [List.getElem?_set_ne (Ne.symm hj)] at e2
    obtain ⟨u, r, q⟩ := hl j y v' e1 e2 e3
    refine ⟨u, r, ?_⟩
    rcases q with ⟨k, e⟩ | ⟨k, c, e, z⟩
    · have yx : y ≠ x := fun e => hj (nodup_ix hN e1 (e ▸ hi))
      exact .inl ⟨k, by show (if y = x then v else m y) = some u; rw [if_neg yx]; exact e⟩
    · exact .inr ⟨k, c, e, z.sameBut hs (I.cne y c e)⟩
  · obtain ⟨w', z⟩ := I.cell y c e
    exact ⟨w', z.sameBut hs (I.cne y c e)⟩
  · obtain ⟨e, n, ne, nf, d⟩ := I.pin p hp
    exact ⟨(hs.2 p.1 ne).trans e, n, ne, nf, d⟩
  · refine (I.hok b u e).stay (fun c v hc q => ?_) (fun _ z => z) fun _ _ z => z
    show h'.get? c = _
    rcases hc with z | z
    · rw [z] at q ⊢
      rw [tr b u e]
      exact q
    · rw [tr c _ z]
      exact q
end

section
variable {P : Program} {w : World} {K : PySem.W.Frag} {mg : Str → Option Value} {base : Heap} {N : List Str} {qual : Str} {scope : Scope} {f : Addr} {cd : Value} {A : Around} {outer : List Env} {s₀ : Shared} {H₀ : Hp} {E : XK}
end

noncomputable def VEbm : List Value := [.type "ValueError", .type "Exception", .type "BaseException", .type "object"]
noncomputable abbrev ExcV (K : PySem.W.Frag) (C : Addr) : Prop := PySem.W.excIn K C VEbm "ValueError.__new__" = true
section
variable {X : Cx} {C : Addr} {E : XK} {x : Str} {np cpos pos : Pos} {e : Expr} {es : List Expr} {t : TA}
end

section
variable {P : Program} {w : World} {K : PySem.W.Frag} {mg : Str → Option Value} {base : Heap}
end

noncomputable abbrev Cx.hand (X : Cx) (ea : Addr) : Cx := { X with A := X.A.mark (some (.ref ea)), calm := false, xe := fun _ _ => False }
section
variable {X : Cx} {pins : List (Addr × Obj)} {σ : St} {H : Hp} {s : Shared}
theorem Inv.hand (I : Inv X pins σ H s) (ea : Addr) : Inv (X.hand ea) pins σ H s :=
  ⟨⟨I.ok.mod, I.ok.kind, I.ok.glob, I.ok.blt, I.ok.above, I.ok.inj, I.ok.has, I.ok.cab, (fun z => nomatch z), I.ok.frames, I.ok.stk, I.ok.exf, I.ok.bs, I.ok.bsz, I.ok.noex, I.ok.exfs, I.ok.funs, I.ok.frf⟩, I.os, I.bare, I.base, I.loc, I.cell, I.free, I.freeC, I.pin, I.hok, I.len⟩
theorem Inv.unhand {ea : Addr} (I : Inv (X.hand ea) pins σ H s) (ok : X.Ok) : Inv X pins σ H s :=
  ⟨ok, I.os, I.bare, I.base, I.loc, I.cell, I.free, I.freeC, I.pin, I.hok, I.len⟩
end
section
variable {X : Cx} {CX : CXT} {k : Nat} {f Y : Addr} {fd : FuncData} {ps : List Str} {sp : Sp} {dvs : List V} {ds : List Value} {E : XK} {x y n : Str} {p pos pos' py hpos tpos : Pos} {e : Expr} {es : List Expr} {t : TA} {b₀ : Stmt} {body : List Stmt} {tb : TS} {i : Nat}
theorem run_fnE {E' : Value → Shared → Prop} {pins : List (Addr × Obj)} {σ : St} {H : Hp} {s : Shared} {Q : VK} {us : List Value} {vs : List V} (F : FnOk X.prog X.w X.K X.mg X.base CX k f fd ps sp) (hr : Room k X.A) (hb : Binds X.K fd ps ds) (hd : Vals dvs ds)
    (hx : ∀ e s', CX X.stack H s E e s' → E' e s') (I : Inv X pins σ H s) (r : Vals vs us) (h : sp (vs ++ dvs) H Q E) : wpAny (model X.prog X.w) X.A (call (.ref f) us) (EP X pins σ Q) E' s := by
  have r2 : Vals (vs ++ dvs) (us ++ ds) := r.append hd
  have hl : (us ++ ds).length = ps.length := by rw [← r2.length]; exact F.len _ _ _ _ h
  refine wpAny_call (codeAny_mono (F.run X.A X.stack s H ⟨us, []⟩ (us ++ ds) (vs ++ dvs) Q E hr I.env0 (hb s us I.kIn hl) r2 h) fun r s' hq => ?_)
  cases r with
  | error e => exact hx e s' hq
  | ok fl =>
    cases fl with
    | ret u => exact I.after hq
    | next => exact False.elim hq
    | brk => exact False.elim hq
    | cont => exact False.elim hq
end

section
variable {X : Cx} {e : Expr} {es : List Expr} {te : TE} {pos : Pos}
end
end L2.Internal
namespace L2.Internal
open PySem PySem.Spec PyProof.Rows
section
variable {X : Cx}
end
inductive Dt where
  | flat (v : V)
  | tup (l : List Dt)
  | lst (l : List Dt)
mutual
inductive At (K : PySem.W.Frag) (H : Hp) : V → Dt → Prop where
  | flat {v : V} (h : flatV v = true) : At K H v (.flat v)
  | tup {a : Addr} {xs : List V} {ds : List Dt} (h : SqT K H a xs) (hs : Ats K H xs ds) : At K H (.ref a) (.tup ds)
  | lst {a : Addr} {xs : List V} {ds : List Dt} (h : SqL K H a xs) (hs : Ats K H xs ds) : At K H (.ref a) (.lst ds)
inductive Ats (K : PySem.W.Frag) (H : Hp) : List V → List Dt → Prop where
  | nil : Ats K H [] []
  | cons {x : V} {d : Dt} {xs : List V} {ds : List Dt} (h : At K H x d) (hs : Ats K H xs ds) : Ats K H (x :: xs) (d :: ds)
end
mutual
noncomputable def depD : Dt → Nat
  | .flat _ => 0
  | .tup l => depDs l + 1
  | .lst l => depDs l + 1
noncomputable def depDs : List Dt → Nat
  | [] => 0
  | x :: xs => max (depD x) (depDs xs)
end
theorem depDs_get : ∀ {l : List Dt} {j : Nat} {a : Dt}, l[j]? = some a → depD a ≤ depDs l
  | x :: xs, 0, a, e => by cases e; rw [depDs]; exact Nat.le_max_left ..
  | x :: xs, j + 1, a, e => by rw [depDs]; exact Nat.le_trans (depDs_get (j := j) e) (Nat.le_max_right ..)
  | [], _, _, e => by simp at e
section
variable {X : Cx} {pins : List (Addr × Obj)} {σ : St} {H : Hp} {s : Shared}
end
section
variable {X : Cx}
end
end L2.Internal
namespace L2.Internal
open PySem PySem.Spec PyProof.Rows
section
variable {X : Cx} {o i : Expr} {pos : Pos} {td ty : TE} {a : Addr} {kvs : List (Key × V)}
end
end L2.Internal
namespace L2.Internal
open PySem PySem.Spec PyProof.Rows
section
variable {X : Cx}
end
section
variable {X : Cx} {k : Nat} {f Y : Addr} {fd : FuncData} {ps : List Str} {sp : Sp} {dvs : List V} {ds : List Value} {x y n : Str} {p pos pos' py hpos tpos pn : Pos} {e : Expr} {es : List Expr} {t : TA} {b₀ : Stmt} {body : List Stmt} {tb : TS} {i : Nat}
end
end L2.Internal
namespace L2.Internal
end L2.Internal
namespace L2.Internal
open PySem PySem.Spec PyProof.Rows
end L2.Internal
namespace L2.Internal
open PySem PySem.Spec PyProof.Rows

section
variable {X : Cx} {pins : List (Addr × Obj)} {σ : St} {H : Hp} {s : Shared} {h' : Heap}
theorem Inv.turnedL {t' : Nat} {ch : List Addr} (I : Inv X pins σ H s) (k : ∀ b o, b ∉ ch → s.heap.get? b = some o → h'.get? b = some o) (hf : ∀ b ∈ ch, FpOk X pins H b) : Inv X pins σ H { s with heap := h', toks := t' } := by
  have nit : ∀ b u, H b = some u → b ∉ ch := fun b u e z => by
    have q := (hf b z).1
    rw [q] at e; cases e
  refine I.step (g' := s.gens) (d' := s.drawn) (ch := ch) (fun b hb => ?_) (fun b o _ _ hc e _ => k b o hc e) (fun b o _ _ hc e _ => ⟨o.slots, k b o hc e⟩) (fun _ _ _ _ n => n)
    (fun b o hc e => ⟨o, k b o hc e⟩) (fun _ _ e => e) (fun _ _ _ e => e) (fun b ps e => ⟨#[], by rw [e]; simp⟩) (fun m hm => ?_) (fun b u e => ?_) I.bare
  · obtain ⟨_, f1, _, f3, f4, f5⟩ := hf b hb
    exact ⟨f3, f1, f4, f5⟩
  · obtain ⟨o, es, ep, ho, r⟩ := hm
    exact ⟨o, es, ep, k _ o (fun z => (hf _ z).2.1 rfl) ho, r⟩
  · refine (I.hok b u e).stay (fun c v hc q => k c v ?_ q) (fun _ q => q) fun _ _ q => q
    rcases hc with z | z
    · rw [z]; exact nit b u e
    · exact nit c _ z
theorem Inv.pairNew {T : Addr} {h : Heap} {tk : Nat} {ux uy : Value} {x y : V} (I : Inv X pins σ H s) (hT : s.heap.objs.size ≤ T) (J : Inv X pins σ H { s with heap := h, toks := tk }) (ht : Tup0 h T #[ux, uy]) (rx : RelV x ux) (ry : RelV y uy) :
    H T = none ∧ Inv X pins σ (upd H T (.tup [x, y])) { s with heap := h, toks := tk } := by
  have f := I.fpOk (H' := H) hT (I.hok.fresh hT)
  refine ⟨f.1, J.track f.1 ?_ f.2.1 f.2.2.2.2.1 f.2.2.2.2.2 ⟨by show 2 ≤ sizeLine; decide, [ux, uy], .cons rx (.cons ry .nil), ht⟩⟩
  cases q : X.s₀.heap.get? T with
  | none => rfl
  | some o => exact absurd (Nat.lt_of_lt_of_le (Heap.lt_size q) (Nat.le_trans I.sz hT)) (Nat.lt_irrefl _)
end

noncomputable def Itz (K : PySem.W.Frag) (a b : Addr) : It :=
  ⟨fun i H => ∃ xs ys x y, SqL K H a xs ∧ SqL K H b ys ∧ xs[i]? = some x ∧ ys[i]? = some y,
   fun i H v H' => ∃ T x y, v = .ref T ∧ H T = none ∧ H' = upd H T (.tup [x, y]) ∧ (∀ xs, SqL K H a xs → xs[i]? = some x) ∧ ∀ ys, SqL K H b ys → ys[i]? = some y,
   fun i H => ∃ xs ys, SqL K H a xs ∧ SqL K H b ys ∧ i = min xs.length ys.length⟩
noncomputable def ZSt (z TI TO i1 i2 a b : Addr) (i : Nat) (h : Heap) : Prop := IsZip h z TI TO .none ∧ IsPair h TI (.ref i1) (.ref i2) ∧ (∃ u v, IsPair h TO u v) ∧ h.IsListIter i1 a i ∧ h.IsListIter i2 b i
theorem turn_zip {P : Program} {w : World} {K : PySem.W.Frag} {es : List Expr} {kk : Nat} {tp : Pos} {a b z TI TO i1 i2 : Addr} (D : ZipApart z TI TO i1 i2 a b) : Turn P w K (.Tuple es kk tp) (Itz K a b) [z, TI, TO, i1, i2] z (ZSt z TI TO i1 i2 a b) where
  mem := by simp
  obj := fun i h st c hc => by
    obtain ⟨g1, g2, ⟨u, v, g3⟩, ⟨o4, g4, _, d4⟩, ⟨o5, g5, _, d5⟩⟩ := st
    simp only [List.mem_cons, List.not_mem_nil, or_false] at hc
    rcases hc with e | e | e | e | e <;> subst e
    · exact ⟨_, g1, fun v q => nomatch q⟩
    · exact ⟨_, g2, fun v q => nomatch q⟩
    · exact ⟨_, g3, fun v q => nomatch q⟩
    · exact ⟨_, g4, fun v q => by rw [d4] at q; cases q⟩
    · exact ⟨_, g5, fun v q => by rw [d5] at q; cases q⟩
  keep := fun i h h' st k => by
    obtain ⟨g1, g2, ⟨u, v, g3⟩, g4, g5⟩ := st
    exact ⟨k z (by simp) _ g1, k TI (by simp) _ g2, ⟨u, v, k TO (by simp) _ g3⟩, g4.at fun o e => k i1 (by simp) o e, g5.at fun o e => k i2 (by simp) o e⟩
  item := by
    intro X hP hw hK hc i pins s σ H E I hf st hg
    subst hP hw hK
    obtain ⟨xs, ys, x, y, qx, qy, ex, ey⟩ := hg
    obtain ⟨i1s, r1, p1, z1⟩ := I.list qx
    obtain ⟨i2s, r2, p2, z2⟩ := I.list qy
    obtain ⟨g1, g2, g3, g4, g5⟩ := st
    obtain ⟨u3, v3, g3'⟩ := g3
    obtain ⟨ux, hux, rr1⟩ := r1.get ex
    obtain ⟨uy, huy, rr2⟩ := r2.get ey
    have hw : ∀ c ∈ [z, TO, i1, i2], FpOk X pins H c := fun c hc => hf c (by simp only [List.mem_cons, List.not_mem_nil, or_false] at hc ⊢; rcases hc with h | h | h | h <;> simp [h])
    refine wpAny_pyNext_zip_item D g1 g2 g3' g4 g5 p1.isList p2.isList (x := ux) (y := uy) (by simpa using hux) (by simpa using huy) fun h1 a1 a2 a3 a4 a5 a6 hk => ?_
    have kk1 : ∀ c o, c ∉ [z, TO, i1, i2] → s.heap.get? c = some o → h1.get? c = some o := fun c o hc e => hk c o (fun q => hc (by simp [q])) (fun q => hc (by simp [q])) (fun q => hc (by simp [q])) (fun q => hc (by simp [q])) e
    have J1 : Inv X pins σ H { s with heap := h1, toks := s.toks } := I.turnedL kk1 hw
    refine ⟨.ref s.heap.objs.size, rfl, wpAny_letOwnedTupleGo_zip a1 fun h2 a1' sb => ?_⟩
    have J2 : Inv X pins σ H { s with heap := h2, toks := s.toks } := Inv.turnedL (s := { s with heap := h1, toks := s.toks }) (h' := h2) (t' := s.toks) (ch := [z]) J1 (fun c o hc e => sb.extBut _ _ (fun q => hc (by simp [q])) e) fun c hc => hf c (by simp only [List.mem_cons, List.not_mem_nil, or_false] at hc ⊢; simp [hc])
    have zlt : z < s.heap.objs.size := Heap.lt_size g1
    have ht2 : Tup0 h2 s.heap.objs.size #[ux, uy] := ⟨_, sb.extBut _ _ (Nat.ne_of_gt zlt) a5, rfl, _, rfl, rfl⟩
    obtain ⟨fT, J3⟩ := I.pairNew (Nat.le_refl _) J2 ht2 rr1 rr2
    refine ⟨.ref s.heap.objs.size, _, J3, rfl, ⟨_, x, y, rfl, fT, rfl, fun l hl => by rw [I.list_inj hl qx]; exact ex, fun l hl => by rw [I.list_inj hl qy]; exact ey⟩,
      ⟨a1', sb.extBut _ _ D.TIz (hk _ _ D.TIz D.TITO D.TIi1 D.TIi2 g2), ⟨_, _, sb.extBut _ _ D.TOz a2⟩, a3.extBut sb.extBut D.i1z, a4.extBut sb.extBut D.i2z⟩, fun c hc => ?_⟩
    rw [upd_ne (fun q => ?_)]
    · exact (hf c hc).1
    · have lt : c < s.heap.objs.size := by
        obtain ⟨o4, e4, _⟩ := g4
        obtain ⟨o5, e5, _⟩ := g5
        simp only [List.mem_cons, List.not_mem_nil, or_false] at hc
        rcases hc with e | e | e | e | e <;> subst e
        · exact Heap.lt_size g1
        · exact Heap.lt_size g2
        · exact Heap.lt_size g3'
        · exact Heap.lt_size e4
        · exact Heap.lt_size e5
      exact absurd lt (by rw [q]; exact Nat.lt_irrefl _)
  done := by
    intro X hP hw hK hc i pins s σ H E I hf st hg
    subst hP hw hK
    obtain ⟨xs, ys, qx, qy, ei⟩ := hg
    obtain ⟨i1s, r1, p1, z1⟩ := I.list qx
    obtain ⟨i2s, r2, p2, z2⟩ := I.list qy
    obtain ⟨g1, g2, g3, g4, g5⟩ := st
    have W := WalksT.zip2 (prog := X.prog) (w := X.w) (I.ok.hd hc) z TI TO i1 i2 a b D i1s.toArray i2s.toArray
    have l1 := r1.length
    have l2 := r2.length
    have e : i = min i1s.toArray.size i2s.toArray.size := by simp only [List.size_toArray]; omega
    subst e
    exact W.done s _ _ ⟨g1, g2, g3, g4, g5, p1.isList, p2.isList⟩ fun h1 tk hk => ⟨rfl, I.turnedL hk fun c hc => hf c (by simp only [List.mem_cons, List.not_mem_nil, or_false] at hc ⊢; rcases hc with h | h | h | h <;> simp [h])⟩
  self := fun _ _ _ _ _ st h => wpAny_pyIter_zip st.1 h
theorem bt_zip : bootBuiltins "zip" = some (.type "zip") := by decide +kernel
theorem bt_enumerate : bootBuiltins "enumerate" = some (.type "enumerate") := by decide +kernel
theorem SqL.old {X : Cx} {pins : List (Addr × Obj)} {σ : St} {H : Hp} {s : Shared} {a : Addr} {xs : List V} (I : Inv X pins σ H s) (h : SqL X.K H a xs) : a < s.heap.objs.size := by
  obtain ⟨its, _, p, _⟩ := I.list h
  obtain ⟨o, e, _⟩ := p.isList
  exact Heap.lt_size e
noncomputable def iZip (K : PySem.W.Frag) (ta : TA) : TI := fun σ H R => ta σ H fun vs H1 => ∃ a b, vs = [.ref a, .ref b] ∧ (∃ xs, SqL K H1 a xs) ∧ (∃ ys, SqL K H1 b ys) ∧ R (Itz K a b) H1
section
variable {X : Cx}
theorem pi_zip {es : List Expr} {kk : Nat} {tp : Pos} {a b : Expr} {ta : TA} {p pos : Pos} (hg : Gl X "zip") (hm : X.mg "zip" = none) (ha : PA X [a, b] ta) (hs : autoParam (starEach [a, b] X.env = [(false, eval a X.env), (false, eval b X.env)]) L2.Internal.auR._auto_1) (hs2 : autoParam (starEach [b] X.env = [(false, eval b X.env)]) L2.Internal.auR._auto_1) :
    PI X (.Tuple es kk tp) (.Call (.Name "zip" p) [a, b] [] pos) (iZip X.K ta) := by
  intro pins s σ H R I h
  refine Call_ (ld_blt I hg hm bt_zip (PyProof.Rows.callWith_type1 (thn (ha pos pins s σ H _ I h) fun us s1 ⟨vs, H1, I1, r1, q1⟩ => ?_) (by rw [hs, hs2]) (by rw [hs2]; rfl)))
  obtain ⟨l1, l2, e, ⟨xs, q1⟩, ⟨ys, q2⟩, q⟩ := q1
  subst e
  obtain ⟨u, v, rfl, ru, rv⟩ := vals2 r1
  cases ru
  cases rv
  obtain ⟨i1s, w1, p1, z1⟩ := I1.list q1
  obtain ⟨i2s, w2, p2, z2⟩ := I1.list q2
  have o1 : @LT.lt Nat _ l1 s1.heap.objs.size := SqL.old I1 q1
  have o2 : @LT.lt Nat _ l2 s1.heap.objs.size := SqL.old I1 q2
  refine call_zip_2 p1.isList p2.isList fun h1 hz hTI hTO hi1 hi2 hsz hk => wpAny_pyIter_zip hz ?_
  have D : ZipApart (s1.heap.objs.size + 4) (s1.heap.objs.size + 2) (s1.heap.objs.size + 3) s1.heap.objs.size (s1.heap.objs.size + 1) l1 l2 := by constructor <;> exact fun (h : @Eq Nat _ _) => by omega
  refine ⟨_, _, _, _, H1, rfl, I1.kept (t' := s1.toks) hk, turn_zip D, ⟨hz, hTI, ⟨_, _, hTO⟩, hi1, hi2⟩, fun c hc => ?_, q⟩
  have ge : s1.heap.objs.size ≤ c := by
    simp only [List.mem_cons, List.not_mem_nil, or_false] at hc
    rcases hc with h | h | h | h | h <;> rw [h] <;> first | exact Nat.le_refl _ | exact Nat.le_add_right _ _
  exact I1.fpOk ge (I1.hok.fresh ge)
end

noncomputable def Ite (K : PySem.W.Frag) (a : Addr) : It :=
  ⟨fun i H => ∃ xs x, SqL K H a xs ∧ xs[i]? = some x,
   fun i H v H' => ∃ T x, v = .ref T ∧ H T = none ∧ H' = upd H T (.tup [.int (i : Int), x]) ∧ ∀ xs, SqL K H a xs → xs[i]? = some x,
   fun i H => ∃ xs, SqL K H a xs ∧ i = xs.length⟩
noncomputable def ESt (e it a : Addr) (i : Nat) (h : Heap) : Prop := (∃ old, IsEnum h e it i old) ∧ h.IsListIter it a i
theorem turn_enum {P : Program} {w : World} {K : PySem.W.Frag} {es : List Expr} {kk : Nat} {tp : Pos} {a e it : Addr} (h1 : e ≠ it) (h2 : a ≠ e) (h3 : a ≠ it) : Turn P w K (.Tuple es kk tp) (Ite K a) [e, it] e (ESt e it a) where
  mem := by simp
  obj := fun i h st c hc => by
    obtain ⟨⟨old, g1⟩, ⟨o4, g4, _, d4⟩⟩ := st
    simp only [List.mem_cons, List.not_mem_nil, or_false] at hc
    rcases hc with q | q <;> subst q
    · exact ⟨_, g1, fun v q => nomatch q⟩
    · exact ⟨_, g4, fun v q => by rw [d4] at q; cases q⟩
  keep := fun i h h' st k => by
    obtain ⟨⟨old, g1⟩, g4⟩ := st
    exact ⟨⟨old, k e (by simp) _ g1⟩, g4.at fun o q => k it (by simp) o q⟩
  item := by
    intro X hP hw hK hc i pins s σ H E I hf st hg
    subst hP hw hK
    obtain ⟨xs, x, qx, ex⟩ := hg
    obtain ⟨i1s, r1, p1, z1⟩ := I.list qx
    obtain ⟨g1, g4⟩ := st
    obtain ⟨old, g1'⟩ := g1
    obtain ⟨ux, hux, rr1⟩ := r1.get ex
    have lte : e < s.heap.objs.size := Heap.lt_size g1'
    refine wpAny_pyNext_enum_item g1' g4 p1.isList (x := ux) (by simpa using hux) h1 fun k1 ho hit' hT hsz hk => ?_
    have kk1 : ∀ c o, c ∉ [e, it] → s.heap.get? c = some o → k1.get? c = some o := fun c o hc q => hk c o (fun z => hc (by simp [z])) (fun z => hc (by simp [z])) q
    have J1 : Inv X pins σ H { s with heap := k1, toks := s.toks + 1 } := I.turnedL kk1 hf
    refine ⟨.ref s.heap.objs.size, rfl, wpAny_letOwnedTupleGo_enum ho fun k2 he' sb => ?_⟩
    have J2 : Inv X pins σ H { s with heap := k2, toks := s.toks + 1 } := Inv.turnedL (s := { s with heap := k1, toks := s.toks + 1 }) (h' := k2) (t' := s.toks + 1) (ch := [e]) J1 (fun c o hc q => (sb.2 c (fun z => hc (by simp [z]))).trans q) fun c hc => hf c (by simp only [List.mem_cons, List.not_mem_nil, or_false] at hc ⊢; simp [hc])
    have ht2 : Tup0 k2 s.heap.objs.size #[.int i s.toks, ux] := ⟨_, (sb.2 _ (Nat.ne_of_gt lte)).trans hT, rfl, _, rfl, rfl⟩
    obtain ⟨fT, J3⟩ := I.pairNew (x := .int (i : Int)) (Nat.le_refl _) J2 ht2 ⟨s.toks, rfl⟩ rr1
    refine ⟨.ref s.heap.objs.size, _, J3, rfl, ⟨_, x, rfl, fT, rfl, fun l hl => by rw [I.list_inj hl qx]; exact ex⟩, ⟨⟨_, by simpa using he'⟩, hit'.at fun o y => (sb.2 it h1.symm).trans y⟩, fun c hc => ?_⟩
    rw [upd_ne (fun q => ?_)]
    · exact (hf c hc).1
    · have lt : c < s.heap.objs.size := by
        obtain ⟨o4, e4, _⟩ := g4
        simp only [List.mem_cons, List.not_mem_nil, or_false] at hc
        rcases hc with q | q <;> subst q
        · exact lte
        · exact Heap.lt_size e4
      exact absurd lt (by rw [q]; exact Nat.lt_irrefl _)
  done := by
    intro X hP hw hK hc i pins s σ H E I hf st hg
    subst hP hw hK
    obtain ⟨xs, qx, ei⟩ := hg
    obtain ⟨i1s, r1, p1, z1⟩ := I.list qx
    obtain ⟨g1, g4⟩ := st
    have W := WalksT.enumerate (prog := X.prog) (w := X.w) (I.ok.hd hc) e it a h1 h2 h3 i1s.toArray
    have l1 := r1.length
    have q : i = i1s.toArray.size := by simp only [List.size_toArray]; omega
    subst q
    exact W.done s _ _ ⟨g1, g4, p1.isList⟩ fun h1 tk hk => ⟨rfl, I.turnedL hk hf⟩
  self := fun _ _ _ _ _ st h => by
    obtain ⟨⟨old, g1⟩, _⟩ := st
    exact wpAny_pyIter_enum g1 h
noncomputable def iEnum (K : PySem.W.Frag) (ta : TA) : TI := fun σ H R => ta σ H fun vs H1 => ∃ a, vs = [.ref a] ∧ (∃ xs, SqL K H1 a xs) ∧ R (Ite K a) H1
section
variable {X : Cx}
theorem pi_enum {es : List Expr} {kk : Nat} {tp : Pos} {a : Expr} {ta : TA} {p pos : Pos} (hg : Gl X "enumerate") (hm : X.mg "enumerate" = none) (ha : PA X [a] ta) (hs : autoParam (starEach [a] X.env = [(false, eval a X.env)]) L2.Internal.auR._auto_1) :
    PI X (.Tuple es kk tp) (.Call (.Name "enumerate" p) [a] [] pos) (iEnum X.K ta) := by
  intro pins s σ H R I h
  refine Call_ (ld_blt I hg hm bt_enumerate (PyProof.Rows.callWith_type1 (thn (ha pos pins s σ H _ I h) fun us s1 ⟨vs, H1, I1, r1, q1⟩ => ?_) hs rfl))
  obtain ⟨l1, e, ⟨xs, q1⟩, q⟩ := q1
  subst e
  obtain ⟨u, rfl, ru⟩ := vals1 r1
  cases ru
  obtain ⟨i1s, w1, p1, z1⟩ := I1.list q1
  have o1 : @LT.lt Nat _ l1 s1.heap.objs.size := SqL.old I1 q1
  refine call_enumerate_list p1.isList fun h1 hE hi1 hsz hk => wpAny_pyIter_enum hE ?_
  refine ⟨_, _, _, _, H1, rfl, I1.kept (t' := s1.toks) hk, turn_enum (fun (h : @Eq Nat _ _) => by omega) (fun (h : @Eq Nat _ _) => by omega) (fun (h : @Eq Nat _ _) => by omega), ⟨⟨_, hE⟩, hi1⟩, fun c hc => ?_, q⟩
  have ge : s1.heap.objs.size ≤ c := by
    simp only [List.mem_cons, List.not_mem_nil, or_false] at hc
    rcases hc with h | h <;> rw [h] <;> first | exact Nat.le_refl _ | exact Nat.le_add_right _ _
  exact I1.fpOk ge (I1.hok.fresh ge)
end

noncomputable def LcG (J : It) (g : TG) (te : TE) (Q : VK) (τ : St) (H1 : Hp) (D : Addr) : Prop :=
  ∃ W : Nat → Nat → St → Hp → Prop, (∃ m, W 0 m τ (upd H1 D (.lst []))) ∧ ∀ k m σ' H2, W k m σ' H2 →
    (J.stop k H2 ∧ Q (.ref D) H2) ∨ (J.go k H2 ∧ ∀ v H3, J.yld k H2 v H3 → g v σ' H3 fun σ4 H4 => te σ4 H4 fun y H5 => ∃ xs, H5 D = some (.lst xs) ∧ xs.length < sizeLine ∧ ∃ m', m' < m ∧ W (k + 1) m' σ4 (upd H5 D (.lst (xs ++ [y]))))
noncomputable def tLG (wi : TI) (f : St → St) (g : TG) (te : TE) : TE := fun σ H Q => wi σ H fun J H1 => ∀ D, H1 D = none → LcG J g te Q (f σ) H1 D
theorem pe_lcP {X : Cx} {elt iter : Expr} {es : List Expr} {kk : Nat} {tp : Pos} {x : Str} {scope : Scope} {pos : Pos} {N : List Str} {cl : List (Str × Addr)} {f : St → St} {i : Nat} {wi : TI} {g : TG} {te : TE}
    (hc : X.calm = true) (B : BlkOk X N scope cl f i x) (hi : PI X (.Tuple es kk tp) iter wi)
    (hg : ∀ C s₀ H₀ ex pins, PG (blk X N scope cl C s₀ H₀ ex pins) (.Tuple es kk tp) g) (hte : ∀ C s₀ H₀ ex pins, PE (blk X N scope cl C s₀ H₀ ex pins) elt te)
    (hs : autoParam (∀ x, foldedSetIterable iter X.env x = pure x) L2.Internal.auI._auto_1) : PE X (.ListComp elt [⟨.Tuple es kk tp, iter, [], 0⟩] scope pos) (tLG wi f g te) := by
  intro pins s σ H Q I h
  rw [eval_ListComp]
  refine wpAny_comprehension_free (use := none) rfl hs B.clos B.kind B.names (thn (hi pins s σ H _ I h) fun xv s1 h1 => thn h1 fun itv s2 h2 => ?_)
  obtain ⟨it, fp, tn, J, H2, rfl, I2, T, st2, f2, q⟩ := h2
  have hD : H2 s2.heap.objs.size = none := I2.fresh
  obtain ⟨W, ⟨m0, w0⟩, turn⟩ := q _ hD
  refine wpAny_newObj_type (wpAny_newFunctionEnv B.cell (by intro y hy; simp at hy) (fun h₁ hns₁ hsb₁ => ?_) B.kind)
  have I3 : Inv X pins σ (upd H2 s2.heap.objs.size (.lst [])) { s2 with heap := s2.heap.push { cls := .type "list", data := .seq ([] : List Value).toArray } } := I2.lnew (its := []) (ys := []) (t' := s2.toks) .nil (Nat.zero_le _)
  have lt2 : ∀ b ∈ fp, b < s2.heap.objs.size := fun b hb => by
    obtain ⟨o, ho, _⟩ := T.obj _ _ st2 b hb
    exact Heap.lt_size ho
  have fp3 : ∀ b ∈ fp, FpOk X pins (upd H2 s2.heap.objs.size (.lst [])) b := fun b hb => by
    refine ⟨?_, (f2 b hb).2⟩
    rw [upd_ne (Nat.ne_of_lt (lt2 b hb))]
    exact (f2 b hb).1
  generalize hs3 : ({ s2 with heap := s2.heap.push { cls := .type "list", data := .seq ([] : List Value).toArray } } : Shared) = s3 at I3 hns₁ hsb₁ ⊢
  have eh : s2.heap.push { cls := .type "list", data := .seq ([] : List Value).toArray } = s3.heap := by rw [← hs3]
  have lt3 : ∀ b ∈ fp, b < s3.heap.objs.size := fun b hb => by
    rw [← eh, Heap.size_push]
    exact Nat.lt_succ_of_lt (lt2 b hb)
  have old : ∀ b o, s3.heap.get? b = some o → h₁.get? b = some o := fun b o e => hsb₁.extBut b o (Nat.ne_of_lt (Heap.lt_size e)) (Heap.get?_push_of_some _ e)
  have I4 := inv_blk (tk := s3.toks + ([] : List (Str × Value)).length) B I3 (ex := fp) (fun b hb => ⟨fp3 b hb, lt3 b hb⟩) old hns₁
  have st4 : tn 0 h₁ := T.keep _ _ _ st2 fun b _ o e => old b o (by rw [← eh]; exact Heap.get?_push_of_some _ e)
  have fpB : ∀ {H' : Hp}, (∀ b ∈ fp, H' b = none) → ∀ b ∈ fp, FpOk (blk X N scope cl s3.heap.objs.size s3 (upd H2 s2.heap.objs.size (.lst [])) fp pins) [] H' b := fun {H'} hn b hb => by
    obtain ⟨_, g2, g3, g4, g5, g6⟩ := f2 b hb
    refine ⟨hn b hb, Nat.ne_of_lt (lt3 b hb), fun z => (List.mem_cons.mp (I3.stkSub b z)).elim g2 g3, .inl hb, fun y c e => g5 y c (B.lk y c e), fun p hp => ?_⟩
    rw [List.append_nil] at hp
    exact g6 p hp
  have loop : ∀ s4 : Shared, s4 = { s3 with heap := h₁, toks := s3.toks + ([] : List (Str × Value)).length } →
      codeAny (model X.prog X.w) X.A (.compLoop (.ListComp elt [⟨.Tuple es kk tp, iter, [], 0⟩] scope pos) 0 (.ref it) (.ref s2.heap.objs.size) (compEnvC scope cl s3.heap.objs.size X.env))
        (compPost (model X.prog X.w) X.A X.xe none (EP X pins σ Q) (.ref s2.heap.objs.size) s3.heap.objs.size) s4 := by
    rintro s4 rfl
    refine PyProof.Rows.LCp.codeAny_compLoop_pair (I := fun n s' => ∃ k σ' H', Inv (blk X N scope cl s3.heap.objs.size s3 (upd H2 s2.heap.objs.size (.lst [])) fp pins) [] σ' H' s' ∧ tn k s'.heap ∧ (∀ b ∈ fp, H' b = none) ∧ W k n σ' H') ?_ m0
      ⟨0, f σ, _, I4, st4, fun b hb => (fp3 b hb).1, w0⟩
    rintro n s5 ⟨k, σ5, H5, I5, st5, fr5, w5⟩
    rcases turn k n σ5 H5 w5 with ⟨stop, qn⟩ | ⟨go, step⟩
    · refine wpAny_mono (T.done (blk X N scope cl s3.heap.objs.size s3 (upd H2 s2.heap.objs.size (.lst [])) fp pins) rfl rfl rfl hc k [] s5 σ5 H5 _ I5 (fpB fr5) st5 stop) (fun r s6 h6 => ?_) fun _ _ z => z
      obtain ⟨hr, I6⟩ := h6
      subst hr
      obtain ⟨m6, hn6, _⟩ := id I6.loc
      refine ⟨m6, hn6, fun h' sb => ?_⟩
      have nC : ∀ b o, s3.heap.get? b = some o → b ≠ s3.heap.objs.size := fun b o e => Nat.ne_of_lt (Heap.lt_size e)
      have u6 : Un (frs X.stack) fp (upd H2 s2.heap.objs.size (.lst [])) H5 s3.heap s6.heap := I6.base
      have u7 : Un (frs X.stack) fp (upd H2 s2.heap.objs.size (.lst [])) H5 s3.heap h' :=
        ⟨fun b o e z1 z2 z3 => (sb.2 b (nC b o e)).trans (u6.keep b o e z1 z2 z3), fun b o e z1 z2 z3 => by
          obtain ⟨sl, e1⟩ := u6.slot b o e z1 z2 z3
          exact ⟨sl, (sb.2 b (nC b o e)).trans e1⟩, u6.free, fun b o e z => by
          obtain ⟨o', e1⟩ := u6.there b o e z
          exact ⟨o', (sb.2 b (nC b o e)).trans e1⟩, u6.tups, u6.frzs, u6.tbls⟩
      have hok7 : HOk X.prog X.w H5 h' := fun b o e => (I6.hok b o e).stay (fun c w' hcc e1 => (sb.2 c (fun z => by
          have fr : H5 s3.heap.objs.size = none := I6.free
          rcases hcc with y | y
          · rw [← y, z, fr] at e; cases e
          · rw [z, fr] at y; cases y)).trans e1) (fun _ z => z) fun _ _ z => z
      have I7 : Inv X pins σ H5 { s6 with heap := h' } := I3.call' (s' := { s6 with heap := h' }) (ch := fp) I6.os u7 hok7 I6.bare fun b hb => by
        obtain ⟨_, g2, g3, g4, g5, g6⟩ := f2 b hb
        exact ⟨g4, g2, g5, g6⟩
      exact ⟨.ref s2.heap.objs.size, H5, I7, rfl, qn⟩
    · refine wpAny_mono (T.item (blk X N scope cl s3.heap.objs.size s3 (upd H2 s2.heap.objs.size (.lst [])) fp pins) rfl rfl rfl hc k [] s5 σ5 H5 _ I5 (fpB fr5) st5 go) (fun r s6 h6 => ?_) fun _ _ z => z
      obtain ⟨u, hr, h6⟩ := h6
      subst hr
      refine wpAny_mono h6 (fun _ s7 h7 => ?_) fun _ _ z => z
      obtain ⟨v, H7, I7, r7, y7, st7, fr7⟩ := h7
      have I7' := I7.pinned (fpB fr7) (T.obj _ _ st7)
      have back : ∀ {σ9 : St} {H9 : Hp} {s9 : Shared}, Inv (blk X N scope cl s3.heap.objs.size s3 (upd H2 s2.heap.objs.size (.lst [])) fp pins) ([] ++ pinsAt fp s7.heap) σ9 H9 s9 → (∃ m', m' < n ∧ W (k + 1) m' σ9 H9) →
          ∃ m', m' < n ∧ ∃ k σ' H', Inv (blk X N scope cl s3.heap.objs.size s3 (upd H2 s2.heap.objs.size (.lst [])) fp pins) [] σ' H' s9 ∧ tn k s9.heap ∧ (∀ b ∈ fp, H' b = none) ∧ W k m' σ' H' := fun {σ9 H9 s9} I9 q9 => by
        obtain ⟨m', hm, w9⟩ := q9
        refine ⟨m', hm, k + 1, σ9, H9, I9.unpinned, T.keep _ _ _ st7 fun b hb o e => (I9.pin (b, o) (List.mem_append_right _ (List.mem_append_right _ (mem_pinsAt hb e)))).1, fun b hb => ?_, w9⟩
        obtain ⟨o, e, d⟩ := T.obj _ _ st7 b hb
        exact (I9.pin (b, o) (List.mem_append_right _ (List.mem_append_right _ (mem_pinsAt hb e)))).2.1
      refine wpAny_mono (hg s3.heap.objs.size s3 (upd H2 s2.heap.objs.size (.lst [])) fp pins _ s7 σ5 H7 v u _ I7' r7 (step v H7 y7)) (fun _ s8 h8 => ?_) fun _ _ z => False.elim z
      obtain ⟨σ8, H8, I8, q8⟩ := h8
      refine wpAny_mono (hte _ _ _ _ _ _ s8 _ H8 _ I8 q8) (fun y s10 h10 => ?_) fun _ _ z => False.elim z
      obtain ⟨v10, H10, I10, r10, xs, hx10, hz, q10⟩ := h10
      refine wpAny_mono (mt_append (X := blk X N scope cl s3.heap.objs.size s3 (upd H2 s2.heap.objs.size (.lst [])) fp pins) _ s10 _ H10 (.ref s2.heap.objs.size) [v10] _ [y] (fun _ H11 => H11 = upd H10 s2.heap.objs.size (.lst (xs ++ [v10]))) I10 rfl (.cons r10 .nil) ⟨_, xs, v10, rfl, rfl, hx10, hz, rfl⟩) (fun _ s11 h11 => ?_) fun _ _ z => False.elim z
      obtain ⟨_, H11, I11, _, e11⟩ := h11
      subst e11
      exact back I11 q10
  exact codeAny_compStart_list (loop _ rfl) (T.self _ 0 _ _ _ st4 (loop _ rfl))
theorem blk02 {X : Cx} {scope : Scope} {x y : Str} (hk : scope.kind = .function) (hn : ∀ p ∈ scope.names, p.2 ≠ .cell ∧ p.2 ≠ .free) (hl : ∀ y ∈ scope.names, y.2 = .local → scope.names.lookup y.1 = some .local)
    (hx : scope.names.lookup x = some .local) (hxy : [x, y].Nodup) (hc : closureFor scope X.env = pure []) : BlkOk X [x, y] scope [] (fun _ => [none, none]) 0 x where
  kind := hk
  cell := fun y hy => (hn y hy).1
  names := hl
  clos := hc
  lk := fun y c h => by simp at h
  has := fun y h => by
    rcases h with h | h
    · obtain ⟨k0, e, z⟩ := lookup_relabel h
      have m := hn _ (PySem.mem_of_lookup e)
      rcases z with z | ⟨z, _⟩
      · exact absurd z.symm m.1
      · exact absurd z m.2
    · obtain ⟨k0, e, z⟩ := lookup_relabel h
      have m := hn _ (PySem.mem_of_lookup e)
      rcases z with z | ⟨z, _⟩
      · exact absurd z.symm m.2
      · exact absurd z m.2
  nd := hxy
  ix := rfl
  loc := hx
  len := fun _ _ => rfl
  val := fun σ k y v h1 h2 => by
    match k with
    | 0 => simp at h2
    | 1 => simp at h2
    | k + 2 => simp at h2

theorem lookup_cap {z : Str} : ∀ {cap : List (Str × Nat × Addr)}, z ∈ cap.map (·.1) → ∃ c, (cap.map fun p => (p.1, p.2.2)).lookup z = some c
  | [], h => by simp at h
  | p :: r, h => by
    cases e : z == p.1 with
    | true => exact ⟨p.2.2, by simp only [List.map_cons, List.lookup_cons, e]⟩
    | false =>
      have q : z ∈ r.map (·.1) := by
        rcases List.mem_cons.mp h with y | y
        · rw [y] at e; simp at e
        · exact y
      obtain ⟨c, hc⟩ := lookup_cap q
      exact ⟨c, by simp only [List.map_cons, List.lookup_cons, e]; exact hc⟩
theorem blkC {X : Cx} {scope : Scope} {x : Str} (ns : List Str) (cap : List (Str × Nat × Addr)) (hns : cap.map (·.1) = ns) (hk : scope.kind = .function) (hn : ∀ p ∈ scope.names, p.2 ≠ .cell ∧ (p.2 = .free → p.1 ∈ ns)) (hl : ∀ y ∈ scope.names, y.2 = .local → scope.names.lookup y.1 = some .local)
    (hx : scope.names.lookup x = some .local) (hnd : (x :: ns).Nodup) (hc : closureFor scope X.env = pure (cap.map fun p => (p.1, p.2.2))) (hok : X.env.scope.kind = .function)
    (h : ∀ p ∈ cap, scope.names.lookup p.1 = some .free ∧ X.env.cells.lookup p.1 = some p.2.2 ∧ X.env.scope.names.lookup p.1 = some .cell ∧ X.N[p.2.1]? = some p.1) :
    BlkOk X (x :: ns) scope (cap.map fun p => (p.1, p.2.2)) (fun σ => none :: cap.map fun p => σ.getD p.2.1 none) 0 x where
  kind := hk
  cell := fun y hy => (hn y hy).1
  names := hl
  clos := hc
  lk := fun z c q => by
    have m := PySem.mem_of_lookup q
    obtain ⟨p, hp, e⟩ := List.mem_map.mp m
    cases e
    exact (h p hp).2.1
  has := fun z q => by
    refine lookup_cap ?_
    rw [hns]
    rcases q with q | q
    · obtain ⟨k0, e, q⟩ := lookup_relabel q
      have m := hn _ (PySem.mem_of_lookup e)
      rcases q with q | ⟨q, _⟩
      · exact absurd q.symm m.1
      · exact m.2 q
    · obtain ⟨k0, e, q⟩ := lookup_relabel q
      have m := hn _ (PySem.mem_of_lookup e)
      rcases q with q | ⟨q, _⟩
      · exact m.2 q.symm
      · exact m.2 q
  nd := hnd
  ix := rfl
  loc := hx
  len := fun _ _ => by simp [← hns]
  val := fun σ k z v h1 h2 => by
    cases k with
    | zero => simp at h2
    | succ k =>
      rw [← hns, List.getElem?_cons_succ, List.getElem?_map] at h1
      rw [List.getElem?_cons_succ, List.getElem?_map] at h2
      cases e : cap[k]? with
      | none => rw [e] at h1; cases h1
      | some p =>
        rw [e] at h1 h2
        have ez : p.1 = z := Option.some.inj h1
        have ev : σ.getD p.2.1 none = some v := Option.some.inj h2
        subst ez
        obtain ⟨a1, a2, a3, a4⟩ := h p (List.mem_of_getElem? e)
        rw [List.getD_eq_getElem?_getD] at ev
        refine ⟨p.2.1, a4, ?_, a3, lookup_relabel_free hok a3 a1⟩
        cases q : σ[p.2.1]? with
        | none => rw [q] at ev; cases ev
        | some o => rw [q] at ev; exact congrArg some ev

section
variable {X : Cx}
end

section
variable {X : Cx} {CX : CXT} {k : Nat} {f C : Addr} {fd : FuncData} {ps : List Str} {sp : Sp} {dvs : List V} {ds : List Value} {E : XK} {m : Str} {pos apos : Pos} {e o : Expr} {es : List Expr} {t : TA}
end

section
variable {X : Cx}
theorem call_sumA (hc : X.calm = true) : CallR X (.builtin "sum") (fun xs H Q => ∃ (a : Addr) (ns : List Int), xs = [.ref a] ∧ SqL X.K H a (ns.map V.int) ∧ ∀ n, Q (.int n) H) := by
  intro pins s σ H xs us Q I r h
  obtain ⟨a, ns, rfl, hq, q⟩ := h
  obtain ⟨u, rfl, ru⟩ := vals1 r
  cases ru
  obtain ⟨its, rv, p, hz⟩ := I.list hq
  obtain ⟨zs, e⟩ := (intsAre_of rv).allInts.items
  have l := p.isList
  rw [e] at l
  exact sum_intListG (I.ok.hd hc) l fun h' tk t' hk => ⟨.int _, H, I.kept (t' := tk) hk, ⟨_, rfl⟩, q _⟩
end

theorem ps_setLC {X : Cx} {elt iter : Expr} {x y : Str} {j : Nat} {py spos : Pos} {px : Pos} {ifs : List Expr} {scope : Scope} {pos : Pos} {N : List Str} {cl : List (Str × Addr)} {f : St → St} {i : Nat} {wi : TI} {tt : TT} {te : TE}
    (hc : X.calm = true) (B : BlkOk X N scope cl f i x) (hi : PI X (.Name x px) iter wi)
    (htt : ∀ C s₀ H₀ ex pins, PTs (blk X N scope cl C s₀ H₀ ex pins) ifs tt) (hte : ∀ C s₀ H₀ ex pins, PE (blk X N scope cl C s₀ H₀ ex pins) elt te)
    (hN : X.N.Nodup) (hj : X.N[j]? = some y) (hy : Loc X.env.scope y) (hsw : autoParam (swapsWith (.ListComp elt [⟨.Name x px, iter, ifs, 0⟩] scope pos) (some (.Name y py)) spos.line X.env = pure true) L2.Internal.auR._auto_1) (hs : autoParam (∀ x, foldedSetIterable iter X.env x = pure x) L2.Internal.auI._auto_1)
    (hf : autoParam (X.fn y = true ∨ X.env.scope.names.lookup y = some .local) L2.Internal.auL._auto_1) : PS X (.Assign [.Name y py] (.ListComp elt [⟨.Name x px, iter, ifs, 0⟩] scope pos) spos) (tAsg (tLC wi f i tt te) (gName j)) := by
  intro pins s σ H En I h
  rw [exec_Assign_Name_used _ _ _ _ hsw]
  refine wpAny_bind (wpAny_standAt (wpAny_bind ?_))
  show wpAny _ X.A (do let _ ← comprehension (.ListComp elt [⟨.Name x px, iter, ifs, 0⟩] scope pos) scope X.env _ (newList []) false (eval iter X.env) (some (assign (.Name y py) X.env))) _ _ s
  refine wpAny_bind (wpAny_mono (wpAny_comprehension_free (use := some (assign (.Name y py) X.env)) (Q := fun _ s' => SP X pins En .next s') rfl hs B.clos B.kind B.names (thn (hi pins s σ H _ I h) fun xv s1 h1 => thn h1 fun itv s2 h2 => ?_)) (fun _ s' hq => wpAny_pure (wpAny_pure hq)) fun _ _ e => e)
  obtain ⟨it, fp, tn, J, H2, rfl, I2, T, st2, f2, q⟩ := h2
  have hD : H2 s2.heap.objs.size = none := I2.fresh
  obtain ⟨W, ⟨m0, w0⟩, turn⟩ := q _ hD
  refine wpAny_newObj_type (wpAny_newFunctionEnv B.cell (by intro y hy; simp at hy) (fun h₁ hns₁ hsb₁ => ?_) B.kind)
  have I3 : Inv X pins σ (upd H2 s2.heap.objs.size (.lst [])) { s2 with heap := s2.heap.push { cls := .type "list", data := .seq ([] : List Value).toArray } } := I2.lnew (its := []) (ys := []) (t' := s2.toks) .nil (Nat.zero_le _)
  have lt2 : ∀ b ∈ fp, b < s2.heap.objs.size := fun b hb => by
    obtain ⟨o, ho, _⟩ := T.obj _ _ st2 b hb
    exact Heap.lt_size ho
  have fp3 : ∀ b ∈ fp, FpOk X pins (upd H2 s2.heap.objs.size (.lst [])) b := fun b hb => by
    refine ⟨?_, (f2 b hb).2⟩
    rw [upd_ne (Nat.ne_of_lt (lt2 b hb))]
    exact (f2 b hb).1
  generalize hs3 : ({ s2 with heap := s2.heap.push { cls := .type "list", data := .seq ([] : List Value).toArray } } : Shared) = s3 at I3 hns₁ hsb₁ ⊢
  have eh : s2.heap.push { cls := .type "list", data := .seq ([] : List Value).toArray } = s3.heap := by rw [← hs3]
  have lt3 : ∀ b ∈ fp, b < s3.heap.objs.size := fun b hb => by
    rw [← eh, Heap.size_push]
    exact Nat.lt_succ_of_lt (lt2 b hb)
  have old : ∀ b o, s3.heap.get? b = some o → h₁.get? b = some o := fun b o e => hsb₁.extBut b o (Nat.ne_of_lt (Heap.lt_size e)) (Heap.get?_push_of_some _ e)
  have I4 := inv_blk (tk := s3.toks + ([] : List (Str × Value)).length) B I3 (ex := fp) (fun b hb => ⟨fp3 b hb, lt3 b hb⟩) old hns₁
  have st4 : tn 0 h₁ := T.keep _ _ _ st2 fun b _ o e => old b o (by rw [← eh]; exact Heap.get?_push_of_some _ e)
  -- the iterators in the block
  have fpB : ∀ {H' : Hp}, (∀ b ∈ fp, H' b = none) → ∀ b ∈ fp, FpOk (blk X N scope cl s3.heap.objs.size s3 (upd H2 s2.heap.objs.size (.lst [])) fp pins) [] H' b := fun {H'} hn b hb => by
    obtain ⟨_, g2, g3, g4, g5, g6⟩ := f2 b hb
    refine ⟨hn b hb, Nat.ne_of_lt (lt3 b hb), fun z => (List.mem_cons.mp (I3.stkSub b z)).elim g2 g3, .inl hb, fun y c e => g5 y c (B.lk y c e), fun p hp => ?_⟩
    rw [List.append_nil] at hp
    exact g6 p hp
  have loop : ∀ s4 : Shared, s4 = { s3 with heap := h₁, toks := s3.toks + ([] : List (Str × Value)).length } →
      codeAny (model X.prog X.w) X.A (.compLoop (.ListComp elt [⟨.Name x px, iter, ifs, 0⟩] scope pos) 0 (.ref it) (.ref s2.heap.objs.size) (compEnvC scope cl s3.heap.objs.size X.env))
        (compPost (model X.prog X.w) X.A X.xe (some (assign (.Name y py) X.env)) (fun _ s' => SP X pins En .next s') (.ref s2.heap.objs.size) s3.heap.objs.size) s4 := by
    rintro s4 rfl
    refine codeAny_compLoop_tests (I := fun n s' => ∃ k σ' H', Inv (blk X N scope cl s3.heap.objs.size s3 (upd H2 s2.heap.objs.size (.lst [])) fp pins) [] σ' H' s' ∧ tn k s'.heap ∧ (∀ b ∈ fp, H' b = none) ∧ W k n σ' H') ?_ m0
      ⟨0, f σ, _, I4, st4, fun b hb => (fp3 b hb).1, w0⟩
    rintro n s5 ⟨k, σ5, H5, I5, st5, fr5, w5⟩
    rcases turn k n σ5 H5 w5 with ⟨stop, qn⟩ | ⟨go, step⟩
    · refine wpAny_mono (T.done (blk X N scope cl s3.heap.objs.size s3 (upd H2 s2.heap.objs.size (.lst [])) fp pins) rfl rfl rfl hc k [] s5 σ5 H5 _ I5 (fpB fr5) st5 stop) (fun r s6 h6 => ?_) fun _ _ z => z
      obtain ⟨hr, I6⟩ := h6
      subst hr
      obtain ⟨m6, hn6, _⟩ := id I6.loc
      have I7 : Inv X pins σ H5 s6 := I3.call' (s' := s6) (ch := fp) I6.os I6.base I6.hok I6.bare fun b hb => by
        obtain ⟨_, g2, g3, g4, g5, g6⟩ := f2 b hb
        exact ⟨g4, g2, g5, g6⟩
      obtain ⟨oC, es, ep, hoC, hdC, hkC⟩ := id hn6
      have hCL : s3.heap.objs.size ≠ X.env.locals := Nat.ne_of_gt I3.lt
      have I8 : Inv X (pins ++ [(s3.heap.objs.size, oC)]) σ H5 s6 := I7.pins_of fun p hp => (List.mem_append.mp hp).elim (fun z => I7.pin p (List.mem_append_right _ z)) fun z => by
        have ez : p = (s3.heap.objs.size, oC) := by simpa using z
        subst ez
        exact ⟨hoC, I6.free, hCL, I3.nofs (Nat.le_refl _), fun v q => by rw [hdC] at q; cases q⟩
      show wpAny _ X.A (assign (.Name y py) X.env (.ref s2.heap.objs.size)) _ _ s6
      refine wpAny_assign_Name (store_ok (X := X) I8 hN hj hy (v := .ref s2.heap.objs.size) rfl (fun s7 I9 => ?_) hf)
      have pC := I9.pin (s3.heap.objs.size, oC) (List.mem_append_right _ (List.mem_append_right _ (by simp)))
      refine ⟨m6, ⟨oC, es, ep, pC.1, hdC, hkC⟩, fun h' sb => ?_⟩
      refine ⟨σ.set j (some (.ref s2.heap.objs.size)), H5, ?_, qn⟩
      exact Inv.turned (h' := h') (t' := s7.toks) (it := s3.heap.objs.size) I9.unpinned (fun b o hb e => (sb.2 b hb).trans e) pC.2.1 hCL (.inr I3.sz) (fun z c e q => by
        obtain ⟨v, q2⟩ := I3.cell z c e
        exact absurd (q ▸ q2.lt) (Nat.lt_irrefl _)) fun p hp q => absurd (q ▸ Heap.lt_size (I3.pin p hp).1) (Nat.lt_irrefl _)
    · refine wpAny_mono (T.item (blk X N scope cl s3.heap.objs.size s3 (upd H2 s2.heap.objs.size (.lst [])) fp pins) rfl rfl rfl hc k [] s5 σ5 H5 _ I5 (fpB fr5) st5 go) (fun r s6 h6 => ?_) fun _ _ z => z
      obtain ⟨u, hr, h6⟩ := h6
      subst hr
      show wpAny _ _ (pure () >>= fun _ => assign (.Name x px) (compEnvC scope cl s3.heap.objs.size X.env) u) _ _ s6
      refine wpAny_bind (wpAny_mono (show wpAny _ _ (pure ()) _ _ s6 from h6) (fun _ s7 h7 => ?_) fun _ _ z => z)
      obtain ⟨v, H7, I7, r7, y7, st7, fr7⟩ := h7
      have I7' := I7.pinned (fpB fr7) (T.obj _ _ st7)
      refine wpAny_assign_Name (store_ok (X := blk X N scope cl s3.heap.objs.size s3 (upd H2 s2.heap.objs.size (.lst [])) fp pins) I7' B.nd B.ix (.inl (lookup_relabel_local B.loc)) r7 (fun s8 I8 => ?_) (.inr (lookup_relabel_local B.loc)))
      have back : ∀ {σ9 : St} {H9 : Hp} {s9 : Shared}, Inv (blk X N scope cl s3.heap.objs.size s3 (upd H2 s2.heap.objs.size (.lst [])) fp pins) ([] ++ pinsAt fp s7.heap) σ9 H9 s9 → (∃ m', m' < n ∧ W (k + 1) m' σ9 H9) →
          ∃ m', m' < n ∧ ∃ k σ' H', Inv (blk X N scope cl s3.heap.objs.size s3 (upd H2 s2.heap.objs.size (.lst [])) fp pins) [] σ' H' s9 ∧ tn k s9.heap ∧ (∀ b ∈ fp, H' b = none) ∧ W k m' σ' H' := fun {σ9 H9 s9} I9 q9 => by
        obtain ⟨m', hm, w9⟩ := q9
        refine ⟨m', hm, k + 1, σ9, H9, I9.unpinned, T.keep _ _ _ st7 fun b hb o e => (I9.pin (b, o) (List.mem_append_right _ (List.mem_append_right _ (mem_pinsAt hb e)))).1, fun b hb => ?_, w9⟩
        obtain ⟨o, e, d⟩ := T.obj _ _ st7 b hb
        exact (I9.pin (b, o) (List.mem_append_right _ (List.mem_append_right _ (mem_pinsAt hb e)))).2.1
      refine wpAny_mono (htt _ _ _ _ _ _ s8 _ H7 _ I8 (step v H7 y7)) (fun ok s9 h9 => ?_) fun _ _ z => False.elim z
      obtain ⟨H9, I9, q9⟩ := h9
      cases ok with
      | false =>
        rw [if_neg Bool.false_ne_true]
        rw [if_neg Bool.false_ne_true] at q9
        exact back I9 q9
      | true =>
        rw [if_pos rfl]
        rw [if_pos rfl] at q9
        refine wpAny_mono (hte _ _ _ _ _ _ s9 _ H9 _ I9 q9) (fun y s10 h10 => ?_) fun _ _ z => False.elim z
        obtain ⟨v10, H10, I10, r10, xs, hx10, hz, q10⟩ := h10
        refine wpAny_mono (mt_append (X := blk X N scope cl s3.heap.objs.size s3 (upd H2 s2.heap.objs.size (.lst [])) fp pins) _ s10 _ H10 (.ref s2.heap.objs.size) [v10] _ [y] (fun _ H11 => H11 = upd H10 s2.heap.objs.size (.lst (xs ++ [v10]))) I10 rfl (.cons r10 .nil) ⟨_, xs, v10, rfl, rfl, hx10, hz, rfl⟩) (fun _ s11 h11 => ?_) fun _ _ z => False.elim z
        obtain ⟨_, H11, I11, _, e11⟩ := h11
        subst e11
        exact back I11 q10
  exact codeAny_compStart_list (loop _ rfl) (T.self _ 0 _ _ _ st4 (loop _ rfl))

end L2.Internal
namespace L2.Internal
open PySem PySem.Spec PyProof.Rows

section
variable {prog : Program} {w : World} {A : Around} {E : Value → Shared → Prop} {s : Shared}
end

section
variable {prog : Program} {w : World} {A : Around} {E : Value → Shared → Prop} {s : Shared}
end

section
variable {X : Cx}
end
end L2.Internal
namespace L2.Internal
open PySem PySem.Spec PyProof.Rows
section
variable {prog : Program} {w : World} {A : Around} {E : Value → Shared → Prop} {s : Shared}
end

section
variable {X : Cx} {pins : List (Addr × Obj)} {σ : St} {H : Hp} {d it t : Addr} {vs : List V} {A : Around} {R : Result → Shared → Prop}
end
section
variable {X : Cx}
end
end L2.Internal
namespace BO.Internal
open PySem L2.Internal
noncomputable def rIsi (K : PySem.W.Frag) : List V → Hp → VK → Prop := fun xs H Q => ∃ x v c t b, xs = [x, v] ∧ (∀ u, RelV v u → u = c) ∧ TyOf K H x t ∧ PySem.W.kitOne K t c = some b ∧ Q (.bl b) H
theorem sz {n : Nat} (h : n ≤ 100000) : n ≤ sizeLine := Nat.le_trans h (by decide)
theorem same_new {H : Hp} {p : Addr} (h : H p = none) (o : HO) : Same H (upd H p o) := fun b u q => by rw [upd_ne (ne_of_none q h)]; exact q
theorem atI_lt {α : Type} (l : List α) (i : Int) (h0 : 0 ≤ i) (h1 : i < (l.length : Int)) : ∃ c, atI l i = some c ∧ c ∈ l := by
  have e : i = ((i.toNat : Nat) : Int) := by omega
  have hi : i.toNat < l.length := by omega
  refine ⟨l[i.toNat], ?_, List.getElem_mem hi⟩
  have z : atI l ((i.toNat : Nat) : Int) = some l[i.toNat] := atI_nat (List.getElem?_eq_getElem hi)
  rw [← e] at z
  exact z
noncomputable def flN : V → Bool
  | .non => true
  | .int _ => true
  | .str _ => true
  | _ => false
mutual
inductive Im (H : Hp) : V → Dt → Prop where
  | flat {v : V} (h : flN v = true) : Im H v (.flat v)
  | tup {a : Addr} {xs : List V} {ds : List Dt} (h : H a = some (.tup xs)) (hs : Ims H xs ds) : Im H (.ref a) (.tup ds)
inductive Ims (H : Hp) : List V → List Dt → Prop where
  | nil : Ims H [] []
  | cons {x : V} {d : Dt} {xs : List V} {ds : List Dt} (h : Im H x d) (hs : Ims H xs ds) : Ims H (x :: xs) (d :: ds)
end
mutual
inductive Dta (H : Hp) : V → Dt → Prop where
  | flat {v : V} (h : flN v = true) : Dta H v (.flat v)
  | tup {a : Addr} {xs : List V} {ds : List Dt} (h : H a = some (.tup xs)) (hs : Dtas H xs ds) : Dta H (.ref a) (.tup ds)
  | lst {a : Addr} {xs : List V} {ds : List Dt} (h : H a = some (.lst xs)) (hs : Dtas H xs ds) : Dta H (.ref a) (.lst ds)
inductive Dtas (H : Hp) : List V → List Dt → Prop where
  | nil : Dtas H [] []
  | cons {x : V} {d : Dt} {xs : List V} {ds : List Dt} (h : Dta H x d) (hs : Dtas H xs ds) : Dtas H (x :: xs) (d :: ds)
end
noncomputable def TK (H H' : Hp) : Prop := ∀ a xs, H a = some (.tup xs) → H' a = some (.tup xs)
theorem Same.tk {H H' : Hp} (s : Same H H') : TK H H' := fun a xs e => s a _ e
mutual
theorem Im.mono {H H' : Hp} (k : TK H H') : ∀ {v : V} {d : Dt}, Im H v d → Im H' v d
  | _, _, .flat h => .flat h
  | _, _, .tup h hs => .tup (k _ _ h) (Ims.mono k hs)
theorem Ims.mono {H H' : Hp} (k : TK H H') : ∀ {v : List V} {d : List Dt}, Ims H v d → Ims H' v d
  | _, _, .nil => .nil
  | _, _, .cons h hs => .cons (Im.mono k h) (Ims.mono k hs)
end
mutual
theorem Im.da {H : Hp} : ∀ {v : V} {d : Dt}, Im H v d → Dta H v d
  | _, _, .flat h => .flat h
  | _, _, .tup h hs => .tup h (Ims.das hs)
theorem Ims.das {H : Hp} : ∀ {v : List V} {d : List Dt}, Ims H v d → Dtas H v d
  | _, _, .nil => .nil
  | _, _, .cons h hs => .cons (Im.da h) (Ims.das hs)
end
mutual
theorem Dta.same {H H' : Hp} (k : Same H H') : ∀ {v : V} {d : Dt}, Dta H v d → Dta H' v d
  | _, _, .flat h => .flat h
  | _, _, .tup h hs => .tup (k _ _ h) (Dtas.same k hs)
  | _, _, .lst h hs => .lst (k _ _ h) (Dtas.same k hs)
theorem Dtas.same {H H' : Hp} (k : Same H H') : ∀ {v : List V} {d : List Dt}, Dtas H v d → Dtas H' v d
  | _, _, .nil => .nil
  | _, _, .cons h hs => .cons (Dta.same k h) (Dtas.same k hs)
end
theorem Ims.length {H : Hp} : ∀ {xs : List V} {ds : List Dt}, Ims H xs ds → xs.length = ds.length
  | _, _, .nil => rfl
  | _, _, .cons _ t => by rw [List.length_cons, List.length_cons, Ims.length t]
theorem Ims.app {H : Hp} : ∀ {xs ys : List V} {ds es : List Dt}, Ims H xs ds → Ims H ys es → Ims H (xs ++ ys) (ds ++ es)
  | _, _, _, _, .nil, h => h
  | _, _, _, _, .cons a b, h => .cons a (Ims.app b h)
inductive All2 {α β : Type} (F : α → β → Prop) : List α → List β → Prop
  | nil : All2 F [] []
  | cons {a : α} {b : β} {l : List α} {m : List β} : F a b → All2 F l m → All2 F (a :: l) (b :: m)
theorem All2.imp {α β : Type} {F G : α → β → Prop} (f : ∀ a b, F a b → G a b) : ∀ {l : List α} {m : List β}, All2 F l m → All2 G l m
  | _, _, .nil => .nil
  | _, _, .cons h t => .cons (f _ _ h) (All2.imp f t)
mutual
noncomputable def okD : Dt → Prop
  | .flat _ => True
  | .tup l => l.length ≤ 100000 ∧ okDs l
  | .lst l => l.length ≤ 100000 ∧ okDs l
noncomputable def okDs : List Dt → Prop
  | [] => True
  | x :: xs => okD x ∧ okDs xs
end
noncomputable def prL (p : Str × Int) : Dt := .tup [.flat (.str p.1), .flat (.int p.2)]
noncomputable def prD (l : List (Str × Int)) : Dt := .tup (l.map prL)
inductive Us where
  | num (a p s : Int)
  | call (a p s x y : Int)
  | take (a p s : Int) (l : List (Str × Int))
  | case (a p s : Int) (l : List (Str × Int))
  | row (a p s x : Int)
noncomputable def hdD (n : Str) (a p s : Int) : List Dt := [.flat (.str n), .flat (.int a), .flat (.int p), .flat (.int s)]
noncomputable def Us.d : Us → Dt
  | .num a p s => .tup (hdD "num" a p s)
  | .call a p s x y => .tup (hdD "call" a p s ++ [.flat (.int x), .flat (.int y)])
  | .take a p s l => .tup (hdD "take" a p s ++ [prD l])
  | .case a p s l => .tup (hdD "case" a p s ++ [prD l])
  | .row a p s x => .tup (hdD "row" a p s ++ [.flat (.int x)])
structure Mkg where
  s : Str
  f : Dt
  a : Int
  p : Int
noncomputable def Mkg.d (m : Mkg) : Dt := .tup [.flat (.str m.s), m.f, .flat (.int m.a), .flat (.int m.p)]
noncomputable def fU (a p s : V) : List (Str × V) := [("at", a), ("place", p), ("slot", s)]
noncomputable def fU1 (n : Str) (a p s x : V) : List (Str × V) := [("at", a), ("place", p), ("slot", s), (n, x)]
noncomputable def fU2 (a p s x y : V) : List (Str × V) := [("at", a), ("place", p), ("slot", s), ("arg", x), ("out", y)]
noncomputable def fM (s f a p : V) : List (Str × V) := [("shape", s), ("parts", f), ("at", a), ("place", p)]
noncomputable def fB (p0 p1 p2 p3 : Addr) (r : V) : List (Str × V) := [("points", .ref p0), ("makes", .ref p1), ("uses", .ref p2), ("flows", .ref p3), ("root", r)]
structure Cs where
  M : Addr
  N : Addr
  C : Addr
  T : Addr
  K : Addr
  R : Addr
  B : Addr
noncomputable def UsAt (c : Cs) (H : Hp) (v : V) : Us → Prop
  | .num a p s => ∃ x dx, v = .ref x ∧ H x = some (.ins c.N dx (fU (.int a) (.int p) (.int s)))
  | .call a p s y z => ∃ x dx, v = .ref x ∧ H x = some (.ins c.C dx (fU2 (.int a) (.int p) (.int s) (.int y) (.int z)))
  | .take a p s l => ∃ x dx f, v = .ref x ∧ H x = some (.ins c.T dx (fU1 "fields" (.int a) (.int p) (.int s) f)) ∧ Im H f (prD l) ∧ l.length ≤ 10
  | .case a p s l => ∃ x dx f, v = .ref x ∧ H x = some (.ins c.K dx (fU1 "arms" (.int a) (.int p) (.int s) f)) ∧ Im H f (prD l) ∧ l.length ≤ 10
  | .row a p s y => ∃ x dx, v = .ref x ∧ H x = some (.ins c.R dx (fU1 "out" (.int a) (.int p) (.int s) (.int y)))
noncomputable def MkAt (c : Cs) (H : Hp) (v : V) (m : Mkg) : Prop := ∃ x dx f, v = .ref x ∧ H x = some (.ins c.M dx (fM (.str m.s) f (.int m.a) (.int m.p))) ∧ Im H f m.f ∧ depD m.f ≤ 2 ∧ okD m.f
noncomputable def Fz : HO → Prop
  | .tup _ => True
  | .ins _ _ fs => fs.length ≠ 5 ∨ ∃ v r, fs = (("at" : Str), v) :: r
  | _ => False
noncomputable def FK (H H' : Hp) : Prop := ∀ a o, H a = some o → Fz o → H' a = some o
theorem FK.tk {H H' : Hp} (k : FK H H') : TK H H' := fun a xs e => k a _ e trivial
theorem FK.trans {H H1 H2 : Hp} (a : FK H H1) (b : FK H1 H2) : FK H H2 := fun c o e f => b c o (a c o e f) f
theorem UsAt.mono {c : Cs} {H H' : Hp} {v : V} (k : FK H H') : ∀ {u : Us}, UsAt c H v u → UsAt c H' v u
  | .num _ _ _, ⟨x, dx, e, h⟩ => ⟨x, dx, e, k _ _ h (.inr ⟨_, _, rfl⟩)⟩
  | .call _ _ _ _ _, ⟨x, dx, e, h⟩ => ⟨x, dx, e, k _ _ h (.inr ⟨_, _, rfl⟩)⟩
  | .take _ _ _ _, ⟨x, dx, f, e, h, i, n⟩ => ⟨x, dx, f, e, k _ _ h (.inr ⟨_, _, rfl⟩), i.mono k.tk, n⟩
  | .case _ _ _ _, ⟨x, dx, f, e, h, i, n⟩ => ⟨x, dx, f, e, k _ _ h (.inr ⟨_, _, rfl⟩), i.mono k.tk, n⟩
  | .row _ _ _ _, ⟨x, dx, e, h⟩ => ⟨x, dx, e, k _ _ h (.inr ⟨_, _, rfl⟩)⟩
theorem MkAt.mono {c : Cs} {H H' : Hp} {v : V} {m : Mkg} (k : FK H H') : MkAt c H v m → MkAt c H' v m
  | ⟨x, dx, f, e, h, i, d⟩ => ⟨x, dx, f, e, k _ _ h (.inl (by show 4 ≠ 5; decide)), i.mono k.tk, d⟩

theorem lc_gen {J : It} {i : Nat} {te : TE} {Q : VK} {τ : St} {H1 : Hp} {D : Addr} (n : Nat) (hn : n < sizeLine) (R : List V → Hp → Prop) (hR : ∀ xs H H', R xs H → TK H H' → R xs H') (hD : H1 D = none) (hτ : τ.set i none = τ)
    (hgo : ∀ k H, Same H1 H → k < n → J.go k H) (hst : ∀ H, Same H1 H → J.stop n H) (h0 : R [] H1)
    (step : ∀ k H v H3 xs (Z : VK), Same H1 H → k < n → J.yld k H v H3 → R xs H → xs.length = k → (∀ y H5, Same H H5 → R (xs ++ [y]) H5 → Z y H5) → te (τ.set i (some v)) H3 Z)
    (hq : ∀ H' xs, Same H1 H' → R xs H' → xs.length = n → H' D = some (.lst xs) → Q (.ref D) H') : LcP J i tAlways te Q τ H1 D := by
  have nd : ∀ (H5 : Hp) (xs ys : List V), H5 D = some (.lst xs) → TK H5 (upd H5 D (.lst ys)) := fun H5 xs ys e a zs q => by rw [upd_ne (ne_of q e (fun z => nomatch z))]; exact q
  have up : ∀ {H : Hp} (o : HO), Same H1 H → Same H1 (upd H D o) := fun {H} o S b u e => by rw [upd_ne (ne_of_none e hD)]; exact S b u e
  refine ⟨fun k m σ' H2 => m = n - k ∧ k ≤ n ∧ (∃ o, σ' = τ.set i o) ∧ Same H1 H2 ∧ ∃ xs, H2 D = some (.lst xs) ∧ xs.length = k ∧ R xs H2, ⟨n, by simp, Nat.zero_le _, ⟨none, hτ.symm⟩, same_new hD _, [], upd_same, rfl, hR _ _ _ h0 (Same.tk (same_new hD _))⟩, ?_⟩
  rintro k m σ' H2 ⟨rfl, hk, ⟨o, rfl⟩, S, xs, e, hl, hr⟩
  by_cases hlt : k < n
  · refine .inr ⟨hgo k H2 S hlt, fun v H3 y => ?_⟩
    rw [List.set_set]
    refine step k H2 v H3 xs _ S hlt y hr hl fun y H5 S5 r5 => ?_
    refine ⟨xs, S5 D _ e, by omega, n - (k + 1), by omega, rfl, hlt, ⟨some v, rfl⟩, up _ (S.trans S5), xs ++ [y], upd_same, by rw [List.length_append, hl]; rfl, hR _ _ _ r5 (nd H5 _ _ (S5 D _ e))⟩
  · have e1 : k = n := by omega
    subst e1
    exact .inl ⟨hst H2 S, hq H2 xs S hr hl e⟩
theorem go_rng {lo : Int} {n k : Nat} {H : Hp} (h : k < n) : (Itr lo n).go k H := h
theorem go_lst {K : PySem.W.Frag} {a : Addr} {xs : List V} {k : Nat} {H1 H : Hp} (e : H1 a = some (.lst xs)) (S : Same H1 H) (h : k < xs.length) : (Itl K a).go k H := ⟨xs, xs[k], SqL.of (S a _ e), List.getElem?_eq_getElem h⟩
theorem st_lst {K : PySem.W.Frag} {a : Addr} {xs : List V} {H1 H : Hp} (e : H1 a = some (.lst xs)) (S : Same H1 H) : (Itl K a).stop xs.length H := ⟨xs, SqL.of (S a _ e), Nat.le_refl _⟩
theorem go_tup {K : PySem.W.Frag} {a : Addr} {xs : List V} {k : Nat} {H1 H : Hp} (e : H1 a = some (.tup xs)) (S : Same H1 H) (h : k < xs.length) : (Itt K a).go k H := ⟨xs, xs[k], SqT.of (S a _ e), List.getElem?_eq_getElem h⟩
theorem st_tup {K : PySem.W.Frag} {a : Addr} {xs : List V} {H1 H : Hp} (e : H1 a = some (.tup xs)) (S : Same H1 H) : (Itt K a).stop xs.length H := ⟨xs, SqT.of (S a _ e), Nat.le_refl _⟩
inductive Ls (H : Hp) : List Addr → List (List V) → Prop
  | nil : Ls H [] []
  | cons {a : Addr} {c : List V} {l : List Addr} {m : List (List V)} : H a = some (.lst c) → Ls H l m → Ls H (a :: l) (c :: m)
theorem Ls.frame {H H' : Hp} {M : List Addr} (k : ∀ a o, H a = some o → a ∉ M → H' a = some o) : ∀ {l : List Addr} {m : List (List V)}, Ls H l m → (∀ a ∈ l, a ∉ M) → Ls H' l m
  | _, _, .nil, _ => .nil
  | _, _, .cons (a := a) h t, n => .cons (k _ _ h (n a (by simp))) (Ls.frame k t fun b hb => n b (by simp [hb]))
structure Sd where
  b : Addr
  dx : Addr
  p0 : Addr
  p1 : Addr
  p2 : Addr
  p3 : Addr
  d : Addr
  q0 : Addr
  q1 : Addr
  q2 : Addr
  q3 : Addr
noncomputable def Sd.ls (S : Sd) : List Addr := [S.p0, S.p1, S.p2, S.p3, S.d, S.q0, S.q1, S.q2, S.q3]
structure Bd where
  pts : List Int
  mks : List Mkg
  uss : List Us
  fls : List (Int × Int)
  root : Int
noncomputable def flD (p : Int × Int) : Dt := .tup [.flat (.int p.1), .flat (.int p.2)]
structure BSx (c : Cs) (H : Hp) (S : Sd) (E D : Bd) : Prop where
  nd : S.ls.Nodup
  ob : H S.b = some (.ins c.B S.dx (fB S.p0 S.p1 S.p2 S.p3 (.int D.root)))
  st : ∃ mv uv fv mv' uv' fv' : List V, Ls H S.ls [D.pts.map V.int, mv, uv, fv, [.ref S.q0, .ref S.q1, .ref S.q2, .ref S.q3, .int E.root], E.pts.map V.int, mv', uv', fv'] ∧
    All2 (MkAt c H) mv D.mks ∧ All2 (UsAt c H) uv D.uss ∧ Ims H fv (D.fls.map flD) ∧ Ims H mv' (E.mks.map Mkg.d) ∧ Ims H uv' (E.uss.map Us.d) ∧ Ims H fv' (E.fls.map flD)
theorem fk_lst {H : Hp} {a : Addr} {xs : List V} {o : HO} (h : H a = some (.lst xs)) : FK H (upd H a o) := fun b u e f => by
  rw [upd_ne (ne_of e h (fun z => by rw [z] at f; exact f))]
  exact e
section
variable {c : Cs} {H H' : Hp} {S : Sd} {E D : Bd}
theorem BSx.frame {M : List Addr} (B : BSx c H S E D) (k : ∀ a o, H a = some o → a ∉ M → H' a = some o) (hb : S.b ∉ M) (hl : ∀ a ∈ S.ls, a ∉ M) (fk : FK H H') : BSx c H' S E D := by
  obtain ⟨nd, ob, mv, uv, fv, mv', uv', fv', L, h1, h2, h3, h4, h5, h6⟩ := B
  exact ⟨nd, k _ _ ob hb, mv, uv, fv, mv', uv', fv', L.frame k hl, h1.imp fun _ _ => MkAt.mono fk, h2.imp fun _ _ => UsAt.mono fk, h3.mono fk.tk, h4.mono fk.tk, h5.mono fk.tk, h6.mono fk.tk⟩
end
theorem BSx.hl {c : Cs} {H : Hp} {S : Sd} {E D : Bd} {l : Addr} {xs : List V} {o : HO} (B : BSx c H S E D) (hn : l ∉ S.ls) (e : H l = some (.lst xs)) : BSx c (upd H l o) S E D := by
  refine B.frame (M := [l]) (fun a u q n => ?_) (fun z => ?_) (fun a ha z => ?_) (fk_lst e)
  · rw [upd_ne (fun z => n (by simp [z]))]; exact q
  · have z' : S.b = l := by simpa using z
    have q := B.ob
    rw [z', e] at q
    cases q
  · have z' : a = l := by simpa using z
    rw [z'] at ha
    exact hn ha
noncomputable def Frm (M : List Addr) (H H' : Hp) : Prop := ∀ a o, H a = some o → a ∉ M → H' a = some o
theorem Frm.trans {M : List Addr} {H H1 H2 : Hp} (a : Frm M H H1) (b : Frm M H1 H2) : Frm M H H2 := fun c o e n => b c o (a c o e n) n
end BO.Internal
namespace BO.Internal
open PySem L2.Internal
inductive Mf where
  | num
  | fn (x y : Int)
  | rcd (l : List (Str × Int))
  | tag (w : Str) (x : Int)
  | row (x : Int)
  | any
noncomputable def Mf.s : Mf → Str
  | .num => "num"
  | .fn _ _ => "fn"
  | .rcd _ => "rec"
  | .tag _ _ => "tag"
  | .row _ => "row"
  | .any => "any"
noncomputable def Mf.f : Mf → Dt
  | .num => .tup []
  | .fn x y => .tup [.flat (.int x), .flat (.int y)]
  | .rcd l => prD l
  | .tag w x => .tup [.flat (.str w), .flat (.int x)]
  | .row x => .tup [.flat (.int x)]
  | .any => .tup []
end BO.Internal
namespace L2.Internal
open PySem PySem.Spec PyProof.Rows
section
variable {X : Cx} {e a b o f : Expr} {st : Stmt} {ta tb td ty tx to : TE} {pos apos cpos : Pos}
theorem PE.weak {t t' : TE} (h : PE X e t) (m : ∀ σ H Q, t' σ H Q → t σ H Q) : PE X e t' := fun pins s σ H Q I q => h pins s σ H Q I (m σ H Q q)
theorem PT.weak {t t' : TT} (h : PT X e t) (m : ∀ σ H Q, t' σ H Q → t σ H Q) : PT X e t' := fun pins s σ H Q I q => h pins s σ H Q I (m σ H Q q)
theorem PS.weak {t t' : TS} (h : PS X st t) (m : ∀ D σ H, t' D σ H → t D σ H) : PS X st t' := fun pins s σ H D I q => h pins s σ H D I (m D σ H q)
theorem OpR.weak {g : Value → Value → Sem Value} {r r' : R2} (h : OpR X g r) (m : ∀ x y H Q, r' x y H Q → r x y H Q) : OpR X g r' := fun pins s σ H x y v u Q I rx ry q => h pins s σ H x y v u Q I rx ry (m x y H Q q)
theorem IxR.weak {r r' : R2} (h : IxR X r) (m : ∀ x y H Q, r' x y H Q → r x y H Q) : IxR X r' := fun value slice pins s σ H x y v u Q I rx ry q hs => h value slice pins s σ H x y v u Q I rx ry (m x y H Q q) hs
noncomputable def mT (t : TE) : TE := fun σ H Q => ∃ Q0 : VK, t σ H Q0 ∧ ∀ x H1, Q0 x H1 → Q x H1
theorem PE.mono {t : TE} (h : PE X e t) : PE X e (mT t) := fun pins s σ H Q I ⟨Q0, h0, m⟩ => thn (h pins s σ H Q0 I h0) fun v s1 ⟨x, H1, I1, r1, q1⟩ => ⟨x, H1, I1, r1, m x H1 q1⟩
noncomputable def mR (r : R2) : R2 := fun x y H Q => ∃ Q0 : VK, r x y H Q0 ∧ ∀ x H1, Q0 x H1 → Q x H1
theorem OpR.mono {g : Value → Value → Sem Value} {r : R2} (h : OpR X g r) : OpR X g (mR r) := fun pins s σ H x y v u Q I rx ry ⟨Q0, h0, m⟩ => thn (h pins s σ H x y v u Q0 I rx ry h0) fun v s1 ⟨x, H1, I1, r1, q1⟩ => ⟨x, H1, I1, r1, m x H1 q1⟩
noncomputable def onV : Option (Option V) → (V → Prop) → Prop
  | some (some v), k => k v
  | _, _ => False
noncomputable def onS {α : Type} : Option α → (α → Prop) → Prop
  | some v, k => k v
  | none, _ => False
theorem onS_of {α : Type} {x : Option α} {v : α} {k : α → Prop} (h : x = some v) (q : k v) : onS x k := by rw [h]; exact q
theorem onS_ex {α : Type} {x : Option α} {k : α → Prop} (h : onS x k) : ∃ v, x = some v ∧ k v := by
  cases x with
  | none => exact h.elim
  | some v => exact ⟨v, rfl, h⟩
noncomputable def cV (i : Nat) : TE := fun σ H Q => onV σ[i]? fun v => Q v H
theorem cv (i : Nat) {x : Str} {pos : Pos} (hN : autoParam (X.N[i]? = some x) L2.Internal.auR._auto_1) (hv : Vis X.env.scope x := by first | exact Or.inl rfl | exact Or.inr (Or.inl rfl) | exact Or.inr (Or.inr rfl)) (hd : autoParam ((x == ("__debug__" : Str)) = false) L2.Internal.auD._auto_1)
    (hcd : autoParam ((x == ("__classdict__" : Str)) = false) L2.Internal.auD._auto_1) : PE X (.Name x pos) (cV i) := (pv i hN hv hd hcd).weak fun σ H Q h => by
  unfold cV at h
  cases q : σ[i]? with
  | none => rw [q] at h; exact h.elim
  | some o =>
    rw [q] at h
    cases o with
    | none => exact h.elim
    | some v => exact ⟨v, q, h⟩
noncomputable def cI0 (g : Int → Int → V) : R2 := fun x y H Q => match x, y with
  | .int i, .int j => Q (g i j) H
  | _, _ => False
noncomputable def cI (C : Int → Int → Prop) (g : Int → Int → V) : R2 := fun x y H Q => match x, y with
  | .int i, .int j => C i j ∧ Q (g i j) H
  | _, _ => False
theorem cI0_of {g : Int → Int → V} : ∀ x y H Q, cI0 g x y H Q → rI0 g x y H Q := fun x y H Q h => by
  unfold cI0 at h
  split at h
  · exact ⟨_, _, rfl, rfl, h⟩
  · exact h.elim
theorem cI_of {C : Int → Int → Prop} {g : Int → Int → V} : ∀ x y H Q, cI C g x y H Q → rI C g x y H Q := fun x y H Q h => by
  unfold cI at h
  split at h
  · exact ⟨_, _, rfl, rfl, h.1, h.2⟩
  · exact h.elim
theorem oc_add : OpR X (binaryOp .Add) (cI0 fun i j => .int (i + j)) := op_add.weak cI0_of
theorem oc_sub : OpR X (binaryOp .Sub) (cI0 fun i j => .int (i - j)) := op_sub.weak cI0_of
theorem oc_mul : OpR X (binaryOp .Mult) (cI CMul fun i j => .int (i * j)) := op_mul.weak cI_of
theorem oc_fdiv : OpR X (binaryOp .FloorDiv) (cI CDiv fun i j => .int (i / j)) := op_fdiv.weak cI_of
theorem oc_mod : OpR X (binaryOp .Mod) (cI (fun _ j => 0 < j) fun i j => .int (i % j)) := op_mod.weak cI_of
theorem oc_pow : OpR X (binaryOp .Pow) (cI CPow fun i j => .int (i ^ j.toNat)) := op_pow.weak cI_of
theorem oc_lt : OpR X (compareOp .Lt) (cI0 fun i j => .bl (decide (i < j))) := op_lt.weak cI0_of
theorem oc_gt : OpR X (compareOp .Gt) (cI0 fun i j => .bl (decide (j < i))) := op_gt.weak cI0_of
theorem oc_ge : OpR X (compareOp .GtE) (cI0 fun i j => .bl (decide (j ≤ i))) := op_ge.weak cI0_of
noncomputable def cEq (n : Bool) : R2 := fun x y H Q => match x, y with
  | .int i, .int j => Q (.bl (xor n (decide (i = j)))) H
  | .str i, .str j => Q (.bl (xor n (decide (i = j)))) H
  | _, _ => False
theorem decS {i j : Str} : decide (V.str i = V.str j) = decide (i = j) := by
  rw [Bool.eq_iff_iff]
  simp
theorem decI {i j : Int} : decide (V.int i = V.int j) = decide (i = j) := by
  rw [Bool.eq_iff_iff]
  simp
theorem oc_eq : OpR X (compareOp .Eq) (cEq false) := op_eq.weak fun x y H Q h => by
  unfold cEq at h
  split at h
  · refine ⟨rfl, ?_⟩; rw [decI]; rw [Bool.false_xor] at h; exact h
  · refine ⟨rfl, ?_⟩; rw [decS]; rw [Bool.false_xor] at h; exact h
  · exact h.elim
theorem oc_ne : OpR X (compareOp .NotEq) (cEq true) := op_ne.weak fun x y H Q h => by
  unfold cEq at h
  split at h
  · refine ⟨rfl, ?_⟩; rw [decI]; rw [Bool.true_xor] at h; exact h
  · refine ⟨rfl, ?_⟩; rw [decS]; rw [Bool.true_xor] at h; exact h
  · exact h.elim
noncomputable def onB : V → (Bool → Prop) → Prop
  | .bl k, q => q k
  | _, _ => False
theorem onB_ex {x : V} {k : Bool → Prop} (h : onB x k) : ∃ c, x = .bl c ∧ k c := by
  cases x <;> first | exact ⟨_, rfl, h⟩ | exact h.elim
noncomputable def cT (t : TE) : TT := fun σ H Q => t σ H fun x H' => onB x fun k => Q k H'
theorem ptc_cmpR {op : CmpOp} {r : R2} (ho : OpR X (compareOp op) r) (ha : PE X a ta) (hb : PE X b tb) (hm : behindInMarks op b = false) : PT X (.Compare a [op] [b] pos) (cT (tOp r ta tb)) :=
  (pt_cmpR ho.mono ha.mono hb.mono hm).weak fun σ H Q h => ⟨_, h, fun x H1 h1 => ⟨_, h1, fun y H2 h2 => ⟨_, h2, fun z H' h3 => onB_ex h3⟩⟩⟩
noncomputable def cIxL : R2 := fun x y H Q => match x, y with
  | .ref p, .int i => ∃ xs, H p = some (.lst xs) ∧ onS (atI xs i) fun v => Q v H
  | _, _ => False
noncomputable def cIxT : R2 := fun x y H Q => match x, y with
  | .ref p, .int i => ∃ xs, H p = some (.tup xs) ∧ onS (atI xs i) fun v => Q v H
  | _, _ => False
noncomputable def cIxS : R2 := fun x y H Q => match x, y with
  | .str z, .int i => z.length ≤ sizeLine ∧ onS (atI z.cps.toList i) fun c => Q (.str ⟨#[c]⟩) H
  | _, _ => False
theorem xc_list : IxR X cIxL := ix_list.weak fun x y H Q h => by
  unfold cIxL at h
  split at h
  · obtain ⟨xs, e, h⟩ := h
    obtain ⟨v, ev, h⟩ := onS_ex h
    exact ⟨_, xs, _, v, rfl, rfl, SqL.of e, ev, h⟩
  · exact h.elim
theorem xc_tup : IxR X cIxT := ix_tup.weak fun x y H Q h => by
  unfold cIxT at h
  split at h
  · obtain ⟨xs, e, h⟩ := h
    obtain ⟨v, ev, h⟩ := onS_ex h
    exact ⟨_, xs, _, v, rfl, rfl, SqT.of e, ev, h⟩
  · exact h.elim
theorem xc_str : IxR X cIxS := ix_str.weak fun x y H Q h => by
  unfold cIxS at h
  split at h
  · obtain ⟨e, h⟩ := h
    obtain ⟨v, ev, h⟩ := onS_ex h
    exact ⟨_, _, v, rfl, rfl, e, ev, h⟩
  · exact h.elim
noncomputable def Fd (H : Hp) (a C : Addr) (f : Str) (v : V) : Prop := ∃ dx fs, H a = some (.ins C dx fs) ∧ fs.lookup f = some v
noncomputable def cFld (C : Addr) (f : Str) (ta : TE) : TE := fun σ H Q => ta σ H fun x H1 => match x with
  | .ref a => ∃ v, Fd H1 a C f v ∧ Q v H1
  | _ => False
theorem pec_fld {C : Addr} {f : Str} (c : Cls X.K C) (n : NoAttr X.K C f) (he : PE X e ta) (hb : autoParam (attributeBase e f X.env (eval e X.env) = eval e X.env) L2.Internal.auR._auto_1) : PE X (.Attribute e f pos) (cFld C f ta) :=
  (pe_fld he.mono hb).weak fun σ H Q h => ⟨_, h, fun x H1 h1 => by
    cases x with
    | ref a =>
      obtain ⟨v, ⟨dx, fs, ea, ev⟩, q⟩ := h1
      exact ⟨a, C, dx, fs, v, rfl, ea, c, n, ev, q⟩
    | _ => exact h1.elim⟩
noncomputable def csFld (C : Addr) (f : Str) (ta tv : TE) : TS := fun D σ H => tv σ H fun y H1 => ta σ H1 fun x H2 => match x with
  | .ref a => ∃ dx fs, H2 a = some (.ins C dx fs) ∧ fs.length < 1000 ∧ D.nx σ (upd H2 a (.ins C dx (putF f y fs)))
  | _ => False
theorem psc_fld {C : Addr} {f : Str} {tv : TE} (c : Cls X.K C) (n : NoAttr X.K C f) (h : PS X st (sFld X.K (mT ta) (mT tv) f)) : PS X st (csFld C f ta tv) := h.weak fun D σ H h => ⟨_, h, fun y H1 h1 => ⟨_, h1, fun x H2 h2 => by
    cases x with
    | ref a =>
      obtain ⟨dx, fs, ea, l, q⟩ := h2
      exact ⟨a, C, dx, fs, rfl, ea, c, n, l, q⟩
    | _ => exact h2.elim⟩⟩
noncomputable def cS : R2 := fun x y H Q => match x, y with
  | .str i, .str j => i.length + j.length ≤ sizeLine ∧ Q (.str (i ++ j)) H
  | _, _ => False
theorem oc_addS : OpR X (binaryOp .Add) cS := op_add_str.weak fun x y H Q h => by
  unfold cS at h
  split at h
  · exact ⟨_, _, rfl, rfl, h.1, h.2⟩
  · exact h.elim
noncomputable def cApp (to ta : TE) : TE := fun σ H Q => to σ H fun x H1 => match x with
  | .ref l => (∃ xs, H1 l = some (.lst xs)) ∧ ta σ H1 fun y H2 => ∃ xs, H2 l = some (.lst xs) ∧ xs.length < sizeLine ∧ Q .non (upd H2 l (.lst (xs ++ [y])))
  | _ => False
theorem pec_app (h : PE X e (tBM X.K "list" rAppend (mT to) (tCons (mT ta) tNil))) : PE X e (cApp to ta) := h.weak fun σ H Q h => ⟨_, h, fun x H1 h1 => by
    cases x with
    | ref l =>
      obtain ⟨⟨xs, e⟩, q⟩ := h1
      exact ⟨.inl ⟨rfl, xs, SqL.of e⟩, _, q, fun y H2 ⟨xs, e, hl, q2⟩ => ⟨l, xs, y, rfl, rfl, e, hl, q2⟩⟩
    | _ => exact h1.elim⟩
end
end L2.Internal
namespace BO.Internal
open PySem L2.Internal
noncomputable def wd : Bool → Str
  | true => "goes"
  | false => "here"
structure Rw where
  w : Bool
  a : Int
  b : Int
  y : Option (Int × Int)
noncomputable def Rw.k (r : Rw) : List Key := [.inr (wd r.w), .inl r.a, .inl r.b]
noncomputable def whyD : Option (Int × Int) → Dt
  | none => .flat .non
  | some p => flD p
noncomputable def Rw.d (r : Rw) : Dt := .tup [.flat (.str (wd r.w)), .flat (.int r.a), .flat (.int r.b), whyD r.y]
end BO.Internal
namespace BO.Internal
open PySem L2.Internal
open Classical in
noncomputable def putR (R : List Rw) (ρ : Rw) : List Rw := if ρ.k ∈ R.map Rw.k then R else R ++ [ρ]
noncomputable def putsR (R l : List Rw) : List Rw := l.foldl putR R
end BO.Internal
namespace L2.Internal
open PySem PySem.Spec PyProof.Rows
section
variable {X : Cx}
end
end L2.Internal
namespace L2.Internal
open PySem PySem.Spec PyProof.Rows
noncomputable def Itv (K : PySem.W.Frag) (a : Addr) (n : Nat) : It :=
  ⟨fun i H => i < n ∧ ∃ xs, SqL K H a xs ∧ xs.length = n, fun i H x H' => H' = H ∧ ∀ xs, SqL K H a xs → xs[n - 1 - i]? = some x, fun i _ => i = n⟩
theorem turn_rev {P : Program} {w : World} {K : PySem.W.Frag} {tg : Expr} (a it : Addr) (n : Nat) : Turn P w K tg (Itv K a n) [it] it (fun i h => h.IsRevIter it a ((n : Int) - 1 - (i : Int))) where
  mem := by simp
  obj := fun i h st b hb => by
    have e : b = it := by simpa using hb
    subst e
    obtain ⟨o, e, c, d⟩ := st
    exact ⟨o, e, fun v z => by rw [d] at z; cases z⟩
  keep := fun i h h' st k => st.at fun o e => k it (by simp) o e
  item := by
    intro X hP hw hK hc i pins s σ H E I hf st hg
    subst hP hw hK
    obtain ⟨hi, xs, hq, hn⟩ := hg
    obtain ⟨its, rv, p, hz⟩ := I.list hq
    have hlt : n - 1 - i < xs.length := by omega
    obtain ⟨u, hu, ru⟩ := rv.get (List.getElem?_eq_getElem hlt)
    obtain ⟨f0, f1, f2, f3, f4, f5⟩ := hf it (by simp)
    have e : (n : Int) - 1 - (i : Int) = ((n - 1 - i : Nat) : Int) := by omega
    have st' := st
    rw [e] at st'
    refine wpAny_pyNext_rev_item st' p.isList (x := u) (by simpa using hu) fun h' st2 sb => ?_
    have e2 : ((n - 1 - i : Nat) : Int) - 1 = (n : Int) - 1 - ((i + 1 : Nat) : Int) := by omega
    rw [e2] at st2
    have I1 : Inv X pins σ H { s with heap := h' } := I.turned (t' := s.toks) (fun b o hb e => (sb.2 b hb).trans e) f0 f1 f3 f4 f5
    obtain ⟨o, eo, c, d⟩ := id st2
    exact ⟨u, rfl, go_of (s := { s with heap := h' }) eo c d (by decide) ⟨xs[n - 1 - i], H, I1, ru, ⟨rfl, fun ys hy => by rw [I.list_inj hy hq]; exact List.getElem?_eq_getElem hlt⟩, st2, fun b hb => (hf b hb).1⟩⟩
  done := by
    intro X hP hw hK hc i pins s σ H E I hf st hg
    subst hP hw hK
    have hi : i = n := hg
    subst hi
    obtain ⟨f0, f1, f2, f3, f4, f5⟩ := hf it (by simp)
    have e : (i : Int) - 1 - (i : Int) = -1 := by omega
    have st' := st
    rw [e] at st'
    exact wpAny_pyNext_rev_end (I.ok.hd hc) st' fun h' eb => ⟨rfl, I.turned (t' := s.toks) (fun b o hb e => eb b o hb e) f0 f1 f3 f4 f5⟩
  self := fun _ _ _ _ _ st h => wpAny_pyIter_revIter st h
noncomputable def iRev (K : PySem.W.Frag) (ta : TA) : TI := fun σ H R => ta σ H fun vs H1 => ∃ a xs, vs = [.ref a] ∧ SqL K H1 a xs ∧ R (Itv K a xs.length) H1
theorem bt_reversed : bootBuiltins "reversed" = some (.type "reversed") := by first | rfl | decide +kernel
section
variable {X : Cx}
theorem pi_rev {tg : Expr} {a : Expr} {ta : TA} {p pos : Pos} (hg : Gl X "reversed") (hm : X.mg "reversed" = none) (ha : PA X [a] ta) (hs : autoParam (starEach [a] X.env = [(false, eval a X.env)]) L2.Internal.auR._auto_1) :
    PI X tg (.Call (.Name "reversed" p) [a] [] pos) (iRev X.K ta) := by
  intro pins s σ H R I h
  refine Call_ (ld_blt I hg hm bt_reversed (PyProof.Rows.callWith_type1 (thn (ha pos pins s σ H _ I h) fun us s1 ⟨vs, H1, I1, r1, q1⟩ => ?_) hs rfl))
  obtain ⟨l1, xs, e, hq, q⟩ := q1
  subst e
  obtain ⟨u, rfl, ru⟩ := vals1 r1
  cases ru
  obtain ⟨i1s, w1, p1, z1⟩ := I1.list hq
  have hl := w1.length
  refine call_reversed_list p1.isList ?_
  have sz : ((i1s.toArray.size : Nat) : Int) - 1 = (xs.length : Int) - 1 - ((0 : Nat) : Int) := by simp only [List.size_toArray]; omega
  rw [sz]
  have st : (s1.heap.push (revObj l1 ((xs.length : Int) - 1 - ((0 : Nat) : Int)))).IsRevIter s1.heap.objs.size l1 ((xs.length : Int) - 1 - ((0 : Nat) : Int)) := ⟨_, Heap.get?_push_size _ rfl, rfl, rfl⟩
  refine wpAny_pyIter_revIter (s := { s1 with heap := s1.heap.push (revObj l1 ((xs.length : Int) - 1 - ((0 : Nat) : Int))) }) st ?_
  refine ⟨s1.heap.objs.size, [s1.heap.objs.size], _, _, H1, rfl, I1.kept (t' := s1.toks) fun b o e => Heap.get?_push_of_some _ e, turn_rev l1 _ xs.length, st, fun b hb => ?_, q⟩
  have e : b = s1.heap.objs.size := by simpa using hb
  subst e
  exact I1.fpOk (Nat.le_refl _) (I1.hok.fresh (Nat.le_refl _))
theorem draw_list {prog : Program} {w : World} {A : Around} {E : Value → Shared → Prop} {it t : Addr} {items : Array Value} (hne : t ≠ it) : ∀ (n i : Nat) (s : Shared) (Q : List Value → Shared → Prop), s.heap.IsListIter it t i → s.heap.IsList t items → i + n ≤ items.size →
    (∀ h', h'.IsListIter it t (i + n) → Heap.SameBut it s.heap h' → Q ((items.toList.drop i).take n) { s with heap := h' }) → wpAny (model prog w) A (draw (.ref it) n) Q E s
  | 0, i, s, Q, hit, _, _, hQ => by
    show wpAny _ _ (pure []) Q E s
    exact wpAny_pure (by simpa using hQ s.heap hit (Heap.SameBut.refl ..))
  | n + 1, i, s, Q, hit, ht, hle, hQ => by
    have hlt : i < items.size := by omega
    show wpAny _ _ (pyNext (.ref it) >>= _) Q E s
    refine wpAny_bind (wpAny_pyNext_list_item hit ht (x := items[i]) (by simp [hlt]) fun h₁ hit₁ hs₁ => ?_)
    refine wpAny_bind (wpAny_holding (draw_list hne n (i + 1) _ _ hit₁ (ht.at fun o e => (hs₁.2 t hne).trans e) (by omega) fun h₂ hit₂ hs₂ => wpAny_pure ?_))
    have hd : items.toList.drop i = items[i] :: items.toList.drop (i + 1) := by simp [List.drop_eq_getElem_cons, hlt]
    have := hQ h₂ (by rw [show i + (n + 1) = i + 1 + n by omega]; exact hit₂) (hs₁.trans hs₂)
    rw [hd, List.take_succ_cons] at this
    exact this
theorem unpackItems_list {prog : Program} {w : World} {A : Around} {E : Value → Shared → Prop} {s : Shared} {t : Addr} {items : Array Value} {Q : List Value → Shared → Prop} (hh : A.handled = none) (ht : s.heap.IsList t items)
    (hQ : ∀ h', Heap.ExtBut s.heap.objs.size s.heap h' → Q items.toList { s with heap := h' }) : wpAny (model prog w) A (unpackItems (.ref t) items.size none) Q E s := by
  have hlt : t ≠ s.heap.objs.size := by obtain ⟨o, ho, _⟩ := ht; exact Nat.ne_of_lt (Heap.lt_size ho)
  unfold unpackItems
  refine wpAny_bind ?_
  · unfold notIterableAtAll
    refine wpAny_bind (wpAny_specialOf ht.typeIs F.slot_list_iter.lookup ?_)
    refine wpAny_pure ?_
    simp only [Bool.false_eq_true, if_false]
    refine wpAny_bind (wpAny_holding (wpAny_pyIter_list ht ?_))
    have htp : (s.heap.push { cls := .type "list_iterator", data := .fields #[.ref t, .int 0 0] }).IsList t items := ht.at fun o e => Heap.get?_push_of_some _ e
    refine wpAny_bind (wpAny_holding (draw_list hlt items.size 0 _ _ ⟨_, Heap.get?_push_size _ rfl, rfl, rfl⟩ htp (by omega) fun h₁ hit₁ hs₁ => ?_))
    have hall : List.take items.size (List.drop 0 items.toList) = items.toList := by
      rw [List.drop_zero]; exact List.take_of_length_le (by simp)
    rw [hall]
    rw [if_neg (by simp)]
    have ht₁ : h₁.IsList t items := htp.at fun o e => (hs₁.2 t hlt).trans e
    refine wpAny_bind (wpAny_holding (wpAny_pyNext_list_end hh hit₁ ht₁ (by simp) fun h₂ he₂ => ?_))
    simp only [Option.isSome_none, Bool.false_eq_true, if_false]
    refine wpAny_pure (hQ h₂ fun b o hb e => he₂ b o hb (hs₁.extBut b o hb (Heap.get?_push_of_some _ e)))
theorem assign_Tuple_list {prog : Program} {w : World} {A : Around} {E : Value → Shared → Prop} {s : Shared} {env : Env} {elts : List Expr} {x1} {pos : Pos} {t : Addr} {items : Array Value} {Q : Unit → Shared → Prop} (hh : A.handled = none) (ht : s.heap.IsList t items)
    (hn : (assignEach elts env).length = items.size) (hstar : (assignEach elts env).findIdx? (·.1) = none)
    (h : ∀ h', Heap.ExtBut s.heap.objs.size s.heap h' → wpAny (model prog w) A (assignInOrder ((assignEach elts env).map (·.2)) items.toList) Q E { s with heap := h' }) :
    wpAny (model prog w) A (assign (.Tuple elts x1 pos) env (.ref t)) Q E s := by
  rw [assign_Tuple]
  refine wpAny_bind (wpAny_standAt ?_)
  unfold unpack
  rw [hn, hstar]
  exact wpAny_bind (wpAny_holding (unpackItems_list hh ht h))
noncomputable def gLst (K : PySem.W.Frag) (n : Nat) (t : TGs) : TG := fun v σ H Q => ∃ a xs, v = .ref a ∧ SqL K H a xs ∧ xs.length = n ∧ t xs σ H Q
theorem pg_lst {es : List Expr} {k : Nat} {t : TGs} {n : Nat} {pos : Pos} (hc : X.calm = true) (h : PGs X es t)
    (hn : autoParam ((assignEach es X.env).length = n) L2.Internal.auR._auto_1) (hst : autoParam ((assignEach es X.env).findIdx? (·.1) = none) L2.Internal.auR._auto_1) : PG X (.Tuple es k pos) (gLst X.K n t) := by
  intro pins s σ H v u Q I r hw
  obtain ⟨a, xs, e1, hq, hl, hw⟩ := hw
  subst e1
  cases r
  obtain ⟨its, rv, ht, hz⟩ := I.list hq
  refine assign_Tuple_list (I.ok.hd hc) ht.isList (by simp [hn, ← hl, rv.length]) hst fun h' hx => ?_
  have I1 : Inv X pins σ H { s with heap := h' } := I.kept (t' := s.toks) fun b o e => hx b o (Nat.ne_of_lt (Heap.lt_size e)) e
  exact h pins _ σ H xs _ Q I1 (by simpa using rv) hw
theorem call_dictD : CallR X (.type "dict") (fun xs H Q => ∃ (d : Addr) (kvs : List (Key × V)), xs = [.ref d] ∧ H d = some (.dK kvs) ∧ ∀ p, H p = none → Q (.ref p) (upd H p (.dK kvs))) := by
  intro pins s σ H xs us Q I r h
  obtain ⟨d, kvs, rfl, hd, q⟩ := h
  obtain ⟨u, rfl, ru⟩ := vals1 r
  cases ru
  obtain ⟨z, hS, vs, rel, dd⟩ := dk_of I.hok hd
  refine kt_call_dict hS dd (by rw [← rel.length]; exact z) fun h' dd' sb => ?_
  have fr : H s.heap.objs.size = none := I.fresh
  refine ⟨.ref s.heap.objs.size, _, ?_, rfl, q _ fr⟩
  refine I.laid (fun b o e => (sb.2 b (Nat.ne_of_lt (Heap.lt_size e))).trans (Heap.get?_push_of_some _ e)) (Nat.le_refl _) (dk_new z ?_ rel dd')
  have hb := I.big
  show (s.heap.objs.size == sysModules) = false
  rw [beq_eq_false_iff_ne]
  exact Nat.ne_of_gt hb
theorem mt_update : MtR X "dict.update" (fun x xs H Q => ∃ d o kvs more, x = .ref d ∧ xs = [.ref o] ∧ d ≠ o ∧ H d = some (.dK kvs) ∧ H o = some (.dK more) ∧ kvs.length + more.length ≤ sizeLine ∧ Q .non (upd H d (.dK (mergeK kvs more)))) := by
  intro pins s σ H x xs v us Q I rx rs h
  obtain ⟨d, o, kvs, more, rfl, rfl, hne, hd, ho, hl, q⟩ := h
  cases rx
  obtain ⟨u, rfl, ru⟩ := vals1 rs
  cases ru
  obtain ⟨z1, s1, vs, rel, dd⟩ := dk_of I.hok hd
  obtain ⟨z2, s2, ws, rel2, dd2⟩ := dk_of I.hok ho
  refine call_meetsIn PySem.F.slot_dict_update dd.typeIs PySem.F.entry_dict_update (PySem.F.args_dict_update_2 _ _) (meets_dict_update (mixKind X.prog X.w) d o hne s2) ⟨vs, ws, dd, dd2, by rw [← rel.length, ← rel2.length]; exact hl, fun h' dd' _ sb => ?_⟩
  have he : ∃ q, h'.get? d = some q := let ⟨q, _, _, hq, _⟩ := dd'; ⟨q, hq⟩
  have hl' : (mergeK kvs more).length ≤ sizeLine := Nat.le_trans (length_mergeK more kvs) hl
  exact ⟨.non, _, d_write (t' := s.toks) I (by rw [hd]; exact True.intro) sb he (dk_new hl' s1 (rel2.merge rel) dd'), rfl, q⟩
end
end L2.Internal
namespace L2.Internal
open PySem PySem.Spec PyProof.Rows
section
variable {X : Cx}
end
section
variable {X : Cx} {pins : List (Addr × Obj)} {σ : St} {H : Hp} {s : Shared}
end
section
variable {prog : Program} {w : World} {A : Around} {R : Result → Shared → Prop} {I : Addr} {fp wr : List Addr} {n : Nat} {P : Nat → Value → Prop} {St : Nat → Heap → Prop}
end
section
variable {prog : Program} {w : World} {A : Around} {E : Value → Shared → Prop} {s : Shared} {l : Addr} {xs : Array (Int × Tok)}
end
section
variable {X : Cx}
end
end L2.Internal
namespace L2.Internal
open PySem PySem.Spec PyProof.Rows
section
variable {X : Cx}
end
end L2.Internal
namespace L2.Internal
open PySem PySem.Spec PyProof.Rows
section
variable {prog : Program} {w : World} {A : Around} {s : Shared}
end
section
variable {X : Cx}
end
end L2.Internal
namespace L2.Internal
open PySem PySem.Spec PyProof.Rows
section
variable {X : Cx}
end
end L2.Internal
namespace L2.Internal
open PySem PySem.Spec PyProof.Rows
section
variable {prog : Program} {w : World} {A : Around} {E : Value → Shared → Prop} {h : Heap} {g : Array GenState} {d : Drawn} {t : Nat} {os : OsState} {a D : Addr} {o : Obj} {K : PySem.W.Frag}
structure XCls (K : PySem.W.Frag) (D : Addr) : Prop where
  ga : PySem.W.findIn K (.ref D) "__getattribute__" = some (some (.builtin "BaseException.__getattribute__"))
  gn : PySem.W.findIn K (.ref D) "__getattr__" = some none
  cl : PySem.W.findIn K (.ref D) "__class__" = some (some (.builtin "object.__class__"))
  sb : PySem.W.subIn K (.ref D) (.type "BaseException") = some true
  so : PySem.W.subIn K (.ref D) (.type "object") = some true
  is : PySem.W.hasDictIn K D = true
theorem xc_get {R : Result → Shared → Prop} (X : K.In h) (C : XCls K D) (hx : h.get? a = some o) (hc : o.cls = .ref D) (hq : R (.ok (.ret (.ref D))) ⟨h, g, d, t, os⟩) :
    codeAny (model prog w) A (.call (.builtin "getset_descriptor.__get__") ⟨[.builtin "object.__class__", .ref a, .ref D], []⟩) R ⟨h, g, d, t, os⟩ := by
  have hT5 : (⟨h, g, d, t, os⟩ : Shared).TypeIs (.builtin "object.__class__") "getset_descriptor" := F.typeOf_object_class
  have L := PySem.W.looks_subIn (M := model prog w) X C.so
  refine codeAny_call_builtin F.slot_gs_get.plain F.entry_gs_get (F.slot_gs_get.check _ _ _ _ _ _ _ _ hT5 (F.args_gs_get _ _ _) ?_)
  repeat (any_goals (first | assumption | (with_reducible refine wpAny_loadPart_at hx ?_; rw [hc]) | (rw [F.owner_object_class]) | (with_reducible refine L.at ?_) | wp_step))
  refine ⟨Code.quiet_builtin _ (by decide +kernel), codeAny_builtin F.entry_object_class ?_⟩
  repeat (any_goals (first | assumption | (with_reducible refine wpAny_loadPart_at hx ?_; rw [hc]) | wp_step))
theorem xc_entry {tk : Tok} {Q : Fin → Shared → Prop} (X : K.In h) (C : XCls K D) (hx : h.get? a = some o) (hc : o.cls = .ref D) (hq : Q (.done (.ret (.ref D))) ⟨h, g, d, t, os⟩) :
    wpAny (model prog w) A (Builtin.«object.__getattribute__» ⟨[.ref a, .str "__class__" tk], []⟩) Q E ⟨h, g, d, t, os⟩ := by
  have hT5 : (⟨h, g, d, t, os⟩ : Shared).TypeIs (.builtin "object.__class__") "getset_descriptor" := F.typeOf_object_class
  have f5 := F.typeOf_object_class
  have f6 := F.slot_gs_get.lookup
  have f7 := F.slot_gs_set.lookup
  have L := PySem.W.looks_findIn (M := model prog w) X C.cl
  repeat (any_goals (first | assumption | (with_reducible refine wpAny_loadPart_at hx ?_; rw [hc]) | (with_reducible refine L.at ?_) | wp_step))
  refine xc_get X C hx hc ?_
  repeat (any_goals (first | assumption | wp_step))
theorem xc_check {M : Model} {nameV : Value} {Q : Unit → Shared → Prop} (X : K.In h) (C : XCls K D) (hx : h.get? a = some o) (hc : o.cls = .ref D) (hq : Q () ⟨h, g, d, t, os⟩) : wpAny M A (checkBuiltinCall "BaseException.__getattribute__" ⟨[.ref a, nameV], []⟩) Q E ⟨h, g, d, t, os⟩ := by
  have hk : builtinKind "BaseException.__getattribute__" = some .slot := by decide +kernel
  have hsplit : splitId "BaseException.__getattribute__" = some ("BaseException", "__getattribute__") := by decide +kernel
  have ha := F.args_bexc_ga (.ref a) nameV
  have L := PySem.W.looks_subIn (M := M) X C.sb
  simp only [checkBuiltinCall, hk, hsplit]
  refine wpAny_bind ?_
  · unfold isInstance
    repeat (first | (with_reducible refine wpAny_loadPart_at hx ?_; rw [hc]) | (with_reducible refine L.at ?_) | wp_step)
    exact hq
theorem xc_call {tk : Tok} {R : Result → Shared → Prop} (X : K.In h) (C : XCls K D) (hx : h.get? a = some o) (hc : o.cls = .ref D) (hq : R (.ok (.ret (.ref D))) ⟨h, g, d, t, os⟩) :
    codeAny (model prog w) A (.call (.builtin "BaseException.__getattribute__") ⟨[.ref a, .str "__class__" tk], []⟩) R ⟨h, g, d, t, os⟩ :=
  codeAny_call_builtin F.excAttr_ValueError.ga.plain F.entry_bexc_ga (xc_check X C hx hc (xc_entry X C hx hc hq))
theorem xc_by {tk : Tok} {fill expr : Bool} {Q : Value → Shared → Prop} (X : K.In h) (C : XCls K D) (hx : h.get? a = some o) (hc : o.cls = .ref D) (hq : Q (.ref D) ⟨h, g, d, t, os⟩) :
    wpAny (model prog w) A (getAttrBy (.ref a) (.str "__class__" tk) fill expr) Q E ⟨h, g, d, t, os⟩ := by
  have f3 := F.excAttr_ValueError.ga.bind (.ref a)
  have hx0 : (expr && onTheHeap (Value.builtin "BaseException.__getattribute__")) = false := by cases expr <;> rfl
  have hx2 : (Value.builtin "BaseException.__getattribute__" == Value.builtin "object.__getattribute__") = false := by decide +kernel
  have hx1 : (onTheHeap (Value.ref D) && Value.builtin "BaseException.__getattribute__" == Value.builtin "object.__getattribute__") = false := by rw [hx2]; rfl
  have L1 := PySem.W.looks_findIn (M := model prog w) X C.ga
  have L2.Internal := PySem.W.looks_findIn (M := model prog w) X C.gn
  repeat (any_goals (first | assumption | (with_reducible refine wpAny_loadPart_at hx ?_; rw [hc]) | (with_reducible refine L1.at ?_) | (with_reducible refine L2.Internal.at ?_) | wp_step))
  refine xc_call X C hx hc ?_
  repeat (any_goals (first | assumption | wp_step))
theorem xc_attr {Q : Option Value → Shared → Prop} (X : K.In h) (C : XCls K D) (hx : h.get? a = some o) (hc : o.cls = .ref D) (hq : Q (some (.ref D)) ⟨h, g, d, t + 1, os⟩) : wpAny (model prog w) A (getAttr? (.ref a) "__class__") Q E ⟨h, g, d, t, os⟩ := by
  unfold getAttr? getAttrBy?
  repeat (any_goals (first | assumption | with_reducible apply xc_by X C hx hc | wp_step))
theorem kitx_exc (C : XCls K D) : PySem.W.KitX K (.ref a) (.ref D) (fun h => ∃ o, h.get? a = some o ∧ o.cls = .ref D) where
  ty := fun M h _ ⟨o, e, c⟩ => by
    have z : PySem.W.Looks M h (typeOf (.ref a)) o.cls := (PySem.W.Looks.ld e).andThen .now
    rw [c] at z
    exact z
  it := fun _ _ X _ => by
    obtain ⟨cd, hc, _⟩ := PySem.W.any_some C.is
    unfold PySem.W.clsIn at hc
    split at hc
    · rename_i c' d' cd' sl' ho
      intro A' Q' E' s' k q
      unfold isType loadHead
      exact wpAny_bind (wpAny_loadPart (k _ _ (X _ _ ho)) (wpAny_pure q))
    · cases hc
  ne := fun h tp dd its n sl X htp => by
    obtain ⟨cd, hc, _⟩ := PySem.W.any_some C.is
    refine Bool.eq_false_iff.mpr fun q => ?_
    have e : D = tp := Value.ref.inj (beq_iff_eq.mp q)
    subst e
    unfold PySem.W.clsIn at hc
    split at hc
    · rename_i c' d' cd' sl' ho
      have z := (X _ _ ho).symm.trans htp
      cases z
    · cases hc
  ca := fun {_ _ _ _ _ s} X ⟨o, e, c⟩ k => by
    obtain ⟨h, g, d, t, os⟩ := s
    exact xc_attr X C e c k
end
section
variable {X : Cx}
end
end L2.Internal
namespace L2.Internal
open PySem PySem.Spec PyProof.Rows
open Sem (wp)
noncomputable def DK (h h' : Heap) : Prop := ∀ b o, h.get? b = some o → ∃ o', h'.get? b = some o' ∧ o'.dict = o.dict ∧ o'.cls = o.cls
theorem DK.refl (h : Heap) : DK h h := fun _ o e => ⟨o, e, rfl, rfl⟩
theorem DK.trans {h h1 h2 : Heap} (a : DK h h1) (b : DK h1 h2) : DK h h2 := fun x o e => by
  obtain ⟨o1, e1, d1, c1⟩ := a x o e
  obtain ⟨o2, e2, d2, c2⟩ := b x o1 e1
  exact ⟨o2, e2, d2.trans d1, c2.trans c1⟩
noncomputable def Mild (f : Obj → Obj) : Prop := ∀ o, (f o).dict = o.dict ∧ (f o).cls = o.cls ∧ (o.isFreed = false → (f o).isFreed = false)
theorem DK.upd {h : Heap} {a : Addr} {f : Obj → Obj} (m : Mild f) : DK h (h.update a f) := fun b o e => by
  by_cases q : a = b
  · subst q
    exact ⟨f o, Heap.get?_update_self f e ((m o).2.2 (Heap.get?_some_iff.mp e).2), (m o).1, (m o).2.1⟩
  · exact ⟨o, (Heap.get?_update_other _ f q).trans e, rfl, rfl⟩
theorem DK.push {h : Heap} (o : Obj) : DK h (h.push o) := fun b u e => ⟨u, Heap.get?_push_of_some _ e, rfl, rfl⟩
noncomputable def Tame {α : Type} : Sem α → Prop
  | .pure _ => True
  | .raise _ => True
  | .unsupported _ => True
  | .finish _ => True
  | .rule _ k => Tame (k ())
  | .at _ k => Tame (k ())
  | .load _ _ k => ∀ o, Tame (k o)
  | .update _ _ f k => Mild f ∧ Tame (k ())
  | .loadIfAlive _ k => ∀ o, Tame (k o)
  | .point _ k => Tame (k ())
  | .alloc _ k => ∀ a, Tame (k a)
  | .fresh k => ∀ a, Tame (k a)
  | .ask k => ∀ a, Tame (k a)
  | .stack k => ∀ a, Tame (k a)
  | .handled _ k => ∀ a, Tame (k a)
  | _ => False
theorem tame_bind {α β : Type} {f : α → Sem β} (hf : ∀ a, Tame (f a)) : ∀ {t : Sem α}, Tame t → Tame (t.bind f) := by
  intro t
  induction t with
  | pure a => intro _; exact hf a
  | raise e => intro _; trivial
  | unsupported e => intro _; trivial
  | finish e => intro _; trivial
  | rule t k ih => exact fun h => ih () h
  | «at» p k ih => exact fun h => ih () h
  | load a p k ih => exact fun h o => ih o (h o)
  | update a p g k ih => exact fun h => ⟨h.1, ih () h.2⟩
  | loadIfAlive a k ih => exact fun h o => ih o (h o)
  | point l k ih => exact fun h => ih () h
  | alloc o k ih => exact fun h a => ih a (h a)
  | fresh k ih => exact fun h a => ih a (h a)
  | ask k ih => exact fun h a => ih a (h a)
  | stack k ih => exact fun h a => ih a (h a)
  | handled o k ih => exact fun h a => ih a (h a)
  | _ => intro h; exact absurd h (by unfold Tame; exact fun z => z)
theorem wp_tame {α : Type} {M : Model} {Γ : PySem.Ctx} {t : Sem α} : Tame t → ∀ {Q : α → Pos → Shared → Prop} {E : Value → Pos → Shared → Prop} {p : Pos} {s : Shared}, wp M Γ t Q E p s → wp M Γ t (fun a q s' => Q a q s' ∧ DK s.heap s'.heap) (fun e q s' => E e q s' ∧ DK s.heap s'.heap) p s := by
  induction t with
  | pure a => intro _ Q E p s h; rw [wp] at h ⊢; exact ⟨h, DK.refl _⟩
  | raise e => intro _ Q E p s h; rw [wp] at h ⊢; exact ⟨h, DK.refl _⟩
  | unsupported e => intro _ Q E p s h; rw [wp] at h; exact h.elim
  | finish e => intro _ Q E p s h; rw [wp] at h; exact h.elim
  | rule t k ih => intro m Q E p s h; rw [wp] at h ⊢; exact ih () m h
  | «at» p' k ih => intro m Q E p s h; rw [wp] at h ⊢; exact ih () m h
  | load a pp k ih => intro m Q E p s h; rw [wp] at h ⊢; obtain ⟨o, e, h⟩ := h; exact ⟨o, e, ih o (m o) h⟩
  | update a pp g k ih =>
    intro m Q E p s h
    rw [wp] at h ⊢
    refine ⟨h.1, ?_⟩
    have z := ih () m.2 h.2
    have d : DK s.heap (s.heap.update a g) := DK.upd m.1
    exact Sem.wp_mono _ _ _ (fun a q s' x => ⟨x.1, d.trans x.2⟩) (fun a q s' x => ⟨x.1, d.trans x.2⟩) _ _ z
  | loadIfAlive a k ih => intro m Q E p s h; rw [wp] at h ⊢; exact ih _ (m _) h
  | point l k ih => intro m Q E p s h; rw [wp] at h ⊢; exact ih () m h
  | alloc o k ih =>
    intro m Q E p s h
    rw [wp] at h ⊢
    have z := ih _ (m _) h
    have d : DK s.heap (s.heap.push o) := DK.push o
    exact Sem.wp_mono _ _ _ (fun a q s' x => ⟨x.1, d.trans x.2⟩) (fun a q s' x => ⟨x.1, d.trans x.2⟩) _ _ z
  | fresh k ih => intro m Q E p s h; rw [wp] at h ⊢; exact ih _ (m _) h
  | ask k ih => intro m Q E p s h; rw [wp] at h ⊢; exact ih _ (m _) h
  | stack k ih => intro m Q E p s h; rw [wp] at h ⊢; exact ih _ (m _) h
  | handled o k ih => intro m Q E p s h; rw [wp] at h ⊢; exact ih _ (m _) h
  | _ => intro h; exact absurd h (by unfold Tame; exact fun z => z)
theorem any_tame {α : Type} {M : Model} {A : Around} {t : Sem α} {Q : α → Shared → Prop} {E : Value → Shared → Prop} {s : Shared} (T : Tame t) (h : wpAny M A t Q E s) : wpAny M A t (fun a s' => Q a s' ∧ DK s.heap s'.heap) (fun e s' => E e s' ∧ DK s.heap s'.heap) s := fun Γ p hΓ => wp_tame T (h Γ p hΓ)
theorem tm_bind {α β : Type} {t : Sem α} {f : α → Sem β} (h : Tame t) (hf : ∀ a, Tame (f a)) : Tame (t >>= f) := tame_bind hf h
theorem tm_pure {α : Type} (a : α) : Tame (pure a : Sem α) := trivial
theorem tm_uns {α : Type} (x : String) : Tame (unsupported x : Sem α) := trivial
theorem tm_load (a : Addr) : Tame (load a) := fun _ => trivial
theorem tm_stack : Tame stack := fun _ => trivial
theorem tm_fields (v : Value) : Tame (fieldsOf v) := by
  unfold fieldsOf
  split
  · refine tm_bind (tm_load _) fun o => ?_
    split
    · exact tm_pure _
    · exact tm_uns _
  · exact tm_uns _
theorem tm_field (v : Value) (i : Nat) : Tame (field v i) := by
  unfold field
  refine tm_bind (tm_fields _) fun vs => ?_
  split
  · exact tm_pure _
  · exact tm_uns _
theorem mild_fields (f : Array Value → Array Value) : Mild (Obj.mapFields f) := fun o => by
  obtain ⟨c, d, dt, sl⟩ := o
  cases dt <;> exact ⟨rfl, rfl, fun h => h⟩
theorem tm_setField (v : Value) (i : Nat) (x : Value) : Tame (setField v i x) := by
  unfold setField
  split
  · unfold updateField
    refine tm_bind (tm_load _) fun o => ?_
    split
    · split
      · exact ⟨mild_fields _, trivial⟩
      · exact tm_uns _
    · exact tm_uns _
  · exact tm_uns _
theorem tm_setFlight (e : Value) (o : Option Addr) : Tame (setFlight e o) := by
  unfold setFlight
  refine tm_bind (tm_field _ _) fun tb => ?_
  split
  · exact tm_setField _ _ _
  · exact tm_pure _
theorem tm_import (env : Env) (outer : List Env) : Tame (behindIsImport env outer) := by
  unfold behindIsImport
  repeat (first | exact tm_pure _ | exact tm_field _ _ | refine tm_bind (tm_field _ _) fun _ => ?_ | split)
theorem tm_caller : Tame underTheClaimsCaller := tm_bind tm_stack fun _ => tm_pure _
theorem tm_back (env : Env) (b : Bool) (l : List Env) : Tame (keptBack env b l) := by
  cases l with
  | nil =>
    simp only [keptBack]
    split
    · exact tm_pure _
    · exact tm_bind tm_caller fun _ => tm_pure _
  | cons c l => exact tm_pure _
theorem tm_ready : ∀ l : List Env, Tame (readyFrames l)
  | [] => trivial
  | env :: outer => by
    unfold readyFrames
    split
    · refine tm_bind (tm_load _) fun o => ?_
      split
      · exact tm_pure _
      · refine tm_bind (tm_import _ _) fun b => tm_bind (tm_back _ _ _) fun bk => tm_bind ⟨fun o => ⟨rfl, rfl, fun h => ?_⟩, trivial⟩ fun _ => tm_ready outer
        obtain ⟨c, d, dt, sl⟩ := o
        cases dt <;> exact h
    · exact tm_uns _
theorem tm_frameObj (l : List Env) : Tame (frameObject l) := by
  cases l with
  | nil => trivial
  | cons e l => exact tm_bind (tm_ready _) fun _ => tm_pure _
theorem tm_envs : Tame frameEnvs := tm_bind tm_stack fun _ => tm_pure _
theorem tm_frameOf (env : Env) : Tame (PySem.frameOf env) := by
  unfold PySem.frameOf
  refine tm_bind tm_envs fun l => tm_bind (tm_frameObj _) fun o => ?_
  split
  · exact tm_pure _
  · exact tm_uns _
theorem tm_place (f : Addr) (b : Bool) : Tame (entryPlaceOf f b) := by
  unfold entryPlaceOf
  refine tm_bind tm_stack fun acts => ?_
  split <;> exact tm_pure _
theorem tm_newF (ty : String) (xs : Array Value) : Tame (newObj (.type ty) (.fields xs)) := by
  unfold newObj
  dsimp only
  split
  · trivial
  · exact fun _ => trivial
theorem tm_entry (a b c d e : Value) (l : List Value) : Tame (EntryCells.newEntry a b c d e l) := tm_newF _ _
theorem tm_note (e : Value) (env : Env) : Tame (noteFrame e env) := by
  unfold noteFrame
  split
  · refine tm_bind (tm_field _ _) fun head => ?_
    split
    · refine tm_bind (tm_field _ _) fun x => ?_
      split
      · exact tm_pure _
      · exact tm_bind (tm_setField _ _ _) fun _ => tm_bind (tm_frameOf _) fun _ => tm_bind (tm_place _ _) fun _ => tm_bind (tm_entry _ _ _ _ _ _) fun _ => tm_setField _ _ _
    · exact tm_bind (tm_frameOf _) fun _ => tm_bind (tm_place _ _) fun _ => tm_bind (tm_entry _ _ _ _ _ _) fun _ => tm_setField _ _ _
  · exact tm_uns _
theorem tm_leaving (env : Env) (e : Value) : Tame (leaving env e) := tm_bind (tm_note _ _) fun _ => tm_setFlight _ _
end L2.Internal
namespace L2.Internal
open PySem PySem.Spec PyProof.Rows
section
variable {prog : Program} {w : World} {A : Around} {E : Value → Shared → Prop} {h : Heap} {g : Array GenState} {d : Drawn} {t : Nat} {os : OsState} {a D dx : Addr} {o : Obj} {K : PySem.W.Frag} {name : Str} {v : Value} {mA : Str → Option Value}
theorem cls_at {K : PySem.W.Frag} {D : Addr} {h : Heap} (X : K.In h) (z : PySem.W.hasDictIn K D = true) : ∃ oc cd, h.get? D = some oc ∧ oc.data = .cls cd ∧ cd.hasDict = true := by
  obtain ⟨cd, hc, hh⟩ := PySem.W.any_some z
  unfold PySem.W.clsIn at hc
  split at hc
  · rename_i c' d' cd' sl' ho
    cases hc
    exact ⟨_, _, X _ _ ho, rfl, hh⟩
  · cases hc
theorem xr_entry {tk : Tok} {Q : Fin → Shared → Prop} (X : K.In h) (C : XCls K D) (hn : PySem.W.findIn K (.ref D) name = some none) (hx : h.get? a = some o) (hc : o.cls = .ref D) (hdt : ∀ c, o.data ≠ .cls c) (hd : o.dict = some dx) (hN : h.Ns dx mA) (hv : mA name = some v) (hq : Q (.done (.ret v)) ⟨h, g, d, t, os⟩) :
    wpAny (model prog w) A (Builtin.«object.__getattribute__» ⟨[.ref a, .str name tk], []⟩) Q E ⟨h, g, d, t, os⟩ := by
  have L := PySem.W.looks_findIn (M := model prog w) X hn
  repeat (any_goals (first | assumption | (with_reducible refine wpAny_loadPart_at hx ?_; first | rw [hc] | rw [hd]) | (with_reducible refine L.at ?_) | wp_step))
  split
  · rename_i c z
    exact absurd z (hdt c)
  obtain ⟨oc, cd, eD, hcd, hdc⟩ := cls_at X C.is
  unfold instanceDict
  repeat (any_goals (first | assumption | (with_reducible refine wpAny_loadPart_at hx ?_; rw [hc]) | (with_reducible refine wpAny_load eD ?_; rw [hcd]) | wp_step))
  rw [hd]
  repeat (any_goals (first | assumption | (with_reducible refine wpAny_nsGet hN ?_; rw [hv]) | wp_step))
theorem xr_call {tk : Tok} {R : Result → Shared → Prop} (X : K.In h) (C : XCls K D) (hn : PySem.W.findIn K (.ref D) name = some none) (hx : h.get? a = some o) (hc : o.cls = .ref D) (hdt : ∀ c, o.data ≠ .cls c) (hd : o.dict = some dx) (hN : h.Ns dx mA) (hv : mA name = some v) (hq : R (.ok (.ret v)) ⟨h, g, d, t, os⟩) :
    codeAny (model prog w) A (.call (.builtin "BaseException.__getattribute__") ⟨[.ref a, .str name tk], []⟩) R ⟨h, g, d, t, os⟩ :=
  codeAny_call_builtin F.excAttr_ValueError.ga.plain F.entry_bexc_ga (xc_check X C hx hc (xr_entry X C hn hx hc hdt hd hN hv hq))
theorem xr_by {tk : Tok} {fill expr : Bool} {Q : Value → Shared → Prop} (X : K.In h) (C : XCls K D) (hn : PySem.W.findIn K (.ref D) name = some none) (hx : h.get? a = some o) (hc : o.cls = .ref D) (hdt : ∀ c, o.data ≠ .cls c) (hd : o.dict = some dx) (hN : h.Ns dx mA) (hv : mA name = some v) (hh : PySem.W.handedIn v = true) (hq : Q v ⟨h, g, d, t, os⟩) :
    wpAny (model prog w) A (getAttrBy (.ref a) (.str name tk) fill expr) Q E ⟨h, g, d, t, os⟩ := by
  have f3 := F.excAttr_ValueError.ga.bind (.ref a)
  have hx0 : (expr && onTheHeap (Value.builtin "BaseException.__getattribute__")) = false := by cases expr <;> rfl
  have hx2 : (Value.builtin "BaseException.__getattribute__" == Value.builtin "object.__getattribute__") = false := by decide +kernel
  have hx1 : (onTheHeap (Value.ref D) && Value.builtin "BaseException.__getattribute__" == Value.builtin "object.__getattribute__") = false := by rw [hx2]; rfl
  have L1 := PySem.W.looks_findIn (M := model prog w) X C.ga
  have L2.Internal := PySem.W.looks_findIn (M := model prog w) X C.gn
  repeat (any_goals (first | assumption | (with_reducible refine wpAny_loadPart_at hx ?_; rw [hc]) | (with_reducible refine L1.at ?_) | (with_reducible refine L2.Internal.at ?_) | wp_step))
  refine xr_call X C hn hx hc hdt hd hN hv ?_
  exact PySem.W.handed_on hh hq
theorem xr_attr {expr : Bool} {Q : Value → Shared → Prop} (X : K.In h) (C : XCls K D) (hn : PySem.W.findIn K (.ref D) name = some none) (hx : h.get? a = some o) (hc : o.cls = .ref D) (hdt : ∀ c, o.data ≠ .cls c) (hd : o.dict = some dx) (hN : h.Ns dx mA) (hv : mA name = some v) (hh : PySem.W.handedIn v = true) (hq : Q v ⟨h, g, d, t + 1, os⟩) :
    wpAny (model prog w) A (getAttr (.ref a) name expr) Q E ⟨h, g, d, t, os⟩ := by
  unfold getAttr
  repeat (any_goals (first | assumption | with_reducible apply xr_by X C hn hx hc hdt hd hN hv hh | wp_step))
end
end L2.Internal
namespace L2.Internal
open PySem PySem.Spec PyProof.Rows
open Builtin Builtin.ObjectAttr
section
variable {prog : Program} {w : World} {A : Around} {E : Value → Shared → Prop} {h : Heap} {g : Array GenState} {d : Drawn} {t : Nat} {os : OsState} {a D dx : Addr} {o : Obj} {K : PySem.W.Frag} {name : Str} {v : Value} {mA : Str → Option Value} {cd : ClassData} {vs : Array Value}
structure XSto (K : PySem.W.Frag) (D : Addr) : Prop where
  xc : XCls K D
  sa : PySem.W.findIn K (.ref D) "__setattr__" = some (some (.builtin "object.__setattr__"))
  mro : ∃ cd, PySem.W.clsIn K D = some cd ∧ cd.hasDict = true ∧ ∀ self, refuseLoop self "__setattr__" cd.mro = pure ()
theorem xs_call {tk : Tok} {R : Result → Shared → Prop} (X : K.In h) (C : XSto K D) (hn : PySem.W.findIn K (.ref D) name = some none) (hx : h.get? a = some o) (hc : o.cls = .ref D) (hdt : o.data = .fields vs) (hd : o.dict = none)
    (hq : ∀ h' tk', h'.get? a = some { o with dict := some h.objs.size } → h'.Ns1 h.objs.size (fun y => if y = name then some v else none) → (∀ b ob, b ≠ a → h.get? b = some ob → h'.get? b = some ob) → R (.ok (.ret .none)) ⟨h', g, d, tk', os⟩) :
    codeAny (model prog w) A (.call (.builtin "object.__setattr__") ⟨[.ref a, .str name tk, v], []⟩) R ⟨h, g, d, t, os⟩ := by
  obtain ⟨cd, hcd, hdc, hr⟩ := C.mro
  have SF := PySem.F.store_ValueError
  have LT : ∀ M : Model, PySem.W.Looks M h (typeOf (.ref a)) (.ref D) := fun M => by
    have z : PySem.W.Looks M h (typeOf (.ref a)) o.cls := (PySem.W.Looks.ld hx).andThen .now
    rw [hc] at z
    exact z
  have sub : PySem.W.Looks (model prog w) h (isInstance (.ref a) (.type "object")) true := (LT _).andThen (PySem.W.looks_subIn X C.xc.so)
  refine codeAny_call_builtin SF.slot.plain SF.entry (@PySem.W.check_slot (model prog w) _ _ ⟨h, g, d, t, os⟩ "object.__setattr__" "object" "__setattr__" (.ref a) [.str name tk, v] [] _ SF.kind SF.split sub (SF.args (.ref a) (.str name tk) v) ?_)
  have hm : PySem.W.Looks (model prog w) h (mroOf (.ref D)) cd.mro := (PySem.W.looks_clsIn X hcd).andThen .now
  rw [PySem.W.osa_eq, refuse_eq]
  refine wpAny_bind (wpAny_bind ((LT _).here (wpAny_bind (hm.here ?_))))
  rw [hr]
  refine wpAny_pure (wpAny_bind ((LT _).here (wpAny_bind ((PySem.W.looks_findIn X hn).here (wpAny_bind (wpAny_pure ?_))))))
  obtain ⟨oc, cd', eD, hcd', hdc'⟩ := cls_at X C.xc.is
  show wpAny _ _ (storeInOwnDict (.ref a) (.ref D) (.str name tk) name v false) _ _ _
  unfold storeInOwnDict ownDictForStores
  repeat (any_goals (first | assumption | (with_reducible refine wpAny_loadPart_at hx ?_; rw [hc]) | (with_reducible refine wpAny_load eD ?_; rw [hcd']) | wp_step))
  rw [hd]
  dsimp only
  rw [if_neg (show ¬ (!true || !typeHasDict (Value.ref D)) = true from by simp [typeHasDict]), hdt]
  have ea : a ≠ h.objs.size := Nat.ne_of_lt (Heap.lt_size hx)
  have e1 : (h.push { cls := .type "dict", data := .dict #[] }).get? a = some o := Heap.get?_push_of_some _ hx
  refine wpAny_bind (wpAny_alloc' (wpAny_bind (wpAny_update' e1 ?_)))
  generalize hh : (h.push { cls := .type "dict", data := .dict #[] }).update a (fun o => { cls := o.cls, dict := some h.objs.size, data := o.data, slots := o.slots }) = h2
  have fo : ({ cls := o.cls, dict := some h.objs.size, data := o.data, slots := o.slots } : Obj).isFreed = false := by
    obtain ⟨q1, q2, q3, q4⟩ := o
    dsimp only at hdt
    rw [hdt]
    rfl
  have g1 : h2.get? a = some { cls := o.cls, dict := some h.objs.size, data := o.data, slots := o.slots } := by rw [← hh]; exact Heap.get?_update_self _ e1 fo
  have g2 : h2.get? h.objs.size = some { cls := .type "dict", data := .dict #[] } := by rw [← hh, Heap.get?_update_other _ _ ea]; exact Heap.get?_push_size _ rfl
  have g3 : ∀ b ob, b ≠ a → h.get? b = some ob → h2.get? b = some ob := fun b ob n q => by rw [← hh, Heap.get?_update_other _ _ n.symm]; exact Heap.get?_push_of_some _ q
  have n1 : h2.Ns h.objs.size (fun _ => none) := ⟨_, #[], _, g2, rfl, fun e he => absurd he (by simp), fun _ => rfl⟩
  refine wpAny_pure (a := some h.objs.size) ?_
  show wpAny _ _ (storeInDict h.objs.size (.str name tk) name v) _ _ _
  unfold storeInDict newKeyGuard
  refine wpAny_bind (wpAny_pure (wpAny_bind (wpAny_nsSet1 (Heap.Ns1.of_empty n1) fun h3 n3 sb => ?_)))
  obtain ⟨oD, es, ep, k1, k2, k3⟩ := n3.count (Within.cons name v Within.nil)
  refine wpAny_bind (wpAny_lookBehind k1 (by rw [k2]; exact pastItsLine_dict (Nat.le_trans k3 (by rw [sizeLine_eq, List.length_cons, List.length_nil]; omega))) ?_)
  refine wpAny_pure (hq h3 _ ?_ ?_ fun b ob n q => (sb.2 b (Nat.ne_of_lt (Heap.lt_size q))).trans (g3 b ob n q))
  · rw [sb.2 a ea, g1]
  · exact n3
theorem xs_call2 {tk : Tok} {R : Result → Shared → Prop} {ns : List Str} (X : K.In h) (C : XSto K D) (hn : PySem.W.findIn K (.ref D) name = some none) (hx : h.get? a = some o) (hc : o.cls = .ref D) (hd : o.dict = some dx) (hN : h.Ns1 dx mA) (hne : dx ≠ a) (hw : Within mA ns) (hl : ns.length ≤ 100)
    (hq : ∀ h' tk', h'.Ns1 dx (fun y => if y = name then some v else mA y) → (∀ b ob, b ≠ dx → h.get? b = some ob → h'.get? b = some ob) → R (.ok (.ret .none)) ⟨h', g, d, tk', os⟩) :
    codeAny (model prog w) A (.call (.builtin "object.__setattr__") ⟨[.ref a, .str name tk, v], []⟩) R ⟨h, g, d, t, os⟩ := by
  obtain ⟨cd, hcd, hdc, hr⟩ := C.mro
  have SF := PySem.F.store_ValueError
  have LT : ∀ M : Model, PySem.W.Looks M h (typeOf (.ref a)) (.ref D) := fun M => by
    have z : PySem.W.Looks M h (typeOf (.ref a)) o.cls := (PySem.W.Looks.ld hx).andThen .now
    rw [hc] at z
    exact z
  have sub : PySem.W.Looks (model prog w) h (isInstance (.ref a) (.type "object")) true := (LT _).andThen (PySem.W.looks_subIn X C.xc.so)
  refine codeAny_call_builtin SF.slot.plain SF.entry (@PySem.W.check_slot (model prog w) _ _ ⟨h, g, d, t, os⟩ "object.__setattr__" "object" "__setattr__" (.ref a) [.str name tk, v] [] _ SF.kind SF.split sub (SF.args (.ref a) (.str name tk) v) ?_)
  have hm : PySem.W.Looks (model prog w) h (mroOf (.ref D)) cd.mro := (PySem.W.looks_clsIn X hcd).andThen .now
  rw [PySem.W.osa_eq, refuse_eq]
  refine wpAny_bind (wpAny_bind ((LT _).here (wpAny_bind (hm.here ?_))))
  rw [hr]
  refine wpAny_pure (wpAny_bind ((LT _).here (wpAny_bind ((PySem.W.looks_findIn X hn).here (wpAny_bind (wpAny_pure ?_))))))
  obtain ⟨oc, cd', eD, hcd', hdc'⟩ := cls_at X C.xc.is
  show wpAny _ _ (storeInOwnDict (.ref a) (.ref D) (.str name tk) name v false) _ _ _
  unfold storeInOwnDict ownDictForStores
  repeat (any_goals (first | assumption | (with_reducible refine wpAny_loadPart_at hx ?_; rw [hc]) | (with_reducible refine wpAny_load eD ?_; rw [hcd']) | wp_step))
  rw [hd]
  refine wpAny_pure (a := some dx) ?_
  show wpAny _ _ (storeInDict dx (.str name tk) name v) _ _ _
  unfold storeInDict newKeyGuard
  refine wpAny_bind (wpAny_pure (wpAny_bind (wpAny_nsSet1 hN fun h3 n3 sb => ?_)))
  obtain ⟨oD, es, ep, k1, k2, k3⟩ := n3.count (Within.cons name v hw)
  refine wpAny_bind (wpAny_lookBehind k1 (by rw [k2]; exact pastItsLine_dict (Nat.le_trans k3 (by rw [sizeLine_eq, List.length_cons]; omega))) ?_)
  exact wpAny_pure (hq h3 _ n3 fun b ob n q => (sb.2 b n).trans q)
theorem xs_attr {Q : Unit → Shared → Prop} (X : K.In h) (C : XSto K D) (hn : PySem.W.findIn K (.ref D) name = some none) (hx : h.get? a = some o) (hc : o.cls = .ref D) (hdt : o.data = .fields vs) (hd : o.dict = none)
    (hq : ∀ h' tk', h'.get? a = some { o with dict := some h.objs.size } → h'.Ns1 h.objs.size (fun y => if y = name then some v else none) → (∀ b ob, b ≠ a → h.get? b = some ob → h'.get? b = some ob) → Q () ⟨h', g, d, tk', os⟩) :
    wpAny (model prog w) A (setAttr (.ref a) name v) Q E ⟨h, g, d, t, os⟩ := by
  have f3 := PySem.F.store_ValueError.slot.bind (.ref a)
  have L := PySem.W.looks_findIn (M := model prog w) X C.sa
  unfold setAttr callSpecial? specialOf
  repeat (any_goals (first | assumption | (with_reducible refine wpAny_loadPart_at hx ?_; rw [hc]) | (with_reducible refine L.at ?_) | wp_step))
  refine xs_call X C hn hx hc hdt hd fun h' tk' k1 k2 k3 => ?_
  repeat (any_goals (first | assumption | wp_step))
  exact hq h' tk' k1 k2 k3
theorem xs_attr2 {Q : Unit → Shared → Prop} {ns : List Str} (X : K.In h) (C : XSto K D) (hn : PySem.W.findIn K (.ref D) name = some none) (hx : h.get? a = some o) (hc : o.cls = .ref D) (hd : o.dict = some dx) (hN : h.Ns1 dx mA) (hne : dx ≠ a) (hw : Within mA ns) (hl : ns.length ≤ 100)
    (hq : ∀ h' tk', h'.Ns1 dx (fun y => if y = name then some v else mA y) → (∀ b ob, b ≠ dx → h.get? b = some ob → h'.get? b = some ob) → Q () ⟨h', g, d, tk', os⟩) :
    wpAny (model prog w) A (setAttr (.ref a) name v) Q E ⟨h, g, d, t, os⟩ := by
  have f3 := PySem.F.store_ValueError.slot.bind (.ref a)
  have L := PySem.W.looks_findIn (M := model prog w) X C.sa
  unfold setAttr callSpecial? specialOf
  repeat (any_goals (first | assumption | (with_reducible refine wpAny_loadPart_at hx ?_; rw [hc]) | (with_reducible refine L.at ?_) | wp_step))
  refine xs_call2 X C hn hx hc hd hN hne hw hl fun h' tk' k1 k2 => ?_
  repeat (any_goals (first | assumption | wp_step))
  exact hq h' tk' k1 k2
end
end L2.Internal
namespace L2.Internal
open PySem PySem.Spec PyProof.Rows
section
variable {prog : Program} {w : World} {A : Around} {E : Value → Shared → Prop} {h : Heap} {g : Array GenState} {d : Drawn} {t : Nat} {os : OsState}
variable {nm q : Str} {C N : Addr} {bs bm bmB : List Value} {hdct : Bool} {sn : List Str} {sub : List Value} {ab : Bool} {col : Option Bool} {dd : Option Addr} {k0 k1 k2 k3 k5 : Option Value} {B newId initId : String}
theorem xi_type {mN : Str → Option Value} {rest : List Value} {fI : Addr} {oI : Obj} {Q : Fin → Shared → Prop} (F : ExcBaseFacts B newId initId bmB) (T : OwnTail h bmB bm)
    (eC : h.get? C = some (excClassObj nm q C N bs bm hdct sn sub ab col dd k0 k1 k2 k3 k5 newId)) (hn : h.Ns N mN) (hi : mN "__init__" = some (.ref fI)) (ho : h.get? fI = some oI) (hf : oI.cls = .type "function") (hl : rest.length ≤ sizeLine)
    (hq : ∀ h' e, Heap.MadeExcOf h h' e (.ref C) rest → wpAny (model prog w) A (call (.ref fI) (.ref e :: rest)) (fun r s' => r = .none ∧ Q (.done (.ret (.ref e))) s') E ⟨h', g, d, t, os⟩) :
    wpAny (model prog w) A (Builtin.«type.__call__» ⟨.ref C :: rest, []⟩) Q E ⟨h, g, d, t, os⟩ := by
  repeat (first | with_reducible refine wpAny_loadPart_at eC ?_ | with_reducible refine wpAny_madeBy_exc eC ?_ | wp_step)
  refine codeAny_call_builtin_code (Code.quiet_builtin _ F.quiet) (wpAny_check_new_subT F T eC (codeAny_exc_new_subT F T eC ?_ hl))
  have up : ∀ b u, h.get? b = some u → ((h.push { cls := .type "tuple", data := .seq rest.toArray }).push { cls := .ref C, data := .fields #[.ref h.objs.size, .none, .none, .none, .bool false, .none] }).get? b = some u := fun b u e => Heap.get?_push_of_some _ (Heap.get?_push_of_some _ e)
  have ee : ((h.push { cls := .type "tuple", data := .seq rest.toArray }).push { cls := .ref C, data := .fields #[.ref h.objs.size, .none, .none, .none, .bool false, .none] }).get? (h.objs.size + 1) = some { cls := .ref C, data := .fields #[.ref h.objs.size, .none, .none, .none, .bool false, .none] } := by
    have z := Heap.get?_push_size (h.push { cls := .type "tuple", data := .seq rest.toArray }) (o := { cls := .ref C, data := .fields #[.ref h.objs.size, .none, .none, .none, .bool false, .none] }) rfl
    rwa [Heap.size_push] at z
  have et : ((h.push { cls := .type "tuple", data := .seq rest.toArray }).push { cls := .ref C, data := .fields #[.ref h.objs.size, .none, .none, .none, .bool false, .none] }).get? h.objs.size = some { cls := .type "tuple", data := .seq rest.toArray } := Heap.get?_push_of_some _ (Heap.get?_push_size _ rfl)
  show wpAny _ _ _ _ _ _
  generalize hg : (h.push { cls := .type "tuple", data := .seq rest.toArray }).push { cls := .ref C, data := .fields #[.ref h.objs.size, .none, .none, .none, .bool false, .none] } = h2 at up ee et
  have n2 : h2.Ns N mN := by
    obtain ⟨o, es, ep, e, r⟩ := hn
    exact ⟨o, es, ep, up _ _ e, r⟩
  have cc : (Value.ref C :: bm).contains (.ref C) = true := by simp
  unfold isInstance
  repeat (first | with_reducible refine wpAny_loadPart_at ee ?_ | (with_reducible refine wpAny_isSubtype_exc (up _ _ eC) ?_; rw [cc]) | wp_step)
  show wpAny _ _ (typeLookup (Value.ref C) _) _ _ _
  refine wpAny_typeLookup_tail (up _ _ eC) n2 (T.keeps up) F.mroIs F.init.lookup ?_
  rw [hi]
  refine wpAny_holding (wpAny_bind ?_); unfold bindSpecial
  refine wpAny_bind (wpAny_typeOf (T := "function") ⟨_, up _ _ ho, hf⟩ ?_)
  rw [if_pos (by decide)]
  refine wpAny_pure (wpAny_bind (wpAny_mono (hq h2 (h.objs.size + 1) ⟨up, Heap.get?_none_of_le (Nat.le_succ _), h.objs.size, ee, Heap.get?_none_of_le (Nat.le_refl _), et⟩) (fun r s' hr => ?_) fun _ _ z => z))
  obtain ⟨rfl, hQ⟩ := hr
  wp_walk
  exact hQ
theorem xi_call {mN : Str → Option Value} {rest : List Value} {fI : Addr} {oI : Obj} {Q : Value → Shared → Prop} (F : ExcBaseFacts B newId initId bmB) (T : OwnTail h bmB bm)
    (eC : h.get? C = some (excClassObj nm q C N bs bm hdct sn sub ab col dd k0 k1 k2 k3 k5 newId)) (hn : h.Ns N mN) (hi : mN "__init__" = some (.ref fI)) (ho : h.get? fI = some oI) (hf : oI.cls = .type "function") (hl : rest.length ≤ sizeLine)
    (hq : ∀ h' e, Heap.MadeExcOf h h' e (.ref C) rest → wpAny (model prog w) (A.under (.builtin "type.__call__" ⟨.ref C :: rest, []⟩)) (call (.ref fI) (.ref e :: rest)) (fun r s' => r = .none ∧ Q (.ref e) s') E ⟨h', g, d, t, os⟩) :
    wpAny (model prog w) A (call (.ref C) rest) Q E ⟨h, g, d, t, os⟩ := by
  have f1 := tc_lookup
  have f2 := tc_bind (.ref C)
  have ty : (⟨h, g, d, t, os⟩ : Shared).TypeIs (.ref C) "type" := ⟨_, eC, rfl⟩
  refine wpAny_call (codeAny_of_tree ?_)
  show wpAny _ _ (callAny (Value.ref C) _) _ _ _
  repeat (any_goals (first | assumption | with_reducible refine wpAny_loadPart_at eC ?_ | wp_step))
  refine ⟨rfl, ?_⟩
  exact codeAny_call_builtin_at (Code.quiet_builtin _ (by decide +kernel)) entry_typeCall (wpAny_check_type_call_sub eC (xi_type F T eC hn hi ho hf hl fun h' e hm => hq h' e hm))
end
section
variable {prog : Program} {w : World} {A : Around} {E : Value → Shared → Prop} {s : Shared} {env : Env}
variable {nm q : Str} {C N : Addr} {bs bm bmB : List Value} {hdct : Bool} {sn : List Str} {sub : List Value} {ab : Bool} {col : Option Bool} {dd : Option Addr} {k0 k1 k2 k3 k5 : Option Value} {B newId initId : String}
theorem xi_stmt {x : Sem Value} {Q : Flow → Shared → Prop} (hb : bm.contains (.type "BaseException") = true) (hh : A.handled = none)
    (h : wpAny (model prog w) A x (fun v s1 => ∃ e oe, v = .ref e ∧ s1.heap.get? C = some (excClassObj nm q C N bs bm hdct sn sub ab col dd k0 k1 k2 k3 k5 newId) ∧ s1.heap.get? e = some oe ∧ oe.cls = .ref C ∧ (∃ vs, oe.data = .fields vs ∧ vs[1]? = some .none) ∧ E (.ref e) s1) E s) :
    wpAny (model prog w) A (raiseStmt env (some x) none) Q E s := by
  have hB : (Value.ref C :: bm).contains (.type "BaseException") = true := by rw [List.contains_cons, hb]; exact Bool.or_true _
  unfold raiseStmt
  refine wpAny_bind (wpAny_mono h (fun v s1 h1 => ?_) fun _ _ z => z)
  obtain ⟨e, oe, rfl, eC, he, hc, ⟨vs, hv, h1⟩, hE⟩ := h1
  obtain ⟨hp, g, d, tk, os⟩ := s1
  obtain ⟨oc, od, odt, osl⟩ := oe
  dsimp only at hc hv
  subst hc hv
  repeat (first | with_reducible refine wpAny_loadPart_at he ?_ | with_reducible refine wpAny_loadPart_at eC ?_ | (with_reducible refine wpAny_isSubtype_exc eC ?_; rw [hB]) | wp_step)
  rw [h1]
  refine wpAny_pure ?_
  rw [if_neg (by decide)]
  exact wpAny_pure (wpAny_raiseNew_none hh hE)
theorem xi_raise {mN : Str → Option Value} {x : Str} {np cpos pos : Pos} {args : List Expr} {Q : Flow → Shared → Prop} {fI : Addr} (F : ExcBaseFacts B newId initId bmB)
    (hb : bm.contains (.type "BaseException") = true) (hh : A.handled = none) (hp : (backTo cpos (starEach args env)).any (·.1) = false) (hi : mN "__init__" = some (.ref fI))
    (h : wpAny (model prog w) A (eval (.Name x np) env) (fun f s1 => f = .ref C ∧ wpAny (model prog w) A (evalArgs (.ref C) true (backTo cpos (starEach args env)) [])
      (fun a s2 => a.kw = [] ∧ a.pos.length ≤ sizeLine ∧ s2.heap.get? C = some (excClassObj nm q C N bs bm hdct sn sub ab col dd k0 k1 k2 k3 k5 newId) ∧ s2.heap.Ns N mN ∧ OwnTail s2.heap bmB bm ∧ (∃ oI, s2.heap.get? fI = some oI ∧ oI.cls = .type "function") ∧
        ∀ h' e, Heap.MadeExcOf s2.heap h' e (.ref C) a.pos → wpAny (model prog w) (A.under (.builtin "type.__call__" ⟨.ref C :: a.pos, []⟩)) (call (.ref fI) (.ref e :: a.pos)) (fun r s3 => r = .none ∧ s3.heap.get? C = some (excClassObj nm q C N bs bm hdct sn sub ab col dd k0 k1 k2 k3 k5 newId) ∧ (∃ oe, s3.heap.get? e = some oe ∧ oe.cls = .ref C ∧ ∃ vs, oe.data = .fields vs ∧ vs[1]? = some .none) ∧ E (.ref e) s3) E { s2 with heap := h' }) E s1) E s) :
    wpAny (model prog w) A (exec (.Raise (some (.Call (.Name x np) args [] cpos)) none pos) env) Q E s := by
  rw [arm_exec_Raise]
  refine wpAny_bind (wpAny_standAt (xi_stmt (C := C) (nm := nm) (q := q) (N := N) (bs := bs) (bm := bm) (hdct := hdct) (sn := sn) (sub := sub) (ab := ab) (col := col) (dd := dd) (k0 := k0) (k1 := k1) (k2 := k2) (k3 := k3) (k5 := k5) (newId := newId) hb hh ?_))
  refine wpAny_bind (wpAny_mono (wpAny_Call_ofName (wpAny_mono h (fun f s1 h1 => ?_) fun _ _ z => z)) (fun v s3 h3 => wpAny_bind (wpAny_standAt (wpAny_pure h3))) fun _ _ z => z)
  obtain ⟨rfl, h1⟩ := h1
  unfold callWith
  refine wpAny_bind (wpAny_holding (wpAny_mono h1 (fun a s2 h2 => wpAny_bind (wpAny_standAt ?_)) fun _ _ z => z))
  obtain ⟨ap, ak⟩ := a
  obtain ⟨hk, hl, eC, hn, T, ⟨oI, e1, e2⟩, h2⟩ := h2
  obtain rfl : ak = [] := hk
  obtain ⟨hp2, g, d, tk, os⟩ := s2
  simp only [hp]
  refine wpAny_bind (wpAny_keeperOf_exc eC ?_)
  refine wpAny_bind (xi_call F T eC hn hi e1 e2 hl fun h' e hm => wpAny_mono (h2 h' e hm) (fun r s3 z => ⟨z.1, ?_⟩) fun _ _ z => z)
  obtain ⟨_, z1, ⟨oe, z2, z3, z4⟩, z5⟩ := z
  exact wpAny_bind (wpAny_holding (wpAny_point (wpAny_pure ⟨e, oe, rfl, z1, z2, z3, z4, z5⟩)))
end
end L2.Internal
namespace L2.Internal
open PySem PySem.Spec PyProof.Rows
noncomputable def rawX (a C : Addr) : HO := .ext fun h => ∃ o vs, h.get? a = some o ∧ o.cls = .ref C ∧ o.dict = none ∧ o.data = .fields vs ∧ vs[1]? = some .none ∧ ∃ a0, vs[0]? = some a0
noncomputable def excM (a C dx : Addr) : HO := .ext fun h => ∃ o vs, h.get? a = some o ∧ o.cls = .ref C ∧ o.dict = some dx ∧ o.data = .fields vs ∧ vs[1]? = some .none ∧ ∃ a0, vs[0]? = some a0
noncomputable def excD (a C dx : Addr) : HO := .ext fun h => ∃ o vs, h.get? a = some o ∧ o.cls = .ref C ∧ o.dict = some dx ∧ o.data = .fields vs
noncomputable def dicX (dx : Addr) (fs : List (Str × V)) : HO := .ext fun h => fs.length ≤ 50 ∧ ∃ mA, h.Ns1 dx mA ∧ (∀ f, RelO (fs.lookup f) (mA f)) ∧ Within mA (fs.map (·.1))
section
variable {P : Program} {w : World} {H : Hp} {h : Heap} {a C dx : Addr}
theorem rawX_ok {o : Obj} {vs : Array Value} {a0 : Value} (e : h.get? a = some o) (c : o.cls = .ref C) (d : o.dict = none) (t : o.data = .fields vs) (n : vs[1]? = some .none) (z : vs[0]? = some a0) : ObjOk P w H h a (rawX a C) :=
  ⟨⟨o, vs, e, c, d, t, n, a0, z⟩, ⟨o, e⟩, fun h1 h2 ⟨o1, v1, e1, r⟩ k => ⟨o1, v1, k o1 e1, r⟩⟩
theorem excM_ok {o : Obj} {vs : Array Value} {a0 : Value} (e : h.get? a = some o) (c : o.cls = .ref C) (d : o.dict = some dx) (t : o.data = .fields vs) (n : vs[1]? = some .none) (z : vs[0]? = some a0) : ObjOk P w H h a (excM a C dx) :=
  ⟨⟨o, vs, e, c, d, t, n, a0, z⟩, ⟨o, e⟩, fun h1 h2 ⟨o1, v1, e1, r⟩ k => ⟨o1, v1, k o1 e1, r⟩⟩
theorem excD_ok {o : Obj} {vs : Array Value} (e : h.get? a = some o) (c : o.cls = .ref C) (d : o.dict = some dx) (t : o.data = .fields vs) : ObjOk P w H h a (excD a C dx) :=
  ⟨⟨o, vs, e, c, d, t⟩, ⟨o, e⟩, fun h1 h2 ⟨o1, v1, e1, r⟩ k => ⟨o1, v1, k o1 e1, r⟩⟩
theorem dicX_ok {fs : List (Str × V)} {mA : Str → Option Value} (hl : fs.length ≤ 50) (n : h.Ns1 dx mA) (r : ∀ f, RelO (fs.lookup f) (mA f)) (wi : Within mA (fs.map (·.1))) : ObjOk P w H h dx (dicX dx fs) := by
  refine ⟨⟨hl, mA, n, r, wi⟩, ?_, fun h1 h2 ⟨hl, m1, n1, r1, w1⟩ k => ⟨hl, m1, ?_, r1, w1⟩⟩
  · obtain ⟨o, es, ep, e, _⟩ := n
    exact ⟨o, e⟩
  · obtain ⟨o, es, ep, e, z⟩ := n1
    exact ⟨o, es, ep, k o e, z⟩
end
section
variable {X : Cx} {pins : List (Addr × Obj)} {σ : St} {H : Hp} {s : Shared} {A : Around} {E : Value → Shared → Prop} {a C dx : Addr} {f : Str} {fs : List (Str × V)}
theorem Inv.newAddr (I : Inv X pins σ H s) {b : Addr} (hb : s.heap.get? b = none) : X.s₀.heap.get? b = none ∧ b ≠ X.env.locals ∧ (∀ x c, X.env.cells.lookup x = some c → c ≠ b) ∧ (∀ p ∈ X.pn ++ pins, p.1 ≠ b) ∨ b ∈ X.ex := by
  by_cases hx : b ∈ X.ex
  · exact .inr hx
  refine .inl ⟨?_, ?_, ?_, ?_⟩
  · cases z : X.s₀.heap.get? b with
    | none => rfl
    | some o =>
      obtain ⟨o1, e1⟩ := I.base.there b o z hx
      rw [hb] at e1
      cases e1
  · intro z
    obtain ⟨m, ⟨o, _, _, ho, _⟩, _⟩ := I.loc
    rw [← z, hb] at ho
    cases ho
  · intro x c e z
    obtain ⟨v, o, ho, _⟩ := I.cell x c e
    rw [z, hb] at ho
    cases ho
  · intro p hp z
    have e := (I.pin p hp).1
    rw [z, hb] at e
    cases e
theorem setx1 {y : V} {u : Value} {Q : Unit → Shared → Prop} (I : Inv X pins σ H s) (hex : X.ex = []) (e : H a = some (rawX a C)) (c : XSto X.K C) (n : PySem.W.findIn X.K (.ref C) f = some none) (ry : RelV y u)
    (h : ∀ dx s', H dx = none → dx ≠ a → Inv X pins σ (upd (upd H a (excM a C dx)) dx (dicX dx [(f, y)])) s' → Q () s') : wpAny (model X.prog X.w) A (setAttr (.ref a) f u) Q E s := by
  obtain ⟨⟨o, vs, eo, ec, ed, et, en, a0, e0⟩, _, _⟩ := (show ObjOk X.prog X.w H s.heap a (rawX a C) from I.hok a _ e)
  obtain ⟨hp, g, d, t, os⟩ := s
  have fr : H hp.objs.size = none := I.hok.fresh (Nat.le_refl _)
  refine xs_attr I.kIn c n eo ec et ed fun h' tk' k1 k2 k3 => ?_
  have na : hp.objs.size ≠ a := (Nat.ne_of_lt (Heap.lt_size eo)).symm
  have hn : hp.get? hp.objs.size = none := Heap.get?_none_of_le (Nat.le_refl _)
  have I1 : Inv X pins σ (upd H a (excM a C hp.objs.size)) ⟨h', g, d, tk', os⟩ := I.write (x := a) (e := a) (by rw [e]; exact True.intro) (.inl rfl) (fun b q hb z => k3 b q hb z) ⟨_, k1⟩ (excM_ok k1 ec rfl et en e0)
  rcases I.newAddr hn with ⟨z1, z2, z3, z4⟩ | z
  · refine h hp.objs.size _ fr na (I1.track (by rw [upd_ne na]; exact fr) z1 z2 z3 z4 (dicX_ok (by show 1 ≤ 50; decide) k2 (fun g => ?_) ?_))
    · show RelO (List.lookup g [(f, y)]) (if g = f then some u else none)
      by_cases q : g = f
      · subst q
        rw [if_pos rfl, List.lookup_cons, beq_self_eq_true]
        exact ry
      · rw [if_neg q, List.lookup_cons, show (g == f) = false from beq_eq_false_iff_ne.mpr q]
        trivial
    · exact Within.cons f u Within.nil
  · rw [hex] at z; cases z
theorem setx2 {y : V} {u : Value} {Q : Unit → Shared → Prop} (I : Inv X pins σ H s) (e : H a = some (excM a C dx)) (ed : H dx = some (dicX dx fs)) (hne : dx ≠ a) (hl : fs.length < 40) (c : XSto X.K C) (n : PySem.W.findIn X.K (.ref C) f = some none) (ry : RelV y u)
    (h : ∀ s', Inv X pins σ (upd H dx (dicX dx (putF f y fs))) s' → Q () s') : wpAny (model X.prog X.w) A (setAttr (.ref a) f u) Q E s := by
  obtain ⟨⟨o, vs, eo, ec, edd, et, en, a0, e0⟩, _, _⟩ := (show ObjOk X.prog X.w H s.heap a (excM a C dx) from I.hok a _ e)
  obtain ⟨⟨_, mA, nA, r, wi⟩, _, _⟩ := (show ObjOk X.prog X.w H s.heap dx (dicX dx fs) from I.hok dx _ ed)
  obtain ⟨hp, g, d, t, os⟩ := s
  refine xs_attr2 I.kIn c n eo ec edd nA hne wi (by rw [List.length_map]; omega) fun h' tk' k1 k2 => h _ ?_
  have hd : ∃ o, h'.get? dx = some o := let ⟨o, _, _, e', _⟩ := k1; ⟨o, e'⟩
  refine I.write (x := dx) (e := dx) (by rw [ed]; exact True.intro) (.inl rfl) (fun b q hb z => k2 b q hb z) hd (dicX_ok ?_ k1 (fun g => ?_) fun g hg => ?_)
  · have := length_putF f y fs; omega
  · show RelO ((putF f y fs).lookup g) (if g = f then some u else mA g)
    rw [lookup_putF]
    by_cases q : g = f
    · rw [if_pos q, if_pos q]; exact ry
    · rw [if_neg q, if_neg q]; exact r g
  · by_cases q : g = f
    · rw [q]; exact (keys_putF f y fs).1
    · refine (keys_putF f y fs).2 g (wi g fun z => hg ?_)
      show (if g = f then some u else mA g) = none
      rw [if_neg q]; exact z
theorem getx {v : V} {ex : Bool} {Q : Value → Shared → Prop} (I : Inv X pins σ H s) (e : H a = some (excD a C dx)) (ed : H dx = some (dicX dx fs)) (c : XCls X.K C) (n : PySem.W.findIn X.K (.ref C) f = some none) (l : fs.lookup f = some v)
    (h : ∀ u s', Inv X pins σ H s' → RelV v u → Q u s') : wpAny (model X.prog X.w) A (getAttr (.ref a) f ex) Q E s := by
  obtain ⟨⟨o, vs, eo, ec, edd, et⟩, _, _⟩ := (show ObjOk X.prog X.w H s.heap a (excD a C dx) from I.hok a _ e)
  obtain ⟨⟨_, mA, nA, r, wi⟩, _, _⟩ := (show ObjOk X.prog X.w H s.heap dx (dicX dx fs) from I.hok dx _ ed)
  obtain ⟨hp, g, d, t, os⟩ := s
  have rf := r f
  rw [l] at rf
  obtain ⟨u, hu, ru⟩ : ∃ u, mA f = some u ∧ RelV v u := by
    cases z : mA f with
    | none => rw [z] at rf; exact rf.elim
    | some u => rw [z] at rf; exact ⟨u, rfl, rf⟩
  exact xr_attr I.kIn c n eo ec (fun c z => by rw [et] at z; cases z) edd nA.ns hu (handed_of ru) (h u _ (I.tok _) ru)
end
section
variable {X : Cx} {o value e : Expr} {ta tv : TE} {f : Str} {pos pos' : Pos}
noncomputable def sFldX1 (K : PySem.W.Frag) (ta tv : TE) (f : Str) : TS := fun D σ H => tv σ H fun y H1 => ta σ H1 fun x H2 => ∃ a C, x = .ref a ∧ H2 a = some (rawX a C) ∧ XSto K C ∧ PySem.W.findIn K (.ref C) f = some none ∧ ∀ dx, H2 dx = none → dx ≠ a → D.nx σ (upd (upd H2 a (excM a C dx)) dx (dicX dx [(f, y)]))
noncomputable def sFldX2 (K : PySem.W.Frag) (ta tv : TE) (f : Str) : TS := fun D σ H => tv σ H fun y H1 => ta σ H1 fun x H2 => ∃ a C dx fs, x = .ref a ∧ H2 a = some (excM a C dx) ∧ H2 dx = some (dicX dx fs) ∧ dx ≠ a ∧ fs.length < 40 ∧ XSto K C ∧ PySem.W.findIn K (.ref C) f = some none ∧ D.nx σ (upd H2 dx (dicX dx (putF f y fs)))
theorem ps_fldX1 (hex : X.ex = []) (ha : PE X o ta) (hv : PE X value tv) (hs : swapsWith value (some (.Attribute o f pos')) pos.line X.env = pure false) : PS X (.Assign [.Attribute o f pos'] value pos) (sFldX1 X.K ta tv f) := by
  intro pins s σ H D I h
  refine plainObj_wpAny_Assign_Attribute (thn (hv pins s σ H _ I h) fun u s1 ⟨y, H1, I1, ry, q⟩ => thn (ha pins s1 σ H1 _ I1 q) fun ov s2 ⟨x, H2, I2, rx, a, C, ex, ea, c, n, q2⟩ => ?_) hs
  subst ex
  obtain rfl : ov = Value.ref a := rx
  exact setx1 I2 hex ea c n ry fun dx s3 h1 h2 I3 => ⟨σ, _, I3, q2 dx h1 h2⟩
theorem ps_fldX2 (ha : PE X o ta) (hv : PE X value tv) (hs : swapsWith value (some (.Attribute o f pos')) pos.line X.env = pure false) : PS X (.Assign [.Attribute o f pos'] value pos) (sFldX2 X.K ta tv f) := by
  intro pins s σ H D I h
  refine plainObj_wpAny_Assign_Attribute (thn (hv pins s σ H _ I h) fun u s1 ⟨y, H1, I1, ry, q⟩ => thn (ha pins s1 σ H1 _ I1 q) fun ov s2 ⟨x, H2, I2, rx, a, C, dx, fs, ex, ea, ed, hne, hl, c, n, q2⟩ => ?_) hs
  subst ex
  obtain rfl : ov = Value.ref a := rx
  exact setx2 I2 ea ed hne hl c n ry fun s3 I3 => ⟨σ, _, I3, q2⟩
noncomputable def tFldX (K : PySem.W.Frag) (ta : TE) (f : Str) : TE := fun σ H Q => ta σ H fun x H1 => ∃ a C dx fs v, x = .ref a ∧ H1 a = some (excD a C dx) ∧ H1 dx = some (dicX dx fs) ∧ XCls K C ∧ PySem.W.findIn K (.ref C) f = some none ∧ fs.lookup f = some v ∧ Q v H1
theorem pe_fldX (he : PE X e ta) (hb : attributeBase e f X.env (eval e X.env) = eval e X.env) : PE X (.Attribute e f pos) (tFldX X.K ta f) := by
  intro pins s σ H Q I h
  refine attr_of hb (thn (he pins s σ H _ I h) fun u s1 ⟨x, H1, I1, rx, a, C, dx, fs, v, ex, ea, ed, c, n, l, q⟩ => ?_)
  subst ex
  obtain rfl : u = Value.ref a := rx
  exact getx I1 ea ed c n l fun u' s2 I2 ru => ⟨v, H1, I2, ru, q⟩
end
end L2.Internal
namespace L2.Internal
open PySem PySem.Spec PyProof.Rows
noncomputable def CXF (P : Program) (w : World) : CXT := fun outer H s E e s' => ∃ (ea : Addr) (cls a0 : Value) (B : Heap) (H' : Hp) (dx : Addr), e = .ref ea ∧ Fl P w outer H s B H' s' ∧ Heap.FlyingW B outer ea cls a0 s'.heap ∧ (∃ o, s'.heap.get? ea = some o ∧ o.dict = some dx) ∧ E cls (some dx) H'
noncomputable def dr (H : Hp) (a : Addr) : Hp := fun b => if b = a then none else H b
theorem dr_ne {H : Hp} {a b : Addr} (h : b ≠ a) : dr H a b = H b := if_neg h
theorem dr_same {H : Hp} {a : Addr} : dr H a a = none := if_pos rfl
theorem dr_some {H : Hp} {a b : Addr} {u : HO} (h : dr H a b = some u) : b ≠ a ∧ H b = some u := by
  by_cases z : b = a
  · rw [z, dr_same] at h; cases h
  · rw [dr_ne z] at h; exact ⟨z, h⟩
theorem hok_dr {P : Program} {w : World} {H : Hp} {h : Heap} {a : Addr} {φ : Heap → Prop} (ok : HOk P w H h) (ha : H a = some (.ext φ)) : HOk P w (dr H a) h := fun b u e => by
  obtain ⟨n, e⟩ := dr_some e
  refine (ok b u e).stay (fun _ _ _ q => q) (fun c q => ?_) fun c xs q => ?_
  · rw [dr_ne (fun z => by rw [z, ha] at q; cases q)]; exact q
  · rw [dr_ne (fun z => by rw [z, ha] at q; cases q)]; exact q
theorem un_dr {fs ex : List Addr} {H H' : Hp} {h h' : Heap} {a : Addr} {φ : Heap → Prop} (u : Un fs ex H H' h h') (ha : H' a = some (.ext φ)) : Un fs ex H (dr H' a) h h' := by
  refine ⟨u.keep, u.slot, fun b o e n hx => ?_, u.there, fun b xs q => ?_, fun b o x q => ?_, fun b ps q => ?_⟩
  · have := u.free b o e n hx
    by_cases z : b = a
    · rw [z, dr_same]
    · rw [dr_ne z]; exact this
  · have q := u.tups b xs q
    rw [dr_ne (fun z => by rw [z, ha] at q; cases q)]; exact q
  · have q := u.frzs b o x q
    rw [dr_ne (fun z => by rw [z, ha] at q; cases q)]; exact q
  · obtain ⟨m, q⟩ := u.tbls b ps q
    exact ⟨m, by rw [dr_ne (fun z => by rw [z, ha] at q; cases q)]; exact q⟩
section
variable {P : Program} {w : World} {K : PySem.W.Frag} {mg : Str → Option Value} {base : Heap} {N : List Str} {qual : Str} {scope : Scope} {f : Addr} {cd : Value} {A : Around} {outer : List Env} {s₀ : Shared} {H₀ : Hp} {E : XK}
noncomputable def LeavesF (X : Cx) (E : XK) : Prop := ∀ (pins : List (Addr × Obj)) (σ : St) (H1 : Hp) (s1 : Shared) (H3 : Hp) (s3 : Shared) (e C dx : Addr), Inv X pins σ H1 s1 → s1.heap.get? e = none → s3.os = s1.os → AllBare s3.gens → Un (frs X.stack) [] H1 H3 s1.heap s3.heap → HOk X.prog X.w H3 s3.heap → H3 e = some (excM e C dx) → E (.ref C) (some dx) (dr H3 e) → X.xe (.ref e) s3
theorem leavesF : LeavesF (cxOf (CXF P w) P w K mg base N qual scope f cd A outer s₀ H₀ E) E := by
  intro pins σ H1 s1 H3 s3 e C dx I hn hos hba hun hok he q
  generalize hX : cxOf (CXF P w) P w K mg base N qual scope f cd A outer s₀ H₀ E = X at I hun hok
  have hst : X.stack = envOfC qual scope s₀.heap.objs.size f cd :: outer := by rw [← hX]; rfl
  obtain ⟨⟨oe, vs, eo, ec, ed, et, en, a0, e0⟩, _, _⟩ := (show ObjOk X.prog X.w H3 s3.heap e (excM e C dx) from hok e _ he)
  have un' := un_dr hun he
  have hok' := hok_dr hok he
  have J : Inv X pins σ (dr H3 e) s3 := I.call' (ch := []) hos un' hok' hba (fun b hb => nomatch hb)
  have B1 : ∀ b o, s3.heap.get? b = some o → b ≠ e → b ∉ frs X.stack → (PySem.W.hideAll s3.heap (e :: frs X.stack)).get? b = some o := fun b o x hb hf => PySem.W.hideAll_get _ x fun z => by
    rcases List.mem_cons.mp z with z | z
    · exact hb z
    · exact hf z
  have F : Fl X.prog X.w X.stack H1 s1 (PySem.W.hideAll s3.heap (e :: frs X.stack)) (dr H3 e) s3 := by
    refine ⟨hos, hba, un', hok', fun b o x => PySem.W.of_hideAll _ x, fun b u x => ?_, fun b o x hb => ?_⟩
    · obtain ⟨ob, eb⟩ := (hok' b u x).there
      exact ⟨ob, B1 b ob eb (dr_some x).1 fun z => by rw [J.stkFree b z] at x; cases x⟩
    · obtain ⟨o', x'⟩ := un'.there b o x (fun z => nomatch z)
      exact ⟨o', B1 b o' x' (fun z => by rw [z, hn] at x; cases x) hb⟩
  have fr : s3.heap.FunFrames (PySem.W.hideAll s3.heap (e :: frs X.stack)) X.stack := PySem.W.funFrames_hide J.stack fun env he a ha => List.mem_cons_of_mem _ (List.mem_filterMap.mpr ⟨env, he, ha⟩)
  have hA : X.A.frames = some X.stack := I.ok.frames
  rw [hst] at fr hA F B1
  subst hX
  show wpAny _ _ (leaving _ (.ref e)) _ _ _
  refine wpAny_mono (any_tame (tm_leaving _ _) (wpAny_leaving_firstW (a0 := a0) hA fr rfl eo (fun b o x => PySem.W.of_hideAll _ x) (PySem.W.hideAll_none _ List.mem_cons_self) et en e0 (Q := fun _ s' => ∃ h', s' = { s3 with heap := h' } ∧ Heap.LeftW (PySem.W.hideAll s3.heap (e :: frs (envOfC qual scope s₀.heap.objs.size f cd :: outer))) (envOfC qual scope s₀.heap.objs.size f cd :: outer) e oe.cls a0 s3.heap h') (E := fun _ _ => False) fun h' hL => ⟨h', rfl, hL⟩)) (fun _ s' z => ?_) fun _ _ z => z.1.elim
  obtain ⟨⟨h', rfl, hL⟩, dk⟩ := z
  obtain ⟨k1, ⟨_, _, k2⟩, k3, k4⟩ := hL
  have J2 := I.flown F k1 (h := h') k4
  obtain ⟨o', eo', ed', _⟩ := dk e oe eo
  refine ⟨e, oe.cls, a0, _, dr H3 e, dx, rfl, ⟨J2.os, J2.bare, J2.base, J2.hok, k1, F.trk, fun b o x hb => ?_⟩, ⟨k1, PySem.W.hideAll_none _ List.mem_cons_self, k2, k3⟩, ⟨o', eo', ed'.trans ed⟩, by rw [ec]; exact q⟩
  obtain ⟨o1, e1⟩ := I.base.there b o x (fun z => nomatch z)
  exact F.old b o1 e1 (I.nst (I.oldNe x) hb)
end
end L2.Internal
namespace L2.Internal
open PySem PySem.Spec PyProof.Rows
theorem ns_some {K : PySem.W.Frag} {h : Heap} {N : Addr} {m : Str → Option Value} {n : Str} {v : Value} (X : K.In h) (G : h.Ns N m) (z : PySem.W.nsIn K N n = some (some v)) : m n = some v := by
  obtain ⟨ob, en, ep, eo, ed, _, ef⟩ := G
  unfold PySem.W.nsIn at z
  split at z
  case h_2 => cases z
  rename_i c1 d1 en' n1 sl1 lk
  have g := X _ _ lk
  rw [eo] at g
  cases g
  cases ed
  split at z
  · rename_i e1 fe
    cases z
    rw [← ef]
    unfold nsFind findBy
    rw [← Array.find?_toList, fe]
    rfl
  · split at z <;> cases z
theorem un_new {fs : List Addr} {H : Hp} {h h' : Heap} {a : Addr} {o : HO} (k : ∀ b u, h.get? b = some u → h'.get? b = some u) (hn : H a = none) (ha : h.get? a = none) : Un fs [] H (upd H a o) h h' := by
  refine ⟨fun b u q _ _ _ => k b u q, fun b u q _ _ _ => ⟨u.slots, k b u q⟩, fun b u q n _ => ?_, fun b u q _ => ⟨u, k b u q⟩, fun b xs q => ?_, fun b u xs q => ?_, fun b ps q => ?_⟩
  · rw [upd_ne (fun z => by rw [z, ha] at q; cases q)]; exact n
  · rw [upd_ne (ne_of_none q hn)]; exact q
  · rw [upd_ne (ne_of_none q hn)]; exact q
  · exact ⟨#[], by rw [upd_ne (ne_of_none q hn), q]; simp⟩
structure ExcI (K : PySem.W.Frag) (C fI : Addr) : Prop where
  at_ : ∃ bm N nm q bs hdct sn sub ab col dd k0 k1 k2 k3 k5, K.lookup C = some (excClassObj nm q C N bs bm hdct sn sub ab col dd k0 k1 k2 k3 k5 "ValueError.__new__") ∧ PySem.W.nsOkIn K N = true ∧ PySem.W.nsIn K N "__init__" = some (some (.ref fI)) ∧ PySem.W.tailIn K VEbm bm = true
  fn : ∃ oI, K.lookup fI = some oI ∧ oI.cls = .type "function"
section
variable {X : Cx} {C fI : Addr} {E : XK} {x : Str} {np cpos pos : Pos} {e : Expr} {es : List Expr} {t : TA} {k : Nat} {fd : FuncData} {ps : List Str} {sp : Sp}
noncomputable def tRaiseI (C : Addr) (sp : Sp) (E : XK) (t : TA) : TS := fun _ σ H => t σ H fun vs H1 => vs.length ≤ sizeLine ∧ ∀ e, H1 e = none → sp (.ref e :: vs) (upd H1 e (rawX e C)) (fun v H3 => v = .non ∧ ∃ dx, H3 e = some (excM e C dx) ∧ E (.ref C) (some dx) (dr H3 e)) fun _ _ _ => False
theorem ps_raiseI (hc : X.calm = true) (hex : X.ex = []) (hl : LeavesF X E) (xi : ExcI X.K C fI) (F : FnOk X.prog X.w X.K X.mg X.base CX0 k fI fd ps sp) (hr : Room (k + 1) X.A) (hb : Binds X.K fd ps []) (hg : Gl X x) (hm : X.mg x = some (.ref C)) (ha : PA X (e :: es) t)
    (hst : autoParam (starEach (e :: es) X.env = (false, eval e X.env) :: starEach es X.env) L2.Internal.auR._auto_1) (hpl : autoParam ((backTo cpos (starEach es X.env)).any (·.1) = false) L2.Internal.auR._auto_1) (hd : autoParam ((x == ("__debug__" : Str)) = false) L2.Internal.auD._auto_1) :
    PS X (.Raise (some (.Call (.Name x np) (e :: es) [] cpos)) none pos) (tRaiseI C sp E t) := by
  intro pins s σ H D I h
  obtain ⟨bm, N, nm, q, bs, hdct, sn, sub, ab, col, dd, k0, k1, k2, k3, k5, lk, no, ni, tl⟩ := xi.at_
  obtain ⟨oI, lI, cI⟩ := xi.fn
  have kB : X.K.In X.base := I.mod.kin
  have kp : ∀ {s1 : Shared} {H1 : Hp}, Inv X pins σ H1 s1 → ∀ b o, X.base.get? b = some o → s1.heap.get? b = some o := fun I1 => I1.bk
  have NB : X.base.Ns N (X.base.nsMap N) := .of_isNs (PySem.W.isNs_of_in kB no)
  have TB : OwnTail X.base VEbm bm := PySem.W.tail_of_in kB tl
  refine xi_raise (C := C) (nm := nm) (q := q) (N := N) (bs := bs) (bm := bm) (hdct := hdct) (sn := sn) (sub := sub) (ab := ab) (col := col) (dd := dd) (k0 := k0) (k1 := k1) (k2 := k2) (k3 := k3) (k5 := k5) (fI := fI) (mN := X.base.nsMap N)
    PySem.F.excBase_ValueError (TB.hasType PySem.F.excBase_ValueError.hasBase) (I.ok.hd hc) ?_ (ns_some kB NB ni) (ld_glob I hg hm ⟨rfl, ?_⟩ hd)
  · rw [hst]
    show (false || (backTo cpos (starEach es X.env)).any (·.1)) = false
    rw [hpl]
    rfl
  have h2 := ha cpos pins s σ H _ I h
  rw [hst] at h2 ⊢
  refine Calls.evalArgs_plain (wpAny_mono h2 (fun us s1 h3 => ?_) fun _ _ z => z)
  obtain ⟨vs, H1, I1, r, hz, q1⟩ := h3
  refine ⟨rfl, by rw [← r.length]; exact hz, kp I1 _ _ (kB _ _ lk), NB.keeps (kp I1), TB.keeps (kp I1), ⟨oI, kp I1 _ _ (kB _ _ lI), cI⟩, fun h' ea mx => ?_⟩
  obtain ⟨tt, et, tn, te⟩ := mx.there
  have hn1 : H1 ea = none := by
    cases z : H1 ea with
    | none => rfl
    | some u =>
      obtain ⟨ob, eb⟩ := (I1.hok ea u z).there
      rw [mx.new] at eb
      cases eb
  obtain ⟨z1, z2, z3, z4⟩ : X.s₀.heap.get? ea = none ∧ ea ≠ X.env.locals ∧ (∀ x c, X.env.cells.lookup x = some c → c ≠ ea) ∧ ∀ p ∈ X.pn ++ pins, p.1 ≠ ea := by
    rcases I1.newAddr mx.new with z | z
    · exact z
    · rw [hex] at z; cases z
  have I2 : Inv X pins σ (upd H1 ea (rawX ea C)) { s1 with heap := h', toks := s1.toks } := (I1.kept (t' := s1.toks) mx.keeps).track hn1 z1 z2 z3 z4 (rawX_ok et rfl rfl rfl rfl rfl)
  have hq := q1 ea hn1
  have r2 : Vals (V.ref ea :: vs) (Value.ref ea :: us) := .cons rfl r
  have hlen : (Value.ref ea :: us).length = ps.length := by rw [← r2.length]; exact F.len _ _ _ _ hq
  refine wpAny_call (codeAny_mono (F.run _ X.stack _ _ ⟨Value.ref ea :: us, []⟩ (Value.ref ea :: us) _ _ _ (hr.make C us []) (I2.env0.make C us []) (by have z := hb { s1 with heap := h', toks := s1.toks } (Value.ref ea :: us) I2.kIn (by rw [List.append_nil]; exact hlen); rw [List.append_nil] at z; exact z) r2 hq) fun rr s3 hq' => ?_)
  cases rr with
  | error ev => exact hq'.elim
  | ok fl =>
    cases fl with
    | next => exact False.elim hq'
    | brk => exact False.elim hq'
    | cont => exact False.elim hq'
    | ret u =>
      obtain ⟨v, H3, o3, b3, un3, hok3, rv, ev, dx, e3, q3⟩ := hq'
      subst ev
      have un13 : Un (frs X.stack) [] H1 H3 s1.heap s3.heap := (un_new mx.keeps hn1 mx.new).trans un3
      have J3 : Inv X pins σ H3 s3 := I1.call' (ch := []) o3 un13 hok3 b3 (fun b hb => nomatch hb)
      obtain ⟨⟨oe, ws, eo, ec, ed, et3, en, a0, e0⟩, _, _⟩ := (show ObjOk X.prog X.w H3 s3.heap ea (excM ea C dx) from hok3 ea _ e3)
      exact ⟨rv, kp J3 _ _ (kB _ _ lk), ⟨oe, eo, ec, ws, et3, en⟩, hl pins σ H1 s1 H3 s3 ea C dx I1 mx.new o3 b3 un13 hok3 e3 q3⟩
end
end L2.Internal
namespace L2.Internal
open PySem PySem.Spec PyProof.Rows
section
variable {X : Cx} {Y : Addr} {y n : Str} {py hpos : Pos} {b₀ : Stmt} {body : List Stmt} {tb : TS} {i : Nat}
noncomputable def CatchF (K : PySem.W.Frag) (Y : Addr) (i : Nat) (tb : TS) (D : Ends) (σ : St) : XK := fun cls od H2 => ∃ C dx, cls = .ref C ∧ od = some dx ∧ PySem.W.exmOne K cls (.ref Y) = some true ∧
  ∀ ea, H2 ea = none → tb { nx := fun σ' H' => D.nx (σ'.set i none) H', rt := D.rt, bk := fun σ' H' => D.bk (σ'.set i none) H', ct := fun σ' H' => D.ct (σ'.set i none) H' } (σ.set i (some (.ref ea))) (upd H2 ea (excD ea C dx))
theorem caughtF {pins : List (Addr × Obj)} {σ : St} {H : Hp} {s s' : Shared} {D : Ends} {ev : Value} (hN : X.N.Nodup) (hi : X.N[i]? = some n) (hn : X.env.scope.names.lookup n = some .local) (hgY : Gl X y) (hmY : X.mg y = some (.ref Y)) (hy : (y == ("__debug__" : Str)) = false)
    (hfr : X.stack = X.env :: X.outer ∧ X.env.frame = some X.env.locals) (hex : X.ex = []) (hb : ∀ ea, PSs (X.hand ea) (b₀ :: body) tb) (I : Inv X pins σ H s) (hx : CXF X.prog X.w X.stack H s (CatchF X.K Y i tb D σ) ev s') :
    wpAny (model X.prog X.w) X.A (noteFrame ev X.env) (fun _ s2 => wpAny (model X.prog X.w) X.A (setFlight ev none) (fun _ s3 => wpAny (model X.prog X.w) X.A (handleBy ev X.env [.ExceptHandler (some (.Name y py)) (some n) (b₀ :: body) hpos]) (SP X pins D) X.xe s3) X.xe s2) X.xe s' := by
  obtain ⟨ea, cls, a0, B, H', dx, rfl, F, fl, ⟨ob, eob, edb⟩, C, dx2, rfl, hdx, hm, q⟩ := hx
  obtain rfl : dx2 = dx := (Option.some.inj hdx).symm
  have hA : X.A.frames = some (X.env :: X.outer) := by rw [← hfr.1]; exact I.ok.frames
  have fl' := fl
  rw [hfr.1] at fl'
  refine wpAny_mono (any_tame (tm_note _ _) (wpAny_looks_onW (outer := X.outer) (Q := fun _ s2 => ∃ h4, s2 = { s' with heap := h4 } ∧ Heap.HeldW B (X.env :: X.outer) ea (.ref C) a0 X.env.locals h4 ∧ s'.heap.UpToSlots h4) (E := fun _ _ => False) hA hfr.2 fl' fun h4 a b => ⟨h4, rfl, a, b⟩)) (fun _ s2 z => ?_) fun _ _ z => z.1.elim
  obtain ⟨⟨h4, rfl, held4, up4⟩, dk4⟩ := z
  refine wpAny_mono (any_tame (tm_setFlight _ _) (wpAny_landsW (Q := fun _ s3 => ∃ h5, s3 = { s' with heap := h5 } ∧ Heap.FlyingW B (X.env :: X.outer) ea (.ref C) a0 h5 ∧ h4.UpToSlots h5) (E := fun _ _ => False) held4 fun h5 a b => ⟨h5, rfl, a, b⟩)) (fun _ s3 z => ?_) fun _ _ z => z.1.elim
  obtain ⟨⟨h5, rfl, fl5, up5⟩, dk5⟩ := z
  have I5 := I.flown F fl5.1 (up4.trans up5)
  obtain ⟨ob5, eo5, ec5⟩ := fl5.there
  have LT : PySem.W.Looks (model X.prog X.w) h5 (typeOf (.ref ea)) (.ref C) := by
    have z : PySem.W.Looks (model X.prog X.w) h5 (typeOf (.ref ea)) ob5.cls := (PySem.W.Looks.ld eo5).andThen .now
    rw [ec5] at z
    exact z
  refine wpAny_handleBy_cons (codeAny_handlers_test (ld_glob (X := X.hand ea) (I5.hand ea) hgY hmY ?_ hy)) (by intro z; cases z)
  refine (PySem.W.exm_one I5.kIn LT hm) _ _ _ _ (fun _ _ z => z) ?_
  refine codeAny_handlers_suite_as ?_
  refine wpAny_mono (any_tame (tm_setFlight _ _) (lands_againW (Q := fun _ s6 => ∃ h6, s6 = { s' with heap := h6 } ∧ Heap.FlyingW B (X.env :: X.outer) ea (.ref C) a0 h6 ∧ h5.UpToSlots h6) (E := fun _ _ => False) fl5 fun h6 a b => ⟨h6, rfl, a, b⟩)) (fun _ s6 z => ?_) fun _ _ z => z.1.elim
  obtain ⟨⟨h6, rfl, fl6, up6⟩, dk6⟩ := z
  have I6 := I.flown F fl6.1 ((up4.trans up5).trans up6)
  obtain ⟨oe, ws, eo6, ec6, ed6, _⟩ := fl6.first
  have edd : oe.dict = some dx2 := by
    obtain ⟨o6, x6, y6, _⟩ := (dk4.trans (dk5.trans dk6)) ea ob eob
    have x6 : h6.get? ea = some o6 := x6
    rw [eo6] at x6
    cases x6
    exact y6.trans edb
  have Bn : B.get? ea = none := fl6.2.1
  have hn' : H' ea = none := by
    cases z : H' ea with
    | none => rfl
    | some u =>
      obtain ⟨o1, e1⟩ := F.trk ea u z
      rw [Bn] at e1
      cases e1
  have nfr : ea ∉ frs X.stack := fun z => by
    obtain ⟨_, o1, e1, hd⟩ := I6.stack.mem z
    have e2 : h6.get? ea = some o1 := e1
    rw [eo6] at e2
    cases e2
    exact hd ws ed6
  have olds : s.heap.get? ea = none := by
    cases z : s.heap.get? ea with
    | none => rfl
    | some o =>
      obtain ⟨o1, e1⟩ := F.old ea o z nfr
      rw [Bn] at e1
      cases e1
  obtain ⟨z1, z2, z3, z4⟩ : X.s₀.heap.get? ea = none ∧ ea ≠ X.env.locals ∧ (∀ x c, X.env.cells.lookup x = some c → c ≠ ea) ∧ ∀ p ∈ X.pn ++ pins, p.1 ≠ ea := by
    rcases I.newAddr olds with z | z
    · exact z
    · rw [hex] at z; cases z
  have I7 : Inv X pins σ (upd H' ea (excD ea C dx2)) { s' with heap := h6 } := I6.track hn' z1 z2 z3 z4 (excD_ok eo6 ec6 edd ed6)
  refine store_ok (X := X.hand ea) (i := i) (v := .ref ea) (I7.hand ea) hN hi (.inl hn) rfl (fun s8 I8 => ?_) (.inr hn)
  refine wpAny_mono (hb ea pins s8 _ _ _ I8 (q ea hn')) (fun fw s9 h9 => ?_) fun _ _ z => z.elim
  have fin : ∀ {σ9 : St} {H9 : Hp} (Z : Shared → Prop), Inv (X.hand ea) pins σ9 H9 s9 → (∀ s10, Inv X pins (σ9.set i none) H9 s10 → Z s10) → wpAny (model X.prog X.w) X.A (do bindName X.env n .none; unbindBehindTheSuite X.env n hpos) (fun _ s10 => Z s10) X.xe s9 :=
    fun Z I9 hz => unbind_ok (I9.unhand I.ok) hN hi hn hz
  cases fw with
  | next =>
    obtain ⟨σ9, H9, I9, q9⟩ := h9
    exact fin (fun s10 => SP X pins D .next s10) I9 fun s10 I10 => ⟨_, H9, I10, q9⟩
  | brk =>
    obtain ⟨σ9, H9, I9, q9⟩ := h9
    exact fin (fun s10 => SP X pins D .brk s10) I9 fun s10 I10 => ⟨_, H9, I10, q9⟩
  | cont =>
    obtain ⟨σ9, H9, I9, q9⟩ := h9
    exact fin (fun s10 => SP X pins D .cont s10) I9 fun s10 I10 => ⟨_, H9, I10, q9⟩
  | ret u =>
    obtain ⟨v9, σ9, H9, I9, r9, q9⟩ := h9
    exact fin (fun s10 => SP X pins D (.ret u) s10) I9 fun s10 I10 => ⟨v9, _, H9, I10, r9, q9⟩
variable {k j : Nat} {f : Addr} {fd : FuncData} {ps : List Str} {sp : Sp} {dvs : List V} {ds : List Value} {x v : Str} {p pv pos pos' tpos : Pos} {e : Expr} {es : List Expr} {t : TA}
noncomputable def tTrySetF (K : PySem.W.Frag) (Y : Addr) (sp : Sp) (dvs : List V) (j i : Nat) (t : TA) (tb : TS) : TS := fun D σ H => t σ H fun vs H1 => sp (vs ++ dvs) H1 (fun u H2 => D.nx (σ.set j (some u)) H2) (CatchF K Y i tb D σ)
theorem ps_trySetF (F : FnOk X.prog X.w X.K X.mg X.base (CXF X.prog X.w) k f fd ps sp) (hr : Room k X.A) (hg : Gl X x) (hm : X.mg x = some (.ref f)) (hk : PySem.W.keepIn X.K (.ref f) = true) (hbd : Binds X.K fd ps ds) (hd : Vals dvs ds)
    (ha : PA X.nox (e :: es) t) (hN : X.N.Nodup) (hj : X.N[j]? = some v) (hv : X.env.scope.names.lookup v = some .local) (hi : X.N[i]? = some n) (hn : X.env.scope.names.lookup n = some .local) (hgY : Gl X y) (hmY : X.mg y = some (.ref Y))
    (hfr : X.stack = X.env :: X.outer ∧ X.env.frame = some X.env.locals) (hex : X.ex = []) (hb : ∀ ea, PSs (X.hand ea) (b₀ :: body) tb)
    (hdb : autoParam ((x == ("__debug__" : Str)) = false) L2.Internal.auD._auto_1) (hdy : autoParam ((y == ("__debug__" : Str)) = false) L2.Internal.auD._auto_1) (he : autoParam (starEach (e :: es) X.env = (false, eval e X.env) :: starEach es X.env) L2.Internal.auR._auto_1) (hpl : autoParam ((backTo pos (starEach es X.env)).any (·.1) = false) L2.Internal.auR._auto_1)
    (hs : autoParam (swapsWith (.Call (.Name x p) (e :: es) [] pos) (some (.Name v pv)) pos'.line X.env = pure false) L2.Internal.auR._auto_1) :
    PS X (.Try [.Assign [.Name v pv] (.Call (.Name x p) (e :: es) [] pos) pos'] [.ExceptHandler (some (.Name y py)) (some n) (b₀ :: body) hpos] [] [] tpos) (tTrySetF X.K Y sp dvs j i t tb) := by
  intro pins s σ H D I h
  refine wpAny_Try_except (wpAny_execs_cons (wpAny_Assign_Name (wpAny_Call_Name_kw (ld_glob I hg hm ?_ hdb)) hs))
  refine PySem.W.callWith_K (h₀ := X.base) I.ok.mod.kin hk (wpAny_mono (ha pos pins s σ H _ (I.wish _) h) (fun us s1 ⟨vs, H1, I1, r, q⟩ => ⟨I1.kIn, ?_⟩) fun _ _ z => z.elim) he hpl
  have I1' : Inv X pins σ H1 s1 := I1.unwish
  refine wpAny_mono (run_fnE F hr hbd hd (fun ev s' hx => caughtF (py := py) (hpos := hpos) hN hi hn hgY hmY hdy hfr hex hb I1' hx) I1' r q) (fun u s2 ⟨v2, H2, I2, r2, q2⟩ => ?_) fun _ _ z => z
  exact store_ok I2 hN hj (.inl hv) r2 (fun s3 I3 => wpAny_execs_nil (wpAny_execs_nil ⟨_, H2, I3, q2⟩)) (.inr hv)
end
end L2.Internal
namespace L2.Internal
open PySem PySem.Spec PyProof.Rows
open Builtin Builtin.ObjectAttr
theorem refuse_tail {K : PySem.W.Frag} (self : Value) : ∀ {l : List Value}, PySem.W.tailIn K VEbm l = true → refuseLoop self "__setattr__" l = pure ()
  | [], z => by cases (beq_iff_eq.mp z : VEbm = [])
  | v :: r, z => by
    unfold PySem.W.tailIn at z
    rcases Bool.or_eq_true_iff.mp z with q | q
    · rw [beq_iff_eq.mp q]
      exact PySem.F.store_ValueError.passes self
    · split at q
      · rename_i A
        rw [refuseLoop_ref]
        split at q
        · rename_i c d cd sl lk
          rw [Bool.and_eq_true] at q
          exact refuse_tail self q.2
        · cases q
      · cases q
section
variable {K : PySem.W.Frag} {C fI N : Addr} {nm q : Str} {bs bm : List Value} {sn : List Str} {sub : List Value} {ab : Bool} {col : Option Bool} {dd : Option Addr} {k0 k1 k2 k3 k5 : Option Value} {oI : Obj}
theorem sto_of (lk : K.lookup C = some (excClassObj nm q C N bs bm true sn sub ab col dd k0 k1 k2 k3 k5 "ValueError.__new__")) (tl : PySem.W.tailIn K VEbm bm = true) (xc : XCls K C) (sa : PySem.W.findIn K (.ref C) "__setattr__" = some (some (.builtin "object.__setattr__"))) : XSto K C := by
  refine ⟨xc, sa, _, by unfold PySem.W.clsIn; rw [lk], rfl, fun self => ?_⟩
  show refuseLoop self "__setattr__" (.ref C :: bm) = pure ()
  rw [refuseLoop_ref]
  exact refuse_tail self tl
theorem exi_of (lk : K.lookup C = some (excClassObj nm q C N bs bm true sn sub ab col dd k0 k1 k2 k3 k5 "ValueError.__new__")) (no : PySem.W.nsOkIn K N = true) (ni : PySem.W.nsIn K N "__init__" = some (some (.ref fI))) (tl : PySem.W.tailIn K VEbm bm = true) (lI : K.lookup fI = some oI) (cI : oI.cls = .type "function") : ExcI K C fI :=
  ⟨⟨bm, N, nm, q, bs, true, sn, sub, ab, col, dd, k0, k1, k2, k3, k5, lk, no, ni, tl⟩, ⟨oI, lI, cI⟩⟩
end
section
variable {P : Program} {w : World} {K : PySem.W.Frag} {mg : Str → Option Value} {base : Heap}
theorem Fun.okF {x qual : Str} {st : Stmt} {f : Addr} {fd : FuncData} {N ps : List Str} {k : Nat} {sp : Sp} (F : Fun K x qual st f fd) (S : FnScope N ps (defScope st)) (len : ∀ vs H Q E, sp vs H Q E → vs.length = ps.length)
    (hbody : ∀ (cdv : Value) (A : Around) (outer : List Env) (s : Shared) (H : Hp) (vs : List V) (Q : VK) (E : XK), Room k (A.deeper (envOfC qual (defScope st) s.heap.objs.size f cdv)) → sp vs H Q E →
      ∃ t, PSs (cxOf (CXF P w) P w K mg base N qual (defScope st) f cdv A outer s H E) (defBody st) t ∧ t { nx := fun _ H' => Q .non H', rt := Q } (start N vs) H) : FnOk P w K mg base (CXF P w) (k + 1) f fd ps sp := by
  obtain ⟨oc, od, kV, doc, pm, an, cdv, ct, osl, efd, lk, hcd⟩ := F.ex
  subst efd
  exact fn_of lk hcd S len (fun A outer s H vs Q E hr h => hbody cdv A outer s H vs Q E hr h)
end
end L2.Internal
namespace L2.Internal
open PySem PySem.Spec PyProof.Rows
section
variable {prog : Program} {w : World} {A : Around} {E : Value → Shared → Prop} {s : Shared}
end
section
variable {X : Cx}
end
section
variable {X : Cx}
end
end L2.Internal
namespace L2.Internal
open PySem PySem.Spec PyProof.Rows
section
variable {P : Program} {w : World} {K : PySem.W.Frag} {mg : Str → Option Value} {base : Heap} {N : List Str} {qual : Str} {scope : Scope} {f : Addr} {cd : Value} {A : Around} {outer : List Env} {s₀ : Shared} {H₀ : Hp} {E : XK}
theorem passXE : Passes (CXF P w) (cxOf (CXF P w) P w K mg base N qual scope f cd A outer s₀ H₀ E) E := by
  intro pins σ H s e s' I hx
  obtain ⟨ea, cls, a0, B, H', dx, rfl, F, fl, ⟨ob, eob, edb⟩, q⟩ := hx
  show wpAny _ _ (leaving _ (.ref ea)) _ _ s'
  refine wpAny_mono (any_tame (tm_leaving _ _) (wpAny_leaves_onW (outer := outer) (Q := fun _ s2 => ∃ h', s2 = { s' with heap := h' } ∧ Heap.FlyingW B outer ea cls a0 h' ∧ s'.heap.UpToSlots h') (E := fun _ _ => False) I.ok.frames rfl fl fun h' fl' up => ⟨h', rfl, fl', up⟩)) (fun _ s2 z => ?_) fun _ _ z => z.1.elim
  obtain ⟨⟨h', rfl, fl', up⟩, dk⟩ := z
  have J := I.flown F fl'.1 up
  obtain ⟨o', eo', ed', _⟩ := dk ea ob eob
  refine ⟨ea, cls, a0, B, H', dx, rfl, ⟨J.os, J.bare, J.base, J.hok, fl'.1, F.trk, fun b o x hb => ?_⟩, fl', ⟨o', eo', ed'.trans edb⟩, q⟩
  obtain ⟨o1, e1⟩ := I.base.there b o x (fun z => nomatch z)
  exact F.old b o1 e1 (I.nst (I.oldNe x) hb)
end
end L2.Internal
namespace L2.Internal
open PySem PySem.Spec PyProof.Rows
section
variable {X : Cx} {i : Nat} {Y : Addr} {y n : Str} {py hpos : Pos} {b₀ : Stmt} {body : List Stmt} {tb : TS}
variable {k : Nat} {f : Addr} {fd : FuncData} {ps : List Str} {sp : Sp} {dvs : List V} {ds : List Value} {x : Str} {p pos pos' tpos : Pos} {e : Expr} {es : List Expr} {t : TA}
theorem call_isiF : CallR X (.builtin "isinstance") (fun xs H Q => ∃ ea D dx v c b, xs = [.ref ea, v] ∧ (∀ u, RelV v u → u = c) ∧ H ea = some (excD ea D dx) ∧ XCls X.K D ∧ PySem.W.kitOne X.K (.ref D) c = some b ∧ Q (.bl b) H) := by
  intro pins s σ H xs us Q I r h
  obtain ⟨ea, D, dx, v, c, b, rfl, hc, he, C, hk, q⟩ := h
  obtain ⟨u, u', rfl, ru, ru'⟩ := vals2 r
  cases hc u' ru'
  cases ru
  obtain ⟨⟨o, vs, eo, ec, _, _⟩, _, _⟩ := (show ObjOk X.prog X.w H s.heap ea (excD ea D dx) from I.hok ea _ he)
  exact PySem.W.kia_one (kitx_exc C) I.kIn ⟨o, eo, ec⟩ hk (fun z => nomatch z) fun tk => ⟨.bl b, H, I.tok tk, rfl, q⟩
end
end L2.Internal
namespace L2.Internal
open PySem PySem.Spec PyProof.Rows
theorem refs_of : ∀ {cs : List Addr} {us : List Value}, Vals (cs.map V.ref) us → us = cs.map Value.ref
  | [], _, .nil => rfl
  | c :: cs, _, .cons h hs => by
    rw [refs_of hs]
    cases (show _ = Value.ref c from h)
    rfl
section
variable {X : Cx}
theorem call_isiFT : CallR X (.builtin "isinstance") (fun xs H Q => ∃ (ea D dx tp : Addr) (cs : List Addr) (b : Bool), xs = [.ref ea, .ref tp] ∧ H tp = some (.tup (cs.map V.ref)) ∧ H ea = some (excD ea D dx) ∧ XCls X.K D ∧ PySem.W.kitAny X.K (.ref D) (cs.map Value.ref) = some b ∧ Q (.bl b) H) := by
  intro pins s σ H xs us Q I r h
  obtain ⟨ea, D, dx, tp, cs, b, rfl, htp, he, C, hk, q⟩ := h
  obtain ⟨u, u', rfl, ru, ru'⟩ := vals2 r
  cases ru
  cases ru'
  obtain ⟨_, its, rv, o, ho, hc, n, hd, _⟩ := (show ObjOk X.prog X.w H s.heap tp (.tup (cs.map V.ref)) from I.hok tp _ htp)
  cases refs_of rv
  obtain ⟨oc, od, odt, osl⟩ := o
  cases (show oc = _ from hc)
  cases (show odt = _ from hd)
  obtain ⟨⟨o2, vs, eo, ec, _, _⟩, _, _⟩ := (show ObjOk X.prog X.w H s.heap ea (excD ea D dx) from I.hok ea _ he)
  exact PySem.W.kia_tup (kitx_exc C) I.kIn ⟨o2, eo, ec⟩ ho hk (fun z => nomatch z) fun tk => ⟨.bl b, H, I.tok tk, rfl, q⟩
end
end L2.Internal
namespace K11.Internal
open PySem L2.Internal
theorem l0 {P : List Value → Prop} (h : P []) : ∀ us : List Value, us.length = 0 → P us := fun us e => by rw [List.eq_nil_of_length_eq_zero e]; exact h
theorem lS {n : Nat} {P : List Value → Prop} (h : ∀ a, ∀ us : List Value, us.length = n → P (a :: us)) : ∀ us : List Value, us.length = n + 1 → P us := fun us e => by
  cases us with
  | nil => cases e
  | cons a t => exact h a t (Nat.succ.inj e)
noncomputable def top (i : Nat) : Stmt := PySem.Challenge.pw_flowkinds_k11_no_name_and_twice.main.body.getD i (.Pass ⟨0, 0, 0, 0⟩)
noncomputable abbrev s_parts_of : Stmt := top 11
noncomputable abbrev s_places_in : Stmt := top 12
noncomputable abbrev s_flat : Stmt := top 13
noncomputable abbrev s_homes_of : Stmt := top 15
noncomputable abbrev s_refuse_twice : Stmt := top 16
noncomputable abbrev s_words_once : Stmt := top 17
noncomputable abbrev s_home_of : Stmt := top 18
noncomputable abbrev s_root_scopes : Stmt := top 19
noncomputable abbrev s_inner_scopes : Stmt := top 20
noncomputable abbrev s_widened : Stmt := top 21
noncomputable abbrev s__law_stem : Stmt := top 25
noncomputable abbrev s__law_words : Stmt := top 26
noncomputable abbrev s__law_row : Stmt := top 27
noncomputable abbrev s__law_stands : Stmt := top 28
noncomputable abbrev s__law_double : Stmt := top 29
noncomputable abbrev s__law_doubled : Stmt := top 30
noncomputable abbrev s__law_spoilt : Stmt := top 31
noncomputable abbrev s__law_program : Stmt := top 32
noncomputable abbrev s__law_of_class : Stmt := top 33
noncomputable abbrev s_law : Stmt := top 34
noncomputable abbrev s_Twice___init__ : Stmt := inClass (top 3) 0
noncomputable abbrev s_NoName___init__ : Stmt := inClass (top 4) 0
noncomputable abbrev s_Program___init__ : Stmt := inClass (top 23) 0
set_option genInjectivity false in
set_option genSizeOf false in
structure Txt (K : PySem.W.Frag) (mg : Str → Option Value) where
  a_parts_of : Addr
  fd_parts_of : FuncData
  F_parts_of : Fun K "parts_of" "parts_of" s_parts_of a_parts_of fd_parts_of
  b_parts_of : Binds K fd_parts_of ["row"] []
  m_parts_of : mg "parts_of" = some (.ref a_parts_of)
  k_parts_of : PySem.W.keepIn K (.ref a_parts_of) = true
  a_places_in : Addr
  fd_places_in : FuncData
  F_places_in : Fun K "places_in" "places_in" s_places_in a_places_in fd_places_in
  b_places_in : Binds K fd_places_in ["row"] []
  m_places_in : mg "places_in" = some (.ref a_places_in)
  k_places_in : PySem.W.keepIn K (.ref a_places_in) = true
  a_flat : Addr
  fd_flat : FuncData
  F_flat : Fun K "flat" "flat" s_flat a_flat fd_flat
  b_flat : Binds K fd_flat ["parts"] []
  m_flat : mg "flat" = some (.ref a_flat)
  k_flat : PySem.W.keepIn K (.ref a_flat) = true
  a_homes_of : Addr
  fd_homes_of : FuncData
  F_homes_of : Fun K "homes_of" "homes_of" s_homes_of a_homes_of fd_homes_of
  b_homes_of : Binds K fd_homes_of ["program"] []
  m_homes_of : mg "homes_of" = some (.ref a_homes_of)
  k_homes_of : PySem.W.keepIn K (.ref a_homes_of) = true
  a_refuse_twice : Addr
  fd_refuse_twice : FuncData
  F_refuse_twice : Fun K "refuse_twice" "refuse_twice" s_refuse_twice a_refuse_twice fd_refuse_twice
  b_refuse_twice : Binds K fd_refuse_twice ["words"] []
  m_refuse_twice : mg "refuse_twice" = some (.ref a_refuse_twice)
  k_refuse_twice : PySem.W.keepIn K (.ref a_refuse_twice) = true
  a_words_once : Addr
  fd_words_once : FuncData
  F_words_once : Fun K "words_once" "words_once" s_words_once a_words_once fd_words_once
  b_words_once : Binds K fd_words_once ["row"] []
  m_words_once : mg "words_once" = some (.ref a_words_once)
  k_words_once : PySem.W.keepIn K (.ref a_words_once) = true
  a_home_of : Addr
  fd_home_of : FuncData
  F_home_of : Fun K "home_of" "home_of" s_home_of a_home_of fd_home_of
  b_home_of : Binds K fd_home_of ["row", "place", "scope"] []
  m_home_of : mg "home_of" = some (.ref a_home_of)
  k_home_of : PySem.W.keepIn K (.ref a_home_of) = true
  a_root_scopes : Addr
  fd_root_scopes : FuncData
  F_root_scopes : Fun K "root_scopes" "root_scopes" s_root_scopes a_root_scopes fd_root_scopes
  b_root_scopes : Binds K fd_root_scopes ["program"] []
  m_root_scopes : mg "root_scopes" = some (.ref a_root_scopes)
  k_root_scopes : PySem.W.keepIn K (.ref a_root_scopes) = true
  a_inner_scopes : Addr
  fd_inner_scopes : FuncData
  F_inner_scopes : Fun K "inner_scopes" "inner_scopes" s_inner_scopes a_inner_scopes fd_inner_scopes
  b_inner_scopes : Binds K fd_inner_scopes ["row", "scope"] []
  m_inner_scopes : mg "inner_scopes" = some (.ref a_inner_scopes)
  k_inner_scopes : PySem.W.keepIn K (.ref a_inner_scopes) = true
  a_widened : Addr
  fd_widened : FuncData
  F_widened : Fun K "widened" "widened" s_widened a_widened fd_widened
  b_widened : Binds K fd_widened ["scope", "name", "home"] []
  m_widened : mg "widened" = some (.ref a_widened)
  k_widened : PySem.W.keepIn K (.ref a_widened) = true
  a__law_stem : Addr
  fd__law_stem : FuncData
  F__law_stem : Fun K "_law_stem" "_law_stem" s__law_stem a__law_stem fd__law_stem
  b__law_stem : Binds K fd__law_stem ["_law_cell", "_law_size"] []
  m__law_stem : mg "_law_stem" = some (.ref a__law_stem)
  k__law_stem : PySem.W.keepIn K (.ref a__law_stem) = true
  a__law_words : Addr
  fd__law_words : FuncData
  F__law_words : Fun K "_law_words" "_law_words" s__law_words a__law_words fd__law_words
  b__law_words : Binds K fd__law_words ["_law_cell"] []
  m__law_words : mg "_law_words" = some (.ref a__law_words)
  k__law_words : PySem.W.keepIn K (.ref a__law_words) = true
  a__law_row : Addr
  fd__law_row : FuncData
  F__law_row : Fun K "_law_row" "_law_row" s__law_row a__law_row fd__law_row
  b__law_row : Binds K fd__law_row ["_law_op", "_law_more", "_law_kids"] []
  m__law_row : mg "_law_row" = some (.ref a__law_row)
  k__law_row : PySem.W.keepIn K (.ref a__law_row) = true
  a__law_stands : Addr
  fd__law_stands : FuncData
  F__law_stands : Fun K "_law_stands" "_law_stands" s__law_stands a__law_stands fd__law_stands
  b__law_stands : Binds K fd__law_stands ["_law_words_here", "_law_cell", "_law_held", "_law_room"] []
  m__law_stands : mg "_law_stands" = some (.ref a__law_stands)
  k__law_stands : PySem.W.keepIn K (.ref a__law_stands) = true
  a__law_double : Addr
  fd__law_double : FuncData
  F__law_double : Fun K "_law_double" "_law_double" s__law_double a__law_double fd__law_double
  b__law_double : Binds K fd__law_double ["_law_marks"] []
  m__law_double : mg "_law_double" = some (.ref a__law_double)
  k__law_double : PySem.W.keepIn K (.ref a__law_double) = true
  a__law_doubled : Addr
  fd__law_doubled : FuncData
  F__law_doubled : Fun K "_law_doubled" "_law_doubled" s__law_doubled a__law_doubled fd__law_doubled
  b__law_doubled : Binds K fd__law_doubled ["_law_marks", "_law_mix"] []
  m__law_doubled : mg "_law_doubled" = some (.ref a__law_doubled)
  k__law_doubled : PySem.W.keepIn K (.ref a__law_doubled) = true
  a__law_spoilt : Addr
  fd__law_spoilt : FuncData
  F__law_spoilt : Fun K "_law_spoilt" "_law_spoilt" s__law_spoilt a__law_spoilt fd__law_spoilt
  b__law_spoilt : Binds K fd__law_spoilt ["_law_words_here", "_law_cell", "_law_known", "_law_own", "_law_stands_here", "_law_rate"] []
  m__law_spoilt : mg "_law_spoilt" = some (.ref a__law_spoilt)
  k__law_spoilt : PySem.W.keepIn K (.ref a__law_spoilt) = true
  a__law_program : Addr
  fd__law_program : FuncData
  F__law_program : Fun K "_law_program" "_law_program" s__law_program a__law_program fd__law_program
  b__law_program : Binds K fd__law_program ["_law_words_here", "_law_seed", "_law_rate", "_law_cells"] []
  m__law_program : mg "_law_program" = some (.ref a__law_program)
  k__law_program : PySem.W.keepIn K (.ref a__law_program) = true
  a__law_of_class : Addr
  fd__law_of_class : FuncData
  F__law_of_class : Fun K "_law_of_class" "_law_of_class" s__law_of_class a__law_of_class fd__law_of_class
  b__law_of_class : Binds K fd__law_of_class ["_law_caught", "_law_name"] []
  m__law_of_class : mg "_law_of_class" = some (.ref a__law_of_class)
  k__law_of_class : PySem.W.keepIn K (.ref a__law_of_class) = true
  a_FlowError : Addr
  m_FlowError : mg "FlowError" = some (.ref a_FlowError)
  x_FlowError : ExcV K a_FlowError
  a_BadText : Addr
  m_BadText : mg "BadText" = some (.ref a_BadText)
  x_BadText : ExcV K a_BadText
  a_Twice : Addr
  m_Twice : mg "Twice" = some (.ref a_Twice)
  a_Twice___init__ : Addr
  fd_Twice___init__ : FuncData
  F_Twice___init__ : Fun K "__init__" "Twice.__init__" s_Twice___init__ a_Twice___init__ fd_Twice___init__
  b_Twice___init__ : Binds K fd_Twice___init__ ["self", "word"] []
  xi_Twice : ExcI K a_Twice a_Twice___init__
  xs_Twice : XSto K a_Twice
  xf_Twice_word : PySem.W.findIn K (.ref a_Twice) "word" = some none
  a_NoName : Addr
  m_NoName : mg "NoName" = some (.ref a_NoName)
  a_NoName___init__ : Addr
  fd_NoName___init__ : FuncData
  F_NoName___init__ : Fun K "__init__" "NoName.__init__" s_NoName___init__ a_NoName___init__ fd_NoName___init__
  b_NoName___init__ : Binds K fd_NoName___init__ ["self", "word", "place"] []
  xi_NoName : ExcI K a_NoName a_NoName___init__
  xs_NoName : XSto K a_NoName
  xf_NoName_word : PySem.W.findIn K (.ref a_NoName) "word" = some none
  xf_NoName_place : PySem.W.findIn K (.ref a_NoName) "place" = some none
  a_TooHeavy : Addr
  m_TooHeavy : mg "TooHeavy" = some (.ref a_TooHeavy)
  a_BadPaper : Addr
  m_BadPaper : mg "BadPaper" = some (.ref a_BadPaper)
  x_BadPaper : ExcV K a_BadPaper
  a_WrongKind : Addr
  m_WrongKind : mg "WrongKind" = some (.ref a_WrongKind)
  a_OutOfTurns : Addr
  m_OutOfTurns : mg "OutOfTurns" = some (.ref a_OutOfTurns)
  x_OutOfTurns : ExcV K a_OutOfTurns
  a_RowFull : Addr
  m_RowFull : mg "RowFull" = some (.ref a_RowFull)
  x_RowFull : ExcV K a_RowFull
  a_Program : Addr
  m_Program : mg "Program" = some (.ref a_Program)
  cl_Program : Cls K a_Program
  ty_Program : ∀ (H : Hp) (a dx : Addr) (fs : List (Str × V)), H a = some (.ins a_Program dx fs) → TyOf K H (.ref a) (.ref a_Program)
  n_Program_names : NoAttr K a_Program "names"
  n_Program_roots : NoAttr K a_Program "roots"
  n_Program_rows : NoAttr K a_Program "rows"
  a_Program___init__ : Addr
  fd_Program___init__ : FuncData
  F_Program___init__ : Fun K "__init__" "Program.__init__" s_Program___init__ a_Program___init__ fd_Program___init__
  b_Program___init__ : Binds K fd_Program___init__ ["self", "names", "roots", "rows"] []
  mk_Program : Mk K a_Program a_Program___init__
  e_Twice_FlowError : PySem.W.exmOne K (.ref a_Twice) (.ref a_FlowError) = some true
  e_NoName_FlowError : PySem.W.exmOne K (.ref a_NoName) (.ref a_FlowError) = some true
  i_Twice_ValueError : PySem.W.kitOne K (.ref a_Twice) (.type "ValueError") = some true
  i_Twice_BadPaper : PySem.W.kitOne K (.ref a_Twice) (.ref a_BadPaper) = some false
  i_Twice_BadText : PySem.W.kitOne K (.ref a_Twice) (.ref a_BadText) = some false
  i_Twice_TooHeavy : PySem.W.kitOne K (.ref a_Twice) (.ref a_TooHeavy) = some false
  i_Twice_OutOfTurns : PySem.W.kitOne K (.ref a_Twice) (.ref a_OutOfTurns) = some false
  i_Twice_RowFull : PySem.W.kitOne K (.ref a_Twice) (.ref a_RowFull) = some false
  i_Twice_WrongKind : PySem.W.kitOne K (.ref a_Twice) (.ref a_WrongKind) = some false
  i_Twice_Twice : PySem.W.kitOne K (.ref a_Twice) (.ref a_Twice) = some true
  i_Twice_NoName : PySem.W.kitOne K (.ref a_Twice) (.ref a_NoName) = some false
  i_NoName_ValueError : PySem.W.kitOne K (.ref a_NoName) (.type "ValueError") = some true
  i_NoName_BadPaper : PySem.W.kitOne K (.ref a_NoName) (.ref a_BadPaper) = some false
  i_NoName_BadText : PySem.W.kitOne K (.ref a_NoName) (.ref a_BadText) = some false
  i_NoName_TooHeavy : PySem.W.kitOne K (.ref a_NoName) (.ref a_TooHeavy) = some false
  i_NoName_OutOfTurns : PySem.W.kitOne K (.ref a_NoName) (.ref a_OutOfTurns) = some false
  i_NoName_RowFull : PySem.W.kitOne K (.ref a_NoName) (.ref a_RowFull) = some false
  i_NoName_WrongKind : PySem.W.kitOne K (.ref a_NoName) (.ref a_WrongKind) = some false
  i_NoName_Twice : PySem.W.kitOne K (.ref a_NoName) (.ref a_Twice) = some false
  i_NoName_NoName : PySem.W.kitOne K (.ref a_NoName) (.ref a_NoName) = some true
  z_ValueError : mg "ValueError" = none
  z_bool : mg "bool" = none
  z_dict : mg "dict" = none
  z_enumerate : mg "enumerate" = none
  z_int : mg "int" = none
  z_isinstance : mg "isinstance" = none
  z_len : mg "len" = none
  z_list : mg "list" = none
  z_range : mg "range" = none
  z_reversed : mg "reversed" = none
  z_str : mg "str" = none
  z_sum : mg "sum" = none
  z_tuple : mg "tuple" = none
  z_zip : mg "zip" = none
theorem sc_parts_of : FnScope ["row"] ["row"] (defScope s_parts_of) := ⟨rfl, rfl, rfl, by decide +kernel, rfl, by decide +kernel, by decide +kernel⟩
theorem sc_places_in : FnScope ["row"] ["row"] (defScope s_places_in) := ⟨rfl, rfl, rfl, by decide +kernel, rfl, by decide +kernel, by decide +kernel⟩
theorem sc_flat : FnScope ["parts", "found", "part"] ["parts"] (defScope s_flat) := ⟨rfl, rfl, rfl, by decide +kernel, rfl, by decide +kernel, by decide +kernel⟩
theorem sc_homes_of : FnScope ["program", "scopes", "homes", "place", "row", "scope"] ["program"] (defScope s_homes_of) := ⟨rfl, rfl, rfl, by decide +kernel, rfl, by decide +kernel, by decide +kernel⟩
theorem sc_refuse_twice : FnScope ["words", "seen", "word"] ["words"] (defScope s_refuse_twice) := ⟨rfl, rfl, rfl, by decide +kernel, rfl, by decide +kernel, by decide +kernel⟩
theorem sc_words_once : FnScope ["row"] ["row"] (defScope s_words_once) := ⟨rfl, rfl, rfl, by decide +kernel, rfl, by decide +kernel, by decide +kernel⟩
theorem sc_home_of : FnScope ["row", "place", "scope"] ["row", "place", "scope"] (defScope s_home_of) := ⟨rfl, rfl, rfl, by decide +kernel, rfl, by decide +kernel, by decide +kernel⟩
theorem sc_root_scopes : FnScope ["program", "scopes", "earlier", "number", "name", "root", "later"] ["program"] (defScope s_root_scopes) := ⟨rfl, rfl, rfl, by decide +kernel, rfl, by decide +kernel, by decide +kernel⟩
theorem sc_inner_scopes : FnScope ["row", "scope", "scopes", "place", "arm"] ["row", "scope"] (defScope s_inner_scopes) := ⟨rfl, rfl, rfl, by decide +kernel, rfl, by decide +kernel, by decide +kernel⟩
theorem sc_widened : FnScope ["scope", "name", "home", "wider"] ["scope", "name", "home"] (defScope s_widened) := ⟨rfl, rfl, rfl, by decide +kernel, rfl, by decide +kernel, by decide +kernel⟩
theorem sc__law_stem : FnScope ["_law_cell", "_law_size", "_law_signs", "_law_stem_here", "_law_k"] ["_law_cell", "_law_size"] (defScope s__law_stem) := ⟨rfl, rfl, rfl, by decide +kernel, rfl, by decide +kernel, by decide +kernel⟩
theorem sc__law_words : FnScope ["_law_cell", "_law_size", "_law_manner", "_law_stem_here", "_law_place", "_law_words_here", "_law_k", "_law_word"] ["_law_cell"] (defScope s__law_words) := ⟨rfl, rfl, rfl, by decide +kernel, rfl, by decide +kernel, by decide +kernel⟩
theorem sc__law_row : FnScope ["_law_op", "_law_more", "_law_kids"] ["_law_op", "_law_more", "_law_kids"] (defScope s__law_row) := ⟨rfl, rfl, rfl, by decide +kernel, rfl, by decide +kernel, by decide +kernel⟩
theorem sc__law_stands : FnScope ["_law_words_here", "_law_cell", "_law_held", "_law_room", "_law_op", "_law_arg", "_law_one", "_law_plain", "_law_step", "_law_many", "_law_marks", "_law_arms"] ["_law_words_here", "_law_cell", "_law_held", "_law_room"] (defScope s__law_stands) := ⟨rfl, rfl, rfl, by decide +kernel, rfl, by decide +kernel, by decide +kernel⟩
theorem sc__law_double : FnScope ["_law_marks", "_law_k"] ["_law_marks"] (defScope s__law_double) := ⟨rfl, rfl, rfl, by decide +kernel, rfl, by decide +kernel, by decide +kernel⟩
theorem sc__law_doubled : FnScope ["_law_marks", "_law_mix", "_law_turn", "_law_least"] ["_law_marks", "_law_mix"] (defScope s__law_doubled) := ⟨rfl, rfl, rfl, by decide +kernel, rfl, by decide +kernel, by decide +kernel⟩
theorem sc__law_spoilt : FnScope ["_law_words_here", "_law_cell", "_law_known", "_law_own", "_law_stands_here", "_law_rate", "_law_mix", "_law_some", "_law_word", "_law_marks", "_law_arms"] ["_law_words_here", "_law_cell", "_law_known", "_law_own", "_law_stands_here", "_law_rate"] (defScope s__law_spoilt) := ⟨rfl, rfl, rfl, by decide +kernel, rfl, by decide +kernel, by decide +kernel⟩
theorem sc__law_program : FnScope ["_law_words_here", "_law_seed", "_law_rate", "_law_cells", "_law_names", "_law_roots", "_law_kinds", "_law_kids", "_law_faults", "_law_todo", "_law_front", "_law_cell", "_law_known", "_law_word", "_law_parent", "_law_depth", "_law_place", "_law_stands_here", "_law_refusal", "_law_told", "_law_hole", "_law_rows"] ["_law_words_here", "_law_seed", "_law_rate", "_law_cells"] (defScope s__law_program) := ⟨rfl, rfl, rfl, by decide +kernel, rfl, by decide +kernel, by decide +kernel⟩
theorem sc__law_of_class : FnScope ["_law_caught", "_law_name"] ["_law_caught", "_law_name"] (defScope s__law_of_class) := ⟨rfl, rfl, rfl, by decide +kernel, rfl, by decide +kernel, by decide +kernel⟩
theorem sc_law : FnScope ["_law_script", "_law_seed", "_law_rate", "_law_words_here", "_law_names", "_law_roots", "_law_rows", "_law_faults", "_law_caught", "_law_found", "error"] ["_law_script"] (defScope s_law) := ⟨rfl, rfl, rfl, by decide +kernel, rfl, by decide +kernel, by decide +kernel⟩
theorem sc_Twice___init__ : FnScope ["self", "word"] ["self", "word"] (defScope s_Twice___init__) := ⟨rfl, rfl, rfl, by decide +kernel, rfl, by decide +kernel, by decide +kernel⟩
theorem sc_NoName___init__ : FnScope ["self", "word", "place"] ["self", "word", "place"] (defScope s_NoName___init__) := ⟨rfl, rfl, rfl, by decide +kernel, rfl, by decide +kernel, by decide +kernel⟩
theorem sc_Program___init__ : FnScope ["self", "names", "roots", "rows"] ["self", "names", "roots", "rows"] (defScope s_Program___init__) := ⟨rfl, rfl, rfl, by decide +kernel, rfl, by decide +kernel, by decide +kernel⟩
noncomputable def sp_law (K : PySem.W.Frag) : Sp := fun vs H Q _ => ∃ (a : Addr) (ns : List Int), vs = [.ref a] ∧ SqL K H a (ns.map V.int) ∧ ns.length ≤ 63 ∧ ∀ H', Q (.bl true) H'
end K11.Internal
namespace K11.Internal
open PySem L2.Internal BO.Internal
seal L2.Internal.PE L2.Internal.PA L2.Internal.PS L2.Internal.PSs L2.Internal.PT L2.Internal.PI
theorem same_upd {H H2 : Hp} {l : Addr} (s : Same H H2) (h : H l = none) (o : HO) : Same H (upd H2 l o) := fun b u e => by rw [upd_ne (ne_of_none e h)]; exact s b u e
theorem sl_to {x : Str} {j : Int} (h0 : 0 ≤ j) (h1 : j ≤ x.length) : (Txt.slice x none (some j)).cps.toList = x.cps.toList.take j.toNat := by
  have e : Txt.slice x none (some j) = ⟨((x.cps.toList.drop (0 : Int).toNat).take (j - 0).toNat).toArray⟩ := eq_of_beq (PyProof.Rows.slice_closes_to ⟨h0, h1⟩)
  rw [e]
  show ((x.cps.toList.drop 0).take (j - 0).toNat) = _
  rw [List.drop_zero, Int.sub_zero]
theorem sl_from {x : Str} {j : Int} (h0 : 0 ≤ j) (h1 : j ≤ x.length) : (Txt.slice x (some j) none).cps.toList = x.cps.toList.drop j.toNat := by
  have e : Txt.slice x (some j) none = ⟨((x.cps.toList.drop j.toNat).take ((x.cps.toList.length : Int) - j).toNat).toArray⟩ := eq_of_beq (PyProof.Rows.slice_closes_from ⟨h0, h1⟩)
  rw [e]
  show ((x.cps.toList.drop j.toNat).take ((x.cps.toList.length : Int) - j).toNat) = _
  rw [List.take_of_length_le]
  rw [List.length_drop]
  omega
theorem sg36 : ("abcdefghijklmnopqrstuvwxyz0123456789" : Str).cps.toList.length = 36 := by decide +kernel
theorem one_len (c : Nat) : (⟨#[c]⟩ : Str).length = 1 := rfl
noncomputable def sgn (k : Nat) : Nat := ("abcdefghijklmnop" : Str).cps.toList.getD k 0
noncomputable def w1 (A B : Str) (k : Nat) : Str := A ++ ⟨#[sgn k]⟩ ++ B
noncomputable def t7 (z : Int) : Nat := (atI ("t7" : Str).cps.toList z).getD 0
noncomputable def w2 (x : Str) (k : Nat) : Str := x ++ ⟨#[t7 ((0 + (k : Int)) % 2)]⟩ ++ ⟨#[t7 ((0 + (k : Int)) / 2 % 2)]⟩ ++ ⟨#[t7 ((0 + (k : Int)) / 4 % 2)]⟩ ++ ⟨#[t7 ((0 + (k : Int)) / 8)]⟩
noncomputable def w3 (x : Str) (c : Nat) (k : Nat) : Str := if 7 < k then (⟨#[c]⟩ : Str) ++ Txt.slice (Txt.slice x none (some (5 + (0 + (k : Int)) % 8))) (some 1) none else Txt.slice x none (some (5 + (0 + (k : Int)) % 8))
theorem at_getD {l : List Nat} {i : Nat} (h : i < l.length) : atI l (0 + (i : Int)) = some (l.getD i 0) := by
  rw [Int.zero_add, List.getD_eq_getElem?_getD, List.getElem?_eq_getElem h]
  exact atI_nat (List.getElem?_eq_getElem h)
theorem app_list (a b : Str) : (a ++ b).cps.toList = a.cps.toList ++ b.cps.toList := Array.toList_append
theorem map_nodup {f : Nat → Str} (h : ∀ a, a < 16 → ∀ b, b < 16 → a ≠ b → f a ≠ f b) : ((List.range 16).map f).Nodup := by
  rw [List.Nodup, List.pairwise_map]
  refine List.Pairwise.imp_of_mem (fun {a b} ha hb hlt => ?_) List.pairwise_lt_range
  exact h a (List.mem_range.mp ha) b (List.mem_range.mp hb) (Nat.ne_of_lt hlt)
theorem sgn_ne : ∀ a, a < 16 → ∀ b, b < 16 → a ≠ b → sgn a ≠ sgn b := by decide +kernel
theorem bit_ne : ∀ a : Nat, a < 16 → ∀ b : Nat, b < 16 → a ≠ b → [t7 ((0 + (a : Int)) % 2), t7 ((0 + (a : Int)) / 2 % 2), t7 ((0 + (a : Int)) / 4 % 2), t7 ((0 + (a : Int)) / 8)] ≠ [t7 ((0 + (b : Int)) % 2), t7 ((0 + (b : Int)) / 2 % 2), t7 ((0 + (b : Int)) / 4 % 2), t7 ((0 + (b : Int)) / 8)] := by decide +kernel
theorem w1_nodup (A B : Str) : ((List.range 16).map (w1 A B)).Nodup := map_nodup fun a ha b hb hn e => by
  have h := congrArg (fun z : Str => z.cps.toList) e
  simp only [w1, app_list] at h
  have h2 := List.append_cancel_left (List.append_cancel_right h)
  injection h2 with h3 _
  exact sgn_ne a ha b hb hn h3
theorem w2_nodup (x : Str) : ((List.range 16).map (w2 x)).Nodup := map_nodup fun a ha b hb hn e => by
  have h := congrArg (fun z : Str => z.cps.toList) e
  simp only [w2, app_list, List.append_assoc] at h
  have h2 := List.append_cancel_left h
  exact bit_ne a ha b hb hn h2
theorem w3_cps {x : Str} {c k : Nat} (hx : x.length = 12) : (w3 x c k).cps.toList = if 7 < k then c :: (x.cps.toList.take (5 + k % 8)).drop 1 else x.cps.toList.take (5 + k % 8) := by
  have e : (5 + (0 + (k : Int)) % 8) = ((5 + k % 8 : Nat) : Int) := by omega
  have a1 : (Txt.slice x none (some (5 + (0 + (k : Int)) % 8))).cps.toList = x.cps.toList.take (5 + k % 8) := by
    rw [e, sl_to (by omega) (by omega), Int.toNat_natCast]
  unfold w3
  by_cases h : 7 < k
  · rw [if_pos h, if_pos h, app_list, sl_from (by decide) (by
      have hx' : x.cps.toList.length = 12 := hx
      show (1 : Int) ≤ ((Txt.slice x none (some (5 + (0 + (k : Int)) % 8))).cps.toList.length : Nat)
      rw [a1, List.length_take, hx']
      omega), a1]
    rfl
  · rw [if_neg h, if_neg h, a1]
theorem w3_len {x : Str} {c k : Nat} (hx : x.length = 12) : (w3 x c k).cps.toList.length = 5 + k % 8 := by
  have hx' : x.cps.toList.length = 12 := hx
  rw [w3_cps hx]
  by_cases h : 7 < k
  · rw [if_pos h, List.length_cons, List.length_drop, List.length_take, hx']
    omega
  · rw [if_neg h, List.length_take, hx']
    omega
theorem w3_nodup {x : Str} {c c0 : Nat} (hx : x.length = 12) (h0 : x.cps.toList[0]? = some c0) (hc : c ≠ c0) : ((List.range 16).map (w3 x c)).Nodup := map_nodup fun a ha b hb hn e => by
  have h := congrArg (fun z : Str => z.cps.toList) e
  have hl := congrArg List.length h
  simp only [w3_len hx] at hl
  have hd := congrArg (fun z : List Nat => z[0]?) h
  simp only [w3_cps hx] at hd
  have t0 : ∀ n : Nat, (x.cps.toList.take (5 + n % 8))[0]? = some c0 := fun n => by
    rw [List.getElem?_take, if_pos (by omega)]
    exact h0
  by_cases h1 : 7 < a
  · by_cases h2 : 7 < b
    · omega
    · rw [if_pos h1, if_neg h2, t0, List.getElem?_cons_zero] at hd
      exact hc (Option.some.inj hd)
  · by_cases h2 : 7 < b
    · rw [if_neg h1, if_pos h2, t0, List.getElem?_cons_zero] at hd
      exact hc (Option.some.inj hd).symm
    · omega
theorem range_snoc {f : Nat → Str} (i : Nat) : (List.range (i + 1)).map f = (List.range i).map f ++ [f i] := by
  rw [List.range_succ, List.map_append]
  rfl
noncomputable def Wd (H : Hp) (l : Addr) (ws : List Str) : Prop := H l = some (.lst (ws.map V.str)) ∧ ws.length = 16 ∧ ws.Nodup ∧ ∀ x ∈ ws, x.length ≤ 300 ∧ 5 ≤ x.length
section
variable {P : Program} {w : World} {K : PySem.W.Frag} {mg : Str → Option Value} {base : Heap}
theorem cTI_t {j : Nat} {M n : Int} {σ : St} {H : Hp} {Q : Bool → Hp → Prop} (hv : σ[j]? = some (some (.int M))) (h : M = n) (q : Q true H) : cT (tOp (cEq false) (cV j) (tC (.int n))) σ H Q := by
  show onV σ[j]? _
  rw [hv]
  show Q (false ^^ decide (M = n)) H
  rw [decide_eq_true h]
  exact q
theorem cTI_f {j : Nat} {M n : Int} {σ : St} {H : Hp} {Q : Bool → Hp → Prop} (hv : σ[j]? = some (some (.int M))) (h : M ≠ n) (q : Q false H) : cT (tOp (cEq false) (cV j) (tC (.int n))) σ H Q := by
  show onV σ[j]? _
  rw [hv]
  show Q (false ^^ decide (M = n)) H
  rw [decide_eq_false h]
  exact q
theorem cTG {j : Nat} {M n : Int} {σ : St} {H : Hp} {Q : Bool → Hp → Prop} (hv : σ[j]? = some (some (.int M))) (q : Q (decide (n < M)) H) : cT (tOp (cI0 fun i j => V.bl (decide (j < i))) (cV j) (tC (.int n))) σ H Q := by
  show onV σ[j]? _
  rw [hv]
  exact q
theorem ifI_t {j : Nat} {M n : Int} {A B : TS} {D : Ends} {σ : St} {H : Hp} (hv : σ[j]? = some (some (.int M))) (h : M = n) (q : A D σ H) : tIfS (cT (tOp (cEq false) (cV j) (tC (.int n)))) A B D σ H := cTI_t hv h (iteT q)
theorem ifI_f {j : Nat} {M n : Int} {A B : TS} {D : Ends} {σ : St} {H : Hp} (hv : σ[j]? = some (some (.int M))) (h : M ≠ n) (q : B D σ H) : tIfS (cT (tOp (cEq false) (cV j) (tC (.int n)))) A B D σ H := cTI_f hv h (iteF q)
theorem ifG_t {j : Nat} {M n : Int} {A B : TS} {D : Ends} {σ : St} {H : Hp} (hv : σ[j]? = some (some (.int M))) (h : n < M) (q : A D σ H) : tIfS (cT (tOp (cI0 fun i j => V.bl (decide (j < i))) (cV j) (tC (.int n)))) A B D σ H := cTG hv (by rw [decide_eq_true h]; exact iteT q)
theorem ifG_f {j : Nat} {M n : Int} {A B : TS} {D : Ends} {σ : St} {H : Hp} (hv : σ[j]? = some (some (.int M))) (h : ¬ n < M) (q : B D σ H) : tIfS (cT (tOp (cI0 fun i j => V.bl (decide (j < i))) (cV j) (tC (.int n)))) A B D σ H := cTG hv (by rw [decide_eq_false h]; exact iteF q)
theorem sifI_t {j : Nat} {M n : Int} {A B u : TS} {D : Ends} {σ : St} {H : Hp} (hv : σ[j]? = some (some (.int M))) (h : M = n) (q : A { D with nx := u D } σ H) : tSeq (tIfS (cT (tOp (cEq false) (cV j) (tC (.int n)))) A B) u D σ H := ifI_t hv h q
theorem sifI_f {j : Nat} {M n : Int} {A B u : TS} {D : Ends} {σ : St} {H : Hp} (hv : σ[j]? = some (some (.int M))) (h : M ≠ n) (q : B { D with nx := u D } σ H) : tSeq (tIfS (cT (tOp (cEq false) (cV j) (tC (.int n)))) A B) u D σ H := ifI_f hv h q
noncomputable def sp__law_stem : Sp := fun vs H Q _ => ∃ (c : Int) (m : Nat), vs = [.int c, .int (m : Int)] ∧ 1 ≤ m ∧ m ≤ 100 ∧ ∀ x : Str, x.length = m → Q (.str x) H
theorem ok__law_stem (T : Txt K mg) : FnOk P w K mg base CX0 1 T.a__law_stem T.fd__law_stem ["_law_cell", "_law_size"] sp__law_stem := by
  refine T.F__law_stem.ok sc__law_stem (fun vs H Q E h => ?_) (fun cdv A outer s H vs Q E hr h => ?_)
  · obtain ⟨c, m, rfl, _⟩ := h
    rfl
  obtain ⟨c, m, rfl, h0, h1, q⟩ := h
  refine ⟨_, (pss_cons (ps_set (i := 2) sc__law_stem.nd rfl (Or.inl rfl) pe_str)
    (pss_cons (ps_set (i := 3) sc__law_stem.nd rfl (Or.inl rfl) (pe_ix xc_str (cv 2) (pe_op oc_mod (cv 0) pe_int) (fun _ _ => rfl)))
    (pss_cons (ps_for PassesOwn.never rfl (pi_range1 rfl T.z_range (pa_cons (pe_op oc_sub (cv 1) pe_int) pa_nil)) (pg_name (i := 4) sc__law_stem.nd rfl (Or.inl rfl))
      (pss_cons (ps_set (i := 0) sc__law_stem.nd rfl (Or.inl rfl) (pe_op oc_fdiv (cv 0) pe_int))
      (pss_one (ps_set (i := 3) sc__law_stem.nd rfl (Or.inl rfl) (pe_op oc_addS (cv 3) (pe_ix xc_str (cv 2) (pe_op oc_mod (cv 0) pe_int) (fun _ _ => rfl)))))))
    (pss_one (ps_ret (cv 3)))))), ?_⟩
  have sl : sizeLine = 16777216 := sizeLine_eq
  have step : ∀ (c n : Int), (n = 26 ∨ n = 36) → ∃ ch : Nat, atI ("abcdefghijklmnopqrstuvwxyz0123456789" : Str).cps.toList (c % n) = some ch := fun c n hn => by
    have hp : (0 : Int) < n := by omega
    have a0 := Int.emod_nonneg c (Int.ne_of_gt hp)
    have a1 := Int.emod_lt_of_pos c hp
    obtain ⟨ch, e, _⟩ := atI_lt ("abcdefghijklmnopqrstuvwxyz0123456789" : Str).cps.toList (c % n) a0 (by rw [sg36]; omega)
    exact ⟨ch, e⟩
  obtain ⟨ch, e⟩ := step c 26 (.inl rfl)
  refine ⟨(by show (0 : Int) < 26; decide), sz (by decide +kernel), onS_of e ⟨_, rfl, by omega, by omega, for_range (fun i σ H2 => ∃ (y : Str) (c : Int) (o : Option V), σ = [some (.int c), some (.int (m : Int)), some (.str "abcdefghijklmnopqrstuvwxyz0123456789"), some (.str y), o] ∧ H2 = H ∧ y.length = i + 1)
    ⟨_, c, none, rfl, rfl, rfl⟩ ?_ ?_⟩⟩
  · rintro i σ H2 hi ⟨y, c, o, rfl, rfl, hy⟩
    obtain ⟨ch, e⟩ := step (c / 36) 36 (.inr rfl)
    exact ⟨⟨by decide, by decide⟩, (by show (0 : Int) < 36; decide), sz (by decide +kernel), onS_of e ⟨by rw [one_len]; omega, _, _, _, rfl, rfl, by rw [Str.length_append, one_len]; omega⟩⟩
  · rintro σ H2 ⟨y, c, o, rfl, rfl, hy⟩
    exact q y (by omega)
noncomputable def sp__law_words : Sp := fun vs H Q _ => ∃ c : Int, vs = [.int c] ∧ ∀ l ws H', Same H H' → H l = none → Wd H' l ws → Q (.ref l) H'
theorem ok__law_words (T : Txt K mg) : FnOk P w K mg base CX0 2 T.a__law_words T.fd__law_words ["_law_cell"] sp__law_words := by
  have G__law_stem := ok__law_stem (P := P) (w := w) (base := base) T
  refine T.F__law_words.ok sc__law_words (fun vs H Q E h => ?_) (fun cdv A outer s H vs Q E hr h => ?_)
  · obtain ⟨c, rfl, _⟩ := h
    rfl
  obtain ⟨c, rfl, q⟩ := h
  refine ⟨_, (pss_cons (ps_set (i := 0) sc__law_words.nd rfl (Or.inl rfl) (pe_op oc_mod (pe_op oc_mul (pe_op oc_add (pe_op oc_mod (cv 0) (pe_op oc_pow pe_int pe_int)) pe_int) pe_int) (pe_op oc_add (pe_op oc_pow pe_int pe_int) pe_int)))
    (pss_cons (ps_set (i := 1) sc__law_words.nd rfl (Or.inl rfl) (pe_op oc_add (pe_op oc_mod (cv 0) pe_int) pe_int))
    (pss_cons (ps_set (i := 2) sc__law_words.nd rfl (Or.inl rfl) (pe_op oc_mod (pe_op oc_fdiv (cv 0) pe_int) pe_int))
    (pss_cons (ps_set (i := 3) sc__law_words.nd rfl (Or.inl rfl) (pe_call G__law_stem (hr.mono (by decide)) rfl T.m__law_stem T.k__law_stem T.b__law_stem .nil pass0 (pa_cons (pe_op oc_fdiv (cv 0) pe_int) (pa_cons pe_int pa_nil))))
    (pss_cons (ps_set (i := 4) sc__law_words.nd rfl (Or.inl rfl) (pe_op oc_mod (pe_op oc_fdiv (cv 0) pe_int) (pe_op oc_add (cv 1) pe_int)))
    (pss_cons (ps_set (i := 5) sc__law_words.nd rfl (Or.inl rfl) (pe_lst pa_nil))
    (pss_cons (ps_for PassesOwn.never rfl (pi_range1 rfl T.z_range (pa_cons pe_int pa_nil)) (pg_name (i := 6) sc__law_words.nd rfl (Or.inl rfl))
      (pss_cons (ps_set (i := 7) sc__law_words.nd rfl (Or.inl rfl) (pe_slice sl_str (cv 3) po_none (po_some (cv 1))))
      (pss_cons (ps_if (ptc_cmpR oc_eq (cv 2) pe_int (nomark _))
        (pss_one (ps_set (i := 7) sc__law_words.nd rfl (Or.inl rfl) (pe_op oc_addS (pe_op oc_addS (pe_slice sl_str (cv 7) po_none (po_some (cv 4))) (pe_ix xc_str pe_str (cv 6) (fun _ _ => rfl))) (pe_slice sl_str (cv 7) (po_some (cv 4)) po_none))))
        (pss_one (ps_if (ptc_cmpR oc_eq (cv 2) pe_int (nomark _))
          (pss_cons (ps_set (i := 7) sc__law_words.nd rfl (Or.inl rfl) (pe_op oc_addS (pe_op oc_addS (pe_slice sl_str (cv 7) po_none (po_some (pe_op oc_sub (cv 1) pe_int))) (pe_ix xc_str pe_str (pe_op oc_mod (cv 6) pe_int) (fun _ _ => rfl))) (pe_ix xc_str pe_str (pe_op oc_mod (pe_op oc_fdiv (cv 6) pe_int) pe_int) (fun _ _ => rfl))))
          (pss_one (ps_set (i := 7) sc__law_words.nd rfl (Or.inl rfl) (pe_op oc_addS (pe_op oc_addS (cv 7) (pe_ix xc_str pe_str (pe_op oc_mod (pe_op oc_fdiv (cv 6) pe_int) pe_int) (fun _ _ => rfl))) (pe_ix xc_str pe_str (pe_op oc_fdiv (cv 6) pe_int) (fun _ _ => rfl))))))
          (pss_cons (ps_set (i := 7) sc__law_words.nd rfl (Or.inl rfl) (pe_slice sl_str (cv 3) po_none (po_some (pe_op oc_add pe_int (pe_op oc_mod (cv 6) pe_int)))))
          (pss_one (ps_if (ptc_cmpR oc_gt (cv 6) pe_int (nomark _))
            (pss_one (ps_set (i := 7) sc__law_words.nd rfl (Or.inl rfl) (pe_op oc_addS (pe_ix xc_str pe_str (pe_callTy call_int1 rfl T.z_int bt_int (pa_cons (pe_cmpR oc_eq (pe_ix xc_str (cv 3) pe_int (fun _ _ => rfl)) pe_str (nomark _)) pa_nil)) (fun _ _ => rfl)) (pe_slice sl_str (cv 7) (po_some pe_int) po_none))))
            pss_nil))))))
      (pss_one (ps_expr (pec_app (pe_bm PySem.F.plainAttrs_list PySem.F.slot_list_append PySem.F.type_list_append mt_append (PE.mono (cv 5)) (pa_cons (PE.mono (cv 7)) pa_nil))))))))
    (pss_one (ps_ret (cv 5)))))))))), ?_⟩
  have sl : sizeLine = 16777216 := sizeLine_eq
  refine ⟨⟨by decide, by decide, by decide⟩, (by show (0 : Int) < 10 ^ (24 : Int).toNat; decide +kernel), .inr ⟨by decide, by decide⟩, ⟨by decide, by decide, by decide⟩, (by show (0 : Int) < 10 ^ (24 : Int).toNat + 7; decide +kernel), ?_⟩
  dsimp only [gName]
  generalize (c % 10 ^ (24 : Int).toNat + 5) * 7046029254386353131 % (10 ^ (24 : Int).toNat + 7) = c
  refine ⟨(by show (0 : Int) < 8; decide), ⟨by decide, by decide⟩, (by show (0 : Int) < 3; decide), ⟨by decide, by decide⟩, _, 12, rfl, by decide, by decide, fun x hx => ⟨⟨by decide, by decide⟩, ?_⟩⟩
  have s0 := Int.emod_nonneg c (show (8 : Int) ≠ 0 by decide)
  have s1 := Int.emod_lt_of_pos c (show (0 : Int) < 8 by decide)
  have hxl : x.cps.toList.length = 12 := hx
  obtain ⟨c0, hc0⟩ : ∃ c0, x.cps.toList[0]? = some c0 := ⟨_, List.getElem?_eq_getElem (by omega)⟩
  refine ⟨(by show (0 : Int) < c % 8 + 4 + 1; omega), (by show 0 ≤ sizeLine; decide), fun l hl => ?_⟩
  have S1 : Same H (upd H l (.lst [])) := same_new hl _
  have e1 : (upd H l (.lst [])) l = some (.lst []) := upd_same
  dsimp only [gName]
  generalize upd H l (.lst []) = H1 at S1 e1 ⊢
  obtain ⟨sz_, hsz⟩ : ∃ z, z = c % 8 + 4 := ⟨_, rfl⟩
  obtain ⟨at_, hat⟩ : ∃ z, z = c / 24 % (c % 8 + 4 + 1) := ⟨_, rfl⟩
  obtain ⟨M, hM⟩ : ∃ z, z = c / 8 % 3 := ⟨_, rfl⟩
  rw [← hat, ← hsz, ← hM]
  obtain ⟨cc, hcc, hne⟩ : ∃ cc : Nat, atI ("ab" : Str).cps.toList (if (false ^^ decide ((⟨#[c0]⟩ : Str) = ("a" : Str))) = true then 1 else 0) = some cc ∧ cc ≠ c0 := by
    by_cases z : (⟨#[c0]⟩ : Str) = ("a" : Str)
    · rw [decide_eq_true z]
      refine ⟨98, by decide +kernel, fun w => ?_⟩
      rw [← w] at z
      exact absurd z (by decide +kernel)
    · rw [decide_eq_false z]
      refine ⟨97, by decide +kernel, fun w => z ?_⟩
      rw [← w]
      decide +kernel
  let f : Nat → Str := if M = 0 then w1 (Txt.slice (Txt.slice x none (some sz_)) none (some at_)) (Txt.slice (Txt.slice x none (some sz_)) (some at_) none) else if M = 1 then w2 (Txt.slice (Txt.slice x none (some sz_)) none (some (sz_ - 3))) else w3 x cc
  have lb0 := Txt.slice_le x none (some sz_)
  have lb1 := Txt.slice_le (Txt.slice x none (some sz_)) none (some at_)
  have lb2 := Txt.slice_le (Txt.slice x none (some sz_)) (some at_) none
  have lb3 := Txt.slice_le (Txt.slice x none (some sz_)) none (some (sz_ - 3))
  have fnd : ((List.range 16).map f).Nodup := by
    show ((List.range 16).map (if M = 0 then _ else if M = 1 then _ else _)).Nodup
    by_cases h : M = 0
    · rw [if_pos h]; exact w1_nodup _ _
    · rw [if_neg h]
      by_cases h' : M = 1
      · rw [if_pos h']; exact w2_nodup _
      · rw [if_neg h']; exact w3_nodup hx hc0 hne
  have fle : ∀ k, (f k).length ≤ 300 := fun k => by
    show ((if M = 0 then _ else if M = 1 then _ else _ : Nat → Str) k).length ≤ 300
    by_cases h : M = 0
    · rw [if_pos h, w1, Str.length_append, Str.length_append, one_len]; omega
    · rw [if_neg h]
      by_cases h' : M = 1
      · rw [if_pos h', w2, Str.length_append, Str.length_append, Str.length_append, Str.length_append, one_len, one_len, one_len, one_len]; omega
      · rw [if_neg h']
        have := w3_len (c := cc) (k := k) hx
        show (w3 x cc k).cps.toList.length ≤ 300
        omega
  have lz : (Txt.slice x none (some sz_)).length = sz_.toNat := by
    show (Txt.slice x none (some sz_)).cps.toList.length = _
    rw [sl_to (by omega) (by rw [hx]; omega), List.length_take]
    omega
  have a0 : 0 ≤ at_ := by rw [hat]; exact Int.emod_nonneg _ (by omega)
  have a1 : at_ < c % 8 + 4 + 1 := by rw [hat]; exact Int.emod_lt_of_pos _ (by omega)
  have la : (Txt.slice (Txt.slice x none (some sz_)) none (some at_)).length = at_.toNat := by
    show (Txt.slice _ none (some at_)).cps.toList.length = _
    have l2 : (Txt.slice x none (some sz_)).cps.toList.length = sz_.toNat := lz
    rw [sl_to a0 (by rw [lz]; omega), List.length_take]
    omega
  have lb : (Txt.slice (Txt.slice x none (some sz_)) (some at_) none).length = sz_.toNat - at_.toNat := by
    show (Txt.slice _ (some at_) none).cps.toList.length = _
    have l2 : (Txt.slice x none (some sz_)).cps.toList.length = sz_.toNat := lz
    rw [sl_from a0 (by rw [lz]; omega), List.length_drop, l2]
  have lc : (Txt.slice (Txt.slice x none (some sz_)) none (some (sz_ - 3))).length = (sz_ - 3).toNat := by
    show (Txt.slice _ none (some (sz_ - 3))).cps.toList.length = _
    have l2 : (Txt.slice x none (some sz_)).cps.toList.length = sz_.toNat := lz
    rw [sl_to (by omega) (by rw [lz]; omega), List.length_take]
    omega
  have fge : ∀ k, 5 ≤ (f k).length := fun k => by
    show 5 ≤ ((if M = 0 then _ else if M = 1 then _ else _ : Nat → Str) k).length
    by_cases h : M = 0
    · rw [if_pos h, w1, Str.length_append, Str.length_append, one_len, la, lb]; omega
    · rw [if_neg h]
      by_cases h' : M = 1
      · rw [if_pos h', w2, Str.length_append, Str.length_append, Str.length_append, Str.length_append, one_len, one_len, one_len, one_len, lc]; omega
      · rw [if_neg h']
        have := w3_len (c := cc) (k := k) hx
        show 5 ≤ (w3 x cc k).cps.toList.length
        omega
  refine ⟨16, rfl, by decide, by decide, for_range (fun i σ H2 => ∃ (o6 o7 : Option V), σ = [some (.int c), some (.int sz_), some (.int M), some (.str x), some (.int at_), some (.ref l), o6, o7] ∧ Same H H2 ∧ H2 l = some (.lst (((List.range i).map f).map V.str)))
    ⟨none, none, rfl, S1, e1⟩ ?_ ?_⟩
  · rintro i σ H2 hi ⟨o6, o7, rfl, S, e⟩
    have hi16 : i < 16 := hi
    have ap : ∀ wd : Str, wd = f i → (∃ xs, H2 l = some (.lst xs)) ∧ ∃ xs, H2 l = some (.lst xs) ∧ xs.length < sizeLine ∧ ∃ (o6 o7 : Option V), [some (V.int c), some (.int sz_), some (.int M), some (.str x), some (.int at_), some (.ref l), some (.int (0 + (i : Int))), some (.str wd)] = [some (V.int c), some (.int sz_), some (.int M), some (.str x), some (.int at_), some (.ref l), o6, o7] ∧ Same H (upd H2 l (.lst (xs ++ [.str wd]))) ∧ (upd H2 l (.lst (xs ++ [.str wd]))) l = some (.lst (((List.range (i + 1)).map f).map V.str)) := fun wd hw => by
      refine ⟨⟨_, e⟩, _, e, by rw [List.length_map, List.length_map, List.length_range]; omega, _, _, rfl, same_upd S hl _, ?_⟩
      rw [upd_same, range_snoc, List.map_append, hw]
      rfl
    refine ⟨sz_, rfl, x, rfl, by omega, ?_⟩
    dsimp only [gName]
    by_cases h : M = 0
    · have hf : f i = w1 (Txt.slice (Txt.slice x none (some sz_)) none (some at_)) (Txt.slice (Txt.slice x none (some sz_)) (some at_) none) i := by
        show (if M = 0 then _ else if M = 1 then _ else _ : Nat → Str) i = _
        rw [if_pos h]
      have e2 := at_getD (l := ("abcdefghijklmnop" : Str).cps.toList) (i := i) (by rw [show ("abcdefghijklmnop" : Str).cps.toList.length = 16 by decide +kernel]; omega)
      refine sifI_t rfl h ⟨at_, rfl, _, rfl, by omega, sz (by decide +kernel), onS_of e2 ⟨by rw [one_len]; omega, at_, rfl, _, rfl, by omega, by rw [Str.length_append, one_len]; omega, ?_⟩⟩
      exact ap _ hf.symm
    · refine sifI_f rfl h ?_
      by_cases h' : M = 1
      · have hf : f i = w2 (Txt.slice (Txt.slice x none (some sz_)) none (some (sz_ - 3))) i := by
          show (if M = 0 then _ else if M = 1 then _ else _ : Nat → Str) i = _
          rw [if_neg h, if_pos h']
        have tt : ∀ z : Int, 0 ≤ z → z < 2 → atI ("t7" : Str).cps.toList z = some (t7 z) := fun z z0 z1 => by
          obtain ⟨ch, e1, _⟩ := atI_lt ("t7" : Str).cps.toList z z0 (by rw [show ("t7" : Str).cps.toList.length = 2 by decide +kernel]; exact z1)
          rw [t7, e1]
          rfl
        have a1 := tt ((0 + (i : Int)) % 2) (by omega) (by omega)
        have a2 := tt ((0 + (i : Int)) / 2 % 2) (by omega) (by omega)
        have a3 := tt ((0 + (i : Int)) / 4 % 2) (by omega) (by omega)
        have a4 := tt ((0 + (i : Int)) / 8) (by omega) (by omega)
        have p2 : (0 : Int) < 2 := by decide
        have z7 : ("t7" : Str).length ≤ sizeLine := sz (by decide +kernel)
        refine ifI_t rfl h' ⟨sz_ - 3, rfl, _, rfl, by omega, p2, z7, onS_of a1 ⟨by rw [one_len]; omega, ⟨by decide, by decide⟩, p2, z7, onS_of a2 ⟨by rw [Str.length_append, one_len, one_len]; omega, ⟨by decide, by decide⟩, p2, z7, onS_of a3 ⟨by rw [Str.length_append, Str.length_append, one_len, one_len, one_len]; omega, ⟨by decide, by decide⟩, z7, onS_of a4 ⟨by rw [Str.length_append, Str.length_append, Str.length_append, one_len, one_len, one_len, one_len]; omega, ?_⟩⟩⟩⟩⟩
        exact ap _ hf.symm
      · have hf : f i = w3 x cc i := by
          show (if M = 0 then _ else if M = 1 then _ else _ : Nat → Str) i = _
          rw [if_neg h, if_neg h']
        have lb4 := Txt.slice_le x none (some (5 + (0 + (i : Int)) % 8))
        have lb5 := Txt.slice_le (Txt.slice x none (some (5 + (0 + (i : Int)) % 8))) (some 1) none
        refine ifI_f rfl h' ⟨(by show (0 : Int) < 8; decide), 5 + (0 + (i : Int)) % 8, rfl, x, rfl, by omega, ?_⟩
        dsimp only [gName]
        by_cases h7 : 7 < i
        · refine ifG_t rfl (show (7 : Int) < 0 + (i : Int) by omega) ⟨by omega, onS_of (atI_nat hc0) (.inr ⟨_, rfl, sz (by decide +kernel), onS_of hcc ⟨1, rfl, _, rfl, by omega, by rw [one_len]; omega, ?_⟩⟩)⟩
          exact ap _ (by rw [hf, w3, if_pos h7])
        · exact ifG_f rfl (show ¬ (7 : Int) < 0 + (i : Int) by omega) (ap _ (by rw [hf, w3, if_neg h7]))
  · rintro σ H2 ⟨o6, o7, rfl, S, e⟩
    exact q l _ H2 S hl ⟨e, by rw [List.length_map, List.length_range]; rfl, fnd, fun y hy => by obtain ⟨k, _, rfl⟩ := List.mem_map.mp hy; exact ⟨fle k, fge k⟩⟩
end
end K11.Internal
namespace K11.Internal
open PySem L2.Internal BO.Internal
seal L2.Internal.PE L2.Internal.PA L2.Internal.PS L2.Internal.PSs L2.Internal.PT L2.Internal.PI
noncomputable abbrev Hm := Str × Int
noncomputable def hmD (h : Hm) : Dt := .tup [.flat (.str h.1), .flat (.int h.2)]
noncomputable def Sc (H : Hp) (a : Addr) (g : Str → Option Hm) (n : Nat) : Prop := ∃ kvs : List (Key × V), H a = some (.dK kvs) ∧ kvs.length ≤ n ∧ ∀ w : Str, match g w with
  | none => valV kvs (.inr w) = none
  | some h => ∃ t, valV kvs (.inr w) = some (.ref t) ∧ H t = some (.tup [.str h.1, .int h.2])
theorem Sc.same {H H' : Hp} {a : Addr} {g : Str → Option Hm} {n : Nat} (h : Sc H a g n) (s : Same H H') : Sc H' a g n := by
  obtain ⟨kvs, e, l, h⟩ := h
  refine ⟨kvs, s _ _ e, l, fun w => ?_⟩
  have := h w
  cases hg : g w with
  | none => rw [hg] at this; exact this
  | some z =>
    rw [hg] at this
    obtain ⟨t, h1, h2⟩ := this
    exact ⟨t, h1, s _ _ h2⟩
noncomputable def wid (g : Str → Option Hm) (x : Str) (h : Hm) : Str → Option Hm := fun w => if w = x then some h else g w
section
variable {P : Program} {w : World} {K : PySem.W.Frag} {mg : Str → Option Value} {base : Heap}
noncomputable def sp_widened : Sp := fun vs H Q _ => ∃ (a t : Addr) (g : Str → Option Hm) (n : Nat) (x : Str) (h : Hm), vs = [.ref a, .str x, .ref t] ∧ Sc H a g n ∧ n < 10000 ∧ H t = some (.tup [.str h.1, .int h.2]) ∧ ∀ b H', Same H H' → H b = none → Sc H' b (wid g x h) (n + 1) → Q (.ref b) H'
theorem ok_widened (T : Txt K mg) : FnOk P w K mg base CX0 1 T.a_widened T.fd_widened ["scope", "name", "home"] sp_widened := by
  refine T.F_widened.ok sc_widened (fun vs H Q E h => ?_) (fun cdv A outer s H vs Q E hr h => ?_)
  · obtain ⟨a, t, g, n, x, h, rfl, _⟩ := h
    rfl
  have hu := hu_of hr
  obtain ⟨a, t, g, n, x, h, rfl, ⟨kvs, e, l, hk⟩, hn, et, q⟩ := h
  refine ⟨_, (pss_cons (ps_set (i := 3) sc_widened.nd rfl (Or.inl rfl) (pe_callTy call_dictD rfl T.z_dict bt_dict (pa_cons (cv 0) pa_nil)))
    (pss_cons (ps_dput hu (cv 3) (cv 1) (cv 2) rfl)
    (pss_one (ps_ret (cv 3))))), ?_⟩
  have sl : sizeLine = 16777216 := sizeLine_eq
  refine ⟨a, kvs, rfl, e, fun b hb => ?_⟩
  have s1 := same_new hb (.dK kvs)
  have eb : (upd H b (.dK kvs)) b = some (.dK kvs) := upd_same
  dsimp only [gName]
  refine ⟨b, _, rfl, DPut.k (k := Sum.inr x) eb (by omega), ?_⟩
  have tk : ∀ {y : Addr} {xs : List V}, H y = some (.tup xs) → (upd (upd H b (.dK kvs)) b (.dK (putK kvs (Sum.inr x) (.ref t)))) y = some (.tup xs) := fun {y xs} ey => by rw [upd_ne (ne_of (s1 _ _ ey) eb (fun h => nomatch h))]; exact s1 _ _ ey
  refine q b _ (same_upd s1 hb _) hb ⟨_, upd_same, Nat.le_trans (length_putK _ _ _) (by omega), fun w => ?_⟩
  unfold wid
  by_cases hw : w = x
  · rw [if_pos hw]
    exact ⟨t, by rw [valV_put, if_pos (by rw [hw])], tk et⟩
  · rw [if_neg hw]
    have hh := hk w
    have hv : valV (putK kvs (Sum.inr x) (.ref t)) (.inr w) = valV kvs (.inr w) := by rw [valV_put, if_neg (fun z => hw (by injection z))]
    cases hg : g w with
    | none => rw [hg] at hh; exact hv.trans hh
    | some z =>
      rw [hg] at hh
      obtain ⟨t', h1, h2⟩ := hh
      exact ⟨t', hv.trans h1, tk h2⟩
end
end K11.Internal
namespace K11.Internal
open PySem L2.Internal BO.Internal
seal L2.Internal.PE L2.Internal.PA L2.Internal.PS L2.Internal.PSs L2.Internal.PT L2.Internal.PI
mutual
noncomputable def flV : Dt → List V
  | .flat v => [v]
  | .tup ds => flVs ds
  | .lst _ => []
noncomputable def flVs : List Dt → List V
  | [] => []
  | d :: ds => flV d ++ flVs ds
end
mutual
noncomputable def okF : Dt → Bool
  | .flat v => (match v with | .int _ => true | .str _ => true | _ => false)
  | .tup ds => okFs ds
  | .lst _ => false
noncomputable def okFs : List Dt → Bool
  | [] => true
  | d :: ds => okF d && okFs ds
end
theorem flVs_snoc : ∀ (l : List Dt) (d : Dt), flVs (l ++ [d]) = flVs l ++ flV d
  | [], d => by simp [flVs]
  | a :: l, d => by rw [List.cons_append, flVs, flVs, flVs_snoc l d, List.append_assoc]
theorem okFs_get : ∀ {l : List Dt} {i : Nat} {d : Dt}, okFs l = true → l[i]? = some d → okF d = true
  | a :: l, 0, d, h, e => by cases e; rw [okFs, Bool.and_eq_true] at h; exact h.1
  | a :: l, i + 1, d, h, e => by rw [okFs, Bool.and_eq_true] at h; rw [List.getElem?_cons_succ] at e; exact okFs_get h.2 e
theorem flVs_take_le : ∀ (l : List Dt) (i : Nat), (flVs (l.take i)).length ≤ (flVs l).length
  | [], i => by simp [flVs]
  | a :: l, 0 => by simp [flVs]
  | a :: l, i + 1 => by
    rw [List.take_succ_cons, flVs, flVs, List.length_append, List.length_append]
    have := flVs_take_le l i
    omega
theorem flV_get_le : ∀ {l : List Dt} {i : Nat} {d : Dt}, l[i]? = some d → (flV d).length ≤ (flVs l).length
  | a :: l, 0, d, e => by cases e; rw [flVs, List.length_append]; omega
  | a :: l, i + 1, d, e => by
    rw [List.getElem?_cons_succ] at e
    have := flV_get_le e
    rw [flVs, List.length_append]
    omega
theorem ims_get' {H : Hp} : ∀ {xs : List V} {ds : List Dt} {j : Nat} {x : V}, Ims H xs ds → xs[j]? = some x → ∃ d, ds[j]? = some d ∧ Im H x d
  | _, _, 0, _, .cons h _, e => ⟨_, rfl, by cases e; exact h⟩
  | _, _, j + 1, _, .cons _ t, e => by
    rw [List.getElem?_cons_succ] at e
    obtain ⟨d, e1, e2⟩ := ims_get' t e
    exact ⟨d, by rw [List.getElem?_cons_succ]; exact e1, e2⟩
section
variable {P : Program} {w : World} {K : PySem.W.Frag} {mg : Str → Option Value} {base : Heap}
noncomputable def sp_flat (n : Nat) : Sp := fun vs H Q _ => ∃ (t : Addr) (xs : List V) (ds : List Dt), vs = [.ref t] ∧ H t = some (.tup xs) ∧ Ims H xs ds ∧ okFs ds = true ∧ depDs ds < n ∧ (flVs ds).length ≤ 10000 ∧ ∀ l H', Same H H' → H l = none → H' l = some (.lst (flVs ds)) → Q (.ref l) H'
theorem ok_flat (T : Txt K mg) : ∀ n : Nat, FnOk P w K mg base CX0 (n + 1) T.a_flat T.fd_flat ["parts"] (sp_flat n) := by
  intro n
  induction n with
  | zero =>
    refine T.F_flat.ok sc_flat (fun vs H Q E h => ?_) (fun cdv A outer s H vs Q E hr h => ?_)
    · obtain ⟨t, xs, ds, rfl, _⟩ := h
      rfl
    obtain ⟨t, xs, ds, rfl, et, hx, hok, hd, hl, q⟩ := h
    exact absurd hd (Nat.not_lt_zero _)
  | succ n ih =>
    have G_flat := ih
    refine T.F_flat.ok sc_flat (fun vs H Q E h => ?_) (fun cdv A outer s H vs Q E hr h => ?_)
    · obtain ⟨t, xs, ds, rfl, _⟩ := h
      rfl
    obtain ⟨t, xs, ds, rfl, et, hx, hok, hd, hl, q⟩ := h
    refine ⟨_, (pss_cons (ps_set (i := 1) sc_flat.nd rfl (Or.inl rfl) (pe_lst pa_nil))
    (pss_cons (ps_for PassesOwn.never rfl (pi_tup (cv 0)) (pg_name (i := 2) sc_flat.nd rfl (Or.inl rfl))
      (pss_one (ps_if (pt_val (pe_callB call_isi rfl T.z_isinstance bt_isinstance (pa_cons (cv 2) (pa_cons (pe_bty rfl T.z_tuple bt_tuple) pa_nil))))
        (pss_one (ps_expr (pe_bm PySem.F.plainAttrs_list PySem.F.slot_list_extend PySem.F.type_list_extend mt_extend (cv 1) (pa_cons (pe_call G_flat (hr.mono (by omega)) rfl T.m_flat T.k_flat T.b_flat .nil pass0 (pa_cons (cv 2) pa_nil)) pa_nil))))
        (pss_one (ps_expr (pec_app (pe_bm PySem.F.plainAttrs_list PySem.F.slot_list_append PySem.F.type_list_append mt_append (PE.mono (cv 1)) (pa_cons (PE.mono (cv 2)) pa_nil))))))))
    (pss_one (ps_ret (cv 1))))), ?_⟩
    have sl : sizeLine = 16777216 := sizeLine_eq
    have lx := hx.length
    refine ⟨(by show 0 ≤ sizeLine; decide), fun f hf => ?_⟩
    have s1 := same_new hf (.lst [])
    have e1 : (upd H f (.lst [])) f = some (.lst []) := upd_same
    dsimp only [gName]
    generalize upd H f (.lst []) = H1 at s1 e1 ⊢
    refine ⟨t, rfl, ⟨_, SqT.of (s1 _ _ et)⟩, for_tup (xs := xs) (fun i σ H2 => ∃ (o : Option V), σ = [some (.ref t), some (.ref f), o] ∧ Same H H2 ∧ H2 f = some (.lst (flVs (ds.take i)))) ⟨none, rfl, s1, by simpa [flVs] using e1⟩ (fun i σ H2 _ ⟨_, _, S, _⟩ => SqT.of (S _ _ et)) ?_ ?_⟩
    · rintro i v σ H2 hv ⟨o, rfl, S, e⟩
      obtain ⟨d, hdi, him⟩ := ims_get' hx hv
      have him2 := him.mono (Same.tk S)
      have hok1 := okFs_get hok hdi
      have tl := flVs_take_le ds i
      have gl := flV_get_le hdi
      have nxt : flVs (ds.take (i + 1)) = flVs (ds.take i) ++ flV d := by rw [List.take_add_one, hdi]; exact flVs_snoc _ _
      cases him2 with
      | flat hfl =>
        rw [flV] at nxt gl
        have ap : (∃ xs, H2 f = some (.lst xs)) ∧ ∃ xs, H2 f = some (.lst xs) ∧ xs.length < sizeLine ∧ ∃ (o : Option V), [some (V.ref t), some (V.ref f), some v] = [some (V.ref t), some (.ref f), o] ∧ Same H (upd H2 f (.lst (xs ++ [v]))) ∧ (upd H2 f (.lst (xs ++ [v]))) f = some (.lst (flVs (ds.take (i + 1)))) :=
          ⟨⟨_, e⟩, _, e, by omega, _, rfl, same_upd S hf _, by rw [upd_same, nxt]⟩
        cases v with
        | int n => exact ⟨_, _, _, _, false, rfl, fun _ r => r, .int n, rfl, _, rfl, iteF ap⟩
        | str x => exact ⟨_, _, _, _, false, rfl, fun _ r => r, .str x, rfl, _, rfl, iteF ap⟩
        | _ => simp [okF] at hok1
      | @tup a ys es ha hs =>
        rw [flV] at nxt gl
        rw [okF] at hok1
        have hdd := L2.Internal.depDs_get hdi
        rw [depD] at hdd
        refine ⟨_, _, _, _, true, rfl, fun _ r => r, .tup ha, rfl, _, rfl, iteT ⟨.inl ⟨rfl, _, SqL.of e⟩, a, ys, es, rfl, ha, hs, hok1, by omega, by omega, fun l H3 S3 hl3 e3 => ?_⟩⟩
        refine ⟨f, l, _, _, rfl, rfl, S3 _ _ e, e3, ?_, _, rfl, same_upd (S.trans S3) hf _, by rw [upd_same, nxt]⟩
        have h1 : (flVs (ds.take (i + 1))).length ≤ (flVs ds).length := flVs_take_le ds (i + 1)
        rw [nxt, List.length_append] at h1
        omega
    · rintro σ H2 ⟨o, rfl, S, e⟩
      rw [List.take_of_length_le (by omega)] at e
      exact q f H2 S hf e
end
end K11.Internal
namespace K11.Internal
open PySem L2.Internal BO.Internal
seal L2.Internal.PE L2.Internal.PA L2.Internal.PS L2.Internal.PSs L2.Internal.PT L2.Internal.PI
inductive Ro
  | num (n : Int)
  | name (w : Str)
  | fn (w : Str) (k : Int)
  | tag (w : Str) (k : Int)
  | lt (w : Str) (a b : Int)
  | get (k : Int) (w : Str)
  | rcd (l : List (Str × Int))
  | case (k : Int) (l : List (Str × Str × Int))
  | row (ks : List Int)
  | op (s : Str) (ks : List Int)
noncomputable def kD (k : Int) : Dt := .flat (.int k)
noncomputable def sD (s : Str) : Dt := .flat (.str s)
noncomputable def fdD (p : Str × Int) : Dt := .tup [sD p.1, kD p.2]
noncomputable def amD (p : Str × Str × Int) : Dt := .tup [sD p.1, sD p.2.1, kD p.2.2]
noncomputable def Ro.s : Ro → Str
  | .num _ => "num"
  | .name _ => "name"
  | .fn _ _ => "fn"
  | .tag _ _ => "tag"
  | .lt _ _ _ => "let"
  | .get _ _ => "get"
  | .rcd _ => "rec"
  | .case _ _ => "case"
  | .row _ => "row"
  | .op s _ => s
noncomputable def Ro.r : Ro → List Dt
  | .num n => [kD n]
  | .name w => [sD w]
  | .fn w k => [sD w, kD k]
  | .tag w k => [sD w, kD k]
  | .lt w a b => [sD w, kD a, kD b]
  | .get k w => [kD k, sD w]
  | .rcd l => [.tup (l.map fdD)]
  | .case k l => [kD k, .tup (l.map amD)]
  | .row ks => [.tup (ks.map kD)]
  | .op _ ks => ks.map kD
noncomputable def Ro.d (ρ : Ro) : Dt := .tup (sD ρ.s :: ρ.r)
noncomputable def plain : List Str := ["size", "at", "call", "join", "add", "sub", "less"]
noncomputable def Ro.ok : Ro → Prop
  | .rcd l => l.length ≤ 100 ∧ True
  | .case _ l => l.length ≤ 100 ∧ True
  | .row ks => ks.length ≤ 100
  | .op s ks => s ∈ plain ∧ ks.length ≤ 100
  | _ => True
noncomputable def Ro.pl : Ro → List Int
  | .num _ => []
  | .name _ => []
  | .fn _ k => [k]
  | .tag _ k => [k]
  | .lt _ a b => [a, b]
  | .get k _ => [k]
  | .rcd l => l.map Prod.snd
  | .case k l => k :: l.map fun p => p.2.2
  | .row ks => ks
  | .op _ ks => ks
noncomputable def Ro.pt : Ro → List V
  | .num _ => []
  | .name _ => []
  | ρ => flVs ρ.r
theorem ok_ks : ∀ ks : List Int, okFs (ks.map kD) = true ∧ flVs (ks.map kD) = ks.map V.int ∧ depDs (ks.map kD) = 0
  | [] => ⟨by simp [okFs], by simp [flVs], by simp [depDs]⟩
  | k :: ks => by
    obtain ⟨h1, h2, h3⟩ := ok_ks ks
    refine ⟨?_, ?_, ?_⟩
    · rw [List.map_cons, okFs, h1]; rfl
    · rw [List.map_cons, flVs, h2]; rfl
    · rw [List.map_cons, depDs, h3]; rfl
theorem ok_fd : ∀ l : List (Str × Int), okFs (l.map fdD) = true ∧ (flVs (l.map fdD)).length = 2 * l.length ∧ depDs (l.map fdD) ≤ 1
  | [] => ⟨by simp [okFs], by simp [flVs], by simp [depDs]⟩
  | k :: ks => by
    obtain ⟨h1, h2, h3⟩ := ok_fd ks
    refine ⟨?_, ?_, ?_⟩
    · rw [List.map_cons, okFs, h1]; rfl
    · rw [List.map_cons, flVs, List.length_append, h2]; show 2 + _ = _; rw [List.length_cons]; omega
    · rw [List.map_cons, depDs]; exact Nat.max_le.mpr ⟨Nat.le_refl 1, h3⟩
theorem ok_am : ∀ l : List (Str × Str × Int), okFs (l.map amD) = true ∧ (flVs (l.map amD)).length = 3 * l.length ∧ depDs (l.map amD) ≤ 1
  | [] => ⟨by simp [okFs], by simp [flVs], by simp [depDs]⟩
  | k :: ks => by
    obtain ⟨h1, h2, h3⟩ := ok_am ks
    refine ⟨?_, ?_, ?_⟩
    · rw [List.map_cons, okFs, h1]; rfl
    · rw [List.map_cons, flVs, List.length_append, h2]; show 3 + _ = _; rw [List.length_cons]; omega
    · rw [List.map_cons, depDs]; exact Nat.max_le.mpr ⟨Nat.le_refl 1, h3⟩
theorem Ro.fl (ρ : Ro) (h : ρ.ok) : okFs ρ.r = true ∧ depDs ρ.r < 3 ∧ (flVs ρ.r).length ≤ 10000 := by
  cases ρ with
  | rcd l =>
    obtain ⟨h1, h2, h3⟩ := ok_fd l
    have hl : l.length ≤ 100 := h.1
    refine ⟨?_, ?_, ?_⟩
    · show okFs [.tup (l.map fdD)] = true
      rw [okFs, okF, h1, okFs]; rfl
    · show depDs [.tup (l.map fdD)] < 3
      rw [depDs, depD, depDs]; omega
    · show (flVs [.tup (l.map fdD)]).length ≤ _
      rw [flVs, flV, flVs, List.append_nil, h2]; omega
  | case k l =>
    obtain ⟨h1, h2, h3⟩ := ok_am l
    have hl : l.length ≤ 100 := h.1
    refine ⟨?_, ?_, ?_⟩
    · show okFs [kD k, .tup (l.map amD)] = true
      simp [okFs, okF, kD, h1]
    · show depDs [kD k, .tup (l.map amD)] < 3
      simp only [depDs, depD, kD]; omega
    · show (flVs [kD k, .tup (l.map amD)]).length ≤ _
      simp only [flVs, flV, kD, List.append_nil, List.length_append, h2, List.length_singleton]; omega
  | row ks =>
    obtain ⟨h1, h2, h3⟩ := ok_ks ks
    have hl : ks.length ≤ 100 := h
    refine ⟨?_, ?_, ?_⟩
    · show okFs [.tup (ks.map kD)] = true
      rw [okFs, okF, h1, okFs]; rfl
    · show depDs [.tup (ks.map kD)] < 3
      rw [depDs, depD, depDs, h3]; omega
    · show (flVs [.tup (ks.map kD)]).length ≤ _
      rw [flVs, flV, flVs, List.append_nil, h2, List.length_map]; omega
  | op s ks =>
    obtain ⟨h1, h2, h3⟩ := ok_ks ks
    have hl : ks.length ≤ 100 := h.2
    exact ⟨h1, by show depDs (ks.map kD) < 3; omega, by show (flVs (ks.map kD)).length ≤ _; rw [h2, List.length_map]; omega⟩
  | _ => exact ⟨rfl, by simp [Ro.r, kD, sD, depDs, depD], by simp [Ro.r, kD, sD, flVs, flV]⟩
theorem cut_1 (y : V) (ys : List V) : cutV (y :: ys) (some 1) none = ys ∧ ¬ (HT.Internal.sIx (y :: ys).length 0 (some 1) = 0 ∧ HT.Internal.sIx (y :: ys).length (y :: ys).length none = (y :: ys).length) := by
  have e : HT.Internal.sIx (y :: ys).length 0 (some 1) = 1 := by
    show HT.Internal.sIx (y :: ys).length 0 (some ((1 : Nat) : Int)) = 1
    rw [HT.Internal.sIx_nat, List.length_cons]
    omega
  refine ⟨?_, fun h => by rw [e] at h; exact absurd h.1 (by decide)⟩
  unfold cutV
  rw [e, HT.Internal.sIx_none, List.drop_succ_cons, List.drop_zero, List.length_cons, Nat.add_sub_cancel, List.take_length]
theorem op_in (ρ : Ro) (h : ρ.ok) : inV (.str ρ.s) [.str "num", .str "name"] = (match ρ with | .num _ => true | .name _ => true | _ => false) := by
  cases ρ with
  | op s ks =>
    have hs : s ∈ plain := h.1
    show inV (.str s) _ = false
    simp only [plain, List.mem_cons, List.not_mem_nil, or_false] at hs
    rcases hs with rfl | rfl | rfl | rfl | rfl | rfl | rfl <;> decide +kernel
  | _ => simp only [Ro.s]; decide +kernel
section
variable {P : Program} {w : World} {K : PySem.W.Frag} {mg : Str → Option Value} {base : Heap}
noncomputable def sp_parts_of : Sp := fun vs H Q _ => ∃ (t : Addr) (ρ : Ro), vs = [.ref t] ∧ Im H (.ref t) ρ.d ∧ ρ.ok ∧ ∀ l H', Same H H' → H l = none → H' l = some (.lst ρ.pt) → Q (.ref l) H'
theorem ok_parts_of (T : Txt K mg) : FnOk P w K mg base CX0 5 T.a_parts_of T.fd_parts_of ["row"] sp_parts_of := by
  have G_flat := ok_flat (P := P) (w := w) (base := base) T 3
  refine T.F_parts_of.ok sc_parts_of (fun vs H Q E h => ?_) (fun cdv A outer s H vs Q E hr h => ?_)
  · obtain ⟨t, ρ, rfl, _⟩ := h
    rfl
  obtain ⟨t, ρ, rfl, hi, ho, q⟩ := h
  refine ⟨_, (pss_cons (ps_if (ptc_cmpR op_in_seq (pe_ix xc_tup (cv 0) pe_int (fun _ _ => rfl)) (pe_tup (pa_cons pe_str (pa_cons pe_str pa_nil))) rfl)
      (pss_one (ps_ret (pe_lst pa_nil)))
      pss_nil)
    (pss_one (ps_ret (pe_call G_flat (hr.mono (by decide)) rfl T.m_flat T.k_flat T.b_flat .nil pass0 (pa_cons (pe_slice sl_tup (cv 0) (po_some pe_int) po_none) pa_nil))))), ?_⟩
  have sl : sizeLine = 16777216 := sizeLine_eq
  obtain ⟨f1, f2, f3⟩ := ρ.fl ho
  cases hi with
  | @tup _ ys _ et hs =>
    cases hs with
    | @cons y _ ys _ h1 hs =>
      cases h1
      refine ⟨_, et, onS_of (atI_nat (j := 0) rfl) ?_⟩
      refine ⟨(by show 2 ≤ sizeLine; decide), fun p hp => ⟨p, [.str "num", .str "name"], rfl, .inr (SqT.of upd_same), rfl, rfl, ?_⟩⟩
      have s1 := same_new hp (.tup [.str "num", .str "name"])
      generalize upd H p (.tup [.str "num", .str "name"]) = H1 at s1 ⊢
      dsimp only [onB]
      rw [show (if false = true then !inV (.str ρ.s) [.str "num", .str "name"] else inV (.str ρ.s) [.str "num", .str "name"]) = _ from op_in ρ ho]
      have yes : ρ.pt = [] → (tRet (tLst tNil) { nx := fun _ H' => Q .non H', rt := Q } : St → Hp → Prop) [some (.ref t)] H1 := fun e => ⟨(by show 0 ≤ sizeLine; decide), fun l hl => q l _ (s1.trans (same_new hl _)) (s1.free hl) (by rw [upd_same, e])⟩
      have no : ρ.pt = flVs ρ.r → ∃ n : Int, V.int 1 = .int n ∧ ∃ a xs, V.ref t = .ref a ∧ SqT K H1 a xs ∧ ¬ (HT.Internal.sIx xs.length 0 (some n) = 0 ∧ HT.Internal.sIx xs.length xs.length none = xs.length) ∧ ∀ pc, H1 pc = none → sp_flat 3 [.ref pc] (upd H1 pc (.tup (cutV xs (some n) none))) Q E := fun e => by
        obtain ⟨c1, c2⟩ := cut_1 (.str ρ.s) ys
        refine ⟨1, rfl, t, _, rfl, SqT.of (s1 _ _ et), c2, fun pc hpc => ?_⟩
        rw [c1]
        have s2 := same_new hpc (.tup ys)
        exact ⟨pc, ys, ρ.r, rfl, upd_same, hs.mono (Same.tk (s1.trans s2)), f1, f2, f3, fun l H' S hl e' => q l H' ((s1.trans s2).trans S) ((s1.trans s2).free hl) (by rw [e', e])⟩
      cases ρ with
      | num n => exact iteT (yes rfl)
      | name n => exact iteT (yes rfl)
      | fn a b => exact iteF (no rfl)
      | tag a b => exact iteF (no rfl)
      | lt a b c => exact iteF (no rfl)
      | get a b => exact iteF (no rfl)
      | rcd a => exact iteF (no rfl)
      | case a b => exact iteF (no rfl)
      | row a => exact iteF (no rfl)
      | op a b => exact iteF (no rfl)
end
end K11.Internal
namespace K11.Internal
open PySem L2.Internal BO.Internal
seal L2.Internal.PE L2.Internal.PA L2.Internal.PS L2.Internal.PSs L2.Internal.PT L2.Internal.PI
theorem lc_ofB {J : It} {xs : List V} {i : Nat} {tt : TT} {te : TE} {Q : VK} {τ : St} {H1 : Hp} {D : Addr} (p : V → Bool) (g : V → V) (hD : H1 D = none) (hz : xs.length ≤ sizeLine) (hτ : τ.set i none = τ)
    (hgo : ∀ k H, Same H1 H → k < xs.length → J.go k H) (hy : ∀ k H v H', Same H1 H → k < xs.length → J.yld k H v H' → H' = H ∧ xs[k]? = some v) (hst : ∀ H, Same H1 H → J.stop xs.length H)
    (htt : ∀ (k : Nat) v H R, xs[k]? = some v → Same H1 H → R (p v) H → tt (τ.set i (some v)) H R)
    (hte : ∀ (k : Nat) v H R, xs[k]? = some v → p v = true → Same H1 H → R (g v) H → te (τ.set i (some v)) H R)
    (hq : ∀ H', Same H1 H' → H' D = some (.lst ((xs.filter p).map g)) → Q (.ref D) H') : LcP J i tt te Q τ H1 D := by
  have sm : ∀ o, Same H1 (upd H1 D o) := fun o b u e => by rw [upd_ne (ne_of_none e hD)]; exact e
  refine ⟨fun k m σ' H2 => m = xs.length - k ∧ k ≤ xs.length ∧ (∃ o, σ' = τ.set i o) ∧ H2 = upd H1 D (.lst (((xs.take k).filter p).map g)), ⟨xs.length, by simp, Nat.zero_le _, ⟨none, hτ.symm⟩, by simp⟩, ?_⟩
  rintro k m σ' H2 ⟨rfl, hk, ⟨o, rfl⟩, rfl⟩
  by_cases hlt : k < xs.length
  · refine .inr ⟨hgo k _ (sm _) hlt, fun v H3 y => ?_⟩
    obtain ⟨e, hv⟩ := hy k _ v H3 (sm _) hlt y
    subst e
    rw [List.set_set]
    refine htt k v _ _ hv (sm _) ?_
    have tk : (xs.take (k + 1)).filter p = (xs.take k).filter p ++ (if p v then [v] else []) := take_succ_filter p xs k v hv
    have ll : ((xs.take k).filter p).length ≤ k := by
      refine Nat.le_trans (List.length_filter_le _ _) ?_
      rw [List.length_take]
      omega
    cases hp : p v with
    | true =>
      rw [if_pos rfl]
      refine hte k v _ _ hv hp (sm _) ?_
      refine ⟨_, upd_same, by rw [List.length_map]; omega, xs.length - (k + 1), by omega, rfl, hlt, ⟨some v, rfl⟩, ?_⟩
      rw [upd_upd, tk, hp, if_pos rfl, List.map_append]
      rfl
    | false =>
      rw [if_neg Bool.false_ne_true]
      refine ⟨xs.length - (k + 1), by omega, rfl, hlt, ⟨some v, rfl⟩, ?_⟩
      rw [tk, hp, if_neg Bool.false_ne_true, List.append_nil]
  · have e : k = xs.length := by omega
    subst e
    refine .inl ⟨hst _ (sm _), hq _ (sm _) ?_⟩
    rw [upd_same, List.take_length]
noncomputable def isI : V → Bool
  | .int _ => true
  | _ => false
theorem fil_ks : ∀ ks : List Int, (ks.map V.int).filter isI = ks.map V.int
  | [] => rfl
  | k :: ks => by rw [List.map_cons, List.filter_cons_of_pos rfl, fil_ks ks]
theorem fil_fd : ∀ l : List (Str × Int), (flVs (l.map fdD)).filter isI = (l.map Prod.snd).map V.int
  | [] => by simp [flVs]
  | p :: l => by
    have := fil_fd l
    rw [List.map_cons, flVs, List.filter_append, this]
    rfl
theorem fil_am : ∀ l : List (Str × Str × Int), (flVs (l.map amD)).filter isI = (l.map fun p => p.2.2).map V.int
  | [] => by simp [flVs]
  | p :: l => by
    have := fil_am l
    rw [List.map_cons, flVs, List.filter_append, this]
    rfl
theorem Ro.pt_pl (ρ : Ro) : ρ.pt.filter isI = ρ.pl.map V.int := by
  cases ρ with
  | rcd l =>
    show (flVs [.tup (l.map fdD)]).filter isI = _
    rw [flVs, flV, flVs, List.append_nil]
    exact fil_fd l
  | case k l =>
    show (flVs [kD k, .tup (l.map amD)]).filter isI = _
    rw [flVs, flVs, flVs, flV, List.append_nil, List.filter_append, fil_am l]
    rfl
  | row ks =>
    show (flVs [.tup (ks.map kD)]).filter isI = _
    rw [flVs, flV, flVs, List.append_nil, (ok_ks ks).2.1]
    exact fil_ks ks
  | op s ks =>
    show (flVs (ks.map kD)).filter isI = _
    rw [(ok_ks ks).2.1]
    exact fil_ks ks
  | _ => rfl
theorem Ro.pt_le (ρ : Ro) (h : ρ.ok) : ρ.pt.length ≤ 10000 := by
  have := (ρ.fl h).2.2
  cases ρ with
  | num n => exact Nat.zero_le _
  | name n => exact Nat.zero_le _
  | _ => exact this
theorem okF_fl : ∀ (d : Dt), okF d = true → ∀ v ∈ flV d, (∃ n, v = .int n) ∨ ∃ s, v = .str s := by
  intro d
  refine Dt.rec (motive_1 := fun d => okF d = true → ∀ v ∈ flV d, (∃ n, v = .int n) ∨ ∃ s, v = .str s) (motive_2 := fun ds => okFs ds = true → ∀ v ∈ flVs ds, (∃ n, v = .int n) ∨ ∃ s, v = .str s) ?_ ?_ ?_ ?_ ?_ d
  · intro v h x hx
    rw [flV, List.mem_singleton] at hx
    subst hx
    cases x <;> first | exact .inl ⟨_, rfl⟩ | exact .inr ⟨_, rfl⟩ | simp [okF] at h
  · intro ds ih h v hv
    rw [flV] at hv
    rw [okF] at h
    exact ih h v hv
  · intro ds ih h
    rw [okF] at h
    cases h
  · intro _ v hv
    rw [flVs] at hv
    cases hv
  · intro d ds h1 h2 h v hv
    rw [flVs] at hv
    rw [okFs, Bool.and_eq_true] at h
    rcases List.mem_append.mp hv with hv | hv
    · exact h1 h.1 v hv
    · exact h2 h.2 v hv
theorem Ro.pt_is (ρ : Ro) (h : ρ.ok) : ∀ v ∈ ρ.pt, (∃ n, v = .int n) ∨ ∃ s, v = .str s := by
  have h1 := (ρ.fl h).1
  have h2 := okF_fl (.tup ρ.r) (by rw [okF]; exact h1)
  rw [flV] at h2
  cases ρ with
  | num n => intro v hv; cases hv
  | name n => intro v hv; cases hv
  | _ => exact h2
section
variable {P : Program} {w : World} {K : PySem.W.Frag} {mg : Str → Option Value} {base : Heap}
noncomputable def sp_places_in : Sp := fun vs H Q _ => ∃ (t : Addr) (ρ : Ro), vs = [.ref t] ∧ Im H (.ref t) ρ.d ∧ ρ.ok ∧ ∀ l H', Same H H' → H l = none → H' l = some (.lst (ρ.pl.map V.int)) → Q (.ref l) H'
theorem ok_places_in (T : Txt K mg) : FnOk P w K mg base CX0 6 T.a_places_in T.fd_places_in ["row"] sp_places_in := by
  have G_parts_of := ok_parts_of (P := P) (w := w) (base := base) T
  refine T.F_places_in.ok sc_places_in (fun vs H Q E h => ?_) (fun cdv A outer s H vs Q E hr h => ?_)
  · obtain ⟨t, ρ, rfl, _⟩ := h
    rfl
  obtain ⟨t, ρ, rfl, hi, ho, q⟩ := h
  refine ⟨_, (pss_one (ps_ret (pe_lc rfl (blk0 (x := "part") rfl (by decide +kernel) (by decide +kernel) rfl rfl) (pi_list (pe_call G_parts_of (hr.mono (by decide)) rfl T.m_parts_of T.k_parts_of T.b_parts_of .nil pass0 (pa_cons (cv 0) pa_nil))) (fun _ _ _ _ _ => (pts_one (pt_val (pe_callB (r := rIsi K) call_isi rfl T.z_isinstance bt_isinstance (pa_cons (cv 0) (pa_cons (pe_bty rfl T.z_int bt_int) pa_nil)))))) (fun _ _ _ _ _ => (cv 0))))), ?_⟩
  have sl : sizeLine = 16777216 := sizeLine_eq
  have lp := ρ.pt_le ho
  refine ⟨t, ρ, rfl, hi, ho, fun l H1 S1 hl e1 => ⟨l, rfl, ⟨_, SqL.of e1⟩, fun D hD => ?_⟩⟩
  refine lc_ofB (xs := ρ.pt) isI id hD (by omega) rfl (fun k H S h => go_lst e1 S h) (fun k H v H' S h y => ⟨y.1, y.2 _ (SqL.of (S _ _ e1))⟩) (fun H S => st_lst e1 S) ?_ ?_ ?_
  · intro k v H2 R hv S hR
    rcases ρ.pt_is ho v (List.mem_of_getElem? hv) with ⟨n, rfl⟩ | ⟨x, rfl⟩
    · exact ⟨_, _, _, _, true, rfl, fun _ r => r, .int n, rfl, _, rfl, hR⟩
    · exact ⟨_, _, _, _, false, rfl, fun _ r => r, .str x, rfl, _, rfl, hR⟩
  · intro k v H2 R hv hp S hR
    exact hR
  · intro H' S e
    rw [List.map_id, ρ.pt_pl] at e
    exact q D H' (S1.trans S) (S1.free hD) e
noncomputable def Ro.ws : Ro → List Str
  | .rcd l => l.map Prod.fst
  | .case _ l => l.map Prod.fst
  | _ => []
theorem Ro.ws_le (ρ : Ro) (h : ρ.ok) : ρ.ws.length ≤ 100 := by
  cases ρ with
  | rcd l => show (l.map Prod.fst).length ≤ _; rw [List.length_map]; exact h.1
  | case k l => show (l.map Prod.fst).length ≤ _; rw [List.length_map]; exact h.1
  | _ => exact Nat.zero_le _
theorem op_ne (ρ : Ro) (h : ρ.ok) (x : Str) (hx : x ∈ (["rec", "case", "fn", "let", "name", "num"] : List Str)) : (∃ s ks, ρ = .op s ks) → decide (ρ.s = x) = false := by
  rintro ⟨s, ks, rfl⟩
  have hs : s ∈ plain := h.1
  show decide (s = x) = false
  simp only [plain, List.mem_cons, List.not_mem_nil, or_false] at hs hx
  rcases hs with rfl | rfl | rfl | rfl | rfl | rfl | rfl <;> rcases hx with rfl | rfl | rfl | rfl | rfl | rfl <;> decide +kernel
noncomputable def Ro.isR : Ro → Bool
  | .rcd _ => true
  | _ => false
noncomputable def Ro.isC : Ro → Bool
  | .case _ _ => true
  | _ => false
noncomputable def Ro.isF : Ro → Bool
  | .fn _ _ => true
  | _ => false
noncomputable def Ro.isL : Ro → Bool
  | .lt _ _ _ => true
  | _ => false
theorem Ro.hd (ρ : Ro) (h : ρ.ok) : decide (ρ.s = "rec") = ρ.isR ∧ decide (ρ.s = "case") = ρ.isC ∧ decide (ρ.s = "fn") = ρ.isF ∧ decide (ρ.s = "let") = ρ.isL := by
  cases ρ with
  | op s ks => exact ⟨op_ne _ h _ (by decide +kernel) ⟨s, ks, rfl⟩, op_ne _ h _ (by decide +kernel) ⟨s, ks, rfl⟩, op_ne _ h _ (by decide +kernel) ⟨s, ks, rfl⟩, op_ne _ h _ (by decide +kernel) ⟨s, ks, rfl⟩⟩
  | num a => exact (show decide (("num" : Str) = "rec") = false ∧ decide (("num" : Str) = "case") = false ∧ decide (("num" : Str) = "fn") = false ∧ decide (("num" : Str) = "let") = false from by decide +kernel)
  | name a => exact (show decide (("name" : Str) = "rec") = false ∧ decide (("name" : Str) = "case") = false ∧ decide (("name" : Str) = "fn") = false ∧ decide (("name" : Str) = "let") = false from by decide +kernel)
  | fn a b => exact (show decide (("fn" : Str) = "rec") = false ∧ decide (("fn" : Str) = "case") = false ∧ decide (("fn" : Str) = "fn") = true ∧ decide (("fn" : Str) = "let") = false from by decide +kernel)
  | tag a b => exact (show decide (("tag" : Str) = "rec") = false ∧ decide (("tag" : Str) = "case") = false ∧ decide (("tag" : Str) = "fn") = false ∧ decide (("tag" : Str) = "let") = false from by decide +kernel)
  | lt a b c => exact (show decide (("let" : Str) = "rec") = false ∧ decide (("let" : Str) = "case") = false ∧ decide (("let" : Str) = "fn") = false ∧ decide (("let" : Str) = "let") = true from by decide +kernel)
  | get a b => exact (show decide (("get" : Str) = "rec") = false ∧ decide (("get" : Str) = "case") = false ∧ decide (("get" : Str) = "fn") = false ∧ decide (("get" : Str) = "let") = false from by decide +kernel)
  | rcd a => exact (show decide (("rec" : Str) = "rec") = true ∧ decide (("rec" : Str) = "case") = false ∧ decide (("rec" : Str) = "fn") = false ∧ decide (("rec" : Str) = "let") = false from by decide +kernel)
  | case a b => exact (show decide (("case" : Str) = "rec") = false ∧ decide (("case" : Str) = "case") = true ∧ decide (("case" : Str) = "fn") = false ∧ decide (("case" : Str) = "let") = false from by decide +kernel)
  | row a => exact (show decide (("row" : Str) = "rec") = false ∧ decide (("row" : Str) = "case") = false ∧ decide (("row" : Str) = "fn") = false ∧ decide (("row" : Str) = "let") = false from by decide +kernel)
theorem lc_first {a : Addr} {te : TE} {Q : VK} {τ : St} {H1 : Hp} {D : Addr} {xs : List V} {α : Type} {f : α → Dt} {g : α → Str} {l : List α} (e : H1 a = some (.tup xs)) (I : Ims H1 xs (l.map f)) (hn : l.length ≤ 100) (hD : H1 D = none) (hτ : τ.set 0 none = τ)
    (ht : ∀ (x : α) (v : V) H (R : VK), Im H v (f x) → R (.str (g x)) H → te (τ.set 0 (some v)) H R)
    (hq : ∀ H', Same H1 H' → H' D = some (.lst ((l.map g).map V.str)) → Q (.ref D) H') : LcP (Itt K a) 0 tAlways te Q τ H1 D := by
  have sl : sizeLine = 16777216 := sizeLine_eq
  have lx := I.length
  rw [List.length_map] at lx
  refine lc_gen l.length (by omega) (fun ys H => ys = ((l.take ys.length).map g).map V.str) (fun xs H H' h _ => h) hD hτ (fun k H S h => go_tup e S (by omega)) (fun H S => by rw [← lx]; exact st_tup e S) rfl ?_ ?_
  · intro k H v H3 ys Z S hk y hys hl hz
    obtain ⟨rfl, hv⟩ := y
    have hv := hv _ (SqT.of (S _ _ e))
    obtain ⟨d, hd, him⟩ := ims_get' I hv
    rw [List.getElem?_map] at hd
    obtain ⟨x, hx⟩ : ∃ x, l[k]? = some x := ⟨_, List.getElem?_eq_getElem hk⟩
    rw [hx] at hd
    cases hd
    refine ht x v H3 Z (him.mono (Same.tk S)) (hz _ _ (Same.refl _) ?_)
    rw [List.length_append, hl, List.length_singleton, List.take_add_one, hx, List.map_append, List.map_append, ← hl, ← hys]
    rfl
  · intro H' ys S hys hl e'
    rw [hl, List.take_length] at hys
    exact hq H' S (by rw [e', hys])
noncomputable def sp_words_once : Sp := fun vs H Q _ => ∃ (t : Addr) (ρ : Ro), vs = [.ref t] ∧ Im H (.ref t) ρ.d ∧ ρ.ok ∧ ∀ l H', Same H H' → H l = none → H' l = some (.lst (ρ.ws.map V.str)) → Q (.ref l) H'
theorem ok_words_once (T : Txt K mg) : FnOk P w K mg base CX0 1 T.a_words_once T.fd_words_once ["row"] sp_words_once := by
  refine T.F_words_once.ok sc_words_once (fun vs H Q E h => ?_) (fun cdv A outer s H vs Q E hr h => ?_)
  · obtain ⟨t, ρ, rfl, _⟩ := h
    rfl
  obtain ⟨t, ρ, rfl, hi, ho, q⟩ := h
  refine ⟨_, (pss_cons (ps_if (ptc_cmpR oc_eq (pe_ix xc_tup (cv 0) pe_int (fun _ _ => rfl)) pe_str (nomark _))
      (pss_one (ps_ret (pe_lc rfl (blk0 (x := "field") rfl (by decide +kernel) (by decide +kernel) rfl rfl) (pi_tup (pe_ix xc_tup (cv 0) pe_int (fun _ _ => rfl))) (fun _ _ _ _ _ => pts_nil) (fun _ _ _ _ _ => (pe_ix xc_tup (cv 0) pe_int (fun _ _ => rfl))))))
      pss_nil)
    (pss_cons (ps_if (ptc_cmpR oc_eq (pe_ix xc_tup (cv 0) pe_int (fun _ _ => rfl)) pe_str (nomark _))
      (pss_one (ps_ret (pe_lc rfl (blk0 (x := "arm") rfl (by decide +kernel) (by decide +kernel) rfl rfl) (pi_tup (pe_ix xc_tup (cv 0) pe_int (fun _ _ => rfl))) (fun _ _ _ _ _ => pts_nil) (fun _ _ _ _ _ => (pe_ix xc_tup (cv 0) pe_int (fun _ _ => rfl))))))
      pss_nil)
    (pss_one (ps_ret (pe_lst pa_nil))))), ?_⟩
  have sl : sizeLine = 16777216 := sizeLine_eq
  obtain ⟨h1, h2, _, _⟩ := ρ.hd ho
  cases hi with
  | @tup _ ys _ et hs =>
    cases hs with
    | @cons y _ ys _ hy hs =>
      cases hy
      refine ⟨_, et, onS_of (atI_nat (j := 0) rfl) ?_⟩
      dsimp only [tC, cEq, onB]
      rw [Bool.false_xor, h1]
      have non : ρ.ws = [] → (tRet (tLst tNil) { nx := fun _ H' => Q .non H', rt := Q } : St → Hp → Prop) [some (.ref t)] H := fun e => ⟨(by show 0 ≤ sizeLine; decide), fun l hl => q l _ (same_new hl _) hl (by rw [upd_same, e]; rfl)⟩
      cases ρ with
      | rcd l =>
        refine iteT ?_
        cases hs with
        | cons hx _ =>
          cases hx with
          | @tup ta xs _ eta hxs =>
            refine ⟨_, et, onS_of (atI_nat (j := 1) rfl) ⟨ta, rfl, ⟨_, SqT.of eta⟩, fun D hD => ?_⟩⟩
            refine lc_first (f := fdD) (g := Prod.fst) eta hxs ho.1 hD rfl ?_ (fun H' S e => q D H' S hD e)
            intro x v H2 R hv hR
            cases hv with
            | tup ev hvs =>
              cases hvs with
              | cons a _ =>
                cases a
                exact ⟨_, ev, onS_of (atI_nat (j := 0) rfl) hR⟩
      | case k l =>
        refine iteF ⟨_, et, onS_of (atI_nat (j := 0) rfl) ?_⟩
        dsimp only [tC, cEq, onB]
        rw [Bool.false_xor, h2]
        refine iteT ?_
        cases hs with
        | cons _ hs =>
          cases hs with
          | cons hx _ =>
            cases hx with
            | @tup ta xs _ eta hxs =>
              refine ⟨_, et, onS_of (atI_nat (j := 2) rfl) ⟨ta, rfl, ⟨_, SqT.of eta⟩, fun D hD => ?_⟩⟩
              refine lc_first (f := amD) (g := Prod.fst) eta hxs ho.1 hD rfl ?_ (fun H' S e => q D H' S hD e)
              intro x v H2 R hv hR
              cases hv with
              | tup ev hvs =>
                cases hvs with
                | cons a _ =>
                  cases a
                  exact ⟨_, ev, onS_of (atI_nat (j := 0) rfl) hR⟩
      | _ =>
        refine iteF ⟨_, et, onS_of (atI_nat (j := 0) rfl) ?_⟩
        dsimp only [tC, cEq, onB]
        rw [Bool.false_xor, h2]
        exact iteF (non rfl)
end
end K11.Internal
namespace K11.Internal
open PySem L2.Internal BO.Internal
seal L2.Internal.PE L2.Internal.PA L2.Internal.PS L2.Internal.PSs L2.Internal.PT L2.Internal.PI
noncomputable def exG (g : Str → Option Hm) : Option (Str × Hm) → (Str → Option Hm)
  | none => g
  | some (x, h) => wid g x h
noncomputable def Ro.ex : Ro → List (Option (Str × Hm))
  | .fn w k => [some (w, ("fn", k))]
  | .lt w a _ => [none, some (w, ("let", a))]
  | .case _ l => none :: l.map fun p => some (p.2.1, ("arm", p.2.2))
  | ρ => ρ.pl.map fun _ => none
theorem Sc.le {H : Hp} {a : Addr} {g : Str → Option Hm} {n m : Nat} (h : Sc H a g n) (l : n ≤ m) : Sc H a g m := by
  obtain ⟨kvs, e, l', h⟩ := h
  exact ⟨kvs, e, Nat.le_trans l' l, h⟩
theorem Sc.upd {H : Hp} {a d : Addr} {g : Str → Option Hm} {n : Nat} {kv : List (Key × V)} {o : HO} (h : Sc H a g n) (e : H d = some (.dK kv)) (ne : a ≠ d) : Sc (L2.Internal.upd H d o) a g n := by
  obtain ⟨kvs, e1, l, h⟩ := h
  refine ⟨kvs, by rw [upd_ne ne]; exact e1, l, fun w => ?_⟩
  have := h w
  cases hg : g w with
  | none => rw [hg] at this; exact this
  | some z =>
    rw [hg] at this
    obtain ⟨t, h1, h2⟩ := this
    exact ⟨t, h1, by rw [upd_ne (ne_of h2 e (fun z => nomatch z))]; exact h2⟩
theorem Sc.dk {H : Hp} {a : Addr} {g : Str → Option Hm} {n : Nat} (h : Sc H a g n) : ∃ kv, H a = some (.dK kv) := by
  obtain ⟨kvs, e, _⟩ := h
  exact ⟨kvs, e⟩
theorem nd_put {kvs : List (Key × V)} {k : Key} (v : V) (hn : (kvs.map (·.1)).Nodup) : ((putK kvs k v).map (·.1)).Nodup := by
  cases q : valV kvs k with
  | none => exact nd_putK v hn q
  | some x =>
    have e : (putK kvs k v).map (·.1) = kvs.map (·.1) := by
      unfold putK
      rw [valV_any, q]
      rw [if_pos (show (some x).isSome = true from rfl), List.map_map]
      refine List.map_congr_left fun p _ => ?_
      show (if p.1 = k then (p.1, v) else p).1 = p.1
      split <;> rfl
    rw [e]
    exact hn
theorem valV_merge2 : ∀ (more kvs : List (Key × V)) (k : Key), (more.map (·.1)).Nodup → valV (mergeK kvs more) k = match valV more k with | some v => some v | none => valV kvs k
  | [], kvs, k, _ => rfl
  | p :: more, kvs, k, nd => by
    obtain ⟨h1, h2⟩ := List.nodup_cons.mp (show (p.1 :: more.map (·.1)).Nodup from nd)
    show valV (mergeK (putK kvs p.1 p.2) more) k = _
    rw [valV_merge2 more _ k h2]
    by_cases e : p.1 = k
    · rw [valV_pos e]
      have : valV more k = none := by
        cases q : valV more k with
        | none => rfl
        | some x => exact absurd (valV_in q) (by rw [← e]; exact h1)
      rw [this]
      show valV (putK kvs p.1 p.2) k = some p.2
      rw [valV_put, if_pos e.symm]
    · rw [valV_neg e]
      cases q : valV more k with
      | some x => rfl
      | none =>
        show valV (putK kvs p.1 p.2) k = valV kvs k
        rw [valV_put, if_neg (fun z => e z.symm)]
noncomputable def InS (W : Addr → Prop) (H : Hp) (kvs : List (Key × V)) (ρ : Ro) (g : Str → Option Hm) (n : Nat) : Prop := ∀ c : Int, (valV kvs (.inl c) = none ∧ c ∉ ρ.pl) ∨ ∃ (j : Nat) (e : Option (Str × Hm)) (a : Addr), W a ∧ ρ.pl[j]? = some c ∧ ρ.ex[j]? = some e ∧ valV kvs (.inl c) = some (.ref a) ∧ Sc H a (exG g e) (n + 1)
theorem if_hd {x : Str} {A B u : TS} {D : Ends} {σ : St} {H : Hp} {t : Addr} {ys : List V} {s : Str} {b : Bool} (hσ : σ[0]? = some (some (.ref t))) (et : H t = some (.tup (.str s :: ys))) (hb : decide (s = x) = b) (k : if b = true then A { D with nx := u D } σ H else B { D with nx := u D } σ H) :
    tSeq (tIfS (cT (tOp (cEq false) (tOp cIxT (cV 0) (tC (.int 0))) (tC (.str x)))) A B) u D σ H := by
  show onV σ[0]? _
  rw [hσ]
  refine ⟨_, et, onS_of (atI_nat (j := 0) rfl) ?_⟩
  dsimp only [tC, cEq, onB]
  rw [Bool.false_xor, hb]
  exact k
theorem if_hdF {x : Str} {A u : TS} {D : Ends} {σ : St} {H : Hp} {t : Addr} {ys : List V} {s : Str} (hσ : σ[0]? = some (some (.ref t))) (et : H t = some (.tup (.str s :: ys))) (hb : decide (s = x) = false) (k : u D σ H) :
    tSeq (tIfS (cT (tOp (cEq false) (tOp cIxT (cV 0) (tC (.int 0))) (tC (.str x)))) A tNext) u D σ H := if_hd hσ et hb (iteF k)
theorem if_hdT {x : Str} {A B u : TS} {D : Ends} {σ : St} {H : Hp} {t : Addr} {ys : List V} {s : Str} (hσ : σ[0]? = some (some (.ref t))) (et : H t = some (.tup (.str s :: ys))) (hb : decide (s = x) = true) (k : A { D with nx := u D } σ H) :
    tSeq (tIfS (cT (tOp (cEq false) (tOp cIxT (cV 0) (tC (.int 0))) (tC (.str x)))) A B) u D σ H := if_hd hσ et hb (iteT k)
theorem Ro.pl_le (ρ : Ro) (h : ρ.ok) : ρ.pl.length ≤ 101 := by
  cases ρ with
  | rcd l => show (l.map Prod.snd).length ≤ _; rw [List.length_map]; exact Nat.le_trans h.1 (by decide)
  | case k l => show (k :: l.map fun p => p.2.2).length ≤ _; rw [List.length_cons, List.length_map]; have := h.1; omega
  | row ks => exact Nat.le_trans h (by decide)
  | op s ks => exact Nat.le_trans h.2 (by decide)
  | _ => simp [Ro.pl]
section
variable {P : Program} {w : World} {K : PySem.W.Frag} {mg : Str → Option Value} {base : Heap}
theorem ins_plain {W : Addr → Prop} {H : Hp} {kvs : List (Key × V)} {ρ : Ro} {g : Str → Option Hm} {n : Nat} {a : Addr} (hW : W a) (hx : ρ.ex = ρ.pl.map fun _ => none) (hs : Sc H a g n) (hv : ∀ c : Int, valV kvs (.inl c) = if c ∈ ρ.pl then some (.ref a) else none) : InS W H kvs ρ g n := by
  intro c
  by_cases h : c ∈ ρ.pl
  · obtain ⟨j, hj⟩ := List.mem_iff_getElem?.mp h
    exact .inr ⟨j, none, a, hW, hj, by rw [hx, List.getElem?_map, hj]; rfl, by rw [hv c, if_pos h], hs.le (Nat.le_succ _)⟩
  · exact .inl ⟨by rw [hv c, if_neg h], h⟩
noncomputable def sp_inner_scopes : Sp := fun vs H Q _ => ∃ (t a : Addr) (ρ : Ro) (g : Str → Option Hm) (n : Nat), vs = [.ref t, .ref a] ∧ Im H (.ref t) ρ.d ∧ ρ.ok ∧ Sc H a g n ∧ n < 9000 ∧
  ∀ d kvs H', Same H H' → H d = none → H' d = some (.dK kvs) → (kvs.map (·.1)).Nodup → kvs.length ≤ 300 → InS (fun b => b = a ∨ H b = none) H' kvs ρ g n → Q (.ref d) H'
theorem ok_inner_scopes (T : Txt K mg) : FnOk P w K mg base CX0 7 T.a_inner_scopes T.fd_inner_scopes ["row", "scope"] sp_inner_scopes := by
  have G_places_in := ok_places_in (P := P) (w := w) (base := base) T
  have G_widened := ok_widened (P := P) (w := w) (base := base) T
  refine T.F_inner_scopes.ok sc_inner_scopes (fun vs H Q E h => ?_) (fun cdv A outer s H vs Q E hr h => ?_)
  · obtain ⟨t, a, ρ, g, n, rfl, _⟩ := h
    rfl
  have hu := hu_of hr
  obtain ⟨t, a, ρ, g, n, rfl, hi, ho, hsc, hn, q⟩ := h
  refine ⟨_, (pss_cons (ps_set (i := 2) sc_inner_scopes.nd rfl (Or.inl rfl) pe_dnewK)
    (pss_cons (ps_for PassesOwn.never rfl (pi_list (pe_call G_places_in (hr.mono (by decide)) rfl T.m_places_in T.k_places_in T.b_places_in .nil pass0 (pa_cons (cv 0) pa_nil))) (pg_name (i := 3) sc_inner_scopes.nd rfl (Or.inl rfl))
      (pss_one (ps_dput hu (cv 2) (cv 3) (cv 1) rfl)))
    (pss_cons (ps_if (ptc_cmpR oc_eq (pe_ix xc_tup (cv 0) pe_int (fun _ _ => rfl)) pe_str (nomark _))
      (pss_one (ps_dput hu (cv 2) (pe_ix xc_tup (cv 0) pe_int (fun _ _ => rfl)) (pe_call G_widened (hr.mono (by decide)) rfl T.m_widened T.k_widened T.b_widened .nil pass0 (pa_cons (cv 1) (pa_cons (pe_ix xc_tup (cv 0) pe_int (fun _ _ => rfl)) (pa_cons (pe_tup (pa_cons pe_str (pa_cons (pe_ix xc_tup (cv 0) pe_int (fun _ _ => rfl)) pa_nil))) pa_nil)))) rfl))
      pss_nil)
    (pss_cons (ps_if (ptc_cmpR oc_eq (pe_ix xc_tup (cv 0) pe_int (fun _ _ => rfl)) pe_str (nomark _))
      (pss_one (ps_dput hu (cv 2) (pe_ix xc_tup (cv 0) pe_int (fun _ _ => rfl)) (pe_call G_widened (hr.mono (by decide)) rfl T.m_widened T.k_widened T.b_widened .nil pass0 (pa_cons (cv 1) (pa_cons (pe_ix xc_tup (cv 0) pe_int (fun _ _ => rfl)) (pa_cons (pe_tup (pa_cons pe_str (pa_cons (pe_ix xc_tup (cv 0) pe_int (fun _ _ => rfl)) pa_nil))) pa_nil)))) rfl))
      pss_nil)
    (pss_cons (ps_if (ptc_cmpR oc_eq (pe_ix xc_tup (cv 0) pe_int (fun _ _ => rfl)) pe_str (nomark _))
      (pss_one (ps_for PassesOwn.never rfl (pi_tup (pe_ix xc_tup (cv 0) pe_int (fun _ _ => rfl))) (pg_name (i := 4) sc_inner_scopes.nd rfl (Or.inl rfl))
        (pss_one (ps_dput hu (cv 2) (pe_ix xc_tup (cv 4) pe_int (fun _ _ => rfl)) (pe_call G_widened (hr.mono (by decide)) rfl T.m_widened T.k_widened T.b_widened .nil pass0 (pa_cons (cv 1) (pa_cons (pe_ix xc_tup (cv 4) pe_int (fun _ _ => rfl)) (pa_cons (pe_tup (pa_cons pe_str (pa_cons (pe_ix xc_tup (cv 4) pe_int (fun _ _ => rfl)) pa_nil))) pa_nil)))) rfl))))
      pss_nil)
    (pss_one (ps_ret (cv 2)))))))), ?_⟩
  have sl : sizeLine = 16777216 := sizeLine_eq
  obtain ⟨_, h2, h3, h4⟩ := ρ.hd ho
  have lp := ρ.pl_le ho
  intro d hd
  have s1 := same_new hd (.dK [])
  have ed : (upd H d (.dK [])) d = some (.dK []) := upd_same
  dsimp only [gName]
  generalize upd H d (.dK []) = H1 at s1 ed ⊢
  have nad : a ≠ d := by
    obtain ⟨kv, e⟩ := hsc.dk
    exact ne_of_none e hd
  refine ⟨t, ρ, rfl, hi.mono (Same.tk s1), ho, fun l H1' S1 hl e1 => ⟨l, rfl, ⟨_, SqL.of e1⟩, for_list (xs := ρ.pl.map V.int) (fun i σ H2 => ∃ (o : Option V) (kvs : List (Key × V)), σ = [some (.ref t), some (.ref a), some (.ref d), o, none] ∧ Same H H2 ∧ H2 l = some (.lst (ρ.pl.map V.int)) ∧ H2 d = some (.dK kvs) ∧ (kvs.map (·.1)).Nodup ∧ kvs.length ≤ i ∧ ∀ c : Int, valV kvs (.inl c) = if c ∈ ρ.pl.take i then some (.ref a) else none)
    ⟨none, [], rfl, s1.trans S1, e1, S1 _ _ ed, List.nodup_nil, Nat.zero_le _, fun c => by rw [List.take_zero, if_neg List.not_mem_nil]; rfl⟩ (fun i σ H2 _ ⟨_, _, _, _, e, _⟩ => SqL.of e) ?_ ?_⟩⟩
  · rintro i v σ H2 hv ⟨o, kvs, rfl, S, el, ek, nd, hk, hc⟩
    rw [List.getElem?_map] at hv
    obtain ⟨c, hcc, rfl⟩ := Option.map_eq_some_iff.mp hv
    have hi := (List.getElem?_eq_some_iff.mp hcc).1
    have nld : l ≠ d := (ne_of_none ed hl).symm
    refine ⟨d, _, rfl, DPut.k (k := Sum.inl c) ek (by omega), _, _, rfl, same_upd S hd _, by rw [upd_ne nld]; exact el, upd_same, nd_put _ nd, Nat.le_trans (length_putK _ _ _) (by omega), fun c' => ?_⟩
    rw [valV_put, List.take_add_one, hcc]
    by_cases z : c' = c
    · rw [if_pos (by rw [z]), if_pos (by simp [z])]
    · rw [if_neg (fun y => z (by injection y)), hc c']
      simp [z]
  · rintro σ H2 ⟨o, kvs, rfl, S, el, ek, nd, hk, hc⟩
    rw [List.length_map, List.take_length] at hc
    rw [List.length_map] at hk
    have hi2 := hi
    have hsc2 := hsc.same S
    have fin : ∀ {o3 o4 : Option V} {H3 : Hp} {kvs : List (Key × V)}, Same H H3 → H3 d = some (.dK kvs) → (kvs.map (·.1)).Nodup → kvs.length ≤ 300 → InS (fun b => b = a ∨ H b = none) H3 kvs ρ g n → (tRet (cV 2) { nx := fun _ H' => Q .non H', rt := Q } : St → Hp → Prop) [some (.ref t), some (.ref a), some (.ref d), o3, o4] H3 := fun S3 e3 n3 l3 i3 => q d _ _ S3 hd e3 n3 l3 i3
    cases hi2 with
    | @tup _ ys _ et0 hs =>
      have et := S _ _ et0
      cases hs with
      | @cons y _ ys _ hy hs =>
        cases hy
        dsimp only
        cases ρ with
        | fn x k =>
          cases hs with
          | cons a1 hs =>
            cases hs with
            | cons a2 hs =>
              cases a1; cases a2; cases hs
              refine if_hdT rfl et h3 ⟨_, et, onS_of (atI_nat (j := 1) rfl) ⟨_, et, onS_of (atI_nat (j := 2) rfl) ⟨(by show 2 ≤ sizeLine; decide), fun p hp => ?_⟩⟩⟩
              have sp := same_new hp (.tup [.str "fn", .int k])
              refine ⟨a, p, g, n, x, ("fn", k), rfl, hsc2.same sp, by omega, upd_same, fun b H4 S4 hb sc4 => ?_⟩
              have S24 := sp.trans S4
              refine ⟨_, S24 _ _ et, onS_of (atI_nat (j := 2) rfl) ⟨d, _, rfl, DPut.k (k := Sum.inl k) (S24 _ _ ek) (by omega), ?_⟩⟩
              have nbd : b ≠ d := (ne_of_none (sp _ _ ek) hb).symm
              have et5 : (upd H4 d (.dK (putK kvs (Sum.inl k) (.ref b)))) t = some (.tup (.str "fn" :: [.str x, .int k])) := by rw [upd_ne (ne_of (S24 _ _ et) (S24 _ _ ek) (fun z => nomatch z))]; exact S24 _ _ et
              dsimp only
              refine if_hdF rfl et5 h4 (if_hdF rfl et5 h2 (fin (same_upd (S.trans S24) hd _) upd_same (nd_put _ nd) (Nat.le_trans (length_putK _ _ _) (by omega)) fun c => ?_))
              by_cases z : c = k
              · exact .inr ⟨0, _, b, .inr ((S.trans sp).free hb), by rw [z]; rfl, rfl, by rw [valV_put, if_pos (by rw [z])], sc4.upd (S24 _ _ ek) nbd⟩
              · exact .inl ⟨by rw [valV_put, if_neg (fun y => z (by injection y)), hc c, if_neg (by simpa [Ro.pl] using z)], by simpa [Ro.pl] using z⟩
        | lt x k1 k2 =>
          refine if_hdF rfl et h3 ?_
          cases hs with
          | cons a1 hs =>
            cases hs with
            | cons a2 hs =>
              cases hs with
              | cons a3 hs =>
                cases a1; cases a2; cases a3; cases hs
                refine if_hdT rfl et h4 ⟨_, et, onS_of (atI_nat (j := 1) rfl) ⟨_, et, onS_of (atI_nat (j := 2) rfl) ⟨(by show 2 ≤ sizeLine; decide), fun p hp => ?_⟩⟩⟩
                have sp := same_new hp (.tup [.str "let", .int k1])
                refine ⟨a, p, g, n, x, ("let", k1), rfl, hsc2.same sp, by omega, upd_same, fun b H4 S4 hb sc4 => ?_⟩
                have S24 := sp.trans S4
                refine ⟨_, S24 _ _ et, onS_of (atI_nat (j := 3) rfl) ⟨d, _, rfl, DPut.k (k := Sum.inl k2) (S24 _ _ ek) (by omega), ?_⟩⟩
                have nbd : b ≠ d := (ne_of_none (sp _ _ ek) hb).symm
                have et5 : (upd H4 d (.dK (putK kvs (Sum.inl k2) (.ref b)))) t = some (.tup (.str "let" :: [.str x, .int k1, .int k2])) := by rw [upd_ne (ne_of (S24 _ _ et) (S24 _ _ ek) (fun z => nomatch z))]; exact S24 _ _ et
                dsimp only
                refine if_hdF rfl et5 h2 (fin (same_upd (S.trans S24) hd _) upd_same (nd_put _ nd) (Nat.le_trans (length_putK _ _ _) (by omega)) fun c => ?_)
                by_cases z : c = k2
                · exact .inr ⟨1, _, b, .inr ((S.trans sp).free hb), by rw [z]; rfl, rfl, by rw [valV_put, if_pos (by rw [z])], sc4.upd (S24 _ _ ek) nbd⟩
                · by_cases z1 : c = k1
                  · exact .inr ⟨0, _, a, .inl rfl, by rw [z1]; rfl, rfl, by rw [valV_put, if_neg (fun y => z (by injection y)), hc c, if_pos (by simp [Ro.pl, z1])], ((hsc2.same S24).upd (S24 _ _ ek) nad).le (Nat.le_succ _)⟩
                  · exact .inl ⟨by rw [valV_put, if_neg (fun y => z (by injection y)), hc c, if_neg (by simp [Ro.pl, z, z1])], by simp [Ro.pl, z, z1]⟩
        | case k0 l =>
          refine if_hdF rfl et h3 (if_hdF rfl et h4 ?_)
          cases hs with
          | cons a1 hs =>
            cases hs with
            | cons a2 hs =>
              cases a1; cases hs
              cases a2 with
              | @tup ta xs _ eta hxs =>
                have lx := hxs.length
                rw [List.length_map] at lx
                have hl100 : l.length ≤ 100 := ho.1
                refine if_hdT rfl et h2 ⟨_, et, onS_of (atI_nat (j := 2) rfl) ⟨ta, rfl, ⟨_, SqT.of (S _ _ eta)⟩, for_tup (xs := xs) (fun i σ H3 => ∃ (o4 : Option V) (kvs : List (Key × V)), σ = [some (.ref t), some (.ref a), some (.ref d), o, o4] ∧ Same H H3 ∧ H3 d = some (.dK kvs) ∧ (kvs.map (·.1)).Nodup ∧ kvs.length ≤ 101 + i ∧ ∀ c : Int, (∃ (j : Nat) (p : Str × Str × Int) (b : Addr), j < i ∧ l[j]? = some p ∧ p.2.2 = c ∧ valV kvs (.inl c) = some (.ref b) ∧ (b ≠ d ∧ H b = none) ∧ Sc H3 b (wid g p.2.1 ("arm", c)) (n + 1)) ∨ ((∀ (j : Nat) (p : Str × Str × Int), j < i → l[j]? = some p → p.2.2 ≠ c) ∧ valV kvs (.inl c) = if c ∈ (Ro.case k0 l).pl then some (.ref a) else none))
                  ⟨none, kvs, rfl, S, ek, nd, by omega, fun c => .inr ⟨fun j p hj => absurd hj (Nat.not_lt_zero _), hc c⟩⟩ (fun i σ H3 _ ⟨_, _, _, S3, _⟩ => SqT.of (S3 _ _ eta)) ?_ ?_⟩⟩
                · rintro i v σ H3 hv ⟨o4, kvs, rfl, S3, ek, nd, hk, hc⟩
                  obtain ⟨dd, hdd, him⟩ := ims_get' hxs hv
                  rw [List.getElem?_map] at hdd
                  obtain ⟨⟨tg, x, kk⟩, hp, rfl⟩ := Option.map_eq_some_iff.mp hdd
                  have hi := (List.getElem?_eq_some_iff.mp hp).1
                  cases him with
                  | @tup tb _ _ eb hb =>
                    cases hb with
                    | cons b1 hb =>
                      cases hb with
                      | cons b2 hb =>
                        cases hb with
                        | cons b3 hb =>
                          cases b1; cases b2; cases b3; cases hb
                          refine ⟨_, S3 _ _ eb, onS_of (atI_nat (j := 1) rfl) ⟨_, S3 _ _ eb, onS_of (atI_nat (j := 2) rfl) ⟨(by show 2 ≤ sizeLine; decide), fun p hp' => ?_⟩⟩⟩
                          have sp := same_new hp' (.tup [.str "arm", .int kk])
                          refine ⟨a, p, g, n, x, ("arm", kk), rfl, (hsc.same S3).same sp, by omega, upd_same, fun b H4 S4 hb sc4 => ?_⟩
                          have S34 := sp.trans S4
                          refine ⟨_, S34 _ _ (S3 _ _ eb), onS_of (atI_nat (j := 2) rfl) ⟨d, _, rfl, DPut.k (k := Sum.inl kk) (S34 _ _ ek) (by omega), ?_⟩⟩
                          have nbd : b ≠ d := (ne_of_none (sp _ _ ek) hb).symm
                          refine ⟨_, _, rfl, same_upd (S3.trans S34) hd _, upd_same, nd_put _ nd, Nat.le_trans (length_putK _ _ _) (by omega), fun c => ?_⟩
                          by_cases z : c = kk
                          · exact .inl ⟨i, _, b, Nat.lt_succ_self _, hp, z.symm, by rw [valV_put, if_pos (by rw [z])], ⟨nbd, (S3.trans sp).free hb⟩, by rw [z]; exact sc4.upd (S34 _ _ ek) nbd⟩
                          · rcases hc c with ⟨j, p, b', c1, c2, c3, c4, c5, c6⟩ | ⟨c1, c2⟩
                            · exact .inl ⟨j, p, b', Nat.lt_succ_of_lt c1, c2, c3, by rw [valV_put, if_neg (fun y => z (by injection y))]; exact c4, c5, (c6.same S34).upd (S34 _ _ ek) c5.1⟩
                            · refine .inr ⟨fun j p hj hp2 => ?_, by rw [valV_put, if_neg (fun y => z (by injection y))]; exact c2⟩
                              by_cases e : j = i
                              · rw [e, hp] at hp2
                                cases hp2
                                exact fun y => z y.symm
                              · exact c1 j p (by omega) hp2
                · rintro σ H3 ⟨o4, kvs, rfl, S3, ek, nd, hk, hc⟩
                  refine fin (o3 := o) (o4 := o4) S3 ek nd (by omega) fun c => ?_
                  rcases hc c with ⟨j, p, b', c1, c2, c3, c4, c5, c6⟩ | ⟨c1, c2⟩
                  · refine .inr ⟨j + 1, some (p.2.1, ("arm", p.2.2)), b', .inr c5.2, ?_, ?_, c4, ?_⟩
                    · show (k0 :: l.map fun p => p.2.2)[j + 1]? = _
                      rw [List.getElem?_cons_succ, List.getElem?_map, c2, ← c3]
                      rfl
                    · show (none :: l.map fun p => some (p.2.1, (("arm" : Str), p.2.2)))[j + 1]? = _
                      rw [List.getElem?_cons_succ, List.getElem?_map, c2]
                      rfl
                    · rw [c3]
                      exact c6
                  · by_cases z : c = k0
                    · exact .inr ⟨0, none, a, .inl rfl, by rw [z]; rfl, rfl, by rw [c2, if_pos (by simp [Ro.pl, z])], (hsc.same S3).le (Nat.le_succ _)⟩
                    · have nm : c ∉ (Ro.case k0 l).pl := fun hm => by
                        rcases List.mem_cons.mp (show c ∈ (k0 :: l.map fun p => p.2.2) from hm) with h | h
                        · exact z h
                        · obtain ⟨p, hp, e⟩ := List.mem_map.mp h
                          obtain ⟨j, hj⟩ := List.mem_iff_getElem?.mp hp
                          exact c1 j p (by rw [lx]; exact (List.getElem?_eq_some_iff.mp hj).1) hj e
                      exact .inl ⟨by rw [c2, if_neg nm], nm⟩
        | _ =>
          exact if_hdF rfl et h3 (if_hdF rfl et h4 (if_hdF rfl et h2 (fin S ek nd (by omega) (ins_plain (.inl rfl) rfl hsc2 hc))))
end
end K11.Internal
namespace K11.Internal
open PySem L2.Internal BO.Internal
seal L2.Internal.PE L2.Internal.PA L2.Internal.PS L2.Internal.PSs L2.Internal.PT L2.Internal.PI
theorem for_enum {K : PySem.W.Frag} {a : Addr} {xs : List V} {g : TG} {tb : TS} {D : Ends} {σ : St} {H : Hp} (Pv : Nat → St → Hp → Prop) (h0 : Pv 0 σ H) (hl : ∀ i σ H, i ≤ xs.length → Pv i σ H → SqL K H a xs)
    (hs : ∀ (i : Nat) (x : V) (σ : St) (H : Hp) (T : Addr), xs[i]? = some x → Pv i σ H → H T = none → g (.ref T) σ (upd H T (.tup [.int (i : Int), x])) fun σ2 H2 => tb { D with nx := Pv (i + 1), ct := Pv (i + 1), bk := D.nx } σ2 H2) (hd : ∀ σ H, Pv xs.length σ H → D.nx σ H) :
    ∃ W : Nat → Nat → St → Hp → Prop, (∃ m, W 0 m σ H) ∧ ∀ i m σ H, W i m σ H →
      ((Ite K a).stop i H ∧ D.nx σ H) ∨ ((Ite K a).go i H ∧ ∃ N : St → Hp → Prop, (∀ σ' H', N σ' H' → ∃ m', m' < m ∧ W (i + 1) m' σ' H') ∧ ∀ x H', (Ite K a).yld i H x H' → g x σ H' fun σ2 H2 => tb { D with nx := N, ct := N, bk := D.nx } σ2 H2) := by
  refine ⟨fun i m σ H => m = xs.length - i ∧ i ≤ xs.length ∧ Pv i σ H, ⟨xs.length, by simp, Nat.zero_le _, h0⟩, ?_⟩
  rintro i m σ H ⟨rfl, hi, p⟩
  have q := hl i σ H hi p
  by_cases hlt : i < xs.length
  · refine .inr ⟨⟨xs, xs[i], q, by simp [hlt]⟩, Pv (i + 1), fun σ' H' p' => ⟨xs.length - (i + 1), by omega, rfl, hlt, p'⟩, fun v H' y => ?_⟩
    obtain ⟨T, x, rfl, hT, rfl, hx⟩ := y
    exact hs i x σ H T (hx xs q) p hT
  · have e : i = xs.length := by omega
    subst e
    exact .inl ⟨⟨xs, q, rfl⟩, hd σ H p⟩
theorem lk_hd {f : Str} {v : V} {r : List (Str × V)} : List.lookup f ((f, v) :: r) = some v := by
  rw [List.lookup_cons, show (f == f) = true by simp]
theorem lk_tl {f g : Str} {v : V} {r : List (Str × V)} (h : (f == g) = false) : List.lookup f ((g, v) :: r) = List.lookup f r := by
  rw [List.lookup_cons, h]
noncomputable def fP (n r w : Addr) : List (Str × V) := [("names", .ref n), ("roots", .ref r), ("rows", .ref w)]
theorem fP_names (n r w : Addr) : (fP n r w).lookup ("names" : Str) = some (.ref n) := lk_hd
theorem fP_roots (n r w : Addr) : (fP n r w).lookup ("roots" : Str) = some (.ref r) := (lk_tl (by decide +kernel)).trans lk_hd
theorem fP_rows (n r w : Addr) : (fP n r w).lookup ("rows" : Str) = some (.ref w) := (lk_tl (by decide +kernel)).trans ((lk_tl (by decide +kernel)).trans lk_hd)
noncomputable def nI (k : Nat) : V := .int (k : Int)
structure PrA (C : Addr) (H : Hp) (p n r w dx : Addr) (xs : List V) (names : List Str) (roots : List Nat) (ρs : List Ro) : Prop where
  o : H p = some (.ins C dx (fP n r w))
  n : H n = some (.lst (names.map V.str))
  r : H r = some (.lst (roots.map nI))
  w : H w = some (.lst xs)
  i : Ims H xs (ρs.map Ro.d)
theorem PrA.same {C : Addr} {H H' : Hp} {p n r w dx : Addr} {xs : List V} {names : List Str} {roots : List Nat} {ρs : List Ro} (h : PrA C H p n r w dx xs names roots ρs) (s : Same H H') : PrA C H' p n r w dx xs names roots ρs := ⟨s _ _ h.o, s _ _ h.n, s _ _ h.r, s _ _ h.w, h.i.mono (Same.tk s)⟩
noncomputable def G0 (names : List Str) : Nat → (Str → Option Hm)
  | 0 => fun _ => none
  | d + 1 => match names[d]? with
    | some x => wid (G0 names d) x ("def", (d : Int))
    | none => G0 names d
structure Good (names : List Str) (roots : List Nat) (ρs : List Ro) (out : Nat → Str → Option Hm) : Prop where
  nn : names.Nodup
  nl : names.length ≤ 12
  rl : roots.length = names.length
  ok : ∀ ρ ∈ ρs, ρ.ok
  pn : ρs.length ≤ 1000
  rlt : ∀ (i r : Nat), roots[i]? = some r → r < ρs.length
  root : ∀ (i r : Nat) (ρ : Ro), roots[i]? = some r → ρs[r]? = some ρ → out r = if ρ.isF = true then G0 names (i + 1) else G0 names i
  kid : ∀ (k : Nat) (ρ : Ro) (j : Nat) (c : Int) (e : Option (Str × Hm)), ρs[k]? = some ρ → ρ.pl[j]? = some c → ρ.ex[j]? = some e → ∃ m : Nat, c = (m : Int) ∧ k < m ∧ out m = exG (out k) e
  reach : ∀ k : Nat, k < ρs.length → (∃ i : Nat, roots[i]? = some k) ∨ ∃ (k' : Nat) (ρ : Ro), k' < k ∧ ρs[k']? = some ρ ∧ (k : Int) ∈ ρ.pl
noncomputable def duo (out : Nat → Str → Option Hm) (k : Nat) : Ro → Option Hm
  | .name x => out k x
  | _ => none
noncomputable def hoD : Option Hm → Dt
  | none => .flat .non
  | some h => hmD h
theorem pick_ro {H : Hp} {xs : List V} {ρs : List Ro} {k : Nat} {ρ : Ro} (h : Ims H xs (ρs.map Ro.d)) (e : ρs[k]? = some ρ) : ∃ (t : Addr) (ys : List V), xs[k]? = some (.ref t) ∧ H t = some (.tup (.str ρ.s :: ys)) ∧ Ims H ys ρ.r ∧ Im H (.ref t) ρ.d := by
  have lx := h.length
  rw [List.length_map] at lx
  have hk := (List.getElem?_eq_some_iff.mp e).1
  obtain ⟨d, hd, him⟩ := ims_get' h (List.getElem?_eq_getElem (show k < xs.length by omega))
  rw [List.getElem?_map, e] at hd
  cases hd
  have h0 : xs[k]? = some xs[k] := List.getElem?_eq_getElem (by omega)
  generalize xs[k] = v at h0 him
  have him' := him
  cases him with
  | @tup t ys _ et hs =>
    cases hs with
    | cons a hs =>
      cases a
      exact ⟨t, _, h0, et, hs, him'⟩
section
variable {P : Program} {w : World} {K : PySem.W.Frag} {mg : Str → Option Value} {base : Heap}
noncomputable def sp_root_scopes (C : Addr) : Sp := fun vs H Q _ => ∃ (p n r w dx : Addr) (xs : List V) (names : List Str) (roots : List Nat) (ρs : List Ro) (out : Nat → Str → Option Hm), vs = [.ref p] ∧ PrA C H p n r w dx xs names roots ρs ∧ Good names roots ρs out ∧
  ∀ d kvs H', Same H H' → H d = none → H' d = some (.dK kvs) → kvs.length ≤ 12 → (∀ (i c : Nat), roots[i]? = some c → ∃ a, a ≠ d ∧ valV kvs (.inl (c : Int)) = some (.ref a) ∧ Sc H' a (out c) 20) → Q (.ref d) H'
theorem ok_root_scopes (T : Txt K mg) : FnOk P w K mg base CX0 2 T.a_root_scopes T.fd_root_scopes ["program"] (sp_root_scopes T.a_Program) := by
  have G_widened := ok_widened (P := P) (w := w) (base := base) T
  refine T.F_root_scopes.ok sc_root_scopes (fun vs H Q E h => ?_) (fun cdv A outer s H vs Q E hr h => ?_)
  · obtain ⟨p, n, r, w, dx, xs, names, roots, ρs, out, rfl, _⟩ := h
    rfl
  have hu := hu_of hr
  obtain ⟨p, n, r, w, dx, xs, names, roots, ρs, out, rfl, pr, gd, q⟩ := h
  refine ⟨_, (pss_cons (ps_set (i := 1) sc_root_scopes.nd rfl (Or.inl rfl) pe_dnewK)
    (pss_cons (ps_set (i := 2) sc_root_scopes.nd rfl (Or.inl rfl) pe_dnewK)
    (pss_cons (ps_for PassesOwn.never rfl (pi_enum rfl T.z_enumerate (pa_cons (pec_fld T.cl_Program T.n_Program_names (cv 0)) pa_nil)) (pg_tup rfl (pgs_cons (pg_name (i := 3) sc_root_scopes.nd rfl (Or.inl rfl)) (pgs_cons (pg_name (i := 4) sc_root_scopes.nd rfl (Or.inl rfl)) pgs_nil)))
      (pss_cons (ps_set (i := 5) sc_root_scopes.nd rfl (Or.inl rfl) (pe_ix xc_list (pec_fld T.cl_Program T.n_Program_roots (cv 0)) (cv 3) (fun _ _ => rfl)))
      (pss_cons (ps_set (i := 6) sc_root_scopes.nd rfl (Or.inl rfl) (pe_call G_widened (hr.mono (by decide)) rfl T.m_widened T.k_widened T.b_widened .nil pass0 (pa_cons (cv 2) (pa_cons (cv 4) (pa_cons (pe_tup (pa_cons pe_str (pa_cons (cv 3) pa_nil))) pa_nil)))))
      (pss_cons (ps_dput hu (cv 1) (cv 5) (pe_ifExp (ptc_cmpR oc_eq (pe_ix xc_tup (pe_ix xc_list (pec_fld T.cl_Program T.n_Program_rows (cv 0)) (cv 5) (fun _ _ => rfl)) pe_int (fun _ _ => rfl)) pe_str (nomark _)) (cv 6) (cv 2)) rfl)
      (pss_one (ps_set (i := 2) sc_root_scopes.nd rfl (Or.inl rfl) (cv 6)))))))
    (pss_one (ps_ret (cv 1)))))), ?_⟩
  have sl : sizeLine = 16777216 := sizeLine_eq
  intro d hd
  have s1 := same_new hd (.dK [])
  have ed : (upd H d (.dK [])) d = some (.dK []) := upd_same
  dsimp only [gName]
  generalize upd H d (.dK []) = H1 at s1 ed ⊢
  intro ae hae
  have s2 := same_new hae (.dK [])
  have ea : (upd H1 ae (.dK [])) ae = some (.dK []) := upd_same
  dsimp only [gName]
  generalize upd H1 ae (.dK []) = H2 at s2 ea ⊢
  have nad : ae ≠ d := (ne_of_none ed hae).symm
  have pr2 := pr.same (s1.trans s2)
  have nl := gd.nl
  refine ⟨_, ⟨dx, _, pr2.o, fP_names _ _ _⟩, n, rfl, ⟨_, SqL.of pr2.n⟩, for_enum (xs := names.map V.str) (fun i σ H3 => ∃ (o3 o4 o5 o6 : Option V) (ae : Addr) (kvs : List (Key × V)), σ = [some (.ref p), some (.ref d), some (.ref ae), o3, o4, o5, o6] ∧ Same H H3 ∧ H3 d = some (.dK kvs) ∧ kvs.length ≤ i ∧ ae ≠ d ∧ Sc H3 ae (G0 names i) i ∧ ∀ (i' c : Nat), i' < i → roots[i']? = some c → ∃ a, a ≠ d ∧ valV kvs (.inl (c : Int)) = some (.ref a) ∧ Sc H3 a (out c) 20)
    ⟨none, none, none, none, ae, [], rfl, s1.trans s2, s2 _ _ ed, Nat.le_refl _, nad, ⟨[], ea, Nat.le_refl _, fun w => rfl⟩, fun i' c h => absurd h (Nat.not_lt_zero _)⟩ (fun i σ H3 _ ⟨_, _, _, _, _, _, _, S, _⟩ => SqL.of (S _ _ pr.n)) ?_ ?_⟩
  · rintro i v σ H3 t hx ⟨o3, o4, o5, o6, ae, kvs, rfl, S, ek, hk, nad, sca, hroots⟩ ht
    rw [List.getElem?_map] at hx
    obtain ⟨x, hx', rfl⟩ := Option.map_eq_some_iff.mp hx
    clear hx
    have hx := hx'
    have hi := (List.getElem?_eq_some_iff.mp hx).1
    have rl := gd.rl
    obtain ⟨c, hc⟩ : ∃ c, roots[i]? = some c := ⟨_, List.getElem?_eq_getElem (by omega)⟩
    have hcl := gd.rlt i c hc
    obtain ⟨ρ, hρ⟩ : ∃ ρ, ρs[c]? = some ρ := ⟨_, List.getElem?_eq_getElem hcl⟩
    have sT := same_new ht (.tup [.int (i : Int), .str x])
    refine ⟨t, _, rfl, SqT.of upd_same, rfl, _, _, rfl, _, _, rfl, rfl, ?_⟩
    have S4 := S.trans sT
    generalize upd H3 t (.tup [.int (i : Int), .str x]) = H4 at sT S4
    have pr4 := pr.same S4
    have hcI : (roots.map nI)[i]? = some (.int (c : Int)) := by rw [List.getElem?_map, hc]; rfl
    refine ⟨_, ⟨dx, _, pr4.o, fP_roots _ _ _⟩, _, pr4.r, onS_of (atI_nat hcI) ?_⟩
    refine ⟨(by show 2 ≤ sizeLine; decide), fun pp hpp => ?_⟩
    have s5 := same_new hpp (.tup [.str "def", .int (i : Int)])
    refine ⟨ae, pp, G0 names i, i, x, ("def", (i : Int)), rfl, (sca.same sT).same s5, by omega, upd_same, fun b H6 S6 hb sc6 => ?_⟩
    have S36 := (sT.trans s5).trans S6
    have SH6 := S.trans S36
    have pr6 := pr.same SH6
    obtain ⟨tr, ys, hxt, etr, _, _⟩ := pick_ro pr6.i hρ
    refine ⟨_, ⟨dx, _, pr6.o, fP_rows _ _ _⟩, _, pr6.w, onS_of (atI_nat hxt) ⟨_, etr, onS_of (atI_nat (j := 0) rfl) ?_⟩⟩
    dsimp only [tC, cEq, onB]
    obtain ⟨_, _, h3, _⟩ := ρ.hd (gd.ok ρ (List.mem_of_getElem? hρ))
    rw [Bool.false_xor, h3]
    have nbd : b ≠ d := (ne_of_none (s5 _ _ (sT _ _ ek)) hb).symm
    have g1 : G0 names (i + 1) = wid (G0 names i) x ("def", (i : Int)) := by rw [G0, hx]
    have hout := gd.root i c ρ hc hρ
    have nx : ∀ z : Addr, z ≠ d → Sc H6 z (out c) 20 → ∃ (a : Addr) (H' : Hp), V.ref d = .ref a ∧ DPut H6 a (.int (c : Int)) (.ref z) H' ∧ ∃ (o3 o4 o5 o6 : Option V) (ae : Addr) (kvs : List (Key × V)), [some (V.ref p), some (.ref d), some (.ref b), some (.int (i : Int)), some (.str x), some (.int (c : Int)), some (.ref b)] = [some (V.ref p), some (.ref d), some (.ref ae), o3, o4, o5, o6] ∧ Same H H' ∧ H' d = some (.dK kvs) ∧ kvs.length ≤ i + 1 ∧ ae ≠ d ∧ Sc H' ae (G0 names (i + 1)) (i + 1) ∧ ∀ (i' c : Nat), i' < i + 1 → roots[i']? = some c → ∃ a, a ≠ d ∧ valV kvs (.inl (c : Int)) = some (.ref a) ∧ Sc H' a (out c) 20 := fun z nzd hz => by
      have e6 := S36 _ _ ek
      refine ⟨d, _, rfl, DPut.k (k := Sum.inl (c : Int)) e6 (by omega), _, _, _, _, b, _, rfl, same_upd SH6 hd _, upd_same, Nat.le_trans (length_putK _ _ _) (by omega), nbd, by rw [g1]; exact sc6.upd e6 nbd, fun i' c' hi' hc' => ?_⟩
      by_cases y : c' = c
      · rw [y]
        exact ⟨z, nzd, by rw [valV_put, if_pos rfl], hz.upd e6 nzd⟩
      · have : i' ≠ i := fun z => y (by rw [z, hc] at hc'; exact (Option.some.inj hc').symm)
        obtain ⟨a, h1, h2, h3⟩ := hroots i' c' (by omega) hc'
        exact ⟨a, h1, by rw [valV_put, if_neg (fun z => y (by injection z with z; omega))]; exact h2, (h3.same S36).upd e6 h1⟩
    cases hF : ρ.isF with
    | true =>
      rw [hF, if_pos rfl, g1] at hout
      exact iteT (nx b nbd (by rw [hout]; exact sc6.le (by omega)))
    | false =>
      rw [hF, if_neg Bool.false_ne_true] at hout
      exact iteF (nx ae nad (by rw [hout]; exact (sca.same S36).le (by omega)))
  · rintro σ H3 ⟨o3, o4, o5, o6, ae, kvs, rfl, S, ek, hk, nad, sca, hroots⟩
    rw [List.length_map] at hk hroots
    refine q d kvs H3 S hd ek (by omega) fun i c hc => ?_
    have rl := gd.rl
    exact hroots i c (by have := (List.getElem?_eq_some_iff.mp hc).1; omega) hc
end
end K11.Internal
namespace K11.Internal
open PySem L2.Internal BO.Internal
seal L2.Internal.PE L2.Internal.PA L2.Internal.PS L2.Internal.PSs L2.Internal.PT L2.Internal.PI
section
variable {P : Program} {w : World} {K : PySem.W.Frag} {mg : Str → Option Value} {base : Heap}
noncomputable def HoA (H : Hp) (xs : List V) (ρs : List Ro) (out : Nat → Str → Option Hm) : Prop := ∀ (k : Nat) (x : V) (ρ : Ro), xs[k]? = some x → ρs[k]? = some ρ → Im H x (hoD (duo out k ρ))
theorem Ro.nm_ne (ρ : Ro) (h : ρ.ok) (hn : ∀ x, ρ ≠ .name x) : ρ.s ≠ "name" := by
  cases ρ with
  | name x => exact absurd rfl (hn x)
  | op s ks => exact of_decide_eq_false (op_ne _ h "name" (by decide +kernel) ⟨s, ks, rfl⟩)
  | num a => exact (show ("num" : Str) ≠ "name" from by decide +kernel)
  | fn a b => exact (show ("fn" : Str) ≠ "name" from by decide +kernel)
  | tag a b => exact (show ("tag" : Str) ≠ "name" from by decide +kernel)
  | lt a b c => exact (show ("let" : Str) ≠ "name" from by decide +kernel)
  | get a b => exact (show ("get" : Str) ≠ "name" from by decide +kernel)
  | rcd a => exact (show ("rec" : Str) ≠ "name" from by decide +kernel)
  | case a b => exact (show ("case" : Str) ≠ "name" from by decide +kernel)
  | row a => exact (show ("row" : Str) ≠ "name" from by decide +kernel)
theorem tk_upd {H : Hp} {l : Addr} {u o : HO} (e : H l = some u) (nt : ∀ zs, u ≠ .tup zs) : TK H (upd H l o) := fun a xs q => by rw [upd_ne (ne_of q e (fun z => nt _ z.symm))]; exact q
theorem Sc.updL {H : Hp} {a l : Addr} {g : Str → Option Hm} {n : Nat} {ys : List V} {o : HO} (h : Sc H a g n) (e : H l = some (.lst ys)) : Sc (L2.Internal.upd H l o) a g n := by
  obtain ⟨kvs, e1, l', h⟩ := h
  refine ⟨kvs, by rw [upd_ne (ne_of e1 e (fun z => nomatch z))]; exact e1, l', fun w => ?_⟩
  have := h w
  cases hg : g w with
  | none => rw [hg] at this; exact this
  | some z =>
    rw [hg] at this
    obtain ⟨t, h1, h2⟩ := this
    exact ⟨t, h1, by rw [upd_ne (ne_of h2 e (fun z => nomatch z))]; exact h2⟩
end
end K11.Internal
namespace K11.Internal
open PySem L2.Internal BO.Internal
seal L2.Internal.PE L2.Internal.PA L2.Internal.PS L2.Internal.PSs L2.Internal.PT L2.Internal.PI
noncomputable def Dbl (ws : List Str) (i : Nat) (x : Str) : Prop := ws[i]? = some x ∧ x ∈ ws.take i ∧ ∀ j y, j < i → ws[j]? = some y → y ∉ ws.take j
theorem nodup_take {ws : List Str} (h : ws.Nodup) {i : Nat} {x : Str} (hx : ws[i]? = some x) : x ∉ ws.take i := fun hm => by
  have h1 : (ws.take i ++ ws.drop i).Nodup := by rw [List.take_append_drop]; exact h
  rw [List.nodup_append] at h1
  obtain ⟨z1, z2⟩ := List.getElem?_eq_some_iff.mp hx
  exact h1.2.2 _ hm _ (by rw [List.drop_eq_getElem_cons z1, z2]; simp) rfl
theorem Dbl.not {ws : List Str} {i : Nat} {x : Str} (h : Dbl ws i x) : ¬ ws.Nodup := fun n => nodup_take n h.1 h.2.1
theorem Dbl.inj {ws : List Str} {i j : Nat} {x y : Str} (h : Dbl ws i x) (g : Dbl ws j y) : i = j ∧ x = y := by
  have e : i = j := by
    by_cases z : i < j
    · exact absurd h.2.1 (g.2.2 i x z h.1)
    · by_cases z2 : j < i
      · exact absurd g.2.1 (h.2.2 j y z2 g.1)
      · omega
  subst e
  have := h.1.symm.trans g.1
  exact ⟨rfl, Option.some.inj this⟩
theorem nodup_of {ws : List Str} (h : ∀ j y, ws[j]? = some y → y ∉ ws.take j) : ws.Nodup := by
  rw [List.Nodup, List.pairwise_iff_getElem]
  intro i j hi hj hij e
  refine h j ws[j] (List.getElem?_eq_getElem hj) (List.mem_iff_getElem?.mpr ⟨i, ?_⟩)
  rw [List.getElem?_take, if_pos hij, List.getElem?_eq_getElem hi, e]
section
variable {P : Program} {w : World} {K : PySem.W.Frag} {mg : Str → Option Value} {base : Heap}
noncomputable def sp_Twice___init__ (C : Addr) : Sp := fun vs H Q _ => ∃ (e : Addr) (x : Str), vs = [.ref e, .str x] ∧ H e = some (rawX e C) ∧ ∀ dx, H dx = none → dx ≠ e → Q .non (upd (upd H e (excM e C dx)) dx (dicX dx [("word", .str x)]))
theorem ok_Twice___init__ (T : Txt K mg) : FnOk P w K mg base CX0 1 T.a_Twice___init__ T.fd_Twice___init__ ["self", "word"] (sp_Twice___init__ T.a_Twice) := by
  refine T.F_Twice___init__.ok sc_Twice___init__ (fun vs H Q E h => ?_) (fun cdv A outer s H vs Q E hr h => ?_)
  · obtain ⟨e, x, rfl, _⟩ := h
    rfl
  obtain ⟨e, x, rfl, he, q⟩ := h
  refine ⟨_, (pss_one (ps_fldX1 rfl (cv 0) (cv 1) rfl)), ?_⟩
  exact ⟨e, _, rfl, he, T.xs_Twice, T.xf_Twice_word, q⟩
noncomputable def sp_refuse_twice (C : Addr) : Sp := fun vs H Q E => ∃ (a : Addr) (ws : List Str), vs = [.ref a] ∧ H a = some (.lst (ws.map V.str)) ∧ ws.length ≤ 10000 ∧ (ws.Nodup → ∀ H', Same H H' → Q .non H') ∧
  ∀ i x, Dbl ws i x → ∀ dx H', Same H H' → H' dx = some (dicX dx [("word", .str x)]) → E (.ref C) (some dx) H'
theorem ok_refuse_twice (T : Txt K mg) : FnOk P w K mg base (CXF P w) 3 T.a_refuse_twice T.fd_refuse_twice ["words"] (sp_refuse_twice T.a_Twice) := by
  have G_Twice___init__ := ok_Twice___init__ (P := P) (w := w) (base := base) T
  refine T.F_refuse_twice.okF sc_refuse_twice (fun vs H Q E h => ?_) (fun cdv A outer s H vs Q E hr h => ?_)
  · obtain ⟨a, ws, rfl, _⟩ := h
    rfl
  have hu := hu_of hr
  obtain ⟨a, ws, rfl, e, hl, q, qb⟩ := h
  refine ⟨_, (pss_cons (ps_set (i := 1) sc_refuse_twice.nd rfl (Or.inl rfl) pe_dnewK)
    (pss_one (ps_for PassesOwn.leaving rfl (pi_list (cv 0)) (pg_name (i := 2) sc_refuse_twice.nd rfl (Or.inl rfl))
      (pss_cons (ps_if (pt_cmp (pc_din hu (cv 2) (cv 1)) rfl)
        (pss_one (ps_raiseI rfl rfl leavesF T.xi_Twice G_Twice___init__ (hr.mono (by decide)) T.b_Twice___init__ rfl T.m_Twice (pa_cons (cv 2) pa_nil)))
        pss_nil)
      (pss_one (ps_dput hu (cv 1) (cv 2) pe_bl rfl)))))), ?_⟩
  have sl : sizeLine = 16777216 := sizeLine_eq
  intro d hd
  have s1 := same_new hd (.dK [])
  have ed : (upd H d (.dK [])) d = some (.dK []) := upd_same
  dsimp only [gName]
  generalize upd H d (.dK []) = H1 at s1 ed ⊢
  refine ⟨a, rfl, ⟨_, SqL.of (s1 _ _ e)⟩, for_list (xs := ws.map V.str) (fun i σ H2 => ∃ (o : Option V) (kvs : List (Key × V)), σ = [some (.ref a), some (.ref d), o] ∧ Same H H2 ∧ H2 d = some (.dK kvs) ∧ kvs.length ≤ i ∧ (∀ w : Str, w ∉ ws.take i → valV kvs (.inr w) = none) ∧ (∀ w : Str, w ∈ ws.take i → ∃ v, valV kvs (.inr w) = some v) ∧ ∀ j y, j < i → ws[j]? = some y → y ∉ ws.take j)
    ⟨none, [], rfl, s1, ed, Nat.zero_le _, fun _ _ => rfl, fun w hw => (by cases hw), fun j y hj => absurd hj (Nat.not_lt_zero _)⟩ (fun i σ H2 _ ⟨_, _, _, S, _⟩ => SqL.of (S _ _ e)) ?_ ?_⟩
  · rintro i v σ H2 hv ⟨o, kvs, rfl, S, ek, hk, hn, hs, hj⟩
    have hi := (List.getElem?_eq_some_iff.mp hv).1
    rw [List.length_map] at hi
    rw [List.getElem?_map] at hv
    obtain ⟨x, hx⟩ : ∃ x, ws[i]? = some x := ⟨_, List.getElem?_eq_getElem hi⟩
    rw [hx] at hv
    cases hv
    have g := DGet.k (k := (Sum.inr x : Key)) ek
    by_cases hxn : x ∈ ws.take i
    · obtain ⟨z, hz⟩ := hs x hxn
      rw [hz] at g
      refine ⟨d, _, rfl, g, _, rfl, iteT ⟨(by show 1 ≤ sizeLine; decide), fun o ho => ⟨o, x, rfl, upd_same, fun b hb hbo => ⟨rfl, b, ?_, ?_⟩⟩⟩⟩
      · rw [upd_ne hbo.symm, upd_same]
      · have ho' := S.free ho
        have hb' : H2 b = none := by rw [upd_ne hbo] at hb; exact hb
        have hb'' := S.free hb'
        refine qb i x ⟨hx, hxn, hj⟩ b _ (fun c u hc => ?_) (by rw [dr_ne hbo, upd_same])
        rw [dr_ne (ne_of_none hc ho'), upd_ne (ne_of_none hc hb''), upd_ne (ne_of_none hc ho'), upd_ne (ne_of_none hc ho')]
        exact S c u hc
    · rw [hn x hxn] at g
      refine ⟨d, none, rfl, g, _, rfl, iteF ?_⟩
      have tk : ws.take (i + 1) = ws.take i ++ [x] := by rw [List.take_add_one, hx]; rfl
      refine ⟨d, _, rfl, DPut.k (k := Sum.inr x) ek (by omega), _, _, rfl, same_upd S hd _, upd_same, Nat.le_trans (length_putK _ _ _) (by omega), fun w hw => ?_, fun w hw => ?_, fun j y hj' hy => ?_⟩
      · rw [tk] at hw
        have h1 : w ≠ x := fun z => hw (by simp [z])
        rw [valV_put, if_neg (fun z => h1 (by injection z))]
        exact hn w fun z => hw (List.mem_append_left _ z)
      · rw [tk] at hw
        rw [valV_put]
        by_cases h1 : w = x
        · rw [h1, if_pos rfl]
          exact ⟨_, rfl⟩
        · rw [if_neg (fun z => h1 (by injection z))]
          rcases List.mem_append.mp hw with hw | hw
          · exact hs w hw
          · exact absurd (List.mem_singleton.mp hw) h1
      · by_cases z : j = i
        · subst z
          rw [hx] at hy
          cases hy
          exact hxn
        · exact hj j y (by omega) hy
  · rintro σ H2 ⟨o, kvs, rfl, S, _, _, _, _, hj⟩
    rw [List.length_map] at hj
    exact q (nodup_of fun j y hy => hj j y (List.getElem?_eq_some_iff.mp hy).1 hy) H2 S
noncomputable def sp__law_double : Sp := fun vs H Q _ => ∃ (a : Addr) (ws : List Str), vs = [.ref a] ∧ H a = some (.lst (ws.map V.str)) ∧ ws.length ≤ 10000 ∧ (ws.Nodup → ∀ H', Same H H' → Q .non H') ∧ ∀ i x, Dbl ws i x → ∀ H', Same H H' → Q (.str x) H'
theorem inV_str (w : Str) (l : List Str) : inV (.str w) (l.map V.str) = decide (w ∈ l) := by
  unfold inV
  rw [List.any_map]
  by_cases h : w ∈ l
  · rw [decide_eq_true h]
    exact List.any_eq_true.mpr ⟨w, h, by show eqV (.str w) (.str w) = true; simp [eqV]⟩
  · rw [decide_eq_false h]
    refine List.any_eq_false.mpr fun x hx => ?_
    show ¬ eqV (.str x) (.str w) = true
    have : x ≠ w := fun z => h (z ▸ hx)
    simp [eqV, this]
theorem ok__law_double (T : Txt K mg) : FnOk P w K mg base CX0 1 T.a__law_double T.fd__law_double ["_law_marks"] sp__law_double := by
  refine T.F__law_double.ok sc__law_double (fun vs H Q E h => ?_) (fun cdv A outer s H vs Q E hr h => ?_)
  · obtain ⟨a, ws, rfl, _⟩ := h
    rfl
  obtain ⟨a, ws, rfl, e, hl, q, qb⟩ := h
  refine ⟨_, (pss_cons (ps_for PassesOwn.never rfl (pi_range1 rfl T.z_range (pa_cons (pe_callB call_len_seq rfl T.z_len bt_len (pa_cons (cv 0) pa_nil)) pa_nil)) (pg_name (i := 1) sc__law_double.nd rfl (Or.inl rfl))
      (pss_one (ps_if (ptc_cmpR op_in_seq (pe_ix xc_list (cv 0) (cv 1) (fun _ _ => rfl)) (pe_slice sl_list (cv 0) po_none (po_some (cv 1))) rfl)
        (pss_one (ps_ret (pe_ix xc_list (cv 0) (cv 1) (fun _ _ => rfl))))
        pss_nil)))
    (pss_one (ps_ret pe_non))), ?_⟩
  have sl : sizeLine = 16777216 := sizeLine_eq
  refine ⟨a, _, rfl, .inl (SqL.of e), _, rfl, by rw [List.length_map]; omega, by rw [List.length_map]; omega, for_range (lo := 0) (fun i σ H2 => ∃ o : Option V, σ = [some (.ref a), o] ∧ Same H H2 ∧ ∀ j y, j < i → ws[j]? = some y → y ∉ ws.take j) ⟨none, rfl, Same.refl _, fun j y h => absurd h (Nat.not_lt_zero _)⟩ ?_ ?_⟩
  · rintro i σ H2 hi ⟨o, rfl, S, hj⟩
    rw [List.length_map] at hi
    have hi : i < ws.length := hi
    obtain ⟨x, hx⟩ : ∃ x, ws[i]? = some x := ⟨_, List.getElem?_eq_getElem hi⟩
    rw [Int.zero_add]
    have ax : atI (ws.map V.str) (i : Int) = some (.str x) := atI_nat (by rw [List.getElem?_map, hx]; rfl)
    dsimp only [gName]
    refine ⟨_, S _ _ e, onS_of ax ⟨(i : Int), rfl, a, _, rfl, SqL.of (S _ _ e), fun c hc => ?_⟩⟩
    have ec : cutV (ws.map V.str) none (some (i : Int)) = (ws.take i).map V.str := by
      unfold cutV HT.Internal.sIx
      dsimp only
      rw [List.length_map, if_neg (by omega), List.drop_zero, Nat.sub_zero, ← List.map_take]
      congr 1
      congr 1
      omega
    have sc := same_new hc (.lst (cutV (ws.map V.str) none (some (i : Int))))
    refine ⟨c, _, rfl, .inl (SqL.of (by rw [upd_same, ec])), rfl, ?_, ?_⟩
    · rw [List.all_map]
      exact List.all_eq_true.mpr fun _ _ => rfl
    show if (if false = true then _ else inV (.str x) ((ws.take i).map V.str)) = true then _ else _
    rw [if_neg Bool.false_ne_true, inV_str]
    by_cases z : x ∈ ws.take i
    · rw [decide_eq_true z]
      exact iteT ⟨_, (S.trans sc) _ _ e, onS_of ax (qb i x ⟨hx, z, hj⟩ _ (S.trans sc))⟩
    · rw [decide_eq_false z]
      refine iteF ⟨_, rfl, S.trans sc, fun j y hj' hy => ?_⟩
      by_cases z2 : j = i
      · subst z2
        rw [hx] at hy
        cases hy
        exact z
      · exact hj j y (by omega) hy
  · rintro σ H2 ⟨o, rfl, S, hj⟩
    rw [List.length_map] at hj
    exact q (nodup_of fun j y hy => hj j y (List.getElem?_eq_some_iff.mp hy).1 hy) H2 S
end
end K11.Internal
namespace K11.Internal
open PySem L2.Internal BO.Internal
seal L2.Internal.PE L2.Internal.PA L2.Internal.PS L2.Internal.PSs L2.Internal.PT L2.Internal.PI
noncomputable def nnD (dx : Addr) (x : Str) (k : Int) : HO := dicX dx [("word", .str x), ("place", .int k)]
section
variable {P : Program} {w : World} {K : PySem.W.Frag} {mg : Str → Option Value} {base : Heap}
noncomputable def sp_NoName___init__ (C : Addr) : Sp := fun vs H Q _ => ∃ (e : Addr) (x : Str) (k : Int), vs = [.ref e, .str x, .int k] ∧ H e = some (rawX e C) ∧ ∀ dx, H dx = none → dx ≠ e → Q .non (upd (upd H e (excM e C dx)) dx (nnD dx x k))
theorem ok_NoName___init__ (T : Txt K mg) : FnOk P w K mg base CX0 1 T.a_NoName___init__ T.fd_NoName___init__ ["self", "word", "place"] (sp_NoName___init__ T.a_NoName) := by
  refine T.F_NoName___init__.ok sc_NoName___init__ (fun vs H Q E h => ?_) (fun cdv A outer s H vs Q E hr h => ?_)
  · obtain ⟨e, x, k, rfl, _⟩ := h
    rfl
  obtain ⟨e, x, k, rfl, he, q⟩ := h
  refine ⟨_, (pss_cons (ps_fldX1 rfl (cv 0) (cv 1) rfl)
    (pss_one (ps_fldX2 (cv 0) (cv 2) rfl))), ?_⟩
  refine ⟨e, _, rfl, he, T.xs_NoName, T.xf_NoName_word, fun dx hdx hne => ⟨e, _, dx, _, rfl, by rw [upd_ne hne.symm, upd_same], upd_same, hne, (by show 1 < 40; decide), T.xs_NoName, T.xf_NoName_place, ?_⟩⟩
  have hp : putF ("place" : Str) (.int k) [(("word" : Str), V.str x)] = [(("word" : Str), V.str x), (("place" : Str), V.int k)] := by
    simp only [putF, if_neg (show ¬ (("word" : Str) = "place") from by decide +kernel)]
  have := q dx hdx hne
  rw [hp, upd_upd]
  exact this
noncomputable def sp_home_of (C : Addr) : Sp := fun vs H Q E => ∃ (t a : Addr) (k : Int) (g : Str → Option Hm) (n : Nat) (s : Str) (r : List V), vs = [.ref t, .int k, .ref a] ∧ H t = some (.tup (.str s :: r)) ∧ Sc H a g n ∧ (s ≠ "name" → Q .non H) ∧
  (s = "name" → ∃ x : Str, r = [.str x] ∧ (∀ h, g x = some h → ∀ p, H p = some (.tup [.str h.1, .int h.2]) → Q (.ref p) H) ∧ (g x = none → ∀ dx H', Same H H' → H' dx = some (nnD dx x k) → E (.ref C) (some dx) H'))
theorem ok_home_of (T : Txt K mg) : FnOk P w K mg base (CXF P w) 3 T.a_home_of T.fd_home_of ["row", "place", "scope"] (sp_home_of T.a_NoName) := by
  have G_NoName___init__ := ok_NoName___init__ (P := P) (w := w) (base := base) T
  refine T.F_home_of.okF sc_home_of (fun vs H Q E h => ?_) (fun cdv A outer s H vs Q E hr h => ?_)
  · obtain ⟨t, a, k, g, n, s, r, rfl, _⟩ := h
    rfl
  have hu := hu_of hr
  obtain ⟨t, a, k, g, n, s', r, rfl, et, ⟨kvs, e, l, hk⟩, q1, q2⟩ := h
  refine ⟨_, (pss_cons (ps_if (ptc_cmpR oc_ne (pe_ix xc_tup (cv 0) pe_int (fun _ _ => rfl)) pe_str (nomark _))
      (pss_one (ps_ret pe_non))
      pss_nil)
    (pss_cons (ps_if (pt_cmp (pc_dnotin hu (pe_ix xc_tup (cv 0) pe_int (fun _ _ => rfl)) (cv 2)) rfl)
      (pss_one (ps_raiseI rfl rfl leavesF T.xi_NoName G_NoName___init__ (hr.mono (by decide)) T.b_NoName___init__ rfl T.m_NoName (pa_cons (pe_ix xc_tup (cv 0) pe_int (fun _ _ => rfl)) (pa_cons (cv 1) pa_nil))))
      pss_nil)
    (pss_one (ps_ret (pe_dget hu (cv 2) (pe_ix xc_tup (cv 0) pe_int (fun _ _ => rfl)) (fun _ _ => rfl)))))), ?_⟩
  refine ⟨_, et, onS_of (atI_nat (j := 0) rfl) ?_⟩
  dsimp only [tC, cEq, onB]
  by_cases hs : s' = "name"
  · obtain ⟨x, rfl, q3, q4⟩ := q2 hs
    rw [decide_eq_true hs]
    have hh := hk x
    have dg := DGet.k (k := (Sum.inr x : Key)) e
    cases hg : g x with
    | some h =>
      rw [hg] at hh
      obtain ⟨p, h1, h2⟩ := hh
      rw [h1] at dg
      exact iteF ⟨_, et, onS_of (atI_nat (j := 1) rfl) ⟨a, _, rfl, dg, _, rfl, iteF ⟨_, et, onS_of (atI_nat (j := 1) rfl) ⟨a, _, rfl, dg, q3 h hg p h2⟩⟩⟩⟩
    | none =>
      rw [hg] at hh
      have hh : valV kvs (Sum.inr x) = none := hh
      rw [hh] at dg
      refine iteF ⟨_, et, onS_of (atI_nat (j := 1) rfl) ⟨a, _, rfl, dg, _, rfl, iteT ⟨_, et, onS_of (atI_nat (j := 1) rfl) ⟨(by show 2 ≤ sizeLine; decide), fun o ho => ⟨o, x, k, rfl, upd_same, fun d hd hde => ⟨rfl, d, ?_, ?_⟩⟩⟩⟩⟩⟩
      · rw [upd_ne hde.symm, upd_same]
      · have hd' : H d = none := by rw [upd_ne hde] at hd; exact hd
        refine q4 hg d _ (fun b u hb => ?_) (by rw [dr_ne hde, upd_same])
        rw [dr_ne (ne_of_none hb ho), upd_ne (ne_of_none hb hd'), upd_ne (ne_of_none hb ho), upd_ne (ne_of_none hb ho)]
        exact hb
  · rw [decide_eq_false hs]
    exact iteT (q1 hs)
theorem two_ways {H H7 : Hp} {ρ : Ro} {zs : List V} {out : Nat → Str → Option Hm} {i : Nat} {Qx : VK} {B : Str → Prop} (rok : ρ.ok) (hzs : Ims H zs ρ.r) (key : (∀ x, ρ = .name x → ∃ h, out i x = some h) → ∀ y, Im H7 y (hoD (duo out i ρ)) → Qx y H7) (bad : ∀ x, ρ = .name x → out i x = none → B x) :
    (ρ.s ≠ "name" → Qx .non H7) ∧ (ρ.s = "name" → ∃ x : Str, zs = [.str x] ∧ (∀ h, out i x = some h → ∀ p, H7 p = some (.tup [.str h.1, .int h.2]) → Qx (.ref p) H7) ∧ (out i x = none → B x)) := by
  have no : (∀ x, ρ ≠ .name x) → duo out i ρ = none → (ρ.s ≠ "name" → Qx .non H7) ∧ (ρ.s = "name" → ∃ x : Str, zs = [.str x] ∧ (∀ h, out i x = some h → ∀ p, H7 p = some (.tup [.str h.1, .int h.2]) → Qx (.ref p) H7) ∧ (out i x = none → B x)) := fun h e => ⟨fun _ => key (fun x z => absurd z (h x)) _ (by rw [e]; exact .flat rfl), fun z => absurd z (ρ.nm_ne rok h)⟩
  cases ρ with
  | name x =>
    refine ⟨fun z => absurd rfl z, fun _ => ?_⟩
    cases hzs with
    | cons a b =>
      cases a; cases b
      refine ⟨x, rfl, fun h hh p hp => key (fun y e => by cases e; exact ⟨h, hh⟩) _ ?_, bad x rfl⟩
      show Im H7 _ (hoD (out i x))
      rw [hh]
      exact .tup hp (.cons (.flat rfl) (.cons (.flat rfl) .nil))
  | _ => exact no (fun x z => nomatch z) rfl
theorem home_call {C : Addr} {H H7 : Hp} {ρ : Ro} {zs : List V} {out : Nat → Str → Option Hm} {i : Nat} {Qx : VK} {E : XK} {t a : Addr} {n : Nat} {σ : St} (rok : ρ.ok) (hzs : Ims H zs ρ.r) (et : H7 t = some (.tup (.str ρ.s :: zs))) (sc : Sc H7 a (out i) n) (h4 : σ[4]? = some (some (.ref t))) (h3 : σ[3]? = some (some (.int (i : Int)))) (h5 : σ[5]? = some (some (.ref a)))
    (key : (∀ x, ρ = .name x → ∃ h, out i x = some h) → ∀ y, Im H7 y (hoD (duo out i ρ)) → Qx y H7) (bad : ∀ x, ρ = .name x → out i x = none → ∀ dx H', Same H7 H' → H' dx = some (nnD dx x (i : Int)) → E (.ref C) (some dx) H') :
    tCall (sp_home_of C) [] E (tCons (cV 4) (tCons (cV 3) (tCons (cV 5) tNil))) σ H7 Qx := by
  show onV σ[4]? _
  rw [h4]
  show onV σ[3]? _
  rw [h3]
  show onV σ[5]? _
  rw [h5]
  exact ⟨t, a, (i : Int), out i, n, ρ.s, zs, rfl, et, sc, two_ways rok hzs key bad⟩
noncomputable def Fine (ρs : List Ro) (out : Nat → Str → Option Hm) (m : Nat) : Prop := ∀ (k : Nat) (ρ : Ro), k < m → ρs[k]? = some ρ → ρ.ws.Nodup ∧ ∀ x, ρ = .name x → ∃ h, out k x = some h
noncomputable def sp_homes_of (C Cn Ct : Addr) : Sp := fun vs H Q E => ∃ (p n r w dx : Addr) (xs : List V) (names : List Str) (roots : List Nat) (ρs : List Ro) (out : Nat → Str → Option Hm), vs = [.ref p] ∧ PrA C H p n r w dx xs names roots ρs ∧ names.length ≤ 100 ∧
  (∀ i x, Dbl names i x → ∀ dx H', Same H H' → H' dx = some (dicX dx [("word", .str x)]) → E (.ref Ct) (some dx) H') ∧
  (names.Nodup → Good names roots ρs out ∧
    (Fine ρs out ρs.length → ∀ l ys H', Same H H' → H l = none → H' l = some (.lst ys) → ys.length = ρs.length → HoA H' ys ρs out → Q (.ref l) H') ∧
    (∀ (k : Nat) (ρ : Ro) (i : Nat) (x : Str), Fine ρs out k → ρs[k]? = some ρ → Dbl ρ.ws i x → ∀ dx H', Same H H' → H' dx = some (dicX dx [("word", .str x)]) → E (.ref Ct) (some dx) H') ∧
    (∀ (k : Nat) (x : Str), Fine ρs out k → ρs[k]? = some (.name x) → out k x = none → ∀ dx H', Same H H' → H' dx = some (nnD dx x (k : Int)) → E (.ref Cn) (some dx) H'))
theorem ok_homes_of (T : Txt K mg) : FnOk P w K mg base (CXF P w) 8 T.a_homes_of T.fd_homes_of ["program"] (sp_homes_of T.a_Program T.a_NoName T.a_Twice) := by
  have G_refuse_twice := ok_refuse_twice (P := P) (w := w) (base := base) T
  have G_root_scopes := ok_root_scopes (P := P) (w := w) (base := base) T
  have G_words_once := ok_words_once (P := P) (w := w) (base := base) T
  have G_home_of := ok_home_of (P := P) (w := w) (base := base) T
  have G_inner_scopes := ok_inner_scopes (P := P) (w := w) (base := base) T
  refine T.F_homes_of.okF sc_homes_of (fun vs H Q E h => ?_) (fun cdv A outer s H vs Q E hr h => ?_)
  · obtain ⟨p, n, r, w, dx, xs, names, roots, ρs, out, rfl, _⟩ := h
    rfl
  have hu := hu_of hr
  obtain ⟨p, n, r, w, dx, xs, names, roots, ρs, out, rfl, pr, nl0, qn, qg⟩ := h
  refine ⟨_, (pss_cons (ps_expr (pe_call G_refuse_twice (hr.mono (by decide)) rfl T.m_refuse_twice T.k_refuse_twice T.b_refuse_twice .nil passXE (pa_cons (pec_fld T.cl_Program T.n_Program_names (cv 0)) pa_nil)))
    (pss_cons (ps_set (i := 1) sc_homes_of.nd rfl (Or.inl rfl) (pe_call G_root_scopes (hr.mono (by decide)) rfl T.m_root_scopes T.k_root_scopes T.b_root_scopes .nil pass0 (pa_cons (cv 0) pa_nil)))
    (pss_cons (ps_set (i := 2) sc_homes_of.nd rfl (Or.inl rfl) (pe_lst pa_nil))
    (pss_cons (ps_for PassesOwn.leaving rfl (pi_enum rfl T.z_enumerate (pa_cons (pec_fld T.cl_Program T.n_Program_rows (cv 0)) pa_nil)) (pg_tup rfl (pgs_cons (pg_name (i := 3) sc_homes_of.nd rfl (Or.inl rfl)) (pgs_cons (pg_name (i := 4) sc_homes_of.nd rfl (Or.inl rfl)) pgs_nil)))
      (pss_cons (ps_set (i := 5) sc_homes_of.nd rfl (Or.inl rfl) (pe_dget hu (cv 1) (cv 3) (fun _ _ => rfl)))
      (pss_cons (ps_expr (pe_call G_refuse_twice (hr.mono (by decide)) rfl T.m_refuse_twice T.k_refuse_twice T.b_refuse_twice .nil passXE (pa_cons (pe_call G_words_once (hr.mono (by decide)) rfl T.m_words_once T.k_words_once T.b_words_once .nil pass0 (pa_cons (cv 4) pa_nil)) pa_nil)))
      (pss_cons (ps_expr (pec_app (pe_bm PySem.F.plainAttrs_list PySem.F.slot_list_append PySem.F.type_list_append mt_append (PE.mono (cv 2)) (pa_cons (PE.mono (pe_call G_home_of (hr.mono (by decide)) rfl T.m_home_of T.k_home_of T.b_home_of .nil passXE (pa_cons (cv 4) (pa_cons (cv 3) (pa_cons (cv 5) pa_nil))))) pa_nil))))
      (pss_one (ps_expr (pe_bm PySem.F.plainAttrs_dict PySem.F.slot_dict_update PySem.F.type_dict_update mt_update (cv 1) (pa_cons (pe_call G_inner_scopes (hr.mono (by decide)) rfl T.m_inner_scopes T.k_inner_scopes T.b_inner_scopes .nil pass0 (pa_cons (cv 4) (pa_cons (cv 5) pa_nil))) pa_nil))))))))
    (pss_one (ps_ret (cv 2))))))), ?_⟩
  have sl : sizeLine = 16777216 := sizeLine_eq
  refine ⟨_, ⟨dx, _, pr.o, fP_names _ _ _⟩, n, names, rfl, pr.n, by omega, fun hnn H1 S1 => ?_, qn⟩
  obtain ⟨gd, q, qt, qb⟩ := qg hnn
  have nl := gd.nl
  have pn := gd.pn
  refine ⟨p, n, r, w, dx, xs, names, roots, ρs, out, rfl, pr.same S1, gd, fun d kvs H2 S2 hd ed hk hroots => ?_⟩
  refine ⟨(by show 0 ≤ sizeLine; decide), fun lh hlh => ?_⟩
  have s3 := same_new hlh (.lst [])
  have el : (upd H2 lh (.lst [])) lh = some (.lst []) := upd_same
  dsimp only [gName]
  generalize upd H2 lh (.lst []) = H3 at s3 el ⊢
  have S13 := (S1.trans S2).trans s3
  have hd0 : H d = none := S1.free hd
  have hl0 : H lh = none := (S1.trans S2).free hlh
  have ndl : d ≠ lh := ne_of_none ed hlh
  have pr3 := pr.same S13
  have lx := pr.i.length
  rw [List.length_map] at lx
  refine ⟨_, ⟨dx, _, pr3.o, fP_rows _ _ _⟩, w, rfl, ⟨_, SqL.of pr3.w⟩, for_enum (xs := xs) (fun i σ H4 => ∃ (o3 o4 o5 : Option V) (kvs : List (Key × V)) (ys : List V), σ = [some (.ref p), some (.ref d), some (.ref lh), o3, o4, o5] ∧ Same H H4 ∧ H4 d = some (.dK kvs) ∧ kvs.length ≤ 12 + 300 * i ∧ H4 lh = some (.lst ys) ∧ ys.length = i ∧ HoA H4 ys ρs out ∧ Fine ρs out i ∧
      ∀ c : Nat, ((∃ i' : Nat, roots[i']? = some c) ∨ ∃ (k' : Nat) (ρ : Ro), k' < i ∧ ρs[k']? = some ρ ∧ (c : Int) ∈ ρ.pl) → ∃ a, a ≠ d ∧ valV kvs (.inl (c : Int)) = some (.ref a) ∧ Sc H4 a (out c) (20 + c))
    ⟨none, none, none, kvs, [], rfl, S13, s3 _ _ ed, by omega, el, rfl, fun k x ρ h => (by cases h), fun k ρ h => absurd h (Nat.not_lt_zero _), fun c hc => ?_⟩ (fun i σ H4 _ ⟨_, _, _, _, _, _, S, _⟩ => SqL.of (S _ _ pr.w)) ?_ ?_⟩
  · rcases hc with ⟨i, hi⟩ | ⟨k', ρ, h, _⟩
    · obtain ⟨a, h1, h2, h3⟩ := hroots i c hi
      exact ⟨a, h1, h2, (h3.same s3).le (by omega)⟩
    · exact absurd h (Nat.not_lt_zero _)
  · rintro i v σ H4 t hx ⟨o3, o4, o5, kvs, ys, rfl, S, ek, hk, el, hyl, ho, nmi, hsc⟩ ht
    have hi := (List.getElem?_eq_some_iff.mp hx).1
    obtain ⟨ρ, hρ⟩ : ∃ ρ, ρs[i]? = some ρ := ⟨_, List.getElem?_eq_getElem (by omega)⟩
    have rok := gd.ok ρ (List.mem_of_getElem? hρ)
    obtain ⟨tr, zs, hxt, etr, hzs, him⟩ := pick_ro pr.i hρ
    rw [hxt] at hx
    cases hx
    obtain ⟨a, nad, hva, sca⟩ := hsc i (gd.reach i (by omega))
    have sT := same_new ht (.tup [.int (i : Int), .ref tr])
    refine ⟨t, _, rfl, SqT.of upd_same, rfl, _, _, rfl, _, _, rfl, rfl, ?_⟩
    have S5 := S.trans sT
    generalize upd H4 t (.tup [.int (i : Int), .ref tr]) = H5 at sT S5
    have g := DGet.k (k := (Sum.inl (i : Int) : Key)) (sT _ _ ek)
    rw [hva] at g
    refine ⟨d, _, rfl, g, ?_⟩
    refine ⟨tr, ρ, rfl, him.mono (Same.tk S5), rok, fun lw H6 S6 hlw e6 => ⟨lw, ρ.ws, rfl, e6, Nat.le_trans (ρ.ws_le rok) (by decide), fun hwn H7 S7 => ?_, fun j y hd dz Hz Sz ez => qt i ρ j y nmi hρ hd dz Hz ((S5.trans S6).trans Sz) ez⟩⟩
    have S47 := (sT.trans S6).trans S7
    have S07 := S.trans S47
    have el7 := S47 _ _ el
    have ek7 := S47 _ _ ek
    have sca7 := sca.same S47
    refine ⟨⟨_, el7⟩, home_call rok hzs (S07 _ _ etr) sca7 rfl rfl rfl (fun hnm y hy => ?_) fun x e hx dz Hz Sz ez => qb i x nmi (by rw [hρ, e]) hx dz Hz (S07.trans Sz) ez⟩
    refine ⟨_, el7, by omega, ?_⟩
    have S08 := same_upd (o := .lst (ys ++ [y])) S07 hl0
    have tk8 : TK H7 (upd H7 lh (.lst (ys ++ [y]))) := tk_upd el7 (fun zs z => nomatch z)
    have ek8 : (upd H7 lh (.lst (ys ++ [y]))) d = some (.dK kvs) := by rw [upd_ne ndl]; exact ek7
    have el8 : (upd H7 lh (.lst (ys ++ [y]))) lh = some (.lst (ys ++ [y])) := upd_same
    have sc8 : ∀ {z : Addr} {g : Str → Option Hm} {m : Nat}, Sc H4 z g m → Sc (upd H7 lh (.lst (ys ++ [y]))) z g m := fun h => (h.same S47).updL el7
    generalize upd H7 lh (.lst (ys ++ [y])) = H8 at S08 tk8 ek8 el8 sc8
    refine ⟨.inr (.inr (.inl ⟨rfl, .inl ⟨_, ek8⟩⟩)), tr, a, ρ, out i, 20 + i, rfl, him.mono (Same.tk S08), rok, sc8 sca, by omega, fun d2 kvs2 H9 S9 hd2 e9 nd9 l9 in9 => ⟨d, d2, kvs, kvs2, rfl, rfl, ne_of_none ek8 hd2, S9 _ _ ek8, e9, by omega, ?_⟩⟩
    have tk9 : TK H9 (upd H9 d (.dK (mergeK kvs kvs2))) := tk_upd (S9 _ _ ek8) (fun zs z => nomatch z)
    have tkA : TK H4 (upd H9 d (.dK (mergeK kvs kvs2))) := fun b u e => tk9 _ _ (S9 _ _ (tk8 _ _ (S47 _ _ e)))
    refine ⟨_, _, _, _, ys ++ [y], rfl, same_upd (S08.trans S9) hd0 _, upd_same, Nat.le_trans (length_mergeK _ _) (by omega), by rw [upd_ne ndl.symm]; exact S9 _ _ el8, by rw [List.length_append, hyl]; rfl, ?_, fun k ρ2 hk hx => ?_, ?_⟩
    · intro k x ρ' hx hρ'
      by_cases hki : k < ys.length
      · rw [List.getElem?_append_left hki] at hx
        exact (ho k x ρ' hx hρ').mono tkA
      · have hk2 := (List.getElem?_eq_some_iff.mp hx).1
        rw [List.length_append, List.length_singleton] at hk2
        have e : k = ys.length := by omega
        subst e
        rw [List.getElem?_append_right (Nat.le_refl _), Nat.sub_self] at hx
        cases hx
        rw [hyl] at hρ' ⊢
        rw [hρ] at hρ'
        cases hρ'
        exact hy.mono fun b u e => tk9 _ _ (S9 _ _ (tk8 _ _ e))
    · by_cases z : k = i
      · subst z
        rw [hρ] at hx
        cases hx
        exact ⟨hwn, hnm⟩
      · exact nmi k ρ2 (by omega) hx
    · intro c hc
      rw [valV_merge2 _ _ _ nd9]
      rcases in9 (c : Int) with ⟨h1, h2⟩ | ⟨j, e, a', hW, hj, he, hv, hs⟩
      · rw [h1]
        obtain ⟨a', g1, g2, g3⟩ := hsc c (by
          rcases hc with h | ⟨k', ρ', k1, k2, k3⟩
          · exact .inl h
          · refine .inr ⟨k', ρ', ?_, k2, k3⟩
            by_cases z : k' = i
            · rw [z, hρ] at k2
              cases k2
              exact absurd k3 h2
            · omega)
        exact ⟨a', g1, g2, ((sc8 g3).same S9).upd (S9 _ _ ek8) g1⟩
      · rw [hv]
        have na : a' ≠ d := by
          rcases hW with h | h
          · rw [h]; exact nad
          · exact (ne_of_none ek8 h).symm
        obtain ⟨m, e1, e2, e3⟩ := gd.kid i ρ j _ e hρ hj he
        have em : c = m := by omega
        subst em
        exact ⟨a', na, rfl, by rw [e3]; exact (hs.upd (S9 _ _ ek8) na).le (by omega)⟩
  · rintro σ H4 ⟨o3, o4, o5, kvs, ys, rfl, S, ek, hk, el, hyl, ho, nmi, hsc⟩
    exact q (by rw [← lx]; exact nmi) lh ys H4 S hl0 el (by omega) ho
end
end K11.Internal
namespace K11.Internal
open PySem L2.Internal BO.Internal
seal L2.Internal.PE L2.Internal.PA L2.Internal.PS L2.Internal.PSs L2.Internal.PT L2.Internal.PI
inductive Kn
  | num (n : Int)
  | name (w : Str)
  | fn (w : Str)
  | tag (w : Str)
  | lt (w : Str)
  | get (w : Str)
  | rcd (l : List Str)
  | case (l : List (Str × Str))
  | row (m : Nat)
  | op (s : Str) (m : Nat)
noncomputable def Kn.s : Kn → Str
  | .num _ => "num"
  | .name _ => "name"
  | .fn _ => "fn"
  | .tag _ => "tag"
  | .lt _ => "let"
  | .get _ => "get"
  | .rcd _ => "rec"
  | .case _ => "case"
  | .row _ => "row"
  | .op s _ => s
noncomputable def agD (p : Str × Str) : Dt := .tup [sD p.1, sD p.2]
noncomputable def Kn.mo : Kn → Dt
  | .num n => kD n
  | .name w => sD w
  | .fn w => sD w
  | .tag w => sD w
  | .lt w => sD w
  | .get w => sD w
  | .rcd l => .lst (l.map sD)
  | .case l => .lst (l.map agD)
  | .row _ => sD ""
  | .op _ _ => sD ""
noncomputable abbrev Hol := Option Str × Str
noncomputable def hoV : Option Str → V
  | none => .non
  | some w => .str w
noncomputable def hlD (h : Hol) : Dt := .lst [.flat (hoV h.1), sD h.2]
noncomputable def p0 : Hol := (none, "")
noncomputable def Kn.ho : Kn → List Hol
  | .num _ => []
  | .name _ => []
  | .fn w => [(some w, "fn")]
  | .tag _ => [p0]
  | .lt w => [p0, (some w, "let")]
  | .get _ => [p0]
  | .rcd l => l.map fun _ => p0
  | .case l => p0 :: l.map fun p => (some p.2, "arm")
  | .row m => List.replicate m p0
  | .op _ m => List.replicate m p0
noncomputable def Kn.d (κ : Kn) : Dt := .lst [sD κ.s, κ.mo, .lst (κ.ho.map hlD)]
noncomputable def Kn.ok : Kn → Prop
  | .rcd l => l.length ≤ 100 ∧ True
  | .case l => l.length ≤ 100 ∧ True
  | .row m => m ≤ 100
  | .op s m => s ∈ plain ∧ m ≤ 100
  | _ => True
noncomputable def Kn.ws : Kn → List Str
  | .rcd l => l
  | .case l => l.map Prod.fst
  | _ => []
noncomputable def Kn.nd (κ : Kn) : Prop := κ.ws.Nodup
noncomputable def Kn.nn (κ : Kn) : Prop := ∀ h ∈ κ.ho, ∀ w, h.1 = some w → 5 ≤ w.length
noncomputable def Kn.okk (κ : Kn) : Prop := κ.ok ∧ κ.nn
theorem nn_p {κ : Kn} (h : ∀ z ∈ κ.ho, z = p0) : κ.nn := fun z hz w e => by rw [h z hz] at e; cases e
theorem nn_rcd (l : List Str) : (Kn.rcd l).nn := nn_p fun z hz => by obtain ⟨_, _, rfl⟩ := List.mem_map.mp hz; rfl
theorem nn_row (m : Nat) : (Kn.row m).nn := nn_p fun z hz => (List.mem_replicate.mp hz).2
theorem nn_op (s : Str) (m : Nat) : (Kn.op s m).nn := nn_p fun z hz => (List.mem_replicate.mp hz).2
theorem nn_fn {w : Str} (h : 5 ≤ w.length) : (Kn.fn w).nn := fun z hz x e => by rw [List.mem_singleton.mp hz] at e; cases e; exact h
theorem nn_lt {w : Str} (h : 5 ≤ w.length) : (Kn.lt w).nn := fun z hz x e => by
  rcases List.mem_cons.mp hz with rfl | hz
  · cases e
  · rw [List.mem_singleton.mp hz] at e; cases e; exact h
theorem nn_case {l : List (Str × Str)} (h : ∀ p ∈ l, 5 ≤ p.2.length) : (Kn.case l).nn := fun z hz x e => by
  rcases List.mem_cons.mp hz with rfl | hz
  · cases e
  · obtain ⟨p, hp, rfl⟩ := List.mem_map.mp hz
    cases e
    exact h p hp
noncomputable def mkR : Kn → List Int → Ro
  | .num n, _ => .num n
  | .name w, _ => .name w
  | .fn w, ks => .fn w (ks.getD 0 0)
  | .tag w, ks => .tag w (ks.getD 0 0)
  | .lt w, ks => .lt w (ks.getD 0 0) (ks.getD 1 0)
  | .get w, ks => .get (ks.getD 0 0) w
  | .rcd l, ks => .rcd (l.zip ks)
  | .case l, ks => .case (ks.getD 0 0) ((l.zip ks.tail).map fun p => (p.1.1, p.1.2, p.2))
  | .row _, ks => .row ks
  | .op s _, ks => .op s ks
theorem Kn.ho_le (κ : Kn) (h : κ.ok) : κ.ho.length ≤ 101 := by
  cases κ with
  | rcd l => show (l.map fun _ => p0).length ≤ _; rw [List.length_map]; exact Nat.le_trans h.1 (by decide)
  | case l => show (p0 :: l.map fun p => ((some p.2, "arm") : Hol)).length ≤ _; rw [List.length_cons, List.length_map]; have := h.1; omega
  | row m => show (List.replicate m p0).length ≤ _; rw [List.length_replicate]; exact Nat.le_trans h (by decide)
  | op s m => show (List.replicate m p0).length ≤ _; rw [List.length_replicate]; exact Nat.le_trans h.2 (by decide)
  | _ => simp [Kn.ho]
theorem map_snd_zip' {α β : Type} : ∀ (l : List α) (m : List β), l.length = m.length → (l.zip m).map Prod.snd = m
  | [], [], _ => rfl
  | a :: l, b :: m, h => by rw [List.zip_cons_cons, List.map_cons, map_snd_zip' l m (by simpa using h)]
theorem map_fst_zip' {α β : Type} : ∀ (l : List α) (m : List β), l.length = m.length → (l.zip m).map Prod.fst = l
  | [], [], _ => rfl
  | a :: l, b :: m, h => by rw [List.zip_cons_cons, List.map_cons, map_fst_zip' l m (by simpa using h)]
theorem mkR_ok {κ : Kn} {ks : List Int} (h : κ.ok) (hl : ks.length = κ.ho.length) : (mkR κ ks).ok := by
  cases κ with
  | rcd l =>
    have hl' : ks.length = l.length := by rw [hl]; show (l.map fun _ => p0).length = _; rw [List.length_map]
    show (l.zip ks).length ≤ 100 ∧ True
    rw [List.length_zip]
    exact ⟨by have := h.1; omega, trivial⟩
  | case l =>
    have hl' : ks.tail.length = l.length := by rw [List.length_tail, hl]; show (p0 :: l.map fun p => ((some p.2, "arm") : Hol)).length - 1 = _; rw [List.length_cons, List.length_map]; omega
    show ((l.zip ks.tail).map fun p => (p.1.1, p.1.2, p.2)).length ≤ 100 ∧ True
    rw [List.length_map, List.length_zip]
    exact ⟨by have := h.1; omega, trivial⟩
  | row m => show ks.length ≤ 100; rw [hl]; show (List.replicate m p0).length ≤ _; rw [List.length_replicate]; exact h
  | op s m => refine ⟨h.1, ?_⟩; show ks.length ≤ 100; rw [hl]; show (List.replicate m p0).length ≤ _; rw [List.length_replicate]; exact h.2
  | _ => trivial
theorem list1 {ks : List Int} (h : ks.length = 1) : ks = [ks.getD 0 0] := by
  match ks, h with
  | [a], _ => rfl
theorem list2 {ks : List Int} (h : ks.length = 2) : ks = [ks.getD 0 0, ks.getD 1 0] := by
  match ks, h with
  | [a, b], _ => rfl
theorem listC {ks : List Int} {n : Nat} (h : ks.length = n + 1) : ks = ks.getD 0 0 :: ks.tail := by
  match ks, h with
  | a :: r, _ => rfl
theorem mkR_pl {κ : Kn} {ks : List Int} (hl : ks.length = κ.ho.length) : (mkR κ ks).pl = ks := by
  cases κ with
  | num n => match ks, hl with | [], _ => rfl
  | name n => match ks, hl with | [], _ => rfl
  | fn w => exact (list1 hl).symm
  | tag w => exact (list1 hl).symm
  | get w => exact (list1 hl).symm
  | lt w => exact (list2 hl).symm
  | rcd l =>
    have hl' : ks.length = l.length := by rw [hl]; show (l.map fun _ => p0).length = _; rw [List.length_map]
    exact map_snd_zip' _ _ hl'.symm
  | case l =>
    have hl0 : ks.length = l.length + 1 := by rw [hl]; show (p0 :: l.map fun p => ((some p.2, "arm") : Hol)).length = _; rw [List.length_cons, List.length_map]
    have hl' : l.length = ks.tail.length := by rw [List.length_tail, hl0]; omega
    show ks.getD 0 0 :: (((l.zip ks.tail).map fun p => (p.1.1, p.1.2, p.2)).map fun p => p.2.2) = ks
    rw [List.map_map]
    show ks.getD 0 0 :: ((l.zip ks.tail).map Prod.snd) = ks
    rw [map_snd_zip' _ _ hl', ← listC hl0]
  | row m => rfl
  | op s m => rfl
noncomputable def hoX (f q : Int) : Hol → Option (Str × Hm)
  | (none, _) => none
  | (some w, how) => some (w, (how, if how = ("let" : Str) then f else q))
theorem mkR_ex {κ : Kn} {ks : List Int} (hl : ks.length = κ.ho.length) (j : Nat) (c : Int) (e : Option (Str × Hm)) (hc : ks[j]? = some c) (he : (mkR κ ks).ex[j]? = some e) : ∃ h, κ.ho[j]? = some h ∧ e = hoX (ks.getD 0 0) c h := by
  have pl := mkR_pl hl
  have gen : (∀ h ∈ κ.ho, h = p0) → ((mkR κ ks).ex = (mkR κ ks).pl.map fun _ => none) → ∃ h, κ.ho[j]? = some h ∧ e = hoX (ks.getD 0 0) c h := fun h1 h2 => by
    rw [h2, pl, List.getElem?_map, hc] at he
    have hj := (List.getElem?_eq_some_iff.mp hc).1
    obtain ⟨h, hh⟩ : ∃ h, κ.ho[j]? = some h := ⟨_, List.getElem?_eq_getElem (by omega)⟩
    refine ⟨h, hh, ?_⟩
    rw [h1 h (List.mem_of_getElem? hh)]
    exact (Option.some.inj he).symm
  cases κ with
  | num n => match ks, hl with | [], _ => cases hc
  | name n => match ks, hl with | [], _ => cases hc
  | tag w => exact gen (by intro h hh; exact List.mem_singleton.mp hh) rfl
  | get w => exact gen (by intro h hh; exact List.mem_singleton.mp hh) rfl
  | rcd l => exact gen (by intro h hh; obtain ⟨_, _, rfl⟩ := List.mem_map.mp hh; rfl) rfl
  | row m => exact gen (by intro h hh; exact (List.mem_replicate.mp hh).2) rfl
  | op s m => exact gen (by intro h hh; exact (List.mem_replicate.mp hh).2) rfl
  | fn w =>
    match ks, hl, j with
    | [a], _, 0 =>
      cases hc; cases he
      refine ⟨_, rfl, ?_⟩
      show some (w, (("fn" : Str), c)) = some (w, (("fn" : Str), if ("fn" : Str) = "let" then c else c))
      rw [if_neg (by decide +kernel)]
    | [a], _, j + 1 => cases hc
  | lt w =>
    match ks, hl, j with
    | [a, b], _, 0 => cases hc; cases he; exact ⟨_, rfl, rfl⟩
    | [a, b], _, 1 =>
      cases hc; cases he
      refine ⟨_, rfl, ?_⟩
      show some (w, (("let" : Str), a)) = some (w, (("let" : Str), if ("let" : Str) = "let" then a else c))
      rw [if_pos rfl]
    | [a, b], _, j + 2 => cases hc
  | case l =>
    have hl0 : ks.length = l.length + 1 := by rw [hl]; show (p0 :: l.map fun p => ((some p.2, "arm") : Hol)).length = _; rw [List.length_cons, List.length_map]
    match ks, hl0, j with
    | a :: ks, hl0, 0 => cases hc; cases he; exact ⟨_, rfl, rfl⟩
    | a :: ks, hl0, j + 1 =>
      rw [List.getElem?_cons_succ] at hc
      have he' : (none :: ((l.zip ks).map fun p => (p.1.1, p.1.2, p.2)).map fun p => (some (p.2.1, ("arm", p.2.2)) : Option (Str × Hm)))[j + 1]? = some e := he
      rw [List.getElem?_cons_succ, List.map_map, List.getElem?_map] at he'
      have hj := (List.getElem?_eq_some_iff.mp hc).1
      rw [List.length_cons] at hl0
      obtain ⟨p, hp⟩ : ∃ p, l[j]? = some p := ⟨_, List.getElem?_eq_getElem (by omega)⟩
      have hz : (l.zip ks)[j]? = some (p, c) := by rw [List.getElem?_zip_eq_some]; exact ⟨hp, hc⟩
      rw [hz] at he'
      refine ⟨(some p.2, "arm"), ?_, ?_⟩
      · show (p0 :: l.map fun p => ((some p.2, "arm") : Hol))[j + 1]? = _
        rw [List.getElem?_cons_succ, List.getElem?_map, hp]
        rfl
      · have e' : e = some (p.2, (("arm" : Str), c)) := (Option.some.inj he').symm
        rw [e']
        show some (p.2, (("arm" : Str), c)) = some (p.2, (("arm" : Str), if ("arm" : Str) = "let" then (a :: ks).getD 0 0 else c))
        rw [if_neg (by decide +kernel)]
theorem mkR_isF (κ : Kn) (ks : List Int) : (mkR κ ks).isF = (match κ with | .fn _ => true | _ => false) := by cases κ <;> rfl
noncomputable def heads : List Str := ["num", "name", "fn", "tag", "let", "get", "rec", "case", "row"]
theorem pl_ne {s x : Str} (h : s ∈ plain) (hx : x ∈ heads) : decide (s = x) = false := by
  simp only [plain, heads, List.mem_cons, List.not_mem_nil, or_false] at h hx
  rcases h with rfl | rfl | rfl | rfl | rfl | rfl | rfl <;> rcases hx with rfl | rfl | rfl | rfl | rfl | rfl | rfl | rfl | rfl <;> decide +kernel
theorem ims_ks {H : Hp} : ∀ ks : List Int, Ims H (ks.map V.int) (ks.map kD)
  | [] => .nil
  | k :: ks => .cons (.flat rfl) (ims_ks ks)
theorem mkR_ws {κ : Kn} {ks : List Int} (hl : ks.length = κ.ho.length) : (mkR κ ks).ws = κ.ws := by
  cases κ with
  | rcd l =>
    have hl' : ks.length = l.length := by rw [hl]; show (l.map fun _ => p0).length = _; rw [List.length_map]
    show (l.zip ks).map Prod.fst = l
    exact map_fst_zip' _ _ hl'.symm
  | case l =>
    have hl' : ks.tail.length = l.length := by rw [List.length_tail, hl]; show (p0 :: l.map fun p => ((some p.2, "arm") : Hol)).length - 1 = _; rw [List.length_cons, List.length_map]; omega
    show ((l.zip ks.tail).map fun p => (p.1.1, p.1.2, p.2)).map Prod.fst = l.map Prod.fst
    rw [List.map_map]
    show (l.zip ks.tail).map (Prod.fst ∘ Prod.fst) = _
    rw [← List.map_map, map_fst_zip' _ _ hl'.symm]
  | _ => rfl
section
variable {P : Program} {w : World} {K : PySem.W.Frag} {mg : Str → Option Value} {base : Heap}
theorem tst {x s : Str} {σ : St} {H : Hp} {R : Bool → Hp → Prop} (hσ : σ[0]? = some (some (.str s))) (h : R (decide (s = x)) H) : cT (tOp (cEq false) (cV 0) (tC (.str x))) σ H R := by
  show onV σ[0]? _
  rw [hσ]
  show R (false ^^ decide (s = x)) H
  rw [Bool.false_xor]
  exact h
theorem if_sF {x s : Str} {A u : TS} {D : Ends} {σ : St} {H : Hp} (hσ : σ[0]? = some (some (.str s))) (hb : decide (s = x) = false) (k : u D σ H) : tSeq (tIfS (cT (tOp (cEq false) (cV 0) (tC (.str x)))) A tNext) u D σ H := tst hσ (by rw [hb]; exact iteF k)
theorem if_sT {x s : Str} {A B u : TS} {D : Ends} {σ : St} {H : Hp} (hσ : σ[0]? = some (some (.str s))) (hb : decide (s = x) = true) (k : A { D with nx := u D } σ H) : tSeq (tIfS (cT (tOp (cEq false) (cV 0) (tC (.str x)))) A B) u D σ H := tst hσ (by rw [hb]; exact iteT k)
theorem if_oF {x y s : Str} {A u : TS} {D : Ends} {σ : St} {H : Hp} (hσ : σ[0]? = some (some (.str s))) (hb : (decide (s = x) || decide (s = y)) = false) (k : u D σ H) : tSeq (tIfS (tOr (cT (tOp (cEq false) (cV 0) (tC (.str x)))) (cT (tOp (cEq false) (cV 0) (tC (.str y))))) A tNext) u D σ H := by
  rw [Bool.or_eq_false_iff] at hb
  exact tst hσ (by rw [hb.1]; exact iteF (tst hσ (by rw [hb.2]; exact iteF k)))
theorem if_oT {x y s : Str} {A B u : TS} {D : Ends} {σ : St} {H : Hp} (hσ : σ[0]? = some (some (.str s))) (hb : (decide (s = x) || decide (s = y)) = true) (k : A { D with nx := u D } σ H) : tSeq (tIfS (tOr (cT (tOp (cEq false) (cV 0) (tC (.str x)))) (cT (tOp (cEq false) (cV 0) (tC (.str y))))) A B) u D σ H := by
  refine tst hσ ?_
  cases h : decide (s = x) with
  | true => exact iteT (iteT k)
  | false =>
    rw [h, Bool.false_or] at hb
    exact iteF (tst hσ (by rw [hb]; exact iteT k))
theorem lcg_zip {a b : Addr} {te : TE} {Q : VK} {H1 : Hp} {D : Addr} {xs ys : List V} (ea : H1 a = some (.lst xs)) (eb : H1 b = some (.lst ys)) (hl : xs.length = ys.length) (hn : xs.length < sizeLine) (hD : H1 D = none)
    (R : List V → Hp → Prop) (hR : ∀ xs H H', R xs H → TK H H' → R xs H') (h0 : R [] H1)
    (step : ∀ k H x y zs (Z : VK) T, Same H1 H → xs[k]? = some x → ys[k]? = some y → R zs H → zs.length = k → H T = none → (∀ v H5, Same H H5 → R (zs ++ [v]) H5 → Z v H5) → te [some x, some y] (upd H T (.tup [x, y])) Z)
    (hq : ∀ H' zs, Same H1 H' → R zs H' → zs.length = xs.length → H' D = some (.lst zs) → Q (.ref D) H') : LcG (Itz K a b) (gTup K 2 (gCons (gName 0) (gCons (gName 1) gNil))) te Q [none, none] H1 D := by
  refine ⟨fun k m σ' H2 => m = xs.length - k ∧ k ≤ xs.length ∧ (∃ o o', σ' = [o, o']) ∧ Same H1 H2 ∧ ∃ zs, H2 D = some (.lst zs) ∧ zs.length = k ∧ R zs H2, ⟨xs.length, by simp, Nat.zero_le _, ⟨_, _, rfl⟩, same_new hD _, [], upd_same, rfl, hR _ _ _ h0 (Same.tk (same_new hD _))⟩, ?_⟩
  rintro k m σ' H2 ⟨rfl, hk, ⟨o, o', rfl⟩, S, zs, e, hz, hr⟩
  by_cases hlt : k < xs.length
  · refine .inr ⟨⟨xs, ys, xs[k], ys[k]'(by omega), SqL.of (S _ _ ea), SqL.of (S _ _ eb), List.getElem?_eq_getElem hlt, List.getElem?_eq_getElem (by omega)⟩, fun v H3 y => ?_⟩
    obtain ⟨T, x, y, rfl, hT, rfl, hx, hy⟩ := y
    refine ⟨T, _, rfl, SqT.of upd_same, rfl, _, _, rfl, _, _, rfl, rfl, ?_⟩
    refine step k H2 x y zs _ T S (hx _ (SqL.of (S _ _ ea))) (hy _ (SqL.of (S _ _ eb))) hr hz hT fun v H5 S5 r5 => ?_
    exact ⟨zs, S5 D _ e, by omega, xs.length - (k + 1), by omega, rfl, hlt, ⟨_, _, rfl⟩, same_upd (S.trans S5) hD _, zs ++ [v], upd_same, by rw [List.length_append, hz]; rfl, hR _ _ _ r5 (tk_upd (S5 D _ e) (fun zs z => nomatch z))⟩
  · have e1 : k = xs.length := by omega
    subst e1
    exact .inl ⟨⟨xs, ys, SqL.of (S _ _ ea), SqL.of (S _ _ eb), by omega⟩, hq H2 zs S hr hz e⟩
theorem dtas_sD {H : Hp} : ∀ {xs : List V} {l : List Str}, Dtas H xs (l.map sD) → xs = l.map V.str
  | [], [], _ => rfl
  | x :: xs, s :: l, .cons h hs => by cases h; rw [dtas_sD hs]; rfl
theorem dtas_get {H : Hp} : ∀ {xs : List V} {ds : List Dt} {j : Nat} {x : V}, Dtas H xs ds → xs[j]? = some x → ∃ d, ds[j]? = some d ∧ Dta H x d
  | _, _, 0, _, .cons h _, e => ⟨_, rfl, by cases e; exact h⟩
  | _, _, j + 1, _, .cons _ t, e => by
    rw [List.getElem?_cons_succ] at e
    obtain ⟨d, e1, e2⟩ := dtas_get t e
    exact ⟨d, by rw [List.getElem?_cons_succ]; exact e1, e2⟩
theorem dtas_len {H : Hp} : ∀ {xs : List V} {ds : List Dt}, Dtas H xs ds → xs.length = ds.length
  | _, _, .nil => rfl
  | _, _, .cons _ t => by rw [List.length_cons, List.length_cons, dtas_len t]
noncomputable def sp__law_row : Sp := fun vs H Q _ => ∃ (κ : Kn) (mv : V) (kl : Addr) (ks : List Int), vs = [.str κ.s, mv, .ref kl] ∧ κ.ok ∧ ks.length = κ.ho.length ∧ Dta H mv κ.mo ∧ H kl = some (.lst (ks.map V.int)) ∧ ∀ t H', Same H H' → Im H' (.ref t) (mkR κ ks).d → Q (.ref t) H'
theorem ok__law_row (T : Txt K mg) : FnOk P w K mg base CX0 1 T.a__law_row T.fd__law_row ["_law_op", "_law_more", "_law_kids"] sp__law_row := by
  refine T.F__law_row.ok sc__law_row (fun vs H Q E h => ?_) (fun cdv A outer s H vs Q E hr h => ?_)
  · obtain ⟨κ, mv, kl, ks, rfl, _⟩ := h
    rfl
  obtain ⟨κ, mv, kl, ks, rfl, ho, hl, hm, hk, q⟩ := h
  refine ⟨_, (pss_cons (ps_if (PW.pt (pw_or (ptc_cmpR oc_eq (cv 0) pe_str (nomark _)) (pw_or1 (ptc_cmpR oc_eq (cv 0) pe_str (nomark _)))))
      (pss_one (ps_ret (pe_tup (pa_cons (cv 0) (pa_cons (cv 1) pa_nil)))))
      pss_nil)
    (pss_cons (ps_if (PW.pt (pw_or (ptc_cmpR oc_eq (cv 0) pe_str (nomark _)) (pw_or1 (ptc_cmpR oc_eq (cv 0) pe_str (nomark _)))))
      (pss_one (ps_ret (pe_tup (pa_cons (cv 0) (pa_cons (cv 1) (pa_cons (pe_ix xc_list (cv 2) pe_int (fun _ _ => rfl)) pa_nil))))))
      pss_nil)
    (pss_cons (ps_if (ptc_cmpR oc_eq (cv 0) pe_str (nomark _))
      (pss_one (ps_ret (pe_tup (pa_cons (cv 0) (pa_cons (cv 1) (pa_cons (pe_ix xc_list (cv 2) pe_int (fun _ _ => rfl)) (pa_cons (pe_ix xc_list (cv 2) pe_int (fun _ _ => rfl)) pa_nil)))))))
      pss_nil)
    (pss_cons (ps_if (ptc_cmpR oc_eq (cv 0) pe_str (nomark _))
      (pss_one (ps_ret (pe_tup (pa_cons (cv 0) (pa_cons (pe_ix xc_list (cv 2) pe_int (fun _ _ => rfl)) (pa_cons (cv 1) pa_nil))))))
      pss_nil)
    (pss_cons (ps_if (ptc_cmpR oc_eq (cv 0) pe_str (nomark _))
      (pss_one (ps_ret (pe_tup (pa_cons (cv 0) (pa_cons (pe_callTy call_tuple_of rfl T.z_tuple bt_tuple (pa_cons (pe_lcP (g := gTup K 2 (gCons (gName 0) (gCons (gName 1) gNil))) rfl (blk02 (x := "_law_field") (y := "_law_kid") rfl (by decide +kernel) (by decide +kernel) rfl (by decide) rfl) (pi_zip rfl T.z_zip (pa_cons (cv 1) (pa_cons (cv 2) pa_nil))) (fun c1 c2 c3 c4 c5 => pg_tup (n := 2) (X := blk _ ["_law_field", "_law_kid"] _ _ c1 c2 c3 c4 c5) rfl (pgs_cons (pg_name (X := blk _ ["_law_field", "_law_kid"] _ _ c1 c2 c3 c4 c5) (i := 0) (show (["_law_field", "_law_kid"] : List Str).Nodup by decide +kernel) rfl (.inl (lookup_relabel_local rfl)) (.inr (lookup_relabel_local rfl))) (pgs_cons (pg_name (X := blk _ ["_law_field", "_law_kid"] _ _ c1 c2 c3 c4 c5) (i := 1) (show (["_law_field", "_law_kid"] : List Str).Nodup by decide +kernel) rfl (.inl (lookup_relabel_local rfl)) (.inr (lookup_relabel_local rfl))) pgs_nil))) (fun _ _ _ _ _ => (pe_tup (pa_cons (cv 0) (pa_cons (cv 1) pa_nil))))) pa_nil)) pa_nil)))))
      pss_nil)
    (pss_cons (ps_if (ptc_cmpR oc_eq (cv 0) pe_str (nomark _))
      (pss_one (ps_ret (pe_tup (pa_cons (cv 0) (pa_cons (pe_ix xc_list (cv 2) pe_int (fun _ _ => rfl)) (pa_cons (pe_callTy call_tuple_of rfl T.z_tuple bt_tuple (pa_cons (pe_lcP (g := gTup K 2 (gCons (gName 0) (gCons (gName 1) gNil))) rfl (blk02 (x := "_law_arm") (y := "_law_kid") rfl (by decide +kernel) (by decide +kernel) rfl (by decide) rfl) (pi_zip rfl T.z_zip (pa_cons (cv 1) (pa_cons (pe_slice sl_list (cv 2) (po_some pe_int) po_none) pa_nil))) (fun c1 c2 c3 c4 c5 => pg_tup (n := 2) (X := blk _ ["_law_arm", "_law_kid"] _ _ c1 c2 c3 c4 c5) rfl (pgs_cons (pg_name (X := blk _ ["_law_arm", "_law_kid"] _ _ c1 c2 c3 c4 c5) (i := 0) (show (["_law_arm", "_law_kid"] : List Str).Nodup by decide +kernel) rfl (.inl (lookup_relabel_local rfl)) (.inr (lookup_relabel_local rfl))) (pgs_cons (pg_name (X := blk _ ["_law_arm", "_law_kid"] _ _ c1 c2 c3 c4 c5) (i := 1) (show (["_law_arm", "_law_kid"] : List Str).Nodup by decide +kernel) rfl (.inl (lookup_relabel_local rfl)) (.inr (lookup_relabel_local rfl))) pgs_nil))) (fun _ _ _ _ _ => (pe_tup (pa_cons (pe_ix xc_tup (cv 0) pe_int (fun _ _ => rfl)) (pa_cons (pe_ix xc_tup (cv 0) pe_int (fun _ _ => rfl)) (pa_cons (cv 1) pa_nil)))))) pa_nil)) pa_nil))))))
      pss_nil)
    (pss_cons (ps_if (ptc_cmpR oc_eq (cv 0) pe_str (nomark _))
      (pss_one (ps_ret (pe_tup (pa_cons (cv 0) (pa_cons (pe_callTy call_tuple_of rfl T.z_tuple bt_tuple (pa_cons (cv 2) pa_nil)) pa_nil)))))
      pss_nil)
    (pss_one (ps_ret (pe_op op_catT (pe_tup (pa_cons (cv 0) pa_nil)) (pe_callTy call_tuple_of rfl T.z_tuple bt_tuple (pa_cons (cv 2) pa_nil)))))))))))), ?_⟩
  have sl : sizeLine = 16777216 := sizeLine_eq
  have kat : ∀ {j : Nat} {n : Int}, ks[j]? = some n → atI (ks.map V.int) (j : Int) = some (.int n) := fun {j n} h => atI_nat (by rw [List.getElem?_map, h]; rfl)
  have z2 : 2 ≤ sizeLine := by decide
  have z3 : 3 ≤ sizeLine := by decide
  have z4 : 4 ≤ sizeLine := by decide
  cases κ with
  | num n =>
    cases hm
    exact (if_oT rfl (show (decide (("num" : Str) = "num") || decide (("num" : Str) = "name")) = true from by decide +kernel) ⟨z2, fun t ht => q t _ (same_new ht _) (.tup upd_same (.cons (.flat rfl) (.cons (.flat rfl) .nil)))⟩)
  | name n =>
    cases hm
    exact (if_oT rfl (show (decide (("name" : Str) = "num") || decide (("name" : Str) = "name")) = true from by decide +kernel) ⟨z2, fun t ht => q t _ (same_new ht _) (.tup upd_same (.cons (.flat rfl) (.cons (.flat rfl) .nil)))⟩)
  | fn x =>
    cases hm
    obtain ⟨k, rfl⟩ : ∃ k, ks = [k] := ⟨_, list1 hl⟩
    exact (if_oF rfl (show (decide (("fn" : Str) = "num") || decide (("fn" : Str) = "name")) = false from by decide +kernel) (if_oT rfl (show (decide (("fn" : Str) = "fn") || decide (("fn" : Str) = "tag")) = true from by decide +kernel) ⟨_, hk, onS_of (kat (j := 0) rfl) ⟨z3, fun t ht => q t _ (same_new ht _) (.tup upd_same (.cons (.flat rfl) (.cons (.flat rfl) (.cons (.flat rfl) .nil))))⟩⟩))
  | tag x =>
    cases hm
    obtain ⟨k, rfl⟩ : ∃ k, ks = [k] := ⟨_, list1 hl⟩
    exact (if_oF rfl (show (decide (("tag" : Str) = "num") || decide (("tag" : Str) = "name")) = false from by decide +kernel) (if_oT rfl (show (decide (("tag" : Str) = "fn") || decide (("tag" : Str) = "tag")) = true from by decide +kernel) ⟨_, hk, onS_of (kat (j := 0) rfl) ⟨z3, fun t ht => q t _ (same_new ht _) (.tup upd_same (.cons (.flat rfl) (.cons (.flat rfl) (.cons (.flat rfl) .nil))))⟩⟩))
  | lt x =>
    cases hm
    obtain ⟨k, k', rfl⟩ : ∃ k k', ks = [k, k'] := ⟨_, _, list2 hl⟩
    exact (if_oF rfl (show (decide (("let" : Str) = "num") || decide (("let" : Str) = "name")) = false from by decide +kernel) (if_oF rfl (show (decide (("let" : Str) = "fn") || decide (("let" : Str) = "tag")) = false from by decide +kernel) (if_sT rfl (show decide (("let" : Str) = "let") = true from by decide +kernel) ⟨_, hk, onS_of (kat (j := 0) rfl) ⟨_, hk, onS_of (kat (j := 1) rfl) ⟨z4, fun t ht => q t _ (same_new ht _) (.tup upd_same (.cons (.flat rfl) (.cons (.flat rfl) (.cons (.flat rfl) (.cons (.flat rfl) .nil)))))⟩⟩⟩)))
  | get x =>
    cases hm
    obtain ⟨k, rfl⟩ : ∃ k, ks = [k] := ⟨_, list1 hl⟩
    exact (if_oF rfl (show (decide (("get" : Str) = "num") || decide (("get" : Str) = "name")) = false from by decide +kernel) (if_oF rfl (show (decide (("get" : Str) = "fn") || decide (("get" : Str) = "tag")) = false from by decide +kernel) (if_sF rfl (show decide (("get" : Str) = "let") = false from by decide +kernel) (if_sT rfl (show decide (("get" : Str) = "get") = true from by decide +kernel) ⟨_, hk, onS_of (kat (j := 0) rfl) ⟨z3, fun t ht => q t _ (same_new ht _) (.tup upd_same (.cons (.flat rfl) (.cons (.flat rfl) (.cons (.flat rfl) .nil))))⟩⟩))))
  | rcd l =>
    refine (if_oF rfl (show (decide (("rec" : Str) = "num") || decide (("rec" : Str) = "name")) = false from by decide +kernel) (if_oF rfl (show (decide (("rec" : Str) = "fn") || decide (("rec" : Str) = "tag")) = false from by decide +kernel) (if_sF rfl (show decide (("rec" : Str) = "let") = false from by decide +kernel) (if_sF rfl (show decide (("rec" : Str) = "get") = false from by decide +kernel) (if_sT rfl (show decide (("rec" : Str) = "rec") = true from by decide +kernel) ?_)))))
    cases hm with
    | @lst ml mxs _ eml hmx =>
      have e := dtas_sD hmx
      subst e
      have hl' : l.length = ks.length := by rw [hl]; show _ = (l.map fun _ => p0).length; rw [List.length_map]
      have l100 := ho.1
      refine ⟨ml, kl, rfl, ⟨_, SqL.of eml⟩, ⟨_, SqL.of hk⟩, fun D hD => ?_⟩
      refine lcg_zip eml hk (by rw [List.length_map, List.length_map, hl']) (by rw [List.length_map]; omega) hD (fun zs H => Ims H zs (((l.zip ks).take zs.length).map fdD)) (fun xs H H' h tk => h.mono tk) .nil ?_ ?_
      · intro k H2 x y zs Z t S hx hy hr hz ht hZ
        rw [List.getElem?_map] at hx hy
        obtain ⟨x, hx', rfl⟩ := Option.map_eq_some_iff.mp hx
        obtain ⟨y, hy', rfl⟩ := Option.map_eq_some_iff.mp hy
        refine ⟨z2, fun p hp => hZ _ _ ((same_new ht _).trans (same_new hp _)) ?_⟩
        rw [List.length_append, List.length_singleton, List.take_add_one, show (l.zip ks)[zs.length]? = some (x, y) by rw [hz, List.getElem?_zip_eq_some]; exact ⟨hx', hy'⟩, List.map_append]
        exact (hr.mono (Same.tk ((same_new ht _).trans (same_new hp _)))).app (.cons (.tup upd_same (.cons (.flat rfl) (.cons (.flat rfl) .nil))) .nil)
      · intro H' zs S hr hz e
        refine ⟨D, zs, rfl, .inl ⟨SqL.of e, fun tt htt => ⟨z2, fun t ht => q t _ ((S.trans (same_new htt _)).trans (same_new ht _)) ?_⟩⟩⟩
        rw [hz, List.length_map, List.take_of_length_le (by rw [List.length_zip]; omega)] at hr
        exact .tup upd_same (.cons (.flat rfl) (.cons (.tup (same_new ht _ _ _ upd_same) (hr.mono (Same.tk ((same_new htt _).trans (same_new ht _))))) .nil))
  | case l =>
    refine (if_oF rfl (show (decide (("case" : Str) = "num") || decide (("case" : Str) = "name")) = false from by decide +kernel) (if_oF rfl (show (decide (("case" : Str) = "fn") || decide (("case" : Str) = "tag")) = false from by decide +kernel) (if_sF rfl (show decide (("case" : Str) = "let") = false from by decide +kernel) (if_sF rfl (show decide (("case" : Str) = "get") = false from by decide +kernel) (if_sF rfl (show decide (("case" : Str) = "rec") = false from by decide +kernel) (if_sT rfl (show decide (("case" : Str) = "case") = true from by decide +kernel) ?_))))))
    cases hm with
    | @lst ml mxs _ eml hmx =>
      have lm := dtas_len hmx
      rw [List.length_map] at lm
      have hl0 : ks.length = l.length + 1 := by rw [hl]; show (p0 :: l.map fun p => ((some p.2, "arm") : Hol)).length = _; rw [List.length_cons, List.length_map]
      have l100 := ho.1
      obtain ⟨k0, kr, rfl⟩ : ∃ k0 kr, ks = k0 :: kr := ⟨_, _, listC hl0⟩
      rw [List.length_cons] at hl0
      refine ⟨_, hk, onS_of (kat (j := 0) rfl) ?_⟩
      refine ⟨1, rfl, kl, _, rfl, SqL.of hk, fun pc hpc => ?_⟩
      rw [List.map_cons, (cut_1 _ _).1]
      have s1 := same_new hpc (.lst (kr.map V.int))
      have e1 : (upd H pc (.lst (kr.map V.int))) pc = some (.lst (kr.map V.int)) := upd_same
      refine ⟨ml, pc, rfl, ⟨_, SqL.of (s1 _ _ eml)⟩, ⟨_, SqL.of e1⟩, fun D hD => ?_⟩
      refine lcg_zip (s1 _ _ eml) e1 (by rw [List.length_map]; omega) (by omega) hD (fun zs H => Ims H zs (((l.zip kr).take zs.length).map fun p : (Str × Str) × Int => amD (p.1.1, p.1.2, p.2))) (fun xs H H' h tk => h.mono tk) .nil ?_ ?_
      · intro k H2 x y zs Z t S hx hy hr hz ht hZ
        rw [List.getElem?_map] at hy
        obtain ⟨y, hy', rfl⟩ := Option.map_eq_some_iff.mp hy
        obtain ⟨dd, hdd, him⟩ := dtas_get hmx hx
        rw [List.getElem?_map] at hdd
        obtain ⟨⟨g, x'⟩, hp, rfl⟩ := Option.map_eq_some_iff.mp hdd
        cases him with
        | @tup tb _ _ eb hb =>
          cases hb with
          | cons b1 hb =>
            cases hb with
            | cons b2 hb =>
              cases b1; cases b2; cases hb
              have eb2 := (same_new ht (.tup [.ref tb, .int y])) _ _ (S _ _ (s1 _ _ eb))
              refine ⟨_, eb2, onS_of (atI_nat (j := 0) rfl) ⟨_, eb2, onS_of (atI_nat (j := 1) rfl) ⟨z3, fun p hp' => hZ _ _ ((same_new ht _).trans (same_new hp' _)) ?_⟩⟩⟩
              rw [List.length_append, List.length_singleton, List.take_add_one, show (l.zip kr)[zs.length]? = some ((g, x'), y) by rw [hz, List.getElem?_zip_eq_some]; exact ⟨hp, hy'⟩, List.map_append]
              exact (hr.mono (Same.tk ((same_new ht _).trans (same_new hp' _)))).app (.cons (.tup upd_same (.cons (.flat rfl) (.cons (.flat rfl) (.cons (.flat rfl) .nil)))) .nil)
      · intro H' zs S hr hz e
        refine ⟨D, zs, rfl, .inl ⟨SqL.of e, fun tt htt => ⟨z3, fun t ht => q t _ (((s1.trans S).trans (same_new htt _)).trans (same_new ht _)) ?_⟩⟩⟩
        rw [hz, List.take_of_length_le (by rw [List.length_zip]; omega)] at hr
        refine .tup upd_same (.cons (.flat rfl) (.cons (.flat rfl) (.cons (.tup (same_new ht _ _ _ upd_same) ?_) .nil)))
        show Ims _ zs (((l.zip kr).map fun p => (p.1.1, p.1.2, p.2)).map amD)
        rw [List.map_map]
        exact hr.mono (Same.tk ((same_new htt (.tup zs)).trans (same_new ht _)))
  | row m =>
    cases hm
    refine (if_oF rfl (show (decide (("row" : Str) = "num") || decide (("row" : Str) = "name")) = false from by decide +kernel) (if_oF rfl (show (decide (("row" : Str) = "fn") || decide (("row" : Str) = "tag")) = false from by decide +kernel) (if_sF rfl (show decide (("row" : Str) = "let") = false from by decide +kernel) (if_sF rfl (show decide (("row" : Str) = "get") = false from by decide +kernel) (if_sF rfl (show decide (("row" : Str) = "rec") = false from by decide +kernel) (if_sF rfl (show decide (("row" : Str) = "case") = false from by decide +kernel) (if_sT rfl (show decide (("row" : Str) = "row") = true from by decide +kernel) ?_)))))))
    refine ⟨kl, _, rfl, .inl ⟨SqL.of hk, fun tt htt => ⟨z2, fun t ht => q t _ ((same_new htt _).trans (same_new ht _)) ?_⟩⟩⟩
    exact .tup upd_same (.cons (.flat rfl) (.cons (.tup (same_new ht _ _ _ upd_same) (ims_ks _)) .nil))
  | op s m =>
    cases hm
    have hs : s ∈ plain := ho.1
    have no : ∀ x ∈ heads, decide (s = x) = false := fun x hx => pl_ne hs hx
    have no2 : ∀ x ∈ heads, ∀ y ∈ heads, (decide (s = x) || decide (s = y)) = false := fun x hx y hy => by rw [no x hx, no y hy]; rfl
    refine (if_oF rfl (no2 _ (by decide +kernel) _ (by decide +kernel)) (if_oF rfl (no2 _ (by decide +kernel) _ (by decide +kernel)) (if_sF rfl (no _ (by decide +kernel)) (if_sF rfl (no _ (by decide +kernel)) (if_sF rfl (no _ (by decide +kernel)) (if_sF rfl (no _ (by decide +kernel)) (if_sF rfl (no _ (by decide +kernel)) ?_)))))))
    refine ⟨(by show 1 ≤ sizeLine; decide), fun t1 ht1 => ?_⟩
    have s1 := same_new ht1 (.tup [.str s])
    have hle := (Kn.op s m).ho_le ho
    refine ⟨kl, _, rfl, .inl ⟨SqL.of (s1 _ _ hk), fun tt htt => ?_⟩⟩
    have s2 := same_new htt (.tup (ks.map V.int))
    refine ⟨t1, tt, _, _, rfl, rfl, SqT.of (s2 _ _ upd_same), SqT.of upd_same, by simp, by rw [List.length_map]; show 1 + ks.length ≤ _; omega, fun e => ?_, fun e p hp => ?_⟩
    · have e2 : ks = [] := List.map_eq_nil_iff.mp e
      subst e2
      exact q t1 _ (s1.trans s2) (.tup (s2 _ _ upd_same) (.cons (.flat rfl) .nil))
    · exact q p _ ((s1.trans s2).trans (same_new hp _)) (.tup upd_same (.cons (.flat rfl) (ims_ks _)))
end
end K11.Internal
namespace K11.Internal
open PySem L2.Internal BO.Internal
seal L2.Internal.PE L2.Internal.PA L2.Internal.PS L2.Internal.PSs L2.Internal.PT L2.Internal.PI
noncomputable def FrD (D : Addr) (H H' : Hp) : Prop := ∀ a o, H a = some o → a ≠ D → H' a = some o
theorem lc_genF {J : It} {i : Nat} {te : TE} {Q : VK} {τ : St} {H1 : Hp} {D : Addr} (n : Nat) (hn : n < sizeLine) (R : List V → Hp → Prop) (hR : ∀ xs H H', R xs H → FrD D H H' → R xs H') (hD : H1 D = none) (hτ : τ.set i none = τ)
    (hgo : ∀ k H, Same H1 H → k < n → J.go k H) (hst : ∀ H, Same H1 H → J.stop n H) (h0 : R [] H1)
    (step : ∀ k H v H3 xs (Z : VK), Same H1 H → k < n → J.yld k H v H3 → R xs H → xs.length = k → H D = some (.lst xs) → (∀ y H5, Same H H5 → R (xs ++ [y]) H5 → Z y H5) → te (τ.set i (some v)) H3 Z)
    (hq : ∀ H' xs, Same H1 H' → R xs H' → xs.length = n → H' D = some (.lst xs) → Q (.ref D) H') : LcP J i tAlways te Q τ H1 D := by
  have nd : ∀ (H5 : Hp) (o : HO), FrD D H5 (upd H5 D o) := fun H5 o a u e n => by rw [upd_ne n]; exact e
  have up : ∀ {H : Hp} (o : HO), Same H1 H → Same H1 (upd H D o) := fun {H} o S b u e => by rw [upd_ne (ne_of_none e hD)]; exact S b u e
  refine ⟨fun k m σ' H2 => m = n - k ∧ k ≤ n ∧ (∃ o, σ' = τ.set i o) ∧ Same H1 H2 ∧ ∃ xs, H2 D = some (.lst xs) ∧ xs.length = k ∧ R xs H2, ⟨n, by simp, Nat.zero_le _, ⟨none, hτ.symm⟩, same_new hD _, [], upd_same, rfl, hR _ _ _ h0 (nd _ _)⟩, ?_⟩
  rintro k m σ' H2 ⟨rfl, hk, ⟨o, rfl⟩, S, xs, e, hl, hr⟩
  by_cases hlt : k < n
  · refine .inr ⟨hgo k H2 S hlt, fun v H3 y => ?_⟩
    rw [List.set_set]
    refine step k H2 v H3 xs _ S hlt y hr hl e fun y H5 S5 r5 => ?_
    refine ⟨xs, S5 D _ e, by omega, n - (k + 1), by omega, rfl, hlt, ⟨some v, rfl⟩, up _ (S.trans S5), xs ++ [y], upd_same, by rw [List.length_append, hl]; rfl, hR _ _ _ r5 (nd H5 _)⟩
  · have e1 : k = n := by omega
    subst e1
    exact .inl ⟨hst H2 S, hq H2 xs S hr hl e⟩

noncomputable def newH (H H' : Hp) : Hp := fun a => match H a with
  | none => H' a
  | some _ => none
theorem newH_of {H H' : Hp} {a : Addr} {u : HO} (h : H a = none) (e : H' a = some u) : newH H H' a = some u := by unfold newH; rw [h]; exact e
theorem newH_inv {H H' : Hp} {a : Addr} {u : HO} (h : newH H H' a = some u) : H a = none ∧ H' a = some u := by
  unfold newH at h
  cases q : H a with
  | none => rw [q] at h; exact ⟨rfl, h⟩
  | some x => rw [q] at h; cases h
theorem newH_same {H H' H'' : Hp} (s : Same H' H'') : Same (newH H H') (newH H H'') := fun b u e => newH_of (newH_inv e).1 (s _ _ (newH_inv e).2)
theorem newH_tk {H H' H'' : Hp} (s : TK H' H'') : TK (newH H H') (newH H H'') := fun b u e => newH_of (newH_inv e).1 (s _ _ (newH_inv e).2)
noncomputable def noD (N : Hp) (D : Addr) : Hp := fun a => if a = D then none else N a
theorem noD_of {N : Hp} {D a : Addr} {u : HO} (h : a ≠ D) (e : N a = some u) : noD N D a = some u := by unfold noD; rw [if_neg h]; exact e
theorem noD_inv {N : Hp} {D a : Addr} {u : HO} (e : noD N D a = some u) : a ≠ D ∧ N a = some u := by
  unfold noD at e
  by_cases h : a = D
  · rw [if_pos h] at e; cases e
  · rw [if_neg h] at e; exact ⟨h, e⟩
theorem noD_sub {N : Hp} {D : Addr} : Same (noD N D) N := fun b u e => (noD_inv e).2
theorem noD_fr {H H' H'' : Hp} {D : Addr} (s : FrD D H' H'') : Same (noD (newH H H') D) (noD (newH H H'') D) := fun b u e => noD_of (noD_inv e).1 (newH_of (newH_inv (noD_inv e).2).1 (s _ _ (newH_inv (noD_inv e).2).2 (noD_inv e).1))
noncomputable def Kws (H : Hp) (hv : List V) (kn : List Str) : Prop := hv.length = kn.length ∧ ∀ (j : Nat) (v : V), hv[j]? = some v → ∃ (w : Str) (a : Addr), kn[j]? = some w ∧ v = .ref a ∧ H a = some (.lst [.str w, .str ""])
noncomputable def wa (ws : List Str) (z : Int) : Str := ws.getD z.toNat ""
theorem wat {ws : List Str} {z : Int} (hl : ws.length = 16) (h0 : 0 ≤ z) (h1 : z < 16) : atI (ws.map V.str) z = some (.str (wa ws z)) := by
  have e : z = ((z.toNat : Nat) : Int) := by omega
  have hz : z.toNat < ws.length := by omega
  rw [e]
  refine atI_nat ?_
  rw [List.getElem?_map, List.getElem?_eq_getElem hz]
  show some (V.str _) = some (V.str (ws.getD _ ""))
  rw [List.getD_eq_getElem?_getD, Int.toNat_natCast, List.getElem?_eq_getElem hz]
  rfl
theorem wa_inj {ws : List Str} (hl : ws.length = 16) (nd : ws.Nodup) {y z : Int} (h0 : 0 ≤ y) (h1 : y < 16) (g0 : 0 ≤ z) (g1 : z < 16) (e : wa ws y = wa ws z) : y = z := by
  have hy : y.toNat < ws.length := by omega
  have hz : z.toNat < ws.length := by omega
  unfold wa at e
  rw [List.getD_eq_getElem?_getD, List.getD_eq_getElem?_getD, List.getElem?_eq_getElem hy, List.getElem?_eq_getElem hz] at e
  have e' : ws[y.toNat] = ws[z.toNat] := e
  have := nodup_ix nd (List.getElem?_eq_getElem hy) (by rw [List.getElem?_eq_getElem hz, e'])
  omega
theorem wa_mem {ws : List Str} (hl : ws.length = 16) {z : Int} (h0 : 0 ≤ z) (h1 : z < 16) : wa ws z ∈ ws := by
  have hz : z.toNat < ws.length := by omega
  unfold wa
  rw [List.getD_eq_getElem?_getD, List.getElem?_eq_getElem hz]
  exact List.getElem_mem hz
theorem odd_inj {a t k l : Int} (h0 : 0 ≤ t) (h1 : t < 8) (k0 : 0 ≤ k) (k1 : k < 16) (l0 : 0 ≤ l) (l1 : l < 16) (h : (a + (1 + 2 * t) * k) % 16 = (a + (1 + 2 * t) * l) % 16) : k = l := by
  have : t = 0 ∨ t = 1 ∨ t = 2 ∨ t = 3 ∨ t = 4 ∨ t = 5 ∨ t = 6 ∨ t = 7 := by omega
  rcases this with rfl | rfl | rfl | rfl | rfl | rfl | rfl | rfl <;> omega
noncomputable def mkF (ws : List Str) (a t : Int) (k : Nat) : Str := wa ws ((a + (1 + 2 * t) * (0 + (k : Int))) % 16)
theorem mk_nd {ws : List Str} (hl : ws.length = 16) (nd : ws.Nodup) {a t : Int} (h0 : 0 ≤ t) (h1 : t < 8) {m : Nat} (hm : m ≤ 16) : ((List.range m).map (mkF ws a t)).Nodup := by
  rw [List.Nodup, List.pairwise_map]
  refine List.Pairwise.imp_of_mem (fun {x y} hx hy hlt e => ?_) List.pairwise_lt_range
  have hx := List.mem_range.mp hx
  have hy := List.mem_range.mp hy
  have := wa_inj hl nd (Int.emod_nonneg _ (by decide)) (Int.emod_lt_of_pos _ (by decide)) (Int.emod_nonneg _ (by decide)) (Int.emod_lt_of_pos _ (by decide)) e
  have := odd_inj h0 h1 (by omega) (by omega) (by omega) (by omega) this
  omega
theorem dtas_rep {N : Hp} {v : V} {d : Dt} (h : Dta N v d) : ∀ n : Nat, Dtas N (List.replicate n v) (List.replicate n d)
  | 0 => .nil
  | n + 1 => by rw [List.replicate_succ, List.replicate_succ]; exact .cons h (dtas_rep h n)
theorem map_rep {α β γ : Type} (f : β → γ) (x : β) (l : List α) : (l.map fun _ => x).map f = List.replicate l.length (f x) := by
  rw [List.map_map]
  exact List.map_const' ..
theorem fin_k {H H3 : Hp} {r hl : Addr} {mv : V} {hs : List V} {κ : Kn} (S : Same H H3) (hr : H3 r = none) (dm : Dta (newH H H3) mv κ.mo) (eh : newH H H3 hl = some (.lst hs)) (dh : Dtas (newH H H3) hs (κ.ho.map hlD)) :
    Dta (newH H (upd H3 r (.lst [.str κ.s, mv, .ref hl]))) (.ref r) κ.d := by
  have s1 := newH_same (H := H) (same_new hr (.lst [.str κ.s, mv, .ref hl]))
  exact .lst (newH_of (S.free hr) upd_same) (.cons (.flat rfl) (.cons (dm.same s1) (.cons (.lst (s1 _ _ eh) (dh.same s1)) .nil)))
section
variable {P : Program} {w : World} {K : PySem.W.Frag} {mg : Str → Option Value} {base : Heap}
theorem lc_pl {J : It} {Q : VK} {H1 : Hp} {D pl : Addr} (n : Nat) (hn : n < sizeLine) (hD : H1 D = none) (hgo : ∀ k H, Same H1 H → k < n → J.go k H) (hst : ∀ H, Same H1 H → J.stop n H) (hy : ∀ k H v H3, J.yld k H v H3 → H3 = H)
    (hq : ∀ H', Same H1 H' → H' D = some (.lst (List.replicate n (.ref pl))) → Q (.ref D) H') : LcP J 0 tAlways (cV 1) Q [none, some (.ref pl)] H1 D := by
  refine lc_gen n hn (fun xs _ => xs = List.replicate xs.length (.ref pl)) (fun xs H H' h _ => h) hD rfl hgo hst rfl ?_ ?_
  · intro k H v H3 xs Z S hk y hx hl hz
    have := hy k H v H3 y
    subst this
    refine hz _ _ (Same.refl _) ?_
    rw [List.length_append, List.length_singleton, List.replicate_succ', ← hx]
  · intro H' xs S hx hl e
    rw [hl] at hx
    exact hq H' S (by rw [e, hx])
theorem dtas_app {H : Hp} : ∀ {xs ys : List V} {ds es : List Dt}, Dtas H xs ds → Dtas H ys es → Dtas H (xs ++ ys) (ds ++ es)
  | _, _, _, _, .nil, h => h
  | _, _, _, _, .cons h t, h' => .cons h (dtas_app t h')
noncomputable def arF (ws : List Str) (ar t : Int) (k : Nat) : Str × Str := (mkF ws (ar / 6) t k, wa ws ((ar / 768 + (0 + (k : Int)) * (ar / 7 % 3)) % 6))
theorem or2 {t1 t2 : TT} {σ : St} {H : Hp} {R : Bool → Hp → Prop} (b1 b2 : Bool) (h1 : ∀ R : Bool → Hp → Prop, R b1 H → t1 σ H R) (h2 : ∀ R : Bool → Hp → Prop, R b2 H → t2 σ H R) (k : R (b1 || b2) H) : tOr t1 t2 σ H R := by
  refine h1 _ ?_
  cases b1 with
  | true => exact iteT k
  | false => exact iteF (h2 _ k)
theorem and2 {t1 t2 : TT} {σ : St} {H : Hp} {R : Bool → Hp → Prop} (b1 b2 : Bool) (h1 : ∀ R : Bool → Hp → Prop, R b1 H → t1 σ H R) (h2 : ∀ R : Bool → Hp → Prop, R b2 H → t2 σ H R) (k : R (b1 && b2) H) : tAnd t1 t2 σ H R := by
  refine h1 _ ?_
  cases b1 with
  | true => exact iteT (h2 _ k)
  | false => exact iteF k
noncomputable def sp__law_stands : Sp := fun vs H Q _ => ∃ (W hl : Addr) (ws : List Str) (kn : List Str) (hv : List V) (cell room : Int), vs = [.ref W, .int cell, .ref hl, .int room] ∧ Wd H W ws ∧ H hl = some (.lst hv) ∧ Kws H hv kn ∧ hv.length ≤ 10000 ∧
  ∀ (r : Addr) (κ : Kn) (H' : Hp), Same H H' → Dta (newH H H') (.ref r) κ.d → κ.okk → κ.nd → (κ.ho ≠ [] → 9 ≤ room) → κ.ho.length ≤ 8 → (∀ w, κ = .name w → w ∈ kn) → Q (.ref r) H'
theorem ifc {A B u : TS} {D : Ends} {σ : St} {H : Hp} {t : TT} (b : Bool) (ht : ∀ R : Bool → Hp → Prop, R b H → t σ H R) (k : if b = true then A { D with nx := u D } σ H else B { D with nx := u D } σ H) : tSeq (tIfS t A B) u D σ H := ht _ k
theorem ok__law_stands (T : Txt K mg) : FnOk P w K mg base CX0 1 T.a__law_stands T.fd__law_stands ["_law_words_here", "_law_cell", "_law_held", "_law_room"] sp__law_stands := by
  refine T.F__law_stands.ok sc__law_stands (fun vs H Q E h => ?_) (fun cdv A outer s H vs Q E hr h => ?_)
  · obtain ⟨W, hl, ws, kn, hv, cell, room, rfl, _⟩ := h
    rfl
  obtain ⟨W, hl, ws, kn, hv, cell, room, rfl, ⟨eW, wl, wnd, wle⟩, el, him, hle, q⟩ := h
  refine ⟨_, (pss_cons (ps_set (i := 4) sc__law_stands.nd rfl (Or.inl rfl) (pe_op oc_mod (cv 1) pe_int))
    (pss_cons (ps_set (i := 5) sc__law_stands.nd rfl (Or.inr rfl) (pe_op oc_mod (pe_op oc_mul (pe_op oc_add (pe_op oc_mod (pe_op oc_fdiv (cv 1) pe_int) (pe_op oc_pow pe_int pe_int)) pe_int) pe_int) pe_int))
    (pss_cons (ps_set (i := 6) sc__law_stands.nd rfl (Or.inl rfl) (pe_ix xc_list (cv 0) (pe_op oc_mod (cv 5) pe_int) (fun _ _ => rfl)))
    (pss_cons (ps_set (i := 7) sc__law_stands.nd rfl (Or.inr rfl) (pe_lst (pa_cons pe_non (pa_cons pe_str pa_nil))))
    (pss_cons (ps_if (PW.pt (pw_or (ptc_cmpR oc_lt (cv 3) pe_int (nomark _)) (pw_or1 (ptc_cmpR oc_lt (cv 4) pe_int (nomark _)))))
      (pss_cons (ps_if (PW.pt (pw_and (ptc_cmpR oc_gt (cv 4) pe_int (nomark _)) (pw_and1 (ptc_cmpR oc_gt (pe_callB call_len_seq rfl T.z_len bt_len (pa_cons (cv 2) pa_nil)) pe_int (nomark _)))))
        (pss_one (ps_ret (pe_lst (pa_cons pe_str (pa_cons (pe_ix xc_list (pe_ix xc_list (cv 2) (pe_op oc_mod (cv 5) (pe_callB call_len_seq rfl T.z_len bt_len (pa_cons (cv 2) pa_nil))) (fun _ _ => rfl)) pe_int (fun _ _ => rfl)) (pa_cons (pe_lst pa_nil) pa_nil))))))
        pss_nil)
      (pss_one (ps_ret (pe_lst (pa_cons pe_str (pa_cons (pe_op oc_mod (pe_op oc_fdiv (cv 1) pe_int) (pe_op oc_pow pe_int pe_int)) (pa_cons (pe_lst pa_nil) pa_nil)))))))
      pss_nil)
    (pss_cons (ps_if (ptc_cmpR oc_lt (cv 4) pe_int (nomark _))
      (pss_one (ps_ret (pe_lst (pa_cons pe_str (pa_cons (cv 6) (pa_cons (pe_lst (pa_cons (pe_lst (pa_cons (cv 6) (pa_cons pe_str pa_nil))) pa_nil)) pa_nil))))))
      pss_nil)
    (pss_cons (ps_if (ptc_cmpR oc_lt (cv 4) pe_int (nomark _))
      (pss_one (ps_ret (pe_lst (pa_cons pe_str (pa_cons (cv 6) (pa_cons (pe_lst (pa_cons (cv 7) (pa_cons (pe_lst (pa_cons (cv 6) (pa_cons pe_str pa_nil))) pa_nil))) pa_nil))))))
      pss_nil)
    (pss_cons (ps_if (ptc_cmpR oc_lt (cv 4) pe_int (nomark _))
      (pss_cons (ps_set (i := 8) sc__law_stands.nd rfl (Or.inr rfl) (pe_op oc_add pe_int (pe_op oc_mul pe_int (pe_op oc_mod (pe_op oc_fdiv (cv 5) pe_int) pe_int))))
      (pss_cons (ps_set (i := 9) sc__law_stands.nd rfl (Or.inl rfl) (pe_op oc_add (pe_op oc_sub (cv 4) pe_int) (pe_op oc_mod (cv 5) (pe_op oc_sub pe_int (cv 4)))))
      (pss_cons (ps_set (i := 10) sc__law_stands.nd rfl (Or.inr rfl) (pe_lc rfl (blkC (x := "_law_k") ["_law_words_here", "_law_step", "_law_arg"] [("_law_words_here", 0, s.heap.objs.size + 1), ("_law_step", 8, s.heap.objs.size + 4), ("_law_arg", 5, s.heap.objs.size + 2)] rfl rfl (by decide +kernel) (by decide +kernel) rfl (by decide +kernel) rfl rfl (by intro p hp; simp only [List.mem_cons, List.not_mem_nil, or_false] at hp; rcases hp with rfl | rfl | rfl <;> exact ⟨rfl, rfl, rfl, rfl⟩)) (pi_range1 rfl T.z_range (pa_cons (cv 9) pa_nil)) (fun _ _ _ _ _ => pts_nil) (fun _ _ _ _ _ => (pe_ix xc_list (cv 1) (pe_op oc_mod (pe_op oc_add (pe_op oc_fdiv (cv 3) pe_int) (pe_op oc_mul (cv 2) (cv 0))) pe_int) (fun _ _ => rfl)))))
      (pss_cons (ps_if (ptc_cmpR oc_eq (cv 4) pe_int (nomark _))
        (pss_one (ps_ret (pe_lst (pa_cons pe_str (pa_cons (cv 10) (pa_cons (pe_lc rfl (blkC (x := "_law_mark") ["_law_plain"] [("_law_plain", 7, s.heap.objs.size + 3)] rfl rfl (by decide +kernel) (by decide +kernel) rfl (by decide +kernel) rfl rfl (by intro p hp; simp only [List.mem_cons, List.not_mem_nil, or_false] at hp; rcases hp with rfl <;> exact ⟨rfl, rfl, rfl, rfl⟩)) (pi_list (cv 10)) (fun _ _ _ _ _ => pts_nil) (fun _ _ _ _ _ => (cv 1))) pa_nil))))))
        pss_nil)
      (pss_cons (ps_setLC (j := 11) rfl (blkC (x := "_law_k") ["_law_words_here", "_law_marks", "_law_arg"] [("_law_words_here", 0, s.heap.objs.size + 1), ("_law_marks", 10, s.heap.objs.size + 5), ("_law_arg", 5, s.heap.objs.size + 2)] rfl rfl (by decide +kernel) (by decide +kernel) rfl (by decide +kernel) rfl rfl (by intro p hp; simp only [List.mem_cons, List.not_mem_nil, or_false] at hp; rcases hp with rfl | rfl | rfl <;> exact ⟨rfl, rfl, rfl, rfl⟩)) (pi_range1 rfl T.z_range (pa_cons (cv 9) pa_nil)) (fun _ _ _ _ _ => pts_nil) (fun _ _ _ _ _ => (pe_tup (pa_cons (pe_ix xc_list (cv 2) (cv 0) (fun _ _ => rfl)) (pa_cons (pe_ix xc_list (cv 1) (pe_op oc_mod (pe_op oc_add (pe_op oc_fdiv (cv 3) pe_int) (pe_op oc_mul (cv 0) (pe_op oc_mod (pe_op oc_fdiv (cv 3) pe_int) pe_int))) pe_int) (fun _ _ => rfl)) pa_nil)))) sc__law_stands.nd rfl (Or.inl rfl))
      (pss_one (ps_ret (pe_lst (pa_cons pe_str (pa_cons (cv 11) (pa_cons (pe_op op_cat (pe_lst (pa_cons (cv 7) pa_nil)) (pe_lc rfl (blk0 (x := "_law_arm") rfl (by decide +kernel) (by decide +kernel) rfl rfl) (pi_list (cv 11)) (fun _ _ _ _ _ => pts_nil) (fun _ _ _ _ _ => (pe_lst (pa_cons (pe_ix xc_tup (cv 0) pe_int (fun _ _ => rfl)) (pa_cons pe_str pa_nil)))))) pa_nil)))))))))))
      pss_nil)
    (pss_cons (ps_if (ptc_cmpR oc_eq (cv 4) pe_int (nomark _))
      (pss_one (ps_ret (pe_lst (pa_cons pe_str (pa_cons pe_str (pa_cons (pe_lc rfl (blkC (x := "_law_k") ["_law_plain"] [("_law_plain", 7, s.heap.objs.size + 3)] rfl rfl (by decide +kernel) (by decide +kernel) rfl (by decide +kernel) rfl rfl (by intro p hp; simp only [List.mem_cons, List.not_mem_nil, or_false] at hp; rcases hp with rfl <;> exact ⟨rfl, rfl, rfl, rfl⟩)) (pi_range1 rfl T.z_range (pa_cons (pe_op oc_mod (cv 5) pe_int) pa_nil)) (fun _ _ _ _ _ => pts_nil) (fun _ _ _ _ _ => (cv 1))) pa_nil))))))
      pss_nil)
    (pss_cons (ps_if (ptc_cmpR oc_eq (cv 4) pe_int (nomark _))
      (pss_one (ps_ret (pe_lst (pa_cons (pe_ix xc_list (pe_lst (pa_cons pe_str (pa_cons pe_str pa_nil))) (pe_op oc_mod (cv 5) pe_int) (fun _ _ => rfl)) (pa_cons (pe_ix xc_list (cv 0) (pe_op oc_mod (pe_op oc_fdiv (cv 5) pe_int) pe_int) (fun _ _ => rfl)) (pa_cons (pe_lst (pa_cons (cv 7) pa_nil)) pa_nil))))))
      pss_nil)
    (pss_cons (ps_if (ptc_cmpR oc_eq (cv 4) pe_int (nomark _))
      (pss_one (ps_ret (pe_lst (pa_cons (pe_ix xc_list (pe_lst (pa_cons pe_str (pa_cons pe_str pa_nil))) (pe_op oc_mod (cv 5) pe_int) (fun _ _ => rfl)) (pa_cons pe_str (pa_cons (pe_lc rfl (blkC (x := "_law_k") ["_law_plain"] [("_law_plain", 7, s.heap.objs.size + 3)] rfl rfl (by decide +kernel) (by decide +kernel) rfl (by decide +kernel) rfl rfl (by intro p hp; simp only [List.mem_cons, List.not_mem_nil, or_false] at hp; rcases hp with rfl <;> exact ⟨rfl, rfl, rfl, rfl⟩)) (pi_range1 rfl T.z_range (pa_cons (pe_op oc_add pe_int (pe_op oc_mul (pe_op oc_mod (cv 5) pe_int) pe_int)) pa_nil)) (fun _ _ _ _ _ => pts_nil) (fun _ _ _ _ _ => (cv 1))) pa_nil))))))
      pss_nil)
    (pss_one (ps_ret (pe_lst (pa_cons (pe_ix xc_list (pe_lst (pa_cons pe_str (pa_cons pe_str (pa_cons pe_str (pa_cons pe_str (pa_cons pe_str pa_nil)))))) (pe_op oc_mod (cv 5) pe_int) (fun _ _ => rfl)) (pa_cons pe_str (pa_cons (pe_lst (pa_cons (cv 7) (pa_cons (cv 7) pa_nil))) pa_nil))))))))))))))))), ?_⟩
  have sl : sizeLine = 16777216 := sizeLine_eq
  have dv : ∀ i : Int, CDiv i 16 := fun _ => ⟨by decide, by decide⟩
  refine ⟨(by show (0 : Int) < 16; decide), dv _, ⟨by decide, by decide, by decide⟩, (by show (0 : Int) < 10 ^ (20 : Int).toNat; decide +kernel), .inr ⟨by decide, by decide⟩, (by show (0 : Int) < 2147483647; decide), ?_⟩
  have a0 : 0 ≤ (cell / 16 % 10 ^ (20 : Int).toNat + 3) * 48271 % 2147483647 := Int.emod_nonneg _ (by decide)
  have a9 : (cell / 16 % 10 ^ (20 : Int).toNat + 3) * 48271 % 2147483647 < 2147483647 := Int.emod_lt_of_pos _ (by decide)
  have o0 : 0 ≤ cell % 16 := Int.emod_nonneg _ (by decide)
  have o1 : cell % 16 < 16 := Int.emod_lt_of_pos _ (by decide)
  dsimp only [gName]
  generalize (cell / 16 % 10 ^ (20 : Int).toNat + 3) * 48271 % 2147483647 = ar at a0 a9 ⊢
  generalize cell % 16 = o at o0 o1 ⊢
  refine ⟨(by show (0 : Int) < 6; decide), _, eW, onS_of (wat wl (Int.emod_nonneg _ (by decide)) (by omega)) ?_⟩
  dsimp only [gName]
  have hone : 5 ≤ (wa ws (ar % 6)).length := (wle _ (wa_mem wl (Int.emod_nonneg _ (by decide)) (by omega))).2
  generalize wa ws (ar % 6) = one at hone ⊢
  refine ⟨(by show 2 ≤ sizeLine; decide), fun pl hpl => ?_⟩
  have s1 := same_new hpl (.lst [.non, .str ""])
  have e1 : newH H (upd H pl (.lst [.non, .str ""])) pl = some (.lst [.non, .str ""]) := newH_of hpl upd_same
  dsimp only [gName]
  generalize upd H pl (.lst [.non, .str ""]) = H1 at s1 e1 ⊢
  have z2 : 2 ≤ sizeLine := by decide
  have z3 : 3 ≤ sizeLine := by decide
  have z0 : 0 ≤ sizeLine := by decide
  have z1 : 1 ≤ sizeLine := by decide
  have dpl : ∀ {H3 : Hp}, Same H1 H3 → Dta (newH H H3) (.ref pl) (hlD p0) := fun S => .lst (newH_same S _ _ e1) (.cons (.flat rfl) (.cons (.flat rfl) .nil))
  have eW1 := s1 _ _ eW
  have el1 := s1 _ _ el
  have fin : ∀ {κ : Kn} {H3 : Hp} {r l2 : Addr} {mv : V} {hs : List V}, Same H1 H3 → H3 r = none → Dta (newH H H3) mv κ.mo → newH H H3 l2 = some (.lst hs) → Dtas (newH H H3) hs (κ.ho.map hlD) → κ.ok → κ.nd → (κ.ho ≠ [] → 9 ≤ room) → κ.ho.length ≤ 8 → (∀ w, κ = .name w → w ∈ kn) → κ.nn → Q (.ref r) (upd H3 r (.lst [.str κ.s, mv, .ref l2])) :=
    fun {κ} {_} {r} {_} {_} {_} S hr dm eh dh k1 kd k2 k3 k4 k5 => q r κ _ ((s1.trans S).trans (same_new hr _)) (fin_k (s1.trans S) hr dm eh dh) ⟨k1, k5⟩ kd k2 k3 k4
  have nw : ∀ {H3 : Hp} {x : Addr} {u : HO}, Same H1 H3 → H3 x = none → newH H (upd H3 x u) x = some u := fun S hx => newH_of ((s1.trans S).free hx) upd_same
  refine ifc (decide (room < 9) || decide (o < 5)) (fun R hR => or2 _ _ (fun R h => h) (fun R h => h) hR) ?_
  cases hb : (decide (room < 9) || decide (o < 5)) with
  | true =>
    refine iteT (ifc (decide (0 < o) && decide (0 < hv.length)) (fun R hR => and2 _ _ (fun R h => h) (fun R h => ⟨hl, _, rfl, .inl (SqL.of el1), (by show R (decide ((0 : Int) < (hv.length : Int))) H1; rw [show decide ((0 : Int) < (hv.length : Int)) = decide (0 < hv.length) from decide_eq_decide.mpr (by omega)]; exact h)⟩) hR) ?_)
    cases hb2 : (decide (0 < o) && decide (0 < hv.length)) with
    | true =>
      rw [Bool.and_eq_true, decide_eq_true_eq, decide_eq_true_eq] at hb2
      have hpos : (0 : Int) < (hv.length : Int) := by omega
      obtain ⟨c, hc, hcm⟩ := atI_lt hv (ar % (hv.length : Int)) (Int.emod_nonneg _ (by omega)) (Int.emod_lt_of_pos _ hpos)
      obtain ⟨j, hj⟩ := List.mem_iff_getElem?.mp hcm
      obtain ⟨wd, tp, hw, rfl, ep⟩ := him.2 j c hj
      refine iteT ⟨hl, _, rfl, .inl (SqL.of el1), hpos, _, el1, onS_of hc ⟨_, s1 _ _ ep, onS_of (atI_nat (j := 0) rfl) ⟨z0, fun l2 h2 => ⟨z3, fun r hr => ?_⟩⟩⟩⟩
      exact fin (κ := .name wd) (same_new h2 _) hr (.flat rfl) (nw (Same.refl _) h2) .nil trivial List.nodup_nil (fun z => absurd rfl z) (Nat.zero_le _) (fun w e => by cases e; exact List.mem_of_getElem? hw) (nn_p fun z hz => nomatch hz)
    | false =>
      refine iteF ⟨dv _, ⟨by decide, by decide, by decide⟩, (by show (0 : Int) < 10 ^ (60 : Int).toNat; decide +kernel), z0, fun l2 h2 => ⟨z3, fun r hr => ?_⟩⟩
      exact fin (κ := .num _) (same_new h2 _) hr (.flat rfl) (nw (Same.refl _) h2) .nil trivial List.nodup_nil (fun z => absurd rfl z) (Nat.zero_le _) (fun w e => nomatch e) (nn_p fun z hz => nomatch hz)
  | false =>
    rw [Bool.or_eq_false_iff, decide_eq_false_iff_not, decide_eq_false_iff_not] at hb
    have rm : 9 ≤ room := by omega
    have o5 : 5 ≤ o := by omega
    refine iteF ?_
    dsimp only [tNext]
    refine ifc (decide (o < 8)) (fun R h => h) ?_
    by_cases b8 : o < 8
    · rw [decide_eq_true b8]
      refine iteT ⟨z2, fun i1 hi1 => ⟨z1, fun l2 h2 => ⟨z3, fun r hr => ?_⟩⟩⟩
      have t1 := same_new hi1 (.lst [.str one, .str "fn"])
      have t2 := same_new h2 (.lst [.ref i1])
      exact fin (κ := .fn one) (t1.trans t2) hr (.flat rfl) (nw t1 h2) (.cons (.lst (newH_same t2 _ _ (nw (Same.refl _) hi1)) (.cons (.flat rfl) (.cons (.flat rfl) .nil))) .nil) trivial List.nodup_nil (fun _ => rm) (by show 1 ≤ 8; decide) (fun w e => nomatch e) (nn_fn hone)
    rw [decide_eq_false b8]
    refine iteF ?_
    dsimp only [tNext]
    refine ifc (decide (o < 10)) (fun R h => h) ?_
    by_cases b10 : o < 10
    · rw [decide_eq_true b10]
      refine iteT ⟨z2, fun i1 hi1 => ⟨z2, fun l2 h2 => ⟨z3, fun r hr => ?_⟩⟩⟩
      have t1 := same_new hi1 (.lst [.str one, .str "let"])
      have t2 := same_new h2 (.lst [.ref pl, .ref i1])
      exact fin (κ := .lt one) (t1.trans t2) hr (.flat rfl) (nw t1 h2) (.cons (dpl (t1.trans t2)) (.cons (.lst (newH_same t2 _ _ (nw (Same.refl _) hi1)) (.cons (.flat rfl) (.cons (.flat rfl) .nil))) .nil)) trivial List.nodup_nil (fun _ => rm) (by show 2 ≤ 8; decide) (fun w e => nomatch e) (nn_lt hone)
    rw [decide_eq_false b10]
    refine iteF ?_
    dsimp only [tNext]
    refine ifc (decide (o < 12)) (fun R h => h) ?_
    by_cases b12 : o < 12
    · rw [decide_eq_true b12]
      refine iteT ⟨⟨by decide, by decide⟩, (by show (0 : Int) < 8; decide), .inl ⟨by decide, by decide⟩, ?_⟩
      have t0 : 0 ≤ ar / 96 % 8 := Int.emod_nonneg _ (by decide)
      have t8 : ar / 96 % 8 < 8 := Int.emod_lt_of_pos _ (by decide)
      refine ⟨(by show (0 : Int) < 17 - o; omega), ?_⟩
      have m0 : 0 ≤ o - 10 + ar % (17 - o) := by have := Int.emod_nonneg ar (show 17 - o ≠ 0 by omega); omega
      have m6 : o - 10 + ar % (17 - o) ≤ 6 := by have := Int.emod_lt_of_pos ar (show 0 < 17 - o by omega); omega
      obtain ⟨many, hmany⟩ : ∃ z : Int, z = o - 10 + ar % (17 - o) := ⟨_, rfl⟩
      rw [← hmany] at m0 m6
      refine ⟨many, by rw [hmany], by omega, by omega, fun D hD => ?_⟩
      have mn : many.toNat ≤ 6 := by omega
      refine lc_gen many.toNat (by omega) (fun xs _ => xs = ((List.range xs.length).map (mkF ws (ar / 6) (ar / 96 % 8))).map V.str) (fun xs H H' h _ => h) hD rfl (fun k H _ h => go_rng h) (fun H _ => Nat.le_refl _) rfl ?_ ?_
      · intro k H2 v H3 xs Z S hk y hx hxl hZ
        obtain ⟨rfl, rfl⟩ := y
        refine ⟨⟨by decide, by decide⟩, .inl ⟨by omega, by omega⟩, (by show (0 : Int) < 16; decide), _, S _ _ eW1, onS_of (wat wl (Int.emod_nonneg _ (by decide)) (Int.emod_lt_of_pos _ (by decide))) (hZ _ _ (Same.refl _) ?_)⟩
        rw [List.length_append, List.length_singleton, List.range_succ, List.map_append, List.map_append, ← hx, hxl]
        rfl
      intro H2 xs S hx hxl eD
      rw [hxl] at hx
      subst hx
      have hD0 : H D = none := s1.free hD
      have nd := mk_nd wl wnd (a := ar / 6) t0 t8 (show many.toNat ≤ 16 by omega)
      have ml : ((List.range many.toNat).map (mkF ws (ar / 6) (ar / 96 % 8))).length = many.toNat := by rw [List.length_map, List.length_range]
      have dmarks : ∀ l : List Str, Dtas (newH H H2) (l.map V.str) (l.map sD) := fun l => by
        induction l with
        | nil => exact .nil
        | cons x l ih => exact .cons (.flat rfl) ih
      dsimp only [gName]
      refine ifc (decide (o = 10)) (fun R h => by show R (false ^^ decide (o = 10)) H2; rw [Bool.false_xor]; exact h) ?_
      by_cases b : o = 10
      · rw [decide_eq_true b]
        refine iteT ⟨D, rfl, ⟨_, SqL.of eD⟩, fun D2 hD2 => ?_⟩
        refine lc_pl many.toNat (by omega) hD2 (fun k H S h => go_lst eD S (by rw [List.length_map, ml]; exact h)) (fun H S => by have := st_lst (K := K) eD S; rw [List.length_map, ml] at this; exact this) (fun k H v H3 y => y.1) ?_
        intro H4 S4 e4
        refine ⟨z3, fun r hr => ?_⟩
        refine fin (κ := .rcd ((List.range many.toNat).map (mkF ws (ar / 6) (ar / 96 % 8)))) (S.trans S4) hr (.lst (newH_of hD0 (S4 _ _ eD)) ((dmarks _).same (newH_same S4))) (newH_of ((s1.trans S).free hD2) e4) ?_ ⟨by rw [ml]; omega, trivial⟩ nd (fun _ => rm) ?_ (fun w e => nomatch e) (nn_rcd _)
        · show Dtas _ _ ((((List.range many.toNat).map (mkF ws (ar / 6) (ar / 96 % 8))).map fun _ => p0).map hlD)
          rw [map_rep, ml]
          exact dtas_rep (dpl (S.trans S4)) _
        · show (((List.range many.toNat).map (mkF ws (ar / 6) (ar / 96 % 8))).map fun _ => p0).length ≤ 8
          rw [List.length_map, ml]
          omega
      · rw [decide_eq_false b]
        refine iteF ⟨many, by rw [hmany], by omega, by omega, fun DA hDA => ?_⟩
        refine lc_gen many.toNat (by omega) (fun xs Hc => Ims (newH H Hc) xs (((List.range xs.length).map (arF ws ar (ar / 96 % 8))).map agD)) (fun xs Hc Hc' h tk => h.mono (newH_tk tk)) hDA rfl (fun k H _ h => go_rng h) (fun H _ => Nat.le_refl _) .nil ?_ ?_
        · intro k H3 v H4 ys Z S3 hk y hy hyl hZ
          obtain ⟨rfl, rfl⟩ := y
          have hk1 : (((List.range many.toNat).map (mkF ws (ar / 6) (ar / 96 % 8))).map V.str)[k]? = some (.str (mkF ws (ar / 6) (ar / 96 % 8) k)) := by rw [List.getElem?_map, List.getElem?_map, List.getElem?_range hk]; rfl
          have hk2 : atI (((List.range many.toNat).map (mkF ws (ar / 6) (ar / 96 % 8))).map V.str) (0 + (k : Int)) = some (.str (mkF ws (ar / 6) (ar / 96 % 8) k)) := by rw [Int.zero_add]; exact atI_nat hk1
          refine ⟨_, S3 _ _ eD, onS_of hk2 ⟨⟨by decide, by decide⟩, ⟨by decide, by decide⟩, (by show (0 : Int) < 3; decide), .inl ⟨by omega, by omega⟩, (by show (0 : Int) < 6; decide), _, (S.trans S3) _ _ eW1, onS_of (wat wl (Int.emod_nonneg _ (by decide)) (by have := Int.emod_lt_of_pos (ar / 768 + (0 + (k : Int)) * (ar / 7 % 3)) (show (0 : Int) < 6 by decide); omega)) ⟨z2, fun p hp => hZ _ _ (same_new hp _) ?_⟩⟩⟩
          rw [List.length_append, List.length_singleton, List.range_succ, List.map_append, List.map_append]
          refine (hy.mono (newH_tk (Same.tk (same_new hp _)))).app (.cons (.tup (newH_of ((s1.trans (S.trans S3)).free hp) upd_same) ?_) .nil)
          rw [hyl]
          exact .cons (.flat rfl) (.cons (.flat rfl) .nil)
        intro H3 ys S3 hy hyl eDA
        rw [hyl] at hy
        have S13 := S.trans S3
        have al : ((List.range many.toNat).map (arF ws ar (ar / 96 % 8))).length = many.toNat := by rw [List.length_map, List.length_range]
        refine ⟨z1, fun l1 hl1 => ?_⟩
        have t3 := same_new hl1 (.lst [.ref pl])
        have el1' : (upd H3 l1 (.lst [.ref pl])) l1 = some (.lst [.ref pl]) := upd_same
        generalize upd H3 l1 (.lst [.ref pl]) = H4 at t3 el1' ⊢
        have S14 := S13.trans t3
        refine ⟨DA, rfl, ⟨_, SqL.of (t3 _ _ eDA)⟩, fun D3 hD3 => ?_⟩
        refine lc_genF many.toNat (by omega) (fun xs Hc => Dtas (noD (newH H Hc) D3) xs (((List.range xs.length).map fun k => ((some (arF ws ar (ar / 96 % 8) k).2, ("arm" : Str)) : Hol)).map hlD)) (fun xs Hc Hc' h tk => h.same (noD_fr tk)) hD3 rfl (fun k H S h => go_lst (t3 _ _ eDA) S (by omega)) (fun H S => by rw [← hyl]; exact st_lst (t3 _ _ eDA) S) .nil ?_ ?_
        · intro k H5 v H6 zs Z S5 hk y hz hzl eD3 hZ
          obtain ⟨rfl, hv'⟩ := y
          have hv' := hv' _ (SqL.of (S5 _ _ (t3 _ _ eDA)))
          obtain ⟨d, hdk, hdi⟩ := ims_get' hy hv'
          rw [List.getElem?_map, List.getElem?_map, List.getElem?_range hk] at hdk
          cases hdk
          cases hdi with
          | @tup tb _ _ eb hb =>
            cases hb with
            | cons b1 hb =>
              cases hb with
              | cons b2 hb =>
                cases b1; cases b2; cases hb
                refine ⟨_, S5 _ _ (t3 _ _ (newH_inv eb).2), onS_of (atI_nat (j := 1) rfl) ⟨z2, fun p hp => hZ _ _ (same_new hp _) ?_⟩⟩
                rw [List.length_append, List.length_singleton, List.range_succ, List.map_append, List.map_append]
                refine dtas_app (hz.same (noD_fr fun a o e _ => same_new hp _ _ _ e)) (.cons (.lst (noD_of (ne_of_none eD3 hp).symm (newH_of ((s1.trans (S14.trans S5)).free hp) upd_same)) ?_) .nil)
                rw [hzl]
                exact .cons (.flat rfl) (.cons (.flat rfl) .nil)
        intro H5 zs S5 hz hzl eD3
        rw [hzl] at hz
        refine ⟨l1, D3, _, _, rfl, rfl, S5 _ _ el1', eD3, by rw [hzl]; show 1 + many.toNat ≤ sizeLine; omega, fun p hp => ⟨z3, fun r hr => ?_⟩⟩
        have t6 := same_new hp (.lst ([.ref pl] ++ zs))
        refine fin (κ := .case ((List.range many.toNat).map (arF ws ar (ar / 96 % 8)))) ((S14.trans S5).trans t6) hr ?_ (nw (S14.trans S5) hp) ?_ ⟨by rw [al]; omega, trivial⟩ ?_ (fun _ => rm) ?_ (fun w e => nomatch e) (nn_case fun p hp => by obtain ⟨k, _, rfl⟩ := List.mem_map.mp hp; exact (wle _ (wa_mem wl (Int.emod_nonneg _ (by decide)) (Int.lt_trans (Int.emod_lt_of_pos _ (by decide)) (by decide)))).2)
        · exact .lst (newH_of ((s1.trans S).free hDA) (t6 _ _ (S5 _ _ (t3 _ _ eDA)))) ((hy.mono (newH_tk (Same.tk (t3.trans (S5.trans t6))))).das)
        · show Dtas _ (.ref pl :: zs) ((p0 :: ((List.range many.toNat).map (arF ws ar (ar / 96 % 8))).map fun p => ((some p.2, "arm") : Hol)).map hlD)
          rw [List.map_cons, List.map_map (l := List.range many.toNat)]
          exact .cons (dpl ((S14.trans S5).trans t6)) ((hz.same noD_sub).same (newH_same t6))
        · show (((List.range many.toNat).map (arF ws ar (ar / 96 % 8))).map Prod.fst).Nodup
          rw [List.map_map]
          exact nd
        · show (p0 :: ((List.range many.toNat).map (arF ws ar (ar / 96 % 8))).map fun p => ((some p.2, "arm") : Hol)).length ≤ 8
          rw [List.length_cons, List.length_map, al]
          omega
    rw [decide_eq_false b12]
    have r2 : 0 ≤ ar % 2 := Int.emod_nonneg _ (by decide)
    have r2' : ar % 2 < 2 := Int.emod_lt_of_pos _ (by decide)
    refine iteF ?_
    dsimp only [tNext]
    refine ifc (decide (o = 12)) (fun R h => by show R (false ^^ decide (o = 12)) H1; rw [Bool.false_xor]; exact h) ?_
    by_cases b : o = 12
    · rw [decide_eq_true b]
      have n0 : 0 ≤ ar % 9 := Int.emod_nonneg _ (by decide)
      have n9 : ar % 9 < 9 := Int.emod_lt_of_pos _ (by decide)
      refine iteT ⟨(by show (0 : Int) < 9; decide), _, rfl, by omega, by omega, fun D hD => ?_⟩
      refine lc_pl (ar % 9).toNat (by omega) hD (fun k H S h => go_rng h) (fun H S => Nat.le_refl _) (fun k H v H3 y => y.1) ?_
      intro H4 S4 e4
      refine ⟨z3, fun r hr => fin (κ := .row (ar % 9).toNat) S4 hr (.flat rfl) (newH_of (s1.free hD) e4) ?_ (by show (ar % 9).toNat ≤ 100; omega) List.nodup_nil (fun _ => rm) (by show (List.replicate (ar % 9).toNat p0).length ≤ 8; rw [List.length_replicate]; omega) (fun w e => nomatch e) (nn_row _)⟩
      show Dtas _ _ ((List.replicate (ar % 9).toNat p0).map hlD)
      rw [List.map_replicate]
      exact dtas_rep (dpl S4) _
    rw [decide_eq_false b]
    refine iteF ?_
    dsimp only [tNext]
    refine ifc (decide (o = 13)) (fun R h => by show R (false ^^ decide (o = 13)) H1; rw [Bool.false_xor]; exact h) ?_
    by_cases b : o = 13
    · rw [decide_eq_true b]
      refine iteT ⟨z2, fun g hg => ?_⟩
      have t1 := same_new hg (.lst [.str "get", .str "tag"])
      have eg : (upd H1 g (.lst [.str "get", .str "tag"])) g = some (.lst [.str "get", .str "tag"]) := upd_same
      generalize upd H1 g (.lst [.str "get", .str "tag"]) = H2 at t1 eg ⊢
      have wr : ∀ s : Str, (∃ κ : Kn, κ = .get (wa ws (ar / 2 % 16)) ∧ s = "get" ∨ κ = .tag (wa ws (ar / 2 % 16)) ∧ s = "tag") → CDiv ar 2 ∧ (0 : Int) < 16 ∧ ∃ xs, H2 W = some (.lst xs) ∧ onS (atI xs (ar / 2 % 16)) fun v => 1 ≤ sizeLine ∧ ∀ l2, H2 l2 = none → 3 ≤ sizeLine ∧ ∀ r, (upd H2 l2 (.lst [.ref pl])) r = none → Q (.ref r) (upd (upd H2 l2 (.lst [.ref pl])) r (.lst [.str s, v, .ref l2])) := fun s ⟨κ, hκ⟩ => by
        refine ⟨⟨by decide, by decide⟩, by decide, _, t1 _ _ eW1, onS_of (wat wl (Int.emod_nonneg _ (by decide)) (Int.emod_lt_of_pos _ (by decide))) ⟨z1, fun l2 h2 => ⟨z3, fun r hr => ?_⟩⟩⟩
        have t2 := same_new h2 (.lst [.ref pl])
        rcases hκ with ⟨rfl, rfl⟩ | ⟨rfl, rfl⟩
        · exact fin (κ := .get _) (t1.trans t2) hr (.flat rfl) (nw t1 h2) (.cons (dpl (t1.trans t2)) .nil) trivial List.nodup_nil (fun _ => rm) (by show 1 ≤ 8; decide) (fun w e => nomatch e) (nn_p fun z hz => List.mem_singleton.mp hz)
        · exact fin (κ := .tag _) (t1.trans t2) hr (.flat rfl) (nw t1 h2) (.cons (dpl (t1.trans t2)) .nil) trivial List.nodup_nil (fun _ => rm) (by show 1 ≤ 8; decide) (fun w e => nomatch e) (nn_p fun z hz => List.mem_singleton.mp hz)
      have : ar % 2 = 0 ∨ ar % 2 = 1 := by omega
      rcases this with e | e
      · exact ⟨(by show (0 : Int) < 2; decide), _, eg, by rw [e]; exact onS_of (atI_nat (j := 0) rfl) (wr "get" ⟨_, .inl ⟨rfl, rfl⟩⟩)⟩
      · exact ⟨(by show (0 : Int) < 2; decide), _, eg, by rw [e]; exact onS_of (atI_nat (j := 1) rfl) (wr "tag" ⟨_, .inr ⟨rfl, rfl⟩⟩)⟩
    rw [decide_eq_false b]
    refine iteF ?_
    dsimp only [tNext]
    refine ifc (decide (o = 14)) (fun R h => by show R (false ^^ decide (o = 14)) H1; rw [Bool.false_xor]; exact h) ?_
    by_cases b : o = 14
    · rw [decide_eq_true b]
      refine iteT ⟨z2, fun g hg => ?_⟩
      have t1 := same_new hg (.lst [.str "size", .str "at"])
      have eg : (upd H1 g (.lst [.str "size", .str "at"])) g = some (.lst [.str "size", .str "at"]) := upd_same
      generalize upd H1 g (.lst [.str "size", .str "at"]) = H2 at t1 eg ⊢
      have : ar % 2 = 0 ∨ ar % 2 = 1 := by omega
      obtain ⟨s, hs, hat⟩ : ∃ s : Str, s ∈ plain ∧ atI [V.str "size", V.str "at"] (ar % 2) = some (.str s) := by
        rcases this with e | e
        · exact ⟨"size", by decide +kernel, by rw [e]; exact atI_nat (j := 0) rfl⟩
        · exact ⟨"at", by decide +kernel, by rw [e]; exact atI_nat (j := 1) rfl⟩
      refine ⟨(by show (0 : Int) < 2; decide), _, eg, onS_of hat ⟨(by show (0 : Int) < 2; decide), .inr ⟨by decide, by decide⟩, _, rfl, by omega, by omega, fun D hD => ?_⟩⟩
      refine lc_pl (1 + ar % 2 * 2).toNat (by omega) hD (fun k H S h => go_rng h) (fun H S => Nat.le_refl _) (fun k H v H3 y => y.1) ?_
      intro H4 S4 e4
      refine ⟨z3, fun r hr => fin (κ := .op s (1 + ar % 2 * 2).toNat) (t1.trans S4) hr (.flat rfl) (newH_of ((s1.trans t1).free hD) e4) ?_ ⟨hs, by omega⟩ List.nodup_nil (fun _ => rm) (by show (List.replicate (1 + ar % 2 * 2).toNat p0).length ≤ 8; rw [List.length_replicate]; omega) (fun w e => nomatch e) (nn_op _ _)⟩
      show Dtas _ _ ((List.replicate (1 + ar % 2 * 2).toNat p0).map hlD)
      rw [List.map_replicate]
      exact dtas_rep (dpl (t1.trans S4)) _
    rw [decide_eq_false b]
    refine iteF ⟨(by show 5 ≤ sizeLine; decide), fun g hg => ?_⟩
    have t1 := same_new hg (.lst [.str "call", .str "join", .str "add", .str "sub", .str "less"])
    have eg : (upd H1 g (.lst [.str "call", .str "join", .str "add", .str "sub", .str "less"])) g = some (.lst [.str "call", .str "join", .str "add", .str "sub", .str "less"]) := upd_same
    generalize upd H1 g (.lst [.str "call", .str "join", .str "add", .str "sub", .str "less"]) = H2 at t1 eg ⊢
    have r5 : 0 ≤ ar % 5 := Int.emod_nonneg _ (by decide)
    have r5' : ar % 5 < 5 := Int.emod_lt_of_pos _ (by decide)
    have : ar % 5 = 0 ∨ ar % 5 = 1 ∨ ar % 5 = 2 ∨ ar % 5 = 3 ∨ ar % 5 = 4 := by omega
    obtain ⟨s, hs, hat⟩ : ∃ s : Str, s ∈ plain ∧ atI [V.str "call", V.str "join", V.str "add", V.str "sub", V.str "less"] (ar % 5) = some (.str s) := by
      rcases this with e | e | e | e | e
      · exact ⟨"call", by decide +kernel, by rw [e]; exact atI_nat (j := 0) rfl⟩
      · exact ⟨"join", by decide +kernel, by rw [e]; exact atI_nat (j := 1) rfl⟩
      · exact ⟨"add", by decide +kernel, by rw [e]; exact atI_nat (j := 2) rfl⟩
      · exact ⟨"sub", by decide +kernel, by rw [e]; exact atI_nat (j := 3) rfl⟩
      · exact ⟨"less", by decide +kernel, by rw [e]; exact atI_nat (j := 4) rfl⟩
    refine ⟨(by show (0 : Int) < 5; decide), _, eg, onS_of hat ⟨z2, fun l2 h2 => ⟨z3, fun r hr => ?_⟩⟩⟩
    have t2 := same_new h2 (.lst [.ref pl, .ref pl])
    exact fin (κ := .op s 2) (t1.trans t2) hr (.flat rfl) (nw t1 h2) (.cons (dpl (t1.trans t2)) (.cons (dpl (t1.trans t2)) .nil)) ⟨hs, by decide⟩ List.nodup_nil (fun _ => rm) (by show 2 ≤ 8; decide) (fun w e => nomatch e) (nn_op _ _)
end
end K11.Internal
namespace K11.Internal
open PySem L2.Internal BO.Internal
seal L2.Internal.PE L2.Internal.PA L2.Internal.PS L2.Internal.PSs L2.Internal.PT L2.Internal.PI
theorem set_dbl {ws : List Str} {i j : Nat} {x : Str} (hij : i < j) (hj : j < ws.length) (hx : ws[i]? = some x) : ¬ (ws.set j x).Nodup := fun h => by
  have h1 : (ws.set j x)[j]? = some x := by rw [List.getElem?_set, if_pos rfl, if_pos hj]
  refine nodup_take h h1 (List.mem_iff_getElem?.mpr ⟨i, ?_⟩)
  rw [List.getElem?_take, if_pos hij, List.getElem?_set, if_neg (by omega)]
  exact hx
theorem map_setS (ws : List Str) (k : Nat) (x : Str) : (ws.map V.str).set k (.str x) = (ws.set k x).map V.str := (List.map_set ..).symm
theorem ixN_nt {n j : Nat} (h : j < n) : ixN n (j : Int) = some j := by
  unfold ixN
  rw [if_pos (by omega), if_pos (by omega), Int.toNat_natCast]
section
variable {P : Program} {w : World} {K : PySem.W.Frag} {mg : Str → Option Value} {base : Heap}
noncomputable def sp__law_doubled : Sp := fun vs H Q _ => ∃ (a : Addr) (mix : Int) (ws : List Str), vs = [.ref a, .int mix] ∧ H a = some (.lst (ws.map V.str)) ∧ 2 ≤ ws.length ∧ ws.length ≤ 100 ∧ ∀ (l : Addr) (ms : List Str) (H' : Hp), Same H H' → H l = none → H' l = some (.lst (ms.map V.str)) → ms.length = ws.length → ¬ ms.Nodup → Q (.ref l) H'
theorem ok__law_doubled (T : Txt K mg) : FnOk P w K mg base CX0 1 T.a__law_doubled T.fd__law_doubled ["_law_marks", "_law_mix"] sp__law_doubled := by
  refine T.F__law_doubled.ok sc__law_doubled (fun vs H Q E h => ?_) (fun cdv A outer s H vs Q E hr h => ?_)
  · obtain ⟨a, mix, ws, rfl, _⟩ := h
    rfl
  obtain ⟨a, mix, ws, rfl, e, l2, l100, q⟩ := h
  refine ⟨_, (pss_cons (ps_set (i := 0) sc__law_doubled.nd rfl (Or.inl rfl) (pe_callTy call_list_of rfl T.z_list bt_list (pa_cons (cv 0) pa_nil)))
    (pss_cons (ps_for PassesOwn.never rfl (pi_range1 rfl T.z_range (pa_cons (pe_op oc_add pe_int (pe_op oc_mod (cv 1) pe_int)) pa_nil)) (pg_name (i := 2) sc__law_doubled.nd rfl (Or.inl rfl))
      (pss_cons (ps_set (i := 1) sc__law_doubled.nd rfl (Or.inl rfl) (pe_op oc_fdiv (cv 1) pe_int))
      (pss_cons (ps_set (i := 3) sc__law_doubled.nd rfl (Or.inl rfl) (pe_op oc_mod (cv 1) (pe_op oc_sub (pe_callB call_len_seq rfl T.z_len bt_len (pa_cons (cv 0) pa_nil)) pe_int)))
      (pss_cons (ps_asg (pe_ix xc_list (cv 0) (cv 3) (fun _ _ => rfl)) (pg_sub (cv 0) (pe_op oc_add (pe_op oc_add (cv 3) pe_int) (pe_op oc_mod (pe_op oc_fdiv (cv 1) pe_int) (pe_op oc_sub (pe_op oc_sub (pe_callB call_len_seq rfl T.z_len bt_len (pa_cons (cv 0) pa_nil)) pe_int) (cv 3)))) set_list))
      (pss_one (ps_set (i := 1) sc__law_doubled.nd rfl (Or.inl rfl) (pe_op oc_fdiv (cv 1) pe_int)))))))
    (pss_one (ps_ret (cv 0))))), ?_⟩
  have sl : sizeLine = 16777216 := sizeLine_eq
  refine ⟨a, _, rfl, .inl (SqL.of e), fun l hl => ?_⟩
  have s1 := same_new hl (.lst (ws.map V.str))
  have e1 : (upd H l (.lst (ws.map V.str))) l = some (.lst (ws.map V.str)) := upd_same
  dsimp only [gName]
  generalize upd H l (.lst (ws.map V.str)) = H1 at s1 e1 ⊢
  have d2 : ∀ z : Int, 0 ≤ z % 2 ∧ z % 2 < 2 := fun z => ⟨Int.emod_nonneg _ (by decide), Int.emod_lt_of_pos _ (by decide)⟩
  have dm := d2 mix
  refine ⟨(by show (0 : Int) < 2; decide), _, rfl, by omega, by omega, for_range (lo := 0) (fun i σ H2 => ∃ (ms : List Str) (mx : Int) (o2 o3 : Option V), σ = [some (.ref l), some (.int mx), o2, o3] ∧ Same H H2 ∧ H2 l = some (.lst (ms.map V.str)) ∧ ms.length = ws.length ∧ (0 < i → ¬ ms.Nodup)) ⟨ws, mix, none, none, rfl, s1, e1, rfl, fun z => absurd z (Nat.lt_irrefl _)⟩ ?_ ?_⟩
  · rintro i σ H2 hi ⟨ms, mx, o2, o3, rfl, S, e2, ml, _⟩
    dsimp only [gName]
    refine ⟨⟨by decide, by decide⟩, ?_⟩
    dsimp only [gName]
    have lm : (((ms.map V.str).length : Nat) : Int) = (ws.length : Int) := by rw [List.length_map, ml]
    obtain ⟨la, hla⟩ : ∃ z, z = mx / 2 % ((ws.length : Int) - 1) := ⟨_, rfl⟩
    have la0 : 0 ≤ la := by rw [hla]; exact Int.emod_nonneg _ (by omega)
    have la1 : la < (ws.length : Int) - 1 := by rw [hla]; exact Int.emod_lt_of_pos _ (by omega)
    refine ⟨l, _, rfl, .inl (SqL.of e2), ?_⟩
    rw [lm]
    refine ⟨(by show (0 : Int) < (ws.length : Int) - 1; omega), ?_⟩
    dsimp only [gName]
    rw [← hla]
    obtain ⟨ln, rfl⟩ : ∃ ln : Nat, la = (ln : Int) := ⟨la.toNat, by omega⟩
    obtain ⟨x, hx⟩ : ∃ x, ms[ln]? = some x := ⟨_, List.getElem?_eq_getElem (by omega)⟩
    refine ⟨_, e2, onS_of (v := .str x) (atI_nat (by rw [List.getElem?_map, hx]; rfl)) ?_⟩
    refine ⟨⟨by decide, by decide⟩, l, _, rfl, .inl (SqL.of e2), ?_⟩
    rw [lm]
    obtain ⟨ib, hib⟩ : ∃ z, z = mx / 2 / 8 % ((ws.length : Int) - 1 - (ln : Int)) := ⟨_, rfl⟩
    have ib0 : 0 ≤ ib := by rw [hib]; exact Int.emod_nonneg _ (by omega)
    have ib1 : ib < (ws.length : Int) - 1 - (ln : Int) := by rw [hib]; exact Int.emod_lt_of_pos _ (by omega)
    refine ⟨(by show (0 : Int) < (ws.length : Int) - 1 - (ln : Int); omega), l, _, _, ln + 1 + ib.toNat, rfl, rfl, e2, ?_, ?_⟩
    · rw [← hib, show (ln : Int) + 1 + ib = ((ln + 1 + ib.toNat : Nat) : Int) by omega]
      exact ixN_nt (by rw [List.length_map]; omega)
    dsimp only
    refine ⟨⟨by decide, by decide⟩, ms.set (ln + 1 + ib.toNat) x, _, _, _, rfl, same_upd S hl _, by rw [upd_same, map_setS], by rw [List.length_set]; exact ml, fun _ => set_dbl (by omega) (by omega) hx⟩
  · rintro σ H2 ⟨ms, mx, o2, o3, rfl, S, e2, ml, hn⟩
    exact q l ms H2 S hl e2 ml (hn (by show 0 < ((1 : Int) + mix % 2).toNat; omega))
end
end K11.Internal
namespace K11.Internal
open PySem L2.Internal BO.Internal
seal L2.Internal.PE L2.Internal.PA L2.Internal.PS L2.Internal.PSs L2.Internal.PT L2.Internal.PI
theorem if_join {t : TT} {A B u : TS} {D : Ends} {σ : St} {H : Hp} (Pm : St → Hp → Prop) (b : Bool) (ht : ∀ R : Bool → Hp → Prop, R b H → t σ H R) (hA : b = true → ∀ N : St → Hp → Prop, (∀ σ' H', Pm σ' H' → N σ' H') → A { D with nx := N } σ H)
    (hB : b = false → ∀ N : St → Hp → Prop, (∀ σ' H', Pm σ' H' → N σ' H') → B { D with nx := N } σ H) (k : ∀ σ' H', Pm σ' H' → u D σ' H') : tSeq (tIfS t A B) u D σ H := by
  refine ht _ ?_
  cases b with
  | true => exact iteT (hA rfl _ k)
  | false => exact iteF (hB rfl _ k)
noncomputable abbrev nO : Str := "none"
noncomputable def Spo (kn : List Str) (κ κ' : Kn) (rf : Str) (v : V) : Prop := (κ' = κ ∧ rf = "") ∨ (∃ w, κ' = .name w ∧ w ∉ kn ∧ rf = "NoName" ∧ v = .str w) ∨ ∃ i x, Dbl κ'.ws i x ∧ κ'.ho = κ.ho ∧ rf = "Twice" ∧ v = .str x
theorem kn_dta {N : Hp} {v : V} {κ : Kn} (h : Dta N v κ.d) : ∃ (st hh : Addr) (mv : V) (hs : List V), v = .ref st ∧ N st = some (.lst [.str κ.s, mv, .ref hh]) ∧ Dta N mv κ.mo ∧ N hh = some (.lst hs) ∧ Dtas N hs (κ.ho.map hlD) := by
  unfold Kn.d at h
  cases h with
  | @lst st xs _ he hs =>
    cases hs with
    | cons h1 hs =>
      cases hs with
      | @cons mv _ _ _ h2 hs =>
        cases hs with
        | cons h3 hs =>
          cases hs
          cases h1
          cases h3 with
          | @lst hh hs _ eh hh' => exact ⟨st, hh, mv, hs, rfl, he, h2, eh, hh'⟩
theorem dtas_strs {N : Hp} : ∀ l : List Str, Dtas N (l.map V.str) (l.map sD)
  | [] => .nil
  | x :: l => .cons (.flat rfl) (dtas_strs l)
noncomputable def ncP (kn : List Str) : V → Bool
  | .str w => !decide (w ∈ kn)
  | _ => false
noncomputable def Kn.hd4 (κ : Kn) : Bool := inV (.str κ.s) [.str "num", .str "name", .str "rec", .str "case"]
section
variable {P : Program} {w : World} {K : PySem.W.Frag} {mg : Str → Option Value} {base : Heap}
noncomputable def sp__law_spoilt : Sp := fun vs H Q _ => ∃ (H0 : Hp) (W kl st : Addr) (ws kn : List Str) (cell rate : Int) (own : Str) (κ : Kn), vs = [.ref W, .int cell, .ref kl, .str own, .ref st, .int rate] ∧ Same H0 H ∧ Wd H W ws ∧ H kl = some (.lst (kn.map V.str)) ∧ kn.length ≤ 1000 ∧ (∀ w ∈ kn, w ≠ "none") ∧ Dta (newH H0 H) (.ref st) κ.d ∧ κ.ok ∧ κ.nd ∧
  ∀ (r st' : Addr) (rf : Str) (v : V) (κ' : Kn) (H' : Hp), Same H H' → H r = none → H' r = some (.lst [.ref st', .str rf, v]) → Dta (newH H0 H') (.ref st') κ'.d → κ'.ok → κ'.ho.length ≤ κ.ho.length → Spo kn κ κ' rf v → Q (.ref r) H'
theorem ok__law_spoilt (T : Txt K mg) : FnOk P w K mg base CX0 2 T.a__law_spoilt T.fd__law_spoilt ["_law_words_here", "_law_cell", "_law_known", "_law_own", "_law_stands_here", "_law_rate"] sp__law_spoilt := by
  have G__law_doubled := ok__law_doubled (P := P) (w := w) (base := base) T
  have G__law_double := ok__law_double (P := P) (w := w) (base := base) T
  refine T.F__law_spoilt.ok sc__law_spoilt (fun vs H Q E h => ?_) (fun cdv A outer s H vs Q E hr h => ?_)
  · obtain ⟨H0, W, kl, st, ws, kn, cell, rate, own, κ, rfl, _⟩ := h
    rfl
  obtain ⟨H0, W, kl, st, ws, kn, cell, rate, own, κ, rfl, S0, wd, ekl, kll, knn, dst, kok, knd, q⟩ := h
  refine ⟨_, (pss_cons (ps_set (i := 6) sc__law_spoilt.nd rfl (Or.inr rfl) (pe_op oc_mod (pe_op oc_mul (pe_op oc_add (pe_op oc_mod (cv 1) (pe_op oc_pow pe_int pe_int)) pe_int) pe_int) pe_int))
    (pss_cons (ps_if (PW.pt (pw_or (ptc_cmpR oc_ge (pe_op oc_mod (cv 6) pe_int) (cv 5) (nomark _)) (pw_or1 (ptc_cmpR op_notIn_seq (pe_ix xc_list (cv 4) pe_int (fun _ _ => rfl)) (pe_lst (pa_cons pe_str (pa_cons pe_str (pa_cons pe_str (pa_cons pe_str pa_nil))))) rfl))))
      (pss_one (ps_ret (pe_lst (pa_cons (cv 4) (pa_cons pe_str (pa_cons pe_str pa_nil))))))
      pss_nil)
    (pss_cons (ps_set (i := 6) sc__law_spoilt.nd rfl (Or.inr rfl) (pe_op oc_fdiv (cv 6) pe_int))
    (pss_cons (ps_if (PW.pt (pw_or (ptc_cmpR oc_eq (pe_ix xc_list (cv 4) pe_int (fun _ _ => rfl)) pe_str (nomark _)) (pw_or1 (ptc_cmpR oc_eq (pe_ix xc_list (cv 4) pe_int (fun _ _ => rfl)) pe_str (nomark _)))))
      (pss_cons (ps_set (i := 7) sc__law_spoilt.nd rfl (Or.inl rfl) (pe_op op_cat (pe_lc rfl (blkC (x := "_law_k") ["_law_words_here", "_law_mix"] [("_law_words_here", 0, s.heap.objs.size + 1), ("_law_mix", 6, s.heap.objs.size + 4)] rfl rfl (by decide +kernel) (by decide +kernel) rfl (by decide +kernel) rfl rfl (by intro p hp; simp only [List.mem_cons, List.not_mem_nil, or_false] at hp; rcases hp with rfl | rfl <;> exact ⟨rfl, rfl, rfl, rfl⟩)) (pi_range1 rfl T.z_range (pa_cons pe_int pa_nil)) (fun _ _ _ _ _ => pts_nil) (fun _ _ _ _ _ => (pe_ix xc_list (cv 1) (pe_op oc_mod (pe_op oc_add (pe_op oc_fdiv (cv 2) pe_int) (cv 0)) pe_int) (fun _ _ => rfl)))) (pe_lst (pa_cons pe_str pa_nil))))
      (pss_cons (ps_if (ptc_cmpR oc_eq (pe_op oc_mod (cv 6) pe_int) pe_int (nomark _))
        (pss_one (ps_set (i := 7) sc__law_spoilt.nd rfl (Or.inl rfl) (pe_op op_cat (pe_lst (pa_cons (cv 3) pa_nil)) (cv 7))))
        pss_nil)
      (pss_cons (ps_set (i := 8) sc__law_spoilt.nd rfl (Or.inl rfl) (pe_ix xc_list (pe_lc rfl (blkC (x := "_law_one") ["_law_known"] [("_law_known", 2, s.heap.objs.size + 2)] rfl rfl (by decide +kernel) (by decide +kernel) rfl (by decide +kernel) rfl rfl (by intro p hp; simp only [List.mem_cons, List.not_mem_nil, or_false] at hp; rcases hp with rfl <;> exact ⟨rfl, rfl, rfl, rfl⟩)) (pi_list (cv 7)) (fun _ _ _ _ _ => (pts_one (ptc_cmpR (r := rIn K true) op_notIn_seq (cv 0) (cv 1) rfl))) (fun _ _ _ _ _ => (cv 0))) pe_int (fun _ _ => rfl)))
      (pss_one (ps_ret (pe_lst (pa_cons (pe_lst (pa_cons pe_str (pa_cons (cv 8) (pa_cons (pe_lst pa_nil) pa_nil)))) (pa_cons pe_str (pa_cons (cv 8) pa_nil)))))))))
      pss_nil)
    (pss_cons (ps_if (ptc_cmpR oc_lt (pe_callB call_len_seq rfl T.z_len bt_len (pa_cons (pe_ix xc_list (cv 4) pe_int (fun _ _ => rfl)) pa_nil)) pe_int (nomark _))
      (pss_one (ps_ret (pe_lst (pa_cons (cv 4) (pa_cons pe_str (pa_cons pe_str pa_nil))))))
      pss_nil)
    (pss_cons (ps_if (ptc_cmpR oc_eq (pe_ix xc_list (cv 4) pe_int (fun _ _ => rfl)) pe_str (nomark _))
      (pss_cons (ps_set (i := 9) sc__law_spoilt.nd rfl (Or.inr rfl) (pe_call G__law_doubled (hr.mono (by decide)) rfl T.m__law_doubled T.k__law_doubled T.b__law_doubled .nil pass0 (pa_cons (pe_ix xc_list (cv 4) pe_int (fun _ _ => rfl)) (pa_cons (cv 6) pa_nil))))
      (pss_one (ps_ret (pe_lst (pa_cons (pe_lst (pa_cons pe_str (pa_cons (cv 9) (pa_cons (pe_ix xc_list (cv 4) pe_int (fun _ _ => rfl)) pa_nil)))) (pa_cons pe_str (pa_cons (pe_call G__law_double (hr.mono (by decide)) rfl T.m__law_double T.k__law_double T.b__law_double .nil pass0 (pa_cons (cv 9) pa_nil)) pa_nil)))))))
      pss_nil)
    (pss_cons (ps_set (i := 9) sc__law_spoilt.nd rfl (Or.inr rfl) (pe_call G__law_doubled (hr.mono (by decide)) rfl T.m__law_doubled T.k__law_doubled T.b__law_doubled .nil pass0 (pa_cons (pe_lc rfl (blk0 (x := "_law_arm") rfl (by decide +kernel) (by decide +kernel) rfl rfl) (pi_list (pe_ix xc_list (cv 4) pe_int (fun _ _ => rfl))) (fun _ _ _ _ _ => pts_nil) (fun _ _ _ _ _ => (pe_ix xc_tup (cv 0) pe_int (fun _ _ => rfl)))) (pa_cons (cv 6) pa_nil))))
    (pss_cons (ps_setLC (j := 10) rfl (blkC (x := "_law_k") ["_law_stands_here", "_law_marks"] [("_law_stands_here", 4, s.heap.objs.size + 3), ("_law_marks", 9, s.heap.objs.size + 5)] rfl rfl (by decide +kernel) (by decide +kernel) rfl (by decide +kernel) rfl rfl (by intro p hp; simp only [List.mem_cons, List.not_mem_nil, or_false] at hp; rcases hp with rfl | rfl <;> exact ⟨rfl, rfl, rfl, rfl⟩)) (pi_range1 rfl T.z_range (pa_cons (pe_callB call_len_seq rfl T.z_len bt_len (pa_cons (cv 9) pa_nil)) pa_nil)) (fun _ _ _ _ _ => pts_nil) (fun _ _ _ _ _ => (pe_tup (pa_cons (pe_ix xc_list (cv 2) (cv 0) (fun _ _ => rfl)) (pa_cons (pe_ix xc_tup (pe_ix xc_list (pe_ix xc_list (cv 1) pe_int (fun _ _ => rfl)) (cv 0) (fun _ _ => rfl)) pe_int (fun _ _ => rfl)) pa_nil)))) sc__law_spoilt.nd rfl (Or.inl rfl))
    (pss_one (ps_ret (pe_lst (pa_cons (pe_lst (pa_cons pe_str (pa_cons (cv 10) (pa_cons (pe_ix xc_list (cv 4) pe_int (fun _ _ => rfl)) pa_nil)))) (pa_cons pe_str (pa_cons (pe_call G__law_double (hr.mono (by decide)) rfl T.m__law_double T.k__law_double T.b__law_double .nil pass0 (pa_cons (cv 9) pa_nil)) pa_nil)))))))))))))), ?_⟩
  have sl : sizeLine = 16777216 := sizeLine_eq
  obtain ⟨st0, hh, mv, hs, e, est, dmo, ehh, dhs⟩ := kn_dta dst
  cases e
  have est' := (newH_inv est).2
  have ehh' := (newH_inv ehh).2
  refine ⟨⟨by decide, by decide, by decide⟩, (by show (0 : Int) < 10 ^ (40 : Int).toNat; decide +kernel), .inr ⟨by decide, by decide⟩, (by show (0 : Int) < 2147483629; decide), ?_⟩
  dsimp only [gName]
  generalize (cell % 10 ^ (40 : Int).toNat + 11) * 69621 % 2147483629 = mix
  have same_ : ∀ {H3 : Hp} (r : Addr), Same H H3 → H3 r = none → Q (.ref r) (upd H3 r (.lst [.ref st, .str "", .str ""])) := fun {H3} r S hr => q r st "" (.str "") κ _ (S.trans (same_new hr _)) (S.free hr) upd_same (dst.same (newH_same (S.trans (same_new hr _)))) kok (Nat.le_refl _) (.inl ⟨rfl, rfl⟩)
  refine ⟨(by show (0 : Int) < 32; decide), ?_⟩
  show if decide (rate ≤ mix % 32) = true then _ else _
  by_cases z0 : rate ≤ mix % 32
  · rw [decide_eq_true z0]
    exact iteT (iteT ⟨(by show 3 ≤ sizeLine; decide), fun r hr => same_ r (Same.refl _) hr⟩)
  rw [decide_eq_false z0]
  refine iteF ⟨_, est', onS_of (atI_nat (j := 0) rfl) ⟨(by show 4 ≤ sizeLine; decide), fun lz hlz => ⟨lz, _, rfl, .inl (SqL.of upd_same), rfl, rfl, ?_⟩⟩⟩
  show if (if true = true then !κ.hd4 else _) = true then _ else _
  rw [if_pos rfl]
  have s1 := same_new hlz (.lst [.str "num", .str "name", .str "rec", .str "case"])
  generalize upd H lz (.lst [.str "num", .str "name", .str "rec", .str "case"]) = H1 at s1 ⊢
  cases h4 : κ.hd4 with
  | false => exact iteT ⟨(by show 3 ≤ sizeLine; decide), fun r hr => same_ r s1 hr⟩
  | true =>
  refine iteF ⟨⟨by decide, by decide⟩, ?_⟩
  dsimp only [gName]
  generalize mix / 32 = mix
  have est1 := s1 _ _ est'
  have tst : ∀ (x : Str) (R : Bool → Hp → Prop) {σ : St}, σ[4]? = some (some (.ref st)) → R (decide (κ.s = x)) H1 → cT (tOp (cEq false) (tOp cIxL (cV 4) (tC (.int 0))) (tC (.str x))) σ H1 R := fun x R σ hσ h => by
    show onV σ[4]? _
    rw [hσ]
    refine ⟨_, est1, onS_of (atI_nat (j := 0) rfl) ?_⟩
    dsimp only [tC, cEq, onB]
    rw [Bool.false_xor]
    exact h
  refine ifc (decide (κ.s = "num") || decide (κ.s = "name")) (fun R h => or2 _ _ (fun R h => tst _ R rfl h) (fun R h => tst _ R rfl h) h) ?_
  cases hb : (decide (κ.s = "num") || decide (κ.s = "name")) with
  | true =>
    refine iteT ⟨16, rfl, by decide, by decide, fun D hD => ?_⟩
    refine lc_gen 16 (by omega) (fun zs _ => zs = (List.range zs.length).map fun k : Nat => V.str (wa ws ((mix / 3 + (k : Int)) % 16))) (fun _ _ _ h _ => h) hD rfl (fun k H _ h => go_rng h) (fun H _ => Nat.le_refl _) rfl ?_ ?_
    · intro k H3 v H4 zs Z S hk y hx hxl hZ
      obtain ⟨rfl, rfl⟩ := y
      rw [Int.zero_add]
      refine ⟨⟨by decide, by decide⟩, (by show (0 : Int) < 16; decide), _, (s1.trans S) _ _ wd.1, onS_of (wat wd.2.1 (Int.emod_nonneg _ (by decide)) (Int.emod_lt_of_pos _ (by decide))) (hZ _ _ (Same.refl _) ?_)⟩
      rw [hxl] at hx
      rw [List.length_append, List.length_singleton, hxl, List.range_succ, List.map_append, ← hx]
      rfl
    intro H3 zs S3 hz hzl e3
    obtain ⟨sm, hsm, hsl⟩ : ∃ sm : List Str, zs = sm.map V.str ∧ sm.length = 16 := ⟨(List.range 16).map fun k : Nat => wa ws ((mix / 3 + (k : Int)) % 16), by rw [hz, hzl, List.map_map]; rfl, by rw [List.length_map, List.length_range]⟩
    rw [hsm] at e3
    refine ⟨(by show 1 ≤ sizeLine; decide), fun ln hln => ⟨D, ln, _, _, rfl, rfl, same_new hln _ _ _ e3, upd_same, by rw [List.length_map, hsl]; show 16 + 1 ≤ sizeLine; omega, fun l7 hl7 => ?_⟩⟩
    have S7 := s1.trans (S3.trans ((same_new hln (.lst [.str "none"])).trans (same_new hl7 (.lst (sm.map V.str ++ [.str "none"])))))
    have e7 : (upd (upd H3 ln (.lst [.str "none"])) l7 (.lst (sm.map V.str ++ [.str "none"]))) l7 = some (.lst ((sm ++ [nO]).map V.str)) := by rw [upd_same, List.map_append]; rfl
    dsimp only [gName]
    generalize upd (upd H3 ln (.lst [.str "none"])) l7 (.lst (sm.map V.str ++ [.str "none"])) = H7 at S7 e7 ⊢
    refine if_join (fun σ H' => ∃ (l7 : Addr) (sm : List Str), σ = [some (.ref W), some (.int cell), some (.ref kl), some (.str own), some (.ref st), some (.int rate), some (.int mix), some (.ref l7), none, none, none] ∧ Same H H' ∧ H' l7 = some (.lst (sm.map V.str)) ∧ sm.length ≤ 100 ∧ ("none" : Str) ∈ sm) (decide (mix % 3 = 0)) (fun R h => ⟨(by show (0 : Int) < 3; decide), by show R (false ^^ decide (mix % 3 = 0)) H7; rw [Bool.false_xor]; exact h⟩) (fun _ N k => ?_) (fun _ N k => k _ _ ⟨l7, sm ++ [nO], rfl, S7, e7, by rw [List.length_append, hsl]; decide, List.mem_append_right _ (List.mem_singleton_self _)⟩) ?_
    · refine ⟨(by show 1 ≤ sizeLine; decide), fun lo hlo => ⟨lo, l7, _, _, rfl, rfl, upd_same, same_new hlo _ _ _ e7, by rw [List.length_map, List.length_append, hsl]; show 1 + (16 + 1) ≤ sizeLine; omega, fun l8 hl8 => k _ _ ⟨l8, own :: (sm ++ [nO]), rfl, S7.trans ((same_new hlo _).trans (same_new hl8 _)), upd_same, by rw [List.length_cons, List.length_append, hsl]; decide, List.mem_cons_of_mem _ (List.mem_append_right _ (List.mem_singleton_self _))⟩⟩⟩
    · rintro σ H8 ⟨l8, sm', rfl, S8, e8, hl8, hno⟩
      refine ⟨l8, rfl, ⟨_, SqL.of e8⟩, fun D9 hD9 => ?_⟩
      refine lc_ofB (xs := sm'.map V.str) (ncP kn) id hD9 (by rw [List.length_map]; omega) rfl (fun k H S h => go_lst e8 S h) (fun k H v H' S h y => ⟨y.1, y.2 _ (SqL.of (S _ _ e8))⟩) (fun H S => st_lst e8 S) ?_ ?_ ?_
      · intro k v H9 R hv S hR
        rw [List.getElem?_map] at hv
        obtain ⟨w0, _, rfl⟩ := Option.map_eq_some_iff.mp hv
        refine ⟨kl, _, rfl, .inl (SqL.of ((S8.trans S) _ _ ekl)), rfl, ?_, ?_⟩
        · rw [List.all_map]
          exact List.all_eq_true.mpr fun _ _ => rfl
        · show R (if true = true then !inV (.str w0) (kn.map V.str) else _) H9
          rw [if_pos rfl, inV_str]
          exact hR
      · intro k v H9 R hv hp S hR
        exact hR
      intro H9 S9 e9
      have ef : ((sm'.map V.str).filter (ncP kn)).map id = (sm'.filter fun w => !decide (w ∈ kn)).map V.str := by
        rw [List.map_id, List.filter_map]
        rfl
      rw [ef] at e9
      obtain ⟨w0, rest, hw⟩ : ∃ w0 rest, (sm'.filter fun w => !decide (w ∈ kn)) = w0 :: rest := by
        have : nO ∈ sm'.filter fun w => !decide (w ∈ kn) := List.mem_filter.mpr ⟨hno, by rw [decide_eq_false (fun z => knn _ z rfl)]; rfl⟩
        cases hf : sm'.filter fun w => !decide (w ∈ kn) with
        | nil => rw [hf] at this; cases this
        | cons a b => exact ⟨a, b, rfl⟩
      have hw0 : w0 ∉ kn := by
        have : w0 ∈ sm'.filter fun w => !decide (w ∈ kn) := by rw [hw]; exact List.mem_cons_self
        have := (List.mem_filter.mp this).2
        intro z
        rw [decide_eq_true z] at this
        cases this
      rw [hw] at e9
      have S09 := S8.trans S9
      refine ⟨_, e9, onS_of (v := .str w0) (atI_nat (j := 0) rfl) ?_⟩
      refine ⟨(by show 0 ≤ sizeLine; decide), fun l1 h1 => ⟨(by show 3 ≤ sizeLine; decide), fun st' h2 => ⟨(by show 3 ≤ sizeLine; decide), fun r h3 => ?_⟩⟩⟩
      have t1 := same_new h1 (.lst [])
      have t2 := same_new h2 (.lst [.str "name", .str w0, .ref l1])
      have t3 := same_new h3 (.lst [.ref st', .str "NoName", .str w0])
      have SA := S09.trans (t1.trans (t2.trans t3))
      refine q r st' "NoName" (.str w0) (.name w0) _ SA ((S09.trans (t1.trans t2)).free h3) upd_same ?_ trivial (Nat.zero_le _) (.inr (.inl ⟨w0, rfl, hw0, rfl, rfl⟩))
      exact .lst (newH_of ((S0.trans (S09.trans t1)).free h2) (t3 _ _ upd_same)) (.cons (.flat rfl) (.cons (.flat rfl) (.cons (.lst (newH_of ((S0.trans S09).free h1) ((t2.trans t3) _ _ upd_same)) .nil) .nil)))
  | false =>
    refine iteF ?_
    have kk : (∃ l, κ = .rcd l) ∨ ∃ l, κ = .case l := by
      cases κ with
      | rcd l => exact .inl ⟨l, rfl⟩
      | case l => exact .inr ⟨l, rfl⟩
      | num n => exact absurd hb (show ¬ (decide (("num" : Str) = "num") || decide (("num" : Str) = "name")) = false from by decide +kernel)
      | name n => exact absurd hb (show ¬ (decide (("name" : Str) = "num") || decide (("name" : Str) = "name")) = false from by decide +kernel)
      | fn n => exact absurd h4 (show ¬ inV (.str "fn") [.str "num", .str "name", .str "rec", .str "case"] = true from by decide +kernel)
      | tag n => exact absurd h4 (show ¬ inV (.str "tag") [.str "num", .str "name", .str "rec", .str "case"] = true from by decide +kernel)
      | lt n => exact absurd h4 (show ¬ inV (.str "let") [.str "num", .str "name", .str "rec", .str "case"] = true from by decide +kernel)
      | get n => exact absurd h4 (show ¬ inV (.str "get") [.str "num", .str "name", .str "rec", .str "case"] = true from by decide +kernel)
      | row n => exact absurd h4 (show ¬ inV (.str "row") [.str "num", .str "name", .str "rec", .str "case"] = true from by decide +kernel)
      | op x m =>
        have hx : x ∈ plain := kok.1
        have h4 : inV (.str x) ([("num" : Str), "name", "rec", "case"].map V.str) = true := h4
        rw [inV_str] at h4
        have h4 := of_decide_eq_true h4
        simp only [plain, List.mem_cons, List.not_mem_nil, or_false] at hx h4
        rcases hx with rfl | rfl | rfl | rfl | rfl | rfl | rfl <;> exact absurd h4 (by decide +kernel)
    dsimp only [tNext]
    rcases kk with ⟨l, rfl⟩ | ⟨l, rfl⟩
    · have kok1 : l.length ≤ 100 := kok.1
      obtain ⟨ml, rfl, eml⟩ : ∃ ml, mv = .ref ml ∧ H ml = some (.lst (l.map V.str)) := by
        have dmo : Dta (newH H0 H) mv (.lst (l.map sD)) := dmo
        cases dmo with
        | @lst ml xs _ e hxs => exact ⟨ml, rfl, by rw [← dtas_sD hxs]; exact (newH_inv e).2⟩
      have eml1 := s1 _ _ eml
      refine ⟨_, est1, onS_of (atI_nat (j := 1) rfl) ⟨ml, _, rfl, .inl (SqL.of eml1), ?_⟩⟩
      show if decide ((((l.map V.str).length : Nat) : Int) < 2) = true then _ else _
      rw [List.length_map]
      by_cases z2 : (l.length : Int) < 2
      · rw [decide_eq_true z2]
        exact iteT ⟨(by show 3 ≤ sizeLine; decide), fun r hr => same_ r s1 hr⟩
      rw [decide_eq_false z2]
      refine iteF ?_
      dsimp only [tNext]
      refine ifc true (fun R h => tst "rec" R rfl (by rw [show decide ((Kn.rcd l).s = "rec") = true from (show decide (("rec" : Str) = "rec") = true from by decide +kernel)]; exact h)) (iteT ?_)
      refine ⟨_, est1, onS_of (atI_nat (j := 1) rfl) ⟨ml, mix, l, rfl, eml1, by omega, kok1, fun lm ms H3 S3 hlm elm mml mnd => ?_⟩⟩
      dsimp only [gName]
      have S13 := s1.trans S3
      refine ⟨_, S13 _ _ est', onS_of (atI_nat (j := 2) rfl) ⟨(by show 3 ≤ sizeLine; decide), fun st' h2 => ?_⟩⟩
      have t2 := same_new h2 (.lst [.str "rec", .ref lm, .ref hh])
      have est2 : (upd H3 st' (.lst [.str "rec", .ref lm, .ref hh])) st' = some (.lst [.str "rec", .ref lm, .ref hh]) := upd_same
      generalize upd H3 st' (.lst [.str "rec", .ref lm, .ref hh]) = H4 at t2 est2 ⊢
      refine ⟨lm, ms, rfl, t2 _ _ elm, by omega, fun nd => absurd nd mnd, fun i x hd H5 S5 => ⟨(by show 3 ≤ sizeLine; decide), fun r h3 => ?_⟩⟩
      have t3 := same_new h3 (.lst [.ref st', .str "Twice", .str x])
      have S15 := S13.trans (t2.trans S5)
      have hho : (Kn.rcd ms).ho = (Kn.rcd l).ho := by
        show (ms.map fun _ => p0) = l.map fun _ => p0
        rw [List.map_const', List.map_const', mml]
      refine q r st' "Twice" (.str x) (.rcd ms) _ (S15.trans t3) (S15.free h3) upd_same ?_ ⟨by omega, trivial⟩ (by rw [hho]; exact Nat.le_refl _) (.inr (.inr ⟨i, x, hd, hho, rfl, rfl⟩))
      refine .lst (newH_of ((S0.trans S13).free h2) ((S5.trans t3) _ _ est2)) (.cons (.flat rfl) (.cons (.lst (newH_of ((S0.trans s1).free hlm) ((t2.trans (S5.trans t3)) _ _ elm)) (dtas_strs ms)) (.cons (.lst (newH_same (S15.trans t3) _ _ ehh) ?_) .nil)))
      have := dhs.same (newH_same (S15.trans t3))
      rw [← hho] at this
      exact this
    · have kok1 : l.length ≤ 100 := kok.1
      obtain ⟨ml, xs, rfl, eml, dxs⟩ : ∃ ml xs, mv = .ref ml ∧ newH H0 H ml = some (.lst xs) ∧ Dtas (newH H0 H) xs (l.map agD) := by
        have dmo : Dta (newH H0 H) mv (.lst (l.map agD)) := dmo
        cases dmo with
        | @lst ml xs _ e hxs => exact ⟨ml, xs, rfl, e, hxs⟩
      have eml' := (newH_inv eml).2
      have eml1 := s1 _ _ eml'
      have xl := dtas_len dxs
      rw [List.length_map] at xl
      have tup : ∀ (j : Nat) (p : Str × Str), l[j]? = some p → ∃ tp, xs[j]? = some (.ref tp) ∧ H tp = some (.tup [.str p.1, .str p.2]) := fun j p hp => by
        have hj := (List.getElem?_eq_some_iff.mp hp).1
        obtain ⟨d, hd, dd⟩ := dtas_get dxs (List.getElem?_eq_getElem (show j < xs.length by omega))
        rw [List.getElem?_map, hp] at hd
        cases hd
        have h0 : xs[j]? = some xs[j] := List.getElem?_eq_getElem (by omega)
        generalize xs[j] = v at h0 dd
        unfold agD at dd
        cases dd with
        | @tup tp ys _ et hs =>
          cases hs with
          | cons a hs =>
            cases hs with
            | cons b hs =>
              cases hs; cases a; cases b
              exact ⟨tp, h0, (newH_inv et).2⟩
      refine ⟨_, est1, onS_of (atI_nat (j := 1) rfl) ⟨ml, _, rfl, .inl (SqL.of eml1), ?_⟩⟩
      show if decide (((xs.length : Nat) : Int) < 2) = true then _ else _
      rw [xl]
      by_cases z2 : (l.length : Int) < 2
      · rw [decide_eq_true z2]
        exact iteT ⟨(by show 3 ≤ sizeLine; decide), fun r hr => same_ r s1 hr⟩
      rw [decide_eq_false z2]
      refine iteF ?_
      dsimp only [tNext]
      refine ifc false (fun R h => tst "rec" R rfl (by rw [show decide ((Kn.case l).s = "rec") = false from (show decide (("case" : Str) = "rec") = false from by decide +kernel)]; exact h)) (iteF ?_)
      dsimp only [tNext]
      refine ⟨_, est1, onS_of (atI_nat (j := 1) rfl) ⟨ml, rfl, ⟨_, SqL.of eml1⟩, fun D hD => ?_⟩⟩
      refine lc_gen l.length (by omega) (fun zs _ => zs = (l.take zs.length).map fun p => V.str p.1) (fun _ _ _ h _ => h) hD rfl (fun k H S h => go_lst eml1 S (by rw [xl]; exact h)) (fun H S => by have := st_lst (K := K) eml1 S; rw [xl] at this; exact this) rfl ?_ ?_
      · intro k H3 v H4 zs Z S hk y hx hxl hZ
        obtain ⟨rfl, hy⟩ := y
        obtain ⟨tp, h1, h2⟩ := tup k l[k] (List.getElem?_eq_getElem hk)
        have hv := hy _ (SqL.of (S _ _ eml1))
        rw [h1] at hv
        cases hv
        refine ⟨_, (s1.trans S) _ _ h2, onS_of (atI_nat (j := 0) rfl) (hZ _ _ (Same.refl _) ?_)⟩
        rw [hxl] at hx
        rw [List.length_append, List.length_singleton, hxl, List.take_add_one, List.getElem?_eq_getElem hk, List.map_append, ← hx]
        rfl
      intro H3 zs S3 hz hzl e3
      rw [hzl, List.take_length] at hz
      have e3 : H3 D = some (.lst ((l.map Prod.fst).map V.str)) := by rw [e3, hz, List.map_map]; rfl
      refine ⟨D, mix, l.map Prod.fst, rfl, e3, by rw [List.length_map]; omega, by rw [List.length_map]; exact kok1, fun lm ms H4 S4 hlm elm mml mnd => ?_⟩
      rw [List.length_map] at mml
      dsimp only [gName]
      have S14 := s1.trans (S3.trans S4)
      have fl : H D = none := s1.free hD
      obtain ⟨arms, harms⟩ : ∃ arms, arms = ms.zip (l.map Prod.snd) := ⟨_, rfl⟩
      have al : arms.length = ms.length := by rw [harms, List.length_zip, List.length_map]; omega
      refine ⟨lm, _, rfl, .inl (SqL.of elm), _, rfl, by rw [List.length_map]; omega, by rw [List.length_map]; omega, fun DA hDA => ?_⟩
      refine lc_gen ms.length (by omega) (fun zs Hc => Ims (newH H0 Hc) zs ((arms.take zs.length).map agD)) (fun zs Ha Hb h tk => h.mono (newH_tk tk)) hDA rfl (fun k H _ h => ?_) (fun H _ => ?_) .nil ?_ ?_
      · show k < (((ms.map V.str).length : Nat) : Int).toNat
        rw [List.length_map]
        exact h
      · show (((ms.map V.str).length : Nat) : Int).toNat ≤ ms.length
        rw [List.length_map]
        exact Nat.le_refl _
      · intro k H5 v H6 zs Z S hk y hx hxl hZ
        obtain ⟨rfl, rfl⟩ := y
        rw [Int.zero_add]
        obtain ⟨x, hx1⟩ : ∃ x, ms[k]? = some x := ⟨_, List.getElem?_eq_getElem hk⟩
        obtain ⟨pp, hpp⟩ : ∃ pp, l[k]? = some pp := ⟨_, List.getElem?_eq_getElem (by omega)⟩
        obtain ⟨tp, h1, h2⟩ := tup k pp hpp
        have S5 := S14.trans S
        refine ⟨_, S _ _ elm, onS_of (v := .str x) (atI_nat (by rw [List.getElem?_map, hx1]; rfl)) ⟨_, S5 _ _ est', onS_of (atI_nat (j := 1) rfl) ⟨_, S5 _ _ eml', onS_of (atI_nat h1) ⟨_, S5 _ _ h2, onS_of (atI_nat (j := 1) rfl) ⟨(by show 2 ≤ sizeLine; decide), fun tq htq => hZ _ _ (same_new htq _) ?_⟩⟩⟩⟩⟩
        have ha : arms[k]? = some (x, pp.2) := by
          rw [harms, List.getElem?_zip_eq_some]
          exact ⟨hx1, by rw [List.getElem?_map, hpp]; rfl⟩
        rw [hxl] at hx
        rw [List.length_append, List.length_singleton, hxl, List.take_add_one, ha, List.map_append]
        exact (hx.mono (newH_tk (Same.tk (same_new htq _)))).app (.cons (.tup (newH_of ((S0.trans S5).free htq) upd_same) (.cons (.flat rfl) (.cons (.flat rfl) .nil))) .nil)
      intro H5 zs S5 hz hzl e5
      rw [hzl, ← al, List.take_length] at hz
      dsimp only [gName]
      have S15 := S14.trans S5
      refine ⟨_, S15 _ _ est', onS_of (atI_nat (j := 2) rfl) ⟨(by show 3 ≤ sizeLine; decide), fun st' h2 => ?_⟩⟩
      have t2 := same_new h2 (.lst [.str "case", .ref DA, .ref hh])
      have est2 : (upd H5 st' (.lst [.str "case", .ref DA, .ref hh])) st' = some (.lst [.str "case", .ref DA, .ref hh]) := upd_same
      generalize upd H5 st' (.lst [.str "case", .ref DA, .ref hh]) = H6 at t2 est2 ⊢
      refine ⟨lm, ms, rfl, (S5.trans t2) _ _ elm, by omega, fun nd => absurd nd mnd, fun i x hd H7 S7 => ⟨(by show 3 ≤ sizeLine; decide), fun r h3 => ?_⟩⟩
      have t3 := same_new h3 (.lst [.ref st', .str "Twice", .str x])
      have S17 := S15.trans (t2.trans S7)
      have hws : (Kn.case arms).ws = ms := by
        show arms.map Prod.fst = ms
        rw [harms]
        exact map_fst_zip' _ _ (by rw [List.length_map]; omega)
      have hho : (Kn.case arms).ho = (Kn.case l).ho := by
        show p0 :: (arms.map fun p => ((some p.2, "arm") : Hol)) = p0 :: l.map fun p => ((some p.2, "arm") : Hol)
        have : arms.map Prod.snd = l.map Prod.snd := by
          rw [harms]
          exact map_snd_zip' _ _ (by rw [List.length_map]; omega)
        congr 1
        have e1 : (arms.map fun p => ((some p.2, "arm") : Hol)) = (arms.map Prod.snd).map fun z => ((some z, "arm") : Hol) := by rw [List.map_map]; rfl
        have e2 : (l.map fun p => ((some p.2, "arm") : Hol)) = (l.map Prod.snd).map fun z => ((some z, "arm") : Hol) := by rw [List.map_map]; rfl
        rw [e1, e2, this]
      refine q r st' "Twice" (.str x) (.case arms) _ (S17.trans t3) (S17.free h3) upd_same ?_ ⟨by omega, trivial⟩ (by rw [hho]; exact Nat.le_refl _) (.inr (.inr ⟨i, x, by rw [hws]; exact hd, hho, rfl, rfl⟩))
      refine .lst (newH_of ((S0.trans S15).free h2) ((S7.trans t3) _ _ est2)) (.cons (.flat rfl) (.cons (.lst (newH_of ((S0.trans S14).free hDA) ((t2.trans (S7.trans t3)) _ _ e5)) ?_) (.cons (.lst (newH_same (S17.trans t3) _ _ ehh) ?_) .nil)))
      · exact (hz.mono (newH_tk (Same.tk (t2.trans (S7.trans t3))))).das
      · have := dhs.same (newH_same (S17.trans t3))
        rw [← hho] at this
        exact this
end
end K11.Internal
namespace K11.Internal
open PySem L2.Internal BO.Internal
noncomputable def look (l : List (Str × Hm)) : Str → Option Hm := l.foldl (fun g p => wid g p.1 p.2) (fun _ => none)
theorem look_snoc (l : List (Str × Hm)) (p : Str × Hm) : look (l ++ [p]) = wid (look l) p.1 p.2 := by
  unfold look
  rw [List.foldl_append]
  rfl
theorem look_fold : ∀ (l : List (Str × Hm)) (g : Str → Option Hm) (w : Str), (w ∈ l.map Prod.fst ∨ ∃ h, g w = some h) → ∃ h, (l.foldl (fun g p => wid g p.1 p.2) g) w = some h
  | [], g, w, h => by
    rcases h with h | h
    · cases h
    · exact h
  | p :: l, g, w, h => by
    refine look_fold l (wid g p.1 p.2) w ?_
    by_cases e : w = p.1
    · exact .inr ⟨p.2, by unfold wid; rw [if_pos e]⟩
    · rcases h with h | ⟨x, h⟩
      · rcases List.mem_cons.mp (show w ∈ p.1 :: l.map Prod.fst from h) with h | h
        · exact absurd h e
        · exact .inl h
      · exact .inr ⟨x, by unfold wid; rw [if_neg e]; exact h⟩
theorem look_mem (l : List (Str × Hm)) (w : Str) (h : w ∈ l.map Prod.fst) : ∃ h, look l w = some h := look_fold l _ w (.inl h)
noncomputable def exL (f q : Int) (h : Hol) : List (Str × Hm) := match hoX f q h with
  | none => []
  | some p => [p]
theorem look_ex (l : List (Str × Hm)) (f q : Int) (h : Hol) : look (l ++ exL f q h) = exG (look l) (hoX f q h) := by
  unfold exL
  cases hoX f q h with
  | none => rw [List.append_nil]; rfl
  | some p => rw [look_snoc]; rfl
noncomputable def defs (names : List Str) (i : Nat) : List (Str × Hm) := (List.range i).map fun d => (names.getD d "", (("def" : Str), (d : Int)))
theorem look_defs (names : List Str) : ∀ i, i ≤ names.length → look (defs names i) = G0 names i
  | 0, _ => rfl
  | i + 1, h => by
    unfold defs
    rw [List.range_succ, List.map_append]
    show look (defs names i ++ [(names.getD i "", (("def" : Str), (i : Int)))]) = _
    rw [look_snoc, look_defs names i (by omega), G0, List.getD_eq_getElem?_getD, List.getElem?_eq_getElem (show i < names.length by omega)]
    rfl
theorem defs_app (names more : List Str) (i : Nat) (h : i ≤ names.length) : defs (names ++ more) i = defs names i := by
  unfold defs
  refine List.map_congr_left fun d hd => ?_
  have := List.mem_range.mp hd
  rw [List.getD_eq_getElem?_getD, List.getD_eq_getElem?_getD, List.getElem?_append_left (by omega)]
structure Nd where
  κ : Kn
  kids : List Nat
  out : List (Str × Hm)
  ft : Option (Str × Str)
noncomputable def FtOk (nd : Nd) : Prop := match nd.ft with
  | none => nd.κ.nd ∧ ∀ w, nd.κ = .name w → w ∈ nd.out.map Prod.fst
  | some (r, x) => (r = "NoName" ∧ nd.κ = .name x ∧ x ∉ nd.out.map Prod.fst) ∨ (r = "Twice" ∧ ∃ i, Dbl nd.κ.ws i x)
structure Td where
  held : List (Str × Hm)
  ho : Hol
  par : Int
  dep : Int
  ix : Nat
noncomputable def Nd.isF (nd : Nd) : Bool := match nd.κ with
  | .fn _ => true
  | _ => false
noncomputable def newT (κ : Kn) (out : List (Str × Hm)) (n : Nat) (dep : Int) : List Td := κ.ho.zipIdx.map fun p => ⟨out, p.1, (n : Int), dep, p.2⟩
theorem newT_len (κ : Kn) (out : List (Str × Hm)) (n : Nat) (dep : Int) : (newT κ out n dep).length = κ.ho.length := by unfold newT; rw [List.length_map, List.length_zipIdx]
theorem newT_ix (κ : Kn) (out : List (Str × Hm)) (n : Nat) (dep : Int) : (newT κ out n dep).map (·.ix) = List.range' 0 κ.ho.length := by
  unfold newT
  rw [List.map_map]
  show κ.ho.zipIdx.map Prod.snd = _
  exact List.zipIdx_map_snd ..
theorem newT_mem {κ : Kn} {out : List (Str × Hm)} {n : Nat} {dep : Int} {t : Td} (h : t ∈ newT κ out n dep) : t.par = (n : Int) ∧ t.held = out ∧ κ.ho[t.ix]? = some t.ho := by
  obtain ⟨p, hp, rfl⟩ := List.mem_map.mp h
  obtain ⟨a, b⟩ := p
  have := List.mem_zipIdx_iff_getElem?.mp hp
  exact ⟨rfl, rfl, this⟩
noncomputable def onP (p : Nat) (t : Td) : Bool := decide (t.par = (p : Int))
structure MI0 (names : List Str) (roots : List Nat) (L : List Nd) (T : List Td) : Prop where
  nl : names.length ≤ 12
  rl : roots.length = names.length
  sz : L.length + T.length ≤ 150
  ok : ∀ nd ∈ L, nd.κ.okk
  seg : ∀ (p : Nat) (nd : Nd), L[p]? = some nd → (T.filter (onP p)).map (·.ix) = List.range' nd.kids.length (nd.κ.ho.length - nd.kids.length) ∧ nd.kids.length ≤ nd.κ.ho.length
  tds : ∀ t ∈ T, ∃ (p : Nat) (nd : Nd), t.par = (p : Int) ∧ L[p]? = some nd ∧ nd.κ.ho[t.ix]? = some t.ho ∧ t.held = nd.out
  fst : ∀ (p : Nat) (nd : Nd), L[p]? = some nd → (nd.kids ≠ [] → nd.kids[0]? = some (p + 1)) ∧ (nd.kids = [] → nd.κ.ho ≠ [] → p + 1 = L.length ∧ ∃ t T', T = t :: T' ∧ t.par = (p : Int))
  kid : ∀ (p : Nat) (nd : Nd) (j c : Nat), L[p]? = some nd → nd.kids[j]? = some c → p < c ∧ ∃ (h : Hol) (ndc : Nd), nd.κ.ho[j]? = some h ∧ L[c]? = some ndc ∧ ndc.out = nd.out ++ exL ((p + 1 : Nat) : Int) (c : Int) h
  reach : ∀ k, k < L.length → (∃ i : Nat, roots[i]? = some k) ∨ ∃ (p : Nat) (nd : Nd), p < k ∧ L[p]? = some nd ∧ k ∈ nd.kids
  root : ∀ (i r : Nat), roots[i]? = some r → ∃ nd : Nd, L[r]? = some nd ∧ nd.out = defs names i ++ (if nd.isF = true then [(names.getD i "", (("def" : Str), (i : Int)))] else [])
  nm : ∀ (k : Nat) (nd : Nd), L[k]? = some nd → FtOk nd
theorem MI0.nil : MI0 [] [] [] [] where
  nl := by decide
  rl := rfl
  sz := by decide
  ok := fun nd h => by cases h
  seg := fun p nd h => by cases h
  tds := fun t h => by cases h
  fst := fun p nd h => by cases h
  kid := fun p nd j c h => by cases h
  reach := fun k h => absurd h (Nat.not_lt_zero _)
  root := fun i r h => by cases h
  nm := fun k nd h => by cases h
theorem fil_new {κ : Kn} {out : List (Str × Hm)} {n : Nat} {dep : Int} (p : Nat) : (newT κ out n dep).filter (onP p) = if p = n then newT κ out n dep else [] := by
  by_cases h : p = n
  · rw [if_pos h]
    refine List.filter_eq_self.mpr fun t ht => ?_
    exact decide_eq_true (by rw [(newT_mem ht).1, h])
  · rw [if_neg h]
    refine List.filter_eq_nil_iff.mpr fun t ht => ?_
    have : ¬ t.par = (p : Int) := by rw [(newT_mem ht).1]; omega
    simp [onP, this]
theorem MI0.rootStep {names : List Str} {roots : List Nat} {L : List Nd} {κ : Kn} {x : Str} {dep : Int} (m : MI0 names roots L []) (hx : names.length < 12) (hL : L.length ≤ 140) (ok : κ.okk) (h8 : κ.ho.length ≤ 8) {ft : Option (Str × Str)} {out : List (Str × Hm)}
    (ho : out = defs names names.length ++ (if (Nd.mk κ [] [] none).isF = true then [(x, (("def" : Str), (names.length : Int)))] else [])) (hn : FtOk ⟨κ, [], out, ft⟩) : MI0 (names ++ [x]) (roots ++ [L.length]) (L ++ [⟨κ, [], out, ft⟩]) (newT κ out L.length dep) where
  nl := by rw [List.length_append, List.length_singleton]; omega
  rl := by rw [List.length_append, List.length_append, m.rl]; rfl
  sz := by rw [List.length_append, List.length_singleton, newT_len]; omega
  ok := fun nd h => by
    rcases List.mem_append.mp h with h | h
    · exact m.ok nd h
    · rw [List.mem_singleton] at h; subst h; exact ok
  seg := fun p nd h => by
    rw [fil_new]
    by_cases hp : p < L.length
    · rw [List.getElem?_append_left hp] at h
      rw [if_neg (by omega)]
      exact m.seg p nd h
    · have e : p = L.length := by
        have := (List.getElem?_eq_some_iff.mp h).1
        rw [List.length_append, List.length_singleton] at this
        omega
      subst e
      rw [List.getElem?_append_right (Nat.le_refl _), Nat.sub_self] at h
      cases h
      rw [if_pos rfl, newT_ix]
      exact ⟨rfl, Nat.zero_le _⟩
  tds := fun t ht => by
    obtain ⟨h1, h2, h3⟩ := newT_mem ht
    exact ⟨L.length, _, h1, by rw [List.getElem?_append_right (Nat.le_refl _), Nat.sub_self]; rfl, h3, h2⟩
  fst := fun p nd h => by
    by_cases hp : p < L.length
    · rw [List.getElem?_append_left hp] at h
      refine ⟨(m.fst p nd h).1, fun h1 h2 => ?_⟩
      obtain ⟨_, t, T', e, _⟩ := (m.fst p nd h).2 h1 h2
      cases e
    · have e : p = L.length := by
        have := (List.getElem?_eq_some_iff.mp h).1
        rw [List.length_append, List.length_singleton] at this
        omega
      subst e
      rw [List.getElem?_append_right (Nat.le_refl _), Nat.sub_self] at h
      cases h
      refine ⟨fun z => absurd rfl z, fun _ h2 => ⟨by rw [List.length_append]; rfl, ?_⟩⟩
      have hl := newT_len κ out L.length dep
      cases hT : newT κ out L.length dep with
      | nil => rw [hT] at hl; exact absurd (List.eq_nil_of_length_eq_zero hl.symm) h2
      | cons t T' => exact ⟨t, T', rfl, (newT_mem (by rw [hT]; exact List.mem_cons_self)).1⟩
  kid := fun p nd j c h hj => by
    by_cases hp : p < L.length
    · rw [List.getElem?_append_left hp] at h
      obtain ⟨h1, h', ndc, h2, h3, h4⟩ := m.kid p nd j c h hj
      exact ⟨h1, h', ndc, h2, by rw [List.getElem?_append_left (List.getElem?_eq_some_iff.mp h3).1]; exact h3, h4⟩
    · have e : p = L.length := by
        have := (List.getElem?_eq_some_iff.mp h).1
        rw [List.length_append, List.length_singleton] at this
        omega
      subst e
      rw [List.getElem?_append_right (Nat.le_refl _), Nat.sub_self] at h
      cases h
      cases hj
  reach := fun k hk => by
    rw [List.length_append, List.length_singleton] at hk
    by_cases e : k < L.length
    · rcases m.reach k e with ⟨i, hi⟩ | ⟨p, nd, h1, h2, h3⟩
      · exact .inl ⟨i, by rw [List.getElem?_append_left (List.getElem?_eq_some_iff.mp hi).1]; exact hi⟩
      · exact .inr ⟨p, nd, h1, by rw [List.getElem?_append_left (by omega)]; exact h2, h3⟩
    · have e : k = L.length := by omega
      subst e
      exact .inl ⟨roots.length, by rw [List.getElem?_append_right (Nat.le_refl _), Nat.sub_self]; rfl⟩
  root := fun i r h => by
    by_cases hi : i < roots.length
    · rw [List.getElem?_append_left hi] at h
      obtain ⟨nd, h1, h2⟩ := m.root i r h
      have rl := m.rl
      refine ⟨nd, by rw [List.getElem?_append_left (List.getElem?_eq_some_iff.mp h1).1]; exact h1, ?_⟩
      rw [h2, defs_app _ _ _ (by omega), List.getD_eq_getElem?_getD, List.getD_eq_getElem?_getD, List.getElem?_append_left (by omega)]
    · have e : i = roots.length := by
        have := (List.getElem?_eq_some_iff.mp h).1
        rw [List.length_append, List.length_singleton] at this
        omega
      subst e
      rw [List.getElem?_append_right (Nat.le_refl _), Nat.sub_self] at h
      cases h
      refine ⟨_, by rw [List.getElem?_append_right (Nat.le_refl _), Nat.sub_self]; rfl, ?_⟩
      show out = _
      rw [ho, m.rl, defs_app _ _ _ (Nat.le_refl _), List.getD_eq_getElem?_getD, List.getElem?_append_right (Nat.le_refl _), Nat.sub_self]
      rfl
  nm := fun k nd h => by
    by_cases hp : k < L.length
    · rw [List.getElem?_append_left hp] at h
      exact m.nm k nd h
    · have e' : k = L.length := by
        have := (List.getElem?_eq_some_iff.mp h).1
        rw [List.length_append, List.length_singleton] at this
        omega
      subst e'
      rw [List.getElem?_append_right (Nat.le_refl _), Nat.sub_self] at h
      cases h
      exact hn
noncomputable def addK (L : List Nd) (p n : Nat) : List Nd := L.modify p fun nd => ⟨nd.κ, nd.kids ++ [n], nd.out, nd.ft⟩
theorem addK_len (L : List Nd) (p n : Nat) : (addK L p n).length = L.length := List.length_modify ..
theorem addK_get {L : List Nd} {p n k : Nat} {nd : Nd} (h : (addK L p n)[k]? = some nd) : ∃ nd0, L[k]? = some nd0 ∧ nd = if k = p then ⟨nd0.κ, nd0.kids ++ [n], nd0.out, nd0.ft⟩ else nd0 := by
  unfold addK at h
  rw [List.getElem?_modify] at h
  obtain ⟨nd0, h1, h2⟩ := Option.map_eq_some_iff.mp h
  refine ⟨nd0, h1, ?_⟩
  rw [← h2]
  by_cases e : k = p
  · rw [if_pos e, if_pos e.symm]
  · rw [if_neg e, if_neg (fun z => e z.symm)]
theorem addK_at {L : List Nd} {p n k : Nat} {nd0 : Nd} (h : L[k]? = some nd0) : (addK L p n)[k]? = some (if k = p then ⟨nd0.κ, nd0.kids ++ [n], nd0.out, nd0.ft⟩ else nd0) := by
  unfold addK
  rw [List.getElem?_modify, h]
  show some (if p = k then _ else _) = _
  by_cases e : k = p
  · rw [if_pos e, if_pos e.symm]
  · rw [if_neg e, if_neg (fun z => e z.symm)]
theorem addK_out {L : List Nd} {p n k : Nat} {nd0 : Nd} (h : L[k]? = some nd0) : ∃ nd, (addK L p n)[k]? = some nd ∧ nd.out = nd0.out ∧ nd.κ = nd0.κ ∧ (∀ j ∈ nd0.kids, j ∈ nd.kids) := by
  refine ⟨_, addK_at h, ?_⟩
  split
  · exact ⟨rfl, rfl, fun j hj => List.mem_append_left _ hj⟩
  · exact ⟨rfl, rfl, fun j hj => hj⟩
theorem MI0.kidStep {names : List Str} {roots : List Nat} {L : List Nd} {T : List Td} {t : Td} {κ : Kn} {dep : Int} {p : Nat} {nd : Nd} (m : MI0 names roots L (t :: T)) (tp : t.par = (p : Int)) (hp : L[p]? = some nd) (ok : κ.okk) (h8 : κ.ho.length ≤ 8) (hr : κ.ho ≠ [] → L.length + T.length ≤ 141) {ft : Option (Str × Str)} {out : List (Str × Hm)}
    (ho : out = t.held ++ exL ((p + 1 : Nat) : Int) (L.length : Int) t.ho) (hn : FtOk ⟨κ, [], out, ft⟩) : MI0 names roots (addK L p L.length ++ [⟨κ, [], out, ft⟩]) (newT κ out L.length dep ++ T) := by
  have plt := (List.getElem?_eq_some_iff.mp hp).1
  obtain ⟨p', nd', tp', hp', htix, hth⟩ := m.tds t List.mem_cons_self
  have e : p' = p := by omega
  subst e
  rw [hp] at hp'
  cases hp'
  have hseg := m.seg p' nd hp
  rw [List.filter_cons_of_pos (show onP p' t = true from decide_eq_true tp), List.map_cons] at hseg
  have hix : t.ix = nd.kids.length ∧ nd.kids.length < nd.κ.ho.length ∧ (T.filter (onP p')).map (·.ix) = List.range' (nd.kids.length + 1) (nd.κ.ho.length - (nd.kids.length + 1)) := by
    have h1 := hseg.1
    cases hd : nd.κ.ho.length - nd.kids.length with
    | zero => rw [hd] at h1; cases h1
    | succ z =>
      rw [hd, List.range'_succ] at h1
      injection h1 with h2 h3
      refine ⟨h2, by omega, ?_⟩
      rw [h3]
      congr 1
      omega
  obtain ⟨ix1, ix2, ix3⟩ := hix
  have last : ∀ {q : Nat} {x : Nd}, (addK L p' L.length ++ [(⟨κ, [], out, ft⟩ : Nd)])[q]? = some x → (q < L.length ∧ (addK L p' L.length)[q]? = some x) ∨ (q = L.length ∧ x = ⟨κ, [], out, ft⟩) := fun {q x} h => by
    by_cases hq : q < L.length
    · rw [List.getElem?_append_left (by rw [addK_len]; exact hq)] at h
      exact .inl ⟨hq, h⟩
    · have := (List.getElem?_eq_some_iff.mp h).1
      rw [List.length_append, List.length_singleton, addK_len] at this
      have e : q = L.length := by omega
      rw [e, List.getElem?_append_right (by rw [addK_len]; exact Nat.le_refl _), addK_len, Nat.sub_self] at h
      exact .inr ⟨e, (Option.some.inj h).symm⟩
  have here : (addK L p' L.length ++ [(⟨κ, [], out, ft⟩ : Nd)])[L.length]? = some ⟨κ, [], out, ft⟩ := by rw [List.getElem?_append_right (by rw [addK_len]; exact Nat.le_refl _), addK_len, Nat.sub_self]; rfl
  have left : ∀ {q : Nat} {x : Nd}, (addK L p' L.length)[q]? = some x → (addK L p' L.length ++ [(⟨κ, [], out, ft⟩ : Nd)])[q]? = some x := fun {q x} h => by rw [List.getElem?_append_left (List.getElem?_eq_some_iff.mp h).1]; exact h
  have tl : ∀ u ∈ T, ∃ (q : Nat) (x : Nd), u.par = (q : Int) ∧ q < L.length ∧ L[q]? = some x ∧ x.κ.ho[u.ix]? = some u.ho ∧ u.held = x.out := fun u hu => by
    obtain ⟨q, x, h1, h2, h3, h4⟩ := m.tds u (List.mem_cons_of_mem _ hu)
    exact ⟨q, x, h1, (List.getElem?_eq_some_iff.mp h2).1, h2, h3, h4⟩
  have msz := m.sz
  rw [List.length_cons] at msz
  refine { nl := m.nl, rl := m.rl, sz := ?_, ok := ?_, seg := ?_, tds := ?_, fst := ?_, kid := ?_, reach := ?_, root := ?_, nm := ?_ }
  · rw [List.length_append, List.length_append, addK_len, newT_len, List.length_singleton]
    by_cases z : κ.ho = []
    · rw [z]; show L.length + 1 + (0 + T.length) ≤ 150; omega
    · have := hr z; omega
  · intro x hx
    rcases List.mem_append.mp hx with hx | hx
    · obtain ⟨q, hq⟩ := List.mem_iff_getElem?.mp hx
      obtain ⟨x0, h1, h2⟩ := addK_get hq
      have := m.ok x0 (List.mem_of_getElem? h1)
      rw [h2]
      split
      · exact this
      · exact this
    · rw [List.mem_singleton] at hx; subst hx; exact ok
  · intro q x hx
    rw [List.filter_append, fil_new, List.map_append]
    rcases last hx with ⟨hq, hx⟩ | ⟨hq, rfl⟩
    · rw [if_neg (by omega), List.map_nil, List.nil_append]
      obtain ⟨x0, h1, h2⟩ := addK_get hx
      by_cases e : q = p'
      · rw [if_pos e] at h2
        subst e
        rw [hp] at h1
        cases h1
        rw [h2]
        show _ = List.range' (nd.kids ++ [L.length]).length (nd.κ.ho.length - (nd.kids ++ [L.length]).length) ∧ (nd.kids ++ [L.length]).length ≤ nd.κ.ho.length
        rw [List.length_append, List.length_singleton]
        exact ⟨ix3, ix2⟩
      · rw [if_neg e] at h2
        subst h2
        have := m.seg q x h1
        rw [List.filter_cons_of_neg (show ¬ onP q t = true from by simp [onP, tp]; omega)] at this
        exact this
    · subst hq
      rw [if_pos rfl, newT_ix]
      have : T.filter (onP L.length) = [] := List.filter_eq_nil_iff.mpr fun u hu => by
        obtain ⟨q, x, h1, h2, _⟩ := tl u hu
        have : ¬ u.par = (L.length : Int) := by omega
        simp [onP, this]
      rw [this, List.map_nil, List.append_nil]
      exact ⟨rfl, Nat.zero_le _⟩
  · intro u hu
    rcases List.mem_append.mp hu with hu | hu
    · obtain ⟨h1, h2, h3⟩ := newT_mem hu
      exact ⟨L.length, _, h1, here, h3, h2⟩
    · obtain ⟨q, x, h1, h2, h3, h4, h5⟩ := tl u hu
      obtain ⟨x', g1, g2, g3, _⟩ := addK_out (p := p') (n := L.length) h3
      exact ⟨q, x', h1, left g1, by rw [g3]; exact h4, by rw [g2]; exact h5⟩
  · intro q x hx
    rcases last hx with ⟨hq, hx⟩ | ⟨hq, rfl⟩
    · obtain ⟨x0, h1, h2⟩ := addK_get hx
      have f0 := m.fst q x0 h1
      by_cases e : q = p'
      · rw [if_pos e] at h2
        subst e
        rw [hp] at h1
        cases h1
        rw [h2]
        refine ⟨fun _ => ?_, fun z => absurd z (by simp)⟩
        show (nd.kids ++ [L.length])[0]? = some (q + 1)
        cases hk : nd.kids with
        | nil =>
          have hne : nd.κ.ho ≠ [] := fun z => by rw [z] at ix2; exact absurd ix2 (Nat.not_lt_zero _)
          rw [(f0.2 hk hne).1]
          rfl
        | cons a r =>
          have := f0.1 (by rw [hk]; exact List.cons_ne_nil _ _)
          rw [hk] at this
          exact this
      · rw [if_neg e] at h2
        subst h2
        refine ⟨f0.1, fun g1 g2 => ?_⟩
        obtain ⟨g3, t', T', g4, g5⟩ := f0.2 g1 g2
        injection g4 with g6 g7
        rw [← g6, tp] at g5
        omega
    · subst hq
      refine ⟨fun z => absurd rfl z, fun _ h2 => ⟨by rw [List.length_append, addK_len]; rfl, ?_⟩⟩
      have hl := newT_len κ out L.length dep
      cases hT : newT κ out L.length dep with
      | nil => rw [hT] at hl; exact absurd (List.eq_nil_of_length_eq_zero hl.symm) h2
      | cons t T' => exact ⟨t, T' ++ T, rfl, (newT_mem (by rw [hT]; exact List.mem_cons_self)).1⟩
  · intro q x j c hx hj
    rcases last hx with ⟨hq, hx⟩ | ⟨hq, rfl⟩
    · obtain ⟨x0, h1, h2⟩ := addK_get hx
      have old : x0.kids[j]? = some c → q < c ∧ ∃ (h : Hol) (ndc : Nd), x0.κ.ho[j]? = some h ∧ (addK L p' L.length ++ [(⟨κ, [], out, ft⟩ : Nd)])[c]? = some ndc ∧ ndc.out = x0.out ++ exL ((q + 1 : Nat) : Int) (c : Int) h := fun z => by
        obtain ⟨g1, h, ndc, g2, g3, g4⟩ := m.kid q x0 j c h1 z
        obtain ⟨x', g5, g6, _, _⟩ := addK_out (p := p') (n := L.length) g3
        exact ⟨g1, h, x', g2, left g5, by rw [g6]; exact g4⟩
      by_cases e : q = p'
      · rw [if_pos e] at h2
        subst e
        rw [hp] at h1
        cases h1
        subst h2
        have hj : (nd.kids ++ [L.length])[j]? = some c := hj
        show q < c ∧ ∃ (h : Hol) (ndc : Nd), nd.κ.ho[j]? = some h ∧ _ ∧ ndc.out = nd.out ++ exL ((q + 1 : Nat) : Int) (c : Int) h
        by_cases hjl : j < nd.kids.length
        · rw [List.getElem?_append_left hjl] at hj
          exact old hj
        · have := (List.getElem?_eq_some_iff.mp hj).1
          rw [List.length_append, List.length_singleton] at this
          have ej : j = nd.kids.length := by omega
          subst ej
          rw [List.getElem?_append_right (Nat.le_refl _), Nat.sub_self] at hj
          cases hj
          exact ⟨plt, t.ho, _, by rw [← ix1]; exact htix, here, by show out = _; rw [ho, hth]⟩
      · rw [if_neg e] at h2
        subst h2
        exact old hj
    · cases hj
  · intro k hk
    rw [List.length_append, List.length_singleton, addK_len] at hk
    by_cases e : k < L.length
    · rcases m.reach k e with h | ⟨q, x, h1, h2, h3⟩
      · exact .inl h
      · obtain ⟨x', g5, _, _, g6⟩ := addK_out (p := p') (n := L.length) h2
        exact .inr ⟨q, x', h1, left g5, g6 _ h3⟩
    · have e : k = L.length := by omega
      subst e
      refine .inr ⟨p', _, plt, left (addK_at hp), ?_⟩
      rw [if_pos rfl]
      exact List.mem_append_right _ (List.mem_singleton.mpr rfl)
  · intro i r hr
    obtain ⟨x, h1, h2⟩ := m.root i r hr
    obtain ⟨x', g5, g6, g7, _⟩ := addK_out (p := p') (n := L.length) h1
    refine ⟨x', left g5, ?_⟩
    rw [g6, h2]
    unfold Nd.isF
    rw [g7]
  · intro k x hx
    rcases last hx with ⟨hq, hx⟩ | ⟨hq, rfl⟩
    · obtain ⟨x0, h1, h2⟩ := addK_get hx
      have h3 := m.nm k x0 h1
      rw [h2]
      split
      · exact h3
      · exact h3
    · exact hn
noncomputable def Nd.ro (nd : Nd) : Ro := mkR nd.κ (nd.kids.map fun k : Nat => (k : Int))
noncomputable def outF (L : List Nd) (k : Nat) : Str → Option Hm := match L[k]? with
  | some nd => look nd.out
  | none => fun _ => none
theorem outF_at {L : List Nd} {k : Nat} {nd : Nd} (h : L[k]? = some nd) : outF L k = look nd.out := by unfold outF; rw [h]
theorem MI0.full {names : List Str} {roots : List Nat} {L : List Nd} (m : MI0 names roots L []) {k : Nat} {nd : Nd} (h : L[k]? = some nd) : nd.kids.length = nd.κ.ho.length := by
  obtain ⟨h1, h2⟩ := m.seg k nd h
  have h3 : ([] : List Nat) = List.range' nd.kids.length (nd.κ.ho.length - nd.kids.length) := h1
  have := congrArg List.length h3
  rw [List.length_range', List.length_nil] at this
  omega
theorem MI0.good {names : List Str} {roots : List Nat} {L : List Nd} (m : MI0 names roots L []) (nn : names.Nodup) : Good names roots (L.map Nd.ro) (outF L) where
  nn := nn
  nl := m.nl
  rl := m.rl
  ok := fun ρ h => by
    obtain ⟨nd, h1, rfl⟩ := List.mem_map.mp h
    obtain ⟨k, hk⟩ := List.mem_iff_getElem?.mp h1
    exact mkR_ok (m.ok nd h1).1 (by rw [List.length_map]; exact m.full hk)
  pn := by rw [List.length_map]; have := m.sz; omega
  rlt := fun i r h => by
    obtain ⟨nd, h1, _⟩ := m.root i r h
    rw [List.length_map]
    exact (List.getElem?_eq_some_iff.mp h1).1
  root := fun i r ρ h hρ => by
    obtain ⟨nd, h1, h2⟩ := m.root i r h
    rw [List.getElem?_map, h1] at hρ
    cases hρ
    have hi := (List.getElem?_eq_some_iff.mp h).1
    have rl := m.rl
    rw [outF_at h1, h2]
    have e : nd.ro.isF = nd.isF := by unfold Nd.ro; rw [mkR_isF]; rfl
    rw [e]
    cases nd.isF with
    | true =>
      rw [if_pos rfl, if_pos rfl, look_snoc, look_defs names i (by omega), G0, List.getD_eq_getElem?_getD, List.getElem?_eq_getElem (show i < names.length by omega)]
      rfl
    | false => rw [if_neg Bool.false_ne_true, if_neg Bool.false_ne_true, List.append_nil, look_defs names i (by omega)]
  kid := fun k ρ j c e hρ hj he => by
    rw [List.getElem?_map] at hρ
    obtain ⟨nd, h1, rfl⟩ := Option.map_eq_some_iff.mp hρ
    have fl := m.full h1
    have fl' : (nd.kids.map fun k : Nat => (k : Int)).length = nd.κ.ho.length := by rw [List.length_map]; exact fl
    have hj' := hj
    unfold Nd.ro at hj' he
    rw [mkR_pl fl'] at hj'
    obtain ⟨h, g1, g2⟩ := mkR_ex fl' j c e hj' he
    rw [List.getElem?_map] at hj'
    obtain ⟨cn, g3, rfl⟩ := Option.map_eq_some_iff.mp hj'
    obtain ⟨g4, h', ndc, g5, g6, g7⟩ := m.kid k nd j cn h1 g3
    rw [g1] at g5
    cases g5
    refine ⟨cn, rfl, g4, ?_⟩
    rw [outF_at g6, outF_at h1, g7, look_ex, g2]
    have hne : nd.kids ≠ [] := fun z => by rw [z] at g3; cases g3
    have f0 := (m.fst k nd h1).1 hne
    have : (nd.kids.map fun k : Nat => (k : Int)).getD 0 0 = ((k + 1 : Nat) : Int) := by
      rw [List.getD_eq_getElem?_getD, List.getElem?_map, f0]
      rfl
    rw [this]
  reach := fun k hk => by
    rw [List.length_map] at hk
    rcases m.reach k hk with h | ⟨p, nd, h1, h2, h3⟩
    · exact .inl h
    · refine .inr ⟨p, nd.ro, h1, by rw [List.getElem?_map, h2]; rfl, ?_⟩
      unfold Nd.ro
      rw [mkR_pl (by rw [List.length_map]; exact m.full h2)]
      exact List.mem_map.mpr ⟨k, h3, rfl⟩
end K11.Internal
namespace K11.Internal
open PySem L2.Internal BO.Internal
seal L2.Internal.PE L2.Internal.PA L2.Internal.PS L2.Internal.PSs L2.Internal.PT L2.Internal.PI
theorem nodup_gA : ∀ {as : List Addr} (_ : as.Nodup) {i j : Nat} {a : Addr} (_ : as[i]? = some a) (_ : as[j]? = some a), i = j
  | x :: as, nd, 0, 0, a, _, _ => rfl
  | x :: as, nd, 0, j + 1, a, h1, h2 => by
    cases h1
    exact absurd (List.mem_of_getElem? (show as[j]? = some x from h2)) (List.nodup_cons.mp nd).1
  | x :: as, nd, i + 1, 0, a, h1, h2 => by
    cases h2
    exact absurd (List.mem_of_getElem? (show as[i]? = some x from h1)) (List.nodup_cons.mp nd).1
  | x :: as, nd, i + 1, j + 1, a, h1, h2 => by
    have := nodup_gA (List.nodup_cons.mp nd).2 (show as[i]? = some a from h1) (show as[j]? = some a from h2)
    omega
theorem Kn.ho_ok {κ : Kn} {h : Hol} (hm : h ∈ κ.ho) : h = p0 ∨ ∃ w how, h = (some w, how) ∧ (how = "fn" ∨ how = "let" ∨ how = "arm") := by
  cases κ with
  | num n => cases hm
  | name n => cases hm
  | fn w => exact .inr ⟨w, _, List.mem_singleton.mp hm, .inl rfl⟩
  | tag w => exact .inl (List.mem_singleton.mp hm)
  | get w => exact .inl (List.mem_singleton.mp hm)
  | lt w =>
    rcases List.mem_cons.mp (show h ∈ [p0, (some w, "let")] from hm) with e | e
    · exact .inl e
    · exact .inr ⟨w, _, List.mem_singleton.mp e, .inr (.inl rfl)⟩
  | rcd l => obtain ⟨_, _, rfl⟩ := List.mem_map.mp hm; exact .inl rfl
  | case l =>
    rcases List.mem_cons.mp (show h ∈ (p0 :: l.map fun p => ((some p.2, "arm") : Hol)) from hm) with e | e
    · exact .inl e
    · obtain ⟨p, _, rfl⟩ := List.mem_map.mp e
      exact .inr ⟨p.2, _, rfl, .inr (.inr rfl)⟩
  | row m => exact .inl (List.mem_replicate.mp hm).2
  | op s m => exact .inl (List.mem_replicate.mp hm).2
noncomputable def hoW (h : Hol) : Str := h.1.getD ""
noncomputable def Td.d (t : Td) : Dt := .lst [.lst ((t.held.map Prod.fst).map sD), sD (hoW t.ho), kD t.par, kD t.dep]
noncomputable def ftD (f : Str × Str × Nat) : Dt := .lst [sD f.1, sD f.2.1, kD (f.2.2 : Int)]
noncomputable def mask (H : Hp) (M : List Addr) : Hp := fun a => if a ∈ M then none else H a
theorem mask_of {H : Hp} {M : List Addr} {a : Addr} {u : HO} (h : a ∉ M) (e : H a = some u) : mask H M a = some u := by unfold mask; rw [if_neg h]; exact e
theorem mask_inv {H : Hp} {M : List Addr} {a : Addr} {u : HO} (e : mask H M a = some u) : a ∉ M ∧ H a = some u := by
  unfold mask at e
  by_cases h : a ∈ M
  · rw [if_pos h] at e; cases e
  · rw [if_neg h] at e; exact ⟨h, e⟩
theorem mask_sub {H : Hp} {M : List Addr} : Same (mask H M) H := fun b u e => (mask_inv e).2
theorem mask_same {H H' : Hp} {M : List Addr} (s : Same H H') : Same (mask H M) (mask H' M) := fun b u e => mask_of (mask_inv e).1 (s _ _ (mask_inv e).2)
theorem mask_upd {H : Hp} {M : List Addr} {l : Addr} {o : HO} (h : l ∈ M) : Same (mask H M) (mask (upd H l o) M) := fun b u e => by
  obtain ⟨h1, h2⟩ := mask_inv e
  have : b ≠ l := fun z => h1 (z ▸ h)
  exact mask_of h1 (by rw [upd_ne this]; exact h2)
structure Ad where
  n : Addr
  r : Addr
  k : Addr
  d : Addr
  u : Addr
  t : Addr
noncomputable def Ad.l (a : Ad) : List Addr := [a.n, a.r, a.k, a.d, a.u, a.t]
structure PH (H0 H : Hp) (a : Ad) (KA : List Addr) (kv tv uv : List V) (names : List Str) (roots : List Nat) (κs : List Kn) (kds : List (List Nat)) (fts : List (Str × Str × Nat)) (T : List Td) : Prop where
  S : Same H0 H
  nd : (a.l ++ KA).Nodup
  fr : ∀ x ∈ a.l ++ KA, H0 x = none
  n : H a.n = some (.lst (names.map V.str))
  r : H a.r = some (.lst (roots.map nI))
  k : H a.k = some (.lst kv)
  kd : Dtas (mask H (a.l ++ KA)) kv (κs.map Kn.d)
  d : H a.d = some (.lst (KA.map V.ref))
  dl : KA.length = kds.length
  dk : ∀ (i : Nat) (x : Addr) (ks : List Nat), KA[i]? = some x → kds[i]? = some ks → H x = some (.lst (ks.map nI))
  u : H a.u = some (.lst uv)
  ud : Dtas (mask H (a.l ++ KA)) uv (fts.map ftD)
  t : H a.t = some (.lst tv.reverse)
  td : Dtas (mask H (a.l ++ KA)) tv (T.map Td.d)
section
variable {H0 H : Hp} {a : Ad} {KA : List Addr} {kv tv uv : List V} {names : List Str} {roots : List Nat} {κs : List Kn} {kds : List (List Nat)} {fts : List (Str × Str × Nat)} {T : List Td}
theorem PH.all (h : PH H0 H a KA kv tv uv names roots κs kds fts T) : ∀ x ∈ a.l ++ KA, ∃ o, H x = some o := by
  intro x hx
  rcases List.mem_append.mp hx with hx | hx
  · unfold Ad.l at hx
    simp only [List.mem_cons, List.not_mem_nil, or_false] at hx
    rcases hx with rfl | rfl | rfl | rfl | rfl | rfl
    · exact ⟨_, h.n⟩
    · exact ⟨_, h.r⟩
    · exact ⟨_, h.k⟩
    · exact ⟨_, h.d⟩
    · exact ⟨_, h.u⟩
    · exact ⟨_, h.t⟩
  · obtain ⟨i, hi⟩ := List.mem_iff_getElem?.mp hx
    have := (List.getElem?_eq_some_iff.mp hi).1
    have dl := h.dl
    exact ⟨_, h.dk i x _ hi (List.getElem?_eq_getElem (by omega))⟩
theorem PH.same (h : PH H0 H a KA kv tv uv names roots κs kds fts T) {H' : Hp} (s : Same H H') : PH H0 H' a KA kv tv uv names roots κs kds fts T :=
  ⟨h.S.trans s, h.nd, h.fr, s _ _ h.n, s _ _ h.r, s _ _ h.k, h.kd.same (mask_same s), s _ _ h.d, h.dl, fun i x ks h1 h2 => s _ _ (h.dk i x ks h1 h2), s _ _ h.u, h.ud.same (mask_same s), s _ _ h.t, h.td.same (mask_same s)⟩
structure Dif (a : Ad) (KA : List Addr) : Prop where
  nr : a.n ≠ a.r
  nk : a.n ≠ a.k
  nd : a.n ≠ a.d
  nu : a.n ≠ a.u
  nt : a.n ≠ a.t
  rk : a.r ≠ a.k
  rd : a.r ≠ a.d
  ru : a.r ≠ a.u
  rt : a.r ≠ a.t
  kd : a.k ≠ a.d
  ku : a.k ≠ a.u
  kt : a.k ≠ a.t
  du : a.d ≠ a.u
  dt : a.d ≠ a.t
  ut : a.u ≠ a.t
  ka : ∀ x ∈ KA, x ≠ a.n ∧ x ≠ a.r ∧ x ≠ a.k ∧ x ≠ a.d ∧ x ≠ a.u ∧ x ≠ a.t
  kn : KA.Nodup
theorem PH.dif (h : PH H0 H a KA kv tv uv names roots κs kds fts T) : Dif a KA := by
  have nd := h.nd
  rw [List.nodup_append] at nd
  obtain ⟨n1, n2, n3⟩ := nd
  unfold Ad.l at n1 n3
  simp only [List.nodup_cons, List.mem_cons, List.not_mem_nil, or_false, not_or, List.nodup_nil, and_true, not_false_eq_true] at n1
  obtain ⟨⟨a1, a2, a3, a4, a5⟩, ⟨b1, b2, b3, b4⟩, ⟨c1, c2, c3⟩, ⟨d1, d2⟩, e1⟩ := n1
  refine ⟨a1, a2, a3, a4, a5, b1, b2, b3, b4, c1, c2, c3, d1, d2, e1, fun x hx => ?_, n2⟩
  exact ⟨fun z => n3 a.n (by simp) x hx z.symm, fun z => n3 a.r (by simp) x hx z.symm, fun z => n3 a.k (by simp) x hx z.symm, fun z => n3 a.d (by simp) x hx z.symm, fun z => n3 a.u (by simp) x hx z.symm, fun z => n3 a.t (by simp) x hx z.symm⟩
theorem PH.memN : a.n ∈ a.l ++ KA := by simp [Ad.l]
theorem PH.memR : a.r ∈ a.l ++ KA := by simp [Ad.l]
theorem PH.memK : a.k ∈ a.l ++ KA := by simp [Ad.l]
theorem PH.memD : a.d ∈ a.l ++ KA := by simp [Ad.l]
theorem PH.memU : a.u ∈ a.l ++ KA := by simp [Ad.l]
theorem PH.memT : a.t ∈ a.l ++ KA := by simp [Ad.l]
theorem PH.nameP (h : PH H0 H a KA kv tv uv names roots κs kds fts T) (x : Str) : PH H0 (upd H a.n (.lst (names.map V.str ++ [.str x]))) a KA kv tv uv (names ++ [x]) roots κs kds fts T := by
  have q := h.dif
  refine ⟨same_upd h.S (h.fr _ PH.memN) _, h.nd, h.fr, by rw [upd_same, List.map_append]; rfl, ?_, ?_, h.kd.same (mask_upd PH.memN), ?_, h.dl, fun i x ks h1 h2 => ?_, ?_, h.ud.same (mask_upd PH.memN), ?_, h.td.same (mask_upd PH.memN)⟩
  · rw [upd_ne q.nr.symm]; exact h.r
  · rw [upd_ne q.nk.symm]; exact h.k
  · rw [upd_ne q.nd.symm]; exact h.d
  · rw [upd_ne (q.ka x (List.mem_of_getElem? h1)).1]; exact h.dk i x ks h1 h2
  · rw [upd_ne q.nu.symm]; exact h.u
  · rw [upd_ne q.nt.symm]; exact h.t
theorem PH.rootP (h : PH H0 H a KA kv tv uv names roots κs kds fts T) (x : Nat) : PH H0 (upd H a.r (.lst (roots.map nI ++ [.int (x : Int)]))) a KA kv tv uv names (roots ++ [x]) κs kds fts T := by
  have q := h.dif
  refine ⟨same_upd h.S (h.fr _ PH.memR) _, h.nd, h.fr, ?_, by rw [upd_same, List.map_append]; rfl, ?_, h.kd.same (mask_upd PH.memR), ?_, h.dl, fun i x ks h1 h2 => ?_, ?_, h.ud.same (mask_upd PH.memR), ?_, h.td.same (mask_upd PH.memR)⟩
  · rw [upd_ne q.nr]; exact h.n
  · rw [upd_ne q.rk.symm]; exact h.k
  · rw [upd_ne q.rd.symm]; exact h.d
  · rw [upd_ne (q.ka x (List.mem_of_getElem? h1)).2.1]; exact h.dk i x ks h1 h2
  · rw [upd_ne q.ru.symm]; exact h.u
  · rw [upd_ne q.rt.symm]; exact h.t
theorem PH.kindP (h : PH H0 H a KA kv tv uv names roots κs kds fts T) {v : V} {κ : Kn} (dv : Dta (mask H (a.l ++ KA)) v κ.d) : PH H0 (upd H a.k (.lst (kv ++ [v]))) a KA (kv ++ [v]) tv uv names roots (κs ++ [κ]) kds fts T := by
  have q := h.dif
  refine ⟨same_upd h.S (h.fr _ PH.memK) _, h.nd, h.fr, ?_, ?_, upd_same, ?_, ?_, h.dl, fun i x ks h1 h2 => ?_, ?_, h.ud.same (mask_upd PH.memK), ?_, h.td.same (mask_upd PH.memK)⟩
  · rw [upd_ne q.nk]; exact h.n
  · rw [upd_ne q.rk]; exact h.r
  · rw [List.map_append]
    exact dtas_app (h.kd.same (mask_upd PH.memK)) (.cons (dv.same (mask_upd PH.memK)) .nil)
  · rw [upd_ne q.kd.symm]; exact h.d
  · rw [upd_ne (q.ka x (List.mem_of_getElem? h1)).2.2.1]; exact h.dk i x ks h1 h2
  · rw [upd_ne q.ku.symm]; exact h.u
  · rw [upd_ne q.kt.symm]; exact h.t
theorem PH.dueP (h : PH H0 H a KA kv tv uv names roots κs kds fts T) {v : V} {f : Str × Str × Nat} (dv : Dta (mask H (a.l ++ KA)) v (ftD f)) : PH H0 (upd H a.u (.lst (uv ++ [v]))) a KA kv tv (uv ++ [v]) names roots κs kds (fts ++ [f]) T := by
  have q := h.dif
  refine ⟨same_upd h.S (h.fr _ PH.memU) _, h.nd, h.fr, ?_, ?_, ?_, h.kd.same (mask_upd PH.memU), ?_, h.dl, fun i x ks h1 h2 => ?_, upd_same, ?_, ?_, h.td.same (mask_upd PH.memU)⟩
  · rw [upd_ne q.nu]; exact h.n
  · rw [upd_ne q.ru]; exact h.r
  · rw [upd_ne q.ku]; exact h.k
  · rw [upd_ne q.du]; exact h.d
  · rw [upd_ne (q.ka x (List.mem_of_getElem? h1)).2.2.2.2.1]; exact h.dk i x ks h1 h2
  · rw [List.map_append]
    exact dtas_app (h.ud.same (mask_upd PH.memU)) (.cons (dv.same (mask_upd PH.memU)) .nil)
  · rw [upd_ne q.ut.symm]; exact h.t
theorem PH.todo (h : PH H0 H a KA kv tv uv names roots κs kds fts T) {tv' : List V} {T' : List Td} (dv : Dtas (mask H (a.l ++ KA)) tv' (T'.map Td.d)) : PH H0 (upd H a.t (.lst tv'.reverse)) a KA kv tv' uv names roots κs kds fts T' := by
  have q := h.dif
  refine ⟨same_upd h.S (h.fr _ PH.memT) _, h.nd, h.fr, ?_, ?_, ?_, h.kd.same (mask_upd PH.memT), ?_, h.dl, fun i x ks h1 h2 => ?_, ?_, h.ud.same (mask_upd PH.memT), upd_same, dv.same (mask_upd PH.memT)⟩
  · rw [upd_ne q.nt]; exact h.n
  · rw [upd_ne q.rt]; exact h.r
  · rw [upd_ne q.kt]; exact h.k
  · rw [upd_ne q.dt]; exact h.d
  · rw [upd_ne (q.ka x (List.mem_of_getElem? h1)).2.2.2.2.2]; exact h.dk i x ks h1 h2
  · rw [upd_ne q.ut]; exact h.u
theorem PH.todoP (h : PH H0 H a KA kv tv uv names roots κs kds fts T) {v : V} {t : Td} (dv : Dta (mask H (a.l ++ KA)) v t.d) : PH H0 (upd H a.t (.lst (tv.reverse ++ [v]))) a KA kv (v :: tv) uv names roots κs kds fts (t :: T) := by
  have := h.todo (tv' := v :: tv) (T' := t :: T) (.cons dv h.td)
  rw [List.reverse_cons] at this
  exact this
theorem PH.kidP (h : PH H0 H a KA kv tv uv names roots κs kds fts T) {p : Nat} {x : Addr} {ks : List Nat} (n : Nat) (hx : KA[p]? = some x) (hk : kds[p]? = some ks) : PH H0 (upd H x (.lst (ks.map nI ++ [.int (n : Int)]))) a KA kv tv uv names roots κs (kds.set p (ks ++ [n])) fts T := by
  have q := h.dif
  have xm : x ∈ KA := List.mem_of_getElem? hx
  have mx : x ∈ a.l ++ KA := List.mem_append_right _ xm
  obtain ⟨q1, q2, q3, q4, q5, q6⟩ := q.ka x xm
  have ex := h.dk p x ks hx hk
  refine ⟨same_upd h.S (h.fr _ mx) _, h.nd, h.fr, ?_, ?_, ?_, h.kd.same (mask_upd mx), ?_, by rw [List.length_set]; exact h.dl, fun i y ks' h1 h2 => ?_, ?_, h.ud.same (mask_upd mx), ?_, h.td.same (mask_upd mx)⟩
  · rw [upd_ne q1.symm]; exact h.n
  · rw [upd_ne q2.symm]; exact h.r
  · rw [upd_ne q3.symm]; exact h.k
  · rw [upd_ne q4.symm]; exact h.d
  · by_cases e : i = p
    · subst e
      rw [hx] at h1
      cases h1
      rw [List.getElem?_set_self (List.getElem?_eq_some_iff.mp hk).1] at h2
      cases h2
      rw [upd_same, List.map_append]
      rfl
    · rw [List.getElem?_set_ne (fun z => e z.symm)] at h2
      have : y ≠ x := fun z => e (by
        rw [z] at h1
        exact nodup_gA q.kn h1 hx)
      rw [upd_ne this]
      exact h.dk i y ks' h1 h2
  · rw [upd_ne q5.symm]; exact h.u
  · rw [upd_ne q6.symm]; exact h.t
theorem PH.kidsP (h : PH H0 H a KA kv tv uv names roots κs kds fts T) {x : Addr} (hx : H x = none) : PH H0 (upd (upd H x (.lst [])) a.d (.lst (KA.map V.ref ++ [.ref x]))) a (KA ++ [x]) kv tv uv names roots κs (kds ++ [[]]) fts T := by
  have q := h.dif
  have al := h.all
  have xm : x ∉ a.l ++ KA := fun z => by obtain ⟨o, ho⟩ := al x z; rw [hx] at ho; cases ho
  have s1 := same_new hx (.lst [])
  have h1 := h.same s1
  have ms : Same (mask H (a.l ++ KA)) (mask (upd (upd H x (.lst [])) a.d (.lst (KA.map V.ref ++ [.ref x]))) (a.l ++ (KA ++ [x]))) := fun b u e => by
    obtain ⟨e1, e2⟩ := mask_inv e
    have bd : b ≠ a.d := fun z => e1 (z ▸ PH.memD)
    refine mask_of (fun z => ?_) (by rw [upd_ne bd]; exact s1 _ _ e2)
    rw [← List.append_assoc] at z
    rcases List.mem_append.mp z with z | z
    · exact e1 z
    · rw [List.mem_singleton] at z
      rw [z, hx] at e2
      cases e2
  have nx : ∀ y ∈ a.l ++ KA, y ≠ x := fun y hy z => xm (z ▸ hy)
  refine ⟨same_upd h1.S (h.fr _ PH.memD) _, ?_, ?_, ?_, ?_, ?_, h.kd.same ms, by rw [upd_same, List.map_append]; rfl, by rw [List.length_append, List.length_append, h.dl]; rfl, fun i y ks g1 g2 => ?_, ?_, h.ud.same ms, ?_, h.td.same ms⟩
  · rw [← List.append_assoc]
    exact nd_snoc h.nd xm
  · intro y hy
    rw [← List.append_assoc] at hy
    rcases List.mem_append.mp hy with hy | hy
    · exact h.fr y hy
    · rw [List.mem_singleton] at hy
      rw [hy]
      exact h.S.free hx
  · rw [upd_ne q.nd]; exact h1.n
  · rw [upd_ne q.rd]; exact h1.r
  · rw [upd_ne q.kd]; exact h1.k
  · have dl := h.dl
    by_cases hi : i < KA.length
    · rw [List.getElem?_append_left hi] at g1
      rw [List.getElem?_append_left (by omega)] at g2
      rw [upd_ne (q.ka y (List.mem_of_getElem? g1)).2.2.2.1]
      exact h1.dk i y ks g1 g2
    · have := (List.getElem?_eq_some_iff.mp g1).1
      rw [List.length_append, List.length_singleton] at this
      have e : i = KA.length := by omega
      subst e
      rw [List.getElem?_append_right (Nat.le_refl _), Nat.sub_self] at g1
      rw [dl, List.getElem?_append_right (Nat.le_refl _), Nat.sub_self] at g2
      cases g1
      cases g2
      rw [upd_ne (nx _ PH.memD).symm]
      exact upd_same
  · rw [upd_ne q.du.symm]; exact h1.u
  · rw [upd_ne q.dt.symm]; exact h1.t
end
end K11.Internal
namespace K11.Internal
open PySem L2.Internal BO.Internal
seal L2.Internal.PE L2.Internal.PA L2.Internal.PS L2.Internal.PSs L2.Internal.PT L2.Internal.PI
theorem odd_inj2 {a t k l : Int} (h0 : 0 ≤ t) (h1 : t < 8) (k0 : 0 ≤ k) (k1 : k < 16) (l0 : 0 ≤ l) (l1 : l < 16) (h : (k * (1 + t * 2) + a) % 16 = (l * (1 + t * 2) + a) % 16) : k = l := by
  have : t = 0 ∨ t = 1 ∨ t = 2 ∨ t = 3 ∨ t = 4 ∨ t = 5 ∨ t = 6 ∨ t = 7 := by omega
  rcases this with rfl | rfl | rfl | rfl | rfl | rfl | rfl | rfl <;> omega
noncomputable def nmF (ws : List Str) (seed : Int) (k : Nat) : Str := wa ws (((k : Int) * (1 + seed % 8 * 2) + seed / 8) % 16)
theorem nm_nd {ws : List Str} (hl : ws.length = 16) (nd : ws.Nodup) (seed : Int) {m : Nat} (hm : m ≤ 16) : ((List.range m).map (nmF ws seed)).Nodup := by
  rw [List.Nodup, List.pairwise_map]
  refine List.Pairwise.imp_of_mem (fun {x y} hx hy hlt e => ?_) List.pairwise_lt_range
  have hx := List.mem_range.mp hx
  have hy := List.mem_range.mp hy
  have := wa_inj hl nd (Int.emod_nonneg _ (by decide)) (Int.emod_lt_of_pos _ (by decide)) (Int.emod_nonneg _ (by decide)) (Int.emod_lt_of_pos _ (by decide)) e
  have := odd_inj2 (Int.emod_nonneg _ (by decide)) (Int.emod_lt_of_pos _ (by decide)) (by omega) (by omega) (by omega) (by omega) this
  omega
theorem or3 {t1 t2 t3 : TT} {σ : St} {H : Hp} {R : Bool → Hp → Prop} (b1 b2 b3 : Bool) (h1 : ∀ R : Bool → Hp → Prop, R b1 H → t1 σ H R) (h2 : ∀ R : Bool → Hp → Prop, R b2 H → t2 σ H R) (h3 : ∀ R : Bool → Hp → Prop, R b3 H → t3 σ H R) (k : R (b1 || (b2 || b3)) H) : tOr t1 (tOr t2 t3) σ H R := by
  refine h1 _ ?_
  cases b1 with
  | true => exact iteT k
  | false =>
    refine iteF (h2 _ ?_)
    cases b2 with
    | true => exact iteT k
    | false => exact iteF (h3 _ k)
theorem while_mid {c : TT} {tb u : TS} {D : Ends} {σ : St} {H : Hp} (N : St → Hp → Prop) (k : ∀ σ' H', N σ' H' → u D σ' H') (w : ∀ Nx : St → Hp → Prop, (∀ σ' H', N σ' H' → Nx σ' H') → tWhile c tb { D with nx := Nx } σ H) : tSeq (tWhile c tb) u D σ H := w _ k
theorem for_rev {K : PySem.W.Frag} {a : Addr} {xs : List V} {g : TG} {tb : TS} {D : Ends} {σ : St} {H : Hp} (Pv : Nat → St → Hp → Prop) (h0 : Pv 0 σ H) (hl : ∀ i σ H, i ≤ xs.length → Pv i σ H → SqL K H a xs)
    (hs : ∀ (i : Nat) (x : V) (σ : St) (H : Hp), i < xs.length → xs[xs.length - 1 - i]? = some x → Pv i σ H → g x σ H fun σ2 H2 => tb { D with nx := Pv (i + 1), ct := Pv (i + 1), bk := D.nx } σ2 H2) (hd : ∀ σ H, Pv xs.length σ H → D.nx σ H) :
    ∃ W : Nat → Nat → St → Hp → Prop, (∃ m, W 0 m σ H) ∧ ∀ i m σ H, W i m σ H →
      ((Itv K a xs.length).stop i H ∧ D.nx σ H) ∨ ((Itv K a xs.length).go i H ∧ ∃ N : St → Hp → Prop, (∀ σ' H', N σ' H' → ∃ m', m' < m ∧ W (i + 1) m' σ' H') ∧ ∀ x H', (Itv K a xs.length).yld i H x H' → g x σ H' fun σ2 H2 => tb { D with nx := N, ct := N, bk := D.nx } σ2 H2) := by
  refine ⟨fun i m σ H => m = xs.length - i ∧ i ≤ xs.length ∧ Pv i σ H, ⟨xs.length, by simp, Nat.zero_le _, h0⟩, ?_⟩
  rintro i m σ H ⟨rfl, hi, p⟩
  have q := hl i σ H hi p
  by_cases hlt : i < xs.length
  · refine .inr ⟨⟨hlt, xs, q, rfl⟩, Pv (i + 1), fun σ' H' p' => ⟨xs.length - (i + 1), by omega, rfl, hlt, p'⟩, fun v H' y => ?_⟩
    obtain ⟨rfl, hx⟩ := y
    exact hs i v σ H' hlt (hx xs q) p
  · have e : i = xs.length := by omega
    subst e
    exact .inl ⟨rfl, hd σ H p⟩
theorem addK_κ (L : List Nd) (p n : Nat) : (addK L p n).map Nd.κ = L.map Nd.κ := by
  refine List.ext_getElem? fun k => ?_
  rw [List.getElem?_map, List.getElem?_map]
  cases h : L[k]? with
  | none => rw [List.getElem?_eq_none (by rw [addK_len]; exact List.getElem?_eq_none_iff.mp h)]
  | some nd =>
    rw [addK_at h]
    show some (Nd.κ (if k = p then _ else nd)) = some nd.κ
    split <;> rfl
theorem addK_kids {L : List Nd} {p n : Nat} {nd : Nd} (hp : L[p]? = some nd) : (addK L p n).map Nd.kids = (L.map Nd.kids).set p (nd.kids ++ [n]) := by
  refine List.ext_getElem? fun k => ?_
  have plt := (List.getElem?_eq_some_iff.mp hp).1
  rw [List.getElem?_map]
  by_cases e : k = p
  · subst e
    rw [addK_at hp, if_pos rfl, List.getElem?_set_self (by rw [List.length_map]; exact plt)]
    rfl
  · rw [List.getElem?_set_ne (fun z => e z.symm), List.getElem?_map]
    cases h : L[k]? with
    | none => rw [List.getElem?_eq_none (by rw [addK_len]; exact List.getElem?_eq_none_iff.mp h)]
    | some x => rw [addK_at h, if_neg e]
theorem seq_addI {j i : Nat} {m n : Int} {u : TS} {D : Ends} {σ : St} {H : Hp} (hv : σ[j]? = some (some (.int m))) (k : u D (σ.set i (some (.int (m + n)))) H) : tSeq (tAsg (tOp (cI0 fun i j => V.int (i + j)) (cV j) (tC (.int n))) (gName i)) u D σ H := by
  show onV σ[j]? _
  rw [hv]
  exact k
theorem defs_len (names : List Str) (i : Nat) : (defs names i).length = i := by unfold defs; rw [List.length_map, List.length_range]
noncomputable def Mode (names : List Str) (roots : List Nat) (L : List Nd) (t : Td) (T1 : List Td) : Prop :=
  (∃ (p : Nat) (nd : Nd), t.par = (p : Int) ∧ L[p]? = some nd ∧ MI0 names roots L (t :: T1)) ∨
  ∃ (names0 : List Str) (roots0 : List Nat) (x : Str), t.par = -1 ∧ t.ho = p0 ∧ T1 = [] ∧ t.held = defs names0 names0.length ∧ names = names0 ++ [x] ∧ roots = roots0 ++ [L.length] ∧ MI0 names0 roots0 L [] ∧ names0.length < 12 ∧ L.length ≤ 140
noncomputable def heldX (L : List Nd) (t : Td) : List (Str × Hm) := t.held ++ exL (t.par + 1) (L.length : Int) t.ho
noncomputable def ownX (names : List Str) (t : Td) (κ : Kn) : List (Str × Hm) := if t.par < 0 ∧ (Nd.mk κ [] [] none).isF = true then [(names.getD (names.length - 1) "", (("def" : Str), ((names.length - 1 : Nat) : Int)))] else []
theorem Mode.step {names : List Str} {roots : List Nat} {L : List Nd} {t : Td} {T1 : List Td} (m : Mode names roots L t T1) : ∃ L1 : List Nd, (0 ≤ t.par → ∃ (p : Nat) (nd : Nd), t.par = (p : Int) ∧ L[p]? = some nd ∧ L1 = addK L p L.length) ∧ (t.par < 0 → L1 = L ∧ t.ho = p0) ∧ names ≠ [] ∧ names.length ≤ 12 ∧ (t.ho = p0 ∨ ∃ w how, t.ho = (some w, how) ∧ (how = "fn" ∨ how = "let" ∨ how = "arm")) ∧ L.length + (T1.length + 1) ≤ 150 ∧
    ∀ (κ : Kn) (ft : Option (Str × Str)) (out : List (Str × Hm)) (dep : Int), κ.okk → κ.ho.length ≤ 8 → (κ.ho ≠ [] → L.length + T1.length ≤ 141) → out = heldX L t ++ ownX names t κ → FtOk ⟨κ, [], out, ft⟩ → MI0 names roots (L1 ++ [⟨κ, [], out, ft⟩]) (newT κ out L.length dep ++ T1) := by
  rcases m with ⟨p, nd, tp, hp, mi⟩ | ⟨names0, roots0, x, tp, th, rfl, hh, rfl, rfl, mi, n12, l140⟩
  · obtain ⟨p', nd', tp', hp', hix, hth⟩ := mi.tds t List.mem_cons_self
    have sz := mi.sz
    rw [List.length_cons] at sz
    have rne : names ≠ [] := by
      intro z
      have rl := mi.rl
      rw [z] at rl
      have plt := (List.getElem?_eq_some_iff.mp hp).1
      rcases mi.reach 0 (by omega) with ⟨i, hi⟩ | ⟨p, nd, h, _⟩
      · have := (List.getElem?_eq_some_iff.mp hi).1
        rw [rl] at this
        exact absurd this (Nat.not_lt_zero _)
      · exact absurd h (Nat.not_lt_zero _)
    refine ⟨addK L p L.length, fun _ => ⟨p, nd, tp, hp, rfl⟩, fun h => by omega, rne, mi.nl, Kn.ho_ok (List.mem_of_getElem? hix), by omega, fun κ ft out dep ok h8 h141 ho hn => ?_⟩
    have eo : out = t.held ++ exL ((p + 1 : Nat) : Int) (L.length : Int) t.ho := by
      rw [ho]
      unfold heldX ownX
      rw [if_neg (fun z => by omega), List.append_nil, tp]
      rfl
    exact MI0.kidStep mi tp hp ok h8 h141 eo hn
  · refine ⟨L, fun h => by omega, fun _ => ⟨rfl, th⟩, by simp, by rw [List.length_append, List.length_singleton]; omega, .inl th, by show L.length + (0 + 1) ≤ 150; omega, fun κ ft out dep ok h8 h141 ho hn => ?_⟩
    have hx : heldX L t = defs names0 names0.length := by
      unfold heldX
      rw [th, hh]
      show _ ++ [] = _
      rw [List.append_nil]
    rw [List.append_nil]
    refine MI0.rootStep mi n12 l140 ok h8 ?_ hn
    rw [ho, hx]
    unfold ownX
    have e1 : (names0 ++ [x]).length - 1 = names0.length := by rw [List.length_append]; rfl
    rw [e1, List.getD_eq_getElem?_getD, List.getElem?_append_right (Nat.le_refl _), Nat.sub_self]
    cases (Nd.mk κ [] [] none).isF with
    | true => rw [if_pos ⟨by omega, rfl⟩, if_pos rfl]; rfl
    | false => rw [if_neg (fun z => Bool.false_ne_true z.2), if_neg Bool.false_ne_true]
theorem newT_get {κ : Kn} {out : List (Str × Hm)} {n : Nat} {dep : Int} {j : Nat} {h : Hol} (e : κ.ho[j]? = some h) : (newT κ out n dep)[j]? = some ⟨out, h, (n : Int), dep, j⟩ := by
  unfold newT
  rw [List.getElem?_map, List.getElem?_zipIdx, e]
  show some (Td.mk out h (n : Int) dep (0 + j)) = _
  rw [Nat.zero_add]
theorem newH_sub {H H' : Hp} : Same (newH H H') H' := fun b u e => (newH_inv e).2
theorem newH_none {H H' : Hp} {a : Addr} {o : HO} (h : H a = some o) : newH H H' a = none := by unfold newH; rw [h]
theorem kn_isF {κ : Kn} (h : κ.ok) : decide (κ.s = "fn") = (Nd.mk κ [] [] none).isF := by
  cases κ with
  | op s m => exact pl_ne h.1 (by decide +kernel)
  | num a => exact (show decide (("num" : Str) = "fn") = false from by decide +kernel)
  | name a => exact (show decide (("name" : Str) = "fn") = false from by decide +kernel)
  | fn a => exact (show decide (("fn" : Str) = "fn") = true from by decide +kernel)
  | tag a => exact (show decide (("tag" : Str) = "fn") = false from by decide +kernel)
  | lt a => exact (show decide (("let" : Str) = "fn") = false from by decide +kernel)
  | get a => exact (show decide (("get" : Str) = "fn") = false from by decide +kernel)
  | rcd a => exact (show decide (("rec" : Str) = "fn") = false from by decide +kernel)
  | case a => exact (show decide (("case" : Str) = "fn") = false from by decide +kernel)
  | row a => exact (show decide (("row" : Str) = "fn") = false from by decide +kernel)
theorem exL_len (f q : Int) (h : Hol) : (exL f q h).length ≤ 1 := by
  unfold exL
  split
  · exact Nat.zero_le _
  · exact Nat.le_refl _
theorem mi_seg {names : List Str} {roots : List Nat} {L : List Nd} {t : Td} {T1 : List Td} (m : Mode names roots L t T1) {p : Nat} {nd : Nd} (hp : L[p]? = some nd) : nd.kids.length ≤ 101 := by
  rcases m with ⟨_, _, _, _, mi⟩ | ⟨names0, roots0, x, _, _, _, _, _, _, mi, _, _⟩
  · exact Nat.le_trans (mi.seg p nd hp).2 (nd.κ.ho_le (mi.ok nd (List.mem_of_getElem? hp)).1)
  · exact Nat.le_trans (mi.seg p nd hp).2 (nd.κ.ho_le (mi.ok nd (List.mem_of_getElem? hp)).1)
theorem dtas_nil {H : Hp} {xs : List V} (h : Dtas H xs []) : xs = [] := by cases h; rfl
theorem held_flat {H : Hp} {v : V} {x : V} (h : Dta H v (.flat x)) : v = x := by cases h; rfl
theorem hl_inv {N : Hp} {v : V} {h : Hol} (d : Dta N v (hlD h)) : ∃ e, v = .ref e ∧ N e = some (.lst [hoV h.1, .str h.2]) := by
  unfold hlD at d
  cases d with
  | @lst e xs _ he hs =>
    cases hs with
    | cons h1 hs =>
      cases hs with
      | cons h2 hs =>
        cases hs
        cases held_flat h1
        cases held_flat h2
        exact ⟨e, rfl, he⟩
noncomputable def ftsF (L : List Nd) : List (Str × Str × Nat) := L.zipIdx.filterMap fun p => p.1.ft.map fun f => (f.1, f.2, p.2)
theorem ftsF_snoc (L : List Nd) (nd : Nd) : ftsF (L ++ [nd]) = ftsF L ++ (match nd.ft with | none => [] | some f => [(f.1, f.2, L.length)]) := by
  unfold ftsF
  rw [List.zipIdx_append, List.filterMap_append]
  congr 1
  show List.filterMap _ [(nd, 0 + L.length)] = _
  rw [Nat.zero_add]
  cases h : nd.ft with
  | none => simp [h]
  | some f => simp [h]
theorem addK_ft (L : List Nd) (p n : Nat) : (addK L p n).map Nd.ft = L.map Nd.ft := by
  refine List.ext_getElem? fun k => ?_
  rw [List.getElem?_map, List.getElem?_map]
  cases h : L[k]? with
  | none => rw [List.getElem?_eq_none (by rw [addK_len]; exact List.getElem?_eq_none_iff.mp h)]
  | some nd =>
    rw [addK_at h]
    show some (Nd.ft (if k = p then _ else nd)) = some nd.ft
    split <;> rfl
theorem ftsF_eq {L L' : List Nd} (h : L.map Nd.ft = L'.map Nd.ft) : ftsF L = ftsF L' := by
  have e : ∀ M : List Nd, ftsF M = (M.map Nd.ft).zipIdx.filterMap fun p => p.1.map fun f => (f.1, f.2, p.2) := fun M => by
    unfold ftsF
    rw [List.zipIdx_map, List.filterMap_map]
    rfl
  rw [e L, e L', h]
noncomputable def PL (H0 H : Hp) (a : Ad) (KA : List Addr) (kv tv uv : List V) (names : List Str) (roots : List Nat) (L : List Nd) (T : List Td) : Prop := PH H0 H a KA kv tv uv names roots (L.map Nd.κ) (L.map Nd.kids) (ftsF L) T
noncomputable def Made (H : Hp) (t : Addr) (names : List Str) (roots : List Nat) (L : List Nd) : Prop := ∃ (n r w u : Addr) (xs us : List V), H t = some (.tup [.ref n, .ref r, .ref w, .ref u]) ∧ H n = some (.lst (names.map V.str)) ∧ H r = some (.lst (roots.map nI)) ∧ H w = some (.lst xs) ∧ Ims H xs (L.map fun nd => nd.ro.d) ∧ H u = some (.lst us) ∧ Dtas H us ((ftsF L).map ftD)
theorem td_inv {N : Hp} {v : V} {t : Td} (h : Dta N v t.d) : ∃ (e hl : Addr), v = .ref e ∧ N e = some (.lst [.ref hl, .str (hoW t.ho), .int t.par, .int t.dep]) ∧ N hl = some (.lst ((t.held.map Prod.fst).map V.str)) := by
  unfold Td.d at h
  cases h with
  | @lst e xs _ he hs =>
    cases hs with
    | cons h1 hs =>
      cases hs with
      | cons h3 hs =>
        cases hs with
        | cons h4 hs =>
          cases hs with
          | cons h5 hs =>
            cases hs
            cases held_flat h3
            cases held_flat h4
            cases held_flat h5
            cases h1 with
            | @lst hl hv _ eh hh => exact ⟨e, hl, rfl, he, by rw [← dtas_sD hh]; exact eh⟩
noncomputable def WI (H : Hp) (W C : Addr) (ws : List Str) (seed rate : Int) (a : Ad) (m : Nat) (σ : St) (H2 : Hp) : Prop := ∃ (names : List Str) (roots : List Nat) (L : List Nd) (T : List Td) (KA : List Addr) (kv tv uv : List V) (f : Int) (o11 o12 o13 o14 o15 o16 o17 o18 o19 o20 : Option V),
  σ = [some (.ref W), some (.int seed), some (.int rate), some (.ref C), some (.ref a.n), some (.ref a.r), some (.ref a.k), some (.ref a.d), some (.ref a.u), some (.ref a.t), some (.int f), o11, o12, o13, o14, o15, o16, o17, o18, o19, o20, none] ∧ 0 ≤ f ∧
  PL H H2 a KA kv tv uv names roots L T ∧ MI0 names roots L T ∧ names = (List.range names.length).map (nmF ws seed) ∧ (∀ t ∈ T, t.held.length ≤ 20 + L.length ∧ ∀ p ∈ t.held, 5 ≤ p.1.length) ∧ m = 151 - L.length
noncomputable def FinP (H : Hp) (W C : Addr) (ws : List Str) (seed rate : Int) (a : Ad) (σ : St) (H2 : Hp) : Prop := ∃ (names : List Str) (roots : List Nat) (L : List Nd) (KA : List Addr) (kv uv : List V) (o10 o11 o12 o13 o14 o15 o16 o17 o18 o19 o20 : Option V),
  σ = [some (.ref W), some (.int seed), some (.int rate), some (.ref C), some (.ref a.n), some (.ref a.r), some (.ref a.k), some (.ref a.d), some (.ref a.u), some (.ref a.t), o10, o11, o12, o13, o14, o15, o16, o17, o18, o19, o20, none] ∧
  PL H H2 a KA kv [] uv names roots L [] ∧ MI0 names roots L [] ∧ names = (List.range names.length).map (nmF ws seed)
end K11.Internal
namespace K11.Internal
open PySem L2.Internal BO.Internal
seal L2.Internal.PE L2.Internal.PA L2.Internal.PS L2.Internal.PSs L2.Internal.PT L2.Internal.PI
theorem noD_same {D : Addr} {H H' : Hp} (f : FrD D H H') : Same (noD H D) (noD H' D) := fun b u e => noD_of (noD_inv e).1 (f b u (noD_inv e).2 (noD_inv e).1)
theorem Kws.same {H H' : Hp} {hv : List V} {kn : List Str} (h : Kws H hv kn) (s : Same H H') : Kws H' hv kn := ⟨h.1, fun j v hj => let ⟨w, a, g1, g2, g3⟩ := h.2 j v hj; ⟨w, a, g1, g2, s _ _ g3⟩⟩
theorem ftsF_le (L : List Nd) : (ftsF L).length ≤ L.length := by
  unfold ftsF
  refine Nat.le_trans (List.length_filterMap_le _ _) ?_
  rw [List.length_zipIdx]
  exact Nat.le_refl _
theorem defs_fst (names : List Str) : (defs names names.length).map Prod.fst = names := by
  unfold defs
  rw [List.map_map]
  refine List.ext_getElem? fun k => ?_
  rw [List.getElem?_map]
  by_cases hk : k < names.length
  · rw [List.getElem?_range hk, List.getElem?_eq_getElem hk]
    show some (names.getD k "") = _
    rw [List.getD_eq_getElem?_getD, List.getElem?_eq_getElem hk]
    rfl
  · rw [List.getElem?_eq_none (by rw [List.length_range]; omega), List.getElem?_eq_none (by omega)]
    rfl
theorem hole_w {i : Nat} {σ : St} {H : Hp} {Q : VK} {ex : Addr} {h : Hol} (hv : σ[i]? = some (some (.ref ex))) (he : H ex = some (.lst [hoV h.1, .str h.2])) (k : Q (.str (hoW h)) H) : tIf (tB (tIsN (tOp cIxL (cV i) (tC (.int 0))))) (tC (.str "")) (tOp cIxL (cV i) (tC (.int 0))) σ H Q := by
  have rd : ∀ R : VK, R (hoV h.1) H → tOp cIxL (cV i) (tC (.int 0)) σ H R := fun R r => by
    show onV σ[i]? _
    rw [hv]
    exact ⟨_, he, onS_of (atI_nat (j := 0) rfl) r⟩
  refine rd _ ⟨_, rfl, ?_⟩
  obtain ⟨o, how⟩ := h
  cases o with
  | none => exact iteT k
  | some x => exact iteF (rd _ k)
theorem hole_l {j i : Nat} {v : V} {ta : TA} {σ : St} {H : Hp} {Q : VK} {ex : Addr} {h : Hol} (hj : σ[j]? = some (some v)) (hv : σ[i]? = some (some (.ref ex))) (he : H ex = some (.lst [hoV h.1, .str h.2])) (k : tLst (tCons (cV j) (tCons (tC (.str (hoW h))) ta)) σ H Q) : tLst (tCons (cV j) (tCons (tIf (tB (tIsN (tOp cIxL (cV i) (tC (.int 0))))) (tC (.str "")) (tOp cIxL (cV i) (tC (.int 0)))) ta)) σ H Q := by
  have k' : onV σ[j]? _ := k
  rw [hj] at k'
  show onV σ[j]? _
  rw [hj]
  exact hole_w hv he k'
section
variable {P : Program} {w : World} {K : PySem.W.Frag} {mg : Str → Option Value} {base : Heap}
noncomputable def sp__law_program : Sp := fun vs H Q _ => ∃ (W C : Addr) (ws : List Str) (seed rate : Int) (cs : List Int), vs = [.ref W, .int seed, .int rate, .ref C] ∧ Wd H W ws ∧ 0 ≤ seed ∧ seed < 1000000000 ∧ H C = some (.lst (cs.map V.int)) ∧ cs.length ≤ 1000 ∧
  ∀ t names roots L H', Same H H' → H t = none → MI0 names roots L [] → names.Nodup → (∀ n ∈ names, 5 ≤ n.length) → Made H' t names roots L → Q (.ref t) H'
theorem ok__law_program (T : Txt K mg) : FnOk P w K mg base CX0 3 T.a__law_program T.fd__law_program ["_law_words_here", "_law_seed", "_law_rate", "_law_cells"] sp__law_program := by
  have G__law_stands := ok__law_stands (P := P) (w := w) (base := base) T
  have G__law_spoilt := ok__law_spoilt (P := P) (w := w) (base := base) T
  have G__law_row := ok__law_row (P := P) (w := w) (base := base) T
  refine T.F__law_program.ok sc__law_program (fun vs H Q E h => ?_) (fun cdv A outer s H vs Q E hr h => ?_)
  · obtain ⟨W, C, ws, seed, rate, cs, rfl, _⟩ := h
    rfl
  obtain ⟨W, C, ws, seed, rate, cs, rfl, wd, sd0, sd1, eC, cl, q⟩ := h
  refine ⟨_, (pss_cons (ps_set (i := 4) sc__law_program.nd rfl (Or.inl rfl) (pe_lst pa_nil))
    (pss_cons (ps_set (i := 5) sc__law_program.nd rfl (Or.inl rfl) (pe_lst pa_nil))
    (pss_cons (ps_set (i := 6) sc__law_program.nd rfl (Or.inr rfl) (pe_lst pa_nil))
    (pss_cons (ps_set (i := 7) sc__law_program.nd rfl (Or.inr rfl) (pe_lst pa_nil))
    (pss_cons (ps_set (i := 8) sc__law_program.nd rfl (Or.inl rfl) (pe_lst pa_nil))
    (pss_cons (ps_set (i := 9) sc__law_program.nd rfl (Or.inl rfl) (pe_lst pa_nil))
    (pss_cons (ps_set (i := 10) sc__law_program.nd rfl (Or.inl rfl) pe_int)
    (pss_cons (ps_while PassesOwn.never (PW.pt (pw_or (ptc_cmpR oc_lt (cv 10) (pe_callB call_len_seq rfl T.z_len bt_len (pa_cons (cv 3) pa_nil)) (nomark _)) (pw_or (ptc_cmpR oc_gt (pe_callB call_len_seq rfl T.z_len bt_len (pa_cons (cv 9) pa_nil)) pe_int (nomark _)) (pw_or1 (ptc_cmpR oc_eq (pe_callB call_len_seq rfl T.z_len bt_len (pa_cons (cv 4) pa_nil)) pe_int (nomark _))))))
      (pss_cons (ps_set (i := 11) sc__law_program.nd rfl (Or.inl rfl) (pe_op oc_mod (cv 10) pe_int))
      (pss_cons (ps_if (ptc_cmpR oc_lt (cv 10) (pe_callB call_len_seq rfl T.z_len bt_len (pa_cons (cv 3) pa_nil)) (nomark _))
        (pss_one (ps_set (i := 11) sc__law_program.nd rfl (Or.inl rfl) (pe_op oc_mod (pe_ix xc_list (cv 3) (cv 10) (fun _ _ => rfl)) (pe_op oc_pow pe_int pe_int))))
        pss_nil)
      (pss_cons (ps_set (i := 10) sc__law_program.nd rfl (Or.inl rfl) (pe_op oc_add (cv 10) pe_int))
      (pss_cons (ps_if (ptc_cmpR oc_eq (pe_callB call_len_seq rfl T.z_len bt_len (pa_cons (cv 9) pa_nil)) pe_int (nomark _))
        (pss_cons (ps_if (PW.pt (pw_or (ptc_cmpR oc_eq (pe_callB call_len_seq rfl T.z_len bt_len (pa_cons (cv 4) pa_nil)) pe_int (nomark _)) (pw_or1 (ptc_cmpR oc_gt (pe_callB call_len_seq rfl T.z_len bt_len (pa_cons (cv 6) pa_nil)) pe_int (nomark _)))))
          (pss_one ps_break)
          pss_nil)
        (pss_cons (ps_expr (pec_app (pe_bm PySem.F.plainAttrs_list PySem.F.slot_list_append PySem.F.type_list_append mt_append (PE.mono (cv 9)) (pa_cons (PE.mono (pe_lst (pa_cons (pe_callTy call_list_of rfl T.z_list bt_list (pa_cons (cv 4) pa_nil)) (pa_cons pe_str (pa_cons (pe_un un_neg pe_int) (pa_cons pe_int pa_nil)))))) pa_nil))))
        (pss_cons (ps_expr (pec_app (pe_bm PySem.F.plainAttrs_list PySem.F.slot_list_append PySem.F.type_list_append mt_append (PE.mono (cv 5)) (pa_cons (PE.mono (pe_callB call_len_seq rfl T.z_len bt_len (pa_cons (cv 6) pa_nil))) pa_nil))))
        (pss_one (ps_expr (pec_app (pe_bm PySem.F.plainAttrs_list PySem.F.slot_list_append PySem.F.type_list_append mt_append (PE.mono (cv 4)) (pa_cons (PE.mono (pe_ix xc_list (cv 0) (pe_op oc_mod (pe_op oc_add (pe_op oc_mul (pe_callB call_len_seq rfl T.z_len bt_len (pa_cons (cv 4) pa_nil)) (pe_op oc_add pe_int (pe_op oc_mul (pe_op oc_mod (cv 1) pe_int) pe_int))) (pe_op oc_fdiv (cv 1) pe_int)) pe_int) (fun _ _ => rfl))) pa_nil))))))))
        pss_nil)
      (pss_cons (ps_asg (pe_bm0 PySem.F.plainAttrs_list PySem.F.slot_list_pop PySem.F.type_list_pop mt_pop (cv 9)) (pg_lst rfl (pgs_cons (pg_name (i := 12) sc__law_program.nd rfl (Or.inl rfl)) (pgs_cons (pg_name (i := 13) sc__law_program.nd rfl (Or.inl rfl)) (pgs_cons (pg_name (i := 14) sc__law_program.nd rfl (Or.inl rfl)) (pgs_cons (pg_name (i := 15) sc__law_program.nd rfl (Or.inl rfl)) pgs_nil))))))
      (pss_cons (ps_set (i := 16) sc__law_program.nd rfl (Or.inl rfl) (pe_callB call_len_seq rfl T.z_len bt_len (pa_cons (cv 6) pa_nil)))
      (pss_cons (ps_if (ptc_cmpR oc_ge (cv 14) pe_int (nomark _))
        (pss_one (ps_expr (pec_app (pe_bm PySem.F.plainAttrs_list PySem.F.slot_list_append PySem.F.type_list_append mt_append (PE.mono (pe_ix xc_list (cv 7) (cv 14) (fun _ _ => rfl))) (pa_cons (PE.mono (cv 16)) pa_nil)))))
        pss_nil)
      (pss_cons (ps_if (ptc_cmpR oc_ne (cv 13) pe_str (nomark _))
        (pss_one (ps_set (i := 12) sc__law_program.nd rfl (Or.inl rfl) (pe_op op_cat (cv 12) (pe_lst (pa_cons (cv 13) pa_nil)))))
        pss_nil)
      (pss_cons (ps_set (i := 17) sc__law_program.nd rfl (Or.inl rfl) (pe_call G__law_stands (hr.mono (by decide)) rfl T.m__law_stands T.k__law_stands T.b__law_stands .nil pass0 (pa_cons (cv 0) (pa_cons (cv 11) (pa_cons (pe_lc rfl (blk0 (x := "_law_one") rfl (by decide +kernel) (by decide +kernel) rfl rfl) (pi_list (cv 12)) (fun _ _ _ _ _ => pts_nil) (fun _ _ _ _ _ => (pe_lst (pa_cons (cv 0) (pa_cons pe_str pa_nil))))) (pa_cons (pe_op oc_mul (pe_op oc_sub (pe_op oc_sub pe_int (cv 16)) (pe_callB call_len_seq rfl T.z_len bt_len (pa_cons (cv 9) pa_nil))) (pe_callTy call_int1 rfl T.z_int bt_int (pa_cons (pe_cmpR oc_lt (cv 15) pe_int (nomark _)) pa_nil))) pa_nil))))))
      (pss_cons (ps_asg (pe_call G__law_spoilt (hr.mono (by decide)) rfl T.m__law_spoilt T.k__law_spoilt T.b__law_spoilt .nil pass0 (pa_cons (cv 0) (pa_cons (cv 11) (pa_cons (cv 12) (pa_cons (pe_ix xc_list (cv 4) (pe_op oc_sub (pe_callB call_len_seq rfl T.z_len bt_len (pa_cons (cv 4) pa_nil)) pe_int) (fun _ _ => rfl)) (pa_cons (cv 17) (pa_cons (cv 2) pa_nil))))))) (pg_lst rfl (pgs_cons (pg_name (i := 17) sc__law_program.nd rfl (Or.inl rfl)) (pgs_cons (pg_name (i := 18) sc__law_program.nd rfl (Or.inl rfl)) (pgs_cons (pg_name (i := 19) sc__law_program.nd rfl (Or.inl rfl)) pgs_nil)))))
      (pss_cons (ps_if (ptc_cmpR oc_ne (cv 18) pe_str (nomark _))
        (pss_one (ps_expr (pec_app (pe_bm PySem.F.plainAttrs_list PySem.F.slot_list_append PySem.F.type_list_append mt_append (PE.mono (cv 8)) (pa_cons (PE.mono (pe_lst (pa_cons (cv 18) (pa_cons (cv 19) (pa_cons (cv 16) pa_nil))))) pa_nil)))))
        pss_nil)
      (pss_cons (ps_expr (pec_app (pe_bm PySem.F.plainAttrs_list PySem.F.slot_list_append PySem.F.type_list_append mt_append (PE.mono (cv 6)) (pa_cons (PE.mono (cv 17)) pa_nil))))
      (pss_cons (ps_expr (pec_app (pe_bm PySem.F.plainAttrs_list PySem.F.slot_list_append PySem.F.type_list_append mt_append (PE.mono (cv 7)) (pa_cons (PE.mono (pe_lst pa_nil)) pa_nil))))
      (pss_cons (ps_if (PW.pt (pw_and (ptc_cmpR oc_lt (cv 14) pe_int (nomark _)) (pw_and1 (ptc_cmpR oc_eq (pe_ix xc_list (cv 17) pe_int (fun _ _ => rfl)) pe_str (nomark _)))))
        (pss_one (ps_set (i := 12) sc__law_program.nd rfl (Or.inl rfl) (pe_op op_cat (cv 12) (pe_lst (pa_cons (pe_ix xc_list (cv 4) (pe_op oc_sub (pe_callB call_len_seq rfl T.z_len bt_len (pa_cons (cv 4) pa_nil)) pe_int) (fun _ _ => rfl)) pa_nil)))))
        pss_nil)
      (pss_one (ps_for PassesOwn.never rfl (pi_rev rfl T.z_reversed (pa_cons (pe_ix xc_list (cv 17) pe_int (fun _ _ => rfl)) pa_nil)) (pg_name (i := 20) sc__law_program.nd rfl (Or.inl rfl))
        (pss_one (ps_expr (pec_app (pe_bm PySem.F.plainAttrs_list PySem.F.slot_list_append PySem.F.type_list_append mt_append (PE.mono (cv 9)) (pa_cons (PE.mono (pe_lst (pa_cons (cv 12) (pa_cons (pe_ifExp (pt_cmp (pc_isN (pe_ix xc_list (cv 20) pe_int (fun _ _ => rfl)))) pe_str (pe_ix xc_list (cv 20) pe_int (fun _ _ => rfl))) (pa_cons (cv 16) (pa_cons (pe_op oc_add (cv 15) pe_int) pa_nil)))))) pa_nil))))))))))))))))))))))
    (pss_cons (ps_setLC (j := 21) rfl (blkC (x := "_law_k") ["_law_kinds", "_law_kids"] [("_law_kinds", 6, s.heap.objs.size + 1), ("_law_kids", 7, s.heap.objs.size + 2)] rfl rfl (by decide +kernel) (by decide +kernel) rfl (by decide +kernel) rfl rfl (by intro p hp; simp only [List.mem_cons, List.not_mem_nil, or_false] at hp; rcases hp with rfl | rfl <;> exact ⟨rfl, rfl, rfl, rfl⟩)) (pi_range1 rfl T.z_range (pa_cons (pe_callB call_len_seq rfl T.z_len bt_len (pa_cons (cv 6) pa_nil)) pa_nil)) (fun _ _ _ _ _ => pts_nil) (fun _ _ _ _ _ => (pe_call G__law_row (hr.mono (by decide)) rfl T.m__law_row T.k__law_row T.b__law_row .nil pass0 (pa_cons (pe_ix xc_list (pe_ix xc_list (cv 1) (cv 0) (fun _ _ => rfl)) pe_int (fun _ _ => rfl)) (pa_cons (pe_ix xc_list (pe_ix xc_list (cv 1) (cv 0) (fun _ _ => rfl)) pe_int (fun _ _ => rfl)) (pa_cons (pe_ix xc_list (cv 2) (cv 0) (fun _ _ => rfl)) pa_nil))))) sc__law_program.nd rfl (Or.inl rfl))
    (pss_one (ps_ret (pe_tup (pa_cons (cv 4) (pa_cons (cv 5) (pa_cons (cv 21) (pa_cons (cv 8) pa_nil)))))))))))))))), ?_⟩
  have sl : sizeLine = 16777216 := sizeLine_eq
  have z0 : 0 ≤ sizeLine := by decide
  refine ⟨z0, fun ln h1 => ?_⟩
  have s1 := same_new h1 (.lst [])
  have e1 : (upd H ln (.lst [])) ln = some (.lst []) := upd_same
  dsimp only [gName]
  generalize upd H ln (.lst []) = H1 at s1 e1 ⊢
  refine ⟨z0, fun lr h2 => ?_⟩
  have s2 := same_new h2 (.lst [])
  have e2 : (upd H1 lr (.lst [])) lr = some (.lst []) := upd_same
  dsimp only [gName]
  generalize upd H1 lr (.lst []) = H2 at s2 e2 ⊢
  refine ⟨z0, fun lk h3 => ?_⟩
  have s3 := same_new h3 (.lst [])
  have e3 : (upd H2 lk (.lst [])) lk = some (.lst []) := upd_same
  dsimp only [gName]
  generalize upd H2 lk (.lst []) = H3 at s3 e3 ⊢
  refine ⟨z0, fun ld h4 => ?_⟩
  have s4 := same_new h4 (.lst [])
  have e4 : (upd H3 ld (.lst [])) ld = some (.lst []) := upd_same
  dsimp only [gName]
  generalize upd H3 ld (.lst []) = H4 at s4 e4 ⊢
  refine ⟨z0, fun lu h5 => ?_⟩
  have s5 := same_new h5 (.lst [])
  have e5 : (upd H4 lu (.lst [])) lu = some (.lst []) := upd_same
  dsimp only [gName]
  generalize upd H4 lu (.lst []) = H5 at s5 e5 ⊢
  refine ⟨z0, fun lt h6 => ?_⟩
  have s6 := same_new h6 (.lst [])
  have e6 : (upd H5 lt (.lst [])) lt = some (.lst []) := upd_same
  dsimp only [gName]
  generalize upd H5 lt (.lst []) = H6 at s6 e6 ⊢
  obtain ⟨a, rfl, rfl, rfl, rfl, rfl, rfl⟩ : ∃ a : Ad, a.n = ln ∧ a.r = lr ∧ a.k = lk ∧ a.d = ld ∧ a.u = lu ∧ a.t = lt := ⟨⟨ln, lr, lk, ld, lu, lt⟩, rfl, rfl, rfl, rfl, rfl, rfl⟩
  have S12 := s1.trans s2
  have S13 := S12.trans s3
  have S14 := S13.trans s4
  have S15 := S14.trans s5
  have S16 := S15.trans s6
  have ph0 : PL H H6 a [] [] [] [] [] [] [] [] := by
    refine ⟨S16, ?_, ?_, (s2.trans (s3.trans (s4.trans (s5.trans s6)))) _ _ e1, (s3.trans (s4.trans (s5.trans s6))) _ _ e2, (s4.trans (s5.trans s6)) _ _ e3, .nil, (s5.trans s6) _ _ e4, rfl, fun i x ks h => (by cases h), s6 _ _ e5, .nil, e6, .nil⟩
    · have n12 : a.n ≠ a.r := ne_of_none e1 h2
      have n13 : a.n ≠ a.k := ne_of_none (s2 _ _ e1) h3
      have n14 : a.n ≠ a.d := ne_of_none ((s2.trans s3) _ _ e1) h4
      have n15 : a.n ≠ a.u := ne_of_none ((s2.trans (s3.trans s4)) _ _ e1) h5
      have n16 : a.n ≠ a.t := ne_of_none ((s2.trans (s3.trans (s4.trans s5))) _ _ e1) h6
      have n23 : a.r ≠ a.k := ne_of_none e2 h3
      have n24 : a.r ≠ a.d := ne_of_none (s3 _ _ e2) h4
      have n25 : a.r ≠ a.u := ne_of_none ((s3.trans s4) _ _ e2) h5
      have n26 : a.r ≠ a.t := ne_of_none ((s3.trans (s4.trans s5)) _ _ e2) h6
      have n34 : a.k ≠ a.d := ne_of_none e3 h4
      have n35 : a.k ≠ a.u := ne_of_none (s4 _ _ e3) h5
      have n36 : a.k ≠ a.t := ne_of_none ((s4.trans s5) _ _ e3) h6
      have n45 : a.d ≠ a.u := ne_of_none e4 h5
      have n46 : a.d ≠ a.t := ne_of_none (s5 _ _ e4) h6
      have n56 : a.u ≠ a.t := ne_of_none e5 h6
      simp [Ad.l, n12, n13, n14, n15, n16, n23, n24, n25, n26, n34, n35, n36, n45, n46, n56]
    · intro x hx
      rw [List.append_nil] at hx
      unfold Ad.l at hx
      simp only [List.mem_cons, List.not_mem_nil, or_false] at hx
      rcases hx with rfl | rfl | rfl | rfl | rfl | rfl
      · exact h1
      · exact s1.free h2
      · exact S12.free h3
      · exact S13.free h4
      · exact S14.free h5
      · exact S15.free h6
  refine while_mid (FinP H W C ws seed rate a) ?_ ?_
  · rintro σ H7 ⟨names, roots, L, KA, kv, uv, o10, o11, o12, o13, o14, o15, o16, o17, o18, o19, o20, rfl, ph, mi, hnm⟩
    have kvl := dtas_len ph.kd
    rw [List.length_map, List.length_map] at kvl
    have Ll := mi.sz
    have dl := ph.dl
    rw [List.length_map] at dl
    refine ⟨a.k, _, rfl, .inl (SqL.of ph.k), _, rfl, by omega, by omega, fun D hD => ?_⟩
    refine lc_gen ((kv.length : Int).toNat) (by omega) (fun xs Hc => Ims Hc xs ((L.take xs.length).map fun nd : Nd => nd.ro.d)) (fun xs H H' h tk => h.mono tk) hD rfl (fun k H _ h => go_rng h) (fun H _ => Nat.le_refl _) .nil ?_ ?_
    · intro k H8 v H9 xs Z S hk y hx hxl hZ
      obtain ⟨rfl, rfl⟩ := y
      have hkL : k < L.length := by omega
      obtain ⟨nd, hnd⟩ : ∃ nd, L[k]? = some nd := ⟨_, List.getElem?_eq_getElem hkL⟩
      obtain ⟨v0, hv0⟩ : ∃ v0, kv[k]? = some v0 := ⟨_, List.getElem?_eq_getElem (by omega)⟩
      obtain ⟨d, hd, hdt⟩ := dtas_get ph.kd hv0
      rw [List.getElem?_map, List.getElem?_map, hnd] at hd
      cases hd
      obtain ⟨st, hh, mv, hs, rfl, est, dmo, _, _⟩ := kn_dta hdt
      have est := S _ _ (mask_sub _ _ est)
      have e0 : atI kv (0 + (k : Int)) = some (.ref st) := by rw [Int.zero_add]; exact atI_nat hv0
      obtain ⟨x, hx0⟩ : ∃ x, KA[k]? = some x := ⟨_, List.getElem?_eq_getElem (by omega)⟩
      have e1 : atI (KA.map V.ref) (0 + (k : Int)) = some (.ref x) := by rw [Int.zero_add]; exact atI_nat (by rw [List.getElem?_map, hx0]; rfl)
      have ek := S _ _ ph.k
      refine ⟨_, ek, onS_of e0 ⟨_, est, onS_of (atI_nat (j := 0) rfl) ⟨_, ek, onS_of e0 ⟨_, est, onS_of (atI_nat (j := 1) rfl) ⟨_, S _ _ ph.d, onS_of e1 ⟨nd.κ, mv, x, nd.kids.map fun k : Nat => (k : Int), rfl, (mi.ok nd (List.mem_of_getElem? hnd)).1, by rw [List.length_map]; exact mi.full hnd, (dmo.same mask_sub).same S, ?_, fun t H' S' im => hZ _ _ S' ?_⟩⟩⟩⟩⟩⟩
      · rw [List.map_map]
        exact S _ _ (ph.dk k x nd.kids hx0 (by rw [List.getElem?_map, hnd]; rfl))
      · rw [List.length_append, List.length_singleton, List.take_add_one, hxl, hnd, List.map_append]
        rw [hxl] at hx
        exact (hx.mono (Same.tk S')).app (.cons im .nil)
    · intro H8 xs S hx hxl e
      rw [hxl, List.take_of_length_le (by omega)] at hx
      refine ⟨(by show 4 ≤ sizeLine; decide), fun t ht => ?_⟩
      have st := same_new ht (.tup [.ref a.n, .ref a.r, .ref D, .ref a.u])
      have S8 := S.trans st
      have nn : names.Nodup := by rw [hnm]; exact nm_nd wd.2.1 wd.2.2.1 seed (by have := mi.nl; omega)
      have nne : ∀ n ∈ names, 5 ≤ n.length := fun n hn => by
        rw [hnm] at hn
        obtain ⟨k, _, rfl⟩ := List.mem_map.mp hn
        exact (wd.2.2.2 _ (wa_mem wd.2.1 (Int.emod_nonneg _ (by decide)) (Int.emod_lt_of_pos _ (by decide)))).2
      exact q t names roots L _ (ph.S.trans S8) ((ph.S.trans S).free ht) mi nn nne ⟨a.n, a.r, D, a.u, xs, uv, upd_same, S8 _ _ ph.n, S8 _ _ ph.r, st _ _ e, hx.mono (Same.tk st), S8 _ _ ph.u, (ph.ud.same mask_sub).same S8⟩
  · intro Nx hNx
    refine ⟨WI H W C ws seed rate a, ⟨151, [], [], [], [], [], [], [], [], 0, none, none, none, none, none, none, none, none, none, none, rfl, Int.le_refl _, ph0, MI0.nil, rfl, fun t ht => (by cases ht), rfl⟩, ?_⟩
    rintro m σ H7 ⟨names, roots, L, T', KA, kv, tv, uv, f, o11, o12, o13, o14, o15, o16, o17, o18, o19, o20, rfl, f0, ph, mi, hnm, hb, rfl⟩
    have kvl := dtas_len ph.kd
    rw [List.length_map, List.length_map] at kvl
    have tvl := dtas_len ph.td
    rw [List.length_map] at tvl
    have uvl := dtas_len ph.ud
    rw [List.length_map] at uvl
    have ful := ftsF_le L
    have dl := ph.dl
    rw [List.length_map] at dl
    have Ll := mi.sz
    have nl := mi.nl
    have eC7 := ph.S _ _ eC
    refine or3 (decide (f < (cs.length : Int))) (decide (0 < T'.length)) (decide (names.length = 0)) (fun R h => ⟨C, _, rfl, .inl (SqL.of eC7), ?_⟩) (fun R h => ⟨a.t, _, rfl, .inl (SqL.of ph.t), ?_⟩) (fun R h => ⟨a.n, _, rfl, .inl (SqL.of ph.n), ?_⟩) ?_
    · show R (decide (f < (((cs.map V.int).length : Nat) : Int))) H7
      rw [List.length_map]; exact h
    · show R (decide ((0 : Int) < ((tv.reverse.length : Nat) : Int))) H7
      rw [List.length_reverse, tvl, show decide ((0 : Int) < (T'.length : Int)) = decide (0 < T'.length) from decide_eq_decide.mpr (by omega)]; exact h
    · show R (false ^^ decide ((((names.map V.str).length : Nat) : Int) = 0)) H7
      rw [Bool.false_xor, List.length_map, show decide ((names.length : Int) = 0) = decide (names.length = 0) from decide_eq_decide.mpr (by omega)]; exact h
    cases hbb : (decide (f < (cs.length : Int)) || (decide (0 < T'.length) || decide (names.length = 0))) with
    | false =>
      rw [Bool.or_eq_false_iff, Bool.or_eq_false_iff, decide_eq_false_iff_not, decide_eq_false_iff_not, decide_eq_false_iff_not] at hbb
      have hT : T' = [] := List.eq_nil_of_length_eq_zero (by omega)
      subst hT
      have htv : tv = [] := List.eq_nil_of_length_eq_zero tvl
      subst htv
      exact iteF (hNx _ _ ⟨names, roots, L, KA, kv, uv, _, _, _, _, _, _, _, _, _, _, _, rfl, ph, mi, hnm⟩)
    | true =>
      refine iteT ⟨fun σ' H' => ∃ m', m' < 151 - L.length ∧ WI H W C ws seed rate a m' σ' H', fun _ _ h => h, ?_⟩
      refine ⟨(by show (0 : Int) < 5; decide), ?_⟩
      dsimp only [gName]
      refine if_join (fun σ' H' => H' = H7 ∧ ∃ cell : Int, σ' = [some (.ref W), some (.int seed), some (.int rate), some (.ref C), some (.ref a.n), some (.ref a.r), some (.ref a.k), some (.ref a.d), some (.ref a.u), some (.ref a.t), some (.int f), some (.int cell), o12, o13, o14, o15, o16, o17, o18, o19, o20, none]) (decide (f < (cs.length : Int))) (fun R h => ⟨C, _, rfl, .inl (SqL.of eC7), ?_⟩) (fun h N hN => ?_) (fun h N hN => hN _ _ ⟨rfl, _, rfl⟩) ?_
      · show R (decide (f < (((cs.map V.int).length : Nat) : Int))) H7
        rw [List.length_map]; exact h
      · have hf := of_decide_eq_true h
        obtain ⟨c, hc⟩ : ∃ c, cs[f.toNat]? = some c := ⟨_, List.getElem?_eq_getElem (by omega)⟩
        have hat : atI (cs.map V.int) f = some (.int c) := by
          have e : f = ((f.toNat : Nat) : Int) := by omega
          rw [e]
          exact atI_nat (by rw [List.getElem?_map, hc]; rfl)
        exact ⟨_, eC7, onS_of hat ⟨⟨by decide, by decide, by decide⟩, (by show (0 : Int) < 10 ^ (64 : Int).toNat; decide +kernel), hN _ _ ⟨rfl, _, rfl⟩⟩⟩
      rintro σ H7 ⟨rfl, cell, rfl⟩
      refine seq_addI rfl ?_
      refine if_join (fun σ' H8 => σ' = [some (.ref W), some (.int seed), some (.int rate), some (.ref C), some (.ref a.n), some (.ref a.r), some (.ref a.k), some (.ref a.d), some (.ref a.u), some (.ref a.t), some (.int (f + 1)), some (.int cell), o12, o13, o14, o15, o16, o17, o18, o19, o20, none] ∧ ∃ (names' : List Str) (roots' : List Nat) (t : Td) (T1 : List Td) (v : V) (tv1 : List V), PL H H8 a KA kv (v :: tv1) uv names' roots' L (t :: T1) ∧ (t.held.length ≤ 20 + L.length ∧ ∀ p ∈ t.held, 5 ≤ p.1.length) ∧ (∀ u ∈ T1, u.held.length ≤ 20 + L.length ∧ ∀ p ∈ u.held, 5 ≤ p.1.length) ∧ names' = (List.range names'.length).map (nmF ws seed) ∧ Mode names' roots' L t T1) (decide (T'.length = 0)) (fun R h => ⟨a.t, _, rfl, .inl (SqL.of ph.t), ?_⟩) (fun h N hN => ?_) (fun h N hN => ?_) ?_
      · show R (false ^^ decide (((tv.reverse.length : Nat) : Int) = 0)) H7
        rw [Bool.false_xor, List.length_reverse, tvl, show decide ((T'.length : Int) = 0) = decide (T'.length = 0) from decide_eq_decide.mpr (by omega)]; exact h
      · have hT : T' = [] := List.eq_nil_of_length_eq_zero (of_decide_eq_true h)
        subst hT
        have htv : tv = [] := List.eq_nil_of_length_eq_zero tvl
        subst htv
        refine ifc (decide (names.length = 12) || decide (140 < L.length)) (fun R h => or2 _ _ (fun R h => ⟨a.n, _, rfl, .inl (SqL.of ph.n), (by
          show R (false ^^ decide ((((names.map V.str).length : Nat) : Int) = 12)) H7
          rw [Bool.false_xor, List.length_map, show decide ((names.length : Int) = 12) = decide (names.length = 12) from decide_eq_decide.mpr (by omega)]; exact h)⟩) (fun R h => ⟨a.k, _, rfl, .inl (SqL.of ph.k), (by
          show R (decide ((140 : Int) < (kv.length : Int))) H7
          rw [kvl, show decide ((140 : Int) < (L.length : Int)) = decide (140 < L.length) from decide_eq_decide.mpr (by omega)]; exact h)⟩) h) ?_
        cases hb2 : (decide (names.length = 12) || decide (140 < L.length)) with
        | true => exact iteT (hNx _ _ ⟨names, roots, L, KA, kv, uv, _, _, _, _, _, _, _, _, _, _, _, rfl, ph, mi, hnm⟩)
        | false =>
          rw [Bool.or_eq_false_iff, decide_eq_false_iff_not, decide_eq_false_iff_not] at hb2
          refine iteF ?_
          dsimp only [tNext]
          refine ⟨⟨_, ph.t⟩, a.n, _, rfl, .inl (SqL.of ph.n), fun D hD => ⟨1, rfl, (by show 4 ≤ sizeLine; decide), fun e he => ?_⟩⟩
          · have s8 := same_new hD (.lst (names.map V.str))
            have s9 := same_new he (.lst [.ref D, .str "", .int (-1), .int 1])
            have ph9 := (ph.same s8).same s9
            have nm : ∀ {x : Addr} {Hx : Hp}, Same H7 Hx → Hx x = none → x ∉ a.l ++ KA := fun Sx hx z => by
              obtain ⟨o, ho⟩ := ph.all _ z
              rw [Sx _ _ ho] at hx
              cases hx
            refine ⟨_, ph9.t, (by show 0 < sizeLine; decide), ?_⟩
            have ph10 := ph9.todoP (v := .ref e) (t := ⟨defs names names.length, p0, -1, 1, 0⟩) (.lst (mask_of (nm s8 he) upd_same) (.cons (.lst (mask_of (nm (Same.refl _) hD) (s9 _ _ upd_same)) (by show Dtas _ _ (((defs names names.length).map Prod.fst).map sD); rw [defs_fst]; exact dtas_strs names)) (.cons (.flat rfl) (.cons (.flat rfl) (.cons (.flat rfl) .nil)))))
            generalize upd (upd (upd H7 D (.lst (names.map V.str))) e (.lst [.ref D, .str "", .int (-1), .int 1])) a.t (.lst (([] : List V).reverse ++ [.ref e])) = H10 at ph10 ⊢
            refine ⟨⟨_, ph10.r⟩, a.k, _, rfl, .inl (SqL.of ph10.k), _, ph10.r, by rw [List.length_map, mi.rl]; omega, ?_⟩
            rw [kvl]
            have ph11 := ph10.rootP L.length
            generalize upd H10 a.r (.lst (roots.map nI ++ [.int (L.length : Int)])) = H11 at ph11 ⊢
            have wd11 := ph11.S _ _ wd.1
            refine ⟨⟨_, ph11.n⟩, a.n, _, rfl, .inl (SqL.of ph11.n), (by show (0 : Int) < 8; decide), .inr ⟨by decide, by decide⟩, .inl ⟨by rw [List.length_map]; omega, by rw [List.length_map]; omega⟩, ⟨by decide, by decide⟩, (by show (0 : Int) < 16; decide), _, wd11, onS_of (wat wd.2.1 (Int.emod_nonneg _ (by decide)) (Int.emod_lt_of_pos _ (by decide))) ⟨_, ph11.n, by rw [List.length_map]; omega, hN _ _ ⟨rfl, names ++ [_], roots ++ [L.length], _, [], _, [], ph11.nameP _, ?_, fun u hu => (by cases hu), ?_, .inr ⟨names, roots, _, rfl, rfl, rfl, rfl, rfl, rfl, mi, by omega, by omega⟩⟩⟩⟩
            · refine ⟨by show (defs names names.length).length ≤ _; rw [defs_len]; omega, fun p hp => ?_⟩
              have : p.1 ∈ (defs names names.length).map Prod.fst := List.mem_map.mpr ⟨p, hp, rfl⟩
              rw [defs_fst, hnm] at this
              obtain ⟨k, _, hk⟩ := List.mem_map.mp this
              rw [← hk]
              exact (wd.2.2.2 _ (wa_mem wd.2.1 (Int.emod_nonneg _ (by decide)) (Int.emod_lt_of_pos _ (by decide)))).2
            · rw [List.length_append, List.length_singleton, List.range_succ, List.map_append, ← hnm, List.length_map]
              rfl
      · have hT : T'.length ≠ 0 := of_decide_eq_false h
        cases T' with
        | nil => exact absurd rfl hT
        | cons t T1 =>
          cases tv with
          | nil => cases tvl
          | cons v tv1 =>
            obtain ⟨p, nd, h1, h2, _⟩ := mi.tds t List.mem_cons_self
            exact hN _ _ ⟨rfl, names, roots, t, T1, v, tv1, ph, hb t List.mem_cons_self, fun u hu => hb u (List.mem_cons_of_mem _ hu), hnm, .inl ⟨p, nd, h1, h2, mi⟩⟩
      rintro σ H8 ⟨rfl, names', roots', t, T1, v, tv1, ph8, ht20, hT20, hnm', md⟩
      obtain ⟨L1, hk1, hk2, nne, nl', hok, sz1, step⟩ := md.step
      have tdh := ph8.td
      obtain ⟨dv, dtl⟩ : Dta (mask H8 (a.l ++ KA)) v t.d ∧ Dtas (mask H8 (a.l ++ KA)) tv1 (T1.map Td.d) := by
        cases tdh with
        | cons x y => exact ⟨x, y⟩
      obtain ⟨e, hl, rfl, ee, ehl⟩ := td_inv dv
      have et8 := ph8.t
      rw [List.reverse_cons] at et8
      refine ⟨.inl ⟨rfl, _, SqL.of et8⟩, a.t, _, .ref e, rfl, rfl, et8, by rw [List.length_append, List.length_singleton, Nat.add_sub_cancel, List.getElem?_append_right (Nat.le_refl _), Nat.sub_self]; rfl, ?_⟩
      rw [List.dropLast_concat]
      have ph9 := ph8.todo dtl
      have SM := mask_upd (H := H8) (M := a.l ++ KA) (l := a.t) (o := .lst tv1.reverse) PH.memT
      generalize upd H8 a.t (.lst tv1.reverse) = H9 at ph9 SM ⊢
      have ee9 := SM _ _ ee
      have ehl9 := SM _ _ ehl
      refine ⟨e, _, rfl, SqL.of (mask_sub _ _ ee9), rfl, _, _, rfl, _, _, rfl, _, _, rfl, _, _, rfl, rfl, ?_⟩
      refine ⟨a.k, _, rfl, .inl (SqL.of ph9.k), ?_⟩
      rw [kvl]
      dsimp only [gName]
      have tv1l := dtas_len dtl
      rw [List.length_map] at tv1l
      have L1l : L1.length = L.length := by
        by_cases z : 0 ≤ t.par
        · obtain ⟨p, nd, _, _, h⟩ := hk1 z
          rw [h, addK_len]
        · rw [(hk2 (by omega)).1]
      refine if_join (fun σ' H' => σ' = [some (.ref W), some (.int seed), some (.int rate), some (.ref C), some (.ref a.n), some (.ref a.r), some (.ref a.k), some (.ref a.d), some (.ref a.u), some (.ref a.t), some (.int (f + 1)), some (.int cell), some (.ref hl), some (.str (hoW t.ho)), some (.int t.par), some (.int t.dep), some (.int (L.length : Int)), o17, o18, o19, o20, none] ∧ PL H H' a KA kv tv1 uv names' roots' L1 T1 ∧ Same (mask H9 (a.l ++ KA)) H') (decide (0 ≤ t.par)) (fun R h => h) (fun h N hN => ?_) (fun h N hN => ?_) ?_
      · obtain ⟨p, nd, tp, hp, eL1⟩ := hk1 (of_decide_eq_true h)
        have plt := (List.getElem?_eq_some_iff.mp hp).1
        obtain ⟨x, hx⟩ : ∃ x, KA[p]? = some x := ⟨_, List.getElem?_eq_getElem (by omega)⟩
        have hat : atI (KA.map V.ref) t.par = some (.ref x) := by rw [tp]; exact atI_nat (by rw [List.getElem?_map, hx]; rfl)
        have hkp : (L.map Nd.kids)[p]? = some nd.kids := by rw [List.getElem?_map, hp]; rfl
        have ex := ph9.dk p x nd.kids hx hkp
        have mx : x ∈ a.l ++ KA := List.mem_append_right _ (List.mem_of_getElem? hx)
        have kl : nd.kids.length ≤ 1000 := by
          have h1 := (mi_seg md hp)
          omega
        refine ⟨_, ph9.d, onS_of hat ⟨⟨_, ex⟩, _, ex, by rw [List.length_map]; omega, hN _ _ ⟨rfl, ?_, fun b u eb => ?_⟩⟩⟩
        · have := ph9.kidP L.length hx hkp
          unfold PL
          rw [eL1, addK_κ, ftsF_eq (addK_ft L p L.length), addK_kids hp]
          exact this
        · have bx : b ≠ x := fun z => (mask_inv eb).1 (z ▸ mx)
          rw [upd_ne bx]
          exact (mask_inv eb).2
      · exact hN _ _ ⟨rfl, by rw [(hk2 (by have := of_decide_eq_false h; omega)).1]; exact ph9, mask_sub⟩
      rintro σ Hq ⟨rfl, phq, SF⟩
      have ehq := SF _ _ ehl9
      have nhl : hl ∉ a.l ++ KA := (mask_inv ehl9).1
      have h5 : ∀ w, t.ho.1 = some w → 5 ≤ w.length := by
        rcases md with ⟨p, nd, tp, hp, mi'⟩ | ⟨_, _, _, _, th, _⟩
        · intro w hw
          obtain ⟨p', nd', _, hp', hix, _⟩ := mi'.tds t List.mem_cons_self
          exact (mi'.ok nd' (List.mem_of_getElem? hp')).2 t.ho (List.mem_of_getElem? hix) w hw
        · intro w hw
          rw [th] at hw
          cases hw
      have hxk : (heldX L t).map Prod.fst = (t.held.map Prod.fst) ++ (if hoW t.ho = "" then [] else [hoW t.ho]) ∧ ∀ p ∈ heldX L t, 5 ≤ p.1.length := by
        rcases hok with h0 | ⟨w, how, h0, _⟩
        · have e1 : heldX L t = t.held := by unfold heldX; rw [h0]; show _ ++ [] = _; rw [List.append_nil]
          rw [e1, h0, if_pos (show hoW p0 = "" from rfl), List.append_nil]
          exact ⟨rfl, ht20.2⟩
        · have w5 := h5 w (by rw [h0])
          have e1 : heldX L t = t.held ++ [(w, (how, if how = ("let" : Str) then t.par + 1 else (L.length : Int)))] := by
            unfold heldX exL
            rw [h0]
            rfl
          have e2 : hoW t.ho = w := by rw [h0]; rfl
          have e3 : ¬ w = "" := by
            rintro rfl
            exact absurd w5 (by decide +kernel)
          rw [e1, e2, if_neg e3, List.map_append]
          refine ⟨rfl, fun p hp => ?_⟩
          rcases List.mem_append.mp hp with hp | hp
          · exact ht20.2 p hp
          · rw [List.mem_singleton.mp hp]
            exact w5
      have kl20 : (t.held.map Prod.fst).length ≤ 20 + L.length := by rw [List.length_map]; exact ht20.1
      refine if_join (fun σ' H' => ∃ hl' : Addr, σ' = [some (.ref W), some (.int seed), some (.int rate), some (.ref C), some (.ref a.n), some (.ref a.r), some (.ref a.k), some (.ref a.d), some (.ref a.u), some (.ref a.t), some (.int (f + 1)), some (.int cell), some (.ref hl'), some (.str (hoW t.ho)), some (.int t.par), some (.int t.dep), some (.int (L.length : Int)), o17, o18, o19, o20, none] ∧ PL H H' a KA kv tv1 uv names' roots' L1 T1 ∧ H' hl' = some (.lst (((heldX L t).map Prod.fst).map V.str)) ∧ hl' ∉ a.l ++ KA) (!decide (hoW t.ho = "")) (fun R h => ?_) (fun h N hN => ?_) (fun h N hN => hN _ _ ⟨hl, rfl, phq, ?_, nhl⟩) ?_
      · show R (true ^^ decide (hoW t.ho = "")) Hq
        rw [Bool.true_xor]
        exact h
      · have hne : ¬ hoW t.ho = "" := by
          intro z
          rw [decide_eq_true z] at h
          cases h
        rw [if_neg hne] at hxk
        refine ⟨(by show 1 ≤ sizeLine; decide), fun l3 h3 => ?_⟩
        have t3 := same_new h3 (.lst [.str (hoW t.ho)])
        refine ⟨hl, l3, _, _, rfl, rfl, t3 _ _ ehq, upd_same, by rw [List.length_map]; show _ + 1 ≤ sizeLine; omega, fun p hp => ?_⟩
        have t4 := same_new hp (.lst ((t.held.map Prod.fst).map V.str ++ [.str (hoW t.ho)]))
        refine hN _ _ ⟨p, rfl, phq.same (t3.trans t4), by rw [upd_same, hxk.1, List.map_append]; rfl, fun z => ?_⟩
        obtain ⟨o, ho⟩ := phq.all _ z
        rw [t3 _ _ ho] at hp
        cases hp
      · have he : hoW t.ho = "" := by
          by_cases z : hoW t.ho = ""
          · exact z
          · rw [decide_eq_false z] at h
            cases h
        rw [if_pos he, List.append_nil] at hxk
        rw [hxk.1]
        exact ehq
      rintro σ H9b ⟨hl', rfl, ph9b, el9, nl9⟩
      obtain ⟨kn, hkn⟩ : ∃ kn, kn = (heldX L t).map Prod.fst := ⟨_, rfl⟩
      rw [← hkn] at el9
      have knl : kn.length ≤ 21 + L.length := by
        rw [hkn, hxk.1, List.length_append]
        have : (if hoW t.ho = "" then ([] : List Str) else [hoW t.ho]).length ≤ 1 := by split <;> simp
        omega
      refine ⟨hl', rfl, ⟨_, SqL.of el9⟩, fun D hD => ?_⟩
      refine lc_genF kn.length (by omega) (fun zs Hc => Kws (noD Hc D) zs (kn.take zs.length)) (fun zs Ha Hb h fr => h.same (noD_same fr)) hD rfl (fun k H S h => go_lst el9 S (by rw [List.length_map]; exact h)) (fun H S => by have := st_lst (K := K) el9 S; rw [List.length_map] at this; exact this) ⟨rfl, fun j v h => (by cases h)⟩ ?_ ?_
      · intro k Hc v Hd zs Z Sc hk y hR hzl eD hZ
        obtain ⟨rfl, hy⟩ := y
        have hv := hy _ (SqL.of (Sc _ _ el9))
        obtain ⟨x, hx⟩ : ∃ x, kn[k]? = some x := ⟨_, List.getElem?_eq_getElem hk⟩
        rw [List.getElem?_map, hx] at hv
        cases hv
        refine ⟨(by show 2 ≤ sizeLine; decide), fun a1 h1 => hZ _ _ (same_new h1 _) ?_⟩
        have nD : a1 ≠ D := fun z => by rw [z, eD] at h1; cases h1
        have hR2 := hR.same (noD_same (D := D) (H := Hd) (H' := upd Hd a1 (.lst [.str x, .str ""])) fun b o e _ => same_new h1 _ _ _ e)
        rw [hzl] at hR2
        refine ⟨by rw [List.length_append, List.length_take, hzl]; simp; omega, fun j v hv => ?_⟩
        rw [List.length_append, List.length_singleton, hzl, List.take_add_one, hx]
        by_cases hj : j < zs.length
        · rw [List.getElem?_append_left hj] at hv
          obtain ⟨w', b, g1, g2, g3⟩ := hR2.2 j v hv
          exact ⟨w', b, by rw [List.getElem?_append_left (List.getElem?_eq_some_iff.mp g1).1]; exact g1, g2, g3⟩
        · have := (List.getElem?_eq_some_iff.mp hv).1
          rw [List.length_append, List.length_singleton] at this
          have ej : j = zs.length := by omega
          rw [ej, List.getElem?_append_right (Nat.le_refl _), Nat.sub_self] at hv
          cases hv
          refine ⟨x, a1, ?_, rfl, noD_of nD upd_same⟩
          rw [ej, hzl, List.getElem?_append_right (by rw [List.length_take]; omega), List.length_take, Nat.min_eq_left (by omega), Nat.sub_self]
          rfl
      intro Hc zs Sc hR hzl eD
      rw [hzl, List.take_length] at hR
      have kws := hR.same (noD_sub (N := Hc) (D := D))
      have phc := ph9b.same Sc
      have wdc : Wd Hc W ws := ⟨phc.S _ _ wd.1, wd.2⟩
      have c01 : ∀ b : Bool, CMul (150 - (L.length : Int) - ((tv1.reverse.length : Nat) : Int)) (if b = true then 1 else 0) := fun b => .inr (by cases b <;> exact ⟨by decide, by decide⟩)
      refine ⟨a.t, _, rfl, .inl (SqL.of phc.t), .inr ⟨_, rfl, c01 _, W, D, ws, kn, zs, cell, _, rfl, wdc, eD, kws, by omega, fun r κ H10 S10 dk kok knd h9 h8 hnm9 => ?_⟩⟩
      have h141 : κ.ho ≠ [] → L.length + T1.length ≤ 141 := fun z => by
        have := h9 z
        rw [List.length_reverse, tv1l] at this
        by_cases y : t.dep < 24
        · rw [decide_eq_true y, if_pos rfl] at this
          omega
        · rw [decide_eq_false y, if_neg Bool.false_ne_true] at this
          omega
      dsimp only [gName]
      have ph10 := phc.same S10
      have nn1 : names'.length - 1 < names'.length := by
        have : names'.length ≠ 0 := fun z => nne (List.eq_nil_of_length_eq_zero z)
        omega
      have e1n : (((names'.map V.str).length : Nat) : Int) - 1 = ((names'.length - 1 : Nat) : Int) := by rw [List.length_map]; omega
      have hat : atI (names'.map V.str) ((((names'.map V.str).length : Nat) : Int) - 1) = some (.str (names'.getD (names'.length - 1) "")) := by
        rw [e1n]
        exact atI_nat (by rw [List.getElem?_map, List.getD_eq_getElem?_getD, List.getElem?_eq_getElem nn1]; rfl)
      have knn : ∀ w ∈ kn, w ≠ "none" := fun w hw z => by
        rw [hkn] at hw
        obtain ⟨p, hp, rfl⟩ := List.mem_map.mp hw
        have := hxk.2 p hp
        rw [z] at this
        exact absurd this (by decide +kernel)
      refine ⟨a.n, _, rfl, .inl (SqL.of ph10.n), _, ph10.n, onS_of hat ⟨Hc, W, hl', r, ws, kn, cell, rate, _, κ, rfl, S10, ⟨ph10.S _ _ wd.1, wd.2⟩, (Sc.trans S10) _ _ el9, by omega, knn, dk, kok.1, knd, fun rr st' rf v κ' H11 S11 hrr err dk' kok' hho spo => ?_⟩⟩
      refine ⟨rr, _, rfl, SqL.of err, rfl, _, _, rfl, _, _, rfl, _, _, rfl, rfl, ?_⟩
      have ph11 := ph10.same S11
      have allc := phc.all
      have nN : ∀ {x : Addr}, x ∈ a.l ++ KA → newH Hc H11 x = none := fun hx => by obtain ⟨o, ho⟩ := allc _ hx; exact newH_none ho
      have nlk : ∀ {x : Addr}, x ∈ a.l ++ KA → hl' ≠ x := fun hx z => nl9 (z ▸ hx)
      have el11 := ((Sc.trans S10).trans S11) _ _ el9
      obtain ⟨κok', ft, hft, hfe⟩ : κ'.okk ∧ ∃ ft : Option (Str × Str), FtOk ⟨κ', [], heldX L t ++ ownX names' t κ', ft⟩ ∧ ((rf = "" ∧ ft = none) ∨ (rf ≠ "" ∧ ∃ x, v = .str x ∧ ft = some (rf, x))) := by
        rcases spo with ⟨rfl, rfl⟩ | ⟨w, rfl, hw, rfl, rfl⟩ | ⟨i, x, hd, hoe, rfl, rfl⟩
        · refine ⟨kok, none, ⟨knd, fun w hw => ?_⟩, .inl ⟨rfl, rfl⟩⟩
          have := hnm9 w hw
          rw [hkn] at this
          show w ∈ (heldX L t ++ ownX names' t κ').map Prod.fst
          rw [List.map_append]
          exact List.mem_append_left _ this
        · have own : ownX names' t (.name w) = [] := by unfold ownX; rw [if_neg (fun z => Bool.false_ne_true z.2)]
          refine ⟨⟨trivial, fun h hh => (by cases hh)⟩, some ("NoName", w), .inl ⟨rfl, rfl, ?_⟩, .inr ⟨by decide +kernel, w, rfl, rfl⟩⟩
          show w ∉ (heldX L t ++ ownX names' t (.name w)).map Prod.fst
          rw [own, List.append_nil, ← hkn]
          exact hw
        · refine ⟨⟨kok', fun h hh w e => kok.2 h (hoe ▸ hh) w e⟩, some ("Twice", x), .inr ⟨rfl, i, hd⟩, .inr ⟨by decide +kernel, x, rfl, rfl⟩⟩
      have h8' : κ'.ho.length ≤ 8 := Nat.le_trans hho h8
      have h141' : κ'.ho ≠ [] → L.length + T1.length ≤ 141 := fun z => h141 fun y => by
        rw [y] at hho
        exact z (List.eq_nil_of_length_eq_zero (Nat.le_zero.mp hho))
      obtain ⟨out, hout⟩ : ∃ out, out = heldX L t ++ ownX names' t κ' := ⟨_, rfl⟩
      rw [← hout] at hft
      dsimp only
      refine if_join (fun σ' H' => ∃ uv' : List V, σ' = [some (.ref W), some (.int seed), some (.int rate), some (.ref C), some (.ref a.n), some (.ref a.r), some (.ref a.k), some (.ref a.d), some (.ref a.u), some (.ref a.t), some (.int (f + 1)), some (.int cell), some (.ref hl'), some (.str (hoW t.ho)), some (.int t.par), some (.int t.dep), some (.int (L.length : Int)), some (.ref st'), some (.str rf), some v, o20, none] ∧ PH H H' a KA kv tv1 uv' names' roots' (L1.map Nd.κ) (L1.map Nd.kids) (ftsF (L1 ++ [⟨κ', [], out, ft⟩])) T1 ∧ H' hl' = some (.lst (kn.map V.str)) ∧ Same (newH Hc H11) H') (!decide (rf = "")) (fun R h => ?_) (fun h N hN => ?_) (fun h N hN => ?_) ?_
      · show R (true ^^ decide (rf = "")) H11
        rw [Bool.true_xor]
        exact h
      · rcases hfe with ⟨z, _⟩ | ⟨_, x, rfl, rfl⟩
        · rw [decide_eq_true z] at h; cases h
        refine ⟨⟨_, ph11.u⟩, (by show 3 ≤ sizeLine; decide), fun e he => ?_⟩
        have sx := same_new he (.lst [.str rf, .str x, .int (L.length : Int)])
        have nme : e ∉ a.l ++ KA := fun z => by
          obtain ⟨o, hoo⟩ := ph11.all _ z
          rw [hoo] at he
          cases he
        refine ⟨_, sx _ _ ph11.u, by omega, hN _ _ ⟨uv ++ [.ref e], rfl, ?_, ?_, ?_⟩⟩
        · rw [ftsF_snoc, L1l]
          exact (ph11.same sx).dueP (.lst (mask_of nme upd_same) (.cons (.flat rfl) (.cons (.flat rfl) (.cons (.flat rfl) .nil))))
        · rw [upd_ne (nlk PH.memU)]
          exact sx _ _ el11
        · exact same_upd (newH_sub.trans sx) (nN PH.memU) _
      · rcases hfe with ⟨_, rfl⟩ | ⟨z, _⟩
        · refine hN _ _ ⟨uv, rfl, ?_, el11, newH_sub⟩
          rw [ftsF_snoc]
          show PH _ _ _ _ _ _ _ _ _ _ _ (ftsF L1 ++ []) _
          rw [List.append_nil]
          exact ph11
        · rw [decide_eq_false z] at h; cases h
      rintro σ H12 ⟨uv', rfl, ph12, el12, SN12⟩
      refine ⟨⟨_, ph12.k⟩, _, ph12.k, by omega, ?_⟩
      have ph13 := ph12.kindP (dk'.same (fun b u e => mask_of (fun z => by rw [nN z] at e; cases e) (SN12 _ _ e)))
      have SN13 : Same (newH Hc H11) (upd H12 a.k (.lst (kv ++ [.ref st']))) := same_upd SN12 (nN PH.memK) _
      have el13 : (upd H12 a.k (.lst (kv ++ [.ref st']))) hl' = some (.lst (kn.map V.str)) := by rw [upd_ne (nlk PH.memK)]; exact el12
      generalize upd H12 a.k (.lst (kv ++ [.ref st'])) = H13 at ph13 SN13 el13 ⊢
      refine ⟨⟨_, ph13.d⟩, z0, fun x hx => ⟨_, (same_new hx _) _ _ ph13.d, by rw [List.length_map]; omega, ?_⟩⟩
      have ph14 := ph13.kidsP hx
      have sx := same_new hx (.lst [])
      have SN14 : Same (newH Hc H11) (upd (upd H13 x (.lst [])) a.d (.lst (KA.map V.ref ++ [.ref x]))) := same_upd (SN13.trans sx) (nN PH.memD) _
      have nx : hl' ≠ x := ne_of_none el13 hx
      have el14 : (upd (upd H13 x (.lst [])) a.d (.lst (KA.map V.ref ++ [.ref x]))) hl' = some (.lst (kn.map V.str)) := by rw [upd_ne (nlk PH.memD)]; exact sx _ _ el13
      generalize upd (upd H13 x (.lst [])) a.d (.lst (KA.map V.ref ++ [.ref x])) = H14 at ph14 SN14 el14 ⊢
      have nl14 : hl' ∉ a.l ++ (KA ++ [x]) := fun z => by
        rw [← List.append_assoc] at z
        rcases List.mem_append.mp z with z | z
        · exact nl9 z
        · exact nx (List.mem_singleton.mp z)
      obtain ⟨st0, hh, mv, hs, er', eN, _, ehh, dhs⟩ := kn_dta dk'
      cases er'
      dsimp only
      refine if_join (fun σ' H' => ∃ ho : Addr, σ' = [some (.ref W), some (.int seed), some (.int rate), some (.ref C), some (.ref a.n), some (.ref a.r), some (.ref a.k), some (.ref a.d), some (.ref a.u), some (.ref a.t), some (.int (f + 1)), some (.int cell), some (.ref ho), some (.str (hoW t.ho)), some (.int t.par), some (.int t.dep), some (.int (L.length : Int)), some (.ref st'), some (.str rf), some v, o20, none] ∧ PH H H' a (KA ++ [x]) (kv ++ [.ref st']) tv1 uv' names' roots' (L1.map Nd.κ ++ [κ']) (L1.map Nd.kids ++ [[]]) (ftsF (L1 ++ [⟨κ', [], out, ft⟩])) T1 ∧ H' ho = some (.lst ((out.map Prod.fst).map V.str)) ∧ ho ∉ a.l ++ (KA ++ [x]) ∧ Same (newH Hc H11) H') (decide (t.par < 0) && decide (κ'.s = "fn")) (fun R h => ?_) (fun h N hN => ?_) (fun h N hN => ?_) ?_
      · refine and2 (decide (t.par < 0)) (decide (κ'.s = "fn")) (fun R h => h) (fun R h => ?_) h
        refine ⟨_, SN14 _ _ eN, onS_of (atI_nat (j := 0) rfl) ?_⟩
        show R (false ^^ decide (κ'.s = "fn")) H14
        rw [Bool.false_xor]
        exact h
      · rw [Bool.and_eq_true, decide_eq_true_eq, kn_isF kok'] at h
        have own : ownX names' t κ' = [(names'.getD (names'.length - 1) "", (("def" : Str), ((names'.length - 1 : Nat) : Int)))] := by unfold ownX; rw [if_pos h]
        refine ⟨a.n, _, rfl, .inl (SqL.of ph14.n), _, ph14.n, onS_of hat ⟨(by show 1 ≤ sizeLine; decide), fun l3 h3 => ?_⟩⟩
        have t3 := same_new h3 (.lst [.str (names'.getD (names'.length - 1) "")])
        refine ⟨hl', l3, _, _, rfl, rfl, t3 _ _ el14, upd_same, by rw [List.length_map]; show _ + 1 ≤ sizeLine; omega, fun p hp => ?_⟩
        have t4 := same_new hp (.lst (kn.map V.str ++ [.str (names'.getD (names'.length - 1) "")]))
        refine hN _ _ ⟨p, rfl, ph14.same (t3.trans t4), by rw [upd_same, hout, own, List.map_append, List.map_append, ← hkn]; rfl, fun z => ?_, SN14.trans (t3.trans t4)⟩
        obtain ⟨o, ho⟩ := ph14.all _ z
        rw [t3 _ _ ho] at hp
        cases hp
      · rw [Bool.and_eq_false_iff, decide_eq_false_iff_not, kn_isF kok'] at h
        have own : ownX names' t κ' = [] := by
          unfold ownX
          rw [if_neg]
          rintro ⟨z1, z2⟩
          rcases h with h | h
          · exact h z1
          · rw [h] at z2; cases z2
        exact hN _ _ ⟨hl', rfl, ph14, by rw [hout, own, List.append_nil, ← hkn]; exact el14, nl14, SN14⟩
      rintro σ H15 ⟨ho, rfl, ph15, eho, nho, SN15⟩
      have hsl := dtas_len dhs
      rw [List.length_map] at hsl
      have NTl := newT_len κ' out L.length (t.dep + 1)
      refine ⟨_, SN15 _ _ eN, onS_of (atI_nat (j := 2) rfl) ⟨hh, hs, rfl, SqL.of (SN15 _ _ ehh), for_rev (xs := hs) (fun i σ H16 => ∃ (o20 : Option V) (tv' : List V), σ = [some (.ref W), some (.int seed), some (.int rate), some (.ref C), some (.ref a.n), some (.ref a.r), some (.ref a.k), some (.ref a.d), some (.ref a.u), some (.ref a.t), some (.int (f + 1)), some (.int cell), some (.ref ho), some (.str (hoW t.ho)), some (.int t.par), some (.int t.dep), some (.int (L.length : Int)), some (.ref st'), some (.str rf), some v, o20, none] ∧ PH H H16 a (KA ++ [x]) (kv ++ [.ref st']) tv' uv' names' roots' (L1.map Nd.κ ++ [κ']) (L1.map Nd.kids ++ [[]]) (ftsF (L1 ++ [⟨κ', [], out, ft⟩])) ((newT κ' out L.length (t.dep + 1)).drop (hs.length - i) ++ T1) ∧ H16 ho = some (.lst ((out.map Prod.fst).map V.str)) ∧ Same (newH Hc H11) H16)
        ⟨o20, tv1, rfl, by rw [Nat.sub_zero, List.drop_of_length_le (by omega), List.nil_append]; exact ph15, eho, SN15⟩ (fun i σ H16 _ ⟨_, _, _, _, _, SN⟩ => SqL.of (SN _ _ ehh)) ?_ ?_⟩⟩
      · rintro i v' σ H16 hi hv ⟨o20', tv', rfl, ph16, eho16, SN16⟩
        obtain ⟨d, hd, hdv⟩ := dtas_get dhs hv
        rw [List.getElem?_map] at hd
        obtain ⟨hol, hhol, rfl⟩ := Option.map_eq_some_iff.mp hd
        obtain ⟨ex, rfl, eex⟩ := hl_inv hdv
        have eex16 := SN16 _ _ eex
        refine ⟨⟨_, ph16.t⟩, hole_l (j := 12) (i := 20) rfl rfl eex16 ⟨(by show 4 ≤ sizeLine; decide), fun e he => ?_⟩⟩
        have s17 := same_new he (.lst [.ref ho, .str (hoW hol), .int (L.length : Int), .int (t.dep + 1)])
        have ph17 := ph16.same s17
        have tvl' := dtas_len ph16.td
        rw [List.length_map, List.length_append, List.length_drop] at tvl'
        have h100 := κ'.ho_le kok'
        have all16 := ph16.all
        have nme : e ∉ a.l ++ (KA ++ [x]) := fun z => by
          obtain ⟨o, hoo⟩ := all16 _ z
          rw [hoo] at he
          cases he
        have drp : (newT κ' out L.length (t.dep + 1)).drop (hs.length - (i + 1)) = ⟨out, hol, (L.length : Int), t.dep + 1, hs.length - 1 - i⟩ :: (newT κ' out L.length (t.dep + 1)).drop (hs.length - i) := by
          have g := newT_get (out := out) (n := L.length) (dep := t.dep + 1) hhol
          have e1 : hs.length - (i + 1) = hs.length - 1 - i := by omega
          have e2 : hs.length - i = hs.length - 1 - i + 1 := by omega
          rw [e1, e2]
          obtain ⟨g1, g2⟩ := List.getElem?_eq_some_iff.mp g
          rw [List.drop_eq_getElem_cons g1, g2]
        refine ⟨_, ph17.t, by rw [List.length_reverse]; omega, _, .ref e :: tv', rfl, ?_, ?_, ?_⟩
        · rw [drp, List.cons_append]
          exact ph17.todoP (.lst (mask_of nme upd_same) (.cons (.lst (mask_of nho (s17 _ _ eho16)) (dtas_strs _)) (.cons (.flat rfl) (.cons (.flat rfl) (.cons (.flat rfl) .nil)))))
        · rw [upd_ne (show ho ≠ a.t from fun z => nho (z ▸ PH.memT))]
          exact s17 _ _ eho16
        · exact same_upd (SN16.trans s17) (nN PH.memT) _
      · rintro σ H16 ⟨o20', tv', rfl, ph16, eho16, SN16⟩
        rw [Nat.sub_self, List.drop_zero] at ph16
        have outl : out.length ≤ 20 + L.length + 1 ∧ ∀ p ∈ out, 5 ≤ p.1.length := by
          have nm5 : 5 ≤ (names'.getD (names'.length - 1) "").length := by
            have : names'.getD (names'.length - 1) "" ∈ names' := by
              rw [List.getD_eq_getElem?_getD, List.getElem?_eq_getElem nn1]
              exact List.getElem_mem _
            rw [hnm'] at this
            obtain ⟨k, _, hk⟩ := List.mem_map.mp this
            rw [hnm', ← hk]
            exact (wd.2.2.2 _ (wa_mem wd.2.1 (Int.emod_nonneg _ (by decide)) (Int.emod_lt_of_pos _ (by decide)))).2
          rw [hout, List.length_append]
          unfold ownX
          split
          · rename_i z
            have h0 := (hk2 z.1).2
            have eh : heldX L t = t.held := by unfold heldX; rw [h0]; show _ ++ [] = _; rw [List.append_nil]
            refine ⟨?_, fun p hp => ?_⟩
            · rw [eh]
              show _ + 1 ≤ _
              omega
            · rcases List.mem_append.mp hp with hp | hp
              · exact hxk.2 p hp
              · rw [List.mem_singleton.mp hp]
                exact nm5
          · refine ⟨?_, fun p hp => ?_⟩
            · have := exL_len (t.par + 1) (L.length : Int) t.ho
              show (heldX L t).length + 0 ≤ _
              unfold heldX
              rw [List.length_append]
              omega
            · rw [List.append_nil] at hp
              exact hxk.2 p hp
        refine ⟨151 - (L1 ++ [(⟨κ', [], out, ft⟩ : Nd)]).length, by rw [List.length_append, List.length_singleton, L1l]; omega, names', roots', _, _, KA ++ [x], kv ++ [.ref st'], tv', uv', f + 1, _, _, _, _, _, _, _, _, _, _, rfl, by omega, ?_, step κ' ft out (t.dep + 1) κok' h8' h141' hout hft, hnm', ?_, rfl⟩
        · unfold PL
          rw [List.map_append, List.map_append]
          exact ph16
        · intro u hu
          rw [List.length_append, List.length_singleton, L1l]
          rcases List.mem_append.mp hu with hu | hu
          · rw [(newT_mem hu).2.1]
            exact ⟨by omega, outl.2⟩
          · exact ⟨by have := (hT20 u hu).1; omega, (hT20 u hu).2⟩
end
end K11.Internal
namespace K11.Internal
open PySem L2.Internal BO.Internal
seal L2.Internal.PE L2.Internal.PA L2.Internal.PS L2.Internal.PSs L2.Internal.PT L2.Internal.PI
theorem kit3 {K : PySem.W.Frag} {t : Value} {a b c : Addr} (h1 : PySem.W.kitOne K t (.ref a) = some false) (h2 : PySem.W.kitOne K t (.ref b) = some false) (h3 : PySem.W.kitOne K t (.ref c) = some false) : PySem.W.kitAny K t ([a, b, c].map Value.ref) = some false := by
  show PySem.W.kitAny K t [.ref a, .ref b, .ref c] = _
  unfold PySem.W.kitAny
  rw [h1]
  dsimp only
  unfold PySem.W.kitAny
  rw [h2]
  dsimp only
  unfold PySem.W.kitAny
  rw [h3]
  rfl
section
variable {P : Program} {w : World} {K : PySem.W.Frag} {mg : Str → Option Value} {base : Heap}
noncomputable def sp__law_of_class (Ct Cn : Addr) : Sp := fun vs H Q _ => ∃ (ea dz C : Addr) (nm : Str), vs = [.ref ea, .str nm] ∧ H ea = some (excD ea C dz) ∧ ((C = Ct ∧ nm = "Twice") ∨ (C = Cn ∧ nm = "NoName")) ∧ ∀ H', Same H H' → Q (.bl true) H'
theorem ok__law_of_class (T : Txt K mg) : FnOk P w K mg base CX0 1 T.a__law_of_class T.fd__law_of_class ["_law_caught", "_law_name"] (sp__law_of_class T.a_Twice T.a_NoName) := by
  refine T.F__law_of_class.ok sc__law_of_class (fun vs H Q E h => ?_) (fun cdv A outer s H vs Q E hr h => ?_)
  · obtain ⟨ea, dz, C, nm, rfl, _⟩ := h
    rfl
  obtain ⟨ea, dz, C, nm, rfl, eea, hc, q⟩ := h
  refine ⟨_, (pss_cons (ps_if (PW.pt (pw_or (pt_not (pt_val (pe_callB call_isiF rfl T.z_isinstance bt_isinstance (pa_cons (cv 0) (pa_cons (pe_bty rfl T.z_ValueError bt_ValueError) pa_nil))))) (pw_or1 (pt_val (pe_callB call_isiFT rfl T.z_isinstance bt_isinstance (pa_cons (cv 0) (pa_cons (pe_tup (pa_cons (pe_gR rfl T.m_BadPaper) (pa_cons (pe_gR rfl T.m_BadText) (pa_cons (pe_gR rfl T.m_TooHeavy) pa_nil)))) pa_nil)))))))
      (pss_one (ps_ret pe_bl))
      pss_nil)
    (pss_cons (ps_if (pt_val (pe_callB call_isiFT rfl T.z_isinstance bt_isinstance (pa_cons (cv 0) (pa_cons (pe_tup (pa_cons (pe_gR rfl T.m_OutOfTurns) (pa_cons (pe_gR rfl T.m_RowFull) (pa_cons (pe_gR rfl T.m_WrongKind) pa_nil)))) pa_nil))))
      (pss_one (ps_ret pe_bl))
      pss_nil)
    (pss_one (ps_ret (pe_and (pe_cmpR op_eq (pe_callB call_isiF rfl T.z_isinstance bt_isinstance (pa_cons (cv 0) (pa_cons (pe_gR rfl T.m_Twice) pa_nil))) (pe_cmpR oc_eq (cv 1) pe_str (nomark _)) (nomark _)) (pe_one (pe_cmpR op_eq (pe_callB call_isiF rfl T.z_isinstance bt_isinstance (pa_cons (cv 0) (pa_cons (pe_gR rfl T.m_NoName) pa_nil))) (pe_cmpR oc_eq (cv 1) pe_str (nomark _)) (nomark _)))))))), ?_⟩
  rcases hc with ⟨rfl, rfl⟩ | ⟨rfl, rfl⟩
  · refine ⟨ea, T.a_Twice, dz, _, _, true, rfl, fun _ r => r, eea, T.xs_Twice.xc, T.i_Twice_ValueError, _, rfl, iteF ?_⟩
    refine ⟨(by show 3 ≤ sizeLine; decide), fun tp htp => ⟨ea, T.a_Twice, dz, tp, [T.a_BadPaper, T.a_BadText, T.a_TooHeavy], false, rfl, upd_same, same_new htp _ _ _ eea, T.xs_Twice.xc, kit3 T.i_Twice_BadPaper T.i_Twice_BadText T.i_Twice_TooHeavy, _, rfl, iteF ?_⟩⟩
    have t1 := same_new htp (.tup [.ref T.a_BadPaper, .ref T.a_BadText, .ref T.a_TooHeavy])
    dsimp only [tNext]
    generalize upd H tp (.tup [.ref T.a_BadPaper, .ref T.a_BadText, .ref T.a_TooHeavy]) = H1 at t1 ⊢
    refine ⟨(by show 3 ≤ sizeLine; decide), fun tq htq => ⟨ea, T.a_Twice, dz, tq, [T.a_OutOfTurns, T.a_RowFull, T.a_WrongKind], false, rfl, upd_same, same_new htq _ _ _ (t1 _ _ eea), T.xs_Twice.xc, kit3 T.i_Twice_OutOfTurns T.i_Twice_RowFull T.i_Twice_WrongKind, _, rfl, iteF ?_⟩⟩
    have t2 := same_new htq (.tup [.ref T.a_OutOfTurns, .ref T.a_RowFull, .ref T.a_WrongKind])
    dsimp only [tNext]
    generalize upd H1 tq (.tup [.ref T.a_OutOfTurns, .ref T.a_RowFull, .ref T.a_WrongKind]) = H2 at t2 ⊢
    have e2 := (t1.trans t2) _ _ eea
    refine ⟨ea, T.a_Twice, dz, _, _, true, rfl, fun _ r => r, e2, T.xs_Twice.xc, T.i_Twice_Twice, rfl, _, rfl, ?_⟩
    rw [show decide (V.bl true = V.bl (false ^^ decide (("Twice" : Str) = "Twice"))) = true from by decide +kernel]
    refine iteT ⟨ea, T.a_Twice, dz, _, _, false, rfl, fun _ r => r, e2, T.xs_Twice.xc, T.i_Twice_NoName, rfl, ?_⟩
    rw [show decide (V.bl false = V.bl (false ^^ decide (("Twice" : Str) = "NoName"))) = true from by decide +kernel]
    exact q H2 (t1.trans t2)
  · refine ⟨ea, T.a_NoName, dz, _, _, true, rfl, fun _ r => r, eea, T.xs_NoName.xc, T.i_NoName_ValueError, _, rfl, iteF ?_⟩
    refine ⟨(by show 3 ≤ sizeLine; decide), fun tp htp => ⟨ea, T.a_NoName, dz, tp, [T.a_BadPaper, T.a_BadText, T.a_TooHeavy], false, rfl, upd_same, same_new htp _ _ _ eea, T.xs_NoName.xc, kit3 T.i_NoName_BadPaper T.i_NoName_BadText T.i_NoName_TooHeavy, _, rfl, iteF ?_⟩⟩
    have t1 := same_new htp (.tup [.ref T.a_BadPaper, .ref T.a_BadText, .ref T.a_TooHeavy])
    dsimp only [tNext]
    generalize upd H tp (.tup [.ref T.a_BadPaper, .ref T.a_BadText, .ref T.a_TooHeavy]) = H1 at t1 ⊢
    refine ⟨(by show 3 ≤ sizeLine; decide), fun tq htq => ⟨ea, T.a_NoName, dz, tq, [T.a_OutOfTurns, T.a_RowFull, T.a_WrongKind], false, rfl, upd_same, same_new htq _ _ _ (t1 _ _ eea), T.xs_NoName.xc, kit3 T.i_NoName_OutOfTurns T.i_NoName_RowFull T.i_NoName_WrongKind, _, rfl, iteF ?_⟩⟩
    have t2 := same_new htq (.tup [.ref T.a_OutOfTurns, .ref T.a_RowFull, .ref T.a_WrongKind])
    dsimp only [tNext]
    generalize upd H1 tq (.tup [.ref T.a_OutOfTurns, .ref T.a_RowFull, .ref T.a_WrongKind]) = H2 at t2 ⊢
    have e2 := (t1.trans t2) _ _ eea
    refine ⟨ea, T.a_NoName, dz, _, _, false, rfl, fun _ r => r, e2, T.xs_NoName.xc, T.i_NoName_Twice, rfl, _, rfl, ?_⟩
    rw [show decide (V.bl false = V.bl (false ^^ decide (("NoName" : Str) = "Twice"))) = true from by decide +kernel]
    refine iteT ⟨ea, T.a_NoName, dz, _, _, true, rfl, fun _ r => r, e2, T.xs_NoName.xc, T.i_NoName_NoName, rfl, ?_⟩
    rw [show decide (V.bl true = V.bl (false ^^ decide (("NoName" : Str) = "NoName"))) = true from by decide +kernel]
    exact q H2 (t1.trans t2)
end
end K11.Internal
namespace K11.Internal
open PySem L2.Internal BO.Internal
seal L2.Internal.PE L2.Internal.PA L2.Internal.PS L2.Internal.PSs L2.Internal.PT L2.Internal.PI
theorem ft_from : ∀ (L : List Nd) (n : Nat), (((L.zipIdx n).filterMap fun p => p.1.ft.map fun f => (f.1, f.2, p.2)) = [] ∧ ∀ (k : Nat) (nd : Nd), L[k]? = some nd → nd.ft = none) ∨ ∃ (k : Nat) (nd : Nd) (f : Str × Str) (rest : List (Str × Str × Nat)), L[k]? = some nd ∧ nd.ft = some f ∧ (∀ (j : Nat) (nd' : Nd), j < k → L[j]? = some nd' → nd'.ft = none) ∧ ((L.zipIdx n).filterMap fun p => p.1.ft.map fun f => (f.1, f.2, p.2)) = (f.1, f.2, n + k) :: rest
  | [], n => .inl ⟨rfl, fun k nd h => (by cases h)⟩
  | nd :: L, n => by
    rw [List.zipIdx_cons, List.filterMap_cons]
    cases hf : nd.ft with
    | some f => exact .inr ⟨0, nd, f, _, rfl, hf, fun j nd' h => absurd h (Nat.not_lt_zero _), by simp [hf]; first | done | rfl⟩
    | none =>
      simp only [Option.map_none]
      rcases ft_from L (n + 1) with ⟨h1, h2⟩ | ⟨k, nd', f, rest, h1, h2, h3, h4⟩
      · refine .inl ⟨h1, fun k nd' h => ?_⟩
        cases k with
        | zero => cases h; exact hf
        | succ k => exact h2 k nd' h
      · refine .inr ⟨k + 1, nd', f, rest, h1, h2, fun j nd2 hj h => ?_, ?_⟩
        · cases j with
          | zero => cases h; exact hf
          | succ j => exact h3 j nd2 (by omega) h
        · have e : n + 1 + k = n + (k + 1) := by omega
          rw [← e]
          exact h4
theorem ft_or (L : List Nd) : (ftsF L = [] ∧ ∀ (k : Nat) (nd : Nd), L[k]? = some nd → nd.ft = none) ∨ ∃ (k : Nat) (nd : Nd) (f : Str × Str) (rest : List (Str × Str × Nat)), L[k]? = some nd ∧ nd.ft = some f ∧ (∀ (j : Nat) (nd' : Nd), j < k → L[j]? = some nd' → nd'.ft = none) ∧ ftsF L = (f.1, f.2, k) :: rest := by
  rcases ft_from L 0 with h | ⟨k, nd, f, rest, h1, h2, h3, h4⟩
  · exact .inl h
  · rw [Nat.zero_add] at h4
    exact .inr ⟨k, nd, f, rest, h1, h2, h3, h4⟩
theorem look_out : ∀ (l : List (Str × Hm)) (g : Str → Option Hm) (w : Str), w ∉ l.map Prod.fst → (l.foldl (fun g p => wid g p.1 p.2) g) w = g w
  | [], g, w, _ => rfl
  | p :: l, g, w, h => by
    rw [List.foldl_cons, look_out l _ w (fun z => h (List.mem_cons_of_mem _ z))]
    unfold wid
    rw [if_neg (show ¬ w = p.1 from fun z => h (by rw [z]; exact List.mem_cons_self))]
theorem kn_name {κ : Kn} {ks : List Int} {x : Str} (h : mkR κ ks = .name x) : κ = .name x := by
  cases κ with
  | name w => cases h; rfl
  | _ => exact (nomatch h)
section
variable {names : List Str} {roots : List Nat} {L : List Nd}
theorem MI0.ws (m : MI0 names roots L []) {k : Nat} {nd : Nd} (h : L[k]? = some nd) : nd.ro.ws = nd.κ.ws := mkR_ws (by rw [List.length_map]; exact m.full h)
theorem MI0.fine (m : MI0 names roots L []) {n : Nat} (h : ∀ (j : Nat) (nd : Nd), j < n → L[j]? = some nd → nd.ft = none) : Fine (L.map Nd.ro) (outF L) n := fun k ρ hk hρ => by
  rw [List.getElem?_map] at hρ
  obtain ⟨nd, hnd, rfl⟩ := Option.map_eq_some_iff.mp hρ
  have f := m.nm k nd hnd
  unfold FtOk at f
  rw [h k nd hk hnd] at f
  refine ⟨by rw [m.ws hnd]; exact f.1, fun x e => ?_⟩
  rw [outF_at hnd]
  exact look_mem _ _ (f.2 x (kn_name e))
theorem MI0.fault (m : MI0 names roots L []) {k : Nat} {nd : Nd} {f : Str × Str} (h : L[k]? = some nd) (hf : nd.ft = some f) : (f.1 = "NoName" ∧ (L.map Nd.ro)[k]? = some (.name f.2) ∧ outF L k f.2 = none) ∨ (f.1 = "Twice" ∧ ∃ i, Dbl nd.ro.ws i f.2) := by
  have g := m.nm k nd h
  unfold FtOk at g
  rw [hf] at g
  rcases g with ⟨h1, h2, h3⟩ | ⟨h1, i, h2⟩
  · refine .inl ⟨h1, ?_, ?_⟩
    · rw [List.getElem?_map, h]
      show some nd.ro = _
      unfold Nd.ro
      rw [h2]
      rfl
    · rw [outF_at h]
      exact look_out _ _ _ h3
  · exact .inr ⟨h1, i, by rw [m.ws h]; exact h2⟩
end
theorem cut_ints (ns : List Int) (lo hi : Option Int) : ∃ ms : List Int, cutV (ns.map V.int) lo hi = ms.map V.int ∧ ms.length ≤ ns.length := by
  refine ⟨(ns.drop (HT.Internal.sIx (ns.map V.int).length 0 lo)).take (HT.Internal.sIx (ns.map V.int).length (ns.map V.int).length hi - HT.Internal.sIx (ns.map V.int).length 0 lo), ?_, ?_⟩
  · unfold cutV
    rw [← List.map_drop, ← List.map_take]
  · rw [List.length_take, List.length_drop]
    omega
theorem seq_c {v : V} {i : Nat} {u : TS} {D : Ends} {σ : St} {H : Hp} (h : u D (σ.set i (some v)) H) : tSeq (tAsg (tC v) (gName i)) u D σ H := h
theorem try_mid {t u : TS} {D : Ends} {σ : St} {H : Hp} (σ₀ : St) (N : St → Hp → Prop) (hσ : σ = σ₀) (k : ∀ σ' H', N σ' H' → u D σ' H') (w : ∀ D' : Ends, (∀ σ' H', N σ' H' → D'.nx σ' H') → t D' σ₀ H) : tSeq t u D σ H := by
  subst hσ
  exact w { D with nx := u D } k
theorem dtas_at0 {N : Hp} {vs : List V} {f : Str × Str × Nat} {r : List (Str × Str × Nat)} (h : Dtas N vs ((f :: r).map ftD)) : ∃ (e : Addr) (t : List V), vs = .ref e :: t ∧ N e = some (.lst [.str f.1, .str f.2.1, .int (f.2.2 : Int)]) := by
  cases h with
  | cons h1 hs =>
    unfold ftD at h1
    cases h1 with
    | @lst e xs _ he hs =>
      cases hs with
      | cons g1 hs =>
        cases hs with
        | cons g2 hs =>
          cases hs with
          | cons g3 hs =>
            cases hs
            cases held_flat g1
            cases held_flat g2
            cases held_flat g3
            exact ⟨e, _, rfl, he⟩
theorem putF_app {f : Str} {v : V} : ∀ {fs : List (Str × V)} (ns : List Str), fs.map Prod.fst = ns → f ∉ ns → putF f v fs = fs ++ [(f, v)]
  | [], _, _, _ => rfl
  | p :: t, _, rfl, h => by
    rw [List.map_cons, List.mem_cons, not_or] at h
    have : ¬ p.1 = f := fun z => h.1 z.symm
    simp only [putF, if_neg this, List.cons_append]
    rw [putF_app _ rfl h.2]
section
variable {P : Program} {w : World} {K : PySem.W.Frag} {mg : Str → Option Value} {base : Heap}
noncomputable def sp_Program___init__ (C : Addr) : Sp := fun vs H Q _ => ∃ (x dx n r w : Addr), vs = [.ref x, .ref n, .ref r, .ref w] ∧ H x = some (.ins C dx []) ∧ Q .non (upd H x (.ins C dx (fP n r w)))
theorem ok_Program___init__ (T : Txt K mg) : FnOk P w K mg base CX0 1 T.a_Program___init__ T.fd_Program___init__ ["self", "names", "roots", "rows"] (sp_Program___init__ T.a_Program) := by
  refine T.F_Program___init__.ok sc_Program___init__ (fun vs H Q E h => ?_) (fun cdv A outer s H vs Q E hr h => ?_)
  · obtain ⟨x, dx, n, r, w, rfl, _⟩ := h
    rfl
  obtain ⟨x, dx, n, r, w, rfl, hx, q⟩ := h
  refine ⟨_, (pss_cons (psc_fld T.cl_Program T.n_Program_names (ps_fld (PE.mono (cv 0)) (PE.mono (cv 1)) rfl))
    (pss_cons (psc_fld T.cl_Program T.n_Program_roots (ps_fld (PE.mono (cv 0)) (PE.mono (cv 2)) rfl))
    (pss_one (psc_fld T.cl_Program T.n_Program_rows (ps_fld (PE.mono (cv 0)) (PE.mono (cv 3)) rfl))))), ?_⟩
  refine ⟨dx, _, hx, (by show 0 < 1000; decide), dx, _, upd_same, (by show 1 < 1000; decide), dx, _, upd_same, ?_, ?_⟩
  · rw [putF_app (f := ("roots" : Str)) ["names"] rfl (by decide +kernel)]; show 2 < 1000; decide
  · rw [upd_upd, upd_upd, putF_app (f := ("roots" : Str)) ["names"] rfl (by decide +kernel), putF_app (f := ("rows" : Str)) ["names", "roots"] rfl (by decide +kernel)]
    exact q
end
end K11.Internal
namespace K11.Internal
open PySem L2.Internal BO.Internal
seal L2.Internal.PE L2.Internal.PA L2.Internal.PS L2.Internal.PSs L2.Internal.PT L2.Internal.PI
noncomputable def Asked (names : List Str) (L : List Nd) (ns : List Str) (fs : List (Str × Str × Nat)) : Prop := (ns = names ∧ ns.Nodup ∧ fs = ftsF L) ∨ ∃ (i : Nat) (x : Str), Dbl ns i x ∧ fs = [(("Twice" : Str), x, 0)]
theorem if_joinS {t : TT} {A B u : TS} {D : Ends} {σ : St} {H : Hp} (Pm : St → Hp → Prop) (b : Bool) (ht : ∀ R : Bool → Hp → Prop, (∀ H', Same H H' → R b H') → t σ H R) (hA : b = true → ∀ H', Same H H' → ∀ N : St → Hp → Prop, (∀ σ' H', Pm σ' H' → N σ' H') → A { D with nx := N } σ H')
    (hB : b = false → ∀ H', Same H H' → ∀ N : St → Hp → Prop, (∀ σ' H', Pm σ' H' → N σ' H') → B { D with nx := N } σ H') (k : ∀ σ' H', Pm σ' H' → u D σ' H') : tSeq (tIfS t A B) u D σ H := by
  refine ht _ fun H' S => ?_
  cases b with
  | true => exact iteT (hA rfl H' S _ k)
  | false => exact iteF (hB rfl H' S _ k)
noncomputable def Cgt (K : PySem.W.Frag) (Ct Cn : Addr) (H : Hp) (ea : Addr) (f : Str × Str × Nat) : Prop := ∃ (C dz : Addr) (es : List (Str × V)), H ea = some (excD ea C dz) ∧ H dz = some (dicX dz es) ∧ XCls K C ∧ PySem.W.findIn K (.ref C) "word" = some none ∧ List.lookup ("word" : Str) es = some (.str f.2.1) ∧ ((C = Ct ∧ f.1 = "Twice") ∨ (C = Cn ∧ f.1 = "NoName")) ∧ (f.1 ≠ "Twice" → PySem.W.findIn K (.ref C) "place" = some none ∧ List.lookup ("place" : Str) es = some (.int (f.2.2 : Int)))
section
variable {P : Program} {w : World} {K : PySem.W.Frag} {mg : Str → Option Value} {base : Heap}
theorem all_law (T : Txt K mg) {a : Addr} {fd : FuncData} (F : Fun K "law" "law" s_law a fd) : FnOk P w K mg base CX0 40 a fd ["_law_script"] (sp_law K) := by
  have G__law_words := ok__law_words (P := P) (w := w) (base := base) T
  have G__law_program := ok__law_program (P := P) (w := w) (base := base) T
  have G__law_doubled := ok__law_doubled (P := P) (w := w) (base := base) T
  have G__law_double := ok__law_double (P := P) (w := w) (base := base) T
  have G_Program___init__ := ok_Program___init__ (P := P) (w := w) (base := base) T
  have G_homes_of := ok_homes_of (P := P) (w := w) (base := base) T
  have G__law_of_class := ok__law_of_class (P := P) (w := w) (base := base) T
  refine F.ok sc_law (fun vs H Q E h => ?_) (fun cdv A outer s H vs Q E hr h => ?_)
  · obtain ⟨a, ns, rfl, _⟩ := h
    rfl
  obtain ⟨ad, ns, rfl, hsq, hlen, q⟩ := h
  refine ⟨_, (pss_cons (ps_set (i := 1) sc_law.nd rfl (Or.inl rfl) (pe_op oc_mod (pe_callB (call_sumA rfl) rfl T.z_sum bt_sum (pa_cons (pe_slice sl_list (cv 0) po_none (po_some pe_int)) pa_nil)) (pe_op oc_pow pe_int pe_int)))
    (pss_cons (ps_set (i := 2) sc_law.nd rfl (Or.inl rfl) (pe_ix xc_list (pe_lst (pa_cons pe_int (pa_cons pe_int (pa_cons pe_int (pa_cons pe_int pa_nil))))) (pe_op oc_mod (pe_op oc_fdiv (cv 1) pe_int) pe_int) (fun _ _ => rfl)))
    (pss_cons (ps_set (i := 3) sc_law.nd rfl (Or.inl rfl) (pe_call G__law_words (hr.mono (by decide)) rfl T.m__law_words T.k__law_words T.b__law_words .nil pass0 (pa_cons (pe_callB (call_sumA rfl) rfl T.z_sum bt_sum (pa_cons (pe_slice sl_list (cv 0) po_none (po_some pe_int)) pa_nil)) pa_nil)))
    (pss_cons (ps_asg (pe_call G__law_program (hr.mono (by decide)) rfl T.m__law_program T.k__law_program T.b__law_program .nil pass0 (pa_cons (cv 3) (pa_cons (cv 1) (pa_cons (cv 2) (pa_cons (pe_slice sl_list (cv 0) (po_some pe_int) po_none) pa_nil))))) (pg_tup rfl (pgs_cons (pg_name (i := 4) sc_law.nd rfl (Or.inl rfl)) (pgs_cons (pg_name (i := 5) sc_law.nd rfl (Or.inl rfl)) (pgs_cons (pg_name (i := 6) sc_law.nd rfl (Or.inl rfl)) (pgs_cons (pg_name (i := 7) sc_law.nd rfl (Or.inl rfl)) pgs_nil))))))
    (pss_cons (ps_if (PW.pt (pw_and (ptc_cmpR oc_eq (pe_op oc_mod (pe_op oc_fdiv (cv 1) pe_int) pe_int) pe_int (nomark _)) (pw_and1 (ptc_cmpR oc_gt (pe_callB call_len_seq rfl T.z_len bt_len (pa_cons (cv 4) pa_nil)) pe_int (nomark _)))))
      (pss_one (ps_set (i := 4) sc_law.nd rfl (Or.inl rfl) (pe_call G__law_doubled (hr.mono (by decide)) rfl T.m__law_doubled T.k__law_doubled T.b__law_doubled .nil pass0 (pa_cons (cv 4) (pa_cons (pe_op oc_mod (pe_op oc_mul (cv 1) pe_int) pe_int) pa_nil)))))
      pss_nil)
    (pss_cons (ps_if (pt_cmp (pc_notN (pe_call G__law_double (hr.mono (by decide)) rfl T.m__law_double T.k__law_double T.b__law_double .nil pass0 (pa_cons (cv 4) pa_nil))))
      (pss_one (ps_set (i := 7) sc_law.nd rfl (Or.inl rfl) (pe_lst (pa_cons (pe_lst (pa_cons pe_str (pa_cons (pe_call G__law_double (hr.mono (by decide)) rfl T.m__law_double T.k__law_double T.b__law_double .nil pass0 (pa_cons (cv 4) pa_nil)) (pa_cons pe_int pa_nil)))) pa_nil))))
      pss_nil)
    (pss_cons (ps_set (i := 8) sc_law.nd rfl (Or.inl rfl) pe_non)
    (pss_cons (ps_set (i := 9) sc_law.nd rfl (Or.inl rfl) pe_non)
    (pss_cons (ps_trySetF G_homes_of (hr.mono (by decide)) rfl T.m_homes_of T.k_homes_of T.b_homes_of .nil (pa_cons (pe_make T.mk_Program G_Program___init__ (hr.mono (by decide)) rfl T.m_Program T.b_Program___init__ .nil pass0 (pa_cons (pe_callTy call_list_of rfl T.z_list bt_list (pa_cons (cv 4) pa_nil)) (pa_cons (pe_callTy call_list_of rfl T.z_list bt_list (pa_cons (cv 5) pa_nil)) (pa_cons (pe_callTy call_list_of rfl T.z_list bt_list (pa_cons (cv 6) pa_nil)) pa_nil)))) pa_nil) (j := 9) (i := 10) sc_law.nd rfl rfl rfl rfl rfl T.m_FlowError ⟨rfl, rfl⟩ rfl (fun _ =>
      (pss_one (ps_set (i := 8) sc_law.nd rfl (Or.inl rfl) (cv 10)))))
    (pss_cons (ps_if (ptc_cmpR oc_eq (pe_callB call_len_seq rfl T.z_len bt_len (pa_cons (cv 7) pa_nil)) pe_int (nomark _))
      (pss_one (ps_ret (pe_and (pe_cmp (pc_isN (cv 8))) (pe_and (pe_callB call_isi rfl T.z_isinstance bt_isinstance (pa_cons (cv 9) (pa_cons (pe_bty rfl T.z_list bt_list) pa_nil))) (pe_one (pe_cmpR oc_eq (pe_callB call_len_seq rfl T.z_len bt_len (pa_cons (cv 9) pa_nil)) (pe_callB call_len_seq rfl T.z_len bt_len (pa_cons (cv 6) pa_nil)) (nomark _)))))))
      pss_nil)
    (pss_cons (ps_if (PW.pt (pw_or (pt_not (pt_val (pe_call G__law_of_class (hr.mono (by decide)) rfl T.m__law_of_class T.k__law_of_class T.b__law_of_class .nil pass0 (pa_cons (cv 8) (pa_cons (pe_ix xc_list (pe_ix xc_list (cv 7) pe_int (fun _ _ => rfl)) pe_int (fun _ _ => rfl)) pa_nil))))) (pw_or (pt_not (pt_val (pe_callB call_isi rfl T.z_isinstance bt_isinstance (pa_cons (pe_fldX (cv 8) rfl) (pa_cons (pe_bty rfl T.z_str bt_str) pa_nil))))) (pw_or1 (ptc_cmpR oc_ne (pe_fldX (cv 8) rfl) (pe_ix xc_list (pe_ix xc_list (cv 7) pe_int (fun _ _ => rfl)) pe_int (fun _ _ => rfl)) (nomark _))))))
      (pss_one (ps_ret pe_bl))
      pss_nil)
    (pss_cons (ps_if (ptc_cmpR oc_eq (pe_ix xc_list (pe_ix xc_list (cv 7) pe_int (fun _ _ => rfl)) pe_int (fun _ _ => rfl)) pe_str (nomark _))
      (pss_one (ps_ret pe_bl))
      pss_nil)
    (pss_one (ps_ret (pe_and (pe_callB call_isi rfl T.z_isinstance bt_isinstance (pa_cons (pe_fldX (cv 8) rfl) (pa_cons (pe_bty rfl T.z_int bt_int) pa_nil))) (pe_and (pe_not (pe_callB call_isi rfl T.z_isinstance bt_isinstance (pa_cons (pe_fldX (cv 8) rfl) (pa_cons (pe_bty rfl T.z_bool bt_bool) pa_nil)))) (pe_one (pe_cmpR oc_eq (pe_fldX (cv 8) rfl) (pe_ix xc_list (pe_ix xc_list (cv 7) pe_int (fun _ _ => rfl)) pe_int (fun _ _ => rfl)) (nomark _))))))))))))))))))), ?_⟩
  have sl : sizeLine = 16777216 := sizeLine_eq
  obtain ⟨ks0, ek0, _⟩ := cut_ints ns none (some 1)
  obtain ⟨ks1, ek1, lk1⟩ := cut_ints ns (some 1) none
  refine ⟨_, rfl, ad, _, rfl, hsq, fun c1 hc1 => ⟨c1, ks0, rfl, SqL.of (by rw [upd_same, ek0]), fun n0 => ⟨⟨by decide, by decide, by decide⟩, (by show (0 : Int) < 10 ^ (9 : Int).toNat; decide +kernel), ?_⟩⟩⟩
  have S1 := same_new hc1 (.lst (cutV (ns.map V.int) none (some 1)))
  dsimp only [gName]
  generalize upd H c1 (.lst (cutV (ns.map V.int) none (some 1))) = H1 at S1 ⊢
  have sd0 : 0 ≤ n0 % 10 ^ (9 : Int).toNat := Int.emod_nonneg _ (by decide +kernel)
  have sd1 : n0 % 10 ^ (9 : Int).toNat < 1000000000 := Int.emod_lt_of_pos _ (by decide +kernel)
  generalize n0 % 10 ^ (9 : Int).toNat = seed at sd0 sd1 ⊢
  refine ⟨(by show 4 ≤ sizeLine; decide), fun lz hlz => ⟨⟨by decide, by decide⟩, (by show (0 : Int) < 4; decide), ?_⟩⟩
  have sz := same_new hlz (.lst [.int 0, .int 1, .int 4, .int 12])
  have r0 : 0 ≤ seed / 7 % 4 := Int.emod_nonneg _ (by decide)
  have r1 : seed / 7 % 4 < 4 := Int.emod_lt_of_pos _ (by decide)
  obtain ⟨rate, hrate⟩ : ∃ rate : Int, atI [V.int 0, V.int 1, V.int 4, V.int 12] (seed / 7 % 4) = some (.int rate) := by
    have : seed / 7 % 4 = 0 ∨ seed / 7 % 4 = 1 ∨ seed / 7 % 4 = 2 ∨ seed / 7 % 4 = 3 := by omega
    rcases this with e | e | e | e <;> rw [e] <;> exact ⟨_, rfl⟩
  refine ⟨_, upd_same, onS_of hrate ?_⟩
  dsimp only [gName]
  generalize upd H1 lz (.lst [.int 0, .int 1, .int 4, .int 12]) = H1b at sz ⊢
  have S1b := S1.trans sz
  refine ⟨_, rfl, ad, _, rfl, S1b.seq hsq, fun c2 hc2 => ⟨c2, ks0, rfl, SqL.of (by rw [upd_same, ek0]), fun n1 => ⟨n1, rfl, fun W ws H2 S2 _ wd => ?_⟩⟩⟩
  have S12 := S1b.trans ((same_new hc2 (.lst (cutV (ns.map V.int) none (some 1)))).trans S2)
  refine ⟨1, rfl, ad, _, rfl, S12.seq hsq, fun c3 hc3 => ?_⟩
  have s3 := same_new hc3 (.lst (cutV (ns.map V.int) (some 1) none))
  have e3 : (upd H2 c3 (.lst (cutV (ns.map V.int) (some 1) none))) c3 = some (.lst (ks1.map V.int)) := by rw [upd_same, ek1]
  generalize upd H2 c3 (.lst (cutV (ns.map V.int) (some 1) none)) = H3 at s3 e3 ⊢
  refine ⟨W, c3, ws, seed, rate, ks1, rfl, ⟨s3 _ _ wd.1, wd.2⟩, sd0, sd1, e3, by omega, fun t names roots L H4 S4 _ mi nn nne md => ?_⟩
  obtain ⟨an, ar, aw, au, xs, us, et, en0, er, ew, ims, eu, imu⟩ := md
  have lx := ims.length
  rw [List.length_map] at lx
  refine ⟨t, _, rfl, SqT.of et, rfl, _, _, rfl, _, _, rfl, _, _, rfl, _, _, rfl, rfl, ?_⟩
  have Ll := mi.sz
  have nl := mi.nl
  have rl := mi.rl
  dsimp only
  refine if_join (fun σ' H' => ∃ (bn : Addr) (ms : List Str), σ' = [some (.ref ad), some (.int seed), some (.int rate), some (.ref W), some (.ref bn), some (.ref ar), some (.ref aw), some (.ref au), none, none, none] ∧ Same H4 H' ∧ H' bn = some (.lst (ms.map V.str)) ∧ ms.length = names.length ∧ (ms = names ∨ ¬ ms.Nodup)) (decide (seed / 3 % 4 = 1) && decide (1 < names.length)) (fun R h => ?_) (fun h N hN => ?_) (fun h N hN => hN _ _ ⟨an, names, rfl, Same.refl _, en0, rfl, .inl rfl⟩) ?_
  · refine and2 _ _ (fun R h => ⟨⟨by decide, by decide⟩, (by show (0 : Int) < 4; decide), ?_⟩) (fun R h => ⟨an, _, rfl, .inl (SqL.of en0), ?_⟩) h
    · show R (false ^^ decide (seed / 3 % 4 = 1)) H4
      rw [Bool.false_xor]
      exact h
    · show R (decide ((1 : Int) < (((names.map V.str).length : Nat) : Int))) H4
      rw [List.length_map, show decide ((1 : Int) < (names.length : Int)) = decide (1 < names.length) from decide_eq_decide.mpr (by omega)]
      exact h
  · rw [Bool.and_eq_true, decide_eq_true_eq, decide_eq_true_eq] at h
    exact ⟨.inr ⟨by decide, by decide⟩, (by show (0 : Int) < 2147483647; decide), an, _, names, rfl, en0, h.2, by omega, fun l ms H' S hl el hml hnd => hN _ _ ⟨l, ms, rfl, S, el, hml, .inr hnd⟩⟩
  rintro σ H5 ⟨bn, ms, rfl, S5, ebn, hml, hms⟩
  have msl : ms.length ≤ 12 := by omega
  refine if_joinS (fun σ' H' => ∃ (fl : Addr) (vs : List V) (fs : List (Str × Str × Nat)), σ' = [some (.ref ad), some (.int seed), some (.int rate), some (.ref W), some (.ref bn), some (.ref ar), some (.ref aw), some (.ref fl), none, none, none] ∧ Same H5 H' ∧ H' fl = some (.lst vs) ∧ Dtas H' vs (fs.map ftD) ∧ Asked names L ms fs) (!decide (ms.Nodup)) (fun R h => ?_) (fun h H' S' N hN => ?_) (fun h H' S' N hN => ?_) ?_
  · refine ⟨bn, ms, rfl, ebn, by omega, fun nd H' S' => ⟨_, rfl, ?_⟩, fun i x hd H' S' => ⟨_, rfl, ?_⟩⟩
    · have := h H' S'
      rw [decide_eq_true nd] at this
      exact this
    · have := h H' S'
      rw [decide_eq_false hd.not] at this
      exact this
  · have hnd : ¬ ms.Nodup := fun z => by rw [decide_eq_true z] at h; cases h
    refine ⟨bn, ms, rfl, S' _ _ ebn, by omega, fun nd => absurd nd hnd, fun i x hd H'' S'' => ⟨(by show 3 ≤ sizeLine; decide), fun e he => ⟨(by show 1 ≤ sizeLine; decide), fun fl hfl => ?_⟩⟩⟩
    have t1 := same_new he (.lst [.str "Twice", .str x, .int 0])
    have t2 := same_new hfl (.lst [.ref e])
    exact hN _ _ ⟨fl, _, [(("Twice" : Str), x, 0)], rfl, (S'.trans S'').trans (t1.trans t2), upd_same, .cons (.lst (t2 _ _ upd_same) (.cons (.flat rfl) (.cons (.flat rfl) (.cons (.flat rfl) .nil)))) .nil, .inr ⟨i, x, hd, rfl⟩⟩
  · have hnd : ms.Nodup := by
      by_cases z : ms.Nodup
      · exact z
      · rw [decide_eq_false z] at h; cases h
    have em : ms = names := by
      rcases hms with h | h
      · exact h
      · exact absurd hnd h
    exact hN _ _ ⟨au, us, ftsF L, rfl, S', (S5.trans S') _ _ eu, (imu.same S5).same S', .inl ⟨em, hnd, rfl⟩⟩
  rintro σ H6 ⟨fl, vs, fs, rfl, S6, efl, dfl, ask⟩
  have S46 := S5.trans S6
  refine seq_c (seq_c (try_mid [some (.ref ad), some (.int seed), some (.int rate), some (.ref W), some (.ref bn), some (.ref ar), some (.ref aw), some (.ref fl), some .non, some .non, none] (fun σ H' => ∃ vc vf : V, σ = [some (.ref ad), some (.int seed), some (.int rate), some (.ref W), some (.ref bn), some (.ref ar), some (.ref aw), some (.ref fl), some vc, some vf, none] ∧ Same H6 H' ∧
    ((fs = [] ∧ vc = .non ∧ ∃ (lf : Addr) (ys : List V), vf = .ref lf ∧ H' lf = some (.lst ys) ∧ ys.length = L.length) ∨ ∃ (ea : Addr) (f : Str × Str × Nat) (rest : List (Str × Str × Nat)), fs = f :: rest ∧ vc = .ref ea ∧ Cgt K T.a_Twice T.a_NoName H' ea f)) rfl ?_ ?_))
  · rintro σ H7 ⟨vc, vf, rfl, S7, cs⟩
    have efl7 := S7 _ _ efl
    refine ⟨fl, _, rfl, .inl (SqL.of efl7), ?_⟩
    show if (false ^^ decide (((vs.length : Nat) : Int) = 0)) = true then _ else _
    rw [Bool.false_xor]
    rcases cs with ⟨rfl, rfl, lf, ys, rfl, elf, hyl⟩ | ⟨ea, f, rest, rfl, rfl, C, dz, es, eea, edz, xc, xw, lw, hc, hpl⟩
    · cases dtas_nil dfl
      rw [show decide (((([] : List V).length : Nat) : Int) = 0) = true from rfl]
      refine iteT ⟨_, rfl, ?_⟩
      show if decide (V.non = V.non) = true then _ else _
      rw [decide_eq_true rfl]
      refine iteT ⟨_, _, _, _, true, rfl, fun _ r => r, .lst elf, rfl, _, rfl, iteT ⟨lf, _, rfl, .inl (SqL.of elf), aw, _, rfl, .inl (SqL.of ((S46.trans S7) _ _ ew)), ?_⟩⟩
      show Q (.bl (false ^^ decide (((ys.length : Nat) : Int) = ((xs.length : Nat) : Int)))) H7
      rw [decide_eq_true (by omega)]
      exact q H7
    · obtain ⟨e0, r0, rfl, ee0⟩ := dtas_at0 dfl
      have ee7 := S7 _ _ ee0
      rw [decide_eq_false (by rw [List.length_cons]; omega)]
      refine iteF ?_
      dsimp only [tNext]
      refine ⟨_, efl7, onS_of (atI_nat (j := 0) rfl) ⟨_, ee7, onS_of (atI_nat (j := 0) rfl) ⟨ea, dz, C, f.1, rfl, eea, hc, fun H8 S8 => ⟨_, rfl, iteF ?_⟩⟩⟩⟩
      have eea8 := S8 _ _ eea
      have edz8 := S8 _ _ edz
      refine ⟨ea, C, dz, es, .str f.2.1, rfl, eea8, edz8, xc, xw, lw, _, _, _, _, true, rfl, fun _ r => r, .str _, rfl, _, rfl, iteF ?_⟩
      refine ⟨ea, C, dz, es, .str f.2.1, rfl, eea8, edz8, xc, xw, lw, _, S8 _ _ efl7, onS_of (atI_nat (j := 0) rfl) ⟨_, S8 _ _ ee7, onS_of (atI_nat (j := 1) rfl) ?_⟩⟩
      show if (true ^^ decide (f.2.1 = f.2.1)) = true then _ else _
      rw [decide_eq_true rfl]
      refine iteF ?_
      dsimp only [tNext]
      refine ⟨_, S8 _ _ efl7, onS_of (atI_nat (j := 0) rfl) ⟨_, S8 _ _ ee7, onS_of (atI_nat (j := 0) rfl) ?_⟩⟩
      show if (false ^^ decide (f.1 = "Twice")) = true then _ else _
      rw [Bool.false_xor]
      by_cases hz : f.1 = "Twice"
      · rw [decide_eq_true hz]
        exact iteT (q H8)
      · rw [decide_eq_false hz]
        obtain ⟨xp, lp⟩ := hpl hz
        refine iteF ?_
        dsimp only [tNext]
        refine ⟨ea, C, dz, es, .int (f.2.2 : Int), rfl, eea8, edz8, xc, xp, lp, _, _, _, _, true, rfl, fun _ r => r, .int _, rfl, _, rfl, iteT ?_⟩
        refine ⟨ea, C, dz, es, .int (f.2.2 : Int), rfl, eea8, edz8, xc, xp, lp, _, _, _, _, false, rfl, fun _ r => r, .int _, rfl, _, rfl, _, rfl, iteT ?_⟩
        refine ⟨ea, C, dz, es, .int (f.2.2 : Int), rfl, eea8, edz8, xc, xp, lp, _, S8 _ _ efl7, onS_of (atI_nat (j := 0) rfl) ⟨_, S8 _ _ ee7, onS_of (atI_nat (j := 2) rfl) ?_⟩⟩
        show Q (.bl (false ^^ decide ((f.2.2 : Int) = (f.2.2 : Int)))) H8
        rw [decide_eq_true rfl]
        exact q H8
  · intro Dx hNx
    refine ⟨bn, _, rfl, .inl (SqL.of (S6 _ _ ebn)), fun pn hpn => ?_⟩
    have s7 := same_new hpn (.lst (ms.map V.str))
    have en7 : (upd H6 pn (.lst (ms.map V.str))) pn = some (.lst (ms.map V.str)) := upd_same
    generalize upd H6 pn (.lst (ms.map V.str)) = H7 at s7 en7 ⊢
    refine ⟨ar, _, rfl, .inl (SqL.of ((S46.trans s7) _ _ er)), fun pr hpr => ?_⟩
    have s8 := same_new hpr (.lst (roots.map nI))
    have er8 : (upd H7 pr (.lst (roots.map nI))) pr = some (.lst (roots.map nI)) := upd_same
    generalize upd H7 pr (.lst (roots.map nI)) = H8 at s8 er8 ⊢
    refine ⟨aw, _, rfl, .inl (SqL.of ((S46.trans (s7.trans s8)) _ _ ew)), fun pw hpw => ?_⟩
    have s9 := same_new hpw (.lst xs)
    have ew9 : (upd H8 pw (.lst xs)) pw = some (.lst xs) := upd_same
    generalize upd H8 pw (.lst xs) = H9 at s9 ew9 ⊢
    have S69 := (s7.trans s8).trans s9
    intro x dx hx hdx hne
    refine ⟨x, dx, pn, pr, pw, rfl, upd_same, rfl, ?_⟩
    rw [upd_upd]
    have s10 : Same H9 (upd (upd H9 dx (.own x)) x (.ins T.a_Program dx (fP pn pr pw))) := fun b u e => by
      rw [upd_ne (ne_of_none e hx), upd_ne (ne_of_none e hdx)]
      exact e
    have e10 : (upd (upd H9 dx (.own x)) x (.ins T.a_Program dx (fP pn pr pw))) x = some (.ins T.a_Program dx (fP pn pr pw)) := upd_same
    generalize upd (upd H9 dx (.own x)) x (.ins T.a_Program dx (fP pn pr pw)) = H10 at s10 e10 ⊢
    have S610 := S69.trans s10
    have imx : Ims H10 xs ((L.map Nd.ro).map Ro.d) := by rw [List.map_map]; exact ims.mono (Same.tk (S46.trans S610))
    have pra : PrA T.a_Program H10 x pn pr pw dx xs ms roots (L.map Nd.ro) := ⟨e10, (s8.trans (s9.trans s10)) _ _ en7, (s9.trans s10) _ _ er8, s10 _ _ ew9, imx⟩
    have wd1 : ∀ y : Str, List.lookup ("word" : Str) [(("word" : Str), V.str y)] = some (.str y) := fun y => lk_hd
    have tw : ∀ (f : Str × Str × Nat) (rest : List (Str × Str × Nat)), fs = f :: rest → f.1 = "Twice" → ∀ dz H', Same H10 H' → H' dz = some (dicX dz [("word", .str f.2.1)]) → CatchF K T.a_FlowError 10 (tAsg (cV 10) (gName 8)) Dx [some (.ref ad), some (.int seed), some (.int rate), some (.ref W), some (.ref bn), some (.ref ar), some (.ref aw), some (.ref fl), some .non, some .non, none] (.ref T.a_Twice) (some dz) H' := fun f rest hf h1 dz H' S' edz => by
      refine ⟨_, dz, rfl, rfl, T.e_Twice_FlowError, fun ea hea => ?_⟩
      have s13 := same_new hea (excD ea T.a_Twice dz)
      exact hNx _ _ ⟨.ref ea, .non, rfl, S610.trans (S'.trans s13), .inr ⟨ea, f, rest, hf, rfl, T.a_Twice, dz, _, upd_same, s13 _ _ edz, T.xs_Twice.xc, T.xf_Twice_word, lk_hd, .inl ⟨rfl, h1⟩, fun z => absurd h1 z⟩⟩
    refine ⟨x, pn, pr, pw, dx, xs, ms, roots, L.map Nd.ro, outF L, rfl, pra, by omega, fun i y hd dz H' S' edz => ?_, fun hnd => ?_⟩
    · rcases ask with ⟨_, hnd, _⟩ | ⟨i', y', hd', rfl⟩
      · exact absurd hnd hd.not
      · obtain ⟨_, rfl⟩ := hd.inj hd'
        exact tw _ _ rfl rfl dz H' S' edz
    · obtain ⟨rfl, hfs⟩ : ms = names ∧ fs = ftsF L := by
        rcases ask with ⟨h1, _, h2⟩ | ⟨i', y', hd', _⟩
        · exact ⟨h1, h2⟩
        · exact absurd hnd hd'.not
      have noM : ∀ {k k' : Nat} {nd : Nd} {ρ : Ro}, L[k]? = some nd → nd.ft ≠ none → (L.map Nd.ro)[k']? = some ρ → Fine (L.map Nd.ro) (outF L) k' → k' ≤ k := fun {k k' nd ρ} hk hf hk' fine => by
        by_cases z : k' ≤ k
        · exact z
        · exfalso
          obtain ⟨f, hf'⟩ : ∃ f, nd.ft = some f := by
            cases h : nd.ft with
            | none => exact absurd h hf
            | some f => exact ⟨f, rfl⟩
          have := fine k nd.ro (by omega) (by rw [List.getElem?_map, hk]; rfl)
          rcases mi.fault hk hf' with ⟨_, h2, h3⟩ | ⟨_, i, h2⟩
          · rw [List.getElem?_map, hk] at h2
            obtain ⟨h, hh⟩ := this.2 f.2 (Option.some.inj h2)
            rw [h3] at hh
            cases hh
          · exact h2.not this.1
      refine ⟨mi.good hnd, fun fine lf ys H' S' hlf elf hyl _ => ?_, fun k ρ i y fine hρ hd dz H' S' edz => ?_, fun k y fine hρ hn dz H' S' edz => ?_⟩
      · rcases ft_or L with ⟨h1, _⟩ | ⟨k, nd, f, rest, h1, h2, _⟩
        · rw [List.length_map] at hyl
          exact hNx _ _ ⟨.non, .ref lf, rfl, S610.trans S', .inl ⟨by rw [hfs, h1], rfl, lf, ys, rfl, elf, hyl⟩⟩
        · exfalso
          have kl := (List.getElem?_eq_some_iff.mp h1).1
          have := fine k nd.ro (by rw [List.length_map]; exact kl) (by rw [List.getElem?_map, h1]; rfl)
          rcases mi.fault h1 h2 with ⟨_, g2, g3⟩ | ⟨_, i, g2⟩
          · rw [List.getElem?_map, h1] at g2
            obtain ⟨h, hh⟩ := this.2 f.2 (Option.some.inj g2)
            rw [g3] at hh
            cases hh
          · exact g2.not this.1
      · rcases ft_or L with ⟨_, h0⟩ | ⟨k', nd, f, rest, h1, h2, h3, h4⟩
        · exfalso
          have := mi.fine (n := k + 1) (fun j nd _ h => h0 j nd h) k ρ (Nat.lt_succ_self _) hρ
          exact hd.not this.1
        · have kk : k' = k := by
            have g1 := noM h1 (by rw [h2]; exact fun z => nomatch z) hρ fine
            by_cases z : k < k'
            · exfalso
              have := mi.fine (n := k + 1) (fun j nd hj h => h3 j nd (by omega) h) k ρ (Nat.lt_succ_self _) hρ
              exact hd.not this.1
            · omega
          subst kk
          rw [List.getElem?_map, h1] at hρ
          cases hρ
          rcases mi.fault h1 h2 with ⟨_, g2, g3⟩ | ⟨g1, i', g2⟩
          · exfalso
            rw [List.getElem?_map, h1] at g2
            have e : nd.ro = .name f.2 := Option.some.inj g2
            have hd1 := hd.1
            rw [e] at hd1
            cases hd1
          · obtain ⟨_, rfl⟩ := hd.inj g2
            exact tw _ _ (by rw [hfs, h4]) g1 dz H' S' edz
      · rcases ft_or L with ⟨_, h0⟩ | ⟨k', nd, f, rest, h1, h2, h3, h4⟩
        · exfalso
          obtain ⟨h, hh⟩ := (mi.fine (n := k + 1) (fun j nd _ h => h0 j nd h) k _ (Nat.lt_succ_self _) hρ).2 y rfl
          rw [hn] at hh
          cases hh
        · have kk : k' = k := by
            have g1 := noM h1 (by rw [h2]; exact fun z => nomatch z) hρ fine
            by_cases z : k < k'
            · exfalso
              obtain ⟨h, hh⟩ := (mi.fine (n := k + 1) (fun j nd hj h => h3 j nd (by omega) h) k _ (Nat.lt_succ_self _) hρ).2 y rfl
              rw [hn] at hh
              cases hh
            · omega
          subst kk
          rcases mi.fault h1 h2 with ⟨g1, g2, g3⟩ | ⟨g1, i', g2⟩
          · rw [g2] at hρ
            have ey : f.2 = y := by injection (Option.some.inj hρ)
            refine ⟨_, dz, rfl, rfl, T.e_NoName_FlowError, fun ea hea => ?_⟩
            have s13 := same_new hea (excD ea T.a_NoName dz)
            refine hNx _ _ ⟨.ref ea, .non, rfl, S610.trans (S'.trans s13), .inr ⟨ea, _, rest, by rw [hfs, h4], rfl, T.a_NoName, dz, _, upd_same, s13 _ _ edz, T.xs_NoName.xc, T.xf_NoName_word, ?_, .inr ⟨rfl, g1⟩, fun _ => ⟨T.xf_NoName_place, (lk_tl (by decide +kernel)).trans lk_hd⟩⟩⟩
            rw [← ey]
            exact lk_hd
          · exfalso
            rw [List.getElem?_map, h1] at hρ
            have e : nd.ro = .name y := Option.some.inj hρ
            rw [e] at g2
            have hd1 := g2.1
            cases hd1
end
end K11.Internal
noncomputable def PySem.W.Fast.tw12400864530263661006 : Nat := 0
noncomputable def PySem.W.Fast.tw2983596703639355171 : Nat := 0
noncomputable def PySem.W.Fast.tw15824249625828872627 : Nat := 0
noncomputable def PySem.W.Fast.tw6004591071882217096 : Nat := 0
noncomputable def PySem.W.Fast.tw6481700833140321377 : Nat := 0
noncomputable def PySem.W.Fast.tw5944416573795709237 : Nat := 0
noncomputable def PySem.W.Fast.tw1587434989731369234 : Nat := 0
noncomputable def PySem.W.Fast.tw9794278481873855362 : Nat := 0
noncomputable def PySem.W.Fast.tw804409570765434622 : Nat := 0
noncomputable def PySem.W.Fast.tw9655395335566305764 : Nat := 0
noncomputable def PySem.W.Fast.tw496637577819307690 : Nat := 0
noncomputable def PySem.W.Fast.tw10078694182507370193 : Nat := 0
noncomputable def PySem.W.Fast.tw2550610983104687882 : Nat := 0
noncomputable def PySem.W.Fast.tw12474923455207108885 : Nat := 0
noncomputable def PySem.W.Fast.tw11149852821090966390 : Nat := 0
noncomputable def PySem.W.Fast.tw3463132862270388627 : Nat := 0
noncomputable def PySem.W.Fast.tw7631334092253002525 : Nat := 0
noncomputable def PySem.W.Fast.tw15175595239106808790 : Nat := 0
noncomputable def PySem.W.Fast.tw350201462397460770 : Nat := 0
noncomputable def PySem.W.Fast.tw7537930634775997053 : Nat := 0
noncomputable def PySem.W.Fast.tw8254331360352453952 : Nat := 0
noncomputable def PySem.W.Fast.tw15609119989720418129 : Nat := 0
noncomputable def PySem.W.Fast.tw16608214433810430665 : Nat := 0
noncomputable def PySem.W.Fast.tw10903417371450231659 : Nat := 0
noncomputable def PySem.W.Fast.tw3928326930792474106 : Nat := 0
noncomputable def PySem.W.Fast.tw17549093158459162738 : Nat := 0
noncomputable def PySem.W.Fast.tw13876358182841427309 : Nat := 0
noncomputable def PySem.W.Fast.tw4157119263568562499 : Nat := 0
noncomputable def PySem.W.Fast.tw3884276718697870610 : Nat := 0
noncomputable def PySem.W.Fast.tw3624459349151390868 : Nat := 0
noncomputable def PySem.W.Fast.tw4677721050252926399 : Nat := 0
noncomputable def PySem.W.Fast.tw14523340226495771302 : Nat := 0
noncomputable def PySem.W.Fast.tw1665543770391030882 : Nat := 0
noncomputable def PySem.W.Fast.tw7348166731844852297 : Nat := 0
noncomputable def PySem.W.Fast.tw13956126956670050020 : Nat := 0
noncomputable def PySem.W.Fast.tw8487773359460701667 : Nat := 0
namespace K11.Internal
open PySem L2.Internal
theorem all_mk {l : PySem.W.OpenLaw} {w : World} {K : PySem.W.Frag} {h : Heap} {mg : Str → Option Value} {fa fL : Addr} (X : K.In h) (G : h.Ns mainGlobals mg) (hfa : mg "law" = some (.ref fa))
    {f1 : Addr} {od1 an1 : Option Addr} {sl1 : Array (Option Value)} {oc1 kV1 dc1 pm1 cd1 ct1 : Value} {f2 : Addr} {od2 an2 : Option Addr} {sl2 : Array (Option Value)} {oc2 kV2 dc2 pm2 cd2 ct2 : Value} {f3 : Addr} {od3 an3 : Option Addr} {sl3 : Array (Option Value)} {oc3 kV3 dc3 pm3 cd3 ct3 : Value} {f4 : Addr} {od4 an4 : Option Addr} {sl4 : Array (Option Value)} {oc4 kV4 dc4 pm4 cd4 ct4 : Value} {f5 : Addr} {od5 an5 : Option Addr} {sl5 : Array (Option Value)} {oc5 kV5 dc5 pm5 cd5 ct5 : Value} {f6 : Addr} {od6 an6 : Option Addr} {sl6 : Array (Option Value)} {oc6 kV6 dc6 pm6 cd6 ct6 : Value} {f7 : Addr} {od7 an7 : Option Addr} {sl7 : Array (Option Value)} {oc7 kV7 dc7 pm7 cd7 ct7 : Value} {f8 : Addr} {od8 an8 : Option Addr} {sl8 : Array (Option Value)} {oc8 kV8 dc8 pm8 cd8 ct8 : Value} {f9 : Addr} {od9 an9 : Option Addr} {sl9 : Array (Option Value)} {oc9 kV9 dc9 pm9 cd9 ct9 : Value} {f10 : Addr} {od10 an10 : Option Addr} {sl10 : Array (Option Value)} {oc10 kV10 dc10 pm10 cd10 ct10 : Value} {f11 : Addr} {od11 an11 : Option Addr} {sl11 : Array (Option Value)} {oc11 kV11 dc11 pm11 cd11 ct11 : Value} {f12 : Addr} {od12 an12 : Option Addr} {sl12 : Array (Option Value)} {oc12 kV12 dc12 pm12 cd12 ct12 : Value} {f13 : Addr} {od13 an13 : Option Addr} {sl13 : Array (Option Value)} {oc13 kV13 dc13 pm13 cd13 ct13 : Value} {f14 : Addr} {od14 an14 : Option Addr} {sl14 : Array (Option Value)} {oc14 kV14 dc14 pm14 cd14 ct14 : Value} {f15 : Addr} {od15 an15 : Option Addr} {sl15 : Array (Option Value)} {oc15 kV15 dc15 pm15 cd15 ct15 : Value} {f16 : Addr} {od16 an16 : Option Addr} {sl16 : Array (Option Value)} {oc16 kV16 dc16 pm16 cd16 ct16 : Value} {f17 : Addr} {od17 an17 : Option Addr} {sl17 : Array (Option Value)} {oc17 kV17 dc17 pm17 cd17 ct17 : Value} {f18 : Addr} {od18 an18 : Option Addr} {sl18 : Array (Option Value)} {oc18 kV18 dc18 pm18 cd18 ct18 : Value} {f19 : Addr} {od19 an19 : Option Addr} {sl19 : Array (Option Value)} {oc19 kV19 dc19 pm19 cd19 ct19 : Value} {C20 : Addr} {C21 : Addr} {C22 : Addr} {f23 : Addr} {od23 an23 : Option Addr} {sl23 : Array (Option Value)} {oc23 kV23 dc23 pm23 cd23 ct23 : Value} {xN22 : Addr} {xn22 xq22 : Str} {xb22 xm22 xu22 : List Value} {xs22 : List Str} {xa22 : Bool} {xo22 : Option Bool} {xd22 : Option Addr} {xk22_0 xk22_1 xk22_2 xk22_3 xk22_5 : Option Value} {C24 : Addr} {f25 : Addr} {od25 an25 : Option Addr} {sl25 : Array (Option Value)} {oc25 kV25 dc25 pm25 cd25 ct25 : Value} {xN24 : Addr} {xn24 xq24 : Str} {xb24 xm24 xu24 : List Value} {xs24 : List Str} {xa24 : Bool} {xo24 : Option Bool} {xd24 : Option Addr} {xk24_0 xk24_1 xk24_2 xk24_3 xk24_5 : Option Value} {C26 : Addr} {C27 : Addr} {C28 : Addr} {C29 : Addr} {C30 : Addr} {C31 : Addr} {f32 : Addr} {od32 an32 : Option Addr} {sl32 : Array (Option Value)} {oc32 kV32 dc32 pm32 cd32 ct32 : Value}
    {odL anL : Option Addr} {slL : Array (Option Value)} {ocL kVL dcL pmL cdL ctL : Value}
    (a1 : PySem.W.nsIn K mainGlobals "parts_of" = some (some (.ref f1)))
    (l1 : K.lookup f1 = some ⟨oc1, od1, .func (PySem.W.fnOf "parts_of" "parts_of" (defArgs s_parts_of) (defBody s_parts_of) (defScope s_parts_of) .none kV1 dc1 pm1 an1 cd1 ct1), sl1⟩)
    (c1 : PySem.W.codeIn K cd1 "parts_of" = true)
    (k1 : PySem.W.keepIn K (.ref f1) = true)
    (a2 : PySem.W.nsIn K mainGlobals "places_in" = some (some (.ref f2)))
    (l2 : K.lookup f2 = some ⟨oc2, od2, .func (PySem.W.fnOf "places_in" "places_in" (defArgs s_places_in) (defBody s_places_in) (defScope s_places_in) .none kV2 dc2 pm2 an2 cd2 ct2), sl2⟩)
    (c2 : PySem.W.codeIn K cd2 "places_in" = true)
    (k2 : PySem.W.keepIn K (.ref f2) = true)
    (a3 : PySem.W.nsIn K mainGlobals "flat" = some (some (.ref f3)))
    (l3 : K.lookup f3 = some ⟨oc3, od3, .func (PySem.W.fnOf "flat" "flat" (defArgs s_flat) (defBody s_flat) (defScope s_flat) .none kV3 dc3 pm3 an3 cd3 ct3), sl3⟩)
    (c3 : PySem.W.codeIn K cd3 "flat" = true)
    (k3 : PySem.W.keepIn K (.ref f3) = true)
    (a4 : PySem.W.nsIn K mainGlobals "homes_of" = some (some (.ref f4)))
    (l4 : K.lookup f4 = some ⟨oc4, od4, .func (PySem.W.fnOf "homes_of" "homes_of" (defArgs s_homes_of) (defBody s_homes_of) (defScope s_homes_of) .none kV4 dc4 pm4 an4 cd4 ct4), sl4⟩)
    (c4 : PySem.W.codeIn K cd4 "homes_of" = true)
    (k4 : PySem.W.keepIn K (.ref f4) = true)
    (a5 : PySem.W.nsIn K mainGlobals "refuse_twice" = some (some (.ref f5)))
    (l5 : K.lookup f5 = some ⟨oc5, od5, .func (PySem.W.fnOf "refuse_twice" "refuse_twice" (defArgs s_refuse_twice) (defBody s_refuse_twice) (defScope s_refuse_twice) .none kV5 dc5 pm5 an5 cd5 ct5), sl5⟩)
    (c5 : PySem.W.codeIn K cd5 "refuse_twice" = true)
    (k5 : PySem.W.keepIn K (.ref f5) = true)
    (a6 : PySem.W.nsIn K mainGlobals "words_once" = some (some (.ref f6)))
    (l6 : K.lookup f6 = some ⟨oc6, od6, .func (PySem.W.fnOf "words_once" "words_once" (defArgs s_words_once) (defBody s_words_once) (defScope s_words_once) .none kV6 dc6 pm6 an6 cd6 ct6), sl6⟩)
    (c6 : PySem.W.codeIn K cd6 "words_once" = true)
    (k6 : PySem.W.keepIn K (.ref f6) = true)
    (a7 : PySem.W.nsIn K mainGlobals "home_of" = some (some (.ref f7)))
    (l7 : K.lookup f7 = some ⟨oc7, od7, .func (PySem.W.fnOf "home_of" "home_of" (defArgs s_home_of) (defBody s_home_of) (defScope s_home_of) .none kV7 dc7 pm7 an7 cd7 ct7), sl7⟩)
    (c7 : PySem.W.codeIn K cd7 "home_of" = true)
    (k7 : PySem.W.keepIn K (.ref f7) = true)
    (a8 : PySem.W.nsIn K mainGlobals "root_scopes" = some (some (.ref f8)))
    (l8 : K.lookup f8 = some ⟨oc8, od8, .func (PySem.W.fnOf "root_scopes" "root_scopes" (defArgs s_root_scopes) (defBody s_root_scopes) (defScope s_root_scopes) .none kV8 dc8 pm8 an8 cd8 ct8), sl8⟩)
    (c8 : PySem.W.codeIn K cd8 "root_scopes" = true)
    (k8 : PySem.W.keepIn K (.ref f8) = true)
    (a9 : PySem.W.nsIn K mainGlobals "inner_scopes" = some (some (.ref f9)))
    (l9 : K.lookup f9 = some ⟨oc9, od9, .func (PySem.W.fnOf "inner_scopes" "inner_scopes" (defArgs s_inner_scopes) (defBody s_inner_scopes) (defScope s_inner_scopes) .none kV9 dc9 pm9 an9 cd9 ct9), sl9⟩)
    (c9 : PySem.W.codeIn K cd9 "inner_scopes" = true)
    (k9 : PySem.W.keepIn K (.ref f9) = true)
    (a10 : PySem.W.nsIn K mainGlobals "widened" = some (some (.ref f10)))
    (l10 : K.lookup f10 = some ⟨oc10, od10, .func (PySem.W.fnOf "widened" "widened" (defArgs s_widened) (defBody s_widened) (defScope s_widened) .none kV10 dc10 pm10 an10 cd10 ct10), sl10⟩)
    (c10 : PySem.W.codeIn K cd10 "widened" = true)
    (k10 : PySem.W.keepIn K (.ref f10) = true)
    (a11 : PySem.W.nsIn K mainGlobals "_law_stem" = some (some (.ref f11)))
    (l11 : K.lookup f11 = some ⟨oc11, od11, .func (PySem.W.fnOf "_law_stem" "_law_stem" (defArgs s__law_stem) (defBody s__law_stem) (defScope s__law_stem) .none kV11 dc11 pm11 an11 cd11 ct11), sl11⟩)
    (c11 : PySem.W.codeIn K cd11 "_law_stem" = true)
    (k11 : PySem.W.keepIn K (.ref f11) = true)
    (a12 : PySem.W.nsIn K mainGlobals "_law_words" = some (some (.ref f12)))
    (l12 : K.lookup f12 = some ⟨oc12, od12, .func (PySem.W.fnOf "_law_words" "_law_words" (defArgs s__law_words) (defBody s__law_words) (defScope s__law_words) .none kV12 dc12 pm12 an12 cd12 ct12), sl12⟩)
    (c12 : PySem.W.codeIn K cd12 "_law_words" = true)
    (k12 : PySem.W.keepIn K (.ref f12) = true)
    (a13 : PySem.W.nsIn K mainGlobals "_law_row" = some (some (.ref f13)))
    (l13 : K.lookup f13 = some ⟨oc13, od13, .func (PySem.W.fnOf "_law_row" "_law_row" (defArgs s__law_row) (defBody s__law_row) (defScope s__law_row) .none kV13 dc13 pm13 an13 cd13 ct13), sl13⟩)
    (c13 : PySem.W.codeIn K cd13 "_law_row" = true)
    (k13 : PySem.W.keepIn K (.ref f13) = true)
    (a14 : PySem.W.nsIn K mainGlobals "_law_stands" = some (some (.ref f14)))
    (l14 : K.lookup f14 = some ⟨oc14, od14, .func (PySem.W.fnOf "_law_stands" "_law_stands" (defArgs s__law_stands) (defBody s__law_stands) (defScope s__law_stands) .none kV14 dc14 pm14 an14 cd14 ct14), sl14⟩)
    (c14 : PySem.W.codeIn K cd14 "_law_stands" = true)
    (k14 : PySem.W.keepIn K (.ref f14) = true)
    (a15 : PySem.W.nsIn K mainGlobals "_law_double" = some (some (.ref f15)))
    (l15 : K.lookup f15 = some ⟨oc15, od15, .func (PySem.W.fnOf "_law_double" "_law_double" (defArgs s__law_double) (defBody s__law_double) (defScope s__law_double) .none kV15 dc15 pm15 an15 cd15 ct15), sl15⟩)
    (c15 : PySem.W.codeIn K cd15 "_law_double" = true)
    (k15 : PySem.W.keepIn K (.ref f15) = true)
    (a16 : PySem.W.nsIn K mainGlobals "_law_doubled" = some (some (.ref f16)))
    (l16 : K.lookup f16 = some ⟨oc16, od16, .func (PySem.W.fnOf "_law_doubled" "_law_doubled" (defArgs s__law_doubled) (defBody s__law_doubled) (defScope s__law_doubled) .none kV16 dc16 pm16 an16 cd16 ct16), sl16⟩)
    (c16 : PySem.W.codeIn K cd16 "_law_doubled" = true)
    (k16 : PySem.W.keepIn K (.ref f16) = true)
    (a17 : PySem.W.nsIn K mainGlobals "_law_spoilt" = some (some (.ref f17)))
    (l17 : K.lookup f17 = some ⟨oc17, od17, .func (PySem.W.fnOf "_law_spoilt" "_law_spoilt" (defArgs s__law_spoilt) (defBody s__law_spoilt) (defScope s__law_spoilt) .none kV17 dc17 pm17 an17 cd17 ct17), sl17⟩)
    (c17 : PySem.W.codeIn K cd17 "_law_spoilt" = true)
    (k17 : PySem.W.keepIn K (.ref f17) = true)
    (a18 : PySem.W.nsIn K mainGlobals "_law_program" = some (some (.ref f18)))
    (l18 : K.lookup f18 = some ⟨oc18, od18, .func (PySem.W.fnOf "_law_program" "_law_program" (defArgs s__law_program) (defBody s__law_program) (defScope s__law_program) .none kV18 dc18 pm18 an18 cd18 ct18), sl18⟩)
    (c18 : PySem.W.codeIn K cd18 "_law_program" = true)
    (k18 : PySem.W.keepIn K (.ref f18) = true)
    (a19 : PySem.W.nsIn K mainGlobals "_law_of_class" = some (some (.ref f19)))
    (l19 : K.lookup f19 = some ⟨oc19, od19, .func (PySem.W.fnOf "_law_of_class" "_law_of_class" (defArgs s__law_of_class) (defBody s__law_of_class) (defScope s__law_of_class) .none kV19 dc19 pm19 an19 cd19 ct19), sl19⟩)
    (c19 : PySem.W.codeIn K cd19 "_law_of_class" = true)
    (k19 : PySem.W.keepIn K (.ref f19) = true)
    (a20 : PySem.W.nsIn K mainGlobals "FlowError" = some (some (.ref C20)))
    (x20 : PySem.W.excIn K C20 [.type "ValueError", .type "Exception", .type "BaseException", .type "object"] "ValueError.__new__" = true)
    (a21 : PySem.W.nsIn K mainGlobals "BadText" = some (some (.ref C21)))
    (x21 : PySem.W.excIn K C21 [.type "ValueError", .type "Exception", .type "BaseException", .type "object"] "ValueError.__new__" = true)
    (a22 : PySem.W.nsIn K mainGlobals "Twice" = some (some (.ref C22)))
    (xl22 : K.lookup C22 = some ⟨.type "type", xd22, .cls ⟨xn22, xb22, .ref C22 :: xm22, xN22, xq22, true, xs22, xu22, xa22, xo22, false⟩, #[xk22_0, xk22_1, xk22_2, xk22_3, some (.builtin "ValueError.__new__"), xk22_5]⟩)
    (xi22 : PySem.W.nsIn K xN22 "__init__" = some (some (.ref f23)))
    (l23 : K.lookup f23 = some ⟨oc23, od23, .func (PySem.W.fnOf "__init__" "Twice.__init__" (defArgs s_Twice___init__) (defBody s_Twice___init__) (defScope s_Twice___init__) .none kV23 dc23 pm23 an23 cd23 ct23), sl23⟩)
    (c23 : PySem.W.codeIn K cd23 "Twice.__init__" = true)
    (k23 : PySem.W.keepIn K (.ref f23) = true)
    (xz22 : PySem.W.nsOkIn K xN22 = true)
    (xt22 : PySem.W.tailIn K VEbm xm22 = true)
    (xp22 : oc23 = .type "function")
    (xj22 : PySem.W.findIn K (.ref C22) "__setattr__" = some (some (.builtin "object.__setattr__")))
    (xya22 : PySem.W.findIn K (.ref C22) "__getattribute__" = some (some (.builtin "BaseException.__getattribute__")))
    (xyb22 : PySem.W.findIn K (.ref C22) "__getattr__" = some none)
    (xyc22 : PySem.W.findIn K (.ref C22) "__class__" = some (some (.builtin "object.__class__")))
    (xyd22 : PySem.W.subIn K (.ref C22) (.type "BaseException") = some true)
    (xye22 : PySem.W.subIn K (.ref C22) (.type "object") = some true)
    (xyf22 : PySem.W.hasDictIn K C22 = true)
    (xf22_word : PySem.W.findIn K (.ref C22) "word" = some none)
    (a24 : PySem.W.nsIn K mainGlobals "NoName" = some (some (.ref C24)))
    (xl24 : K.lookup C24 = some ⟨.type "type", xd24, .cls ⟨xn24, xb24, .ref C24 :: xm24, xN24, xq24, true, xs24, xu24, xa24, xo24, false⟩, #[xk24_0, xk24_1, xk24_2, xk24_3, some (.builtin "ValueError.__new__"), xk24_5]⟩)
    (xi24 : PySem.W.nsIn K xN24 "__init__" = some (some (.ref f25)))
    (l25 : K.lookup f25 = some ⟨oc25, od25, .func (PySem.W.fnOf "__init__" "NoName.__init__" (defArgs s_NoName___init__) (defBody s_NoName___init__) (defScope s_NoName___init__) .none kV25 dc25 pm25 an25 cd25 ct25), sl25⟩)
    (c25 : PySem.W.codeIn K cd25 "NoName.__init__" = true)
    (k25 : PySem.W.keepIn K (.ref f25) = true)
    (xz24 : PySem.W.nsOkIn K xN24 = true)
    (xt24 : PySem.W.tailIn K VEbm xm24 = true)
    (xp24 : oc25 = .type "function")
    (xj24 : PySem.W.findIn K (.ref C24) "__setattr__" = some (some (.builtin "object.__setattr__")))
    (xya24 : PySem.W.findIn K (.ref C24) "__getattribute__" = some (some (.builtin "BaseException.__getattribute__")))
    (xyb24 : PySem.W.findIn K (.ref C24) "__getattr__" = some none)
    (xyc24 : PySem.W.findIn K (.ref C24) "__class__" = some (some (.builtin "object.__class__")))
    (xyd24 : PySem.W.subIn K (.ref C24) (.type "BaseException") = some true)
    (xye24 : PySem.W.subIn K (.ref C24) (.type "object") = some true)
    (xyf24 : PySem.W.hasDictIn K C24 = true)
    (xf24_word : PySem.W.findIn K (.ref C24) "word" = some none)
    (xf24_place : PySem.W.findIn K (.ref C24) "place" = some none)
    (a26 : PySem.W.nsIn K mainGlobals "TooHeavy" = some (some (.ref C26)))
    (a27 : PySem.W.nsIn K mainGlobals "BadPaper" = some (some (.ref C27)))
    (x27 : PySem.W.excIn K C27 [.type "ValueError", .type "Exception", .type "BaseException", .type "object"] "ValueError.__new__" = true)
    (a28 : PySem.W.nsIn K mainGlobals "WrongKind" = some (some (.ref C28)))
    (a29 : PySem.W.nsIn K mainGlobals "OutOfTurns" = some (some (.ref C29)))
    (x29 : PySem.W.excIn K C29 [.type "ValueError", .type "Exception", .type "BaseException", .type "object"] "ValueError.__new__" = true)
    (a30 : PySem.W.nsIn K mainGlobals "RowFull" = some (some (.ref C30)))
    (x30 : PySem.W.excIn K C30 [.type "ValueError", .type "Exception", .type "BaseException", .type "object"] "ValueError.__new__" = true)
    (a31 : PySem.W.nsIn K mainGlobals "Program" = some (some (.ref C31)))
    (pg31 : PySem.W.plainGet K C31 Str.empty = true)
    (hd31 : PySem.W.hasDictIn K C31 = true)
    (po31 : PySem.W.plainOver K C31 = true)
    (sa31 : PySem.W.findIn K (.ref C31) "__setattr__" = some (some (.builtin "object.__setattr__")))
    (t1_31 : PySem.W.findIn K (.ref C31) "__class__" = some (some (.builtin "object.__class__")))
    (t2_31 : PySem.W.specialIn K (.builtin "object.__class__") "__get__" = some (some (.builtin "getset_descriptor.__get__")))
    (t3_31 : PySem.W.takesIn K (.builtin "object.__class__") = some true)
    (t4_31 : PySem.W.mroIn K C31 (.type "object") = some true)
    (n31_names : PySem.W.findIn K (.ref C31) "names" = some none)
    (n31_roots : PySem.W.findIn K (.ref C31) "roots" = some none)
    (n31_rows : PySem.W.findIn K (.ref C31) "rows" = some none)
    (i32 : PySem.W.findIn K (.ref C31) "__init__" = some (some (.ref f32)))
    (j32 : PySem.W.isFn K (.ref f32) = true)
    (l32 : K.lookup f32 = some ⟨oc32, od32, .func (PySem.W.fnOf "__init__" "Program.__init__" (defArgs s_Program___init__) (defBody s_Program___init__) (defScope s_Program___init__) .none kV32 dc32 pm32 an32 cd32 ct32), sl32⟩)
    (c32 : PySem.W.codeIn K cd32 "Program.__init__" = true)
    (k32 : PySem.W.keepIn K (.ref f32) = true)
    (mk31 : PySem.W.makesIn K C31 = true)
    (kc31 : PySem.W.keepIn K (.ref C31) = true)
    (e_Twice_FlowError : PySem.W.exmOne K (.ref C22) (.ref C20) = some true)
    (e_NoName_FlowError : PySem.W.exmOne K (.ref C24) (.ref C20) = some true)
    (i_Twice_ValueError : PySem.W.kitOne K (.ref C22) (.type "ValueError") = some true)
    (i_Twice_BadPaper : PySem.W.kitOne K (.ref C22) (.ref C27) = some false)
    (i_Twice_BadText : PySem.W.kitOne K (.ref C22) (.ref C21) = some false)
    (i_Twice_TooHeavy : PySem.W.kitOne K (.ref C22) (.ref C26) = some false)
    (i_Twice_OutOfTurns : PySem.W.kitOne K (.ref C22) (.ref C29) = some false)
    (i_Twice_RowFull : PySem.W.kitOne K (.ref C22) (.ref C30) = some false)
    (i_Twice_WrongKind : PySem.W.kitOne K (.ref C22) (.ref C28) = some false)
    (i_Twice_Twice : PySem.W.kitOne K (.ref C22) (.ref C22) = some true)
    (i_Twice_NoName : PySem.W.kitOne K (.ref C22) (.ref C24) = some false)
    (i_NoName_ValueError : PySem.W.kitOne K (.ref C24) (.type "ValueError") = some true)
    (i_NoName_BadPaper : PySem.W.kitOne K (.ref C24) (.ref C27) = some false)
    (i_NoName_BadText : PySem.W.kitOne K (.ref C24) (.ref C21) = some false)
    (i_NoName_TooHeavy : PySem.W.kitOne K (.ref C24) (.ref C26) = some false)
    (i_NoName_OutOfTurns : PySem.W.kitOne K (.ref C24) (.ref C29) = some false)
    (i_NoName_RowFull : PySem.W.kitOne K (.ref C24) (.ref C30) = some false)
    (i_NoName_WrongKind : PySem.W.kitOne K (.ref C24) (.ref C28) = some false)
    (i_NoName_Twice : PySem.W.kitOne K (.ref C24) (.ref C22) = some false)
    (i_NoName_NoName : PySem.W.kitOne K (.ref C24) (.ref C24) = some true)
    (z_ValueError : PySem.W.nsIn K mainGlobals "ValueError" = some none)
    (z_bool : PySem.W.nsIn K mainGlobals "bool" = some none)
    (z_dict : PySem.W.nsIn K mainGlobals "dict" = some none)
    (z_enumerate : PySem.W.nsIn K mainGlobals "enumerate" = some none)
    (z_int : PySem.W.nsIn K mainGlobals "int" = some none)
    (z_isinstance : PySem.W.nsIn K mainGlobals "isinstance" = some none)
    (z_len : PySem.W.nsIn K mainGlobals "len" = some none)
    (z_list : PySem.W.nsIn K mainGlobals "list" = some none)
    (z_range : PySem.W.nsIn K mainGlobals "range" = some none)
    (z_reversed : PySem.W.nsIn K mainGlobals "reversed" = some none)
    (z_str : PySem.W.nsIn K mainGlobals "str" = some none)
    (z_sum : PySem.W.nsIn K mainGlobals "sum" = some none)
    (z_tuple : PySem.W.nsIn K mainGlobals "tuple" = some none)
    (z_zip : PySem.W.nsIn K mainGlobals "zip" = some none)
    (aL : PySem.W.nsIn K mainGlobals "law" = some (some (.ref fL))) (lL : K.lookup fL = some ⟨ocL, odL, .func (PySem.W.fnOf "law" "law" (defArgs s_law) (defBody s_law) (defScope s_law) .none kVL dcL pmL anL cdL ctL), slL⟩) (cL : PySem.W.codeIn K cdL "law" = true) (kL : PySem.W.keepIn K (.ref fL) = true) :
    ∃ fd : FuncData, (∀ (s : Shared) (v : Value), BindsTo s fd ⟨[v], []⟩ [("_law_script", v)]) ∧ ∀ base : Heap, K.In base → base.Ns mainGlobals mg → FnOk l.prog w K mg base CX0 40 fa fd ["_law_script"] (sp_law K) := by
  have e := hfa.symm.trans (PySem.W.mg_of X G aL)
  cases e
  have T : Txt K mg := ⟨f1, _, fun_mk (st := s_parts_of) l1 c1 k1, (fun_mk (st := s_parts_of) l1 c1 k1).binds (ps := ["row"]) (fun _ _ _ _ _ _ => lS (fun _ => l0 rfl)), PySem.W.mg_of X G a1, k1,
    f2, _, fun_mk (st := s_places_in) l2 c2 k2, (fun_mk (st := s_places_in) l2 c2 k2).binds (ps := ["row"]) (fun _ _ _ _ _ _ => lS (fun _ => l0 rfl)), PySem.W.mg_of X G a2, k2,
    f3, _, fun_mk (st := s_flat) l3 c3 k3, (fun_mk (st := s_flat) l3 c3 k3).binds (ps := ["parts"]) (fun _ _ _ _ _ _ => lS (fun _ => l0 rfl)), PySem.W.mg_of X G a3, k3,
    f4, _, fun_mk (st := s_homes_of) l4 c4 k4, (fun_mk (st := s_homes_of) l4 c4 k4).binds (ps := ["program"]) (fun _ _ _ _ _ _ => lS (fun _ => l0 rfl)), PySem.W.mg_of X G a4, k4,
    f5, _, fun_mk (st := s_refuse_twice) l5 c5 k5, (fun_mk (st := s_refuse_twice) l5 c5 k5).binds (ps := ["words"]) (fun _ _ _ _ _ _ => lS (fun _ => l0 rfl)), PySem.W.mg_of X G a5, k5,
    f6, _, fun_mk (st := s_words_once) l6 c6 k6, (fun_mk (st := s_words_once) l6 c6 k6).binds (ps := ["row"]) (fun _ _ _ _ _ _ => lS (fun _ => l0 rfl)), PySem.W.mg_of X G a6, k6,
    f7, _, fun_mk (st := s_home_of) l7 c7 k7, (fun_mk (st := s_home_of) l7 c7 k7).binds (ps := ["row", "place", "scope"]) (fun _ _ _ _ _ _ => lS (fun _ => lS (fun _ => lS (fun _ => l0 rfl)))), PySem.W.mg_of X G a7, k7,
    f8, _, fun_mk (st := s_root_scopes) l8 c8 k8, (fun_mk (st := s_root_scopes) l8 c8 k8).binds (ps := ["program"]) (fun _ _ _ _ _ _ => lS (fun _ => l0 rfl)), PySem.W.mg_of X G a8, k8,
    f9, _, fun_mk (st := s_inner_scopes) l9 c9 k9, (fun_mk (st := s_inner_scopes) l9 c9 k9).binds (ps := ["row", "scope"]) (fun _ _ _ _ _ _ => lS (fun _ => lS (fun _ => l0 rfl))), PySem.W.mg_of X G a9, k9,
    f10, _, fun_mk (st := s_widened) l10 c10 k10, (fun_mk (st := s_widened) l10 c10 k10).binds (ps := ["scope", "name", "home"]) (fun _ _ _ _ _ _ => lS (fun _ => lS (fun _ => lS (fun _ => l0 rfl)))), PySem.W.mg_of X G a10, k10,
    f11, _, fun_mk (st := s__law_stem) l11 c11 k11, (fun_mk (st := s__law_stem) l11 c11 k11).binds (ps := ["_law_cell", "_law_size"]) (fun _ _ _ _ _ _ => lS (fun _ => lS (fun _ => l0 rfl))), PySem.W.mg_of X G a11, k11,
    f12, _, fun_mk (st := s__law_words) l12 c12 k12, (fun_mk (st := s__law_words) l12 c12 k12).binds (ps := ["_law_cell"]) (fun _ _ _ _ _ _ => lS (fun _ => l0 rfl)), PySem.W.mg_of X G a12, k12,
    f13, _, fun_mk (st := s__law_row) l13 c13 k13, (fun_mk (st := s__law_row) l13 c13 k13).binds (ps := ["_law_op", "_law_more", "_law_kids"]) (fun _ _ _ _ _ _ => lS (fun _ => lS (fun _ => lS (fun _ => l0 rfl)))), PySem.W.mg_of X G a13, k13,
    f14, _, fun_mk (st := s__law_stands) l14 c14 k14, (fun_mk (st := s__law_stands) l14 c14 k14).binds (ps := ["_law_words_here", "_law_cell", "_law_held", "_law_room"]) (fun _ _ _ _ _ _ => lS (fun _ => lS (fun _ => lS (fun _ => lS (fun _ => l0 rfl))))), PySem.W.mg_of X G a14, k14,
    f15, _, fun_mk (st := s__law_double) l15 c15 k15, (fun_mk (st := s__law_double) l15 c15 k15).binds (ps := ["_law_marks"]) (fun _ _ _ _ _ _ => lS (fun _ => l0 rfl)), PySem.W.mg_of X G a15, k15,
    f16, _, fun_mk (st := s__law_doubled) l16 c16 k16, (fun_mk (st := s__law_doubled) l16 c16 k16).binds (ps := ["_law_marks", "_law_mix"]) (fun _ _ _ _ _ _ => lS (fun _ => lS (fun _ => l0 rfl))), PySem.W.mg_of X G a16, k16,
    f17, _, fun_mk (st := s__law_spoilt) l17 c17 k17, (fun_mk (st := s__law_spoilt) l17 c17 k17).binds (ps := ["_law_words_here", "_law_cell", "_law_known", "_law_own", "_law_stands_here", "_law_rate"]) (fun _ _ _ _ _ _ => lS (fun _ => lS (fun _ => lS (fun _ => lS (fun _ => lS (fun _ => lS (fun _ => l0 rfl))))))), PySem.W.mg_of X G a17, k17,
    f18, _, fun_mk (st := s__law_program) l18 c18 k18, (fun_mk (st := s__law_program) l18 c18 k18).binds (ps := ["_law_words_here", "_law_seed", "_law_rate", "_law_cells"]) (fun _ _ _ _ _ _ => lS (fun _ => lS (fun _ => lS (fun _ => lS (fun _ => l0 rfl))))), PySem.W.mg_of X G a18, k18,
    f19, _, fun_mk (st := s__law_of_class) l19 c19 k19, (fun_mk (st := s__law_of_class) l19 c19 k19).binds (ps := ["_law_caught", "_law_name"]) (fun _ _ _ _ _ _ => lS (fun _ => lS (fun _ => l0 rfl))), PySem.W.mg_of X G a19, k19,
    C20, PySem.W.mg_of X G a20, x20,
    C21, PySem.W.mg_of X G a21, x21,
    C22, PySem.W.mg_of X G a22, f23, _, fun_mk (st := s_Twice___init__) l23 c23 k23, (fun_mk (st := s_Twice___init__) l23 c23 k23).binds (ps := ["self", "word"]) (fun _ _ _ _ _ _ => lS (fun _ => lS (fun _ => l0 rfl))), exi_of xl22 xz22 xi22 xt22 l23 xp22, sto_of xl22 xt22 ⟨xya22, xyb22, xyc22, xyd22, xye22, xyf22⟩ xj22, xf22_word,
    C24, PySem.W.mg_of X G a24, f25, _, fun_mk (st := s_NoName___init__) l25 c25 k25, (fun_mk (st := s_NoName___init__) l25 c25 k25).binds (ps := ["self", "word", "place"]) (fun _ _ _ _ _ _ => lS (fun _ => lS (fun _ => lS (fun _ => l0 rfl)))), exi_of xl24 xz24 xi24 xt24 l25 xp24, sto_of xl24 xt24 ⟨xya24, xyb24, xyc24, xyd24, xye24, xyf24⟩ xj24, xf24_word, xf24_place,
    C26, PySem.W.mg_of X G a26,
    C27, PySem.W.mg_of X G a27, x27,
    C28, PySem.W.mg_of X G a28,
    C29, PySem.W.mg_of X G a29, x29,
    C30, PySem.W.mg_of X G a30, x30,
    C31, PySem.W.mg_of X G a31, ⟨pg31, hd31, po31, sa31⟩, fun _ _ _ _ e => .ins e ⟨pg31, hd31, po31, sa31⟩ t1_31 t2_31 t3_31 t4_31, n31_names, n31_roots, n31_rows, f32, _, fun_mk (st := s_Program___init__) l32 c32 k32, (fun_mk (st := s_Program___init__) l32 c32 k32).binds (ps := ["self", "names", "roots", "rows"]) (fun _ _ _ _ _ _ => lS (fun _ => lS (fun _ => lS (fun _ => lS (fun _ => l0 rfl))))), ⟨mk31, i32, j32, kc31⟩,
    e_Twice_FlowError,
    e_NoName_FlowError,
    i_Twice_ValueError,
    i_Twice_BadPaper,
    i_Twice_BadText,
    i_Twice_TooHeavy,
    i_Twice_OutOfTurns,
    i_Twice_RowFull,
    i_Twice_WrongKind,
    i_Twice_Twice,
    i_Twice_NoName,
    i_NoName_ValueError,
    i_NoName_BadPaper,
    i_NoName_BadText,
    i_NoName_TooHeavy,
    i_NoName_OutOfTurns,
    i_NoName_RowFull,
    i_NoName_WrongKind,
    i_NoName_Twice,
    i_NoName_NoName,
    PySem.W.mg_none_of X G z_ValueError,
    PySem.W.mg_none_of X G z_bool,
    PySem.W.mg_none_of X G z_dict,
    PySem.W.mg_none_of X G z_enumerate,
    PySem.W.mg_none_of X G z_int,
    PySem.W.mg_none_of X G z_isinstance,
    PySem.W.mg_none_of X G z_len,
    PySem.W.mg_none_of X G z_list,
    PySem.W.mg_none_of X G z_range,
    PySem.W.mg_none_of X G z_reversed,
    PySem.W.mg_none_of X G z_str,
    PySem.W.mg_none_of X G z_sum,
    PySem.W.mg_none_of X G z_tuple,
    PySem.W.mg_none_of X G z_zip⟩
  exact ⟨PySem.W.fnOf "law" "law" (defArgs s_law) (defBody s_law) (defScope s_law) .none kVL dcL pmL anL cdL ctL, fun s v => .of_eq rfl, fun base _ _ => all_law T (fun_mk (st := s_law) lL cL kL)⟩
theorem walk {l : PySem.W.OpenLaw} {q : Program} {loose : List Str} {XP : (Str → Option Value) → Heap → Prop} {YP : World → Heap → Prop} {d : DefRec} {K : Params → PySem.W.Frag} (hn : l.most = some 63) (hdf : d.params.defaults = [])
    (hY : ∀ (w : World) (h : Heap), YP w h → (K w.params).In h)
    (F : ∀ (w : World) (mg : Str → Option Value) (fa : Addr) (h : Heap), (K w.params).In h → h.Ns mainGlobals mg → mg d.name = some (.ref fa) →
      ∃ fd : FuncData, (∀ (s : Shared) (u : Value), BindsTo s fd ⟨[u], []⟩ [("_law_script", u)]) ∧ ∀ base : Heap, (K w.params).In base → base.Ns mainGlobals mg → FnOk l.prog w (K w.params) mg base CX0 40 fa fd ["_law_script"] (sp_law (K w.params))) :
    PySem.W.WalkO q loose XP YP l.row.toRowW d [] (fun f vs => PySem.call f vs) :=
  L2.Internal.walk_of (n := 63) (k := 40) (x := "_law_script") (CX := fun _ => CX0) (sp := fun w => sp_law (K w.params)) hn (by decide) hdf ⟨rfl, by decide, by decide⟩ hY F (fun _ _ a ns hl _ hS => ⟨a, ns, rfl, hS, hl, fun _ => rfl⟩) fun _ _ _ _ _ z => z
end K11.Internal
open PySem PySem.W PyProof.Rows
set_option maxRecDepth 100000 in
set_option maxHeartbeats 0 in
theorem PySem.Challenge.cw_flowkinds_k11_no_name_and_twice_holds : PySem.Challenge.rw_flowkinds_k11_no_name_and_twice.Holds := by
  w_on; o_law; k_head; (case hw => w_witness2)
  k_fill
  refine K11.Internal.walk (l := PySem.Challenge.rw_flowkinds_k11_no_name_and_twice) rfl rfl (fun w h Y => PySem.W.kIn_of Y) ?F
  case F =>
    intro w mg fa h KX G hmg
    refine' K11.Internal.all_mk KX G hmg ?a1 ?l1 ?c1 ?k1 ?a2 ?l2 ?c2 ?k2 ?a3 ?l3 ?c3 ?k3 ?a4 ?l4 ?c4 ?k4 ?a5 ?l5 ?c5 ?k5 ?a6 ?l6 ?c6 ?k6 ?a7 ?l7 ?c7 ?k7 ?a8 ?l8 ?c8 ?k8 ?a9 ?l9 ?c9 ?k9 ?a10 ?l10 ?c10 ?k10 ?a11 ?l11 ?c11 ?k11 ?a12 ?l12 ?c12 ?k12 ?a13 ?l13 ?c13 ?k13 ?a14 ?l14 ?c14 ?k14 ?a15 ?l15 ?c15 ?k15 ?a16 ?l16 ?c16 ?k16 ?a17 ?l17 ?c17 ?k17 ?a18 ?l18 ?c18 ?k18 ?a19 ?l19 ?c19 ?k19 ?a20 ?x20 ?a21 ?x21 ?a22 ?xl22 ?xi22 ?l23 ?c23 ?k23 ?xz22 ?xt22 ?xp22 ?xj22 ?xya22 ?xyb22 ?xyc22 ?xyd22 ?xye22 ?xyf22 ?xf22_word ?a24 ?xl24 ?xi24 ?l25 ?c25 ?k25 ?xz24 ?xt24 ?xp24 ?xj24 ?xya24 ?xyb24 ?xyc24 ?xyd24 ?xye24 ?xyf24 ?xf24_word ?xf24_place ?a26 ?a27 ?x27 ?a28 ?a29 ?x29 ?a30 ?x30 ?a31 ?pg31 ?hd31 ?po31 ?sa31 ?t1_31 ?t2_31 ?t3_31 ?t4_31 ?n31_names ?n31_roots ?n31_rows ?i32 ?j32 ?l32 ?c32 ?k32 ?mk31 ?kc31 ?e_Twice_FlowError ?e_NoName_FlowError ?i_Twice_ValueError ?i_Twice_BadPaper ?i_Twice_BadText ?i_Twice_TooHeavy ?i_Twice_OutOfTurns ?i_Twice_RowFull ?i_Twice_WrongKind ?i_Twice_Twice ?i_Twice_NoName ?i_NoName_ValueError ?i_NoName_BadPaper ?i_NoName_BadText ?i_NoName_TooHeavy ?i_NoName_OutOfTurns ?i_NoName_RowFull ?i_NoName_WrongKind ?i_NoName_Twice ?i_NoName_NoName ?z_ValueError ?z_bool ?z_dict ?z_enumerate ?z_int ?z_isinstance ?z_len ?z_list ?z_range ?z_reversed ?z_str ?z_sum ?z_tuple ?z_zip ?aL ?lL ?cL ?kL
    (case a1 => k_is)
    (case l1 => k_is)
    (case c1 => k_is)
    (case k1 => k_is)
    (case a2 => k_is)
    (case l2 => k_is)
    (case c2 => k_is)
    (case k2 => k_is)
    (case a3 => k_is)
    (case l3 => k_is)
    (case c3 => k_is)
    (case k3 => k_is)
    (case a4 => k_is)
    (case l4 => k_is)
    (case c4 => k_is)
    (case k4 => k_is)
    (case a5 => k_is)
    (case l5 => k_is)
    (case c5 => k_is)
    (case k5 => k_is)
    (case a6 => k_is)
    (case l6 => k_is)
    (case c6 => k_is)
    (case k6 => k_is)
    (case a7 => k_is)
    (case l7 => k_is)
    (case c7 => k_is)
    (case k7 => k_is)
    (case a8 => k_is)
    (case l8 => k_is)
    (case c8 => k_is)
    (case k8 => k_is)
    (case a9 => k_is)
    (case l9 => k_is)
    (case c9 => k_is)
    (case k9 => k_is)
    (case a10 => k_is)
    (case l10 => k_is)
    (case c10 => k_is)
    (case k10 => k_is)
    (case a11 => k_is)
    (case l11 => k_is)
    (case c11 => k_is)
    (case k11 => k_is)
    (case a12 => k_is)
    (case l12 => k_is)
    (case c12 => k_is)
    (case k12 => k_is)
    (case a13 => k_is)
    (case l13 => k_is)
    (case c13 => k_is)
    (case k13 => k_is)
    (case a14 => k_is)
    (case l14 => k_is)
    (case c14 => k_is)
    (case k14 => k_is)
    (case a15 => k_is)
    (case l15 => k_is)
    (case c15 => k_is)
    (case k15 => k_is)
    (case a16 => k_is)
    (case l16 => k_is)
    (case c16 => k_is)
    (case k16 => k_is)
    (case a17 => k_is)
    (case l17 => k_is)
    (case c17 => k_is)
    (case k17 => k_is)
    (case a18 => k_is)
    (case l18 => k_is)
    (case c18 => k_is)
    (case k18 => k_is)
    (case a19 => k_is)
    (case l19 => k_is)
    (case c19 => k_is)
    (case k19 => k_is)
    (case a20 => k_is)
    (case x20 => k_exc)
    (case a21 => k_is)
    (case x21 => k_exc)
    (case a22 => k_is)
    (case xl22 => k_is)
    (case xi22 => k_is)
    (case l23 => k_is)
    (case c23 => k_is)
    (case k23 => k_is)
    (case xz22 => first | k_is | kernel_rfl | rfl)
    (case xt22 => first | k_is | kernel_rfl | rfl)
    (case xp22 => rfl)
    (case xj22 => k_is)
    (case xya22 => k_is)
    (case xyb22 => k_is)
    (case xyc22 => k_is)
    (case xyd22 => k_is)
    (case xye22 => k_is)
    (case xyf22 => k_is)
    (case xf22_word => k_is)
    (case a24 => k_is)
    (case xl24 => k_is)
    (case xi24 => k_is)
    (case l25 => k_is)
    (case c25 => k_is)
    (case k25 => k_is)
    (case xz24 => first | k_is | kernel_rfl | rfl)
    (case xt24 => first | k_is | kernel_rfl | rfl)
    (case xp24 => rfl)
    (case xj24 => k_is)
    (case xya24 => k_is)
    (case xyb24 => k_is)
    (case xyc24 => k_is)
    (case xyd24 => k_is)
    (case xye24 => k_is)
    (case xyf24 => k_is)
    (case xf24_word => k_is)
    (case xf24_place => k_is)
    (case a26 => k_is)
    (case a27 => k_is)
    (case x27 => k_exc)
    (case a28 => k_is)
    (case a29 => k_is)
    (case x29 => k_exc)
    (case a30 => k_is)
    (case x30 => k_exc)
    (case a31 => k_is)
    (case pg31 => k_is)
    (case hd31 => k_is)
    (case po31 => k_is)
    (case sa31 => k_is)
    (case t1_31 => k_is)
    (case t2_31 => k_is)
    (case t3_31 => k_is)
    (case t4_31 => k_is)
    (case n31_names => k_is)
    (case n31_roots => k_is)
    (case n31_rows => k_is)
    (case i32 => k_is)
    (case j32 => k_is)
    (case l32 => k_is)
    (case c32 => k_is)
    (case k32 => k_is)
    (case mk31 => k_is)
    (case kc31 => k_is)
    (case e_Twice_FlowError => kts_exm)
    (case e_NoName_FlowError => kts_exm)
    (case i_Twice_ValueError => kit_is)
    (case i_Twice_BadPaper => kit_is)
    (case i_Twice_BadText => kit_is)
    (case i_Twice_TooHeavy => kit_is)
    (case i_Twice_OutOfTurns => kit_is)
    (case i_Twice_RowFull => kit_is)
    (case i_Twice_WrongKind => kit_is)
    (case i_Twice_Twice => kit_is)
    (case i_Twice_NoName => kit_is)
    (case i_NoName_ValueError => kit_is)
    (case i_NoName_BadPaper => kit_is)
    (case i_NoName_BadText => kit_is)
    (case i_NoName_TooHeavy => kit_is)
    (case i_NoName_OutOfTurns => kit_is)
    (case i_NoName_RowFull => kit_is)
    (case i_NoName_WrongKind => kit_is)
    (case i_NoName_Twice => kit_is)
    (case i_NoName_NoName => kit_is)
    (case z_ValueError => k_is)
    (case z_bool => k_is)
    (case z_dict => k_is)
    (case z_enumerate => k_is)
    (case z_int => k_is)
    (case z_isinstance => k_is)
    (case z_len => k_is)
    (case z_list => k_is)
    (case z_range => k_is)
    (case z_reversed => k_is)
    (case z_str => k_is)
    (case z_sum => k_is)
    (case z_tuple => k_is)
    (case z_zip => k_is)
    (case aL => k_is)
    (case lL => k_is)
    (case cL => k_is)
    (case kL => k_is)
