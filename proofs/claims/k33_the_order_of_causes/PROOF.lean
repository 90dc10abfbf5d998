import PyProof.Rows.All
import Wide.All
import OpenK.AllK
import Wide.FinOn
import Lean
import PyProof.EqAt
import PyProof.EqKinds
import PyProof.TupleCall
import PyProof.NeKinds
import PySem.Challenge.RW_flowkinds_k33_the_order_of_causes
set_option Elab.async false
set_option linter.all false
set_option maxRecDepth 100000
set_option maxHeartbeats 4000000
set_option genInjectivity false
set_option genSizeOf false
set_option bootstrap.genMatcherCode false
set_option compiler.extract_closed false
namespace L2.Internal
theorem auR (h : True = True := by rfl) : True := trivial
theorem auD (h : True := by decide) : True := trivial
theorem auI (h : True → True = True := by intro _; rfl) : True := trivial
theorem auL (h : True = True ∨ True := by first | exact .inl rfl | exact .inr rfl | assumption) : True := trivial
open PySem PySem.Spec PyProof.Rows

noncomputable abbrev Key := Sum Int Str
noncomputable def keyIs : Key → Value → Bool
  | .inl k, v => Value.isInt k v
  | .inr x, v => Value.isStrOf x v
noncomputable def keyH (w : World) : Key → Int
  | .inl k => hashInt k
  | .inr x => hashStr w x
theorem keyIs_shape : ∀ {k : Key} {v : Value}, keyIs k v = true → (∃ i t, k = Sum.inl i ∧ v = Value.int i t) ∨ (∃ x t, k = Sum.inr x ∧ v = Value.str x t)
  | .inl i, v, h => by
    obtain ⟨t, e⟩ := Value.isInt_shape (k := i) (v := v) h
    exact .inl ⟨i, t, rfl, e⟩
  | .inr x, v, h => by
    obtain ⟨t, e⟩ := Value.isStrOf_shape (x := x) (v := v) h
    exact .inr ⟨x, t, rfl, e⟩
theorem keyIs_int (i : Int) (t : Tok) : keyIs (.inl i) (.int i t) = true := by simp [keyIs, Value.isInt]
theorem keyIs_str (x : Str) (t : Tok) : keyIs (.inr x) (.str x t) = true := by simp [keyIs, Value.isStrOf]
theorem key_ll (a b : Int) : decide ((Sum.inl a : Key) = Sum.inl b) = (a == b) := by
  by_cases e : a = b
  · subst e; simp
  · have h : ¬ (Sum.inl a : Key) = Sum.inl b := fun q => e (Sum.inl.inj q)
    rw [decide_eq_false h]
    exact (beq_eq_false_iff_ne.mpr e).symm
theorem key_rr (a b : Str) : decide ((Sum.inr a : Key) = Sum.inr b) = decide (a = b) := by
  by_cases e : a = b
  · subst e; simp
  · have h : ¬ (Sum.inr a : Key) = Sum.inr b := fun q => e (Sum.inr.inj q)
    rw [decide_eq_false h, decide_eq_false e]
theorem key_lr (a : Int) (b : Str) : decide ((Sum.inl a : Key) = Sum.inr b) = false := decide_eq_false (fun q => nomatch q)
theorem key_rl (a : Str) (b : Int) : decide ((Sum.inr a : Key) = Sum.inl b) = false := decide_eq_false (fun q => nomatch q)

noncomputable def mixKind (prog : Program) (w : World) : PySem.KeyKind prog w Key where
  is := keyIs
  hash := keyH w
  inj := fun v a b ha hb => by
    rcases keyIs_shape ha with ⟨i, t, rfl, rfl⟩ | ⟨x, t, rfl, rfl⟩
    · rcases keyIs_shape hb with ⟨j, u, rfl, e⟩ | ⟨y, u, rfl, e⟩
      · injection e with e1 _; rw [e1]
      · exact nomatch e
    · rcases keyIs_shape hb with ⟨j, u, rfl, e⟩ | ⟨y, u, rfl, e⟩
      · exact nomatch e
      · injection e with e1 _; rw [e1]
  byValue := fun k v h => by
    rcases keyIs_shape h with ⟨i, t, rfl, rfl⟩ | ⟨x, t, rfl, rfl⟩ <;> rfl
  pyHash := fun hv h => by
    rcases keyIs_shape hv with ⟨i, t, rfl, rfl⟩ | ⟨x, t, rfl, rfl⟩
    · exact wpAny_pyHash_int h
    · exact wpAny_pyHash_str h
  eqBool := fun hu hv h => by
    rcases keyIs_shape hu with ⟨i, t, rfl, rfl⟩ | ⟨x, t, rfl, rfl⟩
    · rcases keyIs_shape hv with ⟨j, u, rfl, rfl⟩ | ⟨y, u, rfl, rfl⟩
      · rw [key_ll] at h; exact wpAny_eqBool_int h
      · rw [key_lr] at h; exact SeqAt.EqAt.int_str i t y u _ _ _ _ h
    · rcases keyIs_shape hv with ⟨j, u, rfl, rfl⟩ | ⟨y, u, rfl, rfl⟩
      · rw [key_rl] at h; exact SeqAt.EqAt.str_int x t j u _ _ _ _ h
      · rw [key_rr] at h; exact wpAny_eqBool_str h
  «strs» := fun k x t v h => by
    rcases keyIs_shape h with ⟨i, u, rfl, e⟩ | ⟨y, u, rfl, e⟩
    · exact nomatch e
    · injection e with e1 _
      subst e1
      cases v <;> rfl

theorem mixKind_int (prog : Program) (w : World) (i : Int) (t : Tok) : (mixKind prog w).is (.inl i) (.int i t) = true := keyIs_int i t
theorem mixKind_str (prog : Program) (w : World) (x : Str) (t : Tok) : (mixKind prog w).is (.inr x) (.str x t) = true := keyIs_str x t
end L2.Internal

namespace L2.Internal
open PySem PySem.Spec PyProof.Rows

set_option genInjectivity true in
inductive V where
  | non | bl (b : Bool) | int (i : Int) | str (x : Str) | byt (b : Array UInt8) | flt (b : UInt64) | ref (a : Addr) | ty (n : String)
  deriving DecidableEq

noncomputable def RelV : V → Value → Prop
  | .non, u => u = Value.none
  | .bl b, u => u = Value.bool b
  | .int i, u => ∃ t, u = Value.int i t
  | .str x, u => ∃ t, u = Value.str x t
  | .byt b, u => ∃ t, u = Value.bytes b t
  | .flt b, u => ∃ t, u = Value.float b t
  | .ref a, u => u = Value.ref a
  | .ty n, u => u = Value.type n

noncomputable abbrev Vals : List V → List Value → Prop := Paired RelV
theorem Vals.length {xs : List V} {us : List Value} (r : Vals xs us) : xs.length = us.length := Paired.length r
theorem Vals.get : ∀ {xs : List V} {us : List Value} {i : Nat} {x : V}, Vals xs us → xs[i]? = some x → ∃ u, us[i]? = some u ∧ RelV x u
  | _, _, _, _, .nil, e => by simp at e
  | _, _, 0, _, .cons r _, e => by simp at e; subst e; exact ⟨_, rfl, r⟩
  | _, _, i + 1, x, .cons _ t, e => by
    obtain ⟨u, h1, h2⟩ := Vals.get (i := i) (x := x) t (by simpa using e)
    exact ⟨u, by simpa using h1, h2⟩
theorem Vals.append : ∀ {xs ys : List V} {us ws : List Value}, Vals xs us → Vals ys ws → Vals (xs ++ ys) (us ++ ws)
  | _, _, _, _, .nil, s => s
  | _, _, _, _, .cons r t, s => .cons r (Vals.append t s)
theorem Vals.take : ∀ {xs : List V} {us : List Value} (n : Nat), Vals xs us → Vals (xs.take n) (us.take n)
  | _, _, 0, _ => .nil
  | _, _, _ + 1, .nil => .nil
  | _, _, n + 1, .cons r t => .cons r (Vals.take n t)
theorem Vals.drop : ∀ {xs : List V} {us : List Value} (n : Nat), Vals xs us → Vals (xs.drop n) (us.drop n)
  | _, _, 0, r => r
  | _, _, _ + 1, .nil => .nil
  | _, _, n + 1, .cons _ t => Vals.drop n t
noncomputable def RelO : Option V → Option Value → Prop
  | some v, some u => RelV v u
  | none, none => True
  | _, _ => False
noncomputable def KV {κ : Type} : List (κ × V) → List (κ × Value) → Prop := Paired fun (p : κ × V) (q : κ × Value) => p.1 = q.1 ∧ RelV p.2 q.2

noncomputable def kV : Key → V
  | .inl i => .int i
  | .inr x => .str x

inductive HO where
  /-- a list -/
  | lst (xs : List V)
  /-- a tuple (never changes) -/
  | tup (xs : List V)
  /-- a dict whose keys are ints and texts; one whose keys are tuples of ints and texts (the empty one is both) -/
  | dK (kvs : List (Key × V)) | dT (kvs : List (List Key × V))
  /-- a set of ints: its members, its size -/
  | set (S : Int → Bool) (n : Nat)
  /-- an instance of the class at C, its dict at dx, its attributes -/
  | ins (C dx : Addr) (fs : List (Str × V))
  /-- the dict of the instance at x -/
  | own (x : Addr)
  /-- the dict of an exception -/
  | xd (fs : List (Str × V))
  /-- a bound method, f of x -/
  | met (f x : Addr)
  /-- a range object lo, lo + 1, .. below hi -/
  | rng (lo hi : Int)
  /-- a thing that is known to the object (the script; a dict while a loop walks it): read, never written while it is so -/
  | frz (o : Obj) (u : HO)
  /-- a code object's table -/
  | tbl (ps : Array Value)
  /-- any other thing, by what is true of its one object (a def of one's own: SetO a S n := HO.ext fun h => ..) -/
  | ext (φ : Heap → Prop)

noncomputable abbrev Hp := Addr → Option HO
noncomputable def Tup0 (h : Heap) (a : Addr) (items : Array Value) : Prop := ∃ o, h.get? a = some o ∧ o.cls = .type "tuple" ∧ ∃ n, o.data = .seq items n ∧ o.dict = none
theorem Tup0.tup {h : Heap} {a : Addr} {items : Array Value} : Tup0 h a items → IsTup h a items
  | ⟨o, h1, h2, n, h3, _⟩ => ⟨o, h1, h2, n, h3⟩
theorem Tup0.lt {h : Heap} {a : Addr} {items : Array Value} (p : Tup0 h a items) : a < h.objs.size := by
  obtain ⟨o, e, _⟩ := p
  exact Heap.lt_size e
theorem Tup0.new (h : Heap) (items : Array Value) : Tup0 (h.push { cls := .type "tuple", data := .seq items }) h.objs.size items := ⟨_, Heap.get?_push_size _ rfl, rfl, _, rfl, rfl⟩
noncomputable def upd (H : Hp) (a : Addr) (o : HO) : Hp := fun b => if b = a then some o else H b
theorem upd_same {H : Hp} {a : Addr} {o : HO} : upd H a o a = some o := by unfold upd; rw [if_pos rfl]
theorem upd_ne {H : Hp} {a b : Addr} {o : HO} (h : b ≠ a) : upd H a o b = H b := by unfold upd; rw [if_neg h]
theorem upd_upd {H : Hp} {a : Addr} {o u : HO} : upd (upd H a o) a u = upd H a u := by
  funext b; unfold upd; split <;> rfl
theorem ne_of {H : Hp} {a b : Addr} {o u : HO} (h : H a = some o) (h' : H b = some u) (d : o ≠ u) : a ≠ b := by
  intro e; subst e; rw [h] at h'; exact d (Option.some.inj h')
theorem ne_of_none {H : Hp} {a b : Addr} {o : HO} (h : H a = some o) (h' : H b = none) : a ≠ b := by
  intro e; subst e; rw [h] at h'; cases h'

section
variable (P : Program) (w : World)
noncomputable def ObjOk (H : Hp) (h : Heap) (a : Addr) : HO → Prop
  | .lst xs => xs.length ≤ sizeLine ∧ ∃ (its : List Value) (n : Nat), Vals xs its ∧ h.get? a = some { cls := .type "list", data := .seq its.toArray n }
  | .tup xs => xs.length ≤ sizeLine ∧ ∃ its : List Value, Vals xs its ∧ Tup0 h a its.toArray
  | .dK kvs => kvs.length ≤ sizeLine ∧ (a == sysModules) = false ∧ ∃ vs, KV kvs vs ∧ h.DictOf (mixKind P w) a vs
  | .dT kvs => kvs.length ≤ sizeLine ∧ (a == sysModules) = false ∧ ∃ xs : List (List Key × Addr × Value),
      Paired (fun (p : List Key × V) (q : List Key × Addr × Value) => p.1 = q.1 ∧ H q.2.1 = some (.tup (p.1.map kV)) ∧ RelV p.2 q.2.2) kvs xs ∧
      ∃ o es ep, h.get? a = some o ∧ o.ExactDict ∧ o.data = .dict es ep ∧ es.toList = xs.map (entryOfKey (tupleKind (mixKind P w))) ∧ (xs.map (·.1)).Nodup
  | .set S n => h.SetOf (intKind P w) a S n
  | .ins C dx fs => H dx = some (.own a) ∧ fs.length ≤ 1000 ∧ dx ≠ a ∧ h.get? a = some (PySem.W.instObj C dx) ∧
      ∃ mA, h.Ns1 dx mA ∧ (∀ f, RelO (fs.lookup f) (mA f)) ∧ PySem.Within mA (fs.map (·.1))
  | .own _ => ∃ o, h.get? a = some o
  | .xd fs => ∃ mA, h.Ns1 a mA ∧ ∀ f, RelO (fs.lookup f) (mA f)
  | .rng lo hi => ∃ t u v, h.get? a = some { cls := .type "range", data := .fields #[.int lo t, .int hi u, .int 1 v] }
  | .frz o u => h.get? a = some o ∧ ObjOk H h a u
  | .tbl ps => h.get? a = some { cls := .none, data := .fields ps }
  | .met f x => h.get? a = some (PySem.W.methodObj (.ref f) (.ref x))
  | .ext φ => φ h ∧ (∃ o, h.get? a = some o) ∧ ∀ h1 h2 : Heap, φ h1 → (∀ o, h1.get? a = some o → h2.get? a = some o) → φ h2
noncomputable def HOk (H : Hp) (h : Heap) : Prop := ∀ a o, H a = some o → ObjOk P w H h a o
end

section
variable {P : Program} {w : World} {H H' : Hp} {h h' : Heap} {a : Addr} {o : HO}
theorem ObjOk.lt (x : ObjOk P w H h a o) : a < h.objs.size := by
  cases o with
  | lst xs => obtain ⟨_, _, _, _, e⟩ := x; exact Heap.lt_size e
  | tup xs => obtain ⟨_, _, _, p⟩ := x; exact p.lt
  | dK kvs => obtain ⟨_, _, _, _, o, _, _, e, _⟩ := x; exact Heap.lt_size e
  | dT kvs => obtain ⟨_, _, _, _, o, _, _, e, _⟩ := x; exact Heap.lt_size e
  | set S n => obtain ⟨o, _, _, _, e, _⟩ := x; exact Heap.lt_size e
  | ins C dx fs => obtain ⟨_, _, _, e, _⟩ := x; exact Heap.lt_size e
  | own y => obtain ⟨_, e⟩ := x; exact Heap.lt_size e
  | xd fs => obtain ⟨_, ⟨_, _, _, e, _⟩, _⟩ := x; exact Heap.lt_size e
  | rng lo hi => obtain ⟨_, _, _, e⟩ := x; exact Heap.lt_size e
  | frz ob u => obtain ⟨e, _⟩ := x; exact Heap.lt_size e
  | tbl ps => exact Heap.lt_size (show h.get? a = some _ from x)
  | met f y => exact Heap.lt_size (show h.get? a = some _ from x)
  | ext φ => obtain ⟨_, ⟨_, e⟩, _⟩ := x; exact Heap.lt_size e
theorem Paired.mapP {α β : Type} {F G : α → β → Prop} : ∀ {l₁ : List α} {l₂ : List β}, Paired F l₁ l₂ → (∀ a b, F a b → G a b) → Paired G l₁ l₂
  | _, _, .nil, _ => .nil
  | _, _, .cons r t, f => .cons (f _ _ r) (Paired.mapP t f)
theorem ObjOk.stay (x : ObjOk P w H h a o) (k : ∀ b u, (b = a ∨ H b = some (.own a)) → h.get? b = some u → h'.get? b = some u)
    (ho : ∀ b, H b = some (.own a) → H' b = some (.own a)) (ht : ∀ b xs, H b = some (.tup xs) → H' b = some (.tup xs)) : ObjOk P w H' h' a o := by
  induction o with
  | lst xs => obtain ⟨z, its, n, r, e⟩ := x; exact ⟨z, its, n, r, k _ _ (.inl rfl) e⟩
  | tup xs => obtain ⟨z, its, r, ob, e, c⟩ := x; exact ⟨z, its, r, ob, k _ _ (.inl rfl) e, c⟩
  | dK kvs => obtain ⟨z, y, vs, r, ob, es, ep, e, c⟩ := x; exact ⟨z, y, vs, r, ob, es, ep, k _ _ (.inl rfl) e, c⟩
  | dT kvs =>
    obtain ⟨z, y, xs, r, ob, es, ep, e, c⟩ := x
    exact ⟨z, y, xs, Paired.mapP r fun p q z => ⟨z.1, ht _ _ z.2.1, z.2.2⟩, ob, es, ep, k _ _ (.inl rfl) e, c⟩
  | set S n => obtain ⟨ob, es, ep, t, e, c⟩ := x; exact ⟨ob, es, ep, t, k _ _ (.inl rfl) e, c⟩
  | ins C dx fs =>
    obtain ⟨d, z, ne, e, mA, ⟨od, es, ep, e2, c⟩, r⟩ := x
    exact ⟨ho _ d, z, ne, k _ _ (.inl rfl) e, mA, ⟨od, es, ep, k _ _ (.inr d) e2, c⟩, r⟩
  | own y => obtain ⟨ob, e⟩ := x; exact ⟨ob, k _ _ (.inl rfl) e⟩
  | xd fs => obtain ⟨mA, ⟨od, es, ep, e, c⟩, r⟩ := x; exact ⟨mA, ⟨od, es, ep, k _ _ (.inl rfl) e, c⟩, r⟩
  | rng lo hi => obtain ⟨t, u, v, e⟩ := x; exact ⟨t, u, v, k _ _ (.inl rfl) e⟩
  | frz ob u ih => obtain ⟨e, q⟩ := x; exact ⟨k _ _ (.inl rfl) e, ih q⟩
  | tbl ps =>
    have e : h.get? a = some { cls := .none, data := .fields ps } := x
    show h'.get? a = some { cls := .none, data := .fields ps }
    exact k a _ (.inl rfl) e
  | met f y =>
    have e : h.get? a = some (PySem.W.methodObj (.ref f) (.ref y)) := x
    show h'.get? a = some (PySem.W.methodObj (.ref f) (.ref y))
    exact k a _ (.inl rfl) e
  | ext φ => obtain ⟨p, ⟨o, e⟩, st⟩ := x; exact ⟨st _ _ p fun o q => k _ _ (.inl rfl) q, ⟨o, k _ _ (.inl rfl) e⟩, st⟩
theorem HOk.lt (x : HOk P w H h) (e : H a = some o) : a < h.objs.size := (x a o e).lt
theorem HOk.fresh (x : HOk P w H h) (e : h.objs.size ≤ a) : H a = none := by
  cases q : H a with
  | none => rfl
  | some u => exact absurd (Nat.lt_of_lt_of_le (x.lt q) e) (Nat.lt_irrefl _)
theorem HOk.kept (x : HOk P w H h) (k : ∀ b u, h.get? b = some u → h'.get? b = some u) : HOk P w H h' := fun a o e =>
  (x a o e).stay (fun b u _ q => k b u q) (fun _ q => q) fun _ _ q => q
theorem HOk.laid (x : HOk P w H h) (k : ∀ b u, h.get? b = some u → h'.get? b = some u) (hp : h.objs.size ≤ a) (new : ObjOk P w (upd H a o) h' a o) : HOk P w (upd H a o) h' := fun b u e => by
  have hn := x.fresh hp
  by_cases hb : b = a
  · subst hb; rw [upd_same] at e; cases e; exact new
  · rw [upd_ne hb] at e
    exact (x b u e).stay (fun c v _ q => k c v q) (fun c q => by rw [upd_ne (ne_of_none q hn)]; exact q) fun c xs q => by rw [upd_ne (ne_of_none q hn)]; exact q
end

noncomputable def Rd (H : Hp) (a : Addr) (u : HO) : Prop := H a = some u ∨ ∃ o, H a = some (.frz o u)
theorem Rd.ok {P : Program} {w : World} {H : Hp} {h : Heap} {a : Addr} {u : HO} (r : Rd H a u) (x : HOk P w H h) : ObjOk P w H h a u := by
  rcases r with r | ⟨o, r⟩
  · exact x a u r
  · obtain ⟨_, q⟩ := x a _ r
    exact q
noncomputable def Mut : Option HO → Prop
  | some (.lst _) => True
  | some (.dK _) => True
  | some (.dT _) => True
  | some (.set _ _) => True
  | some (.ins _ _ _) => True
  | some (.ext _) => True
  | _ => False
section
variable {P : Program} {w : World} {H : Hp} {h h' : Heap} {x e : Addr} {o' : HO}
theorem HOk.write (ok : HOk P w H h) (mu : Mut (H x)) (he : e = x ∨ H e = some (.own x)) (k : ∀ b u, b ≠ e → h.get? b = some u → h'.get? b = some u) (heo : ∃ u, h'.get? e = some u)
    (new : ObjOk P w (upd H x o') h' x o') : HOk P w (upd H x o') h' := fun b u q => by
  have nown : ∀ c y, H c = some (.own y) → c ≠ x := fun c y r z => by subst z; rw [r] at mu; exact mu
  have ntup : ∀ c xs, H c = some (.tup xs) → c ≠ x := fun c xs r z => by subst z; rw [r] at mu; exact mu
  by_cases hb : b = x
  · subst hb; rw [upd_same] at q; cases q; exact new
  · rw [upd_ne hb] at q
    by_cases hbe : b = e
    · have q' : H b = some (.own x) := by
        rcases he with z | z
        · exact absurd (hbe.trans z) hb
        · rw [hbe]; exact z
      rw [q] at q'; cases q'
      obtain ⟨v, hv⟩ := heo
      exact ⟨v, by rw [hbe]; exact hv⟩
    · refine (ok b u q).stay (fun c v hc r => k c v ?_ r) (fun c r => by rw [upd_ne (nown c b r)]; exact r) fun c xs r => by rw [upd_ne (ntup c xs r)]; exact r
      rcases hc with rfl | hc
      · exact hbe
      · rintro rfl
        rcases he with z | z
        · exact nown c b hc z
        · rw [hc] at z; cases z; exact hb rfl
end

structure Un (fs ex : List Addr) (H H' : Hp) (h h' : Heap) : Prop where
  keep : ∀ b o, h.get? b = some o → H b = none → b ∉ fs → b ∉ ex → h'.get? b = some o
  slot : ∀ b o, h.get? b = some o → H b = none → b ∈ fs → b ∉ ex → ∃ sl, h'.get? b = some { o with slots := sl }
  free : ∀ b o, h.get? b = some o → H b = none → b ∉ ex → H' b = none
  there : ∀ b o, h.get? b = some o → b ∉ ex → ∃ o', h'.get? b = some o'
  tups : ∀ b xs, H b = some (.tup xs) → H' b = some (.tup xs)
  frzs : ∀ b o u, H b = some (.frz o u) → H' b = some (.frz o u)
  tbls : ∀ b ps, H b = some (.tbl ps) → ∃ more, H' b = some (.tbl (ps ++ more))
section
variable {fs fs' ex ex' : List Addr} {H H1 H2 : Hp} {h h1 h2 h' : Heap} {a x e : Addr} {o : HO}
theorem Un.any (u : Un fs ex H H1 h h1) {b : Addr} {ob : Obj} (q : h.get? b = some ob) (n : H b = none) (hx : b ∉ ex) : ∃ sl, h1.get? b = some { ob with slots := sl } := by
  by_cases hb : b ∈ fs
  · exact u.slot b ob q n hb hx
  · exact ⟨ob.slots, u.keep b ob q n hb hx⟩
theorem Un.trans (a : Un fs ex H H1 h h1) (b : Un fs ex H1 H2 h1 h2) : Un fs ex H H2 h h2 where
  keep := fun c ob q n hc hx => b.keep c ob (a.keep c ob q n hc hx) (a.free c ob q n hx) hc hx
  slot := fun c ob q n hc hx => by
    obtain ⟨sl, e1⟩ := a.slot c ob q n hc hx
    obtain ⟨sl', e2⟩ := b.slot c _ e1 (a.free c ob q n hx) hc hx
    exact ⟨sl', e2⟩
  free := fun c ob q n hx => by
    obtain ⟨o', e1⟩ := a.there c ob q hx
    exact b.free c o' e1 (a.free c ob q n hx) hx
  there := fun c ob q hx => by
    obtain ⟨o', e1⟩ := a.there c ob q hx
    exact b.there c o' e1 hx
  tups := fun c xs q => b.tups c xs (a.tups c xs q)
  frzs := fun c ob xs q => b.frzs c ob xs (a.frzs c ob xs q)
  tbls := fun c ps q => by
    obtain ⟨m1, e1⟩ := a.tbls c ps q
    obtain ⟨m2, e2⟩ := b.tbls c _ e1
    exact ⟨m1 ++ m2, by rw [e2, Array.append_assoc]⟩
theorem Un.kept (k : ∀ b u, h.get? b = some u → h'.get? b = some u) : Un fs ex H H h h' :=
  ⟨fun b ob q _ _ _ => k b ob q, fun b ob q _ _ _ => ⟨ob.slots, k b ob q⟩, fun _ _ _ n _ => n, fun b ob q _ => ⟨ob, k b ob q⟩, fun _ _ q => q, fun _ _ _ q => q, fun _ ps q => ⟨#[], by rw [q]; simp⟩⟩
theorem Un.refl : Un fs ex H H h h := Un.kept fun _ _ q => q
theorem Un.laid (k : ∀ b u, h.get? b = some u → h'.get? b = some u) (hp : h.objs.size ≤ a) (hn : H a = none) : Un fs ex H (upd H a o) h h' where
  keep := fun b u q _ _ _ => k b u q
  slot := fun b u q _ _ _ => ⟨u.slots, k b u q⟩
  free := fun b u q n _ => by rw [upd_ne (Nat.ne_of_lt (Nat.lt_of_lt_of_le (Heap.lt_size q) hp))]; exact n
  there := fun b u q _ => ⟨u, k b u q⟩
  tups := fun b xs q => by rw [upd_ne (ne_of_none q hn)]; exact q
  frzs := fun b u xs q => by rw [upd_ne (ne_of_none q hn)]; exact q
  tbls := fun b ps q => ⟨#[], by rw [upd_ne (ne_of_none q hn), q]; simp⟩
theorem Un.write (mu : Mut (H x)) (he : e = x ∨ H e = some (.own x)) (k : ∀ b u, b ≠ e → h.get? b = some u → h'.get? b = some u) (heo : ∃ u, h'.get? e = some u) : Un fs ex H (upd H x o) h h' := by
  have hx : ∀ b, H b = none → b ≠ x := fun b n z => by subst z; rw [n] at mu; exact mu
  have hb : ∀ b, H b = none → b ≠ e := fun b n z => by
    subst z
    rcases he with r | r
    · exact hx b n r
    · rw [n] at r; cases r
  have hm : ∀ b u, H b = some u → ¬ Mut (some u) → b ≠ x := fun b u q nm z => by subst z; rw [q] at mu; exact nm mu
  refine ⟨fun b u q n _ _ => k b u (hb b n) q, fun b u q n _ _ => ⟨u.slots, k b u (hb b n) q⟩, fun b u q n _ => by rw [upd_ne (hx b n)]; exact n, fun b u q _ => ?_,
    fun b xs q => by rw [upd_ne (hm b _ q fun z => z)]; exact q, fun b u xs q => by rw [upd_ne (hm b _ q fun z => z)]; exact q, fun b ps q => ⟨#[], by rw [upd_ne (hm b _ q fun z => z), q]; simp⟩⟩
  by_cases hbe : b = e
  · subst hbe; exact heo
  · exact ⟨u, k b u hbe q⟩
end

noncomputable def trk (h : Heap) (H : Hp) : List Addr := (List.range h.objs.size).filter fun a => (H a).isSome
noncomputable def hidT (h : Heap) (H : Hp) : Heap := PySem.W.hideAll h (trk h H)
theorem hidT_size (h : Heap) (H : Hp) : (hidT h H).objs.size = h.objs.size := PySem.W.hideAll_size _ _
theorem hidT_get {h : Heap} {H : Hp} {b : Addr} {o : Obj} (e : h.get? b = some o) (n : H b = none) : (hidT h H).get? b = some o :=
  PySem.W.hideAll_get _ e fun hm => by
    have q : (H b).isSome = true := (List.mem_filter.mp hm).2
    rw [n] at q; simp at q
theorem of_hidT {h : Heap} {H : Hp} {b : Addr} {o : Obj} (e : (hidT h H).get? b = some o) : h.get? b = some o ∧ H b = none := by
  have e' : h.get? b = some o := PySem.W.of_hideAll (trk h H) e
  refine ⟨e', ?_⟩
  cases q : H b with
  | none => rfl
  | some x =>
    have hm : b ∈ trk h H := List.mem_filter.mpr ⟨List.mem_range.mpr (Heap.lt_size e'), by simp [q]⟩
    have z : (hidT h H).get? b = none := PySem.W.hideAll_none (trk h H) hm
    rw [z] at e; cases e

noncomputable def allNews (g h : Heap) (L : Addr) : List (Addr × Obj) := (List.range h.objs.size).filterMap fun a => if a = L ∨ (g.get? a).isSome = true then none else (h.get? a).map fun o => (a, o)
noncomputable def rest (g h : Heap) (L d : Addr) : List (Addr × Obj) := (allNews g h L).filter fun p => decide (p.1 ≠ d)
end L2.Internal

namespace L2.Internal
open PySem PySem.Spec PyProof.Rows

structure Mod (K : PySem.W.Frag) (mg : Str → Option Value) (base : Heap) : Prop where
  kin : K.In base
  glob : base.Ns mainGlobals mg
  blt : ∃ mb, base.Ns builtinsNs mb ∧ ∀ x : Str, x ≠ "__name__" → mb x = bootBuiltins x
  nolimit : base.NoLimit

structure Cx where
  prog : Program
  w : World
  K : PySem.W.Frag
  mg : Str → Option Value
  base : Heap
  A : Around
  N : List Str
  s₀ : Shared
  H₀ : Hp
  env : Env
  outer : List Env
  stack : List Env
  ex : List Addr
  fn : Str → Bool
  calm : Bool
  pn : List (Addr × Obj)
  xe : Value → Shared → Prop
noncomputable def frs (l : List Env) : List Addr := l.filterMap (·.frame)
noncomputable abbrev Cx.fs (X : Cx) : List Addr := frs X.outer

noncomputable def Vis (sc : Scope) (x : Str) : Prop := sc.names.lookup x = some .local ∨ sc.names.lookup x = some .cell ∨ sc.names.lookup x = some .free
noncomputable def Loc (sc : Scope) (x : Str) : Prop := sc.names.lookup x = some .local ∨ sc.names.lookup x = some .cell
noncomputable def Look (env : Env) (h : Heap) (m : Str → Option Value) (x : Str) (u : Value) : Prop :=
  (env.kindOf x = some .local ∧ m x = some u) ∨ ((env.kindOf x = some .cell ∨ env.kindOf x = some .free) ∧ ∃ c, env.cells.lookup x = some c ∧ h.IsCell c (some u))

structure Cx.Ok (X : Cx) : Prop where
  mod : Mod X.K X.mg X.base
  kind : X.env.scope.kind = .function
  glob : X.env.globals = mainGlobals
  blt : X.env.builtins = builtinsNs
  above : X.s₀.heap.objs.size ≤ X.env.locals
  inj : ∀ x y c, X.env.cells.lookup x = some c → X.env.cells.lookup y = some c → x = y
  has : ∀ x, (X.env.kindOf x = some .cell ∨ X.env.kindOf x = some .free) → ∃ c, X.env.cells.lookup x = some c
  cab : ∀ x c, X.fn x = true → X.env.cells.lookup x = some c → X.s₀.heap.objs.size ≤ c
  hd : X.calm = true → X.A.handled = none
  frames : X.A.frames = some X.stack
  stk : X.stack = X.outer ∨ (X.stack = X.env :: X.outer ∧ X.env.frame = some X.env.locals)
  exf : ∀ b ∈ X.ex, b ≠ X.env.locals ∧ ∀ x c, X.env.cells.lookup x = some c → c ≠ b
  bs : ∀ b o, X.base.get? b = some o → X.s₀.heap.get? b = some o ∧ X.H₀ b = none
  bsz : X.base.objs.size ≤ X.s₀.heap.objs.size
  noex : ∀ b o, X.base.get? b = some o → b ∉ X.ex
  exfs : ∀ b ∈ X.ex, b ∉ X.fs
  funs : X.s₀.heap.FunFrames X.base X.outer
  frf : ∀ b ∈ X.fs, X.H₀ b = none

structure Inv (X : Cx) (pins : List (Addr × Obj)) (σ : List (Option V)) (H : Hp) (s : Shared) : Prop where
  ok : X.Ok
  os : s.os = X.s₀.os
  bare : AllBare s.gens
  base : Un X.fs X.ex X.H₀ H X.s₀.heap s.heap
  loc : ∃ m, s.heap.Ns X.env.locals m ∧ ∀ (i : Nat) (x : Str) (v : V), X.N[i]? = some x → σ[i]? = some (some v) → Vis X.env.scope x → ∃ u, RelV v u ∧ Look X.env s.heap m x u
  cell : ∀ x c, X.env.cells.lookup x = some c → ∃ v, s.heap.IsCell c v
  free : H X.env.locals = none
  freeC : ∀ x c, X.env.cells.lookup x = some c → H c = none
  pin : ∀ p ∈ X.pn ++ pins, s.heap.get? p.1 = some p.2 ∧ H p.1 = none ∧ p.1 ≠ X.env.locals ∧ p.1 ∉ X.fs ∧ ∀ v, p.2.data ≠ .cell v
  hok : HOk X.prog X.w H s.heap
  len : σ.length = X.N.length

section
variable {X : Cx} {pins : List (Addr × Obj)} {σ : List (Option V)} {H H' : Hp} {s : Shared} {h' : Heap}

theorem Cx.Ok.nofr (ok : X.Ok) {b : Addr} {o : Obj} (e : X.base.get? b = some o) : b ∉ X.fs := fun hb => by
  have := (ok.funs.mem hb).1
  rw [e] at this; cases this
theorem Inv.bs (I : Inv X pins σ H s) : ∀ b o, X.base.get? b = some o → s.heap.get? b = some o ∧ H b = none := fun b o e =>
  ⟨I.base.keep b o (I.ok.bs b o e).1 (I.ok.bs b o e).2 (I.ok.nofr e) (I.ok.noex b o e), I.base.free b o (I.ok.bs b o e).1 (I.ok.bs b o e).2 (I.ok.noex b o e)⟩
theorem Inv.bk (I : Inv X pins σ H s) : ∀ b o, X.base.get? b = some o → s.heap.get? b = some o := fun b o e => (I.bs b o e).1
theorem Inv.mod (I : Inv X pins σ H s) : Mod X.K X.mg X.base := I.ok.mod
theorem Inv.kIn (I : Inv X pins σ H s) : X.K.In s.heap := I.ok.mod.kin.keeps I.bk
theorem Inv.lt (I : Inv X pins σ H s) : X.env.locals < s.heap.objs.size := let ⟨_, hn, _⟩ := I.loc; hn.lt
theorem Inv.sz (I : Inv X pins σ H s) : X.s₀.heap.objs.size ≤ s.heap.objs.size := Nat.le_trans I.ok.above (Nat.le_of_lt I.lt)
theorem Inv.nofs (I : Inv X pins σ H s) {a : Addr} (h : s.heap.objs.size ≤ a) : a ∉ X.fs := fun hb => by
  obtain ⟨_, o, ho, _⟩ := I.ok.funs.mem hb
  exact absurd (Nat.lt_of_lt_of_le (Heap.lt_size ho) (Nat.le_trans I.sz h)) (Nat.lt_irrefl _)
theorem Inv.cne (I : Inv X pins σ H s) : ∀ x c, X.env.cells.lookup x = some c → c ≠ X.env.locals := fun x c e z => by
  obtain ⟨v, o, ho, hd⟩ := I.cell x c e
  obtain ⟨m, ⟨o', es, ep, ho', hd', _⟩, _⟩ := I.loc
  rw [z, ho'] at ho; cases ho; rw [hd'] at hd; cases hd
theorem Inv.funs (I : Inv X pins σ H s) : s.heap.FunFrames X.base X.outer := by
  have all : ∀ (l : List Env), (∀ b ∈ frs l, b ∈ X.fs) → X.s₀.heap.FunFrames X.base l → s.heap.FunFrames X.base l := by
    intro l
    induction l with
    | nil => intro _ _; trivial
    | cons env r ih =>
      intro hs hl
      obtain ⟨hk, ⟨L, o, hf, hn, ho, hd⟩, hr⟩ := hl
      have hL : L ∈ X.fs := hs L (by unfold frs; rw [List.filterMap_cons, hf]; exact List.mem_cons_self)
      obtain ⟨sl, e⟩ := I.base.slot L o ho (I.ok.frf L hL) hL fun z => I.ok.exfs L z hL
      exact ⟨hk, ⟨L, _, hf, hn, e, hd⟩, ih (fun b hb => hs b (by unfold frs; rw [List.filterMap_cons, hf]; exact List.mem_cons_of_mem _ hb)) hr⟩
  exact all X.outer (fun _ hb => hb) I.ok.funs

theorem Inv.stack (I : Inv X pins σ H s) : s.heap.FunFrames X.base X.stack := by
  rcases I.ok.stk with e | ⟨e, hf⟩
  · rw [e]; exact I.funs
  · rw [e]
    obtain ⟨m, hn, _⟩ := I.loc
    refine .cons (by rw [I.ok.kind]; decide) hf hn ?_ I.funs
    exact Heap.get?_none_of_le (Nat.le_trans I.ok.bsz I.ok.above)
theorem Inv.stkSub (I : Inv X pins σ H s) : ∀ b ∈ frs X.stack, b ∈ X.env.locals :: X.fs := fun b hb => by
  rcases I.ok.stk with e | ⟨e, hf⟩
  · rw [e] at hb; exact List.mem_cons_of_mem _ hb
  · rw [e] at hb
    unfold frs at hb
    rw [List.filterMap_cons, hf] at hb
    exact hb
theorem Inv.stkFree (I : Inv X pins σ H s) : ∀ b ∈ frs X.stack, H b = none := fun b hb => by
  rcases List.mem_cons.mp (I.stkSub b hb) with e | hb
  · rw [e]; exact I.free
  · obtain ⟨_, o, ho, _⟩ := I.ok.funs.mem hb
    exact I.base.free b o ho (I.ok.frf b hb) fun z => I.ok.exfs b z hb

theorem Inv.step {g' : Array GenState} {t' : Nat} {d' : Drawn} {ch : List Addr} (I : Inv X pins σ H s)
    (hch : ∀ b ∈ ch, (b ∈ X.ex ∨ X.s₀.heap.objs.size ≤ b) ∧ b ≠ X.env.locals ∧ (∀ x c, X.env.cells.lookup x = some c → c ≠ b) ∧ ∀ p ∈ X.pn ++ pins, p.1 ≠ b)
    (keep : ∀ b o, b ≠ X.env.locals → b ∉ X.fs → b ∉ ch → s.heap.get? b = some o → H b = none → h'.get? b = some o)
    (slot : ∀ b o, b ≠ X.env.locals → b ∈ X.fs → b ∉ ch → s.heap.get? b = some o → H b = none → ∃ sl, h'.get? b = some { o with slots := sl }) (free : ∀ b o, b ∉ ch → s.heap.get? b = some o → H b = none → H' b = none)
    (there : ∀ b o, b ∉ ch → s.heap.get? b = some o → ∃ o', h'.get? b = some o')
    (tups : ∀ b xs, H b = some (.tup xs) → H' b = some (.tup xs)) (frzs : ∀ b o u, H b = some (.frz o u) → H' b = some (.frz o u)) (tbls : ∀ b ps, H b = some (.tbl ps) → ∃ more, H' b = some (.tbl (ps ++ more)))
    (ns : ∀ m, s.heap.Ns X.env.locals m → h'.Ns X.env.locals m) (hok : HOk X.prog X.w H' h') (hg : AllBare g') :
    Inv X pins σ H' { s with heap := h', gens := g', drawn := d', toks := t' } := by
  have neL : ∀ b o, X.s₀.heap.get? b = some o → b ≠ X.env.locals := fun b o e => Nat.ne_of_lt (Nat.lt_of_lt_of_le (Heap.lt_size e) I.ok.above)
  have neC : ∀ b o, X.s₀.heap.get? b = some o → b ∉ X.ex → b ∉ ch := fun b o e hx hb => by
    rcases (hch b hb).1 with z | z
    · exact hx z
    · exact absurd (Nat.lt_of_lt_of_le (Heap.lt_size e) z) (Nat.lt_irrefl _)
  have cellK : ∀ x c, X.env.cells.lookup x = some c → ∀ v, s.heap.IsCell c v → h'.IsCell c v := fun x c e v ⟨o, ho, hd⟩ => by
    have nch : c ∉ ch := fun z => (hch c z).2.2.1 x c e rfl
    by_cases hc : c ∈ X.fs
    · obtain ⟨sl, q⟩ := slot c o (I.cne x c e) hc nch ho (I.freeC x c e)
      exact ⟨_, q, hd⟩
    · exact ⟨o, keep c o (I.cne x c e) hc nch ho (I.freeC x c e), hd⟩
  refine ⟨I.ok, I.os, hg, ⟨fun b o e n hb hx => ?_, fun b o e n hb hx => ?_, fun b o e n hx => ?_, fun b o e hx => ?_, fun b xs e => tups b xs (I.base.tups b xs e), fun b o xs e => frzs b o xs (I.base.frzs b o xs e), fun b ps e => ?_⟩, ?_, fun x c e => ?_, ?_, fun x c e => ?_, fun p hp => ?_, hok, I.len⟩
  · exact keep b o (neL b o e) hb (neC b o e hx) (I.base.keep b o e n hb hx) (I.base.free b o e n hx)
  · obtain ⟨sl, e1⟩ := I.base.slot b o e n hb hx
    obtain ⟨sl', e2⟩ := slot b _ (neL b o e) hb (neC b o e hx) e1 (I.base.free b o e n hx)
    exact ⟨sl', e2⟩
  · obtain ⟨o', e1⟩ := I.base.there b o e hx
    exact free b o' (neC b o e hx) e1 (I.base.free b o e n hx)
  · obtain ⟨o', e1⟩ := I.base.there b o e hx
    exact there b o' (neC b o e hx) e1
  · obtain ⟨m1, e1⟩ := I.base.tbls b ps e
    obtain ⟨m2, e2⟩ := tbls b _ e1
    exact ⟨m1 ++ m2, by rw [e2, Array.append_assoc]⟩
  · obtain ⟨m, hn, hl⟩ := I.loc
    refine ⟨m, ns m hn, fun i x v e1 e2 e3 => ?_⟩
    obtain ⟨u, r, l⟩ := hl i x v e1 e2 e3
    refine ⟨u, r, ?_⟩
    rcases l with l | ⟨k, c, e, z⟩
    · exact .inl l
    · exact .inr ⟨k, c, e, cellK x c e _ z⟩
  · obtain ⟨v, z⟩ := I.cell x c e
    exact ⟨v, cellK x c e v z⟩
  · obtain ⟨m, ⟨o, _, _, ho, _⟩, _⟩ := I.loc
    exact free _ o (fun z => (hch _ z).2.1 rfl) ho I.free
  · obtain ⟨v, o, ho, hd⟩ := I.cell x c e
    exact free c o (fun z => (hch c z).2.2.1 x c e rfl) ho (I.freeC x c e)
  · obtain ⟨e, n, ne, nf, d⟩ := I.pin p hp
    have nch : p.1 ∉ ch := fun z => (hch p.1 z).2.2.2 p hp rfl
    exact ⟨keep p.1 p.2 ne nf nch e n, free p.1 p.2 nch e n, ne, nf, d⟩
theorem Inv.un {t' : Nat} (I : Inv X pins σ H s) (u : Un X.fs [] H H' s.heap h') (hok : HOk X.prog X.w H' h') : Inv X pins σ H' { s with heap := h', toks := t' } := by
  obtain ⟨m, ⟨o, es, ep, ho, r⟩, _⟩ := id I.loc
  obtain ⟨sl, hL⟩ := u.any ho I.free (by simp)
  exact I.step (g' := s.gens) (d' := s.drawn) (ch := []) (fun _ z => nomatch z) (fun b o _ hb _ e n => u.keep b o e n hb (by simp)) (fun b o _ hb _ e n => u.slot b o e n hb (by simp)) (fun b o _ e n => u.free b o e n (by simp)) (fun b o _ e => u.there b o e (by simp)) u.tups u.frzs u.tbls (fun m' hm => by
    obtain ⟨o', es', ep', ho', r'⟩ := hm
    rw [ho] at ho'; cases ho'
    exact ⟨_, es', ep', hL, r'⟩) hok I.bare
theorem Inv.call {g' : Array GenState} {t' : Nat} {d' : Drawn} {ch : List Addr} (I : Inv X pins σ H s) (u : Un (frs X.stack) ch H H' s.heap h') (hok : HOk X.prog X.w H' h') (hg : AllBare g')
    (hch : ∀ b ∈ ch, (b ∈ X.ex ∨ X.s₀.heap.objs.size ≤ b) ∧ b ≠ X.env.locals ∧ (∀ x c, X.env.cells.lookup x = some c → c ≠ b) ∧ ∀ p ∈ X.pn ++ pins, p.1 ≠ b) :
    Inv X pins σ H' { s with heap := h', gens := g', drawn := d', toks := t' } := by
  obtain ⟨m, ⟨o, es, ep, ho, r⟩, _⟩ := id I.loc
  obtain ⟨sl, hL⟩ := u.any ho I.free fun z => (hch _ z).2.1 rfl
  exact I.step (ch := ch) hch (fun b o hL hb hc e n => u.keep b o e n (fun z => (List.mem_cons.mp (I.stkSub b z)).elim hL hb) hc) (fun b o _ _ hc e n => u.any e n hc) (fun b o hc e n => u.free b o e n hc) (fun b o hc e => u.there b o e hc) u.tups u.frzs u.tbls (fun m' hm => by
    obtain ⟨o', es', ep', ho', r'⟩ := hm
    rw [ho] at ho'; cases ho'
    exact ⟨_, es', ep', hL, r'⟩) hok hg
theorem Inv.turned {t' : Nat} {it : Addr} (I : Inv X pins σ H s) (k : ∀ b o, b ≠ it → s.heap.get? b = some o → h'.get? b = some o) (hn : H it = none) (hL : it ≠ X.env.locals)
    (h1 : it ∈ X.ex ∨ X.s₀.heap.objs.size ≤ it) (h2 : ∀ x c, X.env.cells.lookup x = some c → c ≠ it) (h3 : ∀ p ∈ X.pn ++ pins, p.1 ≠ it) : Inv X pins σ H { s with heap := h', toks := t' } := by
  have nit : ∀ b u, H b = some u → b ≠ it := fun b u e z => by rw [z, hn] at e; cases e
  refine I.step (g' := s.gens) (d' := s.drawn) (ch := [it]) (fun b hb => ?_) (fun b o _ _ hc e _ => k b o (fun z => hc (by simp [z])) e) (fun b o _ _ hc e _ => ⟨o.slots, k b o (fun z => hc (by simp [z])) e⟩) (fun _ _ _ _ n => n)
    (fun b o hc e => ⟨o, k b o (fun z => hc (by simp [z])) e⟩) (fun _ _ e => e) (fun _ _ _ e => e) (fun b ps e => ⟨#[], by rw [e]; simp⟩) (fun m hm => ?_) (fun b u e => ?_) I.bare
  · have e : b = it := by simpa using hb
    subst e
    exact ⟨h1, hL, h2, h3⟩
  · obtain ⟨o, es, ep, ho, r⟩ := hm
    exact ⟨o, es, ep, k _ o (Ne.symm hL) ho, r⟩
  · refine (I.hok b u e).stay (fun c v hc q => k c v ?_ q) (fun _ q => q) fun _ _ q => q
    rcases hc with z | z
    · rw [z]; exact nit b u e
    · exact nit c _ z
theorem Inv.tok (I : Inv X pins σ H s) (t : Nat) : Inv X pins σ H { s with toks := t } := I.un (h' := s.heap) (t' := t) Un.refl I.hok
theorem Inv.kept {t' : Nat} (I : Inv X pins σ H s) (k : ∀ b u, s.heap.get? b = some u → h'.get? b = some u) : Inv X pins σ H { s with heap := h', toks := t' } := I.un (Un.kept k) (I.hok.kept k)
theorem Inv.laid {a : Addr} {o : HO} {t' : Nat} (I : Inv X pins σ H s) (k : ∀ b u, s.heap.get? b = some u → h'.get? b = some u) (hp : s.heap.objs.size ≤ a) (new : ObjOk X.prog X.w (upd H a o) h' a o) :
    Inv X pins σ (upd H a o) { s with heap := h', toks := t' } := I.un (Un.laid k hp (I.hok.fresh hp)) (I.hok.laid k hp new)
theorem Inv.write {x e : Addr} {o : HO} {t' : Nat} (I : Inv X pins σ H s) (mu : Mut (H x)) (he : e = x ∨ H e = some (.own x)) (k : ∀ b u, b ≠ e → s.heap.get? b = some u → h'.get? b = some u) (heo : ∃ u, h'.get? e = some u)
    (new : ObjOk X.prog X.w (upd H x o) h' x o) : Inv X pins σ (upd H x o) { s with heap := h', toks := t' } := I.un (Un.write mu he k heo) (I.hok.write mu he k heo new)
theorem Inv.pins_of {pins' : List (Addr × Obj)} (I : Inv X pins σ H s) (h : ∀ p ∈ pins', s.heap.get? p.1 = some p.2 ∧ H p.1 = none ∧ p.1 ≠ X.env.locals ∧ p.1 ∉ X.fs ∧ ∀ v, p.2.data ≠ .cell v) : Inv X pins' σ H s :=
  ⟨I.ok, I.os, I.bare, I.base, I.loc, I.cell, I.free, I.freeC, fun p hp => (List.mem_append.mp hp).elim (fun z => I.pin p (List.mem_append_left _ z)) (h p), I.hok, I.len⟩

theorem nodup_ix {N : List Str} (hN : N.Nodup) {i j : Nat} {x : Str} (a : N[i]? = some x) (b : N[j]? = some x) : i = j := by
  obtain ⟨h1, e1⟩ := List.getElem?_eq_some_iff.mp a
  obtain ⟨h2, e2⟩ := List.getElem?_eq_some_iff.mp b
  exact (List.getElem_inj hN).mp (e1.trans e2.symm)

theorem store_ok2 {M : Model} {A : Around} {E : Value → Shared → Prop} {i : Nat} {x : Str} {v : V} {u : Value} {Q : Unit → Shared → Prop} (I : Inv X pins σ H s) (hN : X.N.Nodup) (hi : X.N[i]? = some x) (hx : Loc X.env.scope x) (r : RelV v u)
    (h : ∀ s', Inv X pins (σ.set i (some v)) H s' → (∃ a, Heap.SameBut a s.heap s'.heap ∧ (a = X.env.locals ∨ X.env.cells.lookup x = some a)) → Q () s') (hf : autoParam (X.fn x = true ∨ X.env.scope.names.lookup x = some .local) L2.Internal.auL._auto_1) : wpAny M A (storeName X.env x u) Q E s := by
  obtain ⟨m, hn, hl⟩ := id I.loc
  have hcls : (X.env.scope.kind == .class || (X.env.scope.kind == .module && X.env.locals != X.env.globals)) = false := by rw [I.ok.kind]; rfl
  have hiσ : i < σ.length := by rw [I.len]; exact (List.getElem?_eq_some_iff.mp hi).1
  have cne := I.cne
  have tracked : ∀ {a : Addr} {h' : Heap}, (∃ o, s.heap.get? a = some o ∧ H a = none) → Heap.SameBut a s.heap h' → HOk X.prog X.w H h' := fun {a h'} ha hs b ob e => by
    obtain ⟨_, _, hfree⟩ := ha
    refine (I.hok b ob e).stay (fun c w' hc q => (hs.2 c ?_).trans q) (fun _ q => q) fun _ _ q => q
    rintro rfl
    rcases hc with rfl | hc
    · rw [hfree] at e; cases e
    · rw [hfree] at hc; cases hc
  rcases hx with hk | hk
  · refine wpAny_storeName_local hk hn (fun h' hn' hs => ?_) hcls
    obtain ⟨oL, _, _, hoL, _⟩ := id hn
    refine h _ ⟨I.ok, I.os, I.bare, ⟨fun b o e n hb hx => ?_, fun b o e n hb hx => ?_, I.base.free, fun b o e hx => ?_, I.base.tups, I.base.frzs, I.base.tbls⟩, ⟨_, hn', fun j y v' e1 e2 e3 => ?_⟩, fun y c e => ?_, I.free, I.freeC, fun p hp => ?_, tracked ⟨oL, hoL, I.free⟩ hs, by simpa using I.len⟩ ⟨_, hs, .inl rfl⟩
    · exact (hs.2 b (Nat.ne_of_lt (Nat.lt_of_lt_of_le (Heap.lt_size e) I.ok.above))).trans (I.base.keep b o e n hb hx)
    · obtain ⟨sl, e1⟩ := I.base.slot b o e n hb hx
      exact ⟨sl, (hs.2 b (Nat.ne_of_lt (Nat.lt_of_lt_of_le (Heap.lt_size e) I.ok.above))).trans e1⟩
    · obtain ⟨o', e1⟩ := I.base.there b o e hx
      exact ⟨o', (hs.2 b (Nat.ne_of_lt (Nat.lt_of_lt_of_le (Heap.lt_size e) I.ok.above))).trans e1⟩
    · by_cases hj : j = i
      · subst hj
        rw [hi] at e1; cases e1
        rw [List.getElem?_set_self hiσ] at e2
        cases e2
        exact ⟨u, r, .inl ⟨hk, by simp⟩⟩
      · rw [List.getElem?_set_ne (Ne.symm hj)] at e2
        obtain ⟨u', r', q⟩ := hl j y v' e1 e2 e3
        refine ⟨u', r', ?_⟩
        rcases q with ⟨k, e⟩ | ⟨k, c, e, z⟩
        · refine .inl ⟨k, ?_⟩
          have : y ≠ x := fun e => hj (nodup_ix hN e1 (e ▸ hi))
          simp [this, e]
        · exact .inr ⟨k, c, e, z.sameBut hs (cne y c e)⟩
    · obtain ⟨w', z⟩ := I.cell y c e
      exact ⟨w', z.sameBut hs (cne y c e)⟩
    · obtain ⟨e, n, ne, nf, d⟩ := I.pin p hp
      exact ⟨(hs.2 p.1 ne).trans e, n, ne, nf, d⟩
  · have hfn : X.fn x = true := by
      rcases hf with z | z
      · exact z
      · rw [z] at hk; cases hk
    obtain ⟨c, hc⟩ := I.ok.has x (.inl hk)
    obtain ⟨w', z⟩ := I.cell x c hc
    refine wpAny_storeName_cell I.ok.kind hk hc z (fun h' hc' hs => ?_)
    obtain ⟨oc, hoc, hocd⟩ := id z
    refine h { s with heap := h' } ⟨I.ok, I.os, I.bare, ⟨fun b o e n hb hx => ?_, fun b o e n hb hx => ?_, I.base.free, fun b o e hx => ?_, I.base.tups, I.base.frzs, I.base.tbls⟩, ⟨m, hn.sameBut hs (Ne.symm (cne x c hc)), fun j y v' e1 e2 e3 => ?_⟩, fun y c' e => ?_, I.free, I.freeC, fun p hp => ?_, tracked ⟨oc, hoc, I.freeC x c hc⟩ hs, by simpa using I.len⟩ ⟨c, hs, .inr hc⟩
    · exact (hs.2 b (Nat.ne_of_lt (Nat.lt_of_lt_of_le (Heap.lt_size e) (I.ok.cab x c hfn hc)))).trans (I.base.keep b o e n hb hx)
    · obtain ⟨sl, e1⟩ := I.base.slot b o e n hb hx
      exact ⟨sl, (hs.2 b (Nat.ne_of_lt (Nat.lt_of_lt_of_le (Heap.lt_size e) (I.ok.cab x c hfn hc)))).trans e1⟩
    · obtain ⟨o', e1⟩ := I.base.there b o e hx
      exact ⟨o', (hs.2 b (Nat.ne_of_lt (Nat.lt_of_lt_of_le (Heap.lt_size e) (I.ok.cab x c hfn hc)))).trans e1⟩
    · by_cases hj : j = i
      · subst hj
        rw [hi] at e1; cases e1
        rw [List.getElem?_set_self hiσ] at e2
        cases e2
        exact ⟨u, r, .inr ⟨.inl hk, c, hc, hc'⟩⟩
      · rw [List.getElem?_set_ne (Ne.symm hj)] at e2
        obtain ⟨u', r', q⟩ := hl j y v' e1 e2 e3
        refine ⟨u', r', ?_⟩
        rcases q with q | ⟨k, c', e, z'⟩
        · exact .inl q
        · refine .inr ⟨k, c', e, z'.sameBut hs ?_⟩
          rintro rfl
          exact hj (nodup_ix hN e1 (I.ok.inj _ _ _ e hc ▸ hi))
    · by_cases hcc : c' = c
      · subst hcc; exact ⟨_, hc'⟩
      · obtain ⟨w2, z2⟩ := I.cell y c' e
        exact ⟨w2, z2.sameBut hs hcc⟩
    · obtain ⟨e, n, ne, nf, d⟩ := I.pin p hp
      refine ⟨(hs.2 p.1 ?_).trans e, n, ne, nf, d⟩
      intro q
      rw [q, hoc] at e
      have q' : oc = p.2 := Option.some.inj e
      exact d w' (by rw [← q']; exact hocd)
theorem store_ok {M : Model} {A : Around} {E : Value → Shared → Prop} {i : Nat} {x : Str} {v : V} {u : Value} {Q : Unit → Shared → Prop} (I : Inv X pins σ H s) (hN : X.N.Nodup) (hi : X.N[i]? = some x) (hx : Loc X.env.scope x) (r : RelV v u)
    (h : ∀ s', Inv X pins (σ.set i (some v)) H s' → Q () s') (hf : autoParam (X.fn x = true ∨ X.env.scope.names.lookup x = some .local) L2.Internal.auL._auto_1) : wpAny M A (storeName X.env x u) Q E s :=
  store_ok2 I hN hi hx r (fun s' I' _ => h s' I') hf
theorem Inv.call' {s' : Shared} {ch : List Addr} (I : Inv X pins σ H s) (ho : s'.os = s.os) (u : Un (frs X.stack) ch H H' s.heap s'.heap) (hok : HOk X.prog X.w H' s'.heap) (hg : AllBare s'.gens)
    (hch : ∀ b ∈ ch, (b ∈ X.ex ∨ X.s₀.heap.objs.size ≤ b) ∧ b ≠ X.env.locals ∧ (∀ x c, X.env.cells.lookup x = some c → c ≠ b) ∧ ∀ p ∈ X.pn ++ pins, p.1 ≠ b) : Inv X pins σ H' s' := by
  obtain ⟨h', g', d', t', o'⟩ := s'
  have e : o' = s.os := ho
  subst e
  exact I.call (g' := g') (t' := t') (d' := d') u hok hg hch
end

noncomputable abbrev XK := Value → Option Addr → Hp → Prop
noncomputable abbrev St := List (Option V)
noncomputable abbrev VK := V → Hp → Prop
noncomputable abbrev TE := St → Hp → VK → Prop
noncomputable abbrev TT := St → Hp → (Bool → Hp → Prop) → Prop
noncomputable abbrev TA := St → Hp → (List V → Hp → Prop) → Prop
structure Ends where
  nx : St → Hp → Prop
  rt : VK
  bk : St → Hp → Prop := fun _ _ => False
  ct : St → Hp → Prop := fun _ _ => False
noncomputable abbrev TS := Ends → St → Hp → Prop

noncomputable def EP (X : Cx) (pins : List (Addr × Obj)) (σ : St) (Q : VK) (u : Value) (s' : Shared) : Prop := ∃ v H', Inv X pins σ H' s' ∧ RelV v u ∧ Q v H'
noncomputable def TP (X : Cx) (pins : List (Addr × Obj)) (σ : St) (Q : Bool → Hp → Prop) (b : Bool) (s' : Shared) : Prop := ∃ H', Inv X pins σ H' s' ∧ Q b H'
noncomputable def AP (X : Cx) (pins : List (Addr × Obj)) (σ : St) (Q : List V → Hp → Prop) (us : List Value) (s' : Shared) : Prop := ∃ vs H', Inv X pins σ H' s' ∧ Vals vs us ∧ Q vs H'
noncomputable def SP (X : Cx) (pins : List (Addr × Obj)) (D : Ends) (f : Flow) (s' : Shared) : Prop :=
  match f with
  | .next => ∃ σ' H', Inv X pins σ' H' s' ∧ D.nx σ' H'
  | .brk => ∃ σ' H', Inv X pins σ' H' s' ∧ D.bk σ' H'
  | .cont => ∃ σ' H', Inv X pins σ' H' s' ∧ D.ct σ' H'
  | .ret u => ∃ v σ' H', Inv X pins σ' H' s' ∧ RelV v u ∧ D.rt v H'

noncomputable def PE (X : Cx) (e : Expr) (t : TE) : Prop :=
  ∀ (pins : List (Addr × Obj)) (s : Shared) (σ : St) (H : Hp) (Q : VK), Inv X pins σ H s → t σ H Q → wpAny (model X.prog X.w) X.A (eval e X.env) (EP X pins σ Q) X.xe s
noncomputable def PT (X : Cx) (e : Expr) (t : TT) : Prop :=
  ∀ (pins : List (Addr × Obj)) (s : Shared) (σ : St) (H : Hp) (Q : Bool → Hp → Prop), Inv X pins σ H s → t σ H Q → wpAny (model X.prog X.w) X.A (isTrue e X.env (eval e X.env)) (TP X pins σ Q) X.xe s
noncomputable def PW (X : Cx) (e : Expr) (t : TT) : Prop :=
  ∀ (whole : Sem Value) (pins : List (Addr × Obj)) (s : Shared) (σ : St) (H : Hp) (Q : Bool → Hp → Prop), Inv X pins σ H s → t σ H Q → wpAny (model X.prog X.w) X.A (isTrue e X.env whole) (TP X pins σ Q) X.xe s
theorem PW.pt {X : Cx} {e : Expr} {t : TT} (h : PW X e t) : PT X e t := h _
noncomputable def PA (X : Cx) (es : List Expr) (t : TA) : Prop :=
  ∀ (pos : Pos) (pins : List (Addr × Obj)) (s : Shared) (σ : St) (H : Hp) (Q : List V → Hp → Prop), Inv X pins σ H s → t σ H Q → wpAny (model X.prog X.w) X.A (spliced (backTo pos (starEach es X.env))) (AP X pins σ Q) X.xe s
noncomputable def PS (X : Cx) (st : Stmt) (t : TS) : Prop :=
  ∀ (pins : List (Addr × Obj)) (s : Shared) (σ : St) (H : Hp) (D : Ends), Inv X pins σ H s → t D σ H → wpAny (model X.prog X.w) X.A (exec st X.env) (SP X pins D) X.xe s
noncomputable def PSs (X : Cx) (st : List Stmt) (t : TS) : Prop :=
  ∀ (pins : List (Addr × Obj)) (s : Shared) (σ : St) (H : Hp) (D : Ends), Inv X pins σ H s → t D σ H → wpAny (model X.prog X.w) X.A (execs st X.env) (SP X pins D) X.xe s
theorem thn {α : Type} {t : Sem α} {Q Q' : α → Shared → Prop} {M : Model} {A : Around} {E : Value → Shared → Prop} {s : Shared} (h : wpAny M A t Q E s) (hQ : ∀ a s, Q a s → Q' a s) : wpAny M A t Q' E s := wpAny_mono h hQ fun _ _ x => x
end L2.Internal

namespace L2.Internal
open PySem PySem.Spec PyProof.Rows
section
variable {X : Cx}

noncomputable def tVar (i : Nat) : TE := fun σ H Q => ∃ v, σ[i]? = some (some v) ∧ Q v H
noncomputable def tC (v : V) : TE := fun _ H Q => Q v H
theorem pe_var {i : Nat} {x : Str} {pos : Pos} (hN : X.N[i]? = some x) (hv : Vis X.env.scope x) (hd : autoParam ((x == ("__debug__" : Str)) = false) L2.Internal.auD._auto_1) (hcd : autoParam ((x == ("__classdict__" : Str)) = false) L2.Internal.auD._auto_1) : PE X (.Name x pos) (tVar i) := by
  intro pins s σ H Q I h
  obtain ⟨v, e, h⟩ := h
  obtain ⟨m, hn, hl⟩ := I.loc
  obtain ⟨u, r, l⟩ := hl i x v hN e hv
  have fin : EP X pins σ Q u s := ⟨v, H, I, r, h⟩
  rcases l with ⟨hk, hm⟩ | ⟨hk, c, hc, hcell⟩
  · exact wpAny_Name (wpAny_loadName_local I.ok.kind hk hn hm fin) hd
  · rcases hk with hk | hk
    · exact wpAny_Name (wpAny_loadName_cell I.ok.kind hk hc hcell fin) hd
    · exact wpAny_Name (wpAny_loadName_free I.ok.kind hk hc hcell fin hcd) hd
theorem pe_int {i j pos} : PE X (.Constant (.int i) j pos) (tC (.int i)) := fun _ _ _ H _ I h => wpAny_Constant_int ⟨.int i, H, I.tok _, ⟨_, rfl⟩, h⟩
theorem pe_bl {b j pos} : PE X (.Constant (.bool b) j pos) (tC (.bl b)) := fun _ _ _ H _ I h => Constant_bool ⟨.bl b, H, I, rfl, h⟩
theorem pe_non {j pos} : PE X (.Constant .none j pos) (tC .non) := fun _ _ _ H _ I h => Constant_none ⟨.non, H, I, rfl, h⟩
theorem pe_str {x j pos} : PE X (.Constant (.str x) j pos) (tC (.str x)) := fun _ _ _ H _ I h => Calls.Constant_str ⟨.str x, H, I.tok _, ⟨_, rfl⟩, h⟩

noncomputable def Gl (X : Cx) (x : Str) : Prop := X.env.kindOf x = some .globalImplicit
theorem ld_glob {E : Value → Shared → Prop} {pins : List (Addr × Obj)} {s : Shared} {σ : St} {H : Hp} {x : Str} {u : Value} {pos : Pos} {Q : Value → Shared → Prop} (I : Inv X pins σ H s) (hg : Gl X x) (hm : X.mg x = some u) (h : Q u s)
    (hd : autoParam ((x == ("__debug__" : Str)) = false) L2.Internal.auD._auto_1) : wpAny (model X.prog X.w) X.A (eval (.Name x pos) X.env) Q E s :=
  Calls.Name_function_global I.ok.kind hg (Calls.loadGlobal_global (by rw [I.ok.glob]; exact I.mod.glob.keeps I.bk) hm h) hd
theorem ld_blt {E : Value → Shared → Prop} {pins : List (Addr × Obj)} {s : Shared} {σ : St} {H : Hp} {x : Str} {u : Value} {pos : Pos} {Q : Value → Shared → Prop} (I : Inv X pins σ H s) (hg : Gl X x) (hm : X.mg x = none) (hv : bootBuiltins x = some u) (h : Q u s)
    (hn : autoParam (x ≠ "__name__") L2.Internal.auD._auto_1) (hd : autoParam ((x == ("__debug__" : Str)) = false) L2.Internal.auD._auto_1) : wpAny (model X.prog X.w) X.A (eval (.Name x pos) X.env) Q E s := by
  obtain ⟨mb, h1, h2⟩ := I.mod.blt
  exact Calls.Name_function_global I.ok.kind hg (Calls.loadGlobal_builtin (by rw [I.ok.glob]; exact I.mod.glob.keeps I.bk) hm (by rw [I.ok.blt]; exact h1.keeps I.bk) ((h2 x hn).trans hv) h) hd
theorem pe_glob {x : Str} {v : V} {u : Value} {pos : Pos} (hg : Gl X x) (hm : X.mg x = some u) (r : RelV v u) (hd : autoParam ((x == ("__debug__" : Str)) = false) L2.Internal.auD._auto_1) : PE X (.Name x pos) (tC v) :=
  fun _ _ _ H _ I h => ld_glob I hg hm ⟨v, H, I, r, h⟩ hd
theorem pe_bltn {x : Str} {v : V} {u : Value} {pos : Pos} (hg : Gl X x) (hm : X.mg x = none) (hv : bootBuiltins x = some u) (r : RelV v u) (hn : autoParam (x ≠ "__name__") L2.Internal.auD._auto_1) (hd : autoParam ((x == ("__debug__" : Str)) = false) L2.Internal.auD._auto_1) : PE X (.Name x pos) (tC v) :=
  fun _ _ _ H _ I h => ld_blt I hg hm hv ⟨v, H, I, r, h⟩ hn hd

noncomputable def t2I (ta tb : TE) (k : Int → Int → Hp → Prop) : St → Hp → Prop := fun σ H => ta σ H fun x H1 => tb σ H1 fun y H2 => ∃ i j, x = .int i ∧ y = .int j ∧ k i j H2
noncomputable def tAdd (ta tb : TE) : TE := fun σ H Q => t2I ta tb (fun i j H2 => Q (.int (i + j)) H2) σ H
noncomputable def tSub (ta tb : TE) : TE := fun σ H Q => t2I ta tb (fun i j H2 => Q (.int (i - j)) H2) σ H
noncomputable def tMul (ta tb : TE) : TE := fun σ H Q => t2I ta tb (fun i j H2 => (-(2 ^ 64) < i ∧ i < 2 ^ 64) ∧ Q (.int (i * j)) H2) σ H
variable {a b : Expr} {ta tb : TE} {pos : Pos}
noncomputable def PC (X : Cx) (op : CmpOp) (a b : Expr) (t : TE) : Prop :=
  ∀ (pins : List (Addr × Obj)) (s : Shared) (σ : St) (H : Hp) (Q : VK), Inv X pins σ H s → t σ H Q →
    wpAny (model X.prog X.w) X.A (eval a X.env) (fun v s₁ => wpAny (model X.prog X.w) X.A (eval b X.env) (fun u s₂ => wpAny (model X.prog X.w) X.A (compareOp op v u) (EP X pins σ Q) X.xe s₂) X.xe s₁) X.xe s
theorem nobehind (b : Expr) {op : CmpOp} (h : op ≠ .In) (h2 : op ≠ .NotIn) : behindInMarks op b = false := by
  have e1 : (op == CmpOp.In) = false := by cases op <;> first | rfl | exact absurd rfl h
  have e2 : (op == CmpOp.NotIn) = false := by cases op <;> first | rfl | exact absurd rfl h2
  cases b <;> simp [behindInMarks, e1, e2]
noncomputable def tCmp (p : Int → Int → Bool) (ta tb : TE) : TE := fun σ H Q => t2I ta tb (fun i j H2 => Q (.bl (p i j)) H2) σ H
noncomputable abbrev tLt : TE → TE → TE := tCmp fun i j => decide (i < j)
noncomputable abbrev tLe : TE → TE → TE := tCmp fun i j => decide (i ≤ j)
noncomputable abbrev tGt : TE → TE → TE := tCmp fun i j => decide (j < i)
noncomputable abbrev tGe : TE → TE → TE := tCmp fun i j => decide (j ≤ i)
noncomputable abbrev tEqI : TE → TE → TE := tCmp fun i j => decide (i = j)
noncomputable abbrev tNeI : TE → TE → TE := tCmp fun i j => !decide (i = j)
noncomputable def tIsN (ta : TE) : TE := fun σ H Q => ta σ H fun x H1 => Q (.bl (decide (x = .non))) H1
noncomputable def tNotN (ta : TE) : TE := fun σ H Q => ta σ H fun x H1 => Q (.bl (!decide (x = .non))) H1
theorem RelV.none_iff {x : V} {v : Value} (r : RelV x v) : (v == Value.none) = decide (x = .non) := by
  cases x with
  | non => cases r; rfl
  | bl _ => cases r; rfl
  | int _ => obtain ⟨t, rfl⟩ := r; rfl
  | str _ => obtain ⟨t, rfl⟩ := r; rfl
  | byt _ => obtain ⟨t, rfl⟩ := r; rfl
  | flt _ => obtain ⟨t, rfl⟩ := r; rfl
  | ref _ => cases r; rfl
  | ty _ => cases r; rfl
theorem pc_isN {j pos'} (ha : PE X a ta) : PC X .Is a (.Constant .none j pos') (tIsN ta) := by
  intro pins s σ H Q I h
  refine thn (ha pins s σ H _ I h) fun v s1 ⟨x, H1, I1, r1, q1⟩ => ?_
  exact Constant_none (is_none_gen ⟨.bl _, H1, I1, by rw [r1.none_iff]; rfl, q1⟩)
theorem pc_notN {j pos'} (ha : PE X a ta) : PC X .IsNot a (.Constant .none j pos') (tNotN ta) := by
  intro pins s σ H Q I h
  refine thn (ha pins s σ H _ I h) fun v s1 ⟨x, H1, I1, r1, q1⟩ => ?_
  exact Constant_none (isnot_none_gen ⟨.bl _, H1, I1, by rw [r1.none_iff]; rfl, q1⟩)
noncomputable def tB (t : TE) : TT := fun σ H Q => t σ H fun x H1 => ∃ c, x = .bl c ∧ Q c H1
theorem pe_cmp {op : CmpOp} {t : TE} (h : PC X op a b t) (h1 : behindInMarks op b = false := by first | exact nobehind _ (by decide) (by decide) | rfl) : PE X (.Compare a [op] [b] pos) t := fun pins s σ H Q I hw => wpAny_Compare1 (h pins s σ H Q I hw) h1
theorem pt_cmp {op : CmpOp} {t : TE} (h : PC X op a b t) (h1 : behindInMarks op b = false := by first | exact nobehind _ (by decide) (by decide) | rfl) : PT X (.Compare a [op] [b] pos) (tB t) := by
  intro pins s σ H Q I hw
  refine wpAny_isTrue_Compare1 (thn (h pins s σ H _ I hw) fun v s1 h1 => thn h1 fun u s2 h2 => thn h2 fun c s3 ⟨x, H1, I1, r1, q1⟩ => ?_) h1
  obtain ⟨d, rfl, q⟩ := q1
  cases r1
  exact wpAny_truthy_bool ⟨H1, I1, q⟩
theorem pt_val {e : Expr} {t : TE} (h : PE X e t) (he : autoParam (∀ whole, isTrue e X.env whole = (do let v ← whole; standAt e.pos; holding [v] (truthy v))) L2.Internal.auI._auto_1) : PT X e (tB t) := by
  intro pins s σ H Q I hw
  refine isTrue_plain (thn (h pins s σ H _ I hw) fun v s1 ⟨x, H1, I1, r1, q1⟩ => ?_) (he _)
  obtain ⟨d, rfl, q⟩ := q1
  cases r1
  exact wpAny_truthy_bool ⟨H1, I1, q⟩

variable {tA tB' : TT} {rest : List Expr}
noncomputable def tAnd (t u : TT) : TT := fun σ H Q => t σ H fun c H1 => if c = true then u σ H1 Q else Q false H1
noncomputable def tOr (t u : TT) : TT := fun σ H Q => t σ H fun c H1 => if c = true then Q true H1 else u σ H1 Q
noncomputable def tNot (t : TT) : TT := fun σ H Q => t σ H fun c H1 => Q (!c) H1
theorem pw_and1 (ha : PT X a tA) : PW X (.BoolOp .And [a] pos) tA := by
  intro wh pins s σ H Q I h
  refine isTrue_and (thn (ha pins s σ H Q I h) fun c s1 e => ?_)
  cases c with
  | true => exact isTrue_and_nil e
  | false => exact e
theorem pw_or1 (ha : PT X a tA) : PW X (.BoolOp .Or [a] pos) tA := by
  intro wh pins s σ H Q I h
  refine isTrue_or (thn (ha pins s σ H Q I h) fun c s1 e => ?_)
  cases c with
  | false => exact isTrue_or_nil e
  | true => exact e
theorem pw_and (ha : PT X a tA) (hb : PW X (.BoolOp .And (b :: rest) pos) tB') : PW X (.BoolOp .And (a :: b :: rest) pos) (tAnd tA tB') := by
  intro wh pins s σ H Q I h
  refine isTrue_and (thn (ha pins s σ H _ I h) fun c s1 ⟨H1, I1, q1⟩ => ?_)
  cases c with
  | true => exact hb wh pins s1 σ H1 Q I1 q1
  | false => exact ⟨H1, I1, q1⟩
theorem pw_or (ha : PT X a tA) (hb : PW X (.BoolOp .Or (b :: rest) pos) tB') : PW X (.BoolOp .Or (a :: b :: rest) pos) (tOr tA tB') := by
  intro wh pins s σ H Q I h
  refine isTrue_or (thn (ha pins s σ H _ I h) fun c s1 ⟨H1, I1, q1⟩ => ?_)
  cases c with
  | true => exact ⟨H1, I1, q1⟩
  | false => exact hb wh pins s1 σ H1 Q I1 q1
theorem pt_not (ha : PT X a tA) : PT X (.UnaryOp .Not a pos) (tNot tA) := by
  intro pins s σ H Q I h
  exact isTrue_not (ha pins s σ H (fun c H1 => Q (!c) H1) I h)
noncomputable def tAndV (ta tb : TE) : TE := fun σ H Q => ta σ H fun x H1 => ∃ c, x = .bl c ∧ if c = true then tb σ H1 Q else Q (.bl false) H1
noncomputable def tOrV (ta tb : TE) : TE := fun σ H Q => ta σ H fun x H1 => ∃ c, x = .bl c ∧ if c = true then Q (.bl true) H1 else tb σ H1 Q
noncomputable def tNotV (ta : TE) : TE := fun σ H Q => ta σ H fun x H1 => ∃ c, x = .bl c ∧ Q (.bl (!c)) H1
theorem pe_one {op} {t : TE} (h : PE X a t) : PE X (.BoolOp op [a] pos) t := fun pins s σ H Q I hw => BoolOp_one (h pins s σ H Q I hw)
theorem pe_and (ha : PE X a ta) (hb : PE X (.BoolOp .And (b :: rest) pos) tb) : PE X (.BoolOp .And (a :: b :: rest) pos) (tAndV ta tb) := by
  intro pins s σ H Q I h
  refine BoolOp_and (thn (ha pins s σ H _ I h) fun v s1 ⟨x, H1, I1, r1, q1⟩ => ?_)
  obtain ⟨c, rfl, q1⟩ := q1
  cases r1
  refine wpAny_truthy_bool ?_
  cases c with
  | true => exact hb pins s1 σ H1 Q I1 q1
  | false => exact ⟨.bl false, H1, I1, rfl, q1⟩
theorem pe_not (ha : PE X a ta) : PE X (.UnaryOp .Not a pos) (tNotV ta) := by
  intro pins s σ H Q I h
  refine UnaryOp_ (thn (ha pins s σ H _ I h) fun v s1 ⟨x, H1, I1, r1, q1⟩ => ?_)
  obtain ⟨c, rfl, q1⟩ := q1
  cases r1
  exact not_of (wpAny_truthy_bool ⟨.bl (!c), H1, I1, rfl, q1⟩)
noncomputable def tIf (t : TT) (ta tb : TE) : TE := fun σ H Q => t σ H fun c H1 => if c = true then ta σ H1 Q else tb σ H1 Q
end
end L2.Internal

namespace L2.Internal
open PySem PySem.Spec PyProof.Rows

noncomputable def SqL (K : PySem.W.Frag) (H : Hp) (a : Addr) (xs : List V) : Prop :=
  Rd H a (.lst xs) ∨
    ∃ (o : Obj) (its : Array Value) (n : Nat), K.lookup a = some o ∧ o.cls = .type "list" ∧ o.dict = none ∧ o.data = .seq its n ∧ its.size ≤ sizeLine ∧ Vals xs its.toList
noncomputable def SqT (K : PySem.W.Frag) (H : Hp) (a : Addr) (xs : List V) : Prop :=
  Rd H a (.tup xs) ∨
    ∃ (o : Obj) (its : Array Value) (n : Nat), K.lookup a = some o ∧ o.cls = .type "tuple" ∧ o.data = .seq its n ∧ its.size ≤ sizeLine ∧ Vals xs its.toList
noncomputable def absV : Value → Option V
  | .none => some .non
  | .bool b => some (.bl b)
  | .int i _ => some (.int i)
  | .str x _ => some (.str x)
  | .bytes b _ => some (.byt b)
  | .float b _ => some (.flt b)
  | .ref a => some (.ref a)
  | .type n => some (.ty n)
  | _ => none
theorem RelV.abs {x : V} {u : Value} (r : RelV x u) : absV u = some x := by
  cases x with
  | non => cases r; rfl
  | bl _ => cases r; rfl
  | int _ => obtain ⟨t, rfl⟩ := r; rfl
  | str _ => obtain ⟨t, rfl⟩ := r; rfl
  | byt _ => obtain ⟨t, rfl⟩ := r; rfl
  | flt _ => obtain ⟨t, rfl⟩ := r; rfl
  | ref _ => cases r; rfl
  | ty _ => cases r; rfl
theorem RelV.inj {x y : V} {u : Value} (r : RelV x u) (q : RelV y u) : x = y := Option.some.inj (r.abs.symm.trans q.abs)
theorem Vals.inj : ∀ {xs ys : List V} {us : List Value}, Vals xs us → Vals ys us → xs = ys
  | _, _, _, .nil, .nil => rfl
  | _, _, _, .cons r t, .cons r' t' => by rw [r.inj r', Vals.inj t t']
section
variable {X : Cx} {pins : List (Addr × Obj)} {σ : St} {H : Hp} {s : Shared} {a : Addr} {xs ys : List V}
theorem SqL.of {K : PySem.W.Frag} (h : H a = some (.lst xs)) : SqL K H a xs := .inl (.inl h)
theorem SqT.of {K : PySem.W.Frag} (h : H a = some (.tup xs)) : SqT K H a xs := .inl (.inl h)
theorem Inv.list (I : Inv X pins σ H s) (h : SqL X.K H a xs) : ∃ its : List Value, Vals xs its ∧ PlainL s.heap a its.toArray ∧ xs.length ≤ sizeLine := by
  rcases h with h | ⟨o, its, n, hk, hc, hd, hs, hz, r⟩
  · obtain ⟨z, its, n, r, e⟩ := h.ok I.hok
    exact ⟨its, r, ⟨_, n, e, rfl, rfl, rfl⟩, z⟩
  · refine ⟨its.toList, r, ⟨o, n, I.kIn a o hk, hc, hd, by simpa using hs⟩, ?_⟩
    have e := r.length
    simp only [Array.length_toList] at e
    omega
theorem Inv.tuple (I : Inv X pins σ H s) (h : SqT X.K H a xs) : ∃ its : List Value, Vals xs its ∧ IsTup s.heap a its.toArray ∧ xs.length ≤ sizeLine := by
  rcases h with h | ⟨o, its, n, hk, hc, hs, hz, r⟩
  · obtain ⟨z, its, r, p⟩ := h.ok I.hok
    exact ⟨its, r, p.tup, z⟩
  · refine ⟨its.toList, r, ⟨o, I.kIn a o hk, hc, n, by simpa using hs⟩, ?_⟩
    have e := r.length
    simp only [Array.length_toList] at e
    omega
theorem Inv.list_inj (I : Inv X pins σ H s) (h : SqL X.K H a xs) (h' : SqL X.K H a ys) : xs = ys := by
  obtain ⟨its, r, ⟨o, n, e, _, _, d⟩, _⟩ := I.list h
  obtain ⟨its', r', ⟨o', n', e', _, _, d'⟩, _⟩ := I.list h'
  rw [e] at e'; cases e'
  rw [d] at d'
  injection d' with d1 _
  have : its = its' := by simpa using congrArg Array.toList d1
  subst this
  exact r.inj r'
theorem Inv.tuple_inj (I : Inv X pins σ H s) (h : SqT X.K H a xs) (h' : SqT X.K H a ys) : xs = ys := by
  obtain ⟨its, r, ⟨o, e, _, n, d⟩, _⟩ := I.tuple h
  obtain ⟨its', r', ⟨o', e', _, n', d'⟩, _⟩ := I.tuple h'
  rw [e] at e'; cases e'
  rw [d] at d'
  injection d' with d1 _
  have : its = its' := by simpa using congrArg Array.toList d1
  subst this
  exact r.inj r'
end

noncomputable abbrev Cx.wish (X : Cx) (E : Value → Shared → Prop) : Cx := { X with xe := E }
noncomputable abbrev Cx.nox (X : Cx) : Cx := X.wish fun _ _ => False
theorem Cx.Ok.wish {X : Cx} (ok : X.Ok) (E : Value → Shared → Prop) : (X.wish E).Ok :=
  ⟨ok.mod, ok.kind, ok.glob, ok.blt, ok.above, ok.inj, ok.has, ok.cab, ok.hd, ok.frames, ok.stk, ok.exf, ok.bs, ok.bsz, ok.noex, ok.exfs, ok.funs, ok.frf⟩
theorem Cx.Ok.unwish {X : Cx} {E : Value → Shared → Prop} (ok : (X.wish E).Ok) : X.Ok :=
  ⟨ok.mod, ok.kind, ok.glob, ok.blt, ok.above, ok.inj, ok.has, ok.cab, ok.hd, ok.frames, ok.stk, ok.exf, ok.bs, ok.bsz, ok.noex, ok.exfs, ok.funs, ok.frf⟩
section
variable {X : Cx} {pins : List (Addr × Obj)} {σ : St} {H : Hp} {s : Shared} {E : Value → Shared → Prop}
theorem Inv.wish (I : Inv X pins σ H s) (E : Value → Shared → Prop) : Inv (X.wish E) pins σ H s := ⟨I.ok.wish E, I.os, I.bare, I.base, I.loc, I.cell, I.free, I.freeC, I.pin, I.hok, I.len⟩
theorem Inv.unwish (I : Inv (X.wish E) pins σ H s) : Inv X pins σ H s := ⟨I.ok.unwish, I.os, I.bare, I.base, I.loc, I.cell, I.free, I.freeC, I.pin, I.hok, I.len⟩
theorem SP.unwish {D : Ends} {f : Flow} {s' : Shared} (h : SP (X.wish E) pins D f s') : SP X pins D f s' := by
  cases f with
  | next => obtain ⟨σ', H', I, q⟩ := h; exact ⟨σ', H', I.unwish, q⟩
  | brk => obtain ⟨σ', H', I, q⟩ := h; exact ⟨σ', H', I.unwish, q⟩
  | cont => obtain ⟨σ', H', I, q⟩ := h; exact ⟨σ', H', I.unwish, q⟩
  | ret u => obtain ⟨v, σ', H', I, r, q⟩ := h; exact ⟨v, σ', H', I.unwish, r, q⟩
theorem PSs.nox {st : List Stmt} {t : TS} (h : PSs X.nox st t) : PSs X st t := fun pins s σ H D I hw =>
  wpAny_mono (h pins s σ H D (I.wish _) hw) (fun _ _ q => q.unwish) fun _ _ z => False.elim z
end

section
variable {X : Cx} {st : Stmt} {rest : List Stmt} {t u : TS} {e : Expr} {te : TE} {pos : Pos}
noncomputable def tNext : TS := fun D σ H => D.nx σ H
noncomputable def tSeq (t u : TS) : TS := fun D σ H => t { D with nx := u D } σ H
theorem pss_nil : PSs X [] tNext := fun _ _ σ H _ I h => wpAny_execs_nil ⟨σ, H, I, h⟩
theorem pss_cons (h1 : PS X st t) (h2 : PSs X rest u) : PSs X (st :: rest) (tSeq t u) := by
  intro pins s σ H D I h
  refine wpAny_execs_cons (thn (h1 pins s σ H { D with nx := u D } I h) fun f s1 q => ?_)
  cases f with
  | next =>
    obtain ⟨σ', H', I', q⟩ := q
    exact h2 pins s1 σ' H' D I' q
  | ret v => exact q
  | brk => exact q
  | cont => exact q
theorem pss_one (h1 : PS X st t) : PSs X [st] t := by
  intro pins s σ H D I h
  refine wpAny_execs_cons (thn (h1 pins s σ H D I h) fun f s1 q => ?_)
  cases f with
  | next => exact wpAny_execs_nil q
  | ret v => exact q
  | brk => exact q
  | cont => exact q
noncomputable def tBreak : TS := fun D σ H => D.bk σ H
noncomputable def tCont : TS := fun D σ H => D.ct σ H
theorem Inv.quiet {pins : List (Addr × Obj)} {σ : St} {H : Hp} {s : Shared} (I : Inv X pins σ H s) : interactive X.env = false := by simp [interactive, I.ok.kind]
noncomputable def tDrop (te : TE) : TS := fun D σ H => te σ H fun _ H1 => D.nx σ H1
theorem ps_expr (he : PE X e te) (hs : autoParam (swapsWith e none pos.line X.env = pure false) L2.Internal.auR._auto_1) : PS X (.Expr e pos) (tDrop te) := by
  intro pins s σ H D I h
  exact wpAny_Expr_any (thn (he pins s σ H _ I h) fun v s1 ⟨x, H1, I1, r1, q1⟩ => ⟨σ, H1, I1, q1⟩) I.quiet hs
noncomputable def tRet (te : TE) : TS := fun D σ H => te σ H D.rt
theorem ps_ret (he : PE X e te) : PS X (.Return (some e) pos) (tRet te) := by
  intro pins s σ H D I h
  exact wpAny_Return_some (thn (he pins s σ H _ I h) fun v s1 ⟨x, H1, I1, r1, q1⟩ => ⟨x, σ, H1, I1, r1, q1⟩)
noncomputable def tRetN : TS := fun D _ H => D.rt .non H
noncomputable def tIfS (c : TT) (t u : TS) : TS := fun D σ H => c σ H fun b H1 => if b = true then t D σ H1 else u D σ H1
theorem ps_if {c : Expr} {a b : List Stmt} {tc : TT} (hc : PT X c tc) (ha : PSs X a t) (hb : PSs X b u) : PS X (.If c a b pos) (tIfS tc t u) := by
  intro pins s σ H D I h
  refine wpAny_If (thn (hc pins s σ H _ I h) fun d s1 ⟨H1, I1, q1⟩ => ?_)
  cases d with
  | true => exact ha pins s1 σ H1 D I1 q1
  | false => exact hb pins s1 σ H1 D I1 q1
noncomputable def tNever : TS := fun _ _ _ => False
end

noncomputable abbrev TG := V → St → Hp → (St → Hp → Prop) → Prop
noncomputable abbrev TGs := List V → St → Hp → (St → Hp → Prop) → Prop
noncomputable def PG (X : Cx) (target : Expr) (t : TG) : Prop :=
  ∀ (pins : List (Addr × Obj)) (s : Shared) (σ : St) (H : Hp) (v : V) (u : Value) (Q : St → Hp → Prop), Inv X pins σ H s → RelV v u → t v σ H Q →
    wpAny (model X.prog X.w) X.A (assign target X.env u) (fun _ s' => ∃ σ' H', Inv X pins σ' H' s' ∧ Q σ' H') X.xe s
noncomputable def PGs (X : Cx) (ts : List Expr) (t : TGs) : Prop :=
  ∀ (pins : List (Addr × Obj)) (s : Shared) (σ : St) (H : Hp) (vs : List V) (us : List Value) (Q : St → Hp → Prop), Inv X pins σ H s → Vals vs us → t vs σ H Q →
    wpAny (model X.prog X.w) X.A (assignInOrder ((assignEach ts X.env).map (·.2)) us) (fun _ s' => ∃ σ' H', Inv X pins σ' H' s' ∧ Q σ' H') X.xe s
noncomputable abbrev TSet := V → V → V → Hp → (Hp → Prop) → Prop
noncomputable def PSet (X : Cx) (t : TSet) : Prop :=
  ∀ (pins : List (Addr × Obj)) (s : Shared) (σ : St) (H : Hp) (o i v : V) (ov iv u : Value) (Q : Hp → Prop), Inv X pins σ H s → RelV o ov → RelV i iv → RelV v u → t o i v H Q →
    wpAny (model X.prog X.w) X.A (setItem ov iv u) (fun _ s' => ∃ H', Inv X pins σ H' s' ∧ Q H') X.xe s
noncomputable abbrev TIp := V → V → Hp → VK → Prop
noncomputable def PIp (X : Cx) (op : Operator) (t : TIp) : Prop :=
  ∀ (pins : List (Addr × Obj)) (s : Shared) (σ : St) (H : Hp) (x y : V) (v u : Value) (Q : VK), Inv X pins σ H s → RelV x v → RelV y u → t x y H Q →
    wpAny (model X.prog X.w) X.A (inplaceOp op v u) (EP X pins σ Q) X.xe s
section
variable {X : Cx} {pos : Pos}
noncomputable def gName (i : Nat) : TG := fun v σ H Q => Q (σ.set i (some v)) H
theorem pg_name {i : Nat} {x : Str} (hN : X.N.Nodup) (hi : X.N[i]? = some x) (hx : Loc X.env.scope x) (hf : autoParam (X.fn x = true ∨ X.env.scope.names.lookup x = some .local) L2.Internal.auL._auto_1) : PG X (.Name x pos) (gName i) := by
  intro pins s σ H v u Q I r h
  exact wpAny_assign_Name (store_ok I hN hi hx r (fun s' I' => ⟨_, H, I', h⟩) hf)
noncomputable def gNil : TGs := fun vs σ H Q => vs = [] ∧ Q σ H
noncomputable def gCons (t : TG) (u : TGs) : TGs := fun vs σ H Q => ∃ v r, vs = v :: r ∧ t v σ H fun σ' H' => u r σ' H' Q
theorem pgs_nil : PGs X [] gNil := by
  intro pins s σ H vs us Q I r h
  obtain ⟨e, h⟩ := h
  subst e
  cases r
  exact assignInOrder_nil ⟨σ, H, I, h⟩
theorem pgs_cons {e : Expr} {es : List Expr} {t : TG} {u : TGs} (h1 : PG X e t) (h2 : PGs X es u)
    (hs : autoParam ((assignEach (e :: es) X.env).map (·.2) = assign e X.env :: (assignEach es X.env).map (·.2)) L2.Internal.auR._auto_1) : PGs X (e :: es) (gCons t u) := by
  intro pins s σ H vs us Q I r h
  obtain ⟨v, vr, e1, h⟩ := h
  subst e1
  cases r with
  | cons r rr =>
    rw [hs]
    refine assignInOrder_cons (thn (h1 pins s σ H _ _ _ I r h) fun _ s1 ⟨σ1, H1, I1, q1⟩ => ?_)
    exact h2 pins s1 σ1 H1 _ _ Q I1 rr q1
noncomputable def gTup (K : PySem.W.Frag) (n : Nat) (t : TGs) : TG := fun v σ H Q => ∃ a xs, v = .ref a ∧ SqT K H a xs ∧ xs.length = n ∧ t xs σ H Q
theorem pg_tup {es : List Expr} {k : Nat} {t : TGs} {n : Nat} (hc : X.calm = true) (h : PGs X es t)
    (hn : autoParam ((assignEach es X.env).length = n) L2.Internal.auR._auto_1) (hst : autoParam ((assignEach es X.env).findIdx? (·.1) = none) L2.Internal.auR._auto_1) : PG X (.Tuple es k pos) (gTup X.K n t) := by
  intro pins s σ H v u Q I r hw
  obtain ⟨a, xs, e1, hq, hl, hw⟩ := hw
  subst e1
  cases r
  obtain ⟨its, rv, ht, hz⟩ := I.tuple hq
  refine assign_Tuple_tuple (I.ok.hd hc) ht (by simp [hn, ← hl, rv.length]) hst fun h' hx => ?_
  have I1 : Inv X pins σ H { s with heap := h' } := I.kept (t' := s.toks) fun b o e => hx b o (Nat.ne_of_lt (Heap.lt_size e)) e
  exact h pins _ σ H xs _ Q I1 (by simpa using rv) hw
noncomputable def gSub (to ti : TE) (t : TSet) : TG := fun v σ H Q => to σ H fun o H1 => ti σ H1 fun i H2 => t o i v H2 fun H3 => Q σ H3
noncomputable def tAsg (te : TE) (g : TG) : TS := fun D σ H => te σ H fun x H1 => g x σ H1 D.nx
theorem ps_set {i : Nat} {x : Str} {e : Expr} {te : TE} {pos' : Pos} (hN : X.N.Nodup) (hi : X.N[i]? = some x) (hx : Loc X.env.scope x) (he : PE X e te) (hs : autoParam (swapsWith e (some (.Name x pos')) pos.line X.env = pure false) L2.Internal.auR._auto_1) (hf : autoParam (X.fn x = true ∨ X.env.scope.names.lookup x = some .local) L2.Internal.auL._auto_1) :
    PS X (.Assign [.Name x pos'] e pos) (tAsg te (gName i)) := by
  intro pins s σ H D I h
  refine wpAny_Assign_Name (thn (he pins s σ H _ I h) fun v s1 ⟨y, H1, I1, r1, q1⟩ => ?_) hs
  exact store_ok I1 hN hi hx r1 (fun s2 I2 => ⟨_, H1, I2, q1⟩) hf
noncomputable def tPar (i j : Nat) (ta : TA) : TS := fun D σ H => ta σ H fun vs H1 => ∃ v w, vs = [v, w] ∧ D.nx ((σ.set i (some v)).set j (some w)) H1
noncomputable def tAug (i : Nat) (te : TE) (ti : TIp) : TS := fun D σ H => ∃ x, σ[i]? = some (some x) ∧ te σ H fun y H1 => ti x y H1 fun z H2 => D.nx (σ.set i (some z)) H2
theorem ps_aug {i : Nat} {x : Str} {e : Expr} {te : TE} {op : Operator} {ti : TIp} {pos' : Pos} (hN : X.N.Nodup) (hi : X.N[i]? = some x) (hx : Loc X.env.scope x) (he : PE X e te) (ho : PIp X op ti) (hf : autoParam (X.fn x = true ∨ X.env.scope.names.lookup x = some .local) L2.Internal.auL._auto_1) :
    PS X (.AugAssign (.Name x pos') op e pos) (tAug i te ti) := by
  intro pins s σ H D I h
  obtain ⟨v, e1, h⟩ := h
  obtain ⟨m, hn, hl⟩ := I.loc
  have vis : Vis X.env.scope x := by rcases hx with k | k; exact .inl k; exact .inr (.inl k)
  obtain ⟨u, r, l⟩ := hl i x v hi e1 vis
  refine wpAny_AugAssign_Name ?_
  have go : wpAny (model X.prog X.w) X.A (eval e X.env) (fun w s₂ => wpAny (model X.prog X.w) X.A (inplaceOp op u w) (fun r s₃ => wpAny (model X.prog X.w) X.A (storeName X.env x r) (fun _ => SP X pins D .next) X.xe s₃) X.xe s₂) X.xe s := by
    refine thn (he pins s σ H _ I h) fun w s1 ⟨y, H1, I1, r1, q1⟩ => ?_
    refine thn (ho pins s1 σ H1 v y u w _ I1 r r1 q1) fun z s2 ⟨zv, H2, I2, r2, q2⟩ => ?_
    exact store_ok I2 hN hi hx r2 (fun s3 I3 => ⟨_, H2, I3, q2⟩) hf
  rcases l with ⟨hk, hm⟩ | ⟨hk, c, hc, hcell⟩
  · exact wpAny_loadName_local I.ok.kind hk hn hm go
  · rcases hk with hk | hk
    · exact wpAny_loadName_cell I.ok.kind hk hc hcell go
    · rcases hx with k | k
      · have : X.env.scope.names.lookup x = some .free := hk
        rw [k] at this; cases this
      · have : X.env.scope.names.lookup x = some .free := hk
        rw [k] at this; cases this
noncomputable def tAugS (to ti te : TE) (tget : V → V → Hp → VK → Prop) (tip : TIp) (tset : TSet) : TS := fun D σ H => to σ H fun o H1 => ti σ H1 fun i H2 => tget o i H2 fun x H3 => te σ H3 fun y H4 => tip x y H4 fun z H5 => tset o i z H5 fun H6 => D.nx σ H6
noncomputable def PGet (X : Cx) (t : V → V → Hp → VK → Prop) : Prop :=
  ∀ (pins : List (Addr × Obj)) (s : Shared) (σ : St) (H : Hp) (o i : V) (ov iv : Value) (Q : VK), Inv X pins σ H s → RelV o ov → RelV i iv → t o i H Q →
    wpAny (model X.prog X.w) X.A (getItem ov iv) (EP X pins σ Q) X.xe s
noncomputable def ipI (f : Int → Int → Int) : TIp := fun x y H Q => ∃ i j, x = .int i ∧ y = .int j ∧ Q (.int (f i j)) H
theorem ip_add : PIp X .Add (ipI fun i j => i + j) := by
  intro pins s σ H x y v u Q I r1 r2 h
  obtain ⟨i, j, e1, e2, q⟩ := h
  subst e1; subst e2
  obtain ⟨t, rfl⟩ := r1
  obtain ⟨t', rfl⟩ := r2
  exact iadd_int ⟨.int _, H, I.tok _, ⟨_, rfl⟩, q⟩
end

section
variable {X : Cx} {pos : Pos}
noncomputable def tWhile (c : TT) (tb : TS) : TS := fun D σ H => ∃ W : Nat → St → Hp → Prop, (∃ m, W m σ H) ∧ ∀ m σ H, W m σ H →
  c σ H fun b H1 => if b = true then ∃ N : St → Hp → Prop, (∀ σ' H', N σ' H' → ∃ m', m' < m ∧ W m' σ' H') ∧ tb { D with nx := N, ct := N, bk := D.nx } σ H1 else D.nx σ H1
theorem ps_while {c : Expr} {body : List Stmt} {tc : TT} {tb : TS} (hp : PassesOwn (model X.prog X.w) X.A X.env X.xe) (hc : PT X c tc) (hb : PSs X body tb) : PS X (.While c body [] pos) (tWhile tc tb) := by
  intro pins s σ H D I h
  obtain ⟨W, ⟨m0, w0⟩, turn⟩ := h
  refine wpAny_While (codeAny_whileLoop (fun n s' => ∃ σ' H', Inv X pins σ' H' s' ∧ W n σ' H') ?_ m0 ⟨σ, H, I, w0⟩)
  rintro n s1 ⟨σ1, H1, I1, w1⟩
  refine wpAny_passesOwn hp (thn (hc pins s1 σ1 H1 _ I1 (turn n σ1 H1 w1)) fun b s2 ⟨H2, I2, q2⟩ => ?_)
  cases b with
  | true =>
    obtain ⟨N, hN, q2⟩ := q2
    rw [if_pos rfl]
    refine wpAny_passesOwn hp (thn (hb pins s2 σ1 H2 _ I2 q2) fun f s3 q3 => ?_)
    cases f with
    | next =>
      obtain ⟨σ3, H3, I3, n3⟩ := q3
      obtain ⟨m', hm, w3⟩ := hN σ3 H3 n3
      exact ⟨m', hm, σ3, H3, I3, w3⟩
    | cont =>
      obtain ⟨σ3, H3, I3, n3⟩ := q3
      obtain ⟨m', hm, w3⟩ := hN σ3 H3 n3
      exact ⟨m', hm, σ3, H3, I3, w3⟩
    | brk => exact q3
    | ret v => exact q3
  | false =>
    rw [if_neg Bool.false_ne_true]
    exact wpAny_execs_nil ⟨σ1, H2, I2, q2⟩
end

structure It where
  go : Nat → Hp → Prop
  yld : Nat → Hp → V → Hp → Prop
  stop : Nat → Hp → Prop
noncomputable def FpOk (X : Cx) (pins : List (Addr × Obj)) (H : Hp) (b : Addr) : Prop :=
  H b = none ∧ b ≠ X.env.locals ∧ b ∉ X.fs ∧ (b ∈ X.ex ∨ X.s₀.heap.objs.size ≤ b) ∧ (∀ x c, X.env.cells.lookup x = some c → c ≠ b) ∧ ∀ p ∈ X.pn ++ pins, p.1 ≠ b
theorem Inv.fpOk {X : Cx} {pins : List (Addr × Obj)} {σ : St} {H H' : Hp} {s : Shared} {b : Addr} (I : Inv X pins σ H s) (hb : s.heap.objs.size ≤ b) (hn : H' b = none) : FpOk X pins H' b := by
  refine ⟨hn, Nat.ne_of_gt (Nat.lt_of_lt_of_le I.lt hb), I.nofs hb, .inr (Nat.le_trans I.sz hb), fun x c e z => ?_, fun p hp z => ?_⟩
  · obtain ⟨v, q⟩ := I.cell x c e
    exact absurd (Nat.lt_of_lt_of_le q.lt (by rw [z]; exact hb)) (Nat.lt_irrefl _)
  · exact absurd (Nat.lt_of_lt_of_le (Heap.lt_size (I.pin p hp).1) (by rw [z]; exact hb)) (Nat.lt_irrefl _)
structure Turn (P : Program) (w : World) (K : PySem.W.Frag) (tg : Expr) (J : It) (fp : List Addr) (it : Addr) (tn : Nat → Heap → Prop) : Prop where
  mem : it ∈ fp
  obj : ∀ i h, tn i h → ∀ b ∈ fp, ∃ o, h.get? b = some o ∧ ∀ v, o.data ≠ .cell v
  keep : ∀ i h h', tn i h → (∀ b ∈ fp, ∀ o, h.get? b = some o → h'.get? b = some o) → tn i h'
  item : ∀ (X : Cx), X.prog = P → X.w = w → X.K = K → X.calm = true → ∀ (i : Nat) (pins : List (Addr × Obj)) (s : Shared) (σ : St) (H : Hp) (E : Value → Shared → Prop), Inv X pins σ H s → (∀ b ∈ fp, FpOk X pins H b) → tn i s.heap → J.go i H →
    wpAny (model P w) X.A (pyNext (.ref it)) (fun r s1 => ∃ u, r = some u ∧
      wpAny (model P w) X.A (letOwnedTupleGo tg (.ref it) u) (fun _ s2 => ∃ x H', Inv X pins σ H' s2 ∧ RelV x u ∧ J.yld i H x H' ∧ tn (i + 1) s2.heap ∧ ∀ b ∈ fp, H' b = none) E s1) E s
  done : ∀ (X : Cx), X.prog = P → X.w = w → X.K = K → X.calm = true → ∀ (i : Nat) (pins : List (Addr × Obj)) (s : Shared) (σ : St) (H : Hp) (E : Value → Shared → Prop), Inv X pins σ H s → (∀ b ∈ fp, FpOk X pins H b) → tn i s.heap → J.stop i H →
    wpAny (model P w) X.A (pyNext (.ref it)) (fun r s1 => r = none ∧ Inv X pins σ H s1) E s
  self : ∀ (A : Around) (i : Nat) (s : Shared) (Q : Value → Shared → Prop) (E : Value → Shared → Prop), tn i s.heap → Q (.ref it) s → wpAny (model P w) A (pyIter (.ref it)) Q E s
noncomputable abbrev TI := St → Hp → (It → Hp → Prop) → Prop
noncomputable def PIE (X : Cx) (pins : List (Addr × Obj)) (σ : St) (tg : Expr) (R : It → Hp → Prop) (itv : Value) (s2 : Shared) : Prop :=
  ∃ (it : Addr) (fp : List Addr) (tn : Nat → Heap → Prop) (J : It) (H' : Hp), itv = .ref it ∧ Inv X pins σ H' s2 ∧ Turn X.prog X.w X.K tg J fp it tn ∧ tn 0 s2.heap ∧ (∀ b ∈ fp, FpOk X pins H' b) ∧ R J H'
noncomputable def PI (X : Cx) (tg iter : Expr) (wi : TI) : Prop :=
  ∀ (pins : List (Addr × Obj)) (s : Shared) (σ : St) (H : Hp) (R : It → Hp → Prop), Inv X pins σ H s → wi σ H R →
    wpAny (model X.prog X.w) X.A (eval iter X.env) (fun v s1 => wpAny (model X.prog X.w) X.A (pyIter v) (PIE X pins σ tg R) X.xe s1) X.xe s

theorem go_of {M : Model} {A : Around} {E : Value → Shared → Prop} {s : Shared} {tg : Expr} {it : Addr} {u : Value} {o : Obj} {n : String} {vs : Array Value} {Q : Unit → Shared → Prop} (ho : s.heap.get? it = some o) (hc : o.cls = .type n) (hd : o.data = .fields vs)
    (hn : ["enumerate", "zip", "dict_itemiterator", "dict_reverseitemiterator", "odict_iterator", "itertools.zip_longest", "itertools.pairwise"].contains n = false) (hQ : Q () s) : wpAny M A (letOwnedTupleGo tg (.ref it) u) Q E s := by
  unfold letOwnedTupleGo
  cases tg <;> first
    | exact wpAny_pure hQ
    | (cases u <;> first
        | exact wpAny_pure hQ
        | (refine wpAny_bind (wpAny_load ho ?_)
           rw [hc, hd]
           show wpAny M A (if (["enumerate", "zip", "dict_itemiterator", "dict_reverseitemiterator", "odict_iterator", "itertools.zip_longest", "itertools.pairwise"].contains n && vs[0]? == some (rawInt _)) = true then _ else _) Q E s
           rw [if_neg (by intro h; rw [hn, Bool.false_and] at h; cases h)]
           exact wpAny_pure hQ))

noncomputable def Itl (K : PySem.W.Frag) (a : Addr) : It :=
  ⟨fun i H => ∃ xs x, SqL K H a xs ∧ xs[i]? = some x, fun i H x H' => H' = H ∧ ∀ xs, SqL K H a xs → xs[i]? = some x, fun i H => ∃ xs, SqL K H a xs ∧ xs.length ≤ i⟩
noncomputable def Itt (K : PySem.W.Frag) (a : Addr) : It :=
  ⟨fun i H => ∃ xs x, SqT K H a xs ∧ xs[i]? = some x, fun i H x H' => H' = H ∧ ∀ xs, SqT K H a xs → xs[i]? = some x, fun i H => ∃ xs, SqT K H a xs ∧ xs.length ≤ i⟩
noncomputable def Itr (lo : Int) (n : Nat) : It := ⟨fun i _ => i < n, fun i H x H' => H' = H ∧ x = .int (lo + i), fun i _ => n ≤ i⟩
theorem turn_list {P : Program} {w : World} {K : PySem.W.Frag} {tg : Expr} (a it : Addr) : Turn P w K tg (Itl K a) [it] it (fun i h => h.IsListIter it a i) where
  mem := by simp
  obj := fun i h st b hb => by
    have e : b = it := by simpa using hb
    subst e
    obtain ⟨o, e, c, d⟩ := st
    exact ⟨o, e, fun v z => by rw [d] at z; cases z⟩
  keep := fun i h h' st k => st.at fun o e => k it (by simp) o e
  item := by
    intro X hP hw hK hc i pins s σ H E I hf st hg
    subst hP hw hK
    obtain ⟨xs, x, hq, hx⟩ := hg
    obtain ⟨its, rv, p, hz⟩ := I.list hq
    obtain ⟨u, hu, ru⟩ := rv.get hx
    obtain ⟨f0, f1, f2, f3, f4, f5⟩ := hf it (by simp)
    refine wpAny_pyNext_list_item st p.isList (x := u) (by simpa using hu) fun h' st' sb => ?_
    have I1 : Inv X pins σ H { s with heap := h' } := I.turned (t' := s.toks) (fun b o hb e => (sb.2 b hb).trans e) f0 f1 f3 f4 f5
    obtain ⟨o, e, c, d⟩ := id st'
    exact ⟨u, rfl, go_of (s := { s with heap := h' }) e c d (by decide) ⟨x, H, I1, ru, ⟨rfl, fun ys hy => by rw [I.list_inj hy hq]; exact hx⟩, st', fun b hb => (hf b hb).1⟩⟩
  done := by
    intro X hP hw hK hc i pins s σ H E I hf st hg
    subst hP hw hK
    obtain ⟨xs, hq, hx⟩ := hg
    obtain ⟨its, rv, p, hz⟩ := I.list hq
    obtain ⟨f0, f1, f2, f3, f4, f5⟩ := hf it (by simp)
    have hl := rv.length
    exact wpAny_pyNext_list_end (I.ok.hd hc) st p.isList (by simp; omega) fun h' eb => ⟨rfl, I.turned (t' := s.toks) (fun b o hb e => eb b o hb e) f0 f1 f3 f4 f5⟩
  self := fun _ _ _ _ _ st h => wpAny_pyIter_listiter st h
theorem turn_tuple {P : Program} {w : World} {K : PySem.W.Frag} {tg : Expr} (a it : Addr) : Turn P w K tg (Itt K a) [it] it (fun i h => h.IsTupleIter it a i) where
  mem := by simp
  obj := fun i h st b hb => by
    have e : b = it := by simpa using hb
    subst e
    obtain ⟨o, e, c, d⟩ := st
    exact ⟨o, e, fun v z => by rw [d] at z; cases z⟩
  keep := fun i h h' st k => st.at fun o e => k it (by simp) o e
  item := by
    intro X hP hw hK hc i pins s σ H E I hf st hg
    subst hP hw hK
    obtain ⟨xs, x, hq, hx⟩ := hg
    obtain ⟨its, rv, p, hz⟩ := I.tuple hq
    obtain ⟨u, hu, ru⟩ := rv.get hx
    obtain ⟨f0, f1, f2, f3, f4, f5⟩ := hf it (by simp)
    refine wpAny_pyNext_tuple_item st (show s.heap.IsTuple a its.toArray from p) (x := u) (by simpa using hu) fun h' st' sb => ?_
    have I1 : Inv X pins σ H { s with heap := h' } := I.turned (t' := s.toks) (fun b o hb e => (sb.2 b hb).trans e) f0 f1 f3 f4 f5
    obtain ⟨o, e, c, d⟩ := id st'
    exact ⟨u, rfl, go_of (s := { s with heap := h' }) e c d (by decide) ⟨x, H, I1, ru, ⟨rfl, fun ys hy => by rw [I.tuple_inj hy hq]; exact hx⟩, st', fun b hb => (hf b hb).1⟩⟩
  done := by
    intro X hP hw hK hc i pins s σ H E I hf st hg
    subst hP hw hK
    obtain ⟨xs, hq, hx⟩ := hg
    obtain ⟨its, rv, p, hz⟩ := I.tuple hq
    obtain ⟨f0, f1, f2, f3, f4, f5⟩ := hf it (by simp)
    have hl := rv.length
    exact wpAny_pyNext_tuple_end (I.ok.hd hc) st (show s.heap.IsTuple a its.toArray from p) (by simp; omega) fun h' eb => ⟨rfl, I.turned (t' := s.toks) (fun b o hb e => eb b o hb e) f0 f1 f3 f4 f5⟩
  self := fun _ _ _ _ _ st h => wpAny_pyIter_tupleiter st h
theorem turn_range {P : Program} {w : World} {K : PySem.W.Frag} {tg : Expr} (it : Addr) (lo : Int) (n : Nat) : Turn P w K tg (Itr lo n) [it] it (fun i h => IsRangeIter h it (lo + (i : Nat) * 1) ((n : Int) - (i : Nat)) 1) where
  mem := by simp
  obj := fun i h st b hb => by
    have e : b = it := by simpa using hb
    subst e
    exact ⟨_, st, fun v z => by
      have z' : Data.fields _ = Data.cell v := z
      cases z'⟩
  keep := fun i h h' st k => k it (by simp) _ st
  item := by
    intro X hP hw hK hc i pins s σ H E I hf st hg
    subst hP hw hK
    obtain ⟨f0, f1, f2, f3, f4, f5⟩ := hf it (by simp)
    have W := Walks.range (prog := X.prog) (w := X.w) (I.ok.hd hc) it lo 1 n
    refine W.item i s _ _ hg st fun v h' tk hv st' kk => ?_
    obtain ⟨t, rfl⟩ := hv
    have I1 : Inv X pins σ H { s with heap := h', toks := tk } := I.turned (fun b o hb e => kk b o (by simpa using hb) e) f0 f1 f3 f4 f5
    refine ⟨_, rfl, go_of (s := { s with heap := h', toks := tk }) (n := "range_iterator") st' rfl rfl (by decide) ⟨.int (lo + i), H, I1, ⟨t, ?_⟩, ⟨rfl, rfl⟩, st', fun b hb => (hf b hb).1⟩⟩
    rw [Int.mul_one]
  done := by
    intro X hP hw hK hc i pins s σ H E I hf st hg
    subst hP hw hK
    obtain ⟨f0, f1, f2, f3, f4, f5⟩ := hf it (by simp)
    exact wpAny_pyNext_range_end (I.ok.hd hc) st (by have : n ≤ i := hg; omega) fun h' eb => ⟨rfl, I.turned (t' := s.toks) (fun b o hb e => eb b o hb e) f0 f1 f3 f4 f5⟩
  self := fun _ _ _ _ _ st h => wpAny_pyIter_rangeiter st h
end L2.Internal

namespace L2.Internal
open PySem PySem.Spec PyProof.Rows
section
variable {X : Cx} {tg : Expr}
noncomputable def iList (K : PySem.W.Frag) (tl : TE) : TI := fun σ H R => tl σ H fun x H1 => ∃ a, x = .ref a ∧ (∃ xs, SqL K H1 a xs) ∧ R (Itl K a) H1
noncomputable def iTup (K : PySem.W.Frag) (tl : TE) : TI := fun σ H R => tl σ H fun x H1 => ∃ a, x = .ref a ∧ (∃ xs, SqT K H1 a xs) ∧ R (Itt K a) H1
theorem pi_list {l : Expr} {tl : TE} (hl : PE X l tl) : PI X tg l (iList X.K tl) := by
  intro pins s σ H R I h
  refine thn (hl pins s σ H _ I h) fun v s1 ⟨x, H1, I1, r1, q1⟩ => ?_
  obtain ⟨a, e, ⟨xs, hq⟩, q⟩ := q1
  subst e
  cases r1
  obtain ⟨its, rv, p, hz⟩ := I1.list hq
  refine wpAny_pyIter_list p.isList ?_
  refine ⟨s1.heap.objs.size, [s1.heap.objs.size], _, _, H1, rfl, I1.kept (t' := s1.toks) fun b o e => Heap.get?_push_of_some _ e, turn_list a _, ⟨_, Heap.get?_push_size _ rfl, rfl, rfl⟩, fun b hb => ?_, q⟩
  have e : b = s1.heap.objs.size := by simpa using hb
  subst e
  exact I1.fpOk (Nat.le_refl _) (I1.hok.fresh (Nat.le_refl _))
theorem pi_tup {l : Expr} {tl : TE} (hl : PE X l tl) : PI X tg l (iTup X.K tl) := by
  intro pins s σ H R I h
  refine thn (hl pins s σ H _ I h) fun v s1 ⟨x, H1, I1, r1, q1⟩ => ?_
  obtain ⟨a, e, ⟨xs, hq⟩, q⟩ := q1
  subst e
  cases r1
  obtain ⟨its, rv, p, hz⟩ := I1.tuple hq
  refine wpAny_pyIter_tuple (show s1.heap.IsTuple a its.toArray from p) ?_
  refine ⟨s1.heap.objs.size, [s1.heap.objs.size], _, _, H1, rfl, I1.kept (t' := s1.toks) fun b o e => Heap.get?_push_of_some _ e, turn_tuple a _, ⟨_, Heap.get?_push_size _ rfl, rfl, rfl⟩, fun b hb => ?_, q⟩
  have e : b = s1.heap.objs.size := by simpa using hb
  subst e
  exact I1.fpOk (Nat.le_refl _) (I1.hok.fresh (Nat.le_refl _))
theorem range_it {pins : List (Addr × Obj)} {σ : St} {H : Hp} {s : Shared} {R : It → Hp → Prop} {E : Value → Shared → Prop} {lo hi : Int} {t u v : Tok} {tk : Nat} (I : Inv X pins σ H s) (h1 : -(2 ^ 62) ≤ lo) (h2 : lo < 2 ^ 62) (h3 : -(2 ^ 62) ≤ hi) (h4 : hi < 2 ^ 62)
    (q : R (Itr lo (hi - lo).toNat) H) : wpAny (model X.prog X.w) X.A (pyIter (.ref s.heap.objs.size)) (PIE X pins σ tg R) E { s with heap := s.heap.push { cls := .type "range", data := .fields #[.int lo t, .int hi u, .int 1 v] }, toks := tk } := by
  refine wpAny_pyIter_range (IsRange.new ..) (small_one h1 h2 h3 h4) ?_
  have I1 : Inv X pins σ H { s with heap := s.heap.push { cls := .type "range", data := .fields #[.int lo t, .int hi u, .int 1 v] }, toks := tk } := I.kept fun b o e => Heap.get?_push_of_some _ e
  refine ⟨(s.heap.push { cls := .type "range", data := .fields #[.int lo t, .int hi u, .int 1 v] }).objs.size, [(s.heap.push { cls := .type "range", data := .fields #[.int lo t, .int hi u, .int 1 v] }).objs.size], _, _, H, rfl,
    I1.kept (t' := tk) fun b o e => Heap.get?_push_of_some _ e, turn_range _ lo (hi - lo).toNat, ?_, fun b hb => ?_, q⟩
  · have e1 : lo + ((0 : Nat) : Int) * 1 = lo := by simp
    have e2 : (((hi - lo).toNat : Nat) : Int) - ((0 : Nat) : Int) = Builtin.Range.rangeSize lo hi 1 := by rw [rangeSize_one]; split <;> omega
    show IsRangeIter _ _ (lo + ((0 : Nat) : Int) * 1) ((((hi - lo).toNat : Nat) : Int) - ((0 : Nat) : Int)) 1
    rw [e1, e2]
    exact Heap.get?_push_size _ rfl
  · have e : b = (s.heap.push { cls := .type "range", data := .fields #[.int lo t, .int hi u, .int 1 v] }).objs.size := by simpa using hb
    subst e
    exact I1.fpOk (Nat.le_refl _) (I1.hok.fresh (Nat.le_refl _))
noncomputable def iRng1 (ta : TA) : TI := fun σ H R => ta σ H fun vs H1 => ∃ j : Int, vs = [.int j] ∧ -(2 ^ 62) ≤ j ∧ j < 2 ^ 62 ∧ R (Itr 0 j.toNat) H1
noncomputable def iRng2 (ta : TA) : TI := fun σ H R => ta σ H fun vs H1 => ∃ i j : Int, vs = [.int i, .int j] ∧ (-(2 ^ 62) ≤ i ∧ i < 2 ^ 62 ∧ -(2 ^ 62) ≤ j ∧ j < 2 ^ 62) ∧ R (Itr i (j - i).toNat) H1
theorem pi_range1 {a : Expr} {ta : TA} {p pos : Pos} (hg : Gl X "range") (hm : X.mg "range" = none) (ha : PA X [a] ta) (hs : autoParam (starEach [a] X.env = [(false, eval a X.env)]) L2.Internal.auR._auto_1) : PI X tg (.Call (.Name "range" p) [a] [] pos) (iRng1 ta) := by
  intro pins s σ H R I h
  refine Call_ (ld_blt I hg hm boot_range (PyProof.Rows.callWith_type1 (thn (ha pos pins s σ H _ I h) fun us s1 ⟨vs, H1, I1, r1, q1⟩ => ?_) hs rfl))
  obtain ⟨j, e, q1, q2, q⟩ := q1
  subst e
  cases r1 with
  | cons r rr =>
    cases rr
    obtain ⟨t, rfl⟩ := r
    exact call_range_1 (range_it I1 (by omega) (by omega) q1 q2 (by simpa using q))
noncomputable def tFor (wi : TI) (g : TG) (tb : TS) : TS := fun D σ H => wi σ H fun J H1 => ∃ W : Nat → Nat → St → Hp → Prop, (∃ m, W 0 m σ H1) ∧ ∀ i m σ H, W i m σ H →
  (J.stop i H ∧ D.nx σ H) ∨ (J.go i H ∧ ∃ N : St → Hp → Prop, (∀ σ' H', N σ' H' → ∃ m', m' < m ∧ W (i + 1) m' σ' H') ∧ ∀ x H', J.yld i H x H' → g x σ H' fun σ2 H2 => tb { D with nx := N, ct := N, bk := D.nx } σ2 H2)
noncomputable def pinsAt (fp : List Addr) (h : Heap) : List (Addr × Obj) := fp.filterMap fun b => (h.get? b).map fun o => (b, o)
theorem mem_pinsAt {fp : List Addr} {h : Heap} {b : Addr} {o : Obj} (hb : b ∈ fp) (e : h.get? b = some o) : (b, o) ∈ pinsAt fp h := List.mem_filterMap.mpr ⟨b, hb, by rw [e]; rfl⟩
theorem of_pinsAt {fp : List Addr} {h : Heap} {p : Addr × Obj} (hp : p ∈ pinsAt fp h) : p.1 ∈ fp ∧ h.get? p.1 = some p.2 := by
  obtain ⟨b, hb, e⟩ := List.mem_filterMap.mp hp
  cases q : h.get? b with
  | none => rw [q] at e; cases e
  | some o =>
    rw [q] at e
    have e' : (b, o) = p := Option.some.inj e
    subst e'
    exact ⟨hb, q⟩
theorem Inv.pinned {pins : List (Addr × Obj)} {σ : St} {H : Hp} {s : Shared} {fp : List Addr} (I : Inv X pins σ H s) (hf : ∀ b ∈ fp, FpOk X pins H b) (ho : ∀ b ∈ fp, ∃ o, s.heap.get? b = some o ∧ ∀ v, o.data ≠ .cell v) : Inv X (pins ++ pinsAt fp s.heap) σ H s :=
  I.pins_of fun p hp => (List.mem_append.mp hp).elim (fun z => I.pin p (List.mem_append_right _ z)) fun z => by
    obtain ⟨hb, e⟩ := of_pinsAt z
    obtain ⟨f0, f1, f2, _⟩ := hf p.1 hb
    obtain ⟨o, e', d⟩ := ho p.1 hb
    rw [e] at e'; cases e'
    exact ⟨e, f0, f1, f2, d⟩
theorem Inv.unpinned {pins pl : List (Addr × Obj)} {σ : St} {H : Hp} {s : Shared} (I : Inv X (pins ++ pl) σ H s) : Inv X pins σ H s := I.pins_of fun p hp => I.pin p (List.mem_append_right _ (List.mem_append_left _ hp))
theorem ps_for {iter : Expr} {body : List Stmt} {wi : TI} {g : TG} {tb : TS} {pos : Pos} (hp : PassesOwn (model X.prog X.w) X.A X.env X.xe) (hc : X.calm = true) (hi : PI X tg iter wi) (hg : PG X tg g) (hb : PSs X body tb)
    (hs : autoParam (∀ x, foldedSetIterable iter X.env x = pure x) L2.Internal.auI._auto_1) : PS X (.For tg iter body [] pos) (tFor wi g tb) := by
  intro pins s σ H D I h
  refine wpAny_For (thn (hi pins s σ H _ I h) fun v s1 h1 => thn h1 fun itv s2 h2 => ?_) hs
  obtain ⟨it, fp, tn, J, H2, e, I2, T, st2, f2, W, ⟨m0, w0⟩, turn⟩ := h2
  subst e
  -- what stays true of the iterator's objects through the loop
  have stat : ∀ {H' : Hp}, (∀ b ∈ fp, H' b = none) → ∀ b ∈ fp, FpOk X pins H' b := fun hn b hb => ⟨hn b hb, (f2 b hb).2⟩
  refine codeAny_forLoop_any (fun n s' => ∃ i σ' H', Inv X pins σ' H' s' ∧ tn i s'.heap ∧ (∀ b ∈ fp, H' b = none) ∧ W i n σ' H') ?_ m0 ⟨0, σ, H2, I2, st2, fun b hb => (f2 b hb).1, w0⟩
  rintro n s3 ⟨i, σ3, H3, I3, st3, fr3, w3⟩
  rcases turn i n σ3 H3 w3 with ⟨stop, qn⟩ | ⟨go, N, hN, step⟩
  · refine wpAny_passesOwn hp (thn (T.done X rfl rfl rfl hc i pins s3 σ3 H3 X.xe I3 (stat fr3) st3 stop) fun r s4 ⟨hr, I4⟩ => ?_)
    subst hr
    exact wpAny_execs_nil ⟨σ3, H3, I4, qn⟩
  · refine wpAny_passesOwn hp (thn (T.item X rfl rfl rfl hc i pins s3 σ3 H3 X.xe I3 (stat fr3) st3 go) fun r s4 ⟨u, hr, h4⟩ => ?_)
    subst hr
    refine wpAny_passesOwn hp (thn h4 fun _ s5 ⟨x, H5, I5, r5, y5, st5, fr5⟩ => ?_)
    have I5' := I5.pinned (stat fr5) (T.obj _ _ st5)
    refine wpAny_passesOwn hp (thn (hg _ s5 σ3 H5 x u _ I5' r5 (step x H5 y5)) fun _ s6 ⟨σ6, H6, I6, q6⟩ => ?_)
    refine wpAny_passesOwn hp (thn (hb _ s6 σ6 H6 _ I6 q6) fun f s7 q7 => ?_)
    have again : ∀ {σ7 : St} {H7 : Hp}, Inv X (pins ++ pinsAt fp s5.heap) σ7 H7 s7 → N σ7 H7 → ∃ m, m < n ∧ ∃ i σ' H', Inv X pins σ' H' s7 ∧ tn i s7.heap ∧ (∀ b ∈ fp, H' b = none) ∧ W i m σ' H' := fun {σ7 H7} I7 n7 => by
      obtain ⟨m', hm, w7⟩ := hN σ7 H7 n7
      refine ⟨m', hm, i + 1, σ7, H7, I7.unpinned, T.keep _ _ _ st5 fun b hb o e => (I7.pin (b, o) (List.mem_append_right _ (List.mem_append_right _ (mem_pinsAt hb e)))).1, fun b hb => ?_, w7⟩
      obtain ⟨o, e, d⟩ := T.obj _ _ st5 b hb
      exact (I7.pin (b, o) (List.mem_append_right _ (List.mem_append_right _ (mem_pinsAt hb e)))).2.1
    cases f with
    | next => obtain ⟨σ7, H7, I7, n7⟩ := q7; exact again I7 n7
    | cont => obtain ⟨σ7, H7, I7, n7⟩ := q7; exact again I7 n7
    | brk => obtain ⟨σ7, H7, I7, q7⟩ := q7; exact ⟨σ7, H7, I7.unpinned, q7⟩
    | ret v => obtain ⟨x7, σ7, H7, I7, r7, q7⟩ := q7; exact ⟨x7, σ7, H7, I7.unpinned, r7, q7⟩
end

theorem for_list {K : PySem.W.Frag} {a : Addr} {xs : List V} {g : TG} {tb : TS} {D : Ends} {σ : St} {H : Hp} (Pv : Nat → St → Hp → Prop) (h0 : Pv 0 σ H) (hl : ∀ i σ H, i ≤ xs.length → Pv i σ H → SqL K H a xs)
    (hs : ∀ i x σ H, xs[i]? = some x → Pv i σ H → g x σ H fun σ2 H2 => tb { D with nx := Pv (i + 1), ct := Pv (i + 1), bk := D.nx } σ2 H2) (hd : ∀ σ H, Pv xs.length σ H → D.nx σ H) :
    ∃ W : Nat → Nat → St → Hp → Prop, (∃ m, W 0 m σ H) ∧ ∀ i m σ H, W i m σ H →
      ((Itl K a).stop i H ∧ D.nx σ H) ∨ ((Itl K a).go i H ∧ ∃ N : St → Hp → Prop, (∀ σ' H', N σ' H' → ∃ m', m' < m ∧ W (i + 1) m' σ' H') ∧ ∀ x H', (Itl K a).yld i H x H' → g x σ H' fun σ2 H2 => tb { D with nx := N, ct := N, bk := D.nx } σ2 H2) := by
  refine ⟨fun i m σ H => m = xs.length - i ∧ i ≤ xs.length ∧ Pv i σ H, ⟨xs.length, by simp, Nat.zero_le _, h0⟩, ?_⟩
  rintro i m σ H ⟨rfl, hi, p⟩
  have q := hl i σ H hi p
  by_cases hlt : i < xs.length
  · refine .inr ⟨⟨xs, xs[i], q, by simp [hlt]⟩, Pv (i + 1), fun σ' H' p' => ⟨xs.length - (i + 1), by omega, rfl, hlt, p'⟩, fun x H' y => ?_⟩
    obtain ⟨e, y⟩ := y
    subst e
    exact hs i x σ _ (y xs q) p
  · have e : i = xs.length := by omega
    subst e
    exact .inl ⟨⟨xs, q, Nat.le_refl _⟩, hd σ H p⟩
theorem for_tup {K : PySem.W.Frag} {a : Addr} {xs : List V} {g : TG} {tb : TS} {D : Ends} {σ : St} {H : Hp} (Pv : Nat → St → Hp → Prop) (h0 : Pv 0 σ H) (hl : ∀ i σ H, i ≤ xs.length → Pv i σ H → SqT K H a xs)
    (hs : ∀ i x σ H, xs[i]? = some x → Pv i σ H → g x σ H fun σ2 H2 => tb { D with nx := Pv (i + 1), ct := Pv (i + 1), bk := D.nx } σ2 H2) (hd : ∀ σ H, Pv xs.length σ H → D.nx σ H) :
    ∃ W : Nat → Nat → St → Hp → Prop, (∃ m, W 0 m σ H) ∧ ∀ i m σ H, W i m σ H →
      ((Itt K a).stop i H ∧ D.nx σ H) ∨ ((Itt K a).go i H ∧ ∃ N : St → Hp → Prop, (∀ σ' H', N σ' H' → ∃ m', m' < m ∧ W (i + 1) m' σ' H') ∧ ∀ x H', (Itt K a).yld i H x H' → g x σ H' fun σ2 H2 => tb { D with nx := N, ct := N, bk := D.nx } σ2 H2) := by
  refine ⟨fun i m σ H => m = xs.length - i ∧ i ≤ xs.length ∧ Pv i σ H, ⟨xs.length, by simp, Nat.zero_le _, h0⟩, ?_⟩
  rintro i m σ H ⟨rfl, hi, p⟩
  have q := hl i σ H hi p
  by_cases hlt : i < xs.length
  · refine .inr ⟨⟨xs, xs[i], q, by simp [hlt]⟩, Pv (i + 1), fun σ' H' p' => ⟨xs.length - (i + 1), by omega, rfl, hlt, p'⟩, fun x H' y => ?_⟩
    obtain ⟨e, y⟩ := y
    subst e
    exact hs i x σ _ (y xs q) p
  · have e : i = xs.length := by omega
    subst e
    exact .inl ⟨⟨xs, q, Nat.le_refl _⟩, hd σ H p⟩
theorem for_range {lo : Int} {n : Nat} {g : TG} {tb : TS} {D : Ends} {σ : St} {H : Hp} (Pv : Nat → St → Hp → Prop) (h0 : Pv 0 σ H)
    (hs : ∀ i σ H, i < n → Pv i σ H → g (.int (lo + i)) σ H fun σ2 H2 => tb { D with nx := Pv (i + 1), ct := Pv (i + 1), bk := D.nx } σ2 H2) (hd : ∀ σ H, Pv n σ H → D.nx σ H) :
    ∃ W : Nat → Nat → St → Hp → Prop, (∃ m, W 0 m σ H) ∧ ∀ i m σ H, W i m σ H →
      ((Itr lo n).stop i H ∧ D.nx σ H) ∨ ((Itr lo n).go i H ∧ ∃ N : St → Hp → Prop, (∀ σ' H', N σ' H' → ∃ m', m' < m ∧ W (i + 1) m' σ' H') ∧ ∀ x H', (Itr lo n).yld i H x H' → g x σ H' fun σ2 H2 => tb { D with nx := N, ct := N, bk := D.nx } σ2 H2) := by
  refine ⟨fun i m σ H => m = n - i ∧ i ≤ n ∧ Pv i σ H, ⟨n, by simp, Nat.zero_le _, h0⟩, ?_⟩
  rintro i m σ H ⟨rfl, hi, p⟩
  by_cases hlt : i < n
  · refine .inr ⟨hlt, Pv (i + 1), fun σ' H' p' => ⟨n - (i + 1), by omega, rfl, hlt, p'⟩, fun x H' y => ?_⟩
    obtain ⟨e, y⟩ := y
    subst e y
    exact hs i σ _ hlt p
  · have e : i = n := by omega
    subst e
    exact .inl ⟨Nat.le_refl _, hd σ H p⟩
end L2.Internal

namespace L2.Internal
open PySem PySem.Spec PyProof.Rows

noncomputable abbrev R2 := V → V → Hp → VK → Prop
noncomputable def OpR (X : Cx) (f : Value → Value → Sem Value) (r : R2) : Prop :=
  ∀ (pins : List (Addr × Obj)) (s : Shared) (σ : St) (H : Hp) (x y : V) (v u : Value) (Q : VK), Inv X pins σ H s → RelV x v → RelV y u → r x y H Q →
    wpAny (model X.prog X.w) X.A (f v u) (EP X pins σ Q) X.xe s
noncomputable def UnR (X : Cx) (f : Value → Sem Value) (r : V → Hp → VK → Prop) : Prop :=
  ∀ (pins : List (Addr × Obj)) (s : Shared) (σ : St) (H : Hp) (x : V) (v : Value) (Q : VK), Inv X pins σ H s → RelV x v → r x H Q →
    wpAny (model X.prog X.w) X.A (f v) (EP X pins σ Q) X.xe s
noncomputable def CallR (X : Cx) (f : Value) (r : List V → Hp → VK → Prop) : Prop :=
  ∀ (pins : List (Addr × Obj)) (s : Shared) (σ : St) (H : Hp) (xs : List V) (us : List Value) (Q : VK), Inv X pins σ H s → Vals xs us → r xs H Q →
    wpAny (model X.prog X.w) X.A (call f us) (EP X pins σ Q) X.xe s
noncomputable def TruR (X : Cx) (r : V → Hp → (Bool → Hp → Prop) → Prop) : Prop :=
  ∀ (pins : List (Addr × Obj)) (s : Shared) (σ : St) (H : Hp) (x : V) (v : Value) (Q : Bool → Hp → Prop), Inv X pins σ H s → RelV x v → r x H Q →
    wpAny (model X.prog X.w) X.A (truthy v) (TP X pins σ Q) X.xe s

noncomputable def tOp (r : R2) (ta tb : TE) : TE := fun σ H Q => ta σ H fun x H1 => tb σ H1 fun y H2 => r x y H2 Q
noncomputable def tUn (r : V → Hp → VK → Prop) (ta : TE) : TE := fun σ H Q => ta σ H fun x H1 => r x H1 Q
noncomputable def rI (C : Int → Int → Prop) (g : Int → Int → V) : R2 := fun x y H Q => ∃ i j, x = .int i ∧ y = .int j ∧ C i j ∧ Q (g i j) H
noncomputable def rI0 (g : Int → Int → V) : R2 := fun x y H Q => ∃ i j, x = .int i ∧ y = .int j ∧ Q (g i j) H
noncomputable def rU (g : Int → V) : V → Hp → VK → Prop := fun x H Q => ∃ i, x = .int i ∧ Q (g i) H

section
variable {X : Cx} {a b c : Expr} {ta tb tc : TE} {pos : Pos}

theorem binT (ha : PE X a ta) (hb : PE X b tb) {pins : List (Addr × Obj)} {s : Shared} {σ : St} {H : Hp} {R : V → V → Hp → Prop} (I : Inv X pins σ H s)
    (h : ta σ H fun x H1 => tb σ H1 fun y H2 => R x y H2) {Q : Value → Shared → Prop} {f : Value → Value → Sem Value}
    (hf : ∀ v u s2 x y H2, Inv X pins σ H2 s2 → RelV x v → RelV y u → R x y H2 → wpAny (model X.prog X.w) X.A (f v u) Q X.xe s2) :
    wpAny (model X.prog X.w) X.A (eval a X.env) (fun v s₁ => wpAny (model X.prog X.w) X.A (eval b X.env) (fun u s₂ => wpAny (model X.prog X.w) X.A (f v u) Q X.xe s₂) X.xe s₁) X.xe s := by
  refine thn (ha pins s σ H _ I h) fun v s1 ⟨x, H1, I1, r1, q1⟩ => ?_
  refine thn (hb pins s1 σ H1 _ I1 q1) fun u s2 ⟨y, H2, I2, r2, q2⟩ => ?_
  exact hf v u s2 x y H2 I2 r1 r2 q2

theorem pe_op {op : Operator} {r : R2} (ho : OpR X (binaryOp op) r) (ha : PE X a ta) (hb : PE X b tb) : PE X (.BinOp a op b pos) (tOp r ta tb) := by
  intro pins s σ H Q I h
  exact wpAny_BinOp (binT ha hb I h fun v u s2 x y H2 I2 rx ry q => ho pins s2 σ H2 x y v u Q I2 rx ry q)
theorem pe_un {op : UnaryOp} {r : V → Hp → VK → Prop} (ho : UnR X (unaryOp op) r) (ha : PE X a ta) : PE X (.UnaryOp op a pos) (tUn r ta) := by
  intro pins s σ H Q I h
  exact UnaryOp_ (thn (ha pins s σ H _ I h) fun v s1 ⟨x, H1, I1, r1, q1⟩ => ho pins s1 σ H1 x v Q I1 r1 q1)
theorem opI {f : Value → Value → Sem Value} {C : Int → Int → Prop} {g : Int → Int → Int}
    (rule : ∀ (i j : Int) (t u : Tok) (s : Shared) (Q : Value → Shared → Prop) (E : Value → Shared → Prop), C i j → Q (.int (g i j) s.toks) { s with toks := s.toks + 1 } → wpAny (model X.prog X.w) X.A (f (.int i t) (.int j u)) Q E s) :
    OpR X f (rI C fun i j => .int (g i j)) := by
  intro pins s σ H x y v u Q I rx ry h
  obtain ⟨i, j, rfl, rfl, hc, q⟩ := h
  obtain ⟨t, rfl⟩ := rx
  obtain ⟨t', rfl⟩ := ry
  exact rule i j t t' s _ _ hc ⟨.int (g i j), H, I.tok _, ⟨_, rfl⟩, q⟩
theorem opI0 {f : Value → Value → Sem Value} {g : Int → Int → Int}
    (rule : ∀ (i j : Int) (t u : Tok) (s : Shared) (Q : Value → Shared → Prop) (E : Value → Shared → Prop), Q (.int (g i j) s.toks) { s with toks := s.toks + 1 } → wpAny (model X.prog X.w) X.A (f (.int i t) (.int j u)) Q E s) :
    OpR X f (rI0 fun i j => .int (g i j)) := by
  intro pins s σ H x y v u Q I rx ry h
  obtain ⟨i, j, rfl, rfl, q⟩ := h
  obtain ⟨t, rfl⟩ := rx
  obtain ⟨t', rfl⟩ := ry
  exact rule i j t t' s _ _ ⟨.int (g i j), H, I.tok _, ⟨_, rfl⟩, q⟩
theorem opB0 {f : Value → Value → Sem Value} {g : Int → Int → Bool}
    (rule : ∀ (i j : Int) (t u : Tok) (s : Shared) (Q : Value → Shared → Prop) (E : Value → Shared → Prop), Q (.bool (g i j)) s → wpAny (model X.prog X.w) X.A (f (.int i t) (.int j u)) Q E s) :
    OpR X f (rI0 fun i j => .bl (g i j)) := by
  intro pins s σ H x y v u Q I rx ry h
  obtain ⟨i, j, rfl, rfl, q⟩ := h
  obtain ⟨t, rfl⟩ := rx
  obtain ⟨t', rfl⟩ := ry
  exact rule i j t t' s _ _ ⟨.bl (g i j), H, I, rfl, q⟩

noncomputable def CDiv (i j : Int) : Prop := 0 < j ∧ j < 1073741824
noncomputable def CDivN (i j : Int) : Prop := j ≠ 0 ∧ j.natAbs < 1073741824
noncomputable def CPow (i j : Int) : Prop := 0 ≤ j ∧ j ≤ 1000000 ∧ i.natAbs < 2 ^ 64
noncomputable def CMul (i j : Int) : Prop := (-(2 ^ 64) < i ∧ i < 2 ^ 64) ∨ (-(2 ^ 64) < j ∧ j < 2 ^ 64)
theorem CMul.ok {i j : Int} (h : CMul i j) : IntMulOk i j := by
  rcases h with ⟨h1, h2⟩ | ⟨h1, h2⟩
  · exact .of_left (intBits_le_64 h1 h2)
  · exact .of_right (intBits_le_64 h1 h2)
theorem op_add : OpR X (binaryOp .Add) (rI0 fun i j => .int (i + j)) := opI0 fun _ _ _ _ _ _ _ q => add_int q
theorem op_sub : OpR X (binaryOp .Sub) (rI0 fun i j => .int (i - j)) := opI0 fun _ _ _ _ _ _ _ q => sub_int q
theorem op_mul : OpR X (binaryOp .Mult) (rI CMul fun i j => .int (i * j)) := opI fun _ _ _ _ _ _ _ hc q => mul_int q hc.ok
theorem op_fdiv : OpR X (binaryOp .FloorDiv) (rI CDiv fun i j => .int (i / j)) := opI fun i j _ _ _ _ _ hc q => by
  have h1 : (0 : Int) < j := hc.1
  have h2 : j < 1073741824 := hc.2
  exact floordiv_int (by omega) (by rw [Int.fdiv_eq_ediv_of_nonneg i (by omega)]; exact q) (.inl (PyProof.noPylong_small (by omega)))
theorem op_mod : OpR X (binaryOp .Mod) (rI (fun _ j => 0 < j) fun i j => .int (i % j)) := opI fun i j _ _ _ _ _ hc q => by
  have h1 : (0 : Int) < j := hc
  exact mod_int' (by omega) (by rw [Int.fmod_eq_emod_of_nonneg i (by omega)]; exact q)
theorem op_pow : OpR X (binaryOp .Pow) (rI CPow fun i j => .int (i ^ j.toNat)) := opI fun _ _ _ _ _ _ _ hc q => pow_int_small hc.1 hc.2.1 hc.2.2 q
theorem unI {f : Value → Sem Value} {g : Int → Int}
    (rule : ∀ (i : Int) (t : Tok) (s : Shared) (Q : Value → Shared → Prop) (E : Value → Shared → Prop), Q (.int (g i) s.toks) { s with toks := s.toks + 1 } → wpAny (model X.prog X.w) X.A (f (.int i t)) Q E s) :
    UnR X f (rU fun i => .int (g i)) := by
  intro pins s σ H x v Q I rx h
  obtain ⟨i, rfl, q⟩ := h
  obtain ⟨t, rfl⟩ := rx
  exact rule i t s _ _ ⟨.int (g i), H, I.tok _, ⟨_, rfl⟩, q⟩
theorem un_neg : UnR X (unaryOp .USub) (rU fun i => .int (-i)) := unI fun _ _ _ _ _ q => neg_int q
end

noncomputable def scal : V → V → Bool
  | .non, .non => true | .non, .int _ => true | .int _, .non => true | .non, .bl _ => true | .bl _, .non => true | .non, .str _ => true | .str _, .non => true
  | .int _, .int _ => true | .bl _, .bl _ => true | .str _, .str _ => true | .byt _, .byt _ => true
  | .int _, .str _ => true | .str _, .int _ => true | .bl _, .str _ => true | .str _, .bl _ => true
  | _, _ => false
noncomputable def rEq : R2 := fun x y H Q => scal x y = true ∧ Q (.bl (decide (x = y))) H
noncomputable def rNe : R2 := fun x y H Q => scal x y = true ∧ Q (.bl (!decide (x = y))) H

theorem dec_int {i j : Int} : decide (V.int i = V.int j) = (i == j) := by
  rw [Bool.eq_iff_iff]
  simp
theorem dec_bl {i j : Bool} : decide (V.bl i = V.bl j) = (i == j) := by
  rw [Bool.eq_iff_iff]
  simp
theorem dec_str {i j : Str} : decide (V.str i = V.str j) = (i == j) := by
  rw [Bool.eq_iff_iff]
  simp
theorem dec_byt {i j : Array UInt8} : decide (V.byt i = V.byt j) = (i.toList == j.toList) := by
  rw [Bool.eq_iff_iff]
  cases i
  cases j
  simp

section
variable {X : Cx} {a b c : Expr} {ta tb tc : TE} {pos : Pos}
theorem fin_bl {pins : List (Addr × Obj)} {σ : St} {H : Hp} {s : Shared} {Q : VK} {k k' : Bool} (I : Inv X pins σ H s) (q : Q (.bl k) H) (e : k = k') : EP X pins σ Q (.bool k') s := by
  subst e
  exact ⟨.bl k, H, I, rfl, q⟩
theorem op_eq : OpR X (compareOp .Eq) rEq := by
  intro pins s σ H x y v u Q I rx ry h
  obtain ⟨hs, q⟩ := h
  cases x with
  | non =>
    cases rx
    cases y with
    | non => cases ry; exact PySem.EqNone.eq_none_none (fin_bl I q (by simp))
    | bl j => cases ry; exact PySem.EqNone.eq_none_bool (fin_bl I q (by simp))
    | int j => obtain ⟨t', rfl⟩ := ry; exact PySem.EqNone.eq_none_int (fin_bl I q (by simp))
    | str j => obtain ⟨t', rfl⟩ := ry; exact PySem.EqNone.eq_none_str (fin_bl I q (by simp))
    | _ => exact absurd (show false = true from hs) Bool.false_ne_true
  | bl i =>
    cases rx
    cases y with
    | non => cases ry; exact PySem.EqNone.eq_bool_none (fin_bl I q (by simp))
    | bl j => cases ry; exact eq_bool (fin_bl I q dec_bl)
    | str j => obtain ⟨t', rfl⟩ := ry; exact PySem.EqMixed.eq_bool_str (fin_bl I q (by simp))
    | _ => exact absurd (show false = true from hs) Bool.false_ne_true
  | int i =>
    obtain ⟨t, rfl⟩ := rx
    cases y with
    | non => cases ry; exact PySem.EqNone.eq_int_none (fin_bl I q (by simp))
    | int j => obtain ⟨t', rfl⟩ := ry; exact eq_int (fin_bl I q dec_int)
    | str j => obtain ⟨t', rfl⟩ := ry; exact PySem.EqMixed.eq_int_str (fin_bl I q (by simp))
    | _ => exact absurd (show false = true from hs) Bool.false_ne_true
  | str i =>
    obtain ⟨t, rfl⟩ := rx
    cases y with
    | non => cases ry; exact PySem.EqNone.eq_str_none (fin_bl I q (by simp))
    | bl j => cases ry; exact PySem.EqMixed.eq_str_bool (fin_bl I q (by simp))
    | int j => obtain ⟨t', rfl⟩ := ry; exact PySem.EqMixed.eq_str_int (fin_bl I q (by simp))
    | str j => obtain ⟨t', rfl⟩ := ry; exact eq_str (fin_bl I q dec_str)
    | _ => exact absurd (show false = true from hs) Bool.false_ne_true
  | byt i =>
    obtain ⟨t, rfl⟩ := rx
    cases y with
    | byt j => obtain ⟨t', rfl⟩ := ry; exact PySem.W.eq_bytes (fin_bl I q dec_byt)
    | _ => exact absurd (show false = true from hs) Bool.false_ne_true
  | _ => cases y <;> exact absurd (show false = true from hs) Bool.false_ne_true
theorem op_ne : OpR X (compareOp .NotEq) rNe := by
  intro pins s σ H x y v u Q I rx ry h
  obtain ⟨hs, q⟩ := h
  cases x with
  | non =>
    cases rx
    cases y with
    | non => cases ry; exact PySem.EqNone.ne_none_none (fin_bl I q (by simp))
    | bl j => cases ry; exact PySem.EqNone.ne_none_bool (fin_bl I q (by simp))
    | int j => obtain ⟨t', rfl⟩ := ry; exact PySem.EqNone.ne_none_int (fin_bl I q (by simp))
    | str j => obtain ⟨t', rfl⟩ := ry; exact PySem.EqNone.ne_none_str (fin_bl I q (by simp))
    | _ => exact absurd (show false = true from hs) Bool.false_ne_true
  | bl i =>
    cases rx
    cases y with
    | non => cases ry; exact PySem.EqNone.ne_bool_none (fin_bl I q (by simp))
    | bl j => cases ry; exact ne_bool (fin_bl I q (congrArg not dec_bl))
    | str j => obtain ⟨t', rfl⟩ := ry; exact PySem.EqMixed.ne_bool_str (fin_bl I q (by simp))
    | _ => exact absurd (show false = true from hs) Bool.false_ne_true
  | int i =>
    obtain ⟨t, rfl⟩ := rx
    cases y with
    | non => cases ry; exact PySem.EqNone.ne_int_none (fin_bl I q (by simp))
    | int j => obtain ⟨t', rfl⟩ := ry; exact ne_int (fin_bl I q (congrArg not dec_int))
    | str j => obtain ⟨t', rfl⟩ := ry; exact PySem.EqMixed.ne_int_str (fin_bl I q (by simp))
    | _ => exact absurd (show false = true from hs) Bool.false_ne_true
  | str i =>
    obtain ⟨t, rfl⟩ := rx
    cases y with
    | non => cases ry; exact PySem.EqNone.ne_str_none (fin_bl I q (by simp))
    | bl j => cases ry; exact PySem.EqMixed.ne_str_bool (fin_bl I q (by simp))
    | int j => obtain ⟨t', rfl⟩ := ry; exact PySem.EqMixed.ne_str_int (fin_bl I q (by simp))
    | str j => obtain ⟨t', rfl⟩ := ry; exact ne_str (fin_bl I q (congrArg not dec_str))
    | _ => exact absurd (show false = true from hs) Bool.false_ne_true
  | byt i =>
    obtain ⟨t, rfl⟩ := rx
    cases y with
    | byt j => obtain ⟨t', rfl⟩ := ry; exact PySem.W.ne_bytes (fin_bl I q (congrArg not dec_byt))
    | _ => exact absurd (show false = true from hs) Bool.false_ne_true
  | _ => cases y <;> exact absurd (show false = true from hs) Bool.false_ne_true

theorem op_lt : OpR X (compareOp .Lt) (rI0 fun i j => .bl (decide (i < j))) := opB0 fun _ _ _ _ _ _ _ q => lt_int q
theorem op_le : OpR X (compareOp .LtE) (rI0 fun i j => .bl (decide (i ≤ j))) := opB0 fun _ _ _ _ _ _ _ q => le_int q
noncomputable def isObj : HO → Bool
  | .lst _ => true
  | .ins _ _ _ => true
  | _ => false
theorem nomark (b : Expr) {op : CmpOp} (h : autoParam (op ≠ .In) L2.Internal.auD._auto_1) (h2 : autoParam (op ≠ .NotIn) L2.Internal.auD._auto_1) : behindInMarks op b = false := by
  have e1 : (op == CmpOp.In) = false := by cases op <;> first | rfl | exact absurd rfl h
  have e2 : (op == CmpOp.NotIn) = false := by cases op <;> first | rfl | exact absurd rfl h2
  cases b <;> simp [behindInMarks, e1, e2]
theorem pe_cmpR {op : CmpOp} {r : R2} (ho : OpR X (compareOp op) r) (ha : PE X a ta) (hb : PE X b tb) (hm : behindInMarks op b = false) : PE X (.Compare a [op] [b] pos) (tOp r ta tb) := by
  intro pins s σ H Q I h
  exact wpAny_Compare1 (binT ha hb I h fun v u s2 x y H2 I2 rx ry q => ho pins s2 σ H2 x y v u Q I2 rx ry q) hm
noncomputable def tTest (t : TE) : TT := fun σ H Q => t σ H fun x H' => ∃ k, x = .bl k ∧ Q k H'
theorem pt_cmpR {op : CmpOp} {r : R2} (ho : OpR X (compareOp op) r) (ha : PE X a ta) (hb : PE X b tb) (hm : behindInMarks op b = false) : PT X (.Compare a [op] [b] pos) (tTest (tOp r ta tb)) := by
  intro pins s σ H Q I h
  refine wpAny_isTrue_Compare1 (thn (ha pins s σ H _ I h) fun v s1 ⟨x, H1, I1, r1, q1⟩ => thn (hb pins s1 σ H1 _ I1 q1) fun u s2 ⟨y, H2, I2, r2, q2⟩ =>
    thn (ho pins s2 σ H2 x y v u _ I2 r1 r2 q2) fun c s3 ⟨z, H3, I3, r3, k, e, q3⟩ => ?_) hm
  subst e
  cases r3
  exact wpAny_truthy_bool ⟨H3, I3, q3⟩
noncomputable def tChain (r r' : R2) (ta tb tc : TE) : TE := fun σ H Q => ta σ H fun x H1 => tb σ H1 fun y H2 => r x y H2 fun z H3 => ∃ k, z = .bl k ∧
  (if k = true then tc σ H3 fun w' H4 => r' y w' H4 Q else Q (.bl false) H3)
theorem pt_chain {op op' : CmpOp} {r r' : R2} (ho : OpR X (compareOp op) r) (ho' : OpR X (compareOp op') r') (ha : PE X a ta) (hb : PE X b tb) (hc : PE X c tc)
    (hm : lastMarks [op, op'] [b, c] = false := by with_unfolding_all rfl) : PT X (.Compare a [op, op'] [b, c] pos) (tTest (tChain r r' ta tb tc)) := by
  intro pins s σ H Q I h
  refine isTrue_chain (thn (ha pins s σ H _ I h) fun v s1 ⟨x, H1, I1, r1, q1⟩ => test_link (thn (hb pins s1 σ H1 _ I1 q1) fun u s2 ⟨y, H2, I2, r2, q2⟩ =>
    thn (ho pins s2 σ H2 x y v u _ I2 r1 r2 q2) fun d s3 ⟨z, H3, I3, r3, k, e, q3⟩ => ?_)) hm
  subst e
  cases r3
  refine wpAny_truthy_bool ?_
  cases k with
  | false =>
    obtain ⟨k', e', q'⟩ := q3
    cases e'
    exact ite_ff ⟨H3, I3, q'⟩
  | true =>
    refine ite_tt (test_last (thn (hc pins s3 σ H3 _ I3 q3) fun w' s4 ⟨z', H4, I4, r4, q4⟩ => thn (ho' pins s4 σ H4 y z' u w' _ I4 r2 r4 q4) fun d' s5 ⟨z2, H5, I5, r5, k2, e2, q5⟩ => ?_))
    subst e2
    cases r5
    exact wpAny_truthy_bool ⟨H5, I5, q5⟩

noncomputable def TruV (K : PySem.W.Frag) (x : V) (H : Hp) (k : Bool) : Prop :=
  match x with
  | .non => k = false
  | .bl b => k = b
  | .int i => k = (i != 0)
  | .str y => y.length ≤ sizeLine ∧ k = ((y.length : Int) != 0)
  | .byt y => y.size ≤ sizeLine ∧ k = ((y.size : Int) != 0)
  | .ref p => (∃ xs, SqL K H p xs ∧ k = !xs.isEmpty) ∨ (∃ xs, SqT K H p xs ∧ k = !xs.isEmpty) ∨ ∃ kvs, H p = some (.dK kvs) ∧ k = !kvs.isEmpty
  | _ => False
theorem line63 : (sizeLine : Nat) < 2 ^ 63 := by rw [sizeLine_eq]; decide
theorem op_add_str : OpR X (binaryOp .Add) (fun x y H Q => ∃ i j, x = .str i ∧ y = .str j ∧ i.length + j.length ≤ sizeLine ∧ Q (.str (i ++ j)) H) := by
  intro pins s σ H x y v u Q I rx ry h
  obtain ⟨i, j, rfl, rfl, hz, q⟩ := h
  obtain ⟨t, rfl⟩ := rx
  obtain ⟨t', rfl⟩ := ry
  exact add_str (fun t' tk => ⟨.str (i ++ j), H, I.tok _, ⟨_, rfl⟩, q⟩) hz
noncomputable def PlainIxT (b : Expr) : Prop := ∀ o i, subscripted b false o i = operate [o, i] (getItem o i)
theorem vals1 {x : V} {us : List Value} (r : Vals [x] us) : ∃ u, us = [u] ∧ RelV x u := by
  cases r with
  | cons r1 r2 => cases r2; exact ⟨_, rfl, r1⟩
theorem vals2 {x y : V} {us : List Value} (r : Vals [x, y] us) : ∃ u w', us = [u, w'] ∧ RelV x u ∧ RelV y w' := by
  cases r with
  | cons r1 r2 =>
    cases r2 with
    | cons r3 r4 => cases r4; exact ⟨_, _, rfl, r1, r3⟩
theorem call_max2 (hc : X.calm = true) : CallR X (.builtin "max") (fun xs H Q => ∃ i j, xs = [.int i, .int j] ∧ Q (.int (if j > i then j else i)) H) := by
  intro pins s σ H xs us Q I r h
  obtain ⟨i, j, rfl, q⟩ := h
  obtain ⟨u, w', rfl, ⟨t, rfl⟩, ⟨t', rfl⟩⟩ := vals2 r
  refine max_two_ints (I.ok.hd hc) fun h' tk k => ⟨_, H, I.kept k, ?_, q⟩
  by_cases hj : j > i
  · rw [if_pos hj, if_pos hj]; exact ⟨_, rfl⟩
  · rw [if_neg hj, if_neg hj]; exact ⟨_, rfl⟩
theorem call_min2 (hc : X.calm = true) : CallR X (.builtin "min") (fun xs H Q => ∃ i j, xs = [.int i, .int j] ∧ Q (.int (if j < i then j else i)) H) := by
  intro pins s σ H xs us Q I r h
  obtain ⟨i, j, rfl, q⟩ := h
  obtain ⟨u, w', rfl, ⟨t, rfl⟩, ⟨t', rfl⟩⟩ := vals2 r
  refine min_two_ints (I.ok.hd hc) fun h' tk k => ⟨_, H, I.kept k, ?_, q⟩
  by_cases hj : j < i
  · rw [if_pos hj, if_pos hj]; exact ⟨_, rfl⟩
  · rw [if_neg hj, if_neg hj]; exact ⟨_, rfl⟩
noncomputable def LenV (K : PySem.W.Frag) (x : V) (H : Hp) (n : Nat) : Prop :=
  match x with
  | .str y => y.length ≤ sizeLine ∧ n = y.length
  | .byt y => y.size ≤ sizeLine ∧ n = y.size
  | .ref p => (∃ xs, SqL K H p xs ∧ n = xs.length) ∨ ∃ xs, SqT K H p xs ∧ n = xs.length
  | _ => False
end
end L2.Internal

namespace L2.Internal
open PySem PySem.Spec PyProof.Rows

structure ObjM (h : Heap) (x dx C : Addr) (mA : Str → Option Value) : Prop where
  obj : h.get? x = some (PySem.W.instObj C dx)
  ns : h.Ns1 dx mA
  ne : dx ≠ x

theorem lookIn_ns {h : Heap} {dx : Addr} {mA : Str → Option Value} (n : h.Ns1 dx mA) : ∃ od, h.get? dx = some od ∧ ∀ name, PySem.W.lookIn name od = some (mA name) := by
  obtain ⟨o, es, ep, ho, hd, hk, _, hm⟩ := n
  refine ⟨o, ho, fun name => ?_⟩
  have e := hm name
  unfold nsFind findBy at e
  rw [← Array.find?_toList] at e
  unfold PySem.W.lookIn
  rw [hd]
  dsimp only
  split
  · rename_i y q
    rw [q] at e
    exact congrArg some e
  · rename_i q
    rw [q] at e
    have a : es.toList.any (·.refKey) = false := by
      rw [List.any_eq_false]
      intro y hy
      obtain ⟨z, t, hkey⟩ := hk y (Array.mem_toList_iff.mp hy)
      simp [DictEntry.refKey, hkey]
    have a' : ¬ es.toList.any (·.refKey) = true := by rw [a]; exact Bool.false_ne_true
    rw [if_neg a']
    exact congrArg some e

theorem ObjM.look {h : Heap} {x dx C : Addr} {mA : Str → Option Value} (I : ObjM h x dx C mA) : ∃ od, PySem.W.InstAt h x (PySem.W.instObj C dx) C (some od) ∧ ∀ name, PySem.W.lookIn name od = some (mA name) :=
  let ⟨od, ho, hl⟩ := lookIn_ns I.ns
  ⟨od, ⟨I.obj, rfl, rfl, ho⟩, hl⟩

section
variable {prog : Program} {w : World} {A : Around} {E : Value → Shared → Prop} {s : Shared} {K : PySem.W.Frag} {x dx C f : Addr} {mA : Str → Option Value} {name : Str} {v : Value}

theorem get_map {expr : Bool} {Q : Value → Shared → Prop} (X : K.In s.heap) (I : ObjM s.heap x dx C mA) (hg : PySem.W.plainGet K C name = true) (hh : PySem.W.hasDictIn K C = true)
    (ha : PySem.W.findIn K (.ref C) name = some none) (hv : mA name = some v) (hv' : PySem.W.handedIn v = true) (h : Q v { s with toks := s.toks + 1 }) :
    wpAny (model prog w) A (getAttr (.ref x) name expr) Q E s := by
  obtain ⟨od, J, hl⟩ := I.look
  exact PySem.W.get_value X J (PySem.W.plainGet_of hg).1 (PySem.W.findObj_own hh ha rfl (by rw [hl, hv])) hv' h

theorem get_meth {pl : Sem Bool} {Q : Value × List Value → Shared → Prop} (X : K.In s.heap) (I : ObjM s.heap x dx C mA) (hg : PySem.W.plainGet K C name = true)
    (hf : PySem.W.findIn K (.ref C) name = some (some (.ref f))) (ht : PySem.W.isFn K (.ref f) = true) (hv : mA name = none) (h : Q (.ref f, [.ref x]) s) :
    wpAny (model prog w) A (getMethod (.ref x) name pl) Q E s := by
  obtain ⟨od, J, hl⟩ := I.look
  exact PySem.W.method_fn X J (PySem.W.plainGet_of hg).1 (PySem.W.plainGet_of hg).2 hf (beq_iff_eq.mp ht) (by show (PySem.W.lookIn name od).map (·.isSome) = some false; rw [hl, hv]; rfl) h

theorem set_map {ns : List Str} {Q : Unit → Shared → Prop} (X : K.In s.heap) (I : ObjM s.heap x dx C mA)
    (hs : PySem.W.findIn K (.ref C) "__setattr__" = some (some (.builtin "object.__setattr__"))) (hp : PySem.W.plainOver K C = true) (ht : PySem.W.takerIn K C name = some none) (hh : PySem.W.hasDictIn K C = true)
    (hw : PySem.Within mA ns) (hsz : ns.length ≤ sizeLine)
    (h : ∀ h', ObjM h' x dx C (fun y => if y = name then some v else mA y) → Heap.SameBut dx s.heap h' → Q () { s with heap := h', toks := s.toks + 2 }) :
    wpAny (model prog w) A (setAttr (.ref x) name v) Q E s := by
  obtain ⟨od, J, hl⟩ := I.look
  refine PySem.W.set_plain X J hs (PySem.W.osa_open (s := { s with toks := s.toks + 1 }) (r := none) X J hp ht fun b => ?_)
  obtain ⟨cd, hc, hd'⟩ := PySem.W.any_some hh
  have hx : s.heap.get? x = some ⟨.ref C, some dx, .plain, #[]⟩ := I.obj
  refine wpAny_bind (wpAny_pure (wpAny_bind (wpAny_bind (wpAny_loadPart hx (wpAny_bind (PySem.W.Looks.here (s := { s with toks := s.toks + 1 }) (PySem.W.looks_clsIn X hc) ?_))))))
  rw [hd']
  refine wpAny_pure (a := some dx) (wpAny_bind (wpAny_pure (wpAny_bind ?_)))
  refine wpAny_nsSet1 (s := { s with toks := s.toks + 1 }) I.ns fun h' hn2 hs2 => ?_
  obtain ⟨oD, esD, epD, hoD, hdD, hcD⟩ := hn2.count (PySem.Within.cons name v hw)
  refine wpAny_bind (wpAny_lookBehind hoD (by rw [hdD]; exact pastItsLine_dict (Nat.le_trans hcD (by rw [List.length_cons]; omega))) ?_)
  exact wpAny_pure (h _ ⟨(hs2.2 _ (Ne.symm I.ne)).trans I.obj, hn2, I.ne⟩ hs2)

theorem make_map {R : Result → Shared → Prop} {vs : List Value} {kw : List (Str × Value)} (X : K.In s.heap) (hm : PySem.W.makesIn K C = true)
    (hi : PySem.W.findIn K (.ref C) "__init__" = some (some (.ref f))) (hf : PySem.W.typeIn K (.ref f) = some (.type "function"))
    (h : codeAny (model prog w) (A.under (.builtin "type.__call__" ⟨.ref C :: vs, kw⟩)) (.call (.ref f) ⟨.ref (s.heap.objs.size + 1) :: vs, kw⟩) (PySem.W.InitBack (s.heap.objs.size + 1) R)
      { s with heap := (s.heap.push PySem.W.emptyDict).push (PySem.W.instObj C s.heap.objs.size) }) :
    codeAny (model prog w) A (.call (.ref C) ⟨vs, kw⟩) R s := by
  obtain ⟨hh, g, d, t, os⟩ := s
  exact PySem.W.make_core (PySem.W.makes_of X hm) (PySem.W.looks_findIn X hi) (fun self => PySem.W.bind_fn X self hf) (.inl rfl) h
end

noncomputable def putF (f : Str) (v : V) : List (Str × V) → List (Str × V)
  | [] => [(f, v)]
  | (g, x) :: r => if g = f then (g, v) :: r else (g, x) :: putF f v r
theorem lookup_putF (f g : Str) (v : V) : ∀ fs : List (Str × V), (putF f v fs).lookup g = if g = f then some v else fs.lookup g
  | [] => by
    show List.lookup g [(f, v)] = _
    by_cases h : g = f
    · have hb : (g == f) = true := beq_iff_eq.mpr h
      simp only [List.lookup, hb, if_pos h]
    · have hb : (g == f) = false := beq_eq_false_iff_ne.mpr h
      simp only [List.lookup, hb, if_neg h]
  | (k, x) :: r => by
    have ih := lookup_putF f g v r
    rw [show putF f v ((k, x) :: r) = (if k = f then (k, v) :: r else (k, x) :: putF f v r) from rfl]
    by_cases hk : k = f
    · rw [if_pos hk]
      by_cases h : g = k
      · have hb : (g == k) = true := beq_iff_eq.mpr h
        simp only [List.lookup, hb, if_pos (h.trans hk)]
      · have hb : (g == k) = false := beq_eq_false_iff_ne.mpr h
        simp only [List.lookup, hb, if_neg (fun e : g = f => h (e.trans hk.symm))]
    · rw [if_neg hk]
      by_cases h : g = k
      · have hb : (g == k) = true := beq_iff_eq.mpr h
        simp only [List.lookup, hb, if_neg (fun e : g = f => hk (h.symm.trans e))]
      · have hb : (g == k) = false := beq_eq_false_iff_ne.mpr h
        simp only [List.lookup, hb]
        exact ih
theorem keys_putF (f : Str) (v : V) : ∀ fs : List (Str × V), f ∈ (putF f v fs).map (·.1) ∧ ∀ g, g ∈ fs.map (·.1) → g ∈ (putF f v fs).map (·.1)
  | [] => ⟨by simp [putF], fun g h => by simp at h⟩
  | (k, x) :: r => by
    obtain ⟨i1, i2⟩ := keys_putF f v r
    rw [show putF f v ((k, x) :: r) = (if k = f then (k, v) :: r else (k, x) :: putF f v r) from rfl]
    by_cases hk : k = f
    · rw [if_pos hk]
      subst hk
      exact ⟨by simp, fun g h => by simpa using h⟩
    · rw [if_neg hk]
      refine ⟨?_, fun g h => ?_⟩
      · rw [List.map_cons]
        exact List.mem_cons_of_mem _ i1
      · rw [List.map_cons] at h ⊢
        rcases List.mem_cons.mp h with e | e
        · exact List.mem_cons.mpr (.inl e)
        · exact List.mem_cons_of_mem _ (i2 g e)
theorem length_putF (f : Str) (v : V) : ∀ fs : List (Str × V), (putF f v fs).length ≤ fs.length + 1
  | [] => by simp [putF]
  | (k, x) :: r => by
    have ih := length_putF f v r
    rw [show putF f v ((k, x) :: r) = (if k = f then (k, v) :: r else (k, x) :: putF f v r) from rfl]
    by_cases hk : k = f
    · rw [if_pos hk, List.length_cons, List.length_cons]; omega
    · rw [if_neg hk, List.length_cons, List.length_cons]; omega

theorem RelO.some_of {v : V} {o : Option Value} (r : RelO (some v) o) : ∃ u, o = some u ∧ RelV v u := by
  cases o with
  | none => exact (show False from r).elim
  | some u => exact ⟨u, rfl, r⟩
theorem RelO.none_of {o : Option Value} (r : RelO none o) : o = none := by
  cases o with
  | none => rfl
  | some u => exact (show False from r).elim
theorem handed_of {v : V} {u : Value} (r : RelV v u) : PySem.W.handedIn u = true := by
  cases v with
  | non => cases (show u = Value.none from r); rfl
  | bl b => cases (show u = Value.bool b from r); rfl
  | int i => obtain ⟨t, e⟩ := (show ∃ t, u = Value.int i t from r); cases e; rfl
  | str x => obtain ⟨t, e⟩ := (show ∃ t, u = Value.str x t from r); cases e; rfl
  | byt b => obtain ⟨t, e⟩ := (show ∃ t, u = Value.bytes b t from r); cases e; rfl
  | flt b => obtain ⟨t, e⟩ := (show ∃ t, u = Value.float b t from r); cases e; rfl
  | ref a => cases (show u = Value.ref a from r); rfl
  | ty n => cases (show u = Value.type n from r); rfl

section
variable {P : Program} {w : World} {H H' : Hp} {h h' : Heap} {a C dx : Addr} {fs fs' : List (Str × V)}
theorem ins_get (hok : HOk P w H h) (e : H a = some (.ins C dx fs)) : ∃ mA, ObjM h a dx C mA ∧ (∀ f, RelO (fs.lookup f) (mA f)) ∧ PySem.Within mA (fs.map (·.1)) ∧ fs.length ≤ 1000 ∧ H dx = some (.own a) := by
  obtain ⟨d, z, ne, ob, mA, n, r, q⟩ := (show ObjOk P w H h a (.ins C dx fs) from hok a _ e)
  exact ⟨mA, ⟨ob, n, ne⟩, r, q, z, d⟩
end

structure Cls (K : PySem.W.Frag) (C : Addr) : Prop where
  pg : PySem.W.plainGet K C Str.empty = true
  hd : PySem.W.hasDictIn K C = true
  po : PySem.W.plainOver K C = true
  sa : PySem.W.findIn K (.ref C) "__setattr__" = some (some (.builtin "object.__setattr__"))
theorem Cls.get {K : PySem.W.Frag} {C : Addr} (c : Cls K C) (f : Str) : PySem.W.plainGet K C f = true := c.pg
noncomputable def NoAttr (K : PySem.W.Frag) (C : Addr) (f : Str) : Prop := PySem.W.findIn K (.ref C) f = some none
theorem NoAttr.taker {K : PySem.W.Frag} {C : Addr} {f : Str} (n : NoAttr K C f) : PySem.W.takerIn K C f = some none := by
  unfold PySem.W.takerIn
  rw [show PySem.W.findIn K (.ref C) f = some none from n]
  rfl
structure Con (K : PySem.W.Frag) (C : Addr) (f : Str) (v : V) (u : Value) : Prop where
  at_ : PySem.W.findIn K (.ref C) f = some (some u)
  rel : RelV v u
  get : PySem.W.specialIn K u "__get__" = some none
  cp : PySem.W.copiedNames.contains f = false
structure Meth (K : PySem.W.Frag) (C : Addr) (m : Str) (f : Addr) : Prop where
  at_ : PySem.W.findIn K (.ref C) m = some (some (.ref f))
  fn : PySem.W.isFn K (.ref f) = true
  kp : PySem.W.keepIn K (.ref f) = true

section
variable {X : Cx} {pins : List (Addr × Obj)} {σ : St} {H : Hp} {s : Shared} {a C dx : Addr} {fs : List (Str × V)} {f : Str} {v : V} {A : Around} {E : Value → Shared → Prop}

theorem getattr_ok {b : Bool} {Q : Value → Shared → Prop} (I : Inv X pins σ H s) (e : H a = some (.ins C dx fs)) (c : Cls X.K C) (n : NoAttr X.K C f) (l : fs.lookup f = some v)
    (h : ∀ u s', Inv X pins σ H s' → RelV v u → Q u s') : wpAny (model X.prog X.w) A (getAttr (.ref a) f b) Q E s := by
  obtain ⟨mA, O, r, _, _, _⟩ := ins_get I.hok e
  obtain ⟨u, hu, ru⟩ := RelO.some_of (v := v) (o := mA f) (by rw [← l]; exact r f)
  exact get_map I.kIn O (c.get f) c.hd n hu (handed_of ru) (h u _ (I.tok _) ru)

theorem getmeth_ok {m : Str} {g : Addr} {pl : Sem Bool} {Q : Value × List Value → Shared → Prop} (I : Inv X pins σ H s) (e : H a = some (.ins C dx fs)) (c : Cls X.K C) (k : Meth X.K C m g) (l : fs.lookup m = none)
    (h : Q (.ref g, [.ref a]) s) : wpAny (model X.prog X.w) A (getMethod (.ref a) m pl) Q E s := by
  obtain ⟨mA, O, r, _, _, _⟩ := ins_get I.hok e
  have hn : mA m = none := RelO.none_of (by rw [← l]; exact r m)
  exact get_meth I.kIn O (c.get m) k.at_ k.fn hn h

theorem setattr_ok {y : V} {u : Value} {Q : Unit → Shared → Prop} (I : Inv X pins σ H s) (e : H a = some (.ins C dx fs)) (c : Cls X.K C) (n : NoAttr X.K C f) (hl : fs.length < 1000) (ry : RelV y u)
    (h : ∀ s', Inv X pins σ (upd H a (.ins C dx (putF f y fs))) s' → Q () s') : wpAny (model X.prog X.w) A (setAttr (.ref a) f u) Q E s := by
  obtain ⟨mA, O, r, wi, _, ho⟩ := ins_get I.hok e
  have hz : (fs.map (·.1)).length ≤ sizeLine := by rw [List.length_map, sizeLine_eq]; omega
  refine set_map I.kIn O c.sa c.po n.taker c.hd wi hz fun h' O' sb => h _ ?_
  have hd : ∃ o, h'.get? dx = some o := let ⟨o, _, _, e', _⟩ := O'.ns; ⟨o, e'⟩
  refine I.write (x := a) (e := dx) (by rw [e]; exact True.intro) (.inr ho) (fun b q hb z => (sb.2 b hb).trans z) hd ?_
  refine ⟨by rw [upd_ne O.ne]; exact ho, ?_, O.ne, O'.obj, _, O'.ns, fun g => ?_, fun g hg => ?_⟩
  · have := length_putF f y fs; omega
  · show RelO ((putF f y fs).lookup g) (if g = f then some u else mA g)
    rw [lookup_putF]
    by_cases q : g = f
    · rw [if_pos q, if_pos q]; exact ry
    · rw [if_neg q, if_neg q]; exact r g
  · by_cases q : g = f
    · rw [q]; exact (keys_putF f y fs).1
    · refine (keys_putF f y fs).2 g (wi g fun z => hg ?_)
      show (if g = f then some u else mA g) = none
      rw [if_neg q]; exact z

theorem Inv.made (I : Inv X pins σ H s) : Inv X pins σ (upd (upd H s.heap.objs.size (.own (s.heap.objs.size + 1))) (s.heap.objs.size + 1) (.ins C s.heap.objs.size []))
    { s with heap := (s.heap.push PySem.W.emptyDict).push (PySem.W.instObj C s.heap.objs.size) } := by
  have e1 : (s.heap.push PySem.W.emptyDict).get? s.heap.objs.size = some PySem.W.emptyDict := Heap.get?_push_size s.heap rfl
  have e2 : ((s.heap.push PySem.W.emptyDict).push (PySem.W.instObj C s.heap.objs.size)).get? (s.heap.objs.size + 1) = some (PySem.W.instObj C s.heap.objs.size) := by
    have := Heap.get?_push_size (s.heap.push PySem.W.emptyDict) (o := PySem.W.instObj C s.heap.objs.size) rfl
    rwa [Heap.size_push] at this
  have e3 : (s.heap.push PySem.W.emptyDict).Ns s.heap.objs.size (fun _ => none) := ⟨PySem.W.emptyDict, #[], _, e1, rfl, (fun e he => absurd he (by simp)), fun _ => rfl⟩
  have I1 := I.laid (a := s.heap.objs.size) (o := .own (s.heap.objs.size + 1)) (h' := s.heap.push PySem.W.emptyDict) (t' := s.toks) (fun b u q => Heap.get?_push_of_some _ q) (Nat.le_refl _) ⟨_, e1⟩
  refine I1.laid (a := s.heap.objs.size + 1) (o := .ins C s.heap.objs.size []) (t' := s.toks) (fun b u q => Heap.get?_push_of_some _ q) (Nat.le_of_eq (Heap.size_push _ _)) ?_
  have ne : s.heap.objs.size ≠ s.heap.objs.size + 1 := Nat.ne_of_lt (Nat.lt_succ_self _)
  refine ⟨by rw [upd_ne ne, upd_same], Nat.zero_le _, ne, e2, fun _ => none, (Heap.Ns1.of_empty e3).at fun o q => Heap.get?_push_of_some _ q, fun _ => True.intro, fun y hy => absurd rfl hy⟩

theorem attr_of {prog : Program} {w : World} {env : Env} {e : Expr} {f : Str} {pos : Pos} {s : Shared} {Q : Value → Shared → Prop} (hb : attributeBase e f env (eval e env) = eval e env)
    (h : wpAny (model prog w) A (eval e env) (fun o s₁ => wpAny (model prog w) A (getAttr o f true) Q E s₁) E s) : wpAny (model prog w) A (eval (.Attribute e f pos) env) Q E s :=
  Attribute_any_ h (by rw [arm_eval_Attribute, hb])
end

noncomputable def tFld (K : PySem.W.Frag) (ta : TE) (f : Str) : TE := fun σ H Q => ta σ H fun x H1 => ∃ a C dx fs v, x = .ref a ∧ H1 a = some (.ins C dx fs) ∧ Cls K C ∧ NoAttr K C f ∧ fs.lookup f = some v ∧ Q v H1
noncomputable def tCon (K : PySem.W.Frag) (ta : TE) (f : Str) : TE := fun σ H Q => ta σ H fun x H1 => ∃ a C dx fs v u, x = .ref a ∧ H1 a = some (.ins C dx fs) ∧ Cls K C ∧ Con K C f v u ∧ fs.lookup f = none ∧ Q v H1
noncomputable def sFld (K : PySem.W.Frag) (ta tv : TE) (f : Str) : TS := fun D σ H => tv σ H fun y H1 => ta σ H1 fun x H2 => ∃ a C dx fs, x = .ref a ∧ H2 a = some (.ins C dx fs) ∧ Cls K C ∧ NoAttr K C f ∧ fs.length < 1000 ∧
  D.nx σ (upd H2 a (.ins C dx (putF f y fs)))
noncomputable def InOp (X : Cx) (op : Operator) (rd : V → V → Hp → VK → Prop) : Prop :=
  ∀ (pins : List (Addr × Obj)) (s : Shared) (σ : St) (H : Hp) (x y : V) (u v : Value) (Q : VK), Inv X pins σ H s → RelV x u → RelV y v → rd x y H Q → wpAny (model X.prog X.w) X.A (inplaceOp op u v) (EP X pins σ Q) X.xe s
noncomputable def sFldAug (K : PySem.W.Frag) (ta tv : TE) (rd : V → V → Hp → VK → Prop) (f : Str) : TS := fun D σ H => ta σ H fun x H1 => ∃ a C dx fs v, x = .ref a ∧ H1 a = some (.ins C dx fs) ∧ Cls K C ∧ NoAttr K C f ∧ fs.lookup f = some v ∧
  tv σ H1 fun y H2 => rd v y H2 fun z H3 => ∃ dx' fs', H3 a = some (.ins C dx' fs') ∧ fs'.length < 1000 ∧ D.nx σ (upd H3 a (.ins C dx' (putF f z fs')))

section
variable {X : Cx} {o e value : Expr} {f : Str} {pos pos' tpos : Pos} {ta tv : TE}
theorem pe_fld (he : PE X e ta) (hb : attributeBase e f X.env (eval e X.env) = eval e X.env) : PE X (.Attribute e f pos) (tFld X.K ta f) := by
  intro pins s σ H Q I h
  refine attr_of hb (thn (he pins s σ H _ I h) fun u s1 ⟨x, H1, I1, rx, a, C, dx, fs, v, ex, ea, c, n, l, q⟩ => ?_)
  subst ex
  obtain rfl : u = Value.ref a := rx
  exact getattr_ok I1 ea c n l fun u' s2 I2 ru => ⟨v, H1, I2, ru, q⟩
theorem ps_fld (ha : PE X o ta) (hv : PE X value tv) (hs : swapsWith value (some (.Attribute o f pos')) pos.line X.env = pure false) : PS X (.Assign [.Attribute o f pos'] value pos) (sFld X.K ta tv f) := by
  intro pins s σ H D I h
  refine plainObj_wpAny_Assign_Attribute (thn (hv pins s σ H _ I h) fun u s1 ⟨y, H1, I1, ry, q⟩ => thn (ha pins s1 σ H1 _ I1 q) fun ov s2 ⟨x, H2, I2, rx, a, C, dx, fs, ex, ea, c, n, l, q2⟩ => ?_) hs
  subst ex
  obtain rfl : ov = Value.ref a := rx
  exact setattr_ok I2 ea c n l ry fun s3 I3 => ⟨σ, _, I3, q2⟩
noncomputable def rAdd : V → V → Hp → VK → Prop := fun x y H Q => ∃ i j, x = .int i ∧ y = .int j ∧ Q (.int (i + j)) H
noncomputable def rSub : V → V → Hp → VK → Prop := fun x y H Q => ∃ i j, x = .int i ∧ y = .int j ∧ Q (.int (i - j)) H
end

section
variable {X : Cx} {pins : List (Addr × Obj)} {σ : St} {H : Hp} {s : Shared} {A : Around} {E : Value → Shared → Prop} {Q : Value → Shared → Prop} {c : Value} {b : Bool}
inductive TyOf (K : PySem.W.Frag) (H : Hp) : V → Value → Prop where
  | non : TyOf K H .non (.type "NoneType")
  | bl (x : Bool) : TyOf K H (.bl x) (.type "bool")
  | int (i : Int) : TyOf K H (.int i) (.type "int")
  | str (x : Str) : TyOf K H (.str x) (.type "str")
  | flt (x : UInt64) : TyOf K H (.flt x) (.type "float")
  | lst {a : Addr} {xs : List V} (e : H a = some (.lst xs)) : TyOf K H (.ref a) (.type "list")
  | frz {a : Addr} {o : Obj} {xs : List V} (e : H a = some (.frz o (.lst xs))) : TyOf K H (.ref a) (.type "list")
  | tup {a : Addr} {xs : List V} (e : H a = some (.tup xs)) : TyOf K H (.ref a) (.type "tuple")
  | dK {a : Addr} {kvs : List (Key × V)} (e : H a = some (.dK kvs)) : TyOf K H (.ref a) (.type "dict")
  | dT {a : Addr} {kvs : List (List Key × V)} (e : H a = some (.dT kvs)) : TyOf K H (.ref a) (.type "dict")
  | ins {a C dx : Addr} {fs : List (Str × V)} (e : H a = some (.ins C dx fs)) (cl : Cls K C) (ha : PySem.W.findIn K (.ref C) "__class__" = some (some (.builtin "object.__class__")))
      (hn : PySem.W.specialIn K (.builtin "object.__class__") "__get__" = some (some (.builtin "getset_descriptor.__get__"))) (htk : PySem.W.takesIn K (.builtin "object.__class__") = some true)
      (hm : PySem.W.mroIn K C (.type "object") = some true) : TyOf K H (.ref a) (.ref C)
theorem isinst_ok {x : V} {u t : Value} (I : Inv X pins σ H s) (rx : RelV x u) (ty : TyOf X.K H x t) (e : PySem.W.kitOne X.K t c = some b) (h : ∀ tk, Q (.bool b) { s with toks := tk }) :
    wpAny (model X.prog X.w) A (call (.builtin "isinstance") [u, c]) Q E s := by
  cases ty with
  | non => cases (show u = Value.none from rx); exact PySem.W.kia_one PySem.W.kitx_none I.kIn True.intro e (fun z => nomatch z) h
  | bl y => cases (show u = Value.bool y from rx); exact PySem.W.kia_one PySem.W.kitx_bool I.kIn True.intro e (fun z => nomatch z) h
  | int i => obtain ⟨t, q⟩ := (show ∃ t, u = Value.int i t from rx); cases q; exact PySem.W.kia_one PySem.W.kitx_int I.kIn True.intro e (fun z => nomatch z) h
  | str y => obtain ⟨t, q⟩ := (show ∃ t, u = Value.str y t from rx); cases q; exact PySem.W.kia_one PySem.W.kitx_str I.kIn True.intro e (fun z => nomatch z) h
  | flt y => obtain ⟨t, q⟩ := (show ∃ t, u = Value.float y t from rx); cases q; exact PySem.W.kia_one PySem.W.kitx_float I.kIn True.intro e (fun z => nomatch z) h
  | @lst a xs ea =>
    cases (show u = Value.ref a from rx)
    obtain ⟨_, _, n, _, h1⟩ := (show ObjOk X.prog X.w H s.heap a (.lst xs) from I.hok a _ ea)
    exact PySem.W.kia_one PySem.W.kitx_list I.kIn ⟨_, h1, rfl⟩ e (fun z => nomatch z) h
  | @frz a ob xs ea =>
    cases (show u = Value.ref a from rx)
    obtain ⟨_, _, _, n, _, h1⟩ := (show ObjOk X.prog X.w H s.heap a (.frz ob (.lst xs)) from I.hok a _ ea)
    exact PySem.W.kia_one PySem.W.kitx_list I.kIn ⟨_, h1, rfl⟩ e (fun z => nomatch z) h
  | @tup a xs ea =>
    cases (show u = Value.ref a from rx)
    obtain ⟨_, _, _, p⟩ := (show ObjOk X.prog X.w H s.heap a (.tup xs) from I.hok a _ ea)
    obtain ⟨o, h1, h2, _⟩ := p
    exact PySem.W.kia_one PySem.W.kitx_tuple I.kIn ⟨o, h1, h2⟩ e (fun z => nomatch z) h
  | @dK a kvs ea =>
    cases (show u = Value.ref a from rx)
    obtain ⟨_, _, vs, _, p⟩ := (show ObjOk X.prog X.w H s.heap a (.dK kvs) from I.hok a _ ea)
    obtain ⟨o, es, ep, h1, h2, _⟩ := p
    exact PySem.W.kia_one PySem.W.kitx_dict I.kIn ⟨o, h1, h2.1⟩ e (fun z => nomatch z) h
  | @dT a kvs ea =>
    cases (show u = Value.ref a from rx)
    obtain ⟨_, _, xs, _, o, es, ep, h1, h2, _⟩ := (show ObjOk X.prog X.w H s.heap a (.dT kvs) from I.hok a _ ea)
    exact PySem.W.kia_one PySem.W.kitx_dict I.kIn ⟨o, h1, h2.1⟩ e (fun z => nomatch z) h
  | @ins a C dx fs ea cl ha hn htk hm =>
    cases (show u = Value.ref a from rx)
    obtain ⟨mA, O, _⟩ := ins_get I.hok ea
    obtain ⟨od, J, _⟩ := O.look
    exact PySem.W.kia_one (PySem.W.kitx_own (cl.get _) cl.hd ha hn htk hm) I.kIn J e (fun z => nomatch z) h
end
end L2.Internal

namespace L2.Internal
open PySem PySem.Spec PyProof.Rows

structure Room (k : Nat) (A : Around) : Prop where
  hd : A.handled = none
  dp : A.depth + 3 * k + 5 < recursionLimit
  un : A.units + 16 * k + 200 < cLine
theorem Room.mono {j k : Nat} {A : Around} (r : Room k A) (h : j ≤ k) : Room j A := ⟨r.hd, by have := r.dp; omega, by have := r.un; omega⟩
theorem Room.deeper {k : Nat} {A : Around} (r : Room (k + 1) A) (env : Env) : Room k (A.deeper env) :=
  ⟨r.hd, by have := r.dp; show A.depth + 1 + 3 * k + 5 < _; omega, by have := r.un; show A.units + 3 + 16 * k + 200 < _; omega⟩
theorem make_depth {A : Around} {C : Addr} {us : List Value} {kw : List (Str × Value)} : (A.under (.builtin "type.__call__" ⟨.ref C :: us, kw⟩)).depth = A.depth + 1 := by
  first | rfl | simp [Around.under, Code.weight, Code.isCreation, Code.isGuard, Code.isCaller, Code.frames, Code.isFrame, guardIds]
theorem make_units {A : Around} {C : Addr} {us : List Value} {kw : List (Str × Value)} : (A.under (.builtin "type.__call__" ⟨.ref C :: us, kw⟩)).units = A.units + 1 := by
  first | rfl | simp [Around.under, Code.cUnits, Code.frames, Code.isFrame]
theorem Room.make {k : Nat} {A : Around} (r : Room (k + 1) A) (C : Addr) (us : List Value) (kw : List (Str × Value)) : Room k (A.under (.builtin "type.__call__" ⟨.ref C :: us, kw⟩)) :=
  ⟨r.hd, by have := r.dp; rw [make_depth]; omega, by have := r.un; rw [make_units]; omega⟩
theorem Room.depth {k : Nat} {A : Around} (r : Room k A) : A.depth < recursionLimit := by have := r.dp; omega
theorem Room.units {k : Nat} {A : Around} (r : Room k A) : A.units + 64 < cLine := by have := r.un; omega
theorem Room.units0 {k : Nat} {A : Around} (r : Room k A) : A.units < cLine := by have := r.un; omega

noncomputable def tNil : TA := fun _ H Q => Q [] H
noncomputable def tCons (ta : TE) (tr : TA) : TA := fun σ H Q => ta σ H fun x H1 => tr σ H1 fun xs H2 => Q (x :: xs) H2
section
variable {X : Cx} {e : Expr} {es : List Expr} {te : TE} {t : TA} {pos : Pos}
theorem pa_nil : PA X [] tNil := fun _ _ _ _ H Q I h => Calls.spliced_nil ⟨[], H, I, .nil, h⟩
theorem pa_cons (ha : PE X e te) (hr : PA X es t) (hs : autoParam (starEach (e :: es) X.env = (false, eval e X.env) :: starEach es X.env) L2.Internal.auR._auto_1) : PA X (e :: es) (tCons te t) := by
  intro pos pins s σ H Q I h
  rw [hs]
  show wpAny _ _ (spliced ((false, eval e X.env) :: backTo pos (starEach es X.env))) _ _ s
  refine Calls.spliced_cons (thn (ha pins s σ H _ I h) fun u s1 ⟨x, H1, I1, r1, q1⟩ => ?_)
  exact thn (hr pos pins s1 σ H1 _ I1 q1) fun us s2 ⟨xs, H2, I2, r2, q2⟩ => ⟨x :: xs, H2, I2, .cons r1 r2, q2⟩

noncomputable def tTup (t : TA) : TE := fun σ H Q => t σ H fun xs H1 => xs.length ≤ sizeLine ∧ ∀ p, H1 p = none → Q (.ref p) (upd H1 p (.tup xs))
noncomputable def tLst (t : TA) : TE := fun σ H Q => t σ H fun xs H1 => xs.length ≤ sizeLine ∧ ∀ p, H1 p = none → Q (.ref p) (upd H1 p (.lst xs))
theorem pe_tup {x1} (h : PA X es t) : PE X (.Tuple es x1 pos) (tTup t) := by
  intro pins s σ H Q I hq
  refine wpAny_Tuple_spliced (thn (h pos pins s σ H _ I hq) fun us s1 ⟨xs, H1, I1, r, z, q⟩ => ⟨by rw [← r.length]; exact z, ?_⟩)
  have hf : H1 s1.heap.objs.size = none := I1.hok.fresh (Nat.le_refl _)
  refine ⟨.ref s1.heap.objs.size, upd H1 s1.heap.objs.size (.tup xs), I1.laid (t' := s1.toks) (fun b u e => Heap.get?_push_of_some _ e) (Nat.le_refl _) ?_, rfl, q _ hf⟩
  exact ⟨z, us, r, ⟨_, Heap.get?_push_size _ rfl, rfl, _, rfl, rfl⟩⟩
theorem pe_lst (h : PA X es t) : PE X (.List es pos) (tLst t) := by
  intro pins s σ H Q I hq
  refine wpAny_List_spliced (thn (h pos pins s σ H _ I hq) fun us s1 ⟨xs, H1, I1, r, z, q⟩ => ⟨by rw [← r.length]; exact z, ?_⟩)
  have hf : H1 s1.heap.objs.size = none := I1.hok.fresh (Nat.le_refl _)
  refine ⟨.ref s1.heap.objs.size, upd H1 s1.heap.objs.size (.lst xs), I1.laid (t' := s1.toks) (fun b u e => Heap.get?_push_of_some _ e) (Nat.le_refl _) ?_, rfl, q _ hf⟩
  exact ⟨z, us, 0, r, Heap.get?_push_size _ rfl⟩
end

noncomputable abbrev Sp := List V → Hp → VK → XK → Prop
noncomputable abbrev CXT := List Env → Hp → Shared → XK → Value → Shared → Prop

structure Env0 (P : Program) (w : World) (K : PySem.W.Frag) (mg : Str → Option Value) (base : Heap) (A : Around) (outer : List Env) (s : Shared) (H : Hp) : Prop where
  frames : A.frames = some outer
  mod : Mod K mg base
  bs : ∀ b o, base.get? b = some o → s.heap.get? b = some o ∧ H b = none
  bsz : base.objs.size ≤ s.heap.objs.size
  funs : s.heap.FunFrames base outer
  frf : ∀ b ∈ frs outer, H b = none
  hok : HOk P w H s.heap
  bare : AllBare s.gens
noncomputable def CE (outer : List Env) (P : Program) (w : World) (H : Hp) (s : Shared) (Q : VK) (u : Value) (s' : Shared) : Prop :=
  ∃ v H', s'.os = s.os ∧ AllBare s'.gens ∧ Un (frs outer) [] H H' s.heap s'.heap ∧ HOk P w H' s'.heap ∧ RelV v u ∧ Q v H'
noncomputable def CR (CX : CXT) (outer : List Env) (P : Program) (w : World) (H : Hp) (s : Shared) (Q : VK) (E : XK) (r : Result) (s' : Shared) : Prop :=
  match r with
  | .ok (.ret u) => CE outer P w H s Q u s'
  | .ok _ => False
  | .error e => CX outer H s E e s'
structure FnOk (P : Program) (w : World) (K : PySem.W.Frag) (mg : Str → Option Value) (base : Heap) (CX : CXT) (k : Nat) (f : Addr) (fd : FuncData) (ps : List Str) (sp : Sp) : Prop where
  len : ∀ vs H Q E, sp vs H Q E → vs.length = ps.length
  run : ∀ (A : Around) (outer : List Env) (s : Shared) (H : Hp) (args : Args) (us : List Value) (vs : List V) (Q : VK) (E : XK), Room k A → Env0 P w K mg base A outer s H → BindsTo s fd args (ps.zip us) → Vals vs us → sp vs H Q E →
    codeAny (model P w) A (.call (.ref f) args) (CR CX outer P w H s Q E) s
theorem Env0.make {P : Program} {w : World} {K : PySem.W.Frag} {mg : Str → Option Value} {base : Heap} {A : Around} {outer : List Env} {s : Shared} {H : Hp} (e : Env0 P w K mg base A outer s H) (C : Addr) (us : List Value) (kw : List (Str × Value)) :
    Env0 P w K mg base (A.under (.builtin "type.__call__" ⟨.ref C :: us, kw⟩)) outer s H := ⟨by first | exact e.frames | (simpa [Around.under, Code.envs, Code.isFrame, pushEnvs] using e.frames), e.mod, e.bs, e.bsz, e.funs, e.frf, e.hok, e.bare⟩
section
variable {X : Cx} {pins : List (Addr × Obj)} {σ : St} {H : Hp} {s s' : Shared}
theorem Inv.env0 (I : Inv X pins σ H s) : Env0 X.prog X.w X.K X.mg X.base X.A X.stack s H :=
  ⟨I.ok.frames, I.ok.mod, I.bs, Nat.le_trans I.ok.bsz I.sz, I.stack, I.stkFree, I.hok, I.bare⟩
theorem Inv.after {Q : VK} {u : Value} (I : Inv X pins σ H s) (h : CE X.stack X.prog X.w H s Q u s') : EP X pins σ Q u s' := by
  obtain ⟨v, H', os, bare, un, hok, r, q⟩ := h
  obtain ⟨hh, g, d, t, os'⟩ := s'
  obtain rfl : os' = s.os := os
  exact ⟨v, H', I.call (h' := hh) (g' := g) (d' := d) (t' := t) (ch := []) un hok bare (fun b z => absurd z (by simp)), r, q⟩
end

noncomputable def tCall (sp : Sp) (dvs : List V) (E : XK) (t : TA) : TE := fun σ H Q => t σ H fun vs H1 => sp (vs ++ dvs) H1 Q E
noncomputable def tMeth (C : Addr) (m : Str) (sp : Sp) (dvs : List V) (E : XK) (ta : TE) (t : TA) : TE := fun σ H Q => ta σ H fun x H1 => ∃ a dx fs, x = .ref a ∧ H1 a = some (.ins C dx fs) ∧ fs.lookup m = none ∧
  t σ H1 fun vs H2 => sp (x :: (vs ++ dvs)) H2 Q E
noncomputable def tMake (C : Addr) (sp : Sp) (dvs : List V) (E : XK) (t : TA) : TE := fun σ H Q => t σ H fun vs H1 => ∀ x dx, H1 x = none → H1 dx = none → dx ≠ x →
  sp (.ref x :: (vs ++ dvs)) (upd (upd H1 dx (.own x)) x (.ins C dx [])) (fun v H2 => v = .non ∧ Q (.ref x) H2) E

noncomputable def Binds (K : PySem.W.Frag) (fd : FuncData) (ps : List Str) (ds : List Value) : Prop :=
  ∀ (s : Shared) (us : List Value), K.In s.heap → (us ++ ds).length = ps.length → BindsTo s fd ⟨us, []⟩ (ps.zip (us ++ ds))
theorem Binds.all {K : PySem.W.Frag} {fd : FuncData} {ps : List Str} (h : ∀ us : List Value, us.length = ps.length → bindArgs fd ⟨us, []⟩ = pure (ps.zip us)) : Binds K fd ps [] := fun s us _ hl => by
  rw [List.append_nil] at hl ⊢
  exact .of_eq (h us hl)

noncomputable def Passes (CX : CXT) (X : Cx) (E : XK) : Prop := ∀ (pins : List (Addr × Obj)) (σ : St) (H : Hp) (s : Shared) (e : Value) (s' : Shared), Inv X pins σ H s → CX X.stack H s E e s' → X.xe e s'

section
variable {X : Cx} {CX : CXT} {k : Nat} {f C : Addr} {fd : FuncData} {ps : List Str} {sp : Sp} {dvs : List V} {ds : List Value} {E : XK} {x m : Str} {p pos apos : Pos} {e o : Expr} {es : List Expr} {ta : TE} {t : TA}

theorem run_fn {pins : List (Addr × Obj)} {σ : St} {H : Hp} {s : Shared} {Q : VK} {us : List Value} {vs : List V} (F : FnOk X.prog X.w X.K X.mg X.base CX k f fd ps sp) (hr : Room k X.A) (hb : Binds X.K fd ps ds) (hd : Vals dvs ds) (hx : Passes CX X E)
    (I : Inv X pins σ H s) (r : Vals vs us) (h : sp (vs ++ dvs) H Q E) : wpAny (model X.prog X.w) X.A (call (.ref f) us) (EP X pins σ Q) X.xe s := by
  have r2 : Vals (vs ++ dvs) (us ++ ds) := r.append hd
  have hl : (us ++ ds).length = ps.length := by rw [← r2.length]; exact F.len _ _ _ _ h
  refine wpAny_call (codeAny_mono (F.run X.A X.stack s H ⟨us, []⟩ (us ++ ds) (vs ++ dvs) Q E hr I.env0 (hb s us I.kIn hl) r2 h) fun r s' hq => ?_)
  cases r with
  | error e => exact hx pins σ H s e s' I hq
  | ok fl =>
    cases fl with
    | ret u => exact I.after hq
    | next => exact False.elim hq
    | brk => exact False.elim hq
    | cont => exact False.elim hq

theorem pe_call (F : FnOk X.prog X.w X.K X.mg X.base CX k f fd ps sp) (hr : Room k X.A) (hg : Gl X x) (hm : X.mg x = some (.ref f)) (hk : PySem.W.keepIn X.K (.ref f) = true) (hb : Binds X.K fd ps ds) (hd : Vals dvs ds) (hx : Passes CX X E)
    (ha : PA X (e :: es) t) (hdb : autoParam ((x == ("__debug__" : Str)) = false) L2.Internal.auD._auto_1) (he : autoParam (starEach (e :: es) X.env = (false, eval e X.env) :: starEach es X.env) L2.Internal.auR._auto_1) (hpl : autoParam ((backTo pos (starEach es X.env)).any (·.1) = false) L2.Internal.auR._auto_1) :
    PE X (.Call (.Name x p) (e :: es) [] pos) (tCall sp dvs E t) := by
  intro pins s σ H Q I h
  refine wpAny_Call_Name_kw (ld_glob I hg hm ?_ hdb)
  refine PySem.W.callWith_K (h₀ := X.base) I.ok.mod.kin hk (thn (ha pos pins s σ H _ I h) fun us s1 ⟨vs, H1, I1, r, q⟩ => ⟨I1.kIn, ?_⟩) he hpl
  exact run_fn F hr hb hd hx I1 r q
theorem pe_meth {pl : Sem Bool} (he : PE X o ta) (c : Cls X.K C) (hm : Meth X.K C m f) (F : FnOk X.prog X.w X.K X.mg X.base CX k f fd ps sp) (hr : Room k X.A) (hb : Binds X.K fd ps ds) (hd : Vals dvs ds) (hx : Passes CX X E) (ha : PA X (e :: es) t)
    (hst : autoParam (starEach (e :: es) X.env = (false, eval e X.env) :: starEach es X.env) L2.Internal.auR._auto_1) (hpl : autoParam ((backTo pos (starEach es X.env)).any (·.1) = false) L2.Internal.auR._auto_1)
    (ht : eval (.Call (.Attribute o m apos) (e :: es) [] pos) X.env = (do
      let ov ← eval o X.env
      standAt apos.atName
      let (f, first) ← holding [ov] (getMethod ov m pl)
      callWith pos f first (backTo pos (starEach (e :: es) X.env)) (backToKw pos (keywordEach [] X.env))) := by rfl) :
    PE X (.Call (.Attribute o m apos) (e :: es) [] pos) (tMeth C m sp dvs E ta t) := by
  intro pins s σ H Q I h
  refine PySem.W.methodCall_KW (pl := pl) (thn (he pins s σ H _ I h) fun u s1 ⟨x, H1, I1, rx, a, dx, fs, ex, ea, l, q⟩ => ?_) ht
  subst ex
  obtain rfl : u = Value.ref a := rx
  refine getmeth_ok I1 ea c hm l ?_
  refine PySem.W.callWith_K (first := [.ref a]) (h₀ := X.base) I.ok.mod.kin hm.kp (thn (ha pos pins s1 σ H1 _ I1 q) fun us s2 ⟨vs, H2, I2, r, q2⟩ => ⟨I2.kIn, ?_⟩) hst hpl
  exact run_fn (us := .ref a :: us) (vs := .ref a :: vs) F hr hb hd hx I2 (.cons rfl r) q2
structure Mk (K : PySem.W.Frag) (C f : Addr) : Prop where
  makes : PySem.W.makesIn K C = true
  init : PySem.W.findIn K (.ref C) "__init__" = some (some (.ref f))
  fn : PySem.W.isFn K (.ref f) = true
  kp : PySem.W.keepIn K (.ref C) = true

theorem run_make {pins : List (Addr × Obj)} {σ : St} {H : Hp} {s : Shared} {Q : VK} {us : List Value} {vs : List V} (M : Mk X.K C f) (F : FnOk X.prog X.w X.K X.mg X.base CX k f fd ps sp) (hr : Room (k + 1) X.A) (hb : Binds X.K fd ps ds) (hd : Vals dvs ds)
    (hx : Passes CX X E) (I : Inv X pins σ H s) (r : Vals vs us)
    (h : ∀ x dx, H x = none → H dx = none → dx ≠ x → sp (.ref x :: (vs ++ dvs)) (upd (upd H dx (.own x)) x (.ins C dx [])) (fun v H2 => v = .non ∧ Q (.ref x) H2) E) :
    wpAny (model X.prog X.w) X.A (call (.ref C) us) (EP X pins σ Q) X.xe s := by
  have hq := h (s.heap.objs.size + 1) s.heap.objs.size (I.hok.fresh (Nat.le_succ _)) (I.hok.fresh (Nat.le_refl _)) (Nat.ne_of_lt (Nat.lt_succ_self _))
  have I2 := Inv.made (C := C) I
  have r2 : Vals (V.ref (s.heap.objs.size + 1) :: (vs ++ dvs)) (Value.ref (s.heap.objs.size + 1) :: (us ++ ds)) := .cons rfl (r.append hd)
  have hl : (Value.ref (s.heap.objs.size + 1) :: us ++ ds).length = ps.length := by
    have e := r2.length
    rw [F.len _ _ _ _ hq] at e
    exact e.symm
  refine wpAny_call (make_map (f := f) I.kIn M.makes M.init (beq_iff_eq.mp M.fn) (codeAny_mono (F.run _ X.stack _ _ ⟨Value.ref (s.heap.objs.size + 1) :: us, []⟩ (Value.ref (s.heap.objs.size + 1) :: (us ++ ds)) _ _ E (hr.make C us [])
    (I2.env0.make C us []) (hb _ (Value.ref (s.heap.objs.size + 1) :: us) I2.kIn hl) r2 hq) fun r s' hq' => ?_))
  cases r with
  | error e => exact hx pins σ _ _ e s' I2 hq'
  | ok fl =>
    cases fl with
    | ret u =>
      obtain ⟨v, H', I3, rv, ev, q3⟩ := I2.after hq'
      subst ev
      exact ⟨rv, ⟨V.ref (s.heap.objs.size + 1), H', I3, rfl, q3⟩⟩
    | next => exact False.elim hq'
    | brk => exact False.elim hq'
    | cont => exact False.elim hq'
theorem pe_make (M : Mk X.K C f) (F : FnOk X.prog X.w X.K X.mg X.base CX k f fd ps sp) (hr : Room (k + 1) X.A) (hg : Gl X x) (hm : X.mg x = some (.ref C)) (hb : Binds X.K fd ps ds) (hd : Vals dvs ds) (hx : Passes CX X E)
    (ha : PA X (e :: es) t) (hdb : autoParam ((x == ("__debug__" : Str)) = false) L2.Internal.auD._auto_1) (he : autoParam (starEach (e :: es) X.env = (false, eval e X.env) :: starEach es X.env) L2.Internal.auR._auto_1) (hpl : autoParam ((backTo pos (starEach es X.env)).any (·.1) = false) L2.Internal.auR._auto_1) :
    PE X (.Call (.Name x p) (e :: es) [] pos) (tMake C sp dvs E t) := by
  intro pins s σ H Q I h
  refine wpAny_Call_Name_kw (ld_glob I hg hm ?_ hdb)
  refine PySem.W.callWith_K (h₀ := X.base) I.ok.mod.kin M.kp (thn (ha pos pins s σ H _ I h) fun us s1 ⟨vs, H1, I1, r, q⟩ => ⟨I1.kIn, ?_⟩) he hpl
  exact run_make M F hr hb hd hx I1 r q
theorem pe_make0 (M : Mk X.K C f) (F : FnOk X.prog X.w X.K X.mg X.base CX k f fd ps sp) (hr : Room (k + 1) X.A) (hg : Gl X x) (hm : X.mg x = some (.ref C)) (hb : Binds X.K fd ps ds) (hd : Vals dvs ds) (hx : Passes CX X E)
    (hdb : autoParam ((x == ("__debug__" : Str)) = false) L2.Internal.auD._auto_1) : PE X (.Call (.Name x p) [] [] pos) (tMake C sp dvs E tNil) := by
  intro pins s σ H Q I h
  refine wpAny_Call_Name_kw (ld_glob I hg hm ?_ hdb)
  exact PySem.W.callWith_K0 I.kIn M.kp (run_make (us := []) M F hr hb hd hx I .nil h)
end

noncomputable def PK (X : Cx) (kws : List Keyword) (t : TA) : Prop :=
  ∀ (pos : Pos) (pins : List (Addr × Obj)) (s : Shared) (σ : St) (H : Hp) (Q : List V → Hp → Prop), Inv X pins σ H s → t σ H Q → wpAny (model X.prog X.w) X.A (evalAll ((backToKw pos (keywordEach kws X.env)).map (·.2))) (AP X pins σ Q) X.xe s
section
variable {X : Cx} {CX : CXT} {k : Nat} {f C : Addr} {fd : FuncData} {ps ks : List Str} {sp : Sp} {E : XK} {x m : Str} {p pos apos kpos : Pos} {e o : Expr} {es : List Expr} {kws : List Keyword} {te ta : TE} {t tk : TA} {nm : Option Str}
structure KBinds (K : PySem.W.Frag) (fd : FuncData) (ps ks : List Str) (g : List Value → List Value → List Value) (gV : List V → List V → List V) : Prop where
  to : ∀ (s : Shared) (us ws : List Value), K.In s.heap → (g us ws).length = ps.length → BindsTo s fd ⟨us, ks.zip ws⟩ (ps.zip (g us ws))
  rel : ∀ {vs : List V} {us : List Value} {zs : List V} {ws : List Value}, Vals vs us → Vals zs ws → Vals (gV vs zs) (g us ws)
noncomputable def tCallK (sp : Sp) (gV : List V → List V → List V) (E : XK) (t tk : TA) : TE := fun σ H Q => t σ H fun vs H1 => tk σ H1 fun zs H2 => sp (gV vs zs) H2 Q E
variable {g : List Value → List Value → List Value} {gV : List V → List V → List V}
end

structure FnScope (N P : List Str) (sc : Scope) : Prop where
  kind : sc.kind = .function
  co : sc.isCoroutine = false
  gen : sc.isGenerator = false
  nd : N.Nodup
  pre : N.take P.length = P
  par : ∀ x ∈ P, sc.names.lookup x = some .local ∨ sc.names.lookup x = some .cell
  nofree : ∀ y ∈ sc.names, y.2 ≠ .free

theorem bindL_out {kindOf : Str → Option NameKind} {x : Str} : ∀ {binds : List (Str × Value)} {m : Str → Option Value}, (∀ v, (x, v) ∉ binds) → bindL kindOf binds m x = m x
  | [], _, _ => rfl
  | (n, v) :: r, m, h => by
    unfold bindL
    rw [bindL_out fun w hw => h w (List.mem_cons_of_mem _ hw)]
    split
    · have : x ≠ n := by rintro rfl; exact h v List.mem_cons_self
      simp [this]
    · rfl
theorem bindC_out {kindOf : Str → Option NameKind} {x : Str} : ∀ {binds : List (Str × Value)} {m : Str → Option Value}, (∀ v, (x, v) ∉ binds) → bindC kindOf binds m x = m x
  | [], _, _ => rfl
  | (n, v) :: r, m, h => by
    unfold bindC
    rw [bindC_out fun w hw => h w (List.mem_cons_of_mem _ hw)]
    split
    · rfl
    · have : x ≠ n := by rintro rfl; exact h v List.mem_cons_self
      simp [this]
theorem bindL_get {kindOf : Str → Option NameKind} {x : Str} {v : Value} : ∀ {P : List Str} {vs : List Value} {i : Nat} {m : Str → Option Value}, P.Nodup → P[i]? = some x → vs[i]? = some v → kindOf x = some .local →
    bindL kindOf (P.zip vs) m x = some v
  | [], _, _, _, _, h, _, _ => by simp at h
  | _ :: _, [], _, _, _, _, h, _ => by simp at h
  | p :: P, w :: vs, 0, m, nd, h1, h2, hk => by
    simp at h1 h2; subst h1; subst h2
    show bindL kindOf ((p, w) :: P.zip vs) m p = _
    unfold bindL
    rw [bindL_out fun v hv => (List.nodup_cons.mp nd).1 (List.of_mem_zip hv).1, if_pos hk]
    simp
  | p :: P, w :: vs, i + 1, m, nd, h1, h2, hk => by
    show bindL kindOf ((p, w) :: P.zip vs) m x = _
    unfold bindL
    exact bindL_get (i := i) (List.nodup_cons.mp nd).2 (by simpa using h1) (by simpa using h2) hk
theorem bindC_get {kindOf : Str → Option NameKind} {x : Str} {v : Value} : ∀ {P : List Str} {vs : List Value} {i : Nat} {m : Str → Option Value}, P.Nodup → P[i]? = some x → vs[i]? = some v → kindOf x ≠ some .local →
    bindC kindOf (P.zip vs) m x = some v
  | [], _, _, _, _, h, _, _ => by simp at h
  | _ :: _, [], _, _, _, _, h, _ => by simp at h
  | p :: P, w :: vs, 0, m, nd, h1, h2, hk => by
    simp at h1 h2; subst h1; subst h2
    show bindC kindOf ((p, w) :: P.zip vs) m p = _
    unfold bindC
    rw [bindC_out fun v hv => (List.nodup_cons.mp nd).1 (List.of_mem_zip hv).1, if_neg hk]
    simp
  | p :: P, w :: vs, i + 1, m, nd, h1, h2, hk => by
    show bindC kindOf ((p, w) :: P.zip vs) m x = _
    unfold bindC
    exact bindC_get (i := i) (List.nodup_cons.mp nd).2 (by simpa using h1) (by simpa using h2) hk

noncomputable def start (N : List Str) (vs : List V) : St := vs.map some ++ List.replicate (N.length - vs.length) none

noncomputable def cxOf (CX : CXT) (P : Program) (w : World) (K : PySem.W.Frag) (mg : Str → Option Value) (base : Heap) (N : List Str) (qual : Str) (scope : Scope) (f : Addr) (cd : Value) (A : Around) (outer : List Env) (s : Shared) (H : Hp) (E : XK) : Cx where
  prog := P
  w := w
  K := K
  mg := mg
  base := base
  A := A.deeper (envOfC qual scope s.heap.objs.size f cd)
  N := N
  s₀ := s
  H₀ := H
  env := envOfC qual scope s.heap.objs.size f cd
  outer := outer
  stack := envOfC qual scope s.heap.objs.size f cd :: outer
  ex := []
  calm := true
  fn := fun _ => true
  pn := []
  xe := fun e s' => wpAny (model P w) (A.deeper (envOfC qual scope s.heap.objs.size f cd)) (leaving (envOfC qual scope s.heap.objs.size f cd) e) (fun _ s'' => CX outer H s E e s'') (fun e' s'' => CX outer H s E e' s'') s'

theorem cell_has {sc : Scope} {n : Nat} {x : Str} (h : sc.names.lookup x = some .cell) : ∃ c, (cellsFrom n sc.names []).lookup x = some c := by
  have q := PySem.W.cellsFrom_some sc.names n [] (.inl h)
  exact Option.isSome_iff_exists.mp q

theorem inv_start {CX : CXT} {P : Program} {w : World} {K : PySem.W.Frag} {mg : Str → Option Value} {base : Heap} {N ps : List Str} {qual : Str} {scope : Scope} {f : Addr} {cd : Value} {A : Around} {outer : List Env} {s s1 : Shared} {H : Hp} {E : XK} {us : List Value} {vs : List V}
    (S : FnScope N ps scope) (hd : A.handled = none) (e0 : Env0 P w K mg base A outer s H) (hl : vs.length = ps.length) (r : Vals vs us)
    (x : InCallC s s.heap.objs.size (bindL (envOfC qual scope s.heap.objs.size f cd).kindOf (ps.zip us) fun _ => none) (cellsFrom (s.heap.objs.size + 1) scope.names []) (bindC (envOfC qual scope s.heap.objs.size f cd).kindOf (ps.zip us) fun _ => none) s1) :
    Inv (cxOf CX P w K mg base N qual scope f cd A outer s H E) [] (start N vs) H s1 := by
  have hpl : ps.length ≤ N.length := by have := congrArg List.length S.pre; rw [List.length_take] at this; omega
  obtain ⟨h1, tk, rfl, hk⟩ := x.done
  have noA : ∀ b : Addr, b ∉ (cxOf CX P w K mg base N qual scope f cd A outer s H E).ex := fun b z => absurd (show b ∈ ([] : List Addr) from z) (by simp)
  refine ⟨⟨e0.mod, S.kind, rfl, rfl, Nat.le_refl _, fun y z c h1 h2 => ?_, fun y hy => ?_, fun y c _ h => ?_, fun _ => hd, Around.frames_deeper e0.frames, .inr ⟨rfl, rfl⟩, fun b z => absurd z (noA b), e0.bs, e0.bsz, fun b _ _ => noA b, fun b z => absurd z (noA b), e0.funs, e0.frf⟩,
    rfl, e0.bare, Un.kept hk, ⟨_, x.toInCall.ns, fun i y v h1 h2 h3 => ?_⟩, fun y c h => ⟨_, x.cell y c h⟩, e0.hok.fresh (Nat.le_refl _), fun y c h => ?_, fun p hp => absurd (show p ∈ ([] : List (Addr × Obj)) from hp) (by simp), e0.hok.kept hk, ?_⟩
  · exact name_of_addr x.apart (PySem.mem_of_lookup h1) (PySem.mem_of_lookup h2)
  · have hy : scope.names.lookup y = some .cell ∨ scope.names.lookup y = some .free := hy
    rcases hy with hy | hy
    · exact cell_has hy
    · exact absurd rfl (S.nofree _ (PySem.mem_of_lookup hy))
  · exact Nat.le_of_lt (x.above y c (PySem.mem_of_lookup h))
  · have hi : i < vs.length := by
      unfold start at h2
      by_cases hi : i < vs.length
      · exact hi
      · rw [List.getElem?_append_right (by simpa using hi)] at h2
        rw [List.getElem?_replicate] at h2
        split at h2 <;> cases h2
    have ha : vs[i]? = some v := by
      unfold start at h2
      rw [List.getElem?_append_left (by simpa using hi), List.getElem?_map] at h2
      cases e : vs[i]? with
      | none => rw [e] at h2; cases h2
      | some a => rw [e] at h2; cases h2; rfl
    obtain ⟨u, hu, rv⟩ := r.get ha
    have hp : ps[i]? = some y := by
      rw [← S.pre, List.getElem?_take_of_lt (by omega)]; exact h1
    have ndP : ps.Nodup := by rw [← S.pre]; exact S.nd.sublist (List.take_sublist _ _)
    refine ⟨u, rv, ?_⟩
    rcases S.par y (List.mem_of_getElem? hp) with k | k
    · exact .inl ⟨k, bindL_get ndP hp hu k⟩
    · obtain ⟨c, e⟩ := cell_has (n := s.heap.objs.size + 1) k
      refine .inr ⟨.inl k, c, e, ?_⟩
      have q := x.cell y c e
      rw [bindC_get ndP hp hu (by show scope.names.lookup y ≠ _; rw [k]; decide)] at q
      exact q
  · exact e0.hok.fresh (Nat.le_of_lt (x.above y c (PySem.mem_of_lookup h)))
  · unfold start
    show _ = N.length
    rw [List.length_append, List.length_map, List.length_replicate]
    omega

theorem fn_of {CX : CXT} {P : Program} {w : World} {K : PySem.W.Frag} {mg : Str → Option Value} {base : Heap} {k : Nat} {f : Addr} {name qual : Str} {params : Arguments} {body : List Stmt} {scope : Scope} {dV kV doc pm cdv ct oc : Value} {an od : Option Addr}
    {osl : Array (Option Value)} {N ps : List Str} {sp : Sp} (lk : K.lookup f = some ⟨oc, od, .func (PySem.W.fnOf name qual params body scope dV kV doc pm an cdv ct), osl⟩) (hcd : PySem.W.codeIn K cdv qual = true) (S : FnScope N ps scope)
    (len : ∀ vs H Q E, sp vs H Q E → vs.length = ps.length)
    (hbody : ∀ (A : Around) (outer : List Env) (s : Shared) (H : Hp) (vs : List V) (Q : VK) (E : XK), Room k (A.deeper (envOfC qual scope s.heap.objs.size f cdv)) → sp vs H Q E →
      ∃ t, PSs (cxOf CX P w K mg base N qual scope f cdv A outer s H E) body t ∧ t { nx := fun _ H' => Q .non H', rt := Q } (start N vs) H) :
    FnOk P w K mg base CX (k + 1) f (PySem.W.fnOf name qual params body scope dV kV doc pm an cdv ct) ps sp := by
  refine ⟨len, fun A outer s H args us vs Q E hr e0 hb r hsp => ?_⟩
  have hl := len _ _ _ _ hsp
  have KX : K.In s.heap := e0.mod.kin.keeps fun b o e => (e0.bs b o e).1
  have lim : s.heap.NoLimit := e0.mod.nolimit.keeps fun b o e => (e0.bs b o e).1
  have hkind : ∀ y ∈ ps.zip us, scope.names.lookup y.1 = some .local ∨ (scope.names.lookup y.1 = some .cell ∧ ((cellsFrom (s.heap.objs.size + 1) scope.names []).lookup y.1).isSome = true) := fun ⟨n, v⟩ hy => by
    rcases S.par n (List.of_mem_zip hy).1 with q | q
    · exact .inl q
    · exact .inr ⟨q, PySem.W.cellsFrom_some _ _ _ (.inl q)⟩
  refine codeAny_call_function hr.depth (KX _ _ lk) rfl S.co S.gen rfl (PySem.W.codeRec_of KX hcd) (hb _ _ _ _ ?_)
  refine wpAny_newFunctionEnv_cells S.kind hkind fun env he s1 x => ?_
  subst he
  refine ⟨lim.keeps x.toInCall.keep, codeAny_func ?_⟩
  obtain ⟨t, ht, hq⟩ := hbody A outer s H vs Q E (hr.deeper _) hsp
  have I : Inv (cxOf CX P w K mg base N qual scope f cdv A outer s H E) [] (start N vs) H s1 := inv_start S hr.hd e0 hl r x
  refine wpAny_mono (ht [] s1 (start N vs) H _ I hq) (fun fl s' hs => ?_) fun e s' hs => hs
  have fin : ∀ {σ' : St} {H' : Hp} {v : V} {u : Value}, Inv (cxOf CX P w K mg base N qual scope f cdv A outer s H E) [] σ' H' s' → RelV v u → Q v H' → CE outer P w H s Q u s' :=
    fun {σ' H' v u} J rv q => ⟨v, H', J.os, J.bare, J.base, J.hok, rv, q⟩
  cases fl with
  | ret u =>
    obtain ⟨v, σ', H', J, rv, q⟩ := hs
    exact fin J rv q
  | next =>
    obtain ⟨σ', H', J, q⟩ := hs
    exact fin (v := V.non) (u := Value.none) J rfl q
  | brk =>
    obtain ⟨_, _, _, q⟩ := hs
    exact False.elim q
  | cont =>
    obtain ⟨_, _, _, q⟩ := hs
    exact False.elim q
end L2.Internal

namespace L2.Internal
open PySem PySem.Spec PyProof.Rows
section
variable {X : Cx} {x : Str} {p pos : Pos} {e : Expr} {es : List Expr} {t : TA} {id T : String} {r : List V → Hp → VK → Prop}

noncomputable def tCB (r : List V → Hp → VK → Prop) (t : TA) : TE := fun σ H Q => t σ H fun vs H1 => r vs H1 Q
theorem pe_callB (hc : CallR X (.builtin id) r) (hg : Gl X x) (hm : X.mg x = none) (hv : bootBuiltins x = some (.builtin id)) (ha : PA X (e :: es) t) (hn : autoParam (x ≠ "__name__") L2.Internal.auD._auto_1) (hdb : autoParam ((x == ("__debug__" : Str)) = false) L2.Internal.auD._auto_1)
    (he : autoParam (starEach (e :: es) X.env = (false, eval e X.env) :: starEach es X.env) L2.Internal.auR._auto_1) (hpl : autoParam ((backTo pos (starEach es X.env)).any (·.1) = false) L2.Internal.auR._auto_1) : PE X (.Call (.Name x p) (e :: es) [] pos) (tCB r t) := by
  intro pins s σ H Q I h
  refine wpAny_Call_Name_kw (ld_blt I hg hm hv ?_ hn hdb)
  exact PyProof.Rows.callWith_builtin1 (thn (ha pos pins s σ H _ I h) fun us s1 ⟨vs, H1, I1, r1, q1⟩ => hc pins s1 σ H1 vs us Q I1 r1 q1) he hpl
theorem pe_callTy (hc : CallR X (.type T) r) (hg : Gl X x) (hm : X.mg x = none) (hv : bootBuiltins x = some (.type T)) (ha : PA X (e :: es) t) (hn : autoParam (x ≠ "__name__") L2.Internal.auD._auto_1) (hdb : autoParam ((x == ("__debug__" : Str)) = false) L2.Internal.auD._auto_1)
    (he : autoParam (starEach (e :: es) X.env = (false, eval e X.env) :: starEach es X.env) L2.Internal.auR._auto_1) (hpl : autoParam ((backTo pos (starEach es X.env)).any (·.1) = false) L2.Internal.auR._auto_1) : PE X (.Call (.Name x p) (e :: es) [] pos) (tCB r t) := by
  intro pins s σ H Q I h
  refine wpAny_Call_Name_kw (ld_blt I hg hm hv ?_ hn hdb)
  exact PyProof.Rows.callWith_type1 (thn (ha pos pins s σ H _ I h) fun us s1 ⟨vs, H1, I1, r1, q1⟩ => hc pins s1 σ H1 vs us Q I1 r1 q1) he hpl
end
end L2.Internal

namespace L2.Internal
open PySem PySem.Spec PyProof.Rows

section
variable {κ : Type} [DecidableEq κ]
noncomputable def valV (kvs : List (κ × V)) (k : κ) : Option V := (kvs.find? fun kv => decide (kv.1 = k)).map (·.2)
noncomputable def putK (kvs : List (κ × V)) (k : κ) (v : V) : List (κ × V) :=
  if (kvs.any fun kv => decide (kv.1 = k)) = true then kvs.map (fun kv => if kv.1 = k then (kv.1, v) else kv) else kvs ++ [(k, v)]
noncomputable def dropK (kvs : List (κ × V)) (k : κ) : List (κ × V) := kvs.filter fun kv => decide (kv.1 ≠ k)

theorem valV_pos {p : κ × V} {r : List (κ × V)} {k : κ} (e : p.1 = k) : valV (p :: r) k = some p.2 := by simp [valV, List.find?_cons, e]
theorem valV_neg {p : κ × V} {r : List (κ × V)} {k : κ} (e : ¬ p.1 = k) : valV (p :: r) k = valV r k := by simp [valV, List.find?_cons, e]
theorem valV_any (k : κ) : ∀ kvs : List (κ × V), (kvs.any fun kv => decide (kv.1 = k)) = (valV kvs k).isSome
  | [] => rfl
  | p :: r => by
    rw [List.any_cons]
    by_cases e : p.1 = k
    · simp only [valV_pos e, decide_eq_true e, Bool.true_or, Option.isSome_some]
    · rw [valV_neg e, decide_eq_false e, Bool.false_or]; exact valV_any k r
theorem valV_map (k j : κ) (y : V) : ∀ kvs : List (κ × V), valV (kvs.map fun kv => if kv.1 = k then (kv.1, y) else kv) j = (valV kvs j).map fun x => if j = k then y else x
  | [] => rfl
  | p :: r => by
    have ih := valV_map k j y r
    rw [List.map_cons]
    by_cases h : p.1 = k
    · rw [if_pos h]
      by_cases e : p.1 = j
      · rw [valV_pos (p := (p.1, y)) e, valV_pos e, Option.map_some, if_pos (e.symm.trans h)]
      · rw [valV_neg (p := (p.1, y)) e, valV_neg e, ih]
    · rw [if_neg h]
      by_cases e : p.1 = j
      · rw [valV_pos (p := p) e, valV_pos e, Option.map_some, if_neg (fun z => h (e.trans z))]
      · rw [valV_neg (p := p) e, valV_neg e, ih]
theorem valV_snoc (k j : κ) (y : V) : ∀ kvs : List (κ × V), valV kvs k = none → valV (kvs ++ [(k, y)]) j = if j = k then some y else valV kvs j
  | [], _ => by
    by_cases e : k = j
    · rw [if_pos e.symm]; exact valV_pos (p := (k, y)) e
    · rw [if_neg (fun z => e z.symm)]; exact valV_neg (p := (k, y)) e
  | p :: r, hn => by
    rw [List.cons_append]
    have hk : ¬ p.1 = k := fun z => by rw [valV_pos z] at hn; cases hn
    rw [valV_neg hk] at hn
    have ih := valV_snoc k j y r hn
    by_cases e : p.1 = j
    · rw [valV_pos e, valV_pos e, if_neg (fun z => hk (e.trans z))]
    · rw [valV_neg e, valV_neg e, ih]
theorem valV_put (kvs : List (κ × V)) (k j : κ) (y : V) : valV (putK kvs k y) j = if j = k then some y else valV kvs j := by
  unfold putK
  by_cases a : (kvs.any fun kv => decide (kv.1 = k)) = true
  · rw [if_pos a, valV_map]
    rw [valV_any] at a
    by_cases e : j = k
    · obtain ⟨x, hx⟩ := Option.isSome_iff_exists.mp a
      rw [if_pos e, e, hx, Option.map_some, if_pos rfl]
    · rw [if_neg e]
      cases valV kvs j with
      | none => rfl
      | some x => rw [Option.map_some, if_neg e]
  · rw [if_neg a]
    refine valV_snoc k j y kvs ?_
    rw [valV_any] at a
    cases q : valV kvs k with
    | none => rfl
    | some x => rw [q] at a; exact (a rfl).elim
theorem length_putK (kvs : List (κ × V)) (k : κ) (v : V) : (putK kvs k v).length ≤ kvs.length + 1 := by
  unfold putK
  split
  · rw [List.length_map]; omega
  · rw [List.length_append, List.length_cons, List.length_nil]; omega
theorem RelO.isSome_eq {o : Option V} {u : Option Value} (r : RelO o u) : o.isSome = u.isSome := by
  cases o with
  | none => cases u with
    | none => rfl
    | some _ => exact (show False from r).elim
  | some _ => cases u with
    | none => exact (show False from r).elim
    | some _ => rfl
theorem RelO.getD {o : Option V} {u : Option Value} {d : V} {d' : Value} (r : RelO o u) (rd : RelV d d') : RelV (o.getD d) (u.getD d') := by
  cases o with
  | none => cases u with
    | none => exact rd
    | some _ => exact (show False from r).elim
  | some _ => cases u with
    | none => exact (show False from r).elim
    | some _ => exact r

theorem KV.val {kvs : List (κ × V)} {vs : List (κ × Value)} (r : KV kvs vs) (k : κ) : RelO (valV kvs k) (valueAt vs k) := by
  unfold KV at r
  induction r with
  | nil => exact True.intro
  | @cons p q ps qs h t ih =>
    obtain ⟨h1, h2⟩ := h
    by_cases e : p.1 = k
    · have e' : q.1 = k := h1.symm.trans e
      have b : valueAt (q :: qs) k = some q.2 := by simp [valueAt, List.find?_cons, e']
      rw [valV_pos e, b]; exact h2
    · have e' : ¬ q.1 = k := fun z => e (h1.trans z)
      have b : valueAt (q :: qs) k = valueAt qs k := by simp [valueAt, List.find?_cons, e']
      rw [valV_neg e, b]; exact ih
theorem KV.any {kvs : List (κ × V)} {vs : List (κ × Value)} (r : KV kvs vs) (k : κ) : (kvs.any fun kv => decide (kv.1 = k)) = vs.any fun kv => decide (kv.1 = k) := by
  unfold KV at r
  induction r with
  | nil => rfl
  | cons h t ih => rw [List.any_cons, List.any_cons, ih, h.1]
theorem KV.repl {kvs : List (κ × V)} {vs : List (κ × Value)} (r : KV kvs vs) (k : κ) {y : V} {u : Value} (ry : RelV y u) :
    KV (kvs.map fun kv => if kv.1 = k then (kv.1, y) else kv) (vs.map fun kv => if kv.1 = k then (kv.1, u) else kv) := by
  unfold KV at r ⊢
  induction r with
  | nil => exact .nil
  | @cons p q ps qs h t ih =>
    rw [List.map_cons, List.map_cons]
    refine .cons ?_ ih
    obtain ⟨h1, h2⟩ := h
    by_cases e : p.1 = k
    · rw [if_pos e, if_pos (h1.symm.trans e)]; exact ⟨h1, ry⟩
    · rw [if_neg e, if_neg (fun z => e (h1.trans z))]; exact ⟨h1, h2⟩
theorem KV.put {kvs : List (κ × V)} {vs : List (κ × Value)} (r : KV kvs vs) (k : κ) {y : V} {u : Value} (ry : RelV y u) : KV (putK kvs k y) (stored vs k u) := by
  unfold putK stored
  rw [r.any k]
  by_cases e : (vs.any fun kv => decide (kv.1 = k)) = true
  · rw [if_pos e, if_pos e]; exact r.repl k ry
  · rw [if_neg e, if_neg e]; exact Paired.snoc r ⟨rfl, ry⟩
theorem KV.length {kvs : List (κ × V)} {vs : List (κ × Value)} (r : KV kvs vs) : kvs.length = vs.length := Paired.length r
end


theorem kV_is {P : Program} {w : World} {k : Key} {u : Value} (r : RelV (kV k) u) : (mixKind P w).is k u = true := by
  cases k with
  | inl i => obtain ⟨t, e⟩ := (show ∃ t, u = Value.int i t from r); subst e; exact mixKind_int P w i t
  | inr x => obtain ⟨t, e⟩ := (show ∃ t, u = Value.str x t from r); subst e; exact mixKind_str P w x t
theorem items_are {P : Program} {w : World} : ∀ {ks : List Key} {us : List Value}, Vals (ks.map kV) us → ItemsAre (mixKind P w) ks us
  | [], _, r => by rw [List.map_nil] at r; cases r; exact .nil
  | k :: ks, _, r => by
    rw [List.map_cons] at r
    cases r with
    | cons h t => exact .cons (kV_is h) (items_are t)

noncomputable abbrev KT (H : Hp) : List (List Key × V) → List (List Key × Addr × Value) → Prop := Paired fun p q => p.1 = q.1 ∧ H q.2.1 = some (.tup (p.1.map kV)) ∧ RelV p.2 q.2.2
theorem KT.val {H : Hp} {kvs : List (List Key × V)} {xs : List (List Key × Addr × Value)} (r : KT H kvs xs) (k : List Key) : RelO (valV kvs k) ((atKey xs k).map (·.2)) := by
  induction r with
  | nil => exact True.intro
  | @cons p q ps qs h t ih =>
    obtain ⟨h1, _, h2⟩ := h
    by_cases e : p.1 = k
    · have e' : q.1 = k := h1.symm.trans e
      have b : atKey (q :: qs) k = some q.2 := by simp [atKey, List.find?_cons, e']
      rw [valV_pos e, b]; exact h2
    · have e' : ¬ q.1 = k := fun z => e (h1.trans z)
      have b : atKey (q :: qs) k = atKey qs k := by simp [atKey, List.find?_cons, e']
      rw [valV_neg e, b]; exact ih
theorem KT.repl {H : Hp} {kvs : List (List Key × V)} {xs : List (List Key × Addr × Value)} (r : KT H kvs xs) (k : List Key) {y : V} {u : Value} (ry : RelV y u) :
    KT H (kvs.map fun kv => if kv.1 = k then (kv.1, y) else kv) (xs.map (putAt k u)) := by
  induction r with
  | nil => exact .nil
  | @cons p q ps qs h t ih =>
    rw [List.map_cons, List.map_cons]
    refine .cons ?_ ih
    obtain ⟨h1, h2, h3⟩ := h
    unfold putAt
    by_cases e : p.1 = k
    · rw [if_pos e, if_pos (h1.symm.trans e)]; exact ⟨h1, h2, ry⟩
    · rw [if_neg e, if_neg (fun z => e (h1.trans z))]; exact ⟨h1, h2, h3⟩
theorem KT.put {H : Hp} {kvs : List (List Key × V)} {xs : List (List Key × Addr × Value)} (r : KT H kvs xs) (k : List Key) {b : Addr} {y : V} {u : Value} (hb : H b = some (.tup (k.map kV))) (ry : RelV y u) :
    KT H (putK kvs k y) (storedH xs k b u) := by
  have e : (kvs.any fun kv => decide (kv.1 = k)) = (atKey xs k).isSome := by
    rw [valV_any, (r.val k).isSome_eq, Option.isSome_map]
  unfold putK storedH
  rw [e]
  by_cases q : (atKey xs k).isSome = true
  · rw [if_pos q, if_pos q]; exact r.repl k ry
  · rw [if_neg q, if_neg q]; exact Paired.snoc r ⟨rfl, hb, ry⟩
theorem KT.keeps {H H' : Hp} {kvs : List (List Key × V)} {xs : List (List Key × Addr × Value)} (r : KT H kvs xs) (ht : ∀ b ys, H b = some (.tup ys) → H' b = some (.tup ys)) : KT H' kvs xs :=
  Paired.mapP r fun _ _ z => ⟨z.1, ht _ _ z.2.1, z.2.2⟩

section
variable {P : Program} {w : World} {H : Hp} {h : Heap} {a : Addr}
theorem rd_of {u : HO} (ok : HOk P w H h) (e : Rd H a u) : ObjOk P w H h a u := e.ok ok
theorem dk_rd {kvs : List (Key × V)} (ok : HOk P w H h) (e : Rd H a (.dK kvs)) : kvs.length ≤ sizeLine ∧ (a == sysModules) = false ∧ ∃ vs, KV kvs vs ∧ h.DictOf (mixKind P w) a vs :=
  show ObjOk P w H h a (.dK kvs) from rd_of ok e
theorem dk_of {kvs : List (Key × V)} (ok : HOk P w H h) (e : H a = some (.dK kvs)) : kvs.length ≤ sizeLine ∧ (a == sysModules) = false ∧ ∃ vs, KV kvs vs ∧ h.DictOf (mixKind P w) a vs := dk_rd ok (.inl e)
theorem key_of {ks : List Key} (ok : HOk P w H h) (e : H a = some (.tup (ks.map kV))) : (tupleKind (mixKind P w)).is h ks a := by
  obtain ⟨_, its, r, o, h1, h2, n, h3, _⟩ := (show ObjOk P w H h a (.tup (ks.map kV)) from ok a _ e)
  exact ⟨o, its.toArray, n, h1, h2, h3, by simpa using items_are r⟩
theorem dt_rd {kvs : List (List Key × V)} (ok : HOk P w H h) (e : Rd H a (.dT kvs)) : kvs.length ≤ sizeLine ∧ (a == sysModules) = false ∧
    ∃ xs, KT H kvs xs ∧ h.DictOfH (tupleKind (mixKind P w)) a xs := by
  obtain ⟨z, y, xs, r, o, es, ep, h1, h2, h3, h4, h5⟩ := (show ObjOk P w H h a (.dT kvs) from rd_of ok e)
  refine ⟨z, y, xs, r, o, es, ep, h1, h2, h3, h4, fun x hx => ?_, h5⟩
  have all : ∀ {l : List (List Key × V)} {m : List (List Key × Addr × Value)}, KT H l m → ∀ x ∈ m, (tupleKind (mixKind P w)).is h x.1 x.2.1 := by
    intro l m q
    induction q with
    | nil => intro x hx; exact nomatch hx
    | @cons p q ps qs hq t ih =>
      intro x hx
      rcases List.mem_cons.mp hx with e | hx
      · subst e
        exact key_of ok (by rw [← hq.1]; exact hq.2.1)
      · exact ih x hx
  exact all r x hx
theorem dt_of {kvs : List (List Key × V)} (ok : HOk P w H h) (e : H a = some (.dT kvs)) : kvs.length ≤ sizeLine ∧ (a == sysModules) = false ∧
    ∃ xs, KT H kvs xs ∧ h.DictOfH (tupleKind (mixKind P w)) a xs := dt_rd ok (.inl e)
end

noncomputable def DGet (H : Hp) (a : Addr) (y : V) (r : Option V) : Prop :=
  (∃ kvs k, Rd H a (.dK kvs) ∧ y = kV k ∧ r = valV kvs k) ∨ ∃ kvs k b, Rd H a (.dT kvs) ∧ y = .ref b ∧ H b = some (.tup (k.map kV)) ∧ r = valV kvs k
noncomputable def DPut (H : Hp) (a : Addr) (y v : V) (H' : Hp) : Prop :=
  (∃ kvs k, H a = some (.dK kvs) ∧ y = kV k ∧ kvs.length < sizeLine ∧ H' = upd H a (.dK (putK kvs k v))) ∨
  ∃ kvs k b, H a = some (.dT kvs) ∧ y = .ref b ∧ H b = some (.tup (k.map kV)) ∧ kvs.length < sizeLine ∧ H' = upd H a (.dT (putK kvs k v))
theorem DGet.k {H : Hp} {a : Addr} {kvs : List (Key × V)} {k : Key} (e : H a = some (.dK kvs)) : DGet H a (kV k) (valV kvs k) := .inl ⟨kvs, k, .inl e, rfl, rfl⟩
theorem DGet.t {H : Hp} {a b : Addr} {kvs : List (List Key × V)} {k : List Key} (e : H a = some (.dT kvs)) (eb : H b = some (.tup (k.map kV))) : DGet H a (.ref b) (valV kvs k) := .inr ⟨kvs, k, b, .inl e, rfl, eb, rfl⟩
theorem DPut.k {H : Hp} {a : Addr} {kvs : List (Key × V)} {k : Key} {v : V} (e : H a = some (.dK kvs)) (hl : kvs.length < sizeLine) : DPut H a (kV k) v (upd H a (.dK (putK kvs k v))) := .inl ⟨kvs, k, e, rfl, hl, rfl⟩
theorem DPut.t {H : Hp} {a b : Addr} {kvs : List (List Key × V)} {k : List Key} {v : V} (e : H a = some (.dT kvs)) (eb : H b = some (.tup (k.map kV))) (hl : kvs.length < sizeLine) :
    DPut H a (.ref b) v (upd H a (.dT (putK kvs k v))) := .inr ⟨kvs, k, b, e, rfl, eb, hl, rfl⟩


section
variable {X : Cx} {pins : List (Addr × Obj)} {σ : St} {H : Hp} {s : Shared} {a : Addr} {y v : V} {u r : Value} {o : Option V} {A : Around} {E : Value → Shared → Prop}

theorem Inv.big (I : Inv X pins σ H s) : sysModules < s.heap.objs.size := by
  have h : mainGlobals < s.heap.objs.size := (I.mod.glob.keeps I.bk).lt
  exact Nat.lt_trans (by decide) h

theorem d_getItem {Q : Value → Shared → Prop} (hu : A.units + 1 < cLine) (I : Inv X pins σ H s) (g : DGet H a y (some v)) (ry : RelV y u) (h : ∀ w' s', Inv X pins σ H s' → RelV v w' → Q w' s') :
    wpAny (model X.prog X.w) A (getItem (.ref a) u) Q E s := by
  rcases g with ⟨kvs, k, e, ey, l⟩ | ⟨kvs, k, b, e, ey, eb, l⟩
  · subst ey
    obtain ⟨z, hd, vs, rel, dd⟩ := dk_rd I.hok e
    obtain ⟨w', hw, rw'⟩ := RelO.some_of (v := v) (o := valueAt vs k) (by rw [l]; exact rel.val k)
    exact wpAny_getItem_of (kV_is ry) dd.mapOf hw (h w' _ (I.tok _) rw')
  · subst ey
    cases (show u = Value.ref b from ry)
    obtain ⟨z, hd, xs, rel, dd⟩ := dt_rd I.hok e
    obtain ⟨w', hw, rw'⟩ := RelO.some_of (v := v) (o := (atKey xs k).map (·.2)) (by rw [l]; exact rel.val k)
    obtain ⟨p, hp, hp2⟩ := Option.map_eq_some_iff.mp hw
    refine wpAny_getItem_heap (tupleKind_room_in1 hu) (key_of I.hok eb) dd hp ?_
    rw [hp2]
    exact h w' _ (I.tok _) rw'
theorem d_in {Q : Value → Shared → Prop} (hu : A.units + 1 < cLine) (I : Inv X pins σ H s) (g : DGet H a y o) (ry : RelV y u) (h : ∀ s', Inv X pins σ H s' → Q (.bool o.isSome) s') :
    wpAny (model X.prog X.w) A (compareOp .In u (.ref a)) Q E s := by
  rcases g with ⟨kvs, k, e, ey, l⟩ | ⟨kvs, k, b, e, ey, eb, l⟩
  · subst ey
    obtain ⟨z, hd, vs, rel, dd⟩ := dk_rd I.hok e
    refine wpAny_in_of (kV_is ry) hd dd.mapOf ?_
    rw [← (rel.val k).isSome_eq, ← l]
    exact h _ (I.tok _)
  · subst ey
    cases (show u = Value.ref b from ry)
    obtain ⟨z, hd, xs, rel, dd⟩ := dt_rd I.hok e
    refine wpAny_in_heap (tupleKind_room_in1 hu) (key_of I.hok eb) hd dd ?_
    have q := (rel.val k).isSome_eq
    rw [Option.isSome_map] at q
    rw [← q, ← l]
    exact h _ (I.tok _)
theorem d_notIn {Q : Value → Shared → Prop} (hu : A.units + 1 < cLine) (I : Inv X pins σ H s) (g : DGet H a y o) (ry : RelV y u) (h : ∀ s', Inv X pins σ H s' → Q (.bool (!o.isSome)) s') :
    wpAny (model X.prog X.w) A (compareOp .NotIn u (.ref a)) Q E s := by
  rcases g with ⟨kvs, k, e, ey, l⟩ | ⟨kvs, k, b, e, ey, eb, l⟩
  · subst ey
    obtain ⟨z, hd, vs, rel, dd⟩ := dk_rd I.hok e
    refine wpAny_notIn_of (kV_is ry) hd dd.mapOf ?_
    rw [← (rel.val k).isSome_eq, ← l]
    exact h _ (I.tok _)
  · subst ey
    cases (show u = Value.ref b from ry)
    obtain ⟨z, hd, xs, rel, dd⟩ := dt_rd I.hok e
    refine wpAny_notIn_heap (tupleKind_room_in1 hu) (key_of I.hok eb) hd dd ?_
    have q := (rel.val k).isSome_eq
    rw [Option.isSome_map] at q
    rw [← q, ← l]
    exact h _ (I.tok _)
theorem d_write {h' : Heap} {t' : Nat} {ob : HO} (I : Inv X pins σ H s) (mu : Mut (H a)) (hs : Heap.SameBut a s.heap h') (he : ∃ q, h'.get? a = some q) (new : ObjOk X.prog X.w (upd H a ob) h' a ob) :
    Inv X pins σ (upd H a ob) { s with heap := h', toks := t' } :=
  I.write (x := a) (e := a) mu (.inl rfl) (fun b q hb z => (hs.2 b hb).trans z) he new
theorem dk_new {P : Program} {w : World} {H' : Hp} {h' : Heap} {kvs : List (Key × V)} {vs : List (Key × Value)} (z : kvs.length ≤ sizeLine) (hd : (a == sysModules) = false) (rel : KV kvs vs) (dd : h'.DictOf (mixKind P w) a vs) :
    ObjOk P w H' h' a (.dK kvs) := ⟨z, hd, vs, rel, dd⟩
theorem d_setItem {H' : Hp} {Q : Unit → Shared → Prop} (hu : A.units + 1 < cLine) (I : Inv X pins σ H s) (g : DPut H a y v H') (ry : RelV y u) (rv : RelV v r) (h : ∀ s', Inv X pins σ H' s' → Q () s') :
    wpAny (model X.prog X.w) A (setItem (.ref a) u r) Q E s := by
  rcases g with ⟨kvs, k, e, ey, l, eH⟩ | ⟨kvs, k, b, e, ey, eb, l, eH⟩
  · subst ey eH
    obtain ⟨z, hd, vs, rel, dd⟩ := dk_of I.hok e
    have hz : vs.length ≤ sizeLine := by rw [← rel.length]; exact z
    have hl : (putK kvs k v).length ≤ sizeLine := by have := length_putK kvs k v; omega
    refine wpAny_setItem_pairs (hsz := hz) (kV_is ry) dd fun h' dd' hs => h _ ?_
    have he : ∃ q, h'.get? a = some q := let ⟨q, _, _, hq, _⟩ := dd'; ⟨q, hq⟩
    exact d_write I (by rw [e]; exact True.intro) hs he (dk_new hl hd (rel.put k rv) dd')
  · subst ey eH
    cases (show u = Value.ref b from ry)
    obtain ⟨z, hd, xs, rel, dd⟩ := dt_of I.hok e
    have hz : xs.length ≤ sizeLine := by rw [← Paired.length rel]; exact z
    have hl : (putK kvs k v).length ≤ sizeLine := by have := length_putK kvs k v; omega
    refine wpAny_setItem_heap (hsz := hz) (tupleKind_room_in1 hu) (key_of I.hok eb) dd fun h' dd' hs => h _ ?_
    obtain ⟨q, es, ep, hq, h2, h3, h4, _, h5⟩ := dd'
    refine d_write I (by rw [e]; exact True.intro) hs ⟨q, hq⟩ ⟨hl, hd, _, (rel.put k eb rv).keeps fun c ys ec => ?_, q, es, ep, hq, h2, h3, h4, h5⟩
    rw [upd_ne (ne_of ec e (fun z => nomatch z))]
    exact ec
end

section
variable {X : Cx} {pins : List (Addr × Obj)} {σ : St} {H : Hp} {s : Shared} {a : Addr} {kvs : List (Key × V)} {k : Key} {u : Value} {A : Around} {E : Value → Shared → Prop}
end


noncomputable def NoSl (i : Expr) : Prop := ∀ ov iv, subscripted i false ov iv = operate [ov, iv] (getItem ov iv)
theorem subD_of {prog : Program} {w : World} {A : Around} {E : Value → Shared → Prop} {s : Shared} {env : Env} {value slice : Expr} {pos : Pos} {T id : String} {Q : Value → Shared → Prop}
    (hl : typeLookup (.type T) "__getitem__" = pure (some (.builtin id))) (hs : NoSl slice)
    (h : wpAny (model prog w) A (eval value env) (fun o s₁ => wpAny (model prog w) A (eval slice env) (fun i s₂ => s₂.TypeIs o T ∧ wpAny (model prog w) A (getItem o i) Q E s₂) E s₁) E s) :
    wpAny (model prog w) A (eval (.Subscript value slice pos) env) Q E s := by
  refine Subscript_ (wpAny_mono h (fun o s₁ h₁ => wpAny_mono h₁ (fun i s₂ h₂ => ?_) fun _ _ x => x) fun _ _ x => x)
  obtain ⟨hT, h₂⟩ := h₂
  unfold subscriptTail
  refine wpAny_bind ?_
  rw [getitemInPython_of_ne hT.not_modules]
  refine wpAny_bind (wpAny_specialOf hT hl ?_)
  have fin : wpAny (model prog w) A (subscripted slice false o i) (fun r s₃ => wpAny (model prog w) A (letTemporaryGo value o r >>= fun _ => pure r) Q E s₃) E s₂ := by
    rw [hs o i]
    exact wpAny_operating (wpAny_mono h₂ (fun r s₃ h₃ => wpAny_bind (wpAny_letTemporaryGo (wpAny_pure h₃))) fun _ _ x => x)
  first
    | exact wpAny_pure (wpAny_bind fin)
    | exact wpAny_bind (wpAny_pure (wpAny_bind fin))
    | exact wpAny_bind fin

theorem dict_typeIs {X : Cx} {pins : List (Addr × Obj)} {σ : St} {H : Hp} {s : Shared} {a : Addr} {y : V} {o : Option V} (I : Inv X pins σ H s) (g : DGet H a y o) : s.TypeIs (.ref a) "dict" := by
  rcases g with ⟨kvs, k, e, _, _⟩ | ⟨kvs, k, b, e, _, _, _⟩
  · obtain ⟨_, _, vs, _, dd⟩ := dk_rd I.hok e
    exact dd.typeIs
  · obtain ⟨_, _, xs, _, dd⟩ := dt_rd I.hok e
    exact dd.typeIs
noncomputable def tDGet (td ty : TE) : TE := fun σ H Q => td σ H fun x H1 => ty σ H1 fun y H2 => ∃ a v, x = .ref a ∧ DGet H2 a y (some v) ∧ Q v H2
noncomputable def tDIn (ty td : TE) : TE := fun σ H Q => ty σ H fun y H1 => td σ H1 fun x H2 => ∃ a o, x = .ref a ∧ DGet H2 a y o ∧ Q (.bl o.isSome) H2
noncomputable def tDNotIn (ty td : TE) : TE := fun σ H Q => ty σ H fun y H1 => td σ H1 fun x H2 => ∃ a o, x = .ref a ∧ DGet H2 a y o ∧ Q (.bl (!o.isSome)) H2
noncomputable def sDPut (td ty tv : TE) : TS := fun D σ H => tv σ H fun v H1 => td σ H1 fun x H2 => ty σ H2 fun y H3 => ∃ a H4, x = .ref a ∧ DPut H3 a y v H4 ∧ D.nx σ H4
noncomputable def sDAug (td ty tv : TE) (rd : V → V → Hp → VK → Prop) : TS := fun D σ H => td σ H fun x H1 => ty σ H1 fun y H2 => ∃ a v, x = .ref a ∧ DGet H2 a y (some v) ∧
  tv σ H2 fun y2 H3 => rd v y2 H3 fun z H4 => ∃ H5, DPut H4 a y z H5 ∧ D.nx σ H5
noncomputable def sDDel (td ty : TE) : TS := fun D σ H => td σ H fun x H1 => ty σ H1 fun y H2 => ∃ a kvs k, x = .ref a ∧ H2 a = some (.dK kvs) ∧ y = kV k ∧ (valV kvs k).isSome = true ∧ D.nx σ (upd H2 a (.dK (dropK kvs k)))

section
variable {X : Cx} {o i e value : Expr} {pos pos' tpos : Pos} {td ty tv : TE}
theorem pe_dget (hu : X.A.units + 1 < cLine) (ho : PE X o td) (hi : PE X i ty) (hs : NoSl i) : PE X (.Subscript o i pos) (tDGet td ty) := by
  intro pins s σ H Q I h
  refine subD_of PySem.F.slot_dict_getitem.lookup hs (thn (ho pins s σ H _ I h) fun u s1 ⟨x, H1, I1, rx, q1⟩ => thn (hi pins s1 σ H1 _ I1 q1) fun iv s2 ⟨y, H2, I2, ry, a, v, ex, g, q2⟩ => ?_)
  subst ex
  obtain rfl : u = Value.ref a := rx
  exact ⟨dict_typeIs I2 g, d_getItem hu I2 g ry fun w' s3 I3 rw' => ⟨v, H2, I3, rw', q2⟩⟩
theorem pc_din (hu : X.A.units + 1 < cLine) (hi : PE X i ty) (ho : PE X o td) : PC X .In i o (tDIn ty td) := by
  intro pins s σ H Q I h
  refine thn (hi pins s σ H _ I h) fun iv s1 ⟨y, H1, I1, ry, q1⟩ => thn (ho pins s1 σ H1 _ I1 q1) fun u s2 ⟨x, H2, I2, rx, a, ov, ex, g, q2⟩ => ?_
  subst ex
  obtain rfl : u = Value.ref a := rx
  exact d_in hu I2 g ry fun s3 I3 => ⟨.bl ov.isSome, H2, I3, rfl, q2⟩
theorem pc_dnotin (hu : X.A.units + 1 < cLine) (hi : PE X i ty) (ho : PE X o td) : PC X .NotIn i o (tDNotIn ty td) := by
  intro pins s σ H Q I h
  refine thn (hi pins s σ H _ I h) fun iv s1 ⟨y, H1, I1, ry, q1⟩ => thn (ho pins s1 σ H1 _ I1 q1) fun u s2 ⟨x, H2, I2, rx, a, ov, ex, g, q2⟩ => ?_
  subst ex
  obtain rfl : u = Value.ref a := rx
  exact d_notIn hu I2 g ry fun s3 I3 => ⟨.bl (!ov.isSome), H2, I3, rfl, q2⟩
theorem ps_dput (hu : X.A.units + 1 < cLine) (ho : PE X o td) (hi : PE X i ty) (hv : PE X value tv) (hs : swapsWith value (some (.Subscript o i pos')) pos.line X.env = pure false) :
    PS X (.Assign [.Subscript o i pos'] value pos) (sDPut td ty tv) := by
  intro pins s σ H D I h
  refine wpAny_Assign_Subscript (thn (hv pins s σ H _ I h) fun r s1 ⟨v, H1, I1, rv, q1⟩ => thn (ho pins s1 σ H1 _ I1 q1) fun u s2 ⟨x, H2, I2, rx, q2⟩ => thn (hi pins s2 σ H2 _ I2 q2) fun iv s3 ⟨y, H3, I3, ry, a, H4, ex, g, q3⟩ => ?_) hs
  subst ex
  obtain rfl : u = Value.ref a := rx
  exact d_setItem hu I3 g ry rv fun s4 I4 => ⟨σ, H4, I4, q3⟩
end


theorem dk_empty {P : Program} {w : World} {H : Hp} (h : Heap) (hb : sysModules < h.objs.size) : ObjOk P w H (h.push { cls := .type "dict", data := .dict #[] }) h.objs.size (.dK []) :=
  ⟨Nat.zero_le _, beq_eq_false_iff_ne.mpr (Ne.symm (Nat.ne_of_lt hb)), [], .nil, Heap.DictOf.new h⟩
theorem dt_empty {P : Program} {w : World} {H : Hp} (h : Heap) (hb : sysModules < h.objs.size) : ObjOk P w H (h.push { cls := .type "dict", data := .dict #[] }) h.objs.size (.dT []) :=
  ⟨Nat.zero_le _, beq_eq_false_iff_ne.mpr (Ne.symm (Nat.ne_of_lt hb)), [], .nil, _, #[], 0, Heap.get?_push_size _ rfl, ⟨rfl, rfl, rfl⟩, rfl, rfl, List.nodup_nil⟩
noncomputable def tDNewK : TE := fun _ H Q => ∀ p, H p = none → Q (.ref p) (upd H p (.dK []))
noncomputable def tDNewT : TE := fun _ H Q => ∀ p, H p = none → Q (.ref p) (upd H p (.dT []))
section
variable {X : Cx} {pos : Pos}
theorem pe_dnewK : PE X (.Dict [] [] pos) tDNewK := fun pins s σ H Q I h =>
  wpAny_Dict_empty ⟨.ref s.heap.objs.size, _, I.laid (a := s.heap.objs.size) (o := .dK []) (t' := s.toks) (fun _ _ q => Heap.get?_push_of_some _ q) (Nat.le_refl _) (dk_empty s.heap I.big), rfl, h _ (I.hok.fresh (Nat.le_refl _))⟩
theorem pe_dnewT : PE X (.Dict [] [] pos) tDNewT := fun pins s σ H Q I h =>
  wpAny_Dict_empty ⟨.ref s.heap.objs.size, _, I.laid (a := s.heap.objs.size) (o := .dT []) (t' := s.toks) (fun _ _ q => Heap.get?_push_of_some _ q) (Nat.le_refl _) (dt_empty s.heap I.big), rfl, h _ (I.hok.fresh (Nat.le_refl _))⟩
end

noncomputable def tPairs : List (TE × TE) → St → Hp → (List (V × V) → Hp → Prop) → Prop
  | [], _, H, Q => Q [] H
  | (tk, tv) :: r, σ, H, Q => tk σ H fun x H1 => tv σ H1 fun y H2 => tPairs r σ H2 fun ps H3 => Q ((x, y) :: ps) H3
noncomputable abbrev VV : List (V × V) → List (Value × Value) → Prop := Paired fun p q => RelV p.1 q.1 ∧ RelV p.2 q.2
noncomputable def PPs (X : Cx) (pos : Pos) (keys : List (Option Expr)) (values : List Expr) (trs : List (TE × TE)) : Prop :=
  ∀ (pins : List (Addr × Obj)) (s : Shared) (σ : St) (H : Hp) (Q : List (V × V) → Hp → Prop), Inv X pins σ H s → tPairs trs σ H Q →
    wpAny (model X.prog X.w) X.A (evalPairs (pairTrees keys values X.env pos)) (fun vs s' => ∃ ps H', Inv X pins σ H' s' ∧ VV ps vs ∧ Q ps H') X.xe s
noncomputable def mergeK (kvs more : List (Key × V)) : List (Key × V) := more.foldl (fun acc kv => putK acc kv.1 kv.2) kvs
noncomputable def tDisp (trs : List (TE × TE)) : TE := fun σ H Q => ∀ p, H p = none → tPairs trs σ (upd H p (.dK [])) fun ps H2 => H2 p = some (.dK []) ∧ ∃ kvs : List (Key × V), ps = kvs.map (fun kv => (kV kv.1, kv.2)) ∧ kvs.length ≤ 15 ∧ Q (.ref p) (upd H2 p (.dK (mergeK [] kvs)))
structure M1 (X : Cx) (o : Expr) (m : Str) (apos : Pos) (e : Expr) (cpos : Pos) : Prop where
  base : attributeBase o m X.env (eval o X.env) = eval o X.env
  few : ((backTo cpos (starEach [e] X.env)).all (fun x => !x.1) && (backToKw cpos (keywordEach [] X.env)).all (fun x => x.1.isSome)
    && decide (([e] : List Expr).length + ([] : List Keyword).length + (if ([] : List Keyword).isEmpty then 0 else 1) < 30)) = true
  line : (apos.endLine == cpos.line) = true
  trees : backTo cpos (starEach [e] X.env) = [(false, eval e X.env)]
structure M2 (X : Cx) (o : Expr) (m : Str) (apos : Pos) (e f : Expr) (cpos : Pos) : Prop where
  base : attributeBase o m X.env (eval o X.env) = eval o X.env
  few : ((backTo cpos (starEach [e, f] X.env)).all (fun x => !x.1) && (backToKw cpos (keywordEach [] X.env)).all (fun x => x.1.isSome)
    && decide (([e, f] : List Expr).length + ([] : List Keyword).length + (if ([] : List Keyword).isEmpty then 0 else 1) < 30)) = true
  line : (apos.endLine == cpos.line) = true
  trees : backTo cpos (starEach [e, f] X.env) = [(false, eval e X.env), (false, eval f X.env)]

noncomputable def IsD (H : Hp) (a : Addr) : Prop := (∃ kvs, Rd H a (.dK kvs)) ∨ ∃ kvs, Rd H a (.dT kvs)
theorem isD_at {X : Cx} {pins : List (Addr × Obj)} {σ : St} {H : Hp} {s : Shared} {a : Addr} (I : Inv X pins σ H s) (d : IsD H a) :
    s.TypeIs (.ref a) "dict" ∧ (∀ b, Value.ref a = .ref b → ∃ ob, s.heap.get? b = some ob ∧ ob.dict = none) ∧ (a == sysModules) = false := by
  rcases d with ⟨kvs, e⟩ | ⟨kvs, e⟩
  · obtain ⟨_, hd, vs, _, dd⟩ := dk_rd I.hok e
    refine ⟨dd.typeIs, fun b q => ?_, hd⟩
    cases q
    obtain ⟨ob, _, _, h1, h2, _⟩ := dd
    exact ⟨ob, h1, h2.2.1⟩
  · obtain ⟨_, hd, xs, _, dd⟩ := dt_rd I.hok e
    refine ⟨dd.typeIs, fun b q => ?_, hd⟩
    cases q
    obtain ⟨ob, _, _, h1, h2, _⟩ := dd
    exact ⟨ob, h1, h2.2.1⟩

section
variable {X : Cx} {pins : List (Addr × Obj)} {σ : St} {H : Hp} {s : Shared} {a : Addr} {y d : V} {u r : Value} {o : Option V} {A : Around} {E : Value → Shared → Prop}
theorem d_get2 {Q : Value → Shared → Prop} (hu : A.units + 1 < cLine) (I : Inv X pins σ H s) (g : DGet H a y o) (ry : RelV y u) (rd : RelV d r) (h : ∀ w' s', Inv X pins σ H s' → RelV (o.getD d) w' → Q w' s') :
    wpAny (model X.prog X.w) A (call (.builtin "dict.get") [.ref a, u, r]) Q E s := by
  rcases g with ⟨kvs, k, e, ey, l⟩ | ⟨kvs, k, b, e, ey, eb, l⟩
  · subst ey
    obtain ⟨z, hd, vs, rel, dd⟩ := dk_rd I.hok e
    refine call_meetsIn PySem.F.slot_dict_get dd.typeIs PySem.F.entry_dict_get (PySem.F.args_dict_get_3 _ _ _) (meets_dict_get_default (mixKind X.prog X.w) a (kV_is ry) hd r) ⟨_, dd.mapOf, h _ _ (I.tok _) ?_⟩
    rw [l]
    exact (rel.val k).getD rd
  · subst ey
    cases (show u = Value.ref b from ry)
    obtain ⟨z, hd, xs, rel, dd⟩ := dt_rd I.hok e
    refine call_meetsIn PySem.F.slot_dict_get dd.typeIs PySem.F.entry_dict_get (PySem.F.args_dict_get_3 _ _ _) (meetsH_dict_get_default (tupleKind (mixKind X.prog X.w)) a b hd r) ⟨tupleKind_room_in1 hu, k, xs, key_of I.hok eb, dd, h _ _ (I.tok _) ?_⟩
    rw [l]
    exact (rel.val k).getD rd
end

noncomputable def tDGet1 (td ty : TE) : TE := fun σ H Q => td σ H fun x H1 => ∃ a, x = .ref a ∧ IsD H1 a ∧ ty σ H1 fun y H2 => ∃ o, DGet H2 a y o ∧ Q (o.getD .non) H2
noncomputable def tDGet2 (td ty tx : TE) : TE := fun σ H Q => td σ H fun x H1 => ∃ a, x = .ref a ∧ IsD H1 a ∧ ty σ H1 fun y H2 => tx σ H2 fun z H3 => ∃ o, DGet H3 a y o ∧ Q (o.getD z) H3
noncomputable def tDPop1 (td ty : TE) : TE := fun σ H Q => td σ H fun x H1 => ∃ a, x = .ref a ∧ IsD H1 a ∧ ty σ H1 fun y H2 => ∃ kvs k v, H2 a = some (.dK kvs) ∧ y = kV k ∧ valV kvs k = some v ∧ Q v (upd H2 a (.dK (dropK kvs k)))
noncomputable def tDPop2 (td ty tx : TE) : TE := fun σ H Q => td σ H fun x H1 => ∃ a, x = .ref a ∧ IsD H1 a ∧ ty σ H1 fun y H2 => tx σ H2 fun z H3 => ∃ kvs k, H3 a = some (.dK kvs) ∧ y = kV k ∧
  (∀ v, valV kvs k = some v → Q v (upd H3 a (.dK (dropK kvs k)))) ∧ (valV kvs k = none → Q z H3)
section
variable {X : Cx} {o e f : Expr} {apos cpos : Pos} {td ty tx : TE}
theorem pe_dget2 (hu : X.A.units + 1 < cLine) (ho : PE X o td) (he : PE X e ty) (hf : PE X f tx) (m : M2 X o "get" apos e f cpos) : PE X (.Call (.Attribute o "get" apos) [e, f] [] cpos) (tDGet2 td ty tx) := by
  intro pins s σ H Q I h
  refine wpAny_Call_method m.base m.few m.line PySem.F.plainAttrs_dict PySem.F.slot_dict_get PySem.F.type_dict_get (thn (ho pins s σ H _ I h) fun u s1 ⟨x, H1, I1, rx, a, ex, d, q1⟩ => ?_)
  subst ex
  obtain rfl : u = Value.ref a := rx
  obtain ⟨t1, t2, _⟩ := isD_at I1 d
  refine ⟨t1, t2, ?_⟩
  rw [m.trees]
  refine Calls.callWith_builtin rfl (Calls.evalArgs_plain (Calls.spliced_cons (thn (he pins s1 σ H1 _ I1 q1) fun iv s2 ⟨y, H2, I2, ry, q2⟩ =>
    Calls.spliced_cons (thn (hf pins s2 σ H2 _ I2 q2) fun fv s3 ⟨z, H3, I3, rz, ov, g, q3⟩ => Calls.spliced_nil ?_))))
  exact d_get2 hu I3 g ry rz fun w' s4 I4 rw' => ⟨_, H3, I4, rw', q3⟩
end

section
variable {X : Cx} {pins : List (Addr × Obj)} {σ : St} {H : Hp} {s : Shared} {a : Addr} {kvs : List (Key × V)} {A : Around} {E : Value → Shared → Prop}
end


section
variable {X : Cx} {pins : List (Addr × Obj)} {σ : St} {H : Hp} {s : Shared} {a : Addr} {y : V} {u : Value} {A : Around} {E : Value → Shared → Prop}
end
end L2.Internal

namespace HT.Internal
open PySem PyProof.Rows

noncomputable def lexLt : List Int → List Int → Bool
  | [], [] => false
  | [], _ :: _ => true
  | _ :: _, [] => false
  | x :: xs, y :: ys => if x = y then lexLt xs ys else decide (x < y)
theorem lexLt_cons (x y : Int) (xs ys : List Int) : lexLt (x :: xs) (y :: ys) = if x = y then lexLt xs ys else decide (x < y) := rfl
theorem lexLt_nil_nil : lexLt [] [] = false := rfl
theorem lexLt_nil_cons (y : Int) (ys : List Int) : lexLt [] (y :: ys) = true := rfl
theorem lexLt_cons_nil (x : Int) (xs : List Int) : lexLt (x :: xs) [] = false := rfl

theorem eqAt_int (A : Around) (s : Shared) (a : Int) (t : Tok) (c : Int) (u : Tok) : ∃ e, SeqAt.EqAt A s (.int a t) (.int c u) e ∧ (e = true ↔ a = c) :=
  ⟨(a == c), SeqAt.EqAt.int_int a t c u, by simp⟩
theorem rcLt_int (A : Around) (s : Shared) (a : Int) (t : Tok) (c : Int) (u : Tok) (prog : Program) (w : World) (E : Value → Shared → Prop) (Q : Value → Shared → Prop) (h : Q (.bool (decide (a < c))) s) :
    wpAny (model prog w) A (richCompare .Lt (.int a t) (.int c u)) Q E s :=
  (PyProof.Rows.lt_int h : wpAny (model prog w) A (compareOp .Lt (.int a t) (.int c u)) Q E s)

section
open PySem.SeqAt
open PySem.AutoSeq1 (wpAny_loadPart')
open PySem.MeetsSeq PySem.MeetsSeq2 PySem.MeetsSeq3

theorem tuple_lt_ints (l b : Addr) (items items2 : Array Value) (n n2 : Nat) (dd dd2 : Option Addr) (sl sl2 : Array (Option Value)) (ns ms : List Int) (hi : IntsAre items.toList ns) (hj : IntsAre items2.toList ms) :
    Meets (Builtin.«tuple.__lt__» ⟨[.ref l, .ref b], []⟩)
      (fun _ R s => s.heap.get? l = some { cls := .type "tuple", dict := dd, data := .seq items n, slots := sl } ∧ s.heap.get? b = some { cls := .type "tuple", dict := dd2, data := .seq items2 n2, slots := sl2 } ∧
        R (.ok (.ret (.bool (lexLt ns ms)))) s) :=
  .of_wp fun prog w A R s h => by
    obtain ⟨hp, g, d, tk, os⟩ := s; obtain ⟨hl, hb, h⟩ := h
    have f2 := AutoSeq1.sub_tuple_tuple
    have z1 : items.size = ns.length := by rw [← hi.length]; simp
    have z2 : items2.size = ms.length := by rw [← hj.length]; simp
    wp_walk using wpAny_loadPart' hl, wpAny_loadPart' hb, wpAny_forIn_list _ (fun rest b s' => b.1 = none ∧ s' = ⟨hp, g, d, tk, os⟩ ∧ ∃ (vs ws : List Value) (ns' ms' : List Int), rest = vs.zip ws ∧
      IntsAre vs ns' ∧ IntsAre ws ms' ∧ ns'.length + items2.size = ms'.length + items.size ∧ R (.ok (.ret (.bool (lexLt ns' ms')))) ⟨hp, g, d, tk, os⟩) _
    case turn =>
      rintro ⟨y, x⟩ rest b s' ⟨hb', rfl, vs, ws, ns', ms', hz, hvi, hwi, hlen, hR⟩
      cases hvi with
      | nil => rw [List.zip_nil_left] at hz; cases hz
      | cons a t hvi' =>
        cases hwi with
        | nil => rw [List.zip_nil_right] at hz; cases hz
        | cons c u hwi' =>
          rw [List.zip_cons_cons] at hz
          injection hz with hyx hrest
          injection hyx with hy hx
          subst hy hx
          rw [lexLt_cons] at hR
          simp only [List.length_cons] at hlen
          obtain ⟨e, he, hiff⟩ := eqAt_int A.in1 ⟨hp, g, d, tk, os⟩ a t c u
          refine wpAny_bind (he prog w _ _ ?_)
          cases e with
          | true =>
            rw [if_pos (hiff.mp rfl)] at hR
            wp_walk
            exact ⟨rfl, rfl, _, _, _, _, hrest, hvi', hwi', by omega, hR⟩
          | false =>
            rw [if_neg (fun q => absurd (hiff.mpr q) Bool.false_ne_true)] at hR
            have hri := rcLt_int A.in1 ⟨hp, g, d, tk, os⟩ a t c u prog w
            wp_walk using hri
            exact ⟨_, rfl, by simpa using hR⟩
    case fin =>
      rintro ⟨b1, b2⟩ s' ⟨hb', rfl, vs, ws, ns', ms', hz, hvi, hwi, hlen, hR⟩
      simp only at hb'
      subst hb'
      have hv : lexLt ns' ms' = decide (items.size < items2.size) := by
        cases hvi with
        | nil =>
          cases hwi with
          | nil =>
            simp only [List.length_nil] at hlen
            rw [lexLt_nil_nil]
            exact (decide_eq_false (by omega)).symm
          | cons c u hw =>
            simp only [List.length_nil, List.length_cons] at hlen
            rw [lexLt_nil_cons]
            exact (decide_eq_true (by omega)).symm
        | cons a t hv =>
          cases hwi with
          | nil =>
            simp only [List.length_nil, List.length_cons] at hlen
            rw [lexLt_cons_nil]
            exact (decide_eq_false (by omega)).symm
          | cons c u hw =>
            rw [List.zip_cons_cons] at hz
            cases hz
      rw [hv] at hR
      wp_walk
      exact ⟨_, rfl, by simpa [Builtin.Tuple.tupleCompareSizes] using hR⟩
    case h =>
      exact ⟨rfl, rfl, items.toList, items2.toList, ns, ms, rfl, hi, hj, by omega, h⟩
end

section
variable {prog : Program} {w : World} {A : Around} {E : Value → Shared → Prop} {s : Shared}

theorem lt_tupInts {l b : Addr} {items items2 : Array Value} {ns ms : List Int} {Q : Value → Shared → Prop} (hl : IsTup s.heap l items) (hb : IsTup s.heap b items2) (hi : IntsAre items.toList ns) (hj : IntsAre items2.toList ms)
    (hu : A.units < cLine) (h : Q (.bool (lexLt ns ms)) s) : wpAny (model prog w) A (compareOp .Lt (.ref l) (.ref b)) Q E s := by
  obtain ⟨⟨cls, dd, data, sl⟩, ho, hc, n, hd⟩ := id hl
  obtain ⟨⟨cls2, dd2, data2, sl2⟩, ho2, hc2, n2, hd2⟩ := id hb
  simp only at hc hd hc2 hd2
  subst hc hd hc2 hd2
  exact richCompare_meets_room (op := .Lt) ⟨_, ho, rfl⟩ ⟨_, ho2, rfl⟩ PySem.F.slot_tuple_lt PySem.F.entry_tuple_lt (PySem.F.args_tuple_lt_2 _ _) (tuple_lt_ints l b items items2 n n2 dd dd2 sl sl2 ns ms hi hj)
    ⟨ho, ho2, show Value.bool (lexLt ns ms) ≠ Value.notImplemented ∧ Q (.bool (lexLt ns ms)) s from ⟨(fun x => nomatch x), h⟩⟩ hu

theorem cat_tup {t b : Addr} {vs ws : List Value} {Q : Value → Shared → Prop} (ht : IsTup s.heap t vs.toArray) (hb : IsTup s.heap b ws.toArray) (hv : vs ≠ [])
    (h1 : ws = [] → Q (.ref t) s) (h2 : ws ≠ [] → Q (.ref s.heap.objs.size) { s with heap := s.heap.push { cls := .type "tuple", data := .seq (vs ++ ws).toArray } })
    (hsz : vs.length + ws.length ≤ sizeLine) : wpAny (model prog w) A (binaryOp .Add (.ref t) (.ref b)) Q E s := by
  obtain ⟨⟨cls, dd, data, sl⟩, ho, hc, n, hd⟩ := id ht
  obtain ⟨⟨cls2, dd2, data2, sl2⟩, ho2, hc2, n2, hd2⟩ := id hb
  simp only at hc hd hc2 hd2
  subst hc hd hc2 hd2
  have e : vs.toArray ++ ws.toArray = (vs ++ ws).toArray := by simp
  by_cases hw : ws = []
  · exact concat_meets ⟨_, ho, rfl⟩ ⟨_, ho2, rfl⟩ noFill_tuple_add seq_tuple_add PySem.F.slot_tuple_add PySem.F.entry_tuple_add (PySem.F.args_tuple_add_2 _ _)
      (tuple_addW1 t b vs.toArray ws.toArray n n2 dd dd2 sl sl2 (by simpa using hv) (by simp [hw])) ⟨ho, ho2, h1 hw⟩
  · refine concat_meets ⟨_, ho, rfl⟩ ⟨_, ho2, rfl⟩ noFill_tuple_add seq_tuple_add PySem.F.slot_tuple_add PySem.F.entry_tuple_add (PySem.F.args_tuple_add_2 _ _)
      (tuple_addW2 t b vs.toArray ws.toArray n n2 dd dd2 sl sl2 (by simpa using hv) (by simpa using hw) (by rw [List.size_toArray, List.size_toArray]; exact hsz)) ⟨ho, ho2, ?_⟩
    rw [e]
    exact h2 hw

noncomputable def sIx (n d : Nat) : Option Int → Nat
  | none => d
  | some v => if v < 0 then (v + (n : Int)).toNat else min v.toNat n
theorem sIx_le (n d : Nat) (hd : d ≤ n) (o : Option Int) : sIx n d o ≤ n := by
  cases o with
  | none => exact hd
  | some v =>
    show (if v < 0 then (v + (n : Int)).toNat else min v.toNat n) ≤ n
    by_cases hv : v < 0
    · rw [if_pos hv]; omega
    · rw [if_neg hv]; exact Nat.min_le_right _ _
theorem clip_eq (v : Int) (n d : Nat) : (if v < 0 then max (v + (n : Int)) 0 else min v (n : Int)) = ((sIx n d (some v) : Nat) : Int) := by
  show (if v < 0 then max (v + (n : Int)) 0 else min v (n : Int)) = (((if v < 0 then (v + (n : Int)).toNat else min v.toNat n) : Nat) : Int)
  by_cases hv : v < 0
  · simp only [if_pos hv]; omega
  · simp only [if_neg hv]; omega
theorem adjust_gen (lo hi : Option Int) (n : Nat) : Builtin.Slice.sliceAdjust lo hi 1 (n : Int) = (((sIx n 0 lo : Nat) : Int), ((sIx n n hi : Nat) : Int)) := by
  have h1 : ¬ ((1 : Int) < 0) := by omega
  unfold Builtin.Slice.sliceAdjust
  simp only [h1, if_false]
  refine Prod.ext ?_ ?_
  · cases lo with
    | none => rfl
    | some v => exact clip_eq v n 0
  · cases hi with
    | none => rfl
    | some v => exact clip_eq v n n
theorem places_gen (i j : Nat) : Builtin.Slice.slicePlaces (i : Int) (j : Int) 1 = j - i := by
  unfold Builtin.Slice.slicePlaces
  have h1 : (1 : Int) > 0 := by omega
  simp only [h1, if_true, Int.ediv_one]
  split <;> omega
theorem slicePart_ {v : Value} {o : Option Int} {Q : Option Int → Shared → Prop} (p : IsPart v o) (h : Q o s) : wpAny (model prog w) A (Builtin.Slice.slicePartIndex v) Q E s := by
  cases p with
  | none => exact slicePart_none h
  | int i t => exact slicePart_int h
theorem sliceApplied_gen {sl : Addr} {vl vu : Value} {lo hi : Option Int} {n : Nat} {Q : Int × Int × Nat → Shared → Prop} (hs : s.heap.IsSliceOf sl vl vu .none) (pl : IsPart vl lo) (pu : IsPart vu hi)
    (h : Q (((sIx n 0 lo : Nat) : Int), 1, sIx n n hi - sIx n 0 lo) s) : wpAny (model prog w) A (Builtin.Slice.sliceApplied (.ref sl) (pure (n : Int))) Q E s := by
  obtain ⟨os, hos, hcs, hds⟩ := id hs
  unfold Builtin.Slice.sliceApplied Builtin.Slice.sliceFields
  refine wpAny_bind (wpAny_bind (wpAny_field hos hds (x := vl) rfl (wpAny_bind (wpAny_field hos hds (x := vu) rfl (wpAny_bind (wpAny_field hos hds (x := .none) rfl (wpAny_pure ?_)))))))
  refine wpAny_bind (slicePart_none ?_)
  show wpAny _ _ (if ((1 : Int) == 0) = true then _ else _) _ _ s
  rw [if_neg (by decide)]
  refine wpAny_bind (slicePart_ pl (wpAny_bind (slicePart_ pu (wpAny_bind (wpAny_pure ?_)))))
  show wpAny _ _ (match Builtin.Slice.sliceAdjust lo hi 1 (n : Int) with | (lo, hi) => pure (lo, (1 : Int), Builtin.Slice.slicePlaces lo hi 1)) _ _ s
  rw [adjust_gen lo hi n]
  show wpAny _ _ (pure (((sIx n 0 lo : Nat) : Int), (1 : Int), Builtin.Slice.slicePlaces ((sIx n 0 lo : Nat) : Int) ((sIx n n hi : Nat) : Int) 1)) _ _ s
  rw [places_gen]
  exact wpAny_pure h
theorem pick_gen (xs : Array Value) (i k : Nat) : ((List.range k).filterMap fun (m : Nat) => xs[((i : Int) + (m : Int) * 1).toNat]?).toArray = ((xs.toList.drop i).take k).toArray := by
  have e : (fun (m : Nat) => xs[((i : Int) + (m : Int) * 1).toNat]?) = fun m => xs[i + m]? := by
    funext m
    have : ((i : Int) + (m : Int) * 1).toNat = i + m := by omega
    rw [this]
  rw [e]
  have := pick_run xs i k
  rw [List.filterMap_map] at this
  have e2 : ((fun x => xs[x]?) ∘ fun x => i + x) = fun m => xs[i + m]? := rfl
  rw [e2] at this
  rw [this]

theorem getItem_tuple_cut {t sl : Addr} {items : Array Value} {vl vu : Value} {lo hi : Option Int} {Q : Value → Shared → Prop} (ht : IsTup s.heap t items) (hs : s.heap.IsSliceOf sl vl vu .none) (pl : IsPart vl lo) (pu : IsPart vu hi)
    (hw : ¬ (sIx items.size 0 lo = 0 ∧ sIx items.size items.size hi = items.size))
    (h : Q (.ref s.heap.objs.size) { s with heap := s.heap.push { cls := .type "tuple", data := .seq ((items.toList.drop (sIx items.size 0 lo)).take (sIx items.size items.size hi - sIx items.size 0 lo)).toArray } })
    (hsz : items.size ≤ sizeLine) : wpAny (model prog w) A (getItem (.ref t) (.ref sl)) Q E s := by
  have htake : sizeOk (.seq ((items.toList.drop (sIx items.size 0 lo)).take (sIx items.size items.size hi - sIx items.size 0 lo)).toArray) := by
    show ((items.toList.drop (sIx items.size 0 lo)).take (sIx items.size items.size hi - sIx items.size 0 lo)).toArray.size ≤ sizeLine
    rw [List.size_toArray, List.length_take, List.length_drop, Array.length_toList]
    omega
  have hj : sIx items.size items.size hi ≤ items.size := sIx_le _ _ (Nat.le_refl _) hi
  obtain ⟨os, hos, hcs, hds⟩ := id hs
  have hTs : s.TypeIs (.ref sl) "slice" := ⟨os, hos, hcs⟩
  unfold getItem
  try with_reducible refine wpAny_holding ?_
  first | refine wpAny_bind (wpAny_pure ?_) | skip
  refine wpAny_bind (wpAny_sequenceKey ht.typeIs (by decide) ?_)
  refine wpAny_bind (wpAny_callSpecial?_slot (name := Str.ofString "__getitem__") ht.typeIs PyProof.Rows.slot_tuple_getitem
    (wpAny_call_entry PyProof.Rows.slot_tuple_getitem ht.typeIs entry_tuple_getitem ?_ (args_tuple_getitem _ _)))
  show wpAny _ _ (Builtin.Tuple.tupleItemsOf (.ref t) >>= _) _ _ s
  refine wpAny_bind (tupleItemsOf_ ht ?_)
  refine wpAny_bind (wpAny_typeOf hTs ?_)
  rw [if_pos (by decide)]
  refine wpAny_bind (sliceApplied_gen hs pl pu ?_)
  have hno : ¬ ((((sIx items.size 0 lo : Nat) : Int) == 0 && (1 : Int) == 1 && (sIx items.size items.size hi - sIx items.size 0 lo) == items.size) = true) := by
    intro q
    rw [Bool.and_eq_true, Bool.and_eq_true] at q
    have q1 : ((sIx items.size 0 lo : Nat) : Int) = 0 := eq_of_beq q.1.1
    have q2 : sIx items.size items.size hi - sIx items.size 0 lo = items.size := eq_of_beq q.2
    exact hw ⟨by omega, by omega⟩
  show wpAny _ _ (if (((sIx items.size 0 lo : Nat) : Int) == 0 && (1 : Int) == 1 && (sIx items.size items.size hi - sIx items.size 0 lo) == items.size) = true then _ else _) _ _ s
  rw [if_neg hno, pick_gen]
  first
    | exact wpAny_bind (m := Builtin.Tuple.tupleExact _) (wpAny_newObj_type (wpAny_pure ⟨_, rfl, wpAny_pure h⟩) htake)
    | exact wpAny_bind (m := Builtin.Tuple.tupleExact _) (wpAny_newObj_type (wpAny_bind (wpAny_pure (wpAny_pure ⟨_, rfl, wpAny_pure h⟩))) htake)
    | exact wpAny_bind (wpAny_bind (m := Builtin.Tuple.tupleExact _) (wpAny_newObj_type (wpAny_pure (wpAny_pure ⟨_, rfl, wpAny_pure h⟩)) htake))
    | exact wpAny_bind (wpAny_bind (m := Builtin.Tuple.tupleExact _) (wpAny_newObj_type (wpAny_pure ⟨_, rfl, wpAny_pure h⟩) htake))
end
end HT.Internal

namespace L2.Internal
open PySem PySem.Spec PyProof.Rows

noncomputable abbrev TO := St → Hp → (Option Int → Hp → Prop) → Prop
noncomputable def PO (X : Cx) (e : Option Expr) (t : TO) : Prop :=
  ∀ (pins : List (Addr × Obj)) (s : Shared) (σ : St) (H : Hp) (Q : Option Int → Hp → Prop), Inv X pins σ H s → t σ H Q →
    wpAny (model X.prog X.w) X.A (evalPart e X.env) (fun u s' => ∃ o H', Inv X pins σ H' s' ∧ IsPart u o ∧ Q o H') X.xe s
noncomputable def tNoPart : TO := fun _ H Q => Q none H
noncomputable def tPart (t : TE) : TO := fun σ H Q => t σ H fun x H1 => ∃ i, x = .int i ∧ Q (some i) H1

theorem intsAre_of {ns : List Int} : ∀ {us : List Value}, Vals (ns.map V.int) us → IntsAre us ns := by
  induction ns with
  | nil => intro us r; rw [List.map_nil] at r; cases r; exact .nil
  | cons n ns ih =>
    intro us r
    rw [List.map_cons] at r
    cases r with
    | cons r1 r2 =>
      obtain ⟨t, e⟩ := r1
      subst e
      exact .cons n t (ih r2)

section
variable {X : Cx} {e : Expr} {te : TE} {lo hi : Option Expr} {tl th : TO} {pos p2 : Pos}

theorem po_none : PO X none tNoPart := by
  intro pins s σ H Q I h
  rw [evalPart_none]
  exact wpAny_pure ⟨none, H, I, .none, h⟩
theorem po_some (h : PE X e te) : PO X (some e) (tPart te) := by
  intro pins s σ H Q I hw
  rw [evalPart_some]
  refine thn (h pins s σ H _ I hw) fun u s1 ⟨x, H1, I1, r1, q1⟩ => ?_
  obtain ⟨i, rfl, q⟩ := q1
  obtain ⟨t, rfl⟩ := r1
  exact ⟨some i, H1, I1, .int i t, q⟩

noncomputable def SlR (X : Cx) (r : V → Option Int → Option Int → Hp → VK → Prop) : Prop :=
  ∀ (pins : List (Addr × Obj)) (s : Shared) (σ : St) (H : Hp) (x : V) (v vl vu : Value) (lo hi : Option Int) (sl : Addr) (Q : VK), Inv X pins σ H s → RelV x v → s.heap.IsSliceOf sl vl vu .none → IsPart vl lo → IsPart vu hi → r x lo hi H Q →
    ∃ T id, typeLookup (.type T) "__getitem__" = pure (some (.builtin id)) ∧ s.TypeIs v T ∧ wpAny (model X.prog X.w) X.A (getItem v (.ref sl)) (EP X pins σ Q) X.xe s
noncomputable def tSl (r : V → Option Int → Option Int → Hp → VK → Prop) (te : TE) (tl th : TO) : TE := fun σ H Q => te σ H fun x H1 => tl σ H1 fun l H2 => th σ H2 fun u H3 => r x l u H3 Q
theorem pe_slice {r : V → Option Int → Option Int → Hp → VK → Prop} (hr : SlR X r) (he : PE X e te) (hl : PO X lo tl) (hu : PO X hi th) : PE X (.Subscript e (.Slice lo hi none p2) pos) (tSl r te tl th) := by
  intro pins s σ H Q I h
  refine Subscript_ (thn (he pins s σ H _ I h) fun v s1 ⟨x, H1, I1, r1, q1⟩ => ?_)
  refine wpAny_Slice (thn (hl pins s1 σ H1 _ I1 q1) fun vl s2 ⟨l, H2, I2, pl, q2⟩ => thn (hu pins s2 σ H2 _ I2 q2) fun vu s3 ⟨u, H3, I3, pu, q3⟩ => ?_)
  rw [evalPart_none]
  refine wpAny_pure ?_
  have I4 : Inv X pins σ H3 { s3 with heap := s3.heap.push { cls := .type "slice", data := .fields #[vl, vu, .none] } } := I3.kept (t' := s3.toks) fun b ob q => Heap.get?_push_of_some _ q
  obtain ⟨T, id, hT, ht, hg⟩ := hr pins { s3 with heap := s3.heap.push { cls := .type "slice", data := .fields #[vl, vu, .none] } } σ H3 x v vl vu l u s3.heap.objs.size Q I4 r1 (Heap.IsSliceOf.new ..) pl pu q3
  show wpAny (model X.prog X.w) X.A (subscriptTail e (.Slice lo hi none p2) v (.ref s3.heap.objs.size)) (EP X pins σ Q) X.xe { s3 with heap := s3.heap.push { cls := .type "slice", data := .fields #[vl, vu, .none] } }
  exact tail_any (ops := [.ref s3.heap.objs.size, v]) ht hT hg (by with_unfolding_all rfl)

noncomputable def cutV (xs : List V) (lo hi : Option Int) : List V := (xs.drop (HT.Internal.sIx xs.length 0 lo)).take (HT.Internal.sIx xs.length xs.length hi - HT.Internal.sIx xs.length 0 lo)
theorem cutV_length (xs : List V) (lo hi : Option Int) : (cutV xs lo hi).length ≤ xs.length := by
  unfold cutV
  rw [List.length_take, List.length_drop]
  omega
noncomputable def rSlT (K : PySem.W.Frag) : V → Option Int → Option Int → Hp → VK → Prop := fun x lo hi H Q => ∃ a xs, x = .ref a ∧ SqT K H a xs ∧
  ¬ (HT.Internal.sIx xs.length 0 lo = 0 ∧ HT.Internal.sIx xs.length xs.length hi = xs.length) ∧ ∀ p, H p = none → Q (.ref p) (upd H p (.tup (cutV xs lo hi)))
theorem sl_tup : SlR X (rSlT X.K) := by
  intro pins s σ H x v vl vu lo hi sl Q I rx hs pl pu h
  obtain ⟨a, xs, rfl, hx, hw, q⟩ := h
  cases rx
  obtain ⟨its, r, ht, hz⟩ := I.tuple hx
  have hlen : its.toArray.size = xs.length := by rw [List.size_toArray]; exact r.length.symm
  refine ⟨"tuple", _, PyProof.Rows.slot_tuple_getitem.lookup, ht.typeIs, ?_⟩
  refine HT.Internal.getItem_tuple_cut ht hs pl pu (by rw [hlen]; exact hw) ?_ (by rw [hlen]; exact hz)
  rw [hlen]
  refine ⟨.ref s.heap.objs.size, _, I.laid (t' := s.toks) (o := .tup (cutV xs lo hi)) (fun b ob q => Heap.get?_push_of_some _ q) (Nat.le_refl _) ?_, rfl, q _ (I.hok.fresh (Nat.le_refl _))⟩
  exact ⟨Nat.le_trans (cutV_length xs lo hi) hz, _, (r.drop (HT.Internal.sIx xs.length 0 lo)).take (HT.Internal.sIx xs.length xs.length hi - HT.Internal.sIx xs.length 0 lo), Tup0.new _ _⟩

noncomputable def rLtT (K : PySem.W.Frag) : R2 := fun x y H Q => ∃ a b ns ms, x = .ref a ∧ y = .ref b ∧ SqT K H a (ns.map V.int) ∧ SqT K H b (ms.map V.int) ∧ Q (.bl (HT.Internal.lexLt ns ms)) H
theorem op_ltT (hu : X.A.units < cLine) : OpR X (compareOp .Lt) (rLtT X.K) := by
  intro pins s σ H x y v u Q I rx ry h
  obtain ⟨a, b, ns, ms, rfl, rfl, ha, hb, q⟩ := h
  cases rx
  cases ry
  obtain ⟨its, r1, p1, _⟩ := I.tuple ha
  obtain ⟨its2, r2, p2, _⟩ := I.tuple hb
  have i1 : IntsAre its.toArray.toList ns := intsAre_of r1
  have i2 : IntsAre its2.toArray.toList ms := intsAre_of r2
  exact HT.Internal.lt_tupInts p1 p2 i1 i2 hu ⟨.bl (HT.Internal.lexLt ns ms), H, I, rfl, q⟩
noncomputable def rCatT (K : PySem.W.Frag) : R2 := fun x y H Q => ∃ a b xs ys, x = .ref a ∧ y = .ref b ∧ SqT K H a xs ∧ SqT K H b ys ∧ xs ≠ [] ∧ xs.length + ys.length ≤ sizeLine ∧
  (ys = [] → Q (.ref a) H) ∧ (ys ≠ [] → ∀ p, H p = none → Q (.ref p) (upd H p (.tup (xs ++ ys))))
theorem Vals.nil_iff {xs : List V} {us : List Value} (r : Vals xs us) : us = [] ↔ xs = [] := by
  cases r with
  | nil => simp
  | cons _ _ => simp
theorem op_catT : OpR X (binaryOp .Add) (rCatT X.K) := by
  intro pins s σ H x y v u Q I rx ry h
  obtain ⟨a, b, xs, ys, rfl, rfl, ha, hb, hx, hz, q1, q2⟩ := h
  cases rx
  cases ry
  obtain ⟨its, r1, p1, _⟩ := I.tuple ha
  obtain ⟨its2, r2, p2, _⟩ := I.tuple hb
  refine HT.Internal.cat_tup p1 p2 (fun z => hx (r1.nil_iff.mp z)) (fun z => ⟨.ref a, H, I, rfl, q1 (r2.nil_iff.mp z)⟩) (fun z => ?_) (by rw [← r1.length, ← r2.length]; exact hz)
  refine ⟨.ref s.heap.objs.size, _, I.laid (t' := s.toks) (o := .tup (xs ++ ys)) (fun b ob q => Heap.get?_push_of_some _ q) (Nat.le_refl _) ?_, rfl, q2 (fun w => z (r2.nil_iff.mpr w)) _ (I.hok.fresh (Nat.le_refl _))⟩
  exact ⟨by rw [List.length_append]; exact hz, _, r1.append r2, Tup0.new _ _⟩
end
end L2.Internal

namespace L2.Internal
open PySem PySem.Spec PyProof.Rows

noncomputable def ixN (n : Nat) (i : Int) : Option Nat := if 0 ≤ i then (if i < n then some i.toNat else none) else if -(n : Int) ≤ i then some (i + n).toNat else none
noncomputable def atI {α : Type} (xs : List α) (i : Int) : Option α := (ixN xs.length i).bind fun j => xs[j]?
theorem ixN_seq {n : Nat} {i : Int} {j : Nat} (h : ixN n i = some j) : seqIndex? i n = some j ∧ j < n ∧ -(n : Int) ≤ i ∧ i < n := by
  unfold ixN at h
  by_cases h0 : 0 ≤ i
  · rw [if_pos h0] at h
    by_cases h1 : i < n
    · rw [if_pos h1] at h
      have e : i.toNat = j := Option.some.inj h
      exact ⟨by rw [seqIndex_of h0 h1, e], by omega, by omega, h1⟩
    · rw [if_neg h1] at h; cases h
  · rw [if_neg h0] at h
    by_cases h1 : -(n : Int) ≤ i
    · rw [if_pos h1] at h
      have e : (i + n).toNat = j := Option.some.inj h
      exact ⟨by rw [seqIndex_neg (by omega) h1, e], by omega, h1, by omega⟩
    · rw [if_neg h1] at h; cases h
theorem atI_get {α : Type} {xs : List α} {i : Int} {v : α} (h : atI xs i = some v) : ∃ j, seqIndex? i xs.length = some j ∧ xs[j]? = some v ∧ j < xs.length ∧ -(xs.length : Int) ≤ i ∧ i < xs.length := by
  unfold atI at h
  cases e : ixN xs.length i with
  | none => rw [e] at h; cases h
  | some j =>
    rw [e] at h
    obtain ⟨h1, h2, h3, h4⟩ := ixN_seq e
    exact ⟨j, h1, h, h2, h3, h4⟩
theorem atI_nat {α : Type} {xs : List α} {j : Nat} {v : α} (h : xs[j]? = some v) : atI xs (j : Int) = some v := by
  have hj : j < xs.length := (List.getElem?_eq_some_iff.mp h).1
  have e : ixN xs.length (j : Int) = some j := by
    unfold ixN
    rw [if_pos (by omega), if_pos (by omega)]; simp
  unfold atI; rw [e]; exact h
noncomputable def PlainIx (b : Expr) : Prop := ∀ o i, subscripted b false o i = operate [o, i] (getItem o i)
noncomputable def IxR (X : Cx) (r : R2) : Prop :=
  ∀ (value slice : Expr) (pins : List (Addr × Obj)) (s : Shared) (σ : St) (H : Hp) (x y : V) (v u : Value) (Q : VK), Inv X pins σ H s → RelV x v → RelV y u → r x y H Q →
    subscripted slice false v u = operate [v, u] (getItem v u) → wpAny (model X.prog X.w) X.A (subscriptTail value slice v u) (EP X pins σ Q) X.xe s
noncomputable def MtR (X : Cx) (id : String) (r : V → List V → Hp → VK → Prop) : Prop :=
  ∀ (pins : List (Addr × Obj)) (s : Shared) (σ : St) (H : Hp) (x : V) (xs : List V) (v : Value) (us : List Value) (Q : VK), Inv X pins σ H s → RelV x v → Vals xs us → r x xs H Q →
    wpAny (model X.prog X.w) X.A (call (.builtin id) (v :: us)) (EP X pins σ Q) X.xe s
section
variable {X : Cx} {a b : Expr} {ta tb : TE} {pos : Pos}
theorem pe_ix {r : R2} (hr : IxR X r) (ha : PE X a ta) (hb : PE X b tb) (hs : PlainIx b) : PE X (.Subscript a b pos) (tOp r ta tb) := by
  intro pins s σ H Q I h
  exact Subscript_ (binT ha hb I h fun v u s2 x y H2 I2 rx ry q => hr a b pins s2 σ H2 x y v u Q I2 rx ry q (hs _ _))

noncomputable def rIxL (K : PySem.W.Frag) : R2 := fun x y H Q => ∃ p xs i v, x = .ref p ∧ y = .int i ∧ SqL K H p xs ∧ atI xs i = some v ∧ Q v H
noncomputable def rIxT (K : PySem.W.Frag) : R2 := fun x y H Q => ∃ p xs i v, x = .ref p ∧ y = .int i ∧ SqT K H p xs ∧ atI xs i = some v ∧ Q v H
noncomputable def rIxS : R2 := fun x y H Q => ∃ z i c, x = .str z ∧ y = .int i ∧ z.length ≤ sizeLine ∧ atI z.cps.toList i = some c ∧ Q (.str ⟨#[c]⟩) H
theorem ix_list : IxR X (rIxL X.K) := by
  intro value slice pins s σ H x y v u Q I rx ry h hs
  obtain ⟨p, xs, i, z, rfl, rfl, hq, he, q⟩ := h
  cases rx
  obtain ⟨t, rfl⟩ := ry
  obtain ⟨its, r, pl, hz⟩ := I.list hq
  obtain ⟨j, h1, h2, h3, h4, h5⟩ := atI_get he
  obtain ⟨w, ew, rw'⟩ := r.get h2
  have hl := r.length
  have hn := line63
  have fin : EP X pins σ Q w s := ⟨z, H, I, rw', q⟩
  by_cases h0 : 0 ≤ i
  · have hj : i.toNat = j := by
      rw [seqIndex_of h0 h5] at h1
      exact Option.some.inj h1
    exact item_listR pl.isList h0 (by omega) (by rw [hj]; simpa using ew) fin hs
  · have hj : (i + (its.toArray.size : Int)).toNat = j := by
      rw [seqIndex_neg (by omega) h4] at h1
      rw [List.size_toArray, ← hl]
      exact Option.some.inj h1
    exact subscriptTail_builtinR (x := w) pl.isList.typeIs slot_list_getitem.lookup
      (wpAny_getItem_list_neg (Q := fun r s' => r = w ∧ EP X pins σ Q r s') pl.isList (by omega) (by rw [List.size_toArray] <;> omega) (by omega) (by rw [hj]; simpa using ew) ⟨rfl, fin⟩) hs
theorem ix_tup : IxR X (rIxT X.K) := by
  intro value slice pins s σ H x y v u Q I rx ry h hs
  obtain ⟨p, xs, i, z, rfl, rfl, hq, he, q⟩ := h
  cases rx
  obtain ⟨t, rfl⟩ := ry
  obtain ⟨its, r, pl, hz⟩ := I.tuple hq
  obtain ⟨j, h1, h2, h3, h4, h5⟩ := atI_get he
  obtain ⟨w, ew, rw'⟩ := r.get h2
  have hl := r.length
  have hn := line63
  have fin : EP X pins σ Q w s := ⟨z, H, I, rw', q⟩
  exact subscriptTail_builtinR (x := w) pl.typeIs slot_tuple_getitem.lookup
    (getItem_tuple (j := j) (Q := fun r s' => r = w ∧ EP X pins σ Q r s') pl (by omega) (by omega) (by rw [List.size_toArray, ← hl]; exact h1) (by simpa using ew) ⟨rfl, fin⟩) hs
theorem ix_str : IxR X rIxS := by
  intro value slice pins s σ H x y v u Q I rx ry h hs
  obtain ⟨z, i, c, rfl, rfl, hz, he, q⟩ := h
  obtain ⟨t, rfl⟩ := rx
  obtain ⟨t', rfl⟩ := ry
  obtain ⟨j, h1, h2, h3, h4, h5⟩ := atI_get he
  have hl : z.cps.toList.length = z.length := by simp [Str.length]
  rw [hl] at h1 h4 h5
  have hn := line63
  exact tail_any (typeIs_str s z t) slot_str_getitem.lookup (getItem_str (c := c) (by
    have e1 : decide (i < -(2 ^ 63 : Int)) = false := decide_eq_false (by omega)
    have e2 : decide (i ≥ 2 ^ 63) = false := decide_eq_false (by omega)
    rw [e1, e2, Bool.or_false]) (by rw [h1]; simpa using h2) ⟨.str ⟨#[c]⟩, H, I.tok _, ⟨_, rfl⟩, q⟩) hs
noncomputable def rIx (K : PySem.W.Frag) : R2 := fun x y H Q => rIxL K x y H Q ∨ rIxT K x y H Q ∨ rIxS x y H Q
noncomputable def rSetL : V → V → V → Hp → (Hp → Prop) → Prop := fun o i v H Q => ∃ p xs k j, o = .ref p ∧ i = .int k ∧ H p = some (.lst xs) ∧ ixN xs.length k = some j ∧ Q (upd H p (.lst (xs.set j v)))
theorem slice_bounds (lo hi : Option Int) (n : Nat) : (sliceBounds lo hi none n).1 = ((HT.Internal.sIx n 0 lo : Nat) : Int) ∧ (sliceBounds lo hi none n).2.1 = ((HT.Internal.sIx n n hi : Nat) : Int) ∧ (sliceBounds lo hi none n).2.2 = 1 := by
  refine ⟨?_, ?_, rfl⟩
  · cases lo with
    | none => simp [sliceBounds, HT.Internal.sIx]
    | some i =>
      simp only [sliceBounds, HT.Internal.sIx, Option.getD_none, show (1 : Int) > 0 by decide, if_true]
      by_cases h : i < 0
      · simp only [h, if_true] <;> omega
      · simp only [h, if_false] <;> omega
  · cases hi with
    | none => simp [sliceBounds, HT.Internal.sIx]
    | some i =>
      simp only [sliceBounds, HT.Internal.sIx, Option.getD_none, show (1 : Int) > 0 by decide, if_true]
      by_cases h : i < 0
      · simp only [h, if_true] <;> omega
      · simp only [h, if_false] <;> omega
theorem slicePick_cut (its : List Value) (lo hi : Option Int) : slicePick its.toArray lo hi none = ((its.drop (HT.Internal.sIx its.length 0 lo)).take (HT.Internal.sIx its.length its.length hi - HT.Internal.sIx its.length 0 lo)).toArray := by
  obtain ⟨h1, h2, h3⟩ := slice_bounds lo hi its.toArray.size
  unfold slicePick
  rw [h1, h2, h3]
  simp only [sliceRange_one, pick_run, List.size_toArray] <;> rfl
noncomputable def rSlL (K : PySem.W.Frag) : V → Option Int → Option Int → Hp → VK → Prop := fun x lo hi H Q => ∃ a xs, x = .ref a ∧ SqL K H a xs ∧ ∀ p, H p = none → Q (.ref p) (upd H p (.lst (cutV xs lo hi)))
theorem sl_list : SlR X (rSlL X.K) := by
  intro pins s σ H x v vl vu lo hi sl Q I rx hs pl pu h
  obtain ⟨a, xs, rfl, hx, q⟩ := h
  cases rx
  obtain ⟨its, r, ht, hz⟩ := I.list hx
  have hlen := r.length
  refine ⟨"list", _, slot_list_getitem.lookup, ht.isList.typeIs, ?_⟩
  refine wpAny_getItem_list_slice ht.isList hs pl pu .none (by simp) ?_ (by rw [List.size_toArray] <;> omega)
  rw [slicePick_cut, ← hlen]
  refine ⟨.ref s.heap.objs.size, _, I.laid (t' := s.toks) (o := .lst (cutV xs lo hi)) (fun b ob q => Heap.get?_push_of_some _ q) (Nat.le_refl _) ?_, rfl, q _ (I.hok.fresh (Nat.le_refl _))⟩
  exact ⟨Nat.le_trans (cutV_length xs lo hi) hz, _, 0, (r.drop (HT.Internal.sIx xs.length 0 lo)).take (HT.Internal.sIx xs.length xs.length hi - HT.Internal.sIx xs.length 0 lo), Heap.get?_push_size _ rfl⟩

noncomputable def flatV : V → Bool
  | .non => true
  | .bl _ => true
  | .int _ => true
  | .str _ => true
  | _ => false
noncomputable def eqV : V → V → Bool
  | .non, .non => true
  | .bl a, .bl b => a == b
  | .bl a, .int b => (if a then 1 else 0) == b
  | .int a, .bl b => a == (if b then 1 else 0)
  | .int a, .int b => a == b
  | .str a, .str b => a == b
  | _, _ => false
theorem eqAt_V {A : Around} {s : Shared} {y x : V} {u v : Value} (ry : RelV y u) (rx : RelV x v) (fy : flatV y = true) (fx : flatV x = true) : SeqAt.EqAt A s u v (eqV y x) := by
  cases y with
  | non =>
    cases ry
    cases x with
    | non => cases rx; exact SeqAt.EqAt.same _
    | bl b => cases rx; exact SeqAt.EqAt.none_bool b
    | int b => obtain ⟨t, rfl⟩ := rx; exact SeqAt.EqAt.none_int b t
    | str b => obtain ⟨t, rfl⟩ := rx; exact SeqAt.EqAt.none_str b t
    | _ => exact absurd (show false = true from fx) Bool.false_ne_true
  | bl a =>
    cases ry
    cases x with
    | non => cases rx; exact SeqAt.EqAt.bool_none a
    | bl b => cases rx; exact SeqAt.EqAt.bool_bool a b
    | int b => obtain ⟨t, rfl⟩ := rx; exact SeqAt.EqAt.bool_int a b t
    | str b => obtain ⟨t, rfl⟩ := rx; exact SeqAt.EqAt.bool_str a b t
    | _ => exact absurd (show false = true from fx) Bool.false_ne_true
  | int a =>
    obtain ⟨t', rfl⟩ := ry
    cases x with
    | non => cases rx; exact SeqAt.EqAt.int_none a t'
    | bl b => cases rx; exact SeqAt.EqAt.int_bool a t' b
    | int b => obtain ⟨t, rfl⟩ := rx; exact SeqAt.EqAt.int_int a t' b t
    | str b => obtain ⟨t, rfl⟩ := rx; exact SeqAt.EqAt.int_str a t' b t
    | _ => exact absurd (show false = true from fx) Bool.false_ne_true
  | str a =>
    obtain ⟨t', rfl⟩ := ry
    cases x with
    | non => cases rx; exact SeqAt.EqAt.str_none a t'
    | bl b => cases rx; exact SeqAt.EqAt.str_bool a t' b
    | int b => obtain ⟨t, rfl⟩ := rx; exact SeqAt.EqAt.str_int a t' b t
    | str b => obtain ⟨t, rfl⟩ := rx; exact SeqAt.EqAt.str_str a t' b t
    | _ => exact absurd (show false = true from fx) Bool.false_ne_true
  | _ => exact absurd (show false = true from fy) Bool.false_ne_true
noncomputable def eqU (x : V) (u : Value) : Bool := match u with
  | .none => eqV .non x
  | .bool b => eqV (.bl b) x
  | .int i _ => eqV (.int i) x
  | .str z _ => eqV (.str z) x
  | _ => false
noncomputable def inV (x : V) (xs : List V) : Bool := xs.any fun y => eqV y x
noncomputable def rIn (K : PySem.W.Frag) (neg : Bool) : R2 := fun x y H Q => ∃ p xs, y = .ref p ∧ (SqL K H p xs ∨ SqT K H p xs) ∧ flatV x = true ∧ xs.all flatV = true ∧ Q (.bl (if neg then !inV x xs else inV x xs)) H
theorem call_len_seq : CallR X (.builtin "len") (fun xs H Q => ∃ p ys, xs = [.ref p] ∧ (SqL X.K H p ys ∨ SqT X.K H p ys) ∧ Q (.int ys.length) H) := by
  intro pins s σ H xs us Q I r h
  obtain ⟨p, ys, rfl, hq, q⟩ := h
  obtain ⟨u, rfl, rx⟩ := vals1 r
  cases rx
  have hn := line63
  rcases hq with hq | hq
  · obtain ⟨its, r', pl, hz⟩ := I.list hq
    have hlen := r'.length
    exact Calls.call_len_list pl.isList (by simp only [List.size_toArray] <;> omega) ⟨.int ys.length, H, I.tok _, ⟨s.toks + 1, by rw [List.size_toArray, hlen]⟩, q⟩
  · obtain ⟨its, r', pl, hz⟩ := I.tuple hq
    have hlen := r'.length
    exact len_tuple pl (by simp only [List.size_toArray] <;> omega) ⟨.int ys.length, H, I.tok _, ⟨s.toks + 1, by rw [List.size_toArray, hlen]⟩, q⟩
theorem call_len_str : CallR X (.builtin "len") (fun xs H Q => ∃ z, xs = [.str z] ∧ z.length ≤ sizeLine ∧ Q (.int z.length) H) := by
  intro pins s σ H xs us Q I r h
  obtain ⟨z, rfl, hz, q⟩ := h
  obtain ⟨u, rfl, t, rfl⟩ := vals1 r
  have hn := line63
  exact len_str (by omega) ⟨.int z.length, H, I.tok _, ⟨_, rfl⟩, q⟩
theorem call_tuple_of : CallR X (.type "tuple") (fun xs H Q => ∃ p ys, xs = [.ref p] ∧ ((SqL X.K H p ys ∧ ∀ l, H l = none → Q (.ref l) (upd H l (.tup ys))) ∨ (SqT X.K H p ys ∧ Q (.ref p) H))) := by
  intro pins s σ H xs us Q I r h
  obtain ⟨p, ys, rfl, h⟩ := h
  obtain ⟨u, rfl, rx⟩ := vals1 r
  cases rx
  rcases h with ⟨hq, q⟩ | ⟨hq, q⟩
  · obtain ⟨its, r', pl, hz⟩ := I.list hq
    have hlen := r'.length
    refine call_tuple_list pl.isList (fun h' kp => ?_) (by simp only [List.size_toArray] <;> omega)
    have I1 : Inv X pins σ H { s with heap := h' } := I.kept (t' := s.toks) kp
    have I2 : Inv X pins σ (upd H h'.objs.size (.tup ys)) { s with heap := h'.push { cls := .type "tuple", data := .seq its.toArray } } :=
      I1.laid (t' := s.toks) (fun b o e => Heap.get?_push_of_some _ e) (Nat.le_refl _) (show ObjOk X.prog X.w _ _ _ (.tup ys) from ⟨hz, its, r', Tup0.new _ _⟩)
    exact ⟨.ref h'.objs.size, _, I2, rfl, q _ (I1.hok.fresh (Nat.le_refl _))⟩
  · obtain ⟨its, r', pl, hz⟩ := I.tuple hq
    exact call_tuple_same pl ⟨.ref p, H, I, rfl, q⟩

noncomputable def tyV (K : PySem.W.Frag) (T : String) (x : V) (H : Hp) : Prop := match x with
  | .str _ => T = "str"
  | .int _ => T = "int"
  | .ref p => (T = "list" ∧ ∃ xs, SqL K H p xs) ∨ (T = "tuple" ∧ ∃ o, K.lookup p = some o ∧ o.cls = .type "tuple" ∧ o.dict = none) ∨
      (T = "dict" ∧ ((∃ kvs, H p = some (.dK kvs)) ∨ ∃ kvs, H p = some (.dT kvs))) ∨ (T = "set" ∧ ∃ S n, H p = some (.set S n))
  | _ => False
theorem tyV_is {pins : List (Addr × Obj)} {σ : St} {H : Hp} {s : Shared} {T : String} {x : V} {v : Value} (I : Inv X pins σ H s) (r : RelV x v) (ty : tyV X.K T x H) :
    s.TypeIs v T ∧ ∀ a, v = .ref a → ∃ ob, s.heap.get? a = some ob ∧ ob.dict = none := by
  cases x with
  | str z =>
    obtain ⟨t, rfl⟩ := r
    cases (show T = "str" from ty)
    exact ⟨typeIs_str s z t, fun _ e => nomatch e⟩
  | int i =>
    obtain ⟨t, rfl⟩ := r
    cases (show T = "int" from ty)
    exact ⟨typeIs_int s i t, fun _ e => nomatch e⟩
  | ref p =>
    cases r
    rcases ty with ⟨rfl, xs, hq⟩ | ⟨rfl, o, hk, hc, hd⟩ | ⟨rfl, hk⟩ | ⟨rfl, S, n, hk⟩
    · obtain ⟨its, _, pl, _⟩ := I.list hq
      refine ⟨pl.isList.typeIs, fun a e => ?_⟩
      cases e
      obtain ⟨o, n, e, c, hd, _⟩ := pl
      exact ⟨o, e, hd⟩
    · refine ⟨⟨o, I.kIn p o hk, hc⟩, fun a e => ?_⟩
      cases e
      exact ⟨o, I.kIn _ o hk, hd⟩
    · have z : ∃ o, s.heap.get? p = some o ∧ o.ExactDict := by
        rcases hk with ⟨kvs, hk⟩ | ⟨kvs, hk⟩
        · obtain ⟨_, _, _, _, o, _, _, e, ex, _⟩ := I.hok p _ hk
          exact ⟨o, e, ex⟩
        · obtain ⟨_, _, _, _, o, _, _, e, ex, _⟩ := I.hok p _ hk
          exact ⟨o, e, ex⟩
      obtain ⟨o, e, ex⟩ := z
      refine ⟨⟨o, e, ex.1⟩, fun a e2 => ?_⟩
      cases e2
      exact ⟨o, e, ex.2.1⟩
    · obtain ⟨o, _, _, _, e, ex, _⟩ := I.hok p _ hk
      refine ⟨⟨o, e, ex.1⟩, fun a e2 => ?_⟩
      cases e2
      exact ⟨o, e, ex.2.1⟩
  | _ => exact False.elim ty
noncomputable def tBM0 (K : PySem.W.Frag) (T : String) (r : V → List V → Hp → VK → Prop) (to : TE) : TE := fun σ H Q => to σ H fun x H1 => tyV K T x H1 ∧ r x [] H1 Q
noncomputable def tBM (K : PySem.W.Frag) (T : String) (r : V → List V → Hp → VK → Prop) (to : TE) (t : TA) : TE := fun σ H Q => to σ H fun x H1 => tyV K T x H1 ∧ t σ H1 fun xs H2 => r x xs H2 Q
variable {o e : Expr} {es : List Expr} {to : TE} {t : TA} {name : Str} {apos cpos : Pos} {T id : String} {r : V → List V → Hp → VK → Prop}
theorem pe_bm (pa : PlainAttrs T) (slot : Slot T name id) (hty : typeOf (.builtin id) = pure (.type "method_descriptor")) (hm : MtR X id r) (ho : PE X o to) (ha : PA X (e :: es) t)
    (hbase : autoParam (attributeBase o name X.env (eval o X.env) = eval o X.env) L2.Internal.auR._auto_1)
    (hfew : ((backTo cpos (starEach (e :: es) X.env)).all (fun x => !x.1) && (backToKw cpos (keywordEach [] X.env)).all (fun x => x.1.isSome)
      && decide ((e :: es).length + ([] : List Keyword).length + (if ([] : List Keyword).isEmpty then 0 else 1) < 30)) = true := by rfl)
    (hline : autoParam ((apos.endLine == cpos.line) = true) L2.Internal.auR._auto_1) (hs : autoParam (starEach (e :: es) X.env = (false, eval e X.env) :: starEach es X.env) L2.Internal.auR._auto_1) (hplain : autoParam ((backTo cpos (starEach es X.env)).any (·.1) = false) L2.Internal.auR._auto_1) :
    PE X (.Call (.Attribute o name apos) (e :: es) [] cpos) (tBM X.K T r to t) := by
  intro pins s σ H Q I h
  refine wpAny_Call_method_late hbase hfew hline rfl (thn (ho pins s σ H _ I h) fun v s1 ⟨x, H1, I1, r1, ty, q1⟩ => ?_)
  obtain ⟨h1, h2⟩ := tyV_is I1 r1 ty
  refine ⟨T, id, pa, slot, hty, h1, h2, ?_⟩
  have hA := ha cpos pins s1 σ H1 _ I1 q1
  rw [hs] at hA ⊢
  refine Calls.callWith_builtin (by show (false || (backTo cpos (starEach es X.env)).any (·.1)) = false; rw [hplain] <;> rfl) (Calls.evalArgs_plain ?_)
  exact thn hA fun us s2 ⟨vs, H2, I2, r2, q2⟩ => hm pins s2 σ H2 x vs v us Q I2 r1 r2 q2
/- xs.append(e), list.index on a module's tuple .. are MtR facts of 06m -/
end
end L2.Internal

namespace L2.Internal
open PySem PySem.Spec PyProof.Rows

noncomputable def MtM (X : Cx) (id : String) (r : V → List V → Hp → VK → Prop) : Prop :=
  ∀ (pins : List (Addr × Obj)) (s : Shared) (σ : St) (H : Hp) (x : V) (xs : List V) (v : Value) (us : List Value) (Q : VK), Inv X pins σ H s → RelV x v → Vals xs us → r x xs H Q →
    wpAny (model X.prog X.w) X.A (call (.builtin id) (v :: us)) (EP X pins σ Q) X.xe s

theorem Vals.one : ∀ {x : V} {us : List Value}, Vals [x] us → ∃ u, us = [u] ∧ RelV x u
  | _, _, .cons r .nil => ⟨_, rfl, r⟩
theorem Vals.two : ∀ {x y : V} {us : List Value}, Vals [x, y] us → ∃ u v, us = [u, v] ∧ RelV x u ∧ RelV y v
  | _, _, _, .cons r (.cons q .nil) => ⟨_, _, rfl, r, q⟩
section
variable {X : Cx} {pins : List (Addr × Obj)} {σ : St} {H : Hp} {s : Shared} {l b : Addr} {xs ys zs : List V}

theorem Inv.lset {its its' : List Value} {n : Nat} {f : Array Value → Array Value} {t' : Nat} (I : Inv X pins σ H s) (hH : H l = some (.lst xs))
    (e : s.heap.get? l = some { cls := .type "list", data := .seq its.toArray n }) (hf : f its.toArray = its'.toArray) (hv : Vals ys its') (hz : ys.length ≤ sizeLine) :
    Inv X pins σ (upd H l (.lst ys)) { s with heap := s.heap.update l (Obj.mapSeq f), toks := t' } := by
  have q := PySem.IsL.update e f
  rw [hf] at q
  refine I.write (x := l) (e := l) (by rw [hH]; exact trivial) (.inl rfl) (fun b' u hb hu => (Heap.get?_update_other s.heap (Obj.mapSeq f) (Ne.symm hb)).trans hu) ⟨_, q⟩ ?_
  exact ⟨hz, its', _, hv, q⟩
theorem Inv.lnew {its : List Value} {t' : Nat} (I : Inv X pins σ H s) (hv : Vals ys its) (hz : ys.length ≤ sizeLine) :
    Inv X pins σ (upd H s.heap.objs.size (.lst ys)) { s with heap := s.heap.push { cls := .type "list", data := .seq its.toArray }, toks := t' } :=
  I.laid (fun _ _ q => Heap.get?_push_of_some _ q) (Nat.le_refl _) ⟨hz, its, 0, hv, Heap.get?_push_size _ rfl⟩
theorem Inv.fresh (I : Inv X pins σ H s) : H s.heap.objs.size = none := I.hok.fresh (Nat.le_refl _)
theorem Inv.lstM (I : Inv X pins σ H s) (hH : H l = some (.lst xs)) : xs.length ≤ sizeLine ∧ ∃ (its : List Value) (n : Nat), Vals xs its ∧ xs.length = its.length ∧ s.heap.get? l = some { cls := .type "list", data := .seq its.toArray n } := by
  obtain ⟨z, its, n, r, e⟩ := I.hok l _ hH
  exact ⟨z, its, n, r, r.length, e⟩

end

section
variable {X : Cx}

noncomputable def rAppend : V → List V → Hp → VK → Prop := fun x vs H Q => ∃ l xs y, x = .ref l ∧ vs = [y] ∧ H l = some (.lst xs) ∧ xs.length < sizeLine ∧ Q .non (upd H l (.lst (xs ++ [y])))
theorem mt_append : MtM X "list.append" rAppend := by
  intro pins s σ H x vs v us Q I rx rv h
  obtain ⟨l, xs, y, rfl, rfl, hH, hz, q⟩ := h
  cases rx
  obtain ⟨u, rfl, ru⟩ := rv.one
  obtain ⟨z, its, n, r, hl, e⟩ := I.lstM hH
  refine call_meets F.slot_list_append ⟨_, e, rfl⟩ F.entry_list_append (F.args_list_append_2 _ _) (PySem.list_append l its.toArray n u (by rw [List.size_toArray]; omega)) ⟨e, ?_⟩
  refine ⟨.non, _, I.lset (its' := its ++ [u]) hH e (by simp) (r.append (.cons ru .nil)) ?_, rfl, q⟩
  rw [List.length_append, List.length_singleton]
  omega

noncomputable def rExtend : V → List V → Hp → VK → Prop := fun x vs H Q => ∃ l b xs zs, x = .ref l ∧ vs = [.ref b] ∧ H l = some (.lst xs) ∧ H b = some (.lst zs) ∧ xs.length + zs.length ≤ sizeLine ∧ Q .non (upd H l (.lst (xs ++ zs)))
noncomputable def rPop : V → List V → Hp → VK → Prop := fun x vs H Q => ∃ l xs y, x = .ref l ∧ vs = [] ∧ H l = some (.lst xs) ∧ xs[xs.length - 1]? = some y ∧ Q y (upd H l (.lst xs.dropLast))
noncomputable def rPopAt : V → List V → Hp → VK → Prop := fun x vs H Q => ∃ l xs i k y, x = .ref l ∧ vs = [.int i] ∧ H l = some (.lst xs) ∧ -(2 ^ 63) ≤ i ∧ i < 2 ^ 63 ∧ seqIndex? i xs.length = some k ∧ xs[k]? = some y ∧ Q y (upd H l (.lst (xs.eraseIdx k)))
noncomputable def rReverse : V → List V → Hp → VK → Prop := fun x vs H Q => ∃ l xs, x = .ref l ∧ vs = [] ∧ H l = some (.lst xs) ∧ Q .non (upd H l (.lst xs.reverse))
noncomputable def rClear : V → List V → Hp → VK → Prop := fun x vs H Q => ∃ l xs, x = .ref l ∧ vs = [] ∧ H l = some (.lst xs) ∧ Q .non (upd H l (.lst []))
noncomputable def rCat : R2 := fun x y H Q => ∃ l b xs zs, x = .ref l ∧ y = .ref b ∧ H l = some (.lst xs) ∧ H b = some (.lst zs) ∧ xs.length + zs.length ≤ sizeLine ∧ ∀ p, H p = none → Q (.ref p) (upd H p (.lst (xs ++ zs)))
noncomputable def rRep : R2 := fun x y H Q => ∃ l k xs, x = .ref l ∧ y = .int k ∧ H l = some (.lst xs) ∧ -(2 ^ 63) ≤ k ∧ k < 2 ^ 63 ∧ xs.length * k.toNat ≤ sizeLine ∧
  ∀ p, H p = none → Q (.ref p) (upd H p (.lst (List.replicate k.toNat xs).flatten))
end

section
variable {prog : Program} {w : World} {A : Around} {E : Value → Shared → Prop} {s : Shared}
set_option maxRecDepth 100000 in
end

section
variable {X : Cx}
end
end L2.Internal

namespace Att.Internal
open PySem PySem.W PySem.Calls PyProof.Rows

theorem ints_of_wellAll {P : Params} {h : Heap} : ∀ (ns : List Int) (vs : List Value), WellAll P h vs (ns.map WData.int) → IntsAre vs ns := by
  intro ns
  induction ns with
  | nil =>
    intro vs w
    rw [List.map_nil] at w
    cases w
    exact .nil
  | cons n ns ih =>
    intro vs w
    rw [List.map_cons] at w
    cases w with
    | cons a b =>
      cases a
      exact .cons _ _ (ih _ b)

theorem script_of {l : OpenLaw} {n : Nat} (hn : l.most = some n) {P : Params} {h : Heap} {args : List WData} {vals : List Value}
    (hpre : l.row.toRowW.claim.pre args = true) (hwl : WellAll P h vals args) :
    ∃ a vs ns, vals = [Value.ref a] ∧ args = [WData.list (ns.map WData.int)] ∧ h.get? a = some { cls := .type "list", data := .seq vs.toArray } ∧ IntsAre vs ns ∧ ns.length ≤ n := by
  have hsh : WShape.hasAll [] args [.list .int] = true := (pre_splitW hpre).1
  have hc : l.pre.holds [] { args := args } = true := (pre_splitW hpre).2
  obtain ⟨d, r, rfl, h1, h2⟩ := hasAllW_cons hsh
  obtain rfl := hasAllW_nil h2
  obtain ⟨xs, rfl, h3⟩ := hasW_list h1
  obtain ⟨ns, rfl⟩ := items_int h3
  have hlen : ns.length ≤ n := by
    unfold OpenLaw.pre at hc
    have h4 : (WTm.not (.lt (.lit (.int (n : Int))) (.len (.arg 0)))).holds [] { args := [.list (ns.map .int)] } = true := by
      have h4 := (holds_andW hc).1
      rw [hn] at h4
      exact h4
    have h5 := condW_of h4 (w_not (w_lt w_lit (w_len_list (w_arg rfl))))
    rw [List.length_map] at h5
    refine Nat.le_of_not_lt fun q => ?_
    have q' : (n : Int) < ((ns.length : Nat) : Int) := by omega
    first
      | (rw [decide_eq_true q'] at h5; exact absurd h5 (by decide))
      | (simp at h5; omega)
  cases hwl with
  | cons w1 w2 =>
    cases w2
    cases w1 with
    | list ho hall => exact ⟨_, _, ns, rfl, rfl, ho, ints_of_wellAll ns _ hall, hlen⟩

theorem post_true (l : OpenLaw) (args : List WData) : l.row.toRowW.claim.post args (.bool true) args = true :=
  postW_of (r := l.row.toRowW) (X := (true == true))
    (show WShape.has [] (.bool true) .bool = true by first | rfl | decide | simp [WShape.has, WShape.arms, WShape.armsAll])
    (show (WTm.eq .res (.lit (.bool true))).value [] { args := args, res := some (.bool true), after := args } = some (.bool (true == true)) from w_eq_bool (w_res rfl) w_lit) rfl

theorem attach_call {l : OpenLaw} {n : Nat} {q : Program} {loose : List Str} {XP : (Str → Option Value) → Heap → Prop} {YP : World → Heap → Prop} {d : DefRec}
    (hn : l.most = some n) (hdf : d.params.defaults = [])
    (call : ∀ (w : World) (s₀ s₁ : Shared) (mg mb : Str → Option Value) (fa : Addr) (o : Obj) (pm cd doc : Value) (a : Addr) (vs : List Value) (ns : List Int),
      Ground q loose [] XP w s₀ mg mb s₁.heap → YP w s₁.heap →
      s₁.heap.get? fa = some o → o.data = .func (docDef d.name d.params d.body d.scope pm cd doc) → s₁.heap.CodeRec cd d.name → mg d.name = some (.ref fa) →
      s₁.heap.get? a = some { cls := .type "list", data := .seq vs.toArray } → IntsAre vs ns → ns.length ≤ n → s₁.gens = #[] →
      codeAny (model l.prog w) callerA (.call (.ref fa) ⟨[.ref a], []⟩) (fun r s' => r = .ok (.ret (.bool true)) ∧ OldK s₁.heap s'.heap ∧ s'.os = s₁.os ∧ AllBare s'.gens) s₁) :
    WalkO q loose XP YP l.row.toRowW d [] (fun f vs => PySem.call f vs) := by
  intro w s₀ s₁ mg mb G Y fa o pm cd doc dV kV ho hd hcd hD hmg hg args vals as hpre hlay hrd hwl hlo
  obtain rfl : dV = .none := Dflts.none hD hdf
  obtain rfl : kV = .none := Dflts.noKw hD
  obtain ⟨a, vs, ns, rfl, rfl, hobj, hints, hlen⟩ := script_of hn hpre hwl
  refine enter_call (codeAny_mono (call w s₀ s₁ mg mb fa o pm cd doc a vs ns G Y ho (fd_plain hd) hcd hmg hobj hints hlen hg) fun r s' hq => ?_)
  obtain ⟨rfl, h2, h3, h4⟩ := hq
  exact ⟨.inl ⟨.bool true, .bool true, [], rfl, fun _ => rfl, .bool true, post_true l _, fun _ => ⟨List.Pairwise.nil, fun _ hm => (nomatch hm)⟩⟩, h2, h3, h4⟩

section
variable {prog : Program} {w : World} {A : Around} {E : Value → Shared → Prop} {s : Shared} {K : Frag}

noncomputable def noObjs (h : Heap) : Heap := { h with objs := #[] }
noncomputable def ledger (h : Heap) (L d : Addr) : List (Addr × Obj) := (List.range h.objs.size).filterMap fun a => if a = L ∨ a = d then none else (h.get? a).map fun o => (a, o)
end
end Att.Internal

namespace L2.Internal
open PySem PySem.Spec PyProof.Rows

theorem vals_ints : ∀ {vs : List Value} {ns : List Int}, IntsAre vs ns → Vals (ns.map V.int) vs
  | _, _, .nil => .nil
  | _, _, .cons n t h => .cons ⟨t, rfl⟩ (vals_ints h)

noncomputable def Only (H : Hp) : Prop := ∀ b, H b = none ∨ ∃ o xs, H b = some (.frz o (.lst xs))

theorem law_call {P : Program} {w : World} {K : PySem.W.Frag} {mg mb : Str → Option Value} {CX : CXT} {k : Nat} {fa a : Addr} {fd : FuncData} {x : Str} {sp : Sp} {s₁ : Shared} {vs : List Value} {ns : List Int}
    (KX : K.In s₁.heap) (hns : s₁.heap.Ns mainGlobals mg) (hb : s₁.heap.Ns builtinsNs mb) (hbb : ∀ x : Str, x ≠ "__name__" → mb x = bootBuiltins x) (hlim : s₁.heap.NoLimit) (hg : s₁.gens = #[])
    (ha : s₁.heap.get? a = some { cls := .type "list", data := .seq vs.toArray }) (hi : IntsAre vs ns) (hl : ns.length ≤ sizeLine) (hr : Room k callerA)
    (F : ∀ base : Heap, K.In base → base.Ns mainGlobals mg → FnOk P w K mg base CX k fa fd [x] sp) (hbind : ∀ (s : Shared) (u : Value), BindsTo s fd ⟨[u], []⟩ [(x, u)])
    (hsp : ∀ H : Hp, Only H → SqL K H a (ns.map V.int) → sp [.ref a] H (fun v _ => v = .bl true) fun _ _ _ => False)
    (hCX : ∀ H e s', CX [] H s₁ (fun _ _ _ => False) e s' → False) :
    codeAny (model P w) callerA (.call (.ref fa) ⟨[.ref a], []⟩) (fun r s' => r = .ok (.ret (.bool true)) ∧ OldK s₁.heap s'.heap ∧ s'.os = s₁.os ∧ AllBare s'.gens) s₁ := by
  have rv := vals_ints hi
  have lenV := hi.length
  -- from an abstract heap in which nothing but the script may be tracked
  have core : ∀ H : Hp, Only H → SqL K H a (ns.map V.int) → HOk P w H s₁.heap → (∀ b, H b ≠ none → b = a) → (H a ≠ none → K.lookup a = none) →
      codeAny (model P w) callerA (.call (.ref fa) ⟨[.ref a], []⟩) (fun r s' => r = .ok (.ret (.bool true)) ∧ OldK s₁.heap s'.heap ∧ s'.os = s₁.os ∧ AllBare s'.gens) s₁ := by
    intro H hO hS hok hA hK
    have base_of : ∀ {b : Addr} {o : Obj}, s₁.heap.get? b = some o → H b = none → (hidT s₁.heap H).get? b = some o := fun e n => hidT_get e n
    have noA : ∀ {b : Addr} {o : Obj} {es : Array DictEntry} {ep : Nat}, s₁.heap.get? b = some o → o.data = .dict es ep → H b = none := fun {b o es ep} e d => by
      cases q : H b with
      | none => rfl
      | some u =>
        have e' : b = a := hA b (by rw [q]; simp)
        subst e'
        rw [ha] at e; cases e
        have d' : Data.seq vs.toArray _ = Data.dict es ep := d
        cases d'
    have nsK : ∀ {b : Addr} {m : Str → Option Value}, s₁.heap.Ns b m → (hidT s₁.heap H).Ns b m := fun {b m} ⟨o, es, ep, e, d, r⟩ => ⟨o, es, ep, base_of e (noA e d), d, r⟩
    have hKb : K.In (hidT s₁.heap H) := fun b o e => base_of (KX b o e) (by
      cases q : H b with
      | none => rfl
      | some u =>
        have e' : b = a := hA b (by rw [q]; simp)
        subst e'
        rw [hK (by rw [q]; simp)] at e; cases e)
    have hM : Mod K mg (hidT s₁.heap H) := ⟨hKb, nsK hns, ⟨mb, nsK hb, hbb⟩, let ⟨mc, h1, h2⟩ := hlim; ⟨mc, nsK h1, h2⟩⟩
    have e0 : Env0 P w K mg (hidT s₁.heap H) callerA [] s₁ H := ⟨rfl, hM, fun b o e => of_hidT e, Nat.le_of_eq (hidT_size _ _), trivial, fun b hb => absurd (show b ∈ ([] : List Addr) from hb) (by simp), hok, .of_eq hg⟩
    refine codeAny_mono ((F _ hKb (nsK hns)).run callerA [] s₁ H ⟨[.ref a], []⟩ [.ref a] [.ref a] _ _ hr e0 (hbind s₁ (.ref a)) (.cons rfl .nil) (hsp H hO hS)) fun r s' h => ?_
    cases r with
    | error e => exact (hCX H e s' h).elim
    | ok fl =>
      cases fl with
      | next => exact False.elim h
      | brk => exact False.elim h
      | cont => exact False.elim h
      | ret u =>
        obtain ⟨v, H', os, bare, un, hok', r', q⟩ := h
        have q' : v = .bl true := q
        subst q'
        obtain rfl : u = Value.bool true := r'
        refine ⟨rfl, OldK.of_keep fun b o e => ?_, os, bare⟩
        cases q : H b with
        | none => exact un.keep b o e q (by intro z; exact absurd (show b ∈ ([] : List Addr) from z) (by simp)) (by simp)
        | some u =>
          rcases hO b with z | ⟨ob, xs, z⟩
          · rw [q] at z; cases z
          · have z2 := un.frzs b ob _ z
            obtain ⟨e1, _⟩ := hok b _ z
            obtain ⟨e2, _⟩ := hok' b _ z2
            rw [e] at e1; cases e1
            exact e2
  cases hk : K.lookup a with
  | some o =>
    -- the script is one of the module's own objects
    have e := KX a o hk
    rw [ha] at e
    cases e
    refine core (fun _ => none) (fun _ => .inl rfl) (.inr ⟨_, vs.toArray, _, hk, rfl, rfl, rfl, by rw [List.size_toArray, lenV]; exact hl, by simpa using rv⟩) (fun b u z => by have z' : (none : Option HO) = some u := z; cases z') (fun b z => absurd rfl z) fun z => absurd rfl z
  | none =>
    refine core (fun b => if b = a then some (.frz { cls := .type "list", data := .seq vs.toArray } (.lst (ns.map V.int))) else none) (fun b => ?_) (.inl (.inr ⟨{ cls := .type "list", data := .seq vs.toArray }, if_pos rfl⟩)) (fun b u z => ?_) (fun b z => ?_) fun _ => hk
    · by_cases hb : b = a
      · exact .inr ⟨_, _, if_pos hb⟩
      · exact .inl (if_neg hb)
    · by_cases hb : b = a
      · have z' := (if_pos hb).symm.trans z
        cases z'
        subst hb
        exact ⟨ha, by rw [List.length_map]; exact hl, vs, _, rv, ha⟩
      · have z' := (if_neg hb).symm.trans z
        cases z'
    · by_cases hb : b = a
      · exact hb
      · exact absurd (if_neg hb) z
end L2.Internal

namespace L2.Internal
open PySem PySem.Spec PyProof.Rows

noncomputable abbrev KOf {K : PySem.W.Frag} {h : Heap} (_ : K.In h) : PySem.W.Frag := K

theorem walk_of {l : PySem.W.OpenLaw} {n k : Nat} {q : Program} {loose : List Str} {XP : (Str → Option Value) → Heap → Prop} {YP : World → Heap → Prop} {d : DefRec} {K : Params → PySem.W.Frag} {CX : World → CXT} {sp : World → Sp} {x : Str}
    (hn : l.most = some n) (hn2 : n ≤ sizeLine) (hdf : d.params.defaults = []) (hr : Room k callerA)
    (hY : ∀ (w : World) (h : Heap), YP w h → (K w.params).In h)
    (F : ∀ (w : World) (mg : Str → Option Value) (fa : Addr) (h : Heap), (K w.params).In h → h.Ns mainGlobals mg → mg d.name = some (.ref fa) →
      ∃ fd : FuncData, (∀ (s : Shared) (u : Value), BindsTo s fd ⟨[u], []⟩ [(x, u)]) ∧
        ∀ base : Heap, (K w.params).In base → base.Ns mainGlobals mg → FnOk l.prog w (K w.params) mg base (CX w) k fa fd [x] (sp w))
    (hsp : ∀ (w : World) (H : Hp) (a : Addr) (ns : List Int), ns.length ≤ n → Only H → SqL (K w.params) H a (ns.map V.int) → sp w [.ref a] H (fun v _ => v = .bl true) fun _ _ _ => False)
    (hCX : ∀ (w : World) (H : Hp) (s : Shared) (e : Value) (s' : Shared), CX w [] H s (fun _ _ _ => False) e s' → False) :
    PySem.W.WalkO q loose XP YP l.row.toRowW d [] (fun f vs => PySem.call f vs) := by
  refine Att.Internal.attach_call hn hdf fun w s₀ s₁ mg mb fa o pm cd doc a vs ns G Y ho hd hcd hmg hobj hints hlen hg => ?_
  have KX := hY w _ Y
  obtain ⟨fd, hb, hF⟩ := F w mg fa _ KX G.T.g hmg
  exact law_call KX G.T.g G.T.b G.T.builtins G.T.nolimit hg hobj hints (Nat.le_trans hlen hn2) hr hF hb (fun H hO hS => hsp w H a ns hlen hO hS) fun H e s' => hCX w H s₁ e s'
end L2.Internal

/- THE LAST THEOREM (shape; LID, My.* are yours):
   My.Adr: a structure of the addresses that your layer names (classes, functions); My.Txt K t: a structure (Prop) of the equations over K;
   My.txt_mk : {K} {implicit addresses ..} (e1 : nsIn K mainGlobals "law" = some (some (.ref f))) (e2 : K.lookup f = some ⟨oc, od, .func (fnOf "law" "law" params body scope dV kV doc pm an cdv ct), sl⟩) (e3 : codeIn K cdv "law" = true) .. : ∃ t, My.Txt K t

set_option maxRecDepth 100000 in
set_option maxHeartbeats 0 in
theorem PySem.Challenge.cw_LID_holds : PySem.Challenge.rw_LID.Holds := by
  w_on; o_law; k_head; (case hw => w_witness2)
  k_fill
  refine L2.Internal.walk_of (l := PySem.Challenge.rw_LID) (n := 63) (k := 40) (x := "script") (CX := fun w => ..) (sp := fun _ => My.sp_law) rfl (by decide) rfl ⟨rfl, by decide, by decide⟩ (fun w h Y => PySem.W.kIn_of Y) ?F ?S ?C
  case F =>
    intro w mg fa h KX G hmg
    have T : ∃ t, My.Txt (L2.Internal.KOf KX) t := by
      dsimp only [L2.Internal.KOf]                          -- K must stand as «<heap const> w.params» for k_is
      refine' My.txt_mk ?e1 ?e2 ?e3 ..
      (case e1 => PySem.W.k_is)                    -- in the order: a name -> its address -> its object -> its parts
      (case e2 => PySem.W.k_is)
      ..
    obtain ⟨t, T⟩ := T
    have e0 := hmg.symm.trans (PySem.W.mg_of KX G T.law)
    cases e0                                       -- fa is the law's own address
    exact ⟨_, fun s u => .of_eq rfl, fun base kb nb => My.law_fn T kb nb⟩     -- if «.of_eq rfl» comes too early: refine' ⟨_, ?b, fun base kb nb => My.law_fn T kb nb⟩; exact fun s u => .of_eq rfl
  case S => exact fun w H a ns hl hO hS => ..
  case C => exact ..
(the tactic k_is has no namespace: write k_is) -/

namespace L2.Internal
open PySem PySem.Spec PyProof.Rows

noncomputable def inClass (s : Stmt) (j : Nat) : Stmt := match s with
  | .ClassDef _ _ _ body _ _ _ _ _ _ _ => body.getD j (.Pass ⟨0, 0, 0, 0⟩)
  | _ => .Pass ⟨0, 0, 0, 0⟩
noncomputable def defArgs (s : Stmt) : Arguments := match s with
  | .FunctionDef _ a _ _ _ _ _ _ _ _ => a
  | _ => { posonlyargs := [], args := [], vararg := none, kwonlyargs := [], kw_defaults := [], kwarg := none, defaults := [] }
noncomputable def defBody (s : Stmt) : List Stmt := match s with
  | .FunctionDef _ _ b _ _ _ _ _ _ _ => b
  | _ => []
noncomputable def defScope (s : Stmt) : Scope := match s with
  | .FunctionDef _ _ _ _ _ _ sc _ _ _ => sc
  | _ => { kind := .function, names := [], isGenerator := false, isCoroutine := false }

noncomputable abbrev CX0 : CXT := fun _ _ _ _ _ _ => False
noncomputable abbrev E0 : XK := fun _ _ _ => False
theorem pass0 {X : Cx} : Passes CX0 X E0 := fun _ _ _ _ _ _ _ h => h.elim

structure Fun (K : PySem.W.Frag) (x qual : Str) (st : Stmt) (f : Addr) (fd : FuncData) : Prop where
  ex : ∃ (oc : Value) (od : Option Addr) (kV doc pm : Value) (an : Option Addr) (cdv ct : Value) (osl : Array (Option Value)),
    fd = PySem.W.fnOf x qual (defArgs st) (defBody st) (defScope st) .none kV doc pm an cdv ct ∧ K.lookup f = some ⟨oc, od, .func fd, osl⟩ ∧ PySem.W.codeIn K cdv qual = true
  kp : PySem.W.keepIn K (.ref f) = true
section
variable {P : Program} {w : World} {K : PySem.W.Frag} {mg : Str → Option Value} {base : Heap}
theorem Fun.ok {x qual : Str} {st : Stmt} {f : Addr} {fd : FuncData} {N ps : List Str} {k : Nat} {sp : Sp} (F : Fun K x qual st f fd) (S : FnScope N ps (defScope st)) (len : ∀ vs H Q E, sp vs H Q E → vs.length = ps.length)
    (hbody : ∀ (cdv : Value) (A : Around) (outer : List Env) (s : Shared) (H : Hp) (vs : List V) (Q : VK) (E : XK), Room k (A.deeper (envOfC qual (defScope st) s.heap.objs.size f cdv)) → sp vs H Q E →
      ∃ t, PSs (cxOf CX0 P w K mg base N qual (defScope st) f cdv A outer s H E).nox (defBody st) t ∧ t { nx := fun _ H' => Q .non H', rt := Q } (start N vs) H) : FnOk P w K mg base CX0 (k + 1) f fd ps sp := by
  obtain ⟨oc, od, kV, doc, pm, an, cdv, ct, osl, rfl, lk, hcd⟩ := F.ex
  refine fn_of lk hcd S len fun A outer s H vs Q E hr hsp => ?_
  obtain ⟨t, h, q⟩ := hbody cdv A outer s H vs Q E hr hsp
  exact ⟨t, h.nox, q⟩
theorem Fun.binds {x qual : Str} {st : Stmt} {f : Addr} {fd : FuncData} {ps : List Str} (F : Fun K x qual st f fd)
    (h : ∀ (kV doc pm : Value) (an : Option Addr) (cdv ct : Value) (us : List Value), us.length = ps.length → bindArgs (PySem.W.fnOf x qual (defArgs st) (defBody st) (defScope st) .none kV doc pm an cdv ct) ⟨us, []⟩ = pure (ps.zip us)) : Binds K fd ps [] := by
  obtain ⟨oc, od, kV, doc, pm, an, cdv, ct, osl, rfl, lk, hcd⟩ := F.ex
  exact .all (h kV doc pm an cdv ct)
theorem fun_mk {x qual : Str} {st : Stmt} {f : Addr} {oc : Value} {od an : Option Addr} {osl : Array (Option Value)} {kV doc pm cdv ct : Value} (l : K.lookup f = some ⟨oc, od, .func (PySem.W.fnOf x qual (defArgs st) (defBody st) (defScope st) .none kV doc pm an cdv ct), osl⟩)
    (c : PySem.W.codeIn K cdv qual = true) (k : PySem.W.keepIn K (.ref f) = true) : Fun K x qual st f (PySem.W.fnOf x qual (defArgs st) (defBody st) (defScope st) .none kV doc pm an cdv ct) := ⟨⟨oc, od, kV, doc, pm, an, cdv, ct, osl, rfl, l, c⟩, k⟩
end
theorem hu_of {A : Around} {k : Nat} (hr : Room k A) : A.units + 1 < cLine := Nat.lt_of_le_of_lt (Nat.add_le_add_left (by decide : 1 ≤ 64) _) hr.units
section
variable {X : Cx}
theorem pv (i : Nat) {x : Str} {pos : Pos} (hN : autoParam (X.N[i]? = some x) L2.Internal.auR._auto_1) (hv : Vis X.env.scope x := by first | exact Or.inl rfl | exact Or.inr (Or.inl rfl) | exact Or.inr (Or.inr rfl)) (hd : autoParam ((x == ("__debug__" : Str)) = false) L2.Internal.auD._auto_1)
    (hcd : autoParam ((x == ("__classdict__" : Str)) = false) L2.Internal.auD._auto_1) : PE X (.Name x pos) (tVar i) := pe_var hN hv hd hcd
end

theorem iteF {A B : Prop} (h : B) : if false = true then A else B := by
  rw [if_neg Bool.false_ne_true]
  exact h
theorem iteT {A B : Prop} (h : A) : if true = true then A else B := by
  rw [if_pos rfl]
  exact h
theorem ite2 {c A B : Prop} [Decidable c] (h1 : c → A) (h2 : ¬ c → B) : if c then A else B := by
  by_cases h : c
  · rw [if_pos h]
    exact h1 h
  · rw [if_neg h]
    exact h2 h
noncomputable def Same (H H' : Hp) : Prop := ∀ b o, H b = some o → H' b = some o
theorem Same.refl (H : Hp) : Same H H := fun _ _ h => h
theorem Same.trans {H H1 H2 : Hp} (a : Same H H1) (b : Same H1 H2) : Same H H2 := fun c o h => b c o (a c o h)
theorem Same.free {H H' : Hp} (e : Same H H') {l : Addr} (h : H' l = Option.none) : H l = Option.none := by
  cases q : H l with
  | none => rfl
  | some o =>
    rw [e l o q] at h
    cases h
theorem Same.seq {K : PySem.W.Frag} {H H' : Hp} {a : Addr} {xs : List V} (e : Same H H') (h : SqL K H a xs) : SqL K H' a xs := by
  rcases h with (h | ⟨o, h⟩) | h
  · exact .inl (.inl (e _ _ h))
  · exact .inl (.inr ⟨o, e _ _ h⟩)
  · exact .inr h

section
variable {X : Cx}
end
section
variable {κ : Type} [DecidableEq κ]
end
end L2.Internal
namespace L2.Internal
open PySem PySem.Spec PyProof.Rows

section
variable {X : Cx}
theorem pe_gR {x : Str} {a : Addr} {pos : Pos} (hg : Gl X x) (hm : X.mg x = some (.ref a)) (hd : autoParam ((x == ("__debug__" : Str)) = false) L2.Internal.auD._auto_1) : PE X (.Name x pos) (tC (.ref a)) := pe_glob hg hm (show RelV (.ref a) _ from rfl) hd
theorem pe_bty {x : Str} {n : String} {pos : Pos} (hg : Gl X x) (hm : X.mg x = none) (hv : bootBuiltins x = some (.type n)) (hn : autoParam (x ≠ "__name__") L2.Internal.auD._auto_1) (hd : autoParam ((x == ("__debug__" : Str)) = false) L2.Internal.auD._auto_1) : PE X (.Name x pos) (tC (.ty n)) := pe_bltn hg hm hv (show RelV (.ty n) _ from rfl) hn hd
end
theorem bt_len : bootBuiltins "len" = some (.builtin "len") := by decide +kernel
theorem bt_all : bootBuiltins "all" = some (.builtin "all") := by decide +kernel
theorem bt_sum : bootBuiltins "sum" = some (.builtin "sum") := by decide +kernel
theorem bt_isinstance : bootBuiltins "isinstance" = some (.builtin "isinstance") := by decide +kernel
theorem bt_int : bootBuiltins "int" = some (.type "int") := by decide +kernel
theorem bt_str : bootBuiltins "str" = some (.type "str") := by decide +kernel
theorem bt_bool : bootBuiltins "bool" = some (.type "bool") := by decide +kernel
theorem bt_list : bootBuiltins "list" = some (.type "list") := by decide +kernel
theorem bt_tuple : bootBuiltins "tuple" = some (.type "tuple") := by decide +kernel
theorem bt_dict : bootBuiltins "dict" = some (.type "dict") := by decide +kernel
noncomputable def strsOf : List Expr → Option (List Str)
  | [] => some []
  | .Constant (.str x) _ _ :: r => (strsOf r).map (x :: ·)
  | _ => none
noncomputable def tStrs (xs : List Str) : TA := fun _ H Q => Q (xs.map V.str) H
noncomputable def Its (x : Str) : It := ⟨fun i _ => i < x.cps.size, fun i H v H' => H' = H ∧ ∃ c, x.cps[i]? = some c ∧ v = .str ⟨#[c]⟩, fun i _ => i = x.cps.size⟩
theorem turn_str {P : Program} {w : World} {K : PySem.W.Frag} {tg : Expr} (it : Addr) (T : String) (x : Str) (t : Tok)
    (hT : ["enumerate", "zip", "dict_itemiterator", "dict_reverseitemiterator", "odict_iterator", "itertools.zip_longest", "itertools.pairwise"].contains T = false)
    (W : ∀ A : Around, A.handled = none → Walks P w A it [it] [it] x.cps.size (SignAt x) (fun i h => h.IsStrIter it T x t i))
    (hself : ∀ (A : Around) (i : Nat) (s : Shared) (Q : Value → Shared → Prop) (E : Value → Shared → Prop), s.heap.IsStrIter it T x t i → Q (.ref it) s → wpAny (model P w) A (pyIter (.ref it)) Q E s) :
    Turn P w K tg (Its x) [it] it (fun i h => h.IsStrIter it T x t i) where
  mem := by simp
  obj := fun i h st b hb => by
    have e : b = it := by simpa using hb
    subst e
    obtain ⟨o, e, c, d⟩ := st
    exact ⟨o, e, fun v z => by rw [d] at z; cases z⟩
  keep := fun i h h' st k => by
    obtain ⟨o, e, r⟩ := st
    exact ⟨o, k it (by simp) o e, r⟩
  item := by
    intro X hP hw hK hc i pins s σ H E I hf st hg
    subst hP hw hK
    obtain ⟨f0, f1, f2, f3, f4, f5⟩ := hf it (by simp)
    refine (W X.A (I.ok.hd hc)).item i s _ _ hg st fun v h' tk hv st' kk => ?_
    obtain ⟨c, u, hc', rfl⟩ := hv
    have I1 : Inv X pins σ H { s with heap := h', toks := tk } := I.turned (fun b o hb e => kk b o (by simpa using hb) e) f0 f1 f3 f4 f5
    obtain ⟨o, e, c1, d⟩ := id st'
    exact ⟨_, rfl, go_of (s := { s with heap := h', toks := tk }) e c1 d hT ⟨.str ⟨#[c]⟩, H, I1, ⟨u, rfl⟩, ⟨rfl, c, hc', rfl⟩, st', fun b hb => (hf b hb).1⟩⟩
  done := by
    intro X hP hw hK hc i pins s σ H E I hf st hg
    subst hP hw hK
    obtain ⟨f0, f1, f2, f3, f4, f5⟩ := hf it (by simp)
    have hg' : i = x.cps.size := hg
    subst hg'
    exact (W X.A (I.ok.hd hc)).done s _ _ st fun h' tk kk => ⟨rfl, I.turned (fun b o hb e => kk b o (by simpa using hb) e) f0 f1 f3 f4 f5⟩
  self := fun A i s Q E st h => hself A i s Q E st h
section
variable {X : Cx} {tg : Expr}
noncomputable def iStr (tl : TE) : TI := fun σ H R => tl σ H fun v H1 => ∃ x, v = .str x ∧ R (Its x) H1
theorem pi_str {l : Expr} {tl : TE} (hl : PE X l tl) : PI X tg l (iStr tl) := by
  intro pins s σ H R I h
  refine thn (hl pins s σ H _ I h) fun v s1 ⟨y, H1, I1, r1, q1⟩ => ?_
  obtain ⟨x, e, q⟩ := q1
  subst e
  obtain ⟨t, rfl⟩ := r1
  have fp : ∀ b ∈ [s1.heap.objs.size], FpOk X pins H1 b := fun b hb => by
    have e : b = s1.heap.objs.size := by simpa using hb
    subst e
    exact I1.fpOk (Nat.le_refl _) (I1.hok.fresh (Nat.le_refl _))
  cases ha : x.cps.all (· < 128)
  · refine wpAny_pyIter_wide ha ?_
    exact ⟨s1.heap.objs.size, [s1.heap.objs.size], _, _, H1, rfl, I1.kept (t' := s1.toks) fun b o e => Heap.get?_push_of_some _ e,
      turn_str _ "str_iterator" x t (by decide) (fun A hA => Walks.strWide hA _ x t) (fun _ _ _ _ _ st h => wpAny_pyIter_striter_wide st h), ⟨_, Heap.get?_push_size _ rfl, rfl, rfl⟩, fp, q⟩
  · refine wpAny_pyIter_ascii ha ?_
    exact ⟨s1.heap.objs.size, [s1.heap.objs.size], _, _, H1, rfl, I1.kept (t' := s1.toks) fun b o e => Heap.get?_push_of_some _ e,
      turn_str _ "str_ascii_iterator" x t (by decide) (fun A hA => Walks.strAscii hA _ x t) (fun _ _ _ _ _ st h => wpAny_pyIter_striter_ascii st h), ⟨_, Heap.get?_push_size _ rfl, rfl, rfl⟩, fp, q⟩
end
noncomputable def blk (X : Cx) (N : List Str) (scope : Scope) (cl : List (Str × Addr)) (C : Addr) (s₀ : Shared) (H₀ : Hp) (ex : List Addr) (pins : List (Addr × Obj)) : Cx :=
  { X with N := N, s₀ := s₀, H₀ := H₀, env := compEnvC scope cl C X.env, outer := X.stack, stack := X.stack, ex := ex, fn := fun _ => false, pn := X.pn ++ pins, xe := fun _ _ => False }
noncomputable def PTs (X : Cx) (cs : List Expr) (t : TT) : Prop :=
  ∀ (pins : List (Addr × Obj)) (s : Shared) (σ : St) (H : Hp) (Q : Bool → Hp → Prop), Inv X pins σ H s → t σ H Q →
    wpAny (model X.prog X.w) X.A (forIn cs true fun c r => if r = true then do let ok ← isTrue c X.env (eval c X.env); pure (ForInStep.yield ok) else pure (ForInStep.yield r)) (TP X pins σ Q) X.xe s
noncomputable def tAlways : TT := fun _ H Q => Q true H
theorem pts_nil {X : Cx} : PTs X [] tAlways := fun pins s σ H Q I h => wpAny_pure ⟨H, I, h⟩
structure BlkOk (X : Cx) (N : List Str) (scope : Scope) (cl : List (Str × Addr)) (f : St → St) (i : Nat) (x : Str) : Prop where
  kind : scope.kind = .function
  cell : ∀ y ∈ scope.names, y.2 ≠ .cell
  names : ∀ y ∈ scope.names, y.2 = .local → scope.names.lookup y.1 = some .local
  clos : closureFor scope X.env = pure cl
  lk : ∀ y c, cl.lookup y = some c → X.env.cells.lookup y = some c
  has : ∀ y, ((relabel scope X.env).names.lookup y = some .cell ∨ (relabel scope X.env).names.lookup y = some .free) → ∃ c, cl.lookup y = some c
  nd : N.Nodup
  ix : N[i]? = some x
  loc : scope.names.lookup x = some .local
  len : ∀ σ, σ.length = X.N.length → (f σ).length = N.length
  val : ∀ (σ : St) (k : Nat) (y : Str) (v : V), N[k]? = some y → (f σ)[k]? = some (some v) → ∃ j : Nat, X.N[j]? = some y ∧ σ[j]? = some (some v) ∧ X.env.scope.names.lookup y = some .cell ∧ (relabel scope X.env).names.lookup y = some .cell

theorem inv_blk {X : Cx} {N : List Str} {scope : Scope} {cl : List (Str × Addr)} {f : St → St} {i : Nat} {x : Str} (B : BlkOk X N scope cl f i x) {pins : List (Addr × Obj)} {σ : St} {H : Hp} {s : Shared} {h₁ : Heap} {tk : Nat} {m : Str → Option Value} {ex : List Addr}
    (I : Inv X pins σ H s) (hex : ∀ b ∈ ex, FpOk X pins H b ∧ b < s.heap.objs.size) (keep : ∀ b o, s.heap.get? b = some o → h₁.get? b = some o) (hn : h₁.Ns s.heap.objs.size m) :
    Inv (blk X N scope cl s.heap.objs.size s H ex pins) [] (f σ) H { s with heap := h₁, toks := tk } := by
  have nst : ∀ b, b ≠ X.env.locals → b ∉ X.fs → b ∉ frs X.stack := fun b h1 h2 hb => (List.mem_cons.mp (I.stkSub b hb)).elim h1 h2
  have ltC : ∀ y c, X.env.cells.lookup y = some c → c < s.heap.objs.size := fun y c e => by
    obtain ⟨v, o, ho, _⟩ := I.cell y c e
    exact Heap.lt_size ho
  refine ⟨⟨I.ok.mod, B.kind, I.ok.glob, I.ok.blt, Nat.le_refl _, fun y z c h1 h2 => I.ok.inj y z c (B.lk y c h1) (B.lk z c h2), fun y hy => B.has y hy, fun y c h => (nomatch h), I.ok.hd, I.ok.frames, .inl rfl, fun b hb => ?_, I.bs, Nat.le_trans I.ok.bsz I.sz, fun b o e hb => ?_, fun b hb => ?_, I.stack, I.stkFree⟩,
    rfl, I.bare, Un.kept keep, ⟨m, hn, fun k y v e1 e2 e3 => ?_⟩, fun y c e => ?_, I.hok.fresh (Nat.le_refl _), fun y c e => I.freeC y c (B.lk y c e), fun p hp => ?_, I.hok.kept keep, B.len σ I.len⟩
  · obtain ⟨⟨_, _, _, _, hc, _⟩, lt⟩ := hex b hb
    exact ⟨Nat.ne_of_lt lt, fun y c e => hc y c (B.lk y c e)⟩
  · obtain ⟨⟨_, _, _, h4, _, _⟩, _⟩ := hex b hb
    rcases h4 with z | z
    · exact I.ok.noex b o e z
    · exact absurd (Nat.lt_of_lt_of_le (Heap.lt_size (I.ok.bs b o e).1) z) (Nat.lt_irrefl _)
  · obtain ⟨⟨_, h2, h3, _, _, _⟩, _⟩ := hex b hb
    exact nst b h2 h3
  · obtain ⟨j, h1, h2, h3, h4⟩ := B.val σ k y v e1 e2
    obtain ⟨m', _, hl⟩ := I.loc
    obtain ⟨u, r, l⟩ := hl j y v h1 h2 (.inr (.inl h3))
    refine ⟨u, r, ?_⟩
    rcases l with ⟨hk, _⟩ | ⟨_, c, hc, z⟩
    · have hk' : X.env.scope.names.lookup y = some .local := hk
      rw [h3] at hk'
      cases hk'
    · obtain ⟨c', hc'⟩ := B.has y (.inl h4)
      have e : c' = c := Option.some.inj ((B.lk y c' hc').symm.trans hc)
      subst e
      obtain ⟨o, ho, hd⟩ := z
      exact .inr ⟨.inl h4, c', hc', o, keep _ o ho, hd⟩
  · obtain ⟨v, o, ho, hd⟩ := I.cell y c (B.lk y c e)
    exact ⟨v, o, keep _ o ho, hd⟩
  · rw [List.append_nil] at hp
    obtain ⟨e, n, ne, nf, d⟩ := I.pin p hp
    exact ⟨keep _ _ e, n, Nat.ne_of_lt (Heap.lt_size e), nst _ ne nf, d⟩

theorem lookup_relabel {env : Env} : ∀ {names : List (Str × NameKind)} {x : Str} {k : NameKind},
    (names.map fun (n, k) => if (k == NameKind.free && env.scope.kind == .function && env.kindOf n == some .cell) then (n, NameKind.cell) else (n, k)).lookup x = some k →
    ∃ k0, names.lookup x = some k0 ∧ (k = k0 ∨ (k0 = .free ∧ k = .cell))
  | [], _, _, h => by simp at h
  | (n, k0) :: r, x, k, h => by
    have ih := @lookup_relabel env r x k
    have h : List.lookup x ((if (k0 == NameKind.free && env.scope.kind == .function && env.kindOf n == some .cell) = true then (n, NameKind.cell) else (n, k0)) :: (r.map fun (n, k) => if (k == NameKind.free && env.scope.kind == .function && env.kindOf n == some .cell) then (n, NameKind.cell) else (n, k))) = some k := h
    cases hx : x == n with
    | true =>
      by_cases hc : (k0 == NameKind.free && env.scope.kind == .function && env.kindOf n == some .cell) = true
      · rw [if_pos hc] at h
        simp only [List.lookup_cons, hx] at h ⊢
        have hf : k0 = .free := by
          have hc' := hc
          simp only [Bool.and_eq_true] at hc'
          exact eq_of_beq hc'.1.1
        exact ⟨k0, rfl, .inr ⟨hf, (Option.some.inj h).symm⟩⟩
      · rw [if_neg hc] at h
        simp only [List.lookup_cons, hx] at h ⊢
        exact ⟨k0, rfl, .inl (Option.some.inj h).symm⟩
    | false =>
      have h2 : (r.map fun (n, k) => if (k == NameKind.free && env.scope.kind == .function && env.kindOf n == some .cell) then (n, NameKind.cell) else (n, k)).lookup x = some k := by
        by_cases hc : (k0 == NameKind.free && env.scope.kind == .function && env.kindOf n == some .cell) = true
        · rw [if_pos hc] at h; simp only [List.lookup_cons, hx] at h; exact h
        · rw [if_neg hc] at h; simp only [List.lookup_cons, hx] at h; exact h
      obtain ⟨k1, e1, e2⟩ := ih h2
      exact ⟨k1, by simp only [List.lookup_cons, hx]; exact e1, e2⟩
theorem lookup_relabel_free {env : Env} (hk : env.scope.kind = .function) : ∀ {names : List (Str × NameKind)} {x : Str}, env.scope.names.lookup x = some .cell → names.lookup x = some .free →
    (names.map fun (n, k) => if (k == NameKind.free && env.scope.kind == .function && env.kindOf n == some .cell) then (n, NameKind.cell) else (n, k)).lookup x = some .cell
  | [], _, _, h => by simp at h
  | (n, k0) :: r, x, hc, h => by
    have ih := @lookup_relabel_free env hk r x hc
    show List.lookup x ((if (k0 == NameKind.free && env.scope.kind == .function && env.kindOf n == some .cell) = true then (n, NameKind.cell) else (n, k0)) :: _) = _
    cases hx : x == n with
    | true =>
      simp only [List.lookup_cons, hx] at h
      cases h
      have e : x = n := eq_of_beq hx
      have hc' : env.kindOf n = some .cell := by rw [← e]; exact hc
      simp [List.lookup_cons, hx, hk, hc']
    | false =>
      simp only [List.lookup_cons, hx] at h
      by_cases hq : (k0 == NameKind.free && env.scope.kind == .function && env.kindOf n == some .cell) = true
      · rw [if_pos hq]; simp only [List.lookup_cons, hx]; exact ih h
      · rw [if_neg hq]; simp only [List.lookup_cons, hx]; exact ih h
noncomputable def LcP (J : It) (i : Nat) (tt : TT) (te : TE) (Q : VK) (τ : St) (H1 : Hp) (D : Addr) : Prop :=
  ∃ W : Nat → Nat → St → Hp → Prop, (∃ m, W 0 m τ (upd H1 D (.lst []))) ∧ ∀ k m σ' H2, W k m σ' H2 →
    (J.stop k H2 ∧ Q (.ref D) H2) ∨ (J.go k H2 ∧ ∀ v H3, J.yld k H2 v H3 → tt (σ'.set i (some v)) H3 fun ok H4 => if ok = true
      then te (σ'.set i (some v)) H4 fun y H5 => ∃ xs, H5 D = some (.lst xs) ∧ xs.length < sizeLine ∧ ∃ m', m' < m ∧ W (k + 1) m' (σ'.set i (some v)) (upd H5 D (.lst (xs ++ [y])))
      else ∃ m', m' < m ∧ W (k + 1) m' (σ'.set i (some v)) H4)
noncomputable def tLC (wi : TI) (f : St → St) (i : Nat) (tt : TT) (te : TE) : TE := fun σ H Q => wi σ H fun J H1 => ∀ D, H1 D = none → LcP J i tt te Q (f σ) H1 D

theorem pe_lc {X : Cx} {elt iter : Expr} {x : Str} {px : Pos} {ifs : List Expr} {scope : Scope} {pos : Pos} {N : List Str} {cl : List (Str × Addr)} {f : St → St} {i : Nat} {wi : TI} {tt : TT} {te : TE}
    (hc : X.calm = true) (B : BlkOk X N scope cl f i x) (hi : PI X (.Name x px) iter wi)
    (htt : ∀ C s₀ H₀ ex pins, PTs (blk X N scope cl C s₀ H₀ ex pins) ifs tt) (hte : ∀ C s₀ H₀ ex pins, PE (blk X N scope cl C s₀ H₀ ex pins) elt te)
    (hs : autoParam (∀ x, foldedSetIterable iter X.env x = pure x) L2.Internal.auI._auto_1) : PE X (.ListComp elt [⟨.Name x px, iter, ifs, 0⟩] scope pos) (tLC wi f i tt te) := by
  intro pins s σ H Q I h
  rw [eval_ListComp]
  refine wpAny_comprehension_free (use := none) rfl hs B.clos B.kind B.names (thn (hi pins s σ H _ I h) fun xv s1 h1 => thn h1 fun itv s2 h2 => ?_)
  obtain ⟨it, fp, tn, J, H2, rfl, I2, T, st2, f2, q⟩ := h2
  have hD : H2 s2.heap.objs.size = none := I2.fresh
  obtain ⟨W, ⟨m0, w0⟩, turn⟩ := q _ hD
  refine wpAny_newObj_type (wpAny_newFunctionEnv B.cell (by intro y hy; simp at hy) (fun h₁ hns₁ hsb₁ => ?_) B.kind)
  have I3 : Inv X pins σ (upd H2 s2.heap.objs.size (.lst [])) { s2 with heap := s2.heap.push { cls := .type "list", data := .seq ([] : List Value).toArray } } := I2.lnew (its := []) (ys := []) (t' := s2.toks) .nil (Nat.zero_le _)
  have lt2 : ∀ b ∈ fp, b < s2.heap.objs.size := fun b hb => by
    obtain ⟨o, ho, _⟩ := T.obj _ _ st2 b hb
    exact Heap.lt_size ho
  have fp3 : ∀ b ∈ fp, FpOk X pins (upd H2 s2.heap.objs.size (.lst [])) b := fun b hb => by
    refine ⟨?_, (f2 b hb).2⟩
    rw [upd_ne (Nat.ne_of_lt (lt2 b hb))]
    exact (f2 b hb).1
  generalize hs3 : ({ s2 with heap := s2.heap.push { cls := .type "list", data := .seq ([] : List Value).toArray } } : Shared) = s3 at I3 hns₁ hsb₁ ⊢
  have eh : s2.heap.push { cls := .type "list", data := .seq ([] : List Value).toArray } = s3.heap := by rw [← hs3]
  have lt3 : ∀ b ∈ fp, b < s3.heap.objs.size := fun b hb => by
    rw [← eh, Heap.size_push]
    exact Nat.lt_succ_of_lt (lt2 b hb)
  have old : ∀ b o, s3.heap.get? b = some o → h₁.get? b = some o := fun b o e => hsb₁.extBut b o (Nat.ne_of_lt (Heap.lt_size e)) (Heap.get?_push_of_some _ e)
  have I4 := inv_blk (tk := s3.toks + ([] : List (Str × Value)).length) B I3 (ex := fp) (fun b hb => ⟨fp3 b hb, lt3 b hb⟩) old hns₁
  have st4 : tn 0 h₁ := T.keep _ _ _ st2 fun b _ o e => old b o (by rw [← eh]; exact Heap.get?_push_of_some _ e)
  -- the iterators in the block
  have fpB : ∀ {H' : Hp}, (∀ b ∈ fp, H' b = none) → ∀ b ∈ fp, FpOk (blk X N scope cl s3.heap.objs.size s3 (upd H2 s2.heap.objs.size (.lst [])) fp pins) [] H' b := fun {H'} hn b hb => by
    obtain ⟨_, g2, g3, g4, g5, g6⟩ := f2 b hb
    refine ⟨hn b hb, Nat.ne_of_lt (lt3 b hb), fun z => (List.mem_cons.mp (I3.stkSub b z)).elim g2 g3, .inl hb, fun y c e => g5 y c (B.lk y c e), fun p hp => ?_⟩
    rw [List.append_nil] at hp
    exact g6 p hp
  have loop : ∀ s4 : Shared, s4 = { s3 with heap := h₁, toks := s3.toks + ([] : List (Str × Value)).length } →
      codeAny (model X.prog X.w) X.A (.compLoop (.ListComp elt [⟨.Name x px, iter, ifs, 0⟩] scope pos) 0 (.ref it) (.ref s2.heap.objs.size) (compEnvC scope cl s3.heap.objs.size X.env))
        (compPost (model X.prog X.w) X.A X.xe none (EP X pins σ Q) (.ref s2.heap.objs.size) s3.heap.objs.size) s4 := by
    rintro s4 rfl
    refine codeAny_compLoop_tests (I := fun n s' => ∃ k σ' H', Inv (blk X N scope cl s3.heap.objs.size s3 (upd H2 s2.heap.objs.size (.lst [])) fp pins) [] σ' H' s' ∧ tn k s'.heap ∧ (∀ b ∈ fp, H' b = none) ∧ W k n σ' H') ?_ m0
      ⟨0, f σ, _, I4, st4, fun b hb => (fp3 b hb).1, w0⟩
    rintro n s5 ⟨k, σ5, H5, I5, st5, fr5, w5⟩
    rcases turn k n σ5 H5 w5 with ⟨stop, qn⟩ | ⟨go, step⟩
    · refine wpAny_mono (T.done (blk X N scope cl s3.heap.objs.size s3 (upd H2 s2.heap.objs.size (.lst [])) fp pins) rfl rfl rfl hc k [] s5 σ5 H5 _ I5 (fpB fr5) st5 stop) (fun r s6 h6 => ?_) fun _ _ z => z
      obtain ⟨hr, I6⟩ := h6
      subst hr
      obtain ⟨m6, hn6, _⟩ := id I6.loc
      refine ⟨m6, hn6, fun h' sb => ?_⟩
      have nC : ∀ b o, s3.heap.get? b = some o → b ≠ s3.heap.objs.size := fun b o e => Nat.ne_of_lt (Heap.lt_size e)
      have u6 : Un (frs X.stack) fp (upd H2 s2.heap.objs.size (.lst [])) H5 s3.heap s6.heap := I6.base
      have u7 : Un (frs X.stack) fp (upd H2 s2.heap.objs.size (.lst [])) H5 s3.heap h' :=
        ⟨fun b o e z1 z2 z3 => (sb.2 b (nC b o e)).trans (u6.keep b o e z1 z2 z3), fun b o e z1 z2 z3 => by
          obtain ⟨sl, e1⟩ := u6.slot b o e z1 z2 z3
          exact ⟨sl, (sb.2 b (nC b o e)).trans e1⟩, u6.free, fun b o e z => by
          obtain ⟨o', e1⟩ := u6.there b o e z
          exact ⟨o', (sb.2 b (nC b o e)).trans e1⟩, u6.tups, u6.frzs, u6.tbls⟩
      have hok7 : HOk X.prog X.w H5 h' := fun b o e => (I6.hok b o e).stay (fun c w' hcc e1 => (sb.2 c (fun z => by
          have fr : H5 s3.heap.objs.size = none := I6.free
          rcases hcc with y | y
          · rw [← y, z, fr] at e; cases e
          · rw [z, fr] at y; cases y)).trans e1) (fun _ z => z) fun _ _ z => z
      have I7 : Inv X pins σ H5 { s6 with heap := h' } := I3.call' (s' := { s6 with heap := h' }) (ch := fp) I6.os u7 hok7 I6.bare fun b hb => by
        obtain ⟨_, g2, g3, g4, g5, g6⟩ := f2 b hb
        exact ⟨g4, g2, g5, g6⟩
      exact ⟨.ref s2.heap.objs.size, H5, I7, rfl, qn⟩
    · refine wpAny_mono (T.item (blk X N scope cl s3.heap.objs.size s3 (upd H2 s2.heap.objs.size (.lst [])) fp pins) rfl rfl rfl hc k [] s5 σ5 H5 _ I5 (fpB fr5) st5 go) (fun r s6 h6 => ?_) fun _ _ z => z
      obtain ⟨u, hr, h6⟩ := h6
      subst hr
      show wpAny _ _ (pure () >>= fun _ => assign (.Name x px) (compEnvC scope cl s3.heap.objs.size X.env) u) _ _ s6
      refine wpAny_bind (wpAny_mono (show wpAny _ _ (pure ()) _ _ s6 from h6) (fun _ s7 h7 => ?_) fun _ _ z => z)
      obtain ⟨v, H7, I7, r7, y7, st7, fr7⟩ := h7
      have I7' := I7.pinned (fpB fr7) (T.obj _ _ st7)
      refine wpAny_assign_Name (store_ok (X := blk X N scope cl s3.heap.objs.size s3 (upd H2 s2.heap.objs.size (.lst [])) fp pins) I7' B.nd B.ix (.inl (lookup_relabel_local B.loc)) r7 (fun s8 I8 => ?_) (.inr (lookup_relabel_local B.loc)))
      have back : ∀ {σ9 : St} {H9 : Hp} {s9 : Shared}, Inv (blk X N scope cl s3.heap.objs.size s3 (upd H2 s2.heap.objs.size (.lst [])) fp pins) ([] ++ pinsAt fp s7.heap) σ9 H9 s9 → (∃ m', m' < n ∧ W (k + 1) m' σ9 H9) →
          ∃ m', m' < n ∧ ∃ k σ' H', Inv (blk X N scope cl s3.heap.objs.size s3 (upd H2 s2.heap.objs.size (.lst [])) fp pins) [] σ' H' s9 ∧ tn k s9.heap ∧ (∀ b ∈ fp, H' b = none) ∧ W k m' σ' H' := fun {σ9 H9 s9} I9 q9 => by
        obtain ⟨m', hm, w9⟩ := q9
        refine ⟨m', hm, k + 1, σ9, H9, I9.unpinned, T.keep _ _ _ st7 fun b hb o e => (I9.pin (b, o) (List.mem_append_right _ (List.mem_append_right _ (mem_pinsAt hb e)))).1, fun b hb => ?_, w9⟩
        obtain ⟨o, e, d⟩ := T.obj _ _ st7 b hb
        exact (I9.pin (b, o) (List.mem_append_right _ (List.mem_append_right _ (mem_pinsAt hb e)))).2.1
      refine wpAny_mono (htt _ _ _ _ _ _ s8 _ H7 _ I8 (step v H7 y7)) (fun ok s9 h9 => ?_) fun _ _ z => False.elim z
      obtain ⟨H9, I9, q9⟩ := h9
      cases ok with
      | false =>
        rw [if_neg Bool.false_ne_true]
        rw [if_neg Bool.false_ne_true] at q9
        exact back I9 q9
      | true =>
        rw [if_pos rfl]
        rw [if_pos rfl] at q9
        refine wpAny_mono (hte _ _ _ _ _ _ s9 _ H9 _ I9 q9) (fun y s10 h10 => ?_) fun _ _ z => False.elim z
        obtain ⟨v10, H10, I10, r10, xs, hx10, hz, q10⟩ := h10
        refine wpAny_mono (mt_append (X := blk X N scope cl s3.heap.objs.size s3 (upd H2 s2.heap.objs.size (.lst [])) fp pins) _ s10 _ H10 (.ref s2.heap.objs.size) [v10] _ [y] (fun _ H11 => H11 = upd H10 s2.heap.objs.size (.lst (xs ++ [v10]))) I10 rfl (.cons r10 .nil) ⟨_, xs, v10, rfl, rfl, hx10, hz, rfl⟩) (fun _ s11 h11 => ?_) fun _ _ z => False.elim z
        obtain ⟨_, H11, I11, _, e11⟩ := h11
        subst e11
        exact back I11 q10
  exact codeAny_compStart_list (loop _ rfl) (T.self _ 0 _ _ _ st4 (loop _ rfl))

section
variable {X : Cx}
theorem bools_of {bs : List Bool} : ∀ {us : List Value}, Vals (bs.map V.bl) us → us = bs.map Value.bool := by
  induction bs with
  | nil => intro us r; rw [List.map_nil] at r; cases r; rfl
  | cons n ns ih =>
    intro us r
    rw [List.map_cons] at r
    cases r with
    | cons r1 r2 =>
      cases (show _ = Value.bool n from r1)
      rw [ih r2]
      rfl
theorem range_all' (bs : List Bool) : ((List.range bs.length).all fun i => (bs[i]?).getD true) = bs.all id := by
  induction bs with
  | nil => rfl
  | cons b r ih =>
    rw [List.length_cons, List.range_succ_eq_map, List.all_cons, List.all_map, List.all_cons, ← ih]
    rfl
theorem kept_iter' {h h' : Heap} {o : Obj} (hk : ∀ b x, b ∉ [h.objs.size] → (h.push o).get? b = some x → h'.get? b = some x) : ∀ b x, h.get? b = some x → h'.get? b = some x :=
  fun b x e => hk b x (fun hm => by rw [List.mem_singleton.mp hm] at e; exact Nat.lt_irrefl _ (Heap.lt_size e)) (Heap.get?_push_of_some _ e)
theorem call_all (hc : X.calm = true) : CallR X (.builtin "all") (fun xs H Q => ∃ (a : Addr) (bs : List Bool), xs = [.ref a] ∧ SqL X.K H a (bs.map V.bl) ∧ Q (.bl (bs.all id)) H) := by
  intro pins s σ H xs us Q I r h
  obtain ⟨a, bs, rfl, ha, q⟩ := h
  obtain ⟨u, rfl, ru⟩ := vals1 r
  cases ru
  obtain ⟨its, rv, pl, hz⟩ := I.list ha
  have ei := bools_of rv
  subst ei
  have hl : s.heap.IsList a (bs.map Value.bool).toArray := pl.isList
  have hlt : a < s.heap.objs.size := by obtain ⟨_, e, _⟩ := hl; exact Heap.lt_size e
  refine call_all_walk (wpAny_pyIter_list hl ?_)
  refine ⟨s.heap.objs.size, [s.heap.objs.size, a], [s.heap.objs.size], (bs.map Value.bool).toArray.size, _, _, fun i => (bs[i]?).getD true, rfl, Walks.list (A := X.A.in1) (I.ok.hd hc) _ a (Nat.ne_of_lt hlt) (bs.map Value.bool).toArray,
    ⟨⟨_, Heap.get?_push_size _ rfl, rfl, rfl⟩, hl.push _⟩, fun i v s' Q' E' hP hQ => ?_, fun h' tk hk => ?_⟩
  · have hv : (bs.map Value.bool)[i]? = some v := by simpa using hP
    rw [List.getElem?_map] at hv
    cases e : bs[i]? with
    | none => rw [e] at hv; cases hv
    | some b =>
      rw [e] at hv
      have e2 : v = Value.bool b := (Option.some.inj hv).symm
      subst e2
      simp only [e, Option.getD_some] at hQ
      exact wpAny_truthy_bool hQ
  · have e : ((List.range (bs.map Value.bool).toArray.size).all fun i => (bs[i]?).getD true) = bs.all id := by
      rw [List.size_toArray, List.length_map]; exact range_all' bs
    rw [e]
    exact ⟨.bl (bs.all id), H, I.kept (kept_iter' hk), rfl, q⟩

noncomputable def rSlS : V → Option Int → Option Int → Hp → VK → Prop := fun x lo hi H Q => ∃ z, x = .str z ∧ z.length ≤ sizeLine ∧ Q (.str (Txt.slice z lo hi)) H
theorem sl_str : SlR X rSlS := by
  intro pins s σ H x v vl vu lo hi sl Q I rx hs pl pu h
  obtain ⟨z, rfl, hz, q⟩ := h
  obtain ⟨t, rfl⟩ := rx
  refine ⟨"str", _, F.slot_str_getitem.lookup, typeIs_str _ _ _, ?_⟩
  have fin : ∀ t' k, EP X pins σ Q (.str (Txt.slice z lo hi) t') { s with toks := k } := fun t' k => ⟨.str _, H, I.tok k, ⟨t', rfl⟩, q⟩
  cases pl with
  | none =>
    cases pu with
    | none => exact wpAny_getItem_str_slice (l := none) (u := none) (st := none) hs rfl (post_val_or_str ⟨Nat.le_trans (Txt.slice_le z _ _) hz, fun t' k => fin t' k⟩)
    | int j u => exact wpAny_getItem_str_slice (l := none) (u := some (j, u)) (st := none) hs rfl (post_val_or_str ⟨Nat.le_trans (Txt.slice_le z _ _) hz, fun t' k => fin t' k⟩)
  | int i u' =>
    cases pu with
    | none => exact wpAny_getItem_str_slice (l := some (i, u')) (u := none) (st := none) hs rfl (post_val_or_str ⟨Nat.le_trans (Txt.slice_le z _ _) hz, fun t' k => fin t' k⟩)
    | int j u => exact wpAny_getItem_str_slice (l := some (i, u')) (u := some (j, u)) (st := none) hs rfl (post_val_or_str ⟨Nat.le_trans (Txt.slice_le z _ _) hz, fun t' k => fin t' k⟩)

theorem call_isi : CallR X (.builtin "isinstance") (fun xs H Q => ∃ x v c t b, xs = [x, v] ∧ (∀ u, RelV v u → u = c) ∧ TyOf X.K H x t ∧ PySem.W.kitOne X.K t c = some b ∧ Q (.bl b) H) := by
  intro pins s σ H xs us Q I r h
  obtain ⟨x, v, c, t, b, rfl, hc, ht, hk, q⟩ := h
  obtain ⟨u, u', rfl, ru, ru'⟩ := vals2 r
  cases hc u' ru'
  exact isinst_ok I ru ht hk fun tk => ⟨.bl b, H, I.tok tk, rfl, q⟩
end
end L2.Internal
namespace L2.Internal
open PySem PySem.Spec PyProof.Rows
section
variable {X : Cx}
noncomputable def eqVs : List V → List V → Bool
  | [], [] => true
  | x :: xs, y :: ys => eqV x y && eqVs xs ys
  | _, _ => false
noncomputable def rEqL (K : PySem.W.Frag) (neg : Bool) : R2 := fun x y H Q => ∃ a b xs ys, x = .ref a ∧ y = .ref b ∧ SqL K H a xs ∧ SqL K H b ys ∧ xs.all flatV = true ∧ ys.all flatV = true ∧ Q (.bl (if neg then !eqVs xs ys else eqVs xs ys)) H
open Builtin Builtin.Str in
noncomputable def rSplit : V → List V → Hp → VK → Prop := fun x xs H Q => ∃ z y, x = .str z ∧ xs = [.str y] ∧ (y.length == 0) = false ∧ z.length + 2 ≤ sizeLine ∧ ∀ l, H l = none → Q (.ref l) (upd H l (.lst ((Txt.split z y).map V.str)))
noncomputable def PE1 (X : Cx) (e : Expr) (t : TE) : Prop :=
  ∀ (pins : List (Addr × Obj)) (s : Shared) (σ : St) (H : Hp) (Q : VK), Inv X pins σ H s → 1 ≤ s.toks → t σ H Q → wpAny (model X.prog X.w) X.A (eval e X.env) (fun u s' => 1 ≤ s'.toks ∧ EP X pins σ Q u s') X.xe s
theorem PE.one {e : Expr} {t : TE} (h : PE X e t) : PE1 X e t := fun pins s σ H Q I ht hw => wpAny_mono (wpAny_toks_of ht (h pins s σ H Q I hw)) (fun _ _ z => z) fun _ _ z => z.2
noncomputable def tRepl (to : TE) (y z : Str) : TE := fun σ H Q => to σ H fun v H1 => ∃ x, v = .str x ∧ x.length + (x.length + 1) * z.length ≤ 16777216 ∧ Q (.str (Txt.replace x y z)) H1
noncomputable def PSs1 (X : Cx) (st : List Stmt) (t : TS) : Prop :=
  ∀ (pins : List (Addr × Obj)) (s : Shared) (σ : St) (H : Hp) (D : Ends), Inv X pins σ H s → 1 ≤ s.toks → t D σ H → wpAny (model X.prog X.w) X.A (execs st X.env) (SP X pins D) X.xe s
end
end L2.Internal
namespace L2.Internal
open PySem PySem.Spec PyProof.Rows
section
variable {X : Cx} {st : Stmt} {rest : List Stmt} {t u : TS}
noncomputable def tMid (N : St → Hp → Prop) (t u : TS) : TS := fun D σ H => t { D with nx := N } σ H ∧ ∀ σ' H', N σ' H' → u D σ' H'
theorem pss_mid (N : St → Hp → Prop) (h1 : PS X st t) (h2 : PSs X rest u) : PSs X (st :: rest) (tMid N t u) := by
  intro pins s σ H D I h
  refine wpAny_execs_cons (thn (h1 pins s σ H { D with nx := N } I h.1) fun f s1 q => ?_)
  cases f with
  | next =>
    obtain ⟨σ', H', I', q⟩ := q
    exact h2 pins s1 σ' H' D I' (h.2 σ' H' q)
  | ret v => exact q
  | brk => exact q
  | cont => exact q
end
end L2.Internal
namespace L2.Internal
open PySem PySem.Spec PyProof.Rows
section
variable {P : Program} {w : World} {H H' : Hp} {h h' : Heap} {a : Addr} {o : HO}
end

structure Fl (P : Program) (w : World) (outer : List Env) (H : Hp) (s : Shared) (B : Heap) (H' : Hp) (s' : Shared) : Prop where
  os : s'.os = s.os
  bare : AllBare s'.gens
  un : Un (frs outer) [] H H' s.heap s'.heap
  hok : HOk P w H' s'.heap
  stay : B.StaysIn s'.heap
  trk : ∀ b u, H' b = some u → ∃ o, B.get? b = some o
  old : ∀ b o, s.heap.get? b = some o → b ∉ frs outer → ∃ o', B.get? b = some o'
noncomputable def CXE (P : Program) (w : World) : CXT := fun outer H s E e s' => ∃ (ea : Addr) (cls a0 : Value) (B : Heap) (H' : Hp), e = .ref ea ∧ Fl P w outer H s B H' s' ∧ Heap.FlyingW B outer ea cls a0 s'.heap ∧ E cls none H'

section
variable {X : Cx} {pins : List (Addr × Obj)} {σ : St} {H H' : Hp} {s s' : Shared} {B h : Heap}
theorem Inv.track {ea : Addr} {o : HO} (I : Inv X pins σ H s) (hn : H ea = none) (h0 : X.s₀.heap.get? ea = none) (hL : ea ≠ X.env.locals) (hC : ∀ x c, X.env.cells.lookup x = some c → c ≠ ea) (hP : ∀ p ∈ X.pn ++ pins, p.1 ≠ ea)
    (new : ObjOk X.prog X.w (upd H ea o) s.heap ea o) : Inv X pins σ (upd H ea o) s := by
  have ne : ∀ b u, H b = some u → b ≠ ea := fun b u e z => by rw [z, hn] at e; cases e
  refine ⟨I.ok, I.os, I.bare, ⟨I.base.keep, I.base.slot, fun b ob e n hx => ?_, I.base.there, fun b xs e => ?_, fun b ob u e => ?_, fun b ps e => ?_⟩, I.loc, I.cell, ?_, fun x c e => ?_, fun p hp => ?_, fun b u e => ?_, I.len⟩
  · rw [upd_ne (fun z => by rw [z, h0] at e; cases e)]
    exact I.base.free b ob e n hx
  · have e1 := I.base.tups b xs e
    rw [upd_ne (ne b _ e1)]
    exact e1
  · have e1 := I.base.frzs b ob u e
    rw [upd_ne (ne b _ e1)]
    exact e1
  · obtain ⟨more, e1⟩ := I.base.tbls b ps e
    exact ⟨more, by rw [upd_ne (ne b _ e1)]; exact e1⟩
  · rw [upd_ne (Ne.symm hL)]
    exact I.free
  · rw [upd_ne (hC x c e)]
    exact I.freeC x c e
  · obtain ⟨e, n, n2, nf, d⟩ := I.pin p hp
    exact ⟨e, by rw [upd_ne (hP p hp)]; exact n, n2, nf, d⟩
  · by_cases hb : b = ea
    · subst hb
      rw [upd_same] at e
      cases e
      exact new
    · rw [upd_ne hb] at e
      exact (I.hok b u e).stay (fun _ _ _ q => q) (fun c z => by rw [upd_ne (ne c _ z)]; exact z) fun c xs z => by rw [upd_ne (ne c _ z)]; exact z
end

section
variable {P : Program} {w : World} {K : PySem.W.Frag} {mg : Str → Option Value} {base : Heap} {N : List Str} {qual : Str} {scope : Scope} {f : Addr} {cd : Value} {A : Around} {outer : List Env} {s₀ : Shared} {H₀ : Hp} {E : XK}
end

noncomputable def VEbm : List Value := [.type "ValueError", .type "Exception", .type "BaseException", .type "object"]
noncomputable abbrev ExcV (K : PySem.W.Frag) (C : Addr) : Prop := PySem.W.excIn K C VEbm "ValueError.__new__" = true
section
variable {X : Cx} {C : Addr} {E : XK} {x : Str} {np cpos pos : Pos} {e : Expr} {es : List Expr} {t : TA}
noncomputable def Leaves (X : Cx) (E : XK) : Prop := ∀ (pins : List (Addr × Obj)) (σ : St) (H : Hp) (s : Shared) (h' : Heap) (ea : Addr) (cls : Value) (vs : List Value), Inv X pins σ H s → Heap.MadeExcOf s.heap h' ea cls vs → E cls none H → X.xe (.ref ea) { s with heap := h' }
noncomputable def tRaise (C : Addr) (E : XK) (t : TA) : TS := fun _ σ H => t σ H fun vs H1 => vs.length ≤ sizeLine ∧ E (.ref C) none H1
end

section
variable {P : Program} {w : World} {K : PySem.W.Frag} {mg : Str → Option Value} {base : Heap}
end

noncomputable def excO (ea : Addr) (cls : Value) : HO := .ext fun h => ∃ o, h.get? ea = some o ∧ o.cls = cls
noncomputable abbrev Cx.hand (X : Cx) (ea : Addr) : Cx := { X with A := X.A.mark (some (.ref ea)), calm := false, xe := fun _ _ => False }
section
variable {X : Cx} {pins : List (Addr × Obj)} {σ : St} {H : Hp} {s : Shared}
end
section
variable {X : Cx} {CX : CXT} {k : Nat} {f Y : Addr} {fd : FuncData} {ps : List Str} {sp : Sp} {dvs : List V} {ds : List Value} {E : XK} {x y n : Str} {p pos pos' py hpos tpos : Pos} {e : Expr} {es : List Expr} {t : TA} {b₀ : Stmt} {body : List Stmt} {tb : TS} {i : Nat}
noncomputable def tTryAs (K : PySem.W.Frag) (Y : Addr) (sp : Sp) (dvs : List V) (i : Nat) (t : TA) (tb : TS) : TS := fun D σ H => t σ H fun vs H1 => sp (vs ++ dvs) H1 (fun _ H2 => D.nx σ H2)
  (fun cls _ H2 => PySem.W.exmOne K cls (.ref Y) = some true ∧ ∀ ea, H2 ea = none → tb { nx := fun σ' H' => D.nx (σ'.set i none) H', rt := D.rt, bk := fun σ' H' => D.bk (σ'.set i none) H', ct := fun σ' H' => D.ct (σ'.set i none) H' } (σ.set i (some (.ref ea))) (upd H2 ea (excO ea cls)))
end

section
variable {X : Cx} {e : Expr} {es : List Expr} {te : TE} {pos : Pos}
noncomputable def tFV (te : TE) : TE := fun σ H Q => te σ H fun v H1 => (∃ x, v = .str x ∧ x.length ≤ sizeLine ∧ Q (.str x) H1) ∨ ∃ i : Int, v = .int i ∧ i.natAbs.log2 < 1920 ∧ Q (.str (toString i)) H1
noncomputable def tFVr (te : TE) : TE := fun σ H Q => te σ H fun v H1 => ∃ x, v = .str x ∧ (reprText x).length ≤ sizeLine ∧ Q (.str (reprText x)) H1
noncomputable def PJ (X : Cx) (es : List Expr) (t : Str → TE) : Prop :=
  ∀ (pins : List (Addr × Obj)) (s : Shared) (σ : St) (H : Hp) (Q : VK) (acc : Str), Inv X pins σ H s → t acc σ H Q → wpAny (model X.prog X.w) X.A (joinParts acc (evalEach es X.env)) (EP X pins σ Q) X.xe s
noncomputable def tJ0 : Str → TE := fun acc _ H Q => acc.length ≤ sizeLine ∧ Q (.str acc) H
noncomputable def tJ (te : TE) (t : Str → TE) : Str → TE := fun acc σ H Q => te σ H fun v H1 => ∃ y, v = .str y ∧ (acc ++ y).length ≤ sizeLine ∧ t (acc ++ y) σ H1 Q
end
end L2.Internal
namespace L2.Internal
open PySem PySem.Spec PyProof.Rows
section
variable {X : Cx}
end
inductive Dt where
  | flat (v : V)
  | tup (l : List Dt)
  | lst (l : List Dt)
mutual
inductive At (K : PySem.W.Frag) (H : Hp) : V → Dt → Prop where
  | flat {v : V} (h : flatV v = true) : At K H v (.flat v)
  | tup {a : Addr} {xs : List V} {ds : List Dt} (h : SqT K H a xs) (hs : Ats K H xs ds) : At K H (.ref a) (.tup ds)
  | lst {a : Addr} {xs : List V} {ds : List Dt} (h : SqL K H a xs) (hs : Ats K H xs ds) : At K H (.ref a) (.lst ds)
inductive Ats (K : PySem.W.Frag) (H : Hp) : List V → List Dt → Prop where
  | nil : Ats K H [] []
  | cons {x : V} {d : Dt} {xs : List V} {ds : List Dt} (h : At K H x d) (hs : Ats K H xs ds) : Ats K H (x :: xs) (d :: ds)
end
mutual
noncomputable def eqD : Dt → Dt → Bool
  | .flat a, .flat b => eqV a b
  | .tup l, .tup m => eqDs l m
  | .lst l, .lst m => eqDs l m
  | _, _ => false
noncomputable def eqDs : List Dt → List Dt → Bool
  | [], [] => true
  | x :: xs, y :: ys => eqD x y && eqDs xs ys
  | _, _ => false
end
mutual
noncomputable def cmpD : Dt → Dt → Bool
  | .flat _, .flat _ => true
  | .tup l, .tup m => cmpDs l m
  | .lst l, .lst m => if l.length = m.length then cmpDs l m else true
  | _, _ => false
noncomputable def cmpDs : List Dt → List Dt → Bool
  | x :: xs, y :: ys => cmpD x y && cmpDs xs ys
  | _, _ => true
end
mutual
noncomputable def depD : Dt → Nat
  | .flat _ => 0
  | .tup l => depDs l + 1
  | .lst l => depDs l + 1
noncomputable def depDs : List Dt → Nat
  | [] => 0
  | x :: xs => max (depD x) (depDs xs)
end
theorem Ats.length {K : PySem.W.Frag} {H : Hp} : ∀ {xs : List V} {ds : List Dt}, Ats K H xs ds → xs.length = ds.length
  | _, _, .nil => rfl
  | _, _, .cons _ t => by rw [List.length_cons, List.length_cons, Ats.length t]
theorem Ats.get {K : PySem.W.Frag} {H : Hp} : ∀ {xs : List V} {ds : List Dt} {j : Nat} {x : V}, Ats K H xs ds → xs[j]? = some x → ∃ d, ds[j]? = some d ∧ At K H x d
  | _, _, 0, _, .cons h _, e => ⟨_, rfl, by cases e; exact h⟩
  | _, _, j + 1, _, .cons _ t, e => Ats.get (j := j) t e
  | _, _, _, _, .nil, e => by simp at e
theorem eqDs_len : ∀ (l m : List Dt), l.length ≠ m.length → eqDs l m = false
  | [], [], h => absurd rfl h
  | x :: xs, y :: ys, h => by
    rw [eqDs, eqDs_len xs ys (fun e => h (by rw [List.length_cons, List.length_cons, e])), Bool.and_false]
  | [], y :: ys, _ => by rw [eqDs]; all_goals simp
  | x :: xs, [], _ => by rw [eqDs]; all_goals simp
noncomputable def eqDat (l m : List Dt) (j : Nat) : Bool := match l[j]?, m[j]? with
  | some a, some b => eqD a b
  | _, _ => false
theorem eqDs_range : ∀ (l m : List Dt), l.length = m.length → ((List.range l.length).all fun j => eqDat l m j) = eqDs l m
  | [], [], _ => by rw [eqDs]; rfl
  | x :: xs, y :: ys, h => by
    have ih := eqDs_range xs ys (by simpa using h)
    rw [List.length_cons, List.range_succ_eq_map, List.all_cons, List.all_map, eqDs, ← ih]
    rfl
  | [], _ :: _, h => by simp at h
  | _ :: _, [], h => by simp at h
theorem cmpDs_get : ∀ {l m : List Dt} {j : Nat} {a b : Dt}, cmpDs l m = true → l[j]? = some a → m[j]? = some b → cmpD a b = true
  | x :: xs, y :: ys, 0, a, b, h, e1, e2 => by
    rw [cmpDs, Bool.and_eq_true] at h
    cases e1
    cases e2
    exact h.1
  | x :: xs, y :: ys, j + 1, a, b, h, e1, e2 => by
    rw [cmpDs, Bool.and_eq_true] at h
    exact cmpDs_get (j := j) h.2 e1 e2
  | [], _, _, _, _, _, e1, _ => by simp at e1
  | _ :: _, [], _, _, _, _, _, e2 => by simp at e2
theorem depDs_get : ∀ {l : List Dt} {j : Nat} {a : Dt}, l[j]? = some a → depD a ≤ depDs l
  | x :: xs, 0, a, e => by cases e; rw [depDs]; exact Nat.le_max_left ..
  | x :: xs, j + 1, a, e => by rw [depDs]; exact Nat.le_trans (depDs_get (j := j) e) (Nat.le_max_right ..)
  | [], _, _, e => by simp at e
theorem flat_same {v : V} (h : flatV v = true) : eqV v v = true := by
  cases v with
  | non => rfl
  | bl b => show (b == b) = true; simp
  | int i => show (i == i) = true; simp
  | str x => show (x == x) = true; simp
  | _ => exact absurd h Bool.false_ne_true
section
variable {X : Cx} {pins : List (Addr × Obj)} {σ : St} {H : Hp} {s : Shared}
mutual
theorem At.same (I : Inv X pins σ H s) : ∀ {x : V} {d e : Dt}, At X.K H x d → At X.K H x e → cmpD d e = true → eqD d e = true
  | _, _, _, .flat h, .flat _, _ => by rw [eqD]; exact flat_same h
  | _, _, _, .tup h hs, .tup h' hs', c => by
    have e := I.tuple_inj h h'
    subst e
    rw [cmpD] at c
    rw [eqD]
    exact Ats.same I hs hs' c
  | _, _, _, .lst h hs, .lst h' hs', c => by
    have e := I.list_inj h h'
    subst e
    rw [cmpD, if_pos (hs.length.symm.trans hs'.length)] at c
    rw [eqD]
    exact Ats.same I hs hs' c
  | _, _, _, .flat h, .tup _ _, _ => absurd h Bool.false_ne_true
  | _, _, _, .flat h, .lst _ _, _ => absurd h Bool.false_ne_true
  | _, _, _, .tup _ _, .flat h, _ => absurd h Bool.false_ne_true
  | _, _, _, .lst _ _, .flat h, _ => absurd h Bool.false_ne_true
  | _, _, _, .tup _ _, .lst _ _, c => by simp [cmpD] at c
  | _, _, _, .lst _ _, .tup _ _, c => by simp [cmpD] at c
theorem Ats.same (I : Inv X pins σ H s) : ∀ {xs : List V} {l m : List Dt}, Ats X.K H xs l → Ats X.K H xs m → cmpDs l m = true → eqDs l m = true
  | _, _, _, .nil, .nil, _ => by rw [eqDs]
  | _, _, _, .cons h t, .cons h' t', c => by
    rw [cmpDs, Bool.and_eq_true] at c
    rw [eqDs, At.same I h h' c.1, Ats.same I t t' c.2]
    rfl
end
noncomputable def Els (K : PySem.W.Frag) (H : Hp) (A : Around) (s : Shared) (ds es : List Dt) : Prop :=
  ∀ (j : Nat) (d1 d2 : Dt) (x y : V) (u v : Value), ds[j]? = some d1 → es[j]? = some d2 → RelV x u → RelV y v → At K H x d1 → At K H y d2 → SeqAt.EqAt A s u v (eqD d1 d2)
theorem els {A : Around} {xs ys : List V} {its its2 : List Value} {ds es : List Dt} (r : Vals xs its) (r2 : Vals ys its2) (hs : Ats X.K H xs ds) (hs' : Ats X.K H ys es) (EL : Els X.K H A s ds es) :
    ∀ j (h1 : j < its.toArray.size) (h2 : j < its2.toArray.size), SeqAt.EqAt A s its.toArray[j] its2.toArray[j] (eqDat ds es j) := fun j h1 h2 => by
  have l1 := r.length
  have l2 := r2.length
  have h1' : j < xs.length := by simp only [List.size_toArray] at h1; omega
  have h2' : j < ys.length := by simp only [List.size_toArray] at h2; omega
  obtain ⟨w1, e1, q1⟩ := r.get (List.getElem?_eq_getElem h1')
  obtain ⟨w2, e2, q2⟩ := r2.get (List.getElem?_eq_getElem h2')
  obtain ⟨d1, f1, p1⟩ := hs.get (List.getElem?_eq_getElem h1')
  obtain ⟨d2, f2, p2⟩ := hs'.get (List.getElem?_eq_getElem h2')
  have g1 : its.toArray[j] = w1 := by simpa using (List.getElem?_eq_some_iff.mp e1).2
  have g2 : its2.toArray[j] = w2 := by simpa using (List.getElem?_eq_some_iff.mp e2).2
  have ed : eqDat ds es j = eqD d1 d2 := by unfold eqDat; rw [f1, f2]
  rw [g1, g2, ed]
  exact EL j d1 d2 _ _ _ _ f1 f2 q1 q2 p1 p2
theorem tup_ans {ds es : List Dt} {n m : Nat} (h1 : n = ds.length) (h2 : m = es.length) : ((List.range (min n m)).all (eqDat ds es) && n == m) = eqD (.tup ds) (.tup es) := by
  subst h1 h2
  rw [eqD]
  by_cases hl : ds.length = es.length
  · rw [← eqDs_range ds es hl, ← hl, Nat.min_self]
    simp
  · rw [eqDs_len ds es hl, beq_eq_false_iff_ne.mpr hl, Bool.and_false]
theorem lst_ans {ds es : List Dt} {n : Nat} (h1 : n = ds.length) (h : ds.length = es.length) : ((List.range n).all (eqDat ds es)) = eqD (.lst ds) (.lst es) := by
  subst h1
  rw [eqD, ← eqDs_range ds es h]
theorem rc_tup {A : Around} {a b : Addr} {xs ys : List V} {ds es : List Dt} (I : Inv X pins σ H s) (h : SqT X.K H a xs) (hs : Ats X.K H xs ds) (h' : SqT X.K H b ys) (hs' : Ats X.K H ys es) (hu : A.units < cLine) (EL : Els X.K H A.in1 s ds es) :
    SeqAt.RcAt A s (.ref a) (.ref b) (eqD (.tup ds) (.tup es)) ∧ SeqAt.RcNeAt A s (.ref a) (.ref b) (!eqD (.tup ds) (.tup es)) := by
  obtain ⟨its, r, pl, _⟩ := I.tuple h
  obtain ⟨its2, r2, pl2, _⟩ := I.tuple h'
  have e := els r r2 hs hs' EL
  have l1 : its.toArray.size = ds.length := by rw [List.size_toArray, ← r.length, hs.length]
  have l2 : its2.toArray.size = es.length := by rw [List.size_toArray, ← r2.length, hs'.length]
  have k1 := SeqAt.RcAt.tuples (A := A) (s := s) pl pl2 hu e
  have k2 := SeqAt.RcNeAt.tuples (A := A) (s := s) pl pl2 hu e
  rw [tup_ans l1 l2] at k1 k2
  exact ⟨k1, k2⟩
theorem rc_lst {A : Around} {a b : Addr} {xs ys : List V} {ds es : List Dt} (I : Inv X pins σ H s) (h : SqL X.K H a xs) (hs : Ats X.K H xs ds) (h' : SqL X.K H b ys) (hs' : Ats X.K H ys es) (hu : A.units < cLine) (EL : ds.length = es.length → Els X.K H A.in1 s ds es) :
    SeqAt.RcAt A s (.ref a) (.ref b) (eqD (.lst ds) (.lst es)) ∧ SeqAt.RcNeAt A s (.ref a) (.ref b) (!eqD (.lst ds) (.lst es)) := by
  obtain ⟨its, r, pl, _⟩ := I.list h
  obtain ⟨its2, r2, pl2, _⟩ := I.list h'
  have l1 : its.toArray.size = ds.length := by rw [List.size_toArray, ← r.length, hs.length]
  have l2 : its2.toArray.size = es.length := by rw [List.size_toArray, ← r2.length, hs'.length]
  by_cases hl : ds.length = es.length
  · have e := els r r2 hs hs' (EL hl)
    have k1 := SeqAt.RcAt.lists (A := A) (s := s) pl.isList pl2.isList (by rw [l1, l2, hl]) hu e
    have k2 := SeqAt.RcNeAt.lists (A := A) (s := s) pl.isList pl2.isList (by rw [l1, l2, hl]) hu e
    rw [lst_ans l1 hl] at k1 k2
    exact ⟨k1, k2⟩
  · have hne : (its.toArray.size != its2.toArray.size) = true := by rw [l1, l2]; exact bne_iff_ne.mpr hl
    have k1 := SeqAt.RcAt.lists_lengths (A := A) (s := s) pl.isList pl2.isList hne hu
    have k2 := SeqAt.RcNeAt.lists_lengths (A := A) (s := s) pl.isList pl2.isList hne hu
    rw [eqD, eqDs_len ds es hl]
    exact ⟨k1, k2⟩
theorem eqAt_D (I : Inv X pins σ H s) : ∀ (n : Nat) (A : Around) {x y : V} {u v : Value} {d e : Dt}, RelV x u → RelV y v → At X.K H x d → At X.K H y e → cmpD d e = true → depD d ≤ n → A.units + n < cLine → SeqAt.EqAt A s u v (eqD d e) := by
  intro n
  induction n with
  | zero =>
    intro A x y u v d e rx ry hx hy c hd hu
    cases hx with
    | flat h =>
      cases hy with
      | flat h' => rw [eqD]; exact eqAt_V rx ry h h'
      | tup _ _ => simp [cmpD] at c
      | lst _ _ => simp [cmpD] at c
    | tup _ _ => rw [depD] at hd; omega
    | lst _ _ => rw [depD] at hd; omega
  | succ n ih =>
    intro A x y u v d e rx ry hx hy c hd hu
    cases hx with
    | flat h =>
      cases hy with
      | flat h' => rw [eqD]; exact eqAt_V rx ry h h'
      | tup _ _ => simp [cmpD] at c
      | lst _ _ => simp [cmpD] at c
    | @tup a xs ds h hs =>
      cases hy with
      | flat _ => simp [cmpD] at c
      | lst _ _ => simp [cmpD] at c
      | @tup b ys es h' hs' =>
        cases rx
        cases ry
        by_cases hab : a = b
        · subst hab
          rw [At.same I (.tup h hs) (.tup h' hs') c]
          exact SeqAt.EqAt.same _
        · rw [cmpD] at c
          rw [depD] at hd
          refine SeqAt.EqAt.of_refs hab (rc_tup I h hs h' hs' (by omega) fun j d1 d2 x y u v f1 f2 q1 q2 p1 p2 => ?_).1
          exact ih A.in1 q1 q2 p1 p2 (cmpDs_get c f1 f2) (Nat.le_trans (depDs_get f1) (by omega)) (by show A.units + 1 + n < cLine; omega)
    | @lst a xs ds h hs =>
      cases hy with
      | flat _ => simp [cmpD] at c
      | tup _ _ => simp [cmpD] at c
      | @lst b ys es h' hs' =>
        cases rx
        cases ry
        by_cases hab : a = b
        · subst hab
          rw [At.same I (.lst h hs) (.lst h' hs') c]
          exact SeqAt.EqAt.same _
        · rw [depD] at hd
          refine SeqAt.EqAt.of_refs hab (rc_lst I h hs h' hs' (by omega) fun hl j d1 d2 x y u v f1 f2 q1 q2 p1 p2 => ?_).1
          rw [cmpD, if_pos hl] at c
          exact ih A.in1 q1 q2 p1 p2 (cmpDs_get c f1 f2) (Nat.le_trans (depDs_get f1) (by omega)) (by show A.units + 1 + n < cLine; omega)
noncomputable def rEqD (K : PySem.W.Frag) (neg : Bool) : R2 := fun x y H Q => ∃ a b d e, x = .ref a ∧ y = .ref b ∧ At K H x d ∧ At K H y e ∧ cmpD d e = true ∧ depD d ≤ 100 ∧ Q (.bl (if neg then !eqD d e else eqD d e)) H
theorem rcD (I : Inv X pins σ H s) {A : Around} {a b : Addr} {d e : Dt} (hx : At X.K H (.ref a) d) (hy : At X.K H (.ref b) e) (c : cmpD d e = true) (hd : depD d ≤ 100) (hu : A.units + 101 < cLine) :
    SeqAt.RcAt A s (.ref a) (.ref b) (eqD d e) ∧ SeqAt.RcNeAt A s (.ref a) (.ref b) (!eqD d e) := by
  cases hx with
  | flat h => exact absurd h Bool.false_ne_true
  | @tup a xs ds h hs =>
    cases hy with
    | flat h => exact absurd h Bool.false_ne_true
    | lst _ _ => simp [cmpD] at c
    | @tup b ys es h' hs' =>
      rw [cmpD] at c
      rw [depD] at hd
      refine rc_tup I h hs h' hs' (by omega) fun j d1 d2 x y u v f1 f2 q1 q2 p1 p2 => ?_
      exact eqAt_D I 100 A.in1 q1 q2 p1 p2 (cmpDs_get c f1 f2) (Nat.le_trans (depDs_get f1) (by omega)) (by show A.units + 1 + 100 < cLine; omega)
  | @lst a xs ds h hs =>
    cases hy with
    | flat h => exact absurd h Bool.false_ne_true
    | tup _ _ => simp [cmpD] at c
    | @lst b ys es h' hs' =>
      rw [depD] at hd
      refine rc_lst I h hs h' hs' (by omega) fun hl j d1 d2 x y u v f1 f2 q1 q2 p1 p2 => ?_
      rw [cmpD, if_pos hl] at c
      exact eqAt_D I 100 A.in1 q1 q2 p1 p2 (cmpDs_get c f1 f2) (Nat.le_trans (depDs_get f1) (by omega)) (by show A.units + 1 + 100 < cLine; omega)
end
section
variable {X : Cx}
theorem op_eqD {k : Nat} (hr : Room k X.A) : OpR X (compareOp .Eq) (rEqD X.K false) := by
  intro pins s σ H x y v u Q I rx ry h
  obtain ⟨a, b, d, e, rfl, rfl, hx, hy, c, hd, q⟩ := h
  cases rx
  cases ry
  have hu := hr.un
  exact (rcD I hx hy c hd (by omega)).1 _ _ _ _ ⟨.bl _, H, I, rfl, q⟩
end
end L2.Internal
namespace L2.Internal
open PySem PySem.Spec PyProof.Rows
noncomputable def KDict (P : Program) (w : World) (K : PySem.W.Frag) (a : Addr) (kvs : List (Key × V)) : Prop := (a == sysModules) = false ∧ ∃ vs, KV kvs vs ∧ ∀ h : Heap, K.In h → h.DictOf (mixKind P w) a vs
noncomputable def tKNotIn (a : Addr) (kvs : List (Key × V)) (ty td : TE) : TE := fun σ H Q => ty σ H fun y H1 => td σ H1 fun x H2 => ∃ k, x = .ref a ∧ y = kV k ∧ Q (.bl (!(valV kvs k).isSome)) H2
noncomputable def tKGet (a : Addr) (kvs : List (Key × V)) (td ty : TE) : TE := fun σ H Q => td σ H fun x H1 => ty σ H1 fun y H2 => ∃ k v, x = .ref a ∧ y = kV k ∧ valV kvs k = some v ∧ Q v H2
section
variable {X : Cx} {o i : Expr} {pos : Pos} {td ty : TE} {a : Addr} {kvs : List (Key × V)}
end
end L2.Internal
namespace L2.Internal
open PySem PySem.Spec PyProof.Rows
section
variable {X : Cx}
noncomputable def repS (x : Str) (n : Nat) : Str := ⟨(List.replicate n x.cps).foldl (· ++ ·) #[]⟩
theorem rep_acc (a : Array Nat) : ∀ (k : Nat) (acc : Array Nat), ((List.replicate k a).foldl (· ++ ·) acc).size = acc.size + k * a.size
  | 0, acc => by simp
  | k + 1, acc => by
    rw [List.replicate_succ, List.foldl_cons, rep_acc a k, Array.size_append, Nat.succ_mul]
    omega
theorem rep_len (x : Str) (k : Nat) : (repS x k).length = k * x.length := by
  have z := rep_acc x.cps k #[]
  have e0 : (#[] : Array Nat).size = 0 := rfl
  rw [e0, Nat.zero_add] at z
  exact z
theorem op_rep_str : OpR X (binaryOp .Mult) (fun x y H Q => ∃ (i : Str) (n : Int), x = .str i ∧ y = .int n ∧ 2 ≤ n ∧ n < 100 ∧ 1 ≤ i.length ∧ i.length ≤ 1000 ∧ Q (.str (repS i n.toNat)) H) := by
  intro pins s σ H x y v u Q I rx ry h
  obtain ⟨i, n, rfl, rfl, h2, h9, hl, hm, q⟩ := h
  obtain ⟨t, rfl⟩ := rx
  obtain ⟨t', rfl⟩ := ry
  refine PySem.P.mul_str (by simp only [Bool.or_eq_false_iff, decide_eq_false_iff_not]; omega) (fun _ _ => ?_) (fun _ _ => ?_) ?_
  · intro z
    have z' : (2 ^ 63 - 1 : Int) / n < (i.length : Int) := z
    rw [Int.ediv_lt_iff_lt_mul (by omega)] at z'
    have : (i.length : Int) * n ≤ 1000 * 100 := Int.mul_le_mul (by omega) (by omega) (by omega) (by omega)
    omega
  · show decide _ = false
    refine decide_eq_false ?_
    have sl : sizeLine = 16777216 := sizeLine_eq
    have : i.length * n.toNat ≤ 1000 * 100 := Nat.mul_le_mul hm (by omega)
    omega
  · rw [if_neg (by omega), if_neg (by simp; omega)]
    refine ⟨?_, .str (repS i n.toNat), H, I.tok _, ⟨_, rfl⟩, q⟩
    have sl : sizeLine = 16777216 := sizeLine_eq
    have e : (repS i n.toNat).length = n.toNat * i.length := rep_len i _
    have e2 : n.toNat * i.length ≤ 100 * 1000 := Nat.mul_le_mul (by omega) hm
    show (repS i n.toNat).length ≤ _
    omega
end
section
variable {X : Cx} {k : Nat} {f Y : Addr} {fd : FuncData} {ps : List Str} {sp : Sp} {dvs : List V} {ds : List Value} {x y n : Str} {p pos pos' py hpos tpos pn : Pos} {e : Expr} {es : List Expr} {t : TA} {b₀ : Stmt} {body : List Stmt} {tb : TS} {i : Nat}
noncomputable def tTrySet (K : PySem.W.Frag) (Y : Addr) (sp : Sp) (dvs : List V) (i : Nat) (t : TA) (tb : TS) : TS := fun D σ H => t σ H fun vs H1 => sp (vs ++ dvs) H1 (fun v H2 => D.nx (σ.set i (some v)) H2)
  (fun cls _ H2 => PySem.W.exmOne K cls (.ref Y) = some true ∧ tb D σ H2)
end
end L2.Internal
namespace L2.Internal
theorem bt_min : PySem.bootBuiltins "min" = some (.builtin "min") := by decide +kernel
end L2.Internal
namespace L2.Internal
open PySem PySem.Spec PyProof.Rows
noncomputable def intsOf : List Expr → Option (List Int)
  | [] => some []
  | .Constant (.int x) _ _ :: r => (intsOf r).map (x :: ·)
  | _ => none
noncomputable def tInts (xs : List Int) : TA := fun _ H Q => Q (xs.map V.int) H
theorem pa_ints {X : Cx} : ∀ {es : List Expr} {xs : List Int}, intsOf es = some xs → PA X es (tInts xs)
  | [], xs, h => by
    have e : xs = [] := (Option.some.inj h).symm
    subst e
    exact pa_nil
  | .Constant (.int x) k p :: r, xs, h => by
    have h' : (intsOf r).map (x :: ·) = some xs := h
    obtain ⟨ys, hy, e⟩ := Option.map_eq_some_iff.mp h'
    subst e
    have ih := pa_ints (X := X) hy
    intro pos pins s σ H Q I q
    exact pa_cons (te := tC (.int x)) (t := tInts ys) pe_int ih rfl pos pins s σ H Q I q
end L2.Internal
namespace L2.Internal
open PySem PySem.Spec PyProof.Rows

section
variable {X : Cx} {pins : List (Addr × Obj)} {σ : St} {H : Hp} {s : Shared} {h' : Heap}
theorem Inv.turnedL {t' : Nat} {ch : List Addr} (I : Inv X pins σ H s) (k : ∀ b o, b ∉ ch → s.heap.get? b = some o → h'.get? b = some o) (hf : ∀ b ∈ ch, FpOk X pins H b) : Inv X pins σ H { s with heap := h', toks := t' } := by
  have nit : ∀ b u, H b = some u → b ∉ ch := fun b u e z => by
    have q := (hf b z).1
    rw [q] at e; cases e
  refine I.step (g' := s.gens) (d' := s.drawn) (ch := ch) (fun b hb => ?_) (fun b o _ _ hc e _ => k b o hc e) (fun b o _ _ hc e _ => ⟨o.slots, k b o hc e⟩) (fun _ _ _ _ n => n)
    (fun b o hc e => ⟨o, k b o hc e⟩) (fun _ _ e => e) (fun _ _ _ e => e) (fun b ps e => ⟨#[], by rw [e]; simp⟩) (fun m hm => ?_) (fun b u e => ?_) I.bare
  · obtain ⟨_, f1, _, f3, f4, f5⟩ := hf b hb
    exact ⟨f3, f1, f4, f5⟩
  · obtain ⟨o, es, ep, ho, r⟩ := hm
    exact ⟨o, es, ep, k _ o (fun z => (hf _ z).2.1 rfl) ho, r⟩
  · refine (I.hok b u e).stay (fun c v hc q => k c v ?_ q) (fun _ q => q) fun _ _ q => q
    rcases hc with z | z
    · rw [z]; exact nit b u e
    · exact nit c _ z
theorem Inv.pairNew {T : Addr} {h : Heap} {tk : Nat} {ux uy : Value} {x y : V} (I : Inv X pins σ H s) (hT : s.heap.objs.size ≤ T) (J : Inv X pins σ H { s with heap := h, toks := tk }) (ht : Tup0 h T #[ux, uy]) (rx : RelV x ux) (ry : RelV y uy) :
    H T = none ∧ Inv X pins σ (upd H T (.tup [x, y])) { s with heap := h, toks := tk } := by
  have f := I.fpOk (H' := H) hT (I.hok.fresh hT)
  refine ⟨f.1, J.track f.1 ?_ f.2.1 f.2.2.2.2.1 f.2.2.2.2.2 ⟨by show 2 ≤ sizeLine; decide, [ux, uy], .cons rx (.cons ry .nil), ht⟩⟩
  cases q : X.s₀.heap.get? T with
  | none => rfl
  | some o => exact absurd (Nat.lt_of_lt_of_le (Heap.lt_size q) (Nat.le_trans I.sz hT)) (Nat.lt_irrefl _)
end

noncomputable def Itz (K : PySem.W.Frag) (a b : Addr) : It :=
  ⟨fun i H => ∃ xs ys x y, SqL K H a xs ∧ SqL K H b ys ∧ xs[i]? = some x ∧ ys[i]? = some y,
   fun i H v H' => ∃ T x y, v = .ref T ∧ H T = none ∧ H' = upd H T (.tup [x, y]) ∧ (∀ xs, SqL K H a xs → xs[i]? = some x) ∧ ∀ ys, SqL K H b ys → ys[i]? = some y,
   fun i H => ∃ xs ys, SqL K H a xs ∧ SqL K H b ys ∧ i = min xs.length ys.length⟩
noncomputable def ZSt (z TI TO i1 i2 a b : Addr) (i : Nat) (h : Heap) : Prop := IsZip h z TI TO .none ∧ IsPair h TI (.ref i1) (.ref i2) ∧ (∃ u v, IsPair h TO u v) ∧ h.IsListIter i1 a i ∧ h.IsListIter i2 b i
theorem bt_enumerate : bootBuiltins "enumerate" = some (.type "enumerate") := by decide +kernel
theorem SqL.old {X : Cx} {pins : List (Addr × Obj)} {σ : St} {H : Hp} {s : Shared} {a : Addr} {xs : List V} (I : Inv X pins σ H s) (h : SqL X.K H a xs) : a < s.heap.objs.size := by
  obtain ⟨its, _, p, _⟩ := I.list h
  obtain ⟨o, e, _⟩ := p.isList
  exact Heap.lt_size e
noncomputable def iZip (K : PySem.W.Frag) (ta : TA) : TI := fun σ H R => ta σ H fun vs H1 => ∃ a b, vs = [.ref a, .ref b] ∧ (∃ xs, SqL K H1 a xs) ∧ (∃ ys, SqL K H1 b ys) ∧ R (Itz K a b) H1
section
variable {X : Cx}
end

noncomputable def Ite (K : PySem.W.Frag) (a : Addr) : It :=
  ⟨fun i H => ∃ xs x, SqL K H a xs ∧ xs[i]? = some x,
   fun i H v H' => ∃ T x, v = .ref T ∧ H T = none ∧ H' = upd H T (.tup [.int (i : Int), x]) ∧ ∀ xs, SqL K H a xs → xs[i]? = some x,
   fun i H => ∃ xs, SqL K H a xs ∧ i = xs.length⟩
noncomputable def ESt (e it a : Addr) (i : Nat) (h : Heap) : Prop := (∃ old, IsEnum h e it i old) ∧ h.IsListIter it a i
theorem turn_enum {P : Program} {w : World} {K : PySem.W.Frag} {es : List Expr} {kk : Nat} {tp : Pos} {a e it : Addr} (h1 : e ≠ it) (h2 : a ≠ e) (h3 : a ≠ it) : Turn P w K (.Tuple es kk tp) (Ite K a) [e, it] e (ESt e it a) where
  mem := by simp
  obj := fun i h st c hc => by
    obtain ⟨⟨old, g1⟩, ⟨o4, g4, _, d4⟩⟩ := st
    simp only [List.mem_cons, List.not_mem_nil, or_false] at hc
    rcases hc with q | q <;> subst q
    · exact ⟨_, g1, fun v q => nomatch q⟩
    · exact ⟨_, g4, fun v q => by rw [d4] at q; cases q⟩
  keep := fun i h h' st k => by
    obtain ⟨⟨old, g1⟩, g4⟩ := st
    exact ⟨⟨old, k e (by simp) _ g1⟩, g4.at fun o q => k it (by simp) o q⟩
  item := by
    intro X hP hw hK hc i pins s σ H E I hf st hg
    subst hP hw hK
    obtain ⟨xs, x, qx, ex⟩ := hg
    obtain ⟨i1s, r1, p1, z1⟩ := I.list qx
    obtain ⟨g1, g4⟩ := st
    obtain ⟨old, g1'⟩ := g1
    obtain ⟨ux, hux, rr1⟩ := r1.get ex
    have lte : e < s.heap.objs.size := Heap.lt_size g1'
    refine wpAny_pyNext_enum_item g1' g4 p1.isList (x := ux) (by simpa using hux) h1 fun k1 ho hit' hT hsz hk => ?_
    have kk1 : ∀ c o, c ∉ [e, it] → s.heap.get? c = some o → k1.get? c = some o := fun c o hc q => hk c o (fun z => hc (by simp [z])) (fun z => hc (by simp [z])) q
    have J1 : Inv X pins σ H { s with heap := k1, toks := s.toks + 1 } := I.turnedL kk1 hf
    refine ⟨.ref s.heap.objs.size, rfl, wpAny_letOwnedTupleGo_enum ho fun k2 he' sb => ?_⟩
    have J2 : Inv X pins σ H { s with heap := k2, toks := s.toks + 1 } := Inv.turnedL (s := { s with heap := k1, toks := s.toks + 1 }) (h' := k2) (t' := s.toks + 1) (ch := [e]) J1 (fun c o hc q => (sb.2 c (fun z => hc (by simp [z]))).trans q) fun c hc => hf c (by simp only [List.mem_cons, List.not_mem_nil, or_false] at hc ⊢; simp [hc])
    have ht2 : Tup0 k2 s.heap.objs.size #[.int i s.toks, ux] := ⟨_, (sb.2 _ (Nat.ne_of_gt lte)).trans hT, rfl, _, rfl, rfl⟩
    obtain ⟨fT, J3⟩ := I.pairNew (x := .int (i : Int)) (Nat.le_refl _) J2 ht2 ⟨s.toks, rfl⟩ rr1
    refine ⟨.ref s.heap.objs.size, _, J3, rfl, ⟨_, x, rfl, fT, rfl, fun l hl => by rw [I.list_inj hl qx]; exact ex⟩, ⟨⟨_, by simpa using he'⟩, hit'.at fun o y => (sb.2 it h1.symm).trans y⟩, fun c hc => ?_⟩
    rw [upd_ne (fun q => ?_)]
    · exact (hf c hc).1
    · have lt : c < s.heap.objs.size := by
        obtain ⟨o4, e4, _⟩ := g4
        simp only [List.mem_cons, List.not_mem_nil, or_false] at hc
        rcases hc with q | q <;> subst q
        · exact lte
        · exact Heap.lt_size e4
      exact absurd lt (by rw [q]; exact Nat.lt_irrefl _)
  done := by
    intro X hP hw hK hc i pins s σ H E I hf st hg
    subst hP hw hK
    obtain ⟨xs, qx, ei⟩ := hg
    obtain ⟨i1s, r1, p1, z1⟩ := I.list qx
    obtain ⟨g1, g4⟩ := st
    have W := WalksT.enumerate (prog := X.prog) (w := X.w) (I.ok.hd hc) e it a h1 h2 h3 i1s.toArray
    have l1 := r1.length
    have q : i = i1s.toArray.size := by simp only [List.size_toArray]; omega
    subst q
    exact W.done s _ _ ⟨g1, g4, p1.isList⟩ fun h1 tk hk => ⟨rfl, I.turnedL hk hf⟩
  self := fun _ _ _ _ _ st h => by
    obtain ⟨⟨old, g1⟩, _⟩ := st
    exact wpAny_pyIter_enum g1 h
noncomputable def iEnum (K : PySem.W.Frag) (ta : TA) : TI := fun σ H R => ta σ H fun vs H1 => ∃ a, vs = [.ref a] ∧ (∃ xs, SqL K H1 a xs) ∧ R (Ite K a) H1
section
variable {X : Cx}
theorem pi_enum {es : List Expr} {kk : Nat} {tp : Pos} {a : Expr} {ta : TA} {p pos : Pos} (hg : Gl X "enumerate") (hm : X.mg "enumerate" = none) (ha : PA X [a] ta) (hs : autoParam (starEach [a] X.env = [(false, eval a X.env)]) L2.Internal.auR._auto_1) :
    PI X (.Tuple es kk tp) (.Call (.Name "enumerate" p) [a] [] pos) (iEnum X.K ta) := by
  intro pins s σ H R I h
  refine Call_ (ld_blt I hg hm bt_enumerate (PyProof.Rows.callWith_type1 (thn (ha pos pins s σ H _ I h) fun us s1 ⟨vs, H1, I1, r1, q1⟩ => ?_) hs rfl))
  obtain ⟨l1, e, ⟨xs, q1⟩, q⟩ := q1
  subst e
  obtain ⟨u, rfl, ru⟩ := vals1 r1
  cases ru
  obtain ⟨i1s, w1, p1, z1⟩ := I1.list q1
  have o1 : @LT.lt Nat _ l1 s1.heap.objs.size := SqL.old I1 q1
  refine call_enumerate_list p1.isList fun h1 hE hi1 hsz hk => wpAny_pyIter_enum hE ?_
  refine ⟨_, _, _, _, H1, rfl, I1.kept (t' := s1.toks) hk, turn_enum (fun (h : @Eq Nat _ _) => by omega) (fun (h : @Eq Nat _ _) => by omega) (fun (h : @Eq Nat _ _) => by omega), ⟨⟨_, hE⟩, hi1⟩, fun c hc => ?_, q⟩
  have ge : s1.heap.objs.size ≤ c := by
    simp only [List.mem_cons, List.not_mem_nil, or_false] at hc
    rcases hc with h | h <;> rw [h] <;> first | exact Nat.le_refl _ | exact Nat.le_add_right _ _
  exact I1.fpOk ge (I1.hok.fresh ge)
end

noncomputable def LcG (J : It) (g : TG) (te : TE) (Q : VK) (τ : St) (H1 : Hp) (D : Addr) : Prop :=
  ∃ W : Nat → Nat → St → Hp → Prop, (∃ m, W 0 m τ (upd H1 D (.lst []))) ∧ ∀ k m σ' H2, W k m σ' H2 →
    (J.stop k H2 ∧ Q (.ref D) H2) ∨ (J.go k H2 ∧ ∀ v H3, J.yld k H2 v H3 → g v σ' H3 fun σ4 H4 => te σ4 H4 fun y H5 => ∃ xs, H5 D = some (.lst xs) ∧ xs.length < sizeLine ∧ ∃ m', m' < m ∧ W (k + 1) m' σ4 (upd H5 D (.lst (xs ++ [y]))))
noncomputable def tLG (wi : TI) (f : St → St) (g : TG) (te : TE) : TE := fun σ H Q => wi σ H fun J H1 => ∀ D, H1 D = none → LcG J g te Q (f σ) H1 D
theorem lookup_cap {z : Str} : ∀ {cap : List (Str × Nat × Addr)}, z ∈ cap.map (·.1) → ∃ c, (cap.map fun p => (p.1, p.2.2)).lookup z = some c
  | [], h => by simp at h
  | p :: r, h => by
    cases e : z == p.1 with
    | true => exact ⟨p.2.2, by simp only [List.map_cons, List.lookup_cons, e]⟩
    | false =>
      have q : z ∈ r.map (·.1) := by
        rcases List.mem_cons.mp h with y | y
        · rw [y] at e; simp at e
        · exact y
      obtain ⟨c, hc⟩ := lookup_cap q
      exact ⟨c, by simp only [List.map_cons, List.lookup_cons, e]; exact hc⟩
theorem blkC {X : Cx} {scope : Scope} {x : Str} (ns : List Str) (cap : List (Str × Nat × Addr)) (hns : cap.map (·.1) = ns) (hk : scope.kind = .function) (hn : ∀ p ∈ scope.names, p.2 ≠ .cell ∧ (p.2 = .free → p.1 ∈ ns)) (hl : ∀ y ∈ scope.names, y.2 = .local → scope.names.lookup y.1 = some .local)
    (hx : scope.names.lookup x = some .local) (hnd : (x :: ns).Nodup) (hc : closureFor scope X.env = pure (cap.map fun p => (p.1, p.2.2))) (hok : X.env.scope.kind = .function)
    (h : ∀ p ∈ cap, scope.names.lookup p.1 = some .free ∧ X.env.cells.lookup p.1 = some p.2.2 ∧ X.env.scope.names.lookup p.1 = some .cell ∧ X.N[p.2.1]? = some p.1) :
    BlkOk X (x :: ns) scope (cap.map fun p => (p.1, p.2.2)) (fun σ => none :: cap.map fun p => σ.getD p.2.1 none) 0 x where
  kind := hk
  cell := fun y hy => (hn y hy).1
  names := hl
  clos := hc
  lk := fun z c q => by
    have m := PySem.mem_of_lookup q
    obtain ⟨p, hp, e⟩ := List.mem_map.mp m
    cases e
    exact (h p hp).2.1
  has := fun z q => by
    refine lookup_cap ?_
    rw [hns]
    rcases q with q | q
    · obtain ⟨k0, e, q⟩ := lookup_relabel q
      have m := hn _ (PySem.mem_of_lookup e)
      rcases q with q | ⟨q, _⟩
      · exact absurd q.symm m.1
      · exact m.2 q
    · obtain ⟨k0, e, q⟩ := lookup_relabel q
      have m := hn _ (PySem.mem_of_lookup e)
      rcases q with q | ⟨q, _⟩
      · exact m.2 q.symm
      · exact m.2 q
  nd := hnd
  ix := rfl
  loc := hx
  len := fun _ _ => by simp [← hns]
  val := fun σ k z v h1 h2 => by
    cases k with
    | zero => simp at h2
    | succ k =>
      rw [← hns, List.getElem?_cons_succ, List.getElem?_map] at h1
      rw [List.getElem?_cons_succ, List.getElem?_map] at h2
      cases e : cap[k]? with
      | none => rw [e] at h1; cases h1
      | some p =>
        rw [e] at h1 h2
        have ez : p.1 = z := Option.some.inj h1
        have ev : σ.getD p.2.1 none = some v := Option.some.inj h2
        subst ez
        obtain ⟨a1, a2, a3, a4⟩ := h p (List.mem_of_getElem? e)
        rw [List.getD_eq_getElem?_getD] at ev
        refine ⟨p.2.1, a4, ?_, a3, lookup_relabel_free hok a3 a1⟩
        cases q : σ[p.2.1]? with
        | none => rw [q] at ev; cases ev
        | some o => rw [q] at ev; exact congrArg some ev

section
variable {X : Cx}
end

structure ClsM (K : PySem.W.Frag) (C : Addr) (m : Str) (f : Addr) : Prop where
  ga : PySem.W.specialIn K (.ref C) "__getattribute__" = some (some (.builtin "type.__getattribute__"))
  rd : ∃ mc, PySem.W.readsIn K C mc = true ∧ PySem.W.findCls K (.ref C) mc m = some (.val (.ref f))
  kp : PySem.W.keepIn K (.ref f) = true
section
variable {X : Cx} {CX : CXT} {k : Nat} {f C : Addr} {fd : FuncData} {ps : List Str} {sp : Sp} {dvs : List V} {ds : List Value} {E : XK} {m : Str} {pos apos : Pos} {e o : Expr} {es : List Expr} {t : TA}
theorem pe_clsm {pl : Sem Bool} (he : PE X o (tC (.ref C))) (c : ClsM X.K C m f) (F : FnOk X.prog X.w X.K X.mg X.base CX k f fd ps sp) (hr : Room k X.A) (hb : Binds X.K fd ps ds) (hd : Vals dvs ds) (hx : Passes CX X E) (ha : PA X (e :: es) t)
    (hst : autoParam (starEach (e :: es) X.env = (false, eval e X.env) :: starEach es X.env) L2.Internal.auR._auto_1) (hpl : autoParam ((backTo pos (starEach es X.env)).any (·.1) = false) L2.Internal.auR._auto_1)
    (ht : eval (.Call (.Attribute o m apos) (e :: es) [] pos) X.env = (do
      let ov ← eval o X.env
      standAt apos.atName
      let (f, first) ← holding [ov] (getMethod ov m pl)
      callWith pos f first (backTo pos (starEach (e :: es) X.env)) (backToKw pos (keywordEach [] X.env))) := by rfl) :
    PE X (.Call (.Attribute o m apos) (e :: es) [] pos) (tCall sp dvs E t) := by
  intro pins s σ H Q I h
  refine PySem.W.methodCall_KW (pl := pl) (thn (he pins s σ H (fun v H1 => v = .ref C ∧ tCall sp dvs E t σ H1 Q) I ⟨rfl, h⟩) fun u s1 ⟨x, H1, I1, rx, ex, q⟩ => ?_) ht
  subst ex
  obtain rfl : u = Value.ref C := rx
  obtain ⟨mc, hr1, hf⟩ := c.rd
  refine PySem.W.method_cls I1.kIn c.ga (PySem.W.cls_value I1.kIn hr1 hf rfl ?_)
  refine PySem.W.callWith_K (first := []) (h₀ := X.base) I.ok.mod.kin c.kp (thn (ha pos pins _ σ H1 _ (I1.tok (s1.toks + 1)) q) fun us s2 ⟨vs, H2, I2, r, q2⟩ => ⟨I2.kIn, ?_⟩) hst hpl
  exact run_fn (us := us) (vs := vs) F hr hb hd hx I2 r q2
theorem PE.or {X : Cx} {e : Expr} {t u : TE} (h : PE X e t) (h' : PE X e u) : PE X e (fun σ H Q => t σ H Q ∨ u σ H Q) := fun pins s σ H Q I hw => hw.elim (h pins s σ H Q I) (h' pins s σ H Q I)
end

section
variable {X : Cx}
theorem bt_max : bootBuiltins "max" = some (.builtin "max") := by decide +kernel
theorem call_sumA (hc : X.calm = true) : CallR X (.builtin "sum") (fun xs H Q => ∃ (a : Addr) (ns : List Int), xs = [.ref a] ∧ SqL X.K H a (ns.map V.int) ∧ ∀ n, Q (.int n) H) := by
  intro pins s σ H xs us Q I r h
  obtain ⟨a, ns, rfl, hq, q⟩ := h
  obtain ⟨u, rfl, ru⟩ := vals1 r
  cases ru
  obtain ⟨its, rv, p, hz⟩ := I.list hq
  obtain ⟨zs, e⟩ := (intsAre_of rv).allInts.items
  have l := p.isList
  rw [e] at l
  exact sum_intListG (I.ok.hd hc) l fun h' tk t' hk => ⟨.int _, H, I.kept (t' := tk) hk, ⟨_, rfl⟩, q _⟩
end

theorem ps_setLC {X : Cx} {elt iter : Expr} {x y : Str} {j : Nat} {py spos : Pos} {px : Pos} {ifs : List Expr} {scope : Scope} {pos : Pos} {N : List Str} {cl : List (Str × Addr)} {f : St → St} {i : Nat} {wi : TI} {tt : TT} {te : TE}
    (hc : X.calm = true) (B : BlkOk X N scope cl f i x) (hi : PI X (.Name x px) iter wi)
    (htt : ∀ C s₀ H₀ ex pins, PTs (blk X N scope cl C s₀ H₀ ex pins) ifs tt) (hte : ∀ C s₀ H₀ ex pins, PE (blk X N scope cl C s₀ H₀ ex pins) elt te)
    (hN : X.N.Nodup) (hj : X.N[j]? = some y) (hy : Loc X.env.scope y) (hsw : autoParam (swapsWith (.ListComp elt [⟨.Name x px, iter, ifs, 0⟩] scope pos) (some (.Name y py)) spos.line X.env = pure true) L2.Internal.auR._auto_1) (hs : autoParam (∀ x, foldedSetIterable iter X.env x = pure x) L2.Internal.auI._auto_1)
    (hf : autoParam (X.fn y = true ∨ X.env.scope.names.lookup y = some .local) L2.Internal.auL._auto_1) : PS X (.Assign [.Name y py] (.ListComp elt [⟨.Name x px, iter, ifs, 0⟩] scope pos) spos) (tAsg (tLC wi f i tt te) (gName j)) := by
  intro pins s σ H En I h
  rw [exec_Assign_Name_used _ _ _ _ hsw]
  refine wpAny_bind (wpAny_standAt (wpAny_bind ?_))
  show wpAny _ X.A (do let _ ← comprehension (.ListComp elt [⟨.Name x px, iter, ifs, 0⟩] scope pos) scope X.env _ (newList []) false (eval iter X.env) (some (assign (.Name y py) X.env))) _ _ s
  refine wpAny_bind (wpAny_mono (wpAny_comprehension_free (use := some (assign (.Name y py) X.env)) (Q := fun _ s' => SP X pins En .next s') rfl hs B.clos B.kind B.names (thn (hi pins s σ H _ I h) fun xv s1 h1 => thn h1 fun itv s2 h2 => ?_)) (fun _ s' hq => wpAny_pure (wpAny_pure hq)) fun _ _ e => e)
  obtain ⟨it, fp, tn, J, H2, rfl, I2, T, st2, f2, q⟩ := h2
  have hD : H2 s2.heap.objs.size = none := I2.fresh
  obtain ⟨W, ⟨m0, w0⟩, turn⟩ := q _ hD
  refine wpAny_newObj_type (wpAny_newFunctionEnv B.cell (by intro y hy; simp at hy) (fun h₁ hns₁ hsb₁ => ?_) B.kind)
  have I3 : Inv X pins σ (upd H2 s2.heap.objs.size (.lst [])) { s2 with heap := s2.heap.push { cls := .type "list", data := .seq ([] : List Value).toArray } } := I2.lnew (its := []) (ys := []) (t' := s2.toks) .nil (Nat.zero_le _)
  have lt2 : ∀ b ∈ fp, b < s2.heap.objs.size := fun b hb => by
    obtain ⟨o, ho, _⟩ := T.obj _ _ st2 b hb
    exact Heap.lt_size ho
  have fp3 : ∀ b ∈ fp, FpOk X pins (upd H2 s2.heap.objs.size (.lst [])) b := fun b hb => by
    refine ⟨?_, (f2 b hb).2⟩
    rw [upd_ne (Nat.ne_of_lt (lt2 b hb))]
    exact (f2 b hb).1
  generalize hs3 : ({ s2 with heap := s2.heap.push { cls := .type "list", data := .seq ([] : List Value).toArray } } : Shared) = s3 at I3 hns₁ hsb₁ ⊢
  have eh : s2.heap.push { cls := .type "list", data := .seq ([] : List Value).toArray } = s3.heap := by rw [← hs3]
  have lt3 : ∀ b ∈ fp, b < s3.heap.objs.size := fun b hb => by
    rw [← eh, Heap.size_push]
    exact Nat.lt_succ_of_lt (lt2 b hb)
  have old : ∀ b o, s3.heap.get? b = some o → h₁.get? b = some o := fun b o e => hsb₁.extBut b o (Nat.ne_of_lt (Heap.lt_size e)) (Heap.get?_push_of_some _ e)
  have I4 := inv_blk (tk := s3.toks + ([] : List (Str × Value)).length) B I3 (ex := fp) (fun b hb => ⟨fp3 b hb, lt3 b hb⟩) old hns₁
  have st4 : tn 0 h₁ := T.keep _ _ _ st2 fun b _ o e => old b o (by rw [← eh]; exact Heap.get?_push_of_some _ e)
  -- the iterators in the block
  have fpB : ∀ {H' : Hp}, (∀ b ∈ fp, H' b = none) → ∀ b ∈ fp, FpOk (blk X N scope cl s3.heap.objs.size s3 (upd H2 s2.heap.objs.size (.lst [])) fp pins) [] H' b := fun {H'} hn b hb => by
    obtain ⟨_, g2, g3, g4, g5, g6⟩ := f2 b hb
    refine ⟨hn b hb, Nat.ne_of_lt (lt3 b hb), fun z => (List.mem_cons.mp (I3.stkSub b z)).elim g2 g3, .inl hb, fun y c e => g5 y c (B.lk y c e), fun p hp => ?_⟩
    rw [List.append_nil] at hp
    exact g6 p hp
  have loop : ∀ s4 : Shared, s4 = { s3 with heap := h₁, toks := s3.toks + ([] : List (Str × Value)).length } →
      codeAny (model X.prog X.w) X.A (.compLoop (.ListComp elt [⟨.Name x px, iter, ifs, 0⟩] scope pos) 0 (.ref it) (.ref s2.heap.objs.size) (compEnvC scope cl s3.heap.objs.size X.env))
        (compPost (model X.prog X.w) X.A X.xe (some (assign (.Name y py) X.env)) (fun _ s' => SP X pins En .next s') (.ref s2.heap.objs.size) s3.heap.objs.size) s4 := by
    rintro s4 rfl
    refine codeAny_compLoop_tests (I := fun n s' => ∃ k σ' H', Inv (blk X N scope cl s3.heap.objs.size s3 (upd H2 s2.heap.objs.size (.lst [])) fp pins) [] σ' H' s' ∧ tn k s'.heap ∧ (∀ b ∈ fp, H' b = none) ∧ W k n σ' H') ?_ m0
      ⟨0, f σ, _, I4, st4, fun b hb => (fp3 b hb).1, w0⟩
    rintro n s5 ⟨k, σ5, H5, I5, st5, fr5, w5⟩
    rcases turn k n σ5 H5 w5 with ⟨stop, qn⟩ | ⟨go, step⟩
    · refine wpAny_mono (T.done (blk X N scope cl s3.heap.objs.size s3 (upd H2 s2.heap.objs.size (.lst [])) fp pins) rfl rfl rfl hc k [] s5 σ5 H5 _ I5 (fpB fr5) st5 stop) (fun r s6 h6 => ?_) fun _ _ z => z
      obtain ⟨hr, I6⟩ := h6
      subst hr
      obtain ⟨m6, hn6, _⟩ := id I6.loc
      have I7 : Inv X pins σ H5 s6 := I3.call' (s' := s6) (ch := fp) I6.os I6.base I6.hok I6.bare fun b hb => by
        obtain ⟨_, g2, g3, g4, g5, g6⟩ := f2 b hb
        exact ⟨g4, g2, g5, g6⟩
      obtain ⟨oC, es, ep, hoC, hdC, hkC⟩ := id hn6
      have hCL : s3.heap.objs.size ≠ X.env.locals := Nat.ne_of_gt I3.lt
      have I8 : Inv X (pins ++ [(s3.heap.objs.size, oC)]) σ H5 s6 := I7.pins_of fun p hp => (List.mem_append.mp hp).elim (fun z => I7.pin p (List.mem_append_right _ z)) fun z => by
        have ez : p = (s3.heap.objs.size, oC) := by simpa using z
        subst ez
        exact ⟨hoC, I6.free, hCL, I3.nofs (Nat.le_refl _), fun v q => by rw [hdC] at q; cases q⟩
      show wpAny _ X.A (assign (.Name y py) X.env (.ref s2.heap.objs.size)) _ _ s6
      refine wpAny_assign_Name (store_ok (X := X) I8 hN hj hy (v := .ref s2.heap.objs.size) rfl (fun s7 I9 => ?_) hf)
      have pC := I9.pin (s3.heap.objs.size, oC) (List.mem_append_right _ (List.mem_append_right _ (by simp)))
      refine ⟨m6, ⟨oC, es, ep, pC.1, hdC, hkC⟩, fun h' sb => ?_⟩
      refine ⟨σ.set j (some (.ref s2.heap.objs.size)), H5, ?_, qn⟩
      exact Inv.turned (h' := h') (t' := s7.toks) (it := s3.heap.objs.size) I9.unpinned (fun b o hb e => (sb.2 b hb).trans e) pC.2.1 hCL (.inr I3.sz) (fun z c e q => by
        obtain ⟨v, q2⟩ := I3.cell z c e
        exact absurd (q ▸ q2.lt) (Nat.lt_irrefl _)) fun p hp q => absurd (q ▸ Heap.lt_size (I3.pin p hp).1) (Nat.lt_irrefl _)
    · refine wpAny_mono (T.item (blk X N scope cl s3.heap.objs.size s3 (upd H2 s2.heap.objs.size (.lst [])) fp pins) rfl rfl rfl hc k [] s5 σ5 H5 _ I5 (fpB fr5) st5 go) (fun r s6 h6 => ?_) fun _ _ z => z
      obtain ⟨u, hr, h6⟩ := h6
      subst hr
      show wpAny _ _ (pure () >>= fun _ => assign (.Name x px) (compEnvC scope cl s3.heap.objs.size X.env) u) _ _ s6
      refine wpAny_bind (wpAny_mono (show wpAny _ _ (pure ()) _ _ s6 from h6) (fun _ s7 h7 => ?_) fun _ _ z => z)
      obtain ⟨v, H7, I7, r7, y7, st7, fr7⟩ := h7
      have I7' := I7.pinned (fpB fr7) (T.obj _ _ st7)
      refine wpAny_assign_Name (store_ok (X := blk X N scope cl s3.heap.objs.size s3 (upd H2 s2.heap.objs.size (.lst [])) fp pins) I7' B.nd B.ix (.inl (lookup_relabel_local B.loc)) r7 (fun s8 I8 => ?_) (.inr (lookup_relabel_local B.loc)))
      have back : ∀ {σ9 : St} {H9 : Hp} {s9 : Shared}, Inv (blk X N scope cl s3.heap.objs.size s3 (upd H2 s2.heap.objs.size (.lst [])) fp pins) ([] ++ pinsAt fp s7.heap) σ9 H9 s9 → (∃ m', m' < n ∧ W (k + 1) m' σ9 H9) →
          ∃ m', m' < n ∧ ∃ k σ' H', Inv (blk X N scope cl s3.heap.objs.size s3 (upd H2 s2.heap.objs.size (.lst [])) fp pins) [] σ' H' s9 ∧ tn k s9.heap ∧ (∀ b ∈ fp, H' b = none) ∧ W k m' σ' H' := fun {σ9 H9 s9} I9 q9 => by
        obtain ⟨m', hm, w9⟩ := q9
        refine ⟨m', hm, k + 1, σ9, H9, I9.unpinned, T.keep _ _ _ st7 fun b hb o e => (I9.pin (b, o) (List.mem_append_right _ (List.mem_append_right _ (mem_pinsAt hb e)))).1, fun b hb => ?_, w9⟩
        obtain ⟨o, e, d⟩ := T.obj _ _ st7 b hb
        exact (I9.pin (b, o) (List.mem_append_right _ (List.mem_append_right _ (mem_pinsAt hb e)))).2.1
      refine wpAny_mono (htt _ _ _ _ _ _ s8 _ H7 _ I8 (step v H7 y7)) (fun ok s9 h9 => ?_) fun _ _ z => False.elim z
      obtain ⟨H9, I9, q9⟩ := h9
      cases ok with
      | false =>
        rw [if_neg Bool.false_ne_true]
        rw [if_neg Bool.false_ne_true] at q9
        exact back I9 q9
      | true =>
        rw [if_pos rfl]
        rw [if_pos rfl] at q9
        refine wpAny_mono (hte _ _ _ _ _ _ s9 _ H9 _ I9 q9) (fun y s10 h10 => ?_) fun _ _ z => False.elim z
        obtain ⟨v10, H10, I10, r10, xs, hx10, hz, q10⟩ := h10
        refine wpAny_mono (mt_append (X := blk X N scope cl s3.heap.objs.size s3 (upd H2 s2.heap.objs.size (.lst [])) fp pins) _ s10 _ H10 (.ref s2.heap.objs.size) [v10] _ [y] (fun _ H11 => H11 = upd H10 s2.heap.objs.size (.lst (xs ++ [v10]))) I10 rfl (.cons r10 .nil) ⟨_, xs, v10, rfl, rfl, hx10, hz, rfl⟩) (fun _ s11 h11 => ?_) fun _ _ z => False.elim z
        obtain ⟨_, H11, I11, _, e11⟩ := h11
        subst e11
        exact back I11 q10
  exact codeAny_compStart_list (loop _ rfl) (T.self _ 0 _ _ _ st4 (loop _ rfl))

end L2.Internal
namespace L2.Internal
open PySem PySem.Spec PyProof.Rows

section
variable {prog : Program} {w : World} {A : Around} {E : Value → Shared → Prop} {s : Shared}
end

noncomputable abbrev zt1 (h : Heap) (t1 : Addr) : Heap := h.push { cls := .type "tuple_iterator", data := .fields #[.ref t1, .int 0 0] }
noncomputable abbrev zt2 (h : Heap) (t1 t2 : Addr) : Heap := (zt1 h t1).push { cls := .type "tuple_iterator", data := .fields #[.ref t2, .int 0 0] }
noncomputable abbrev zt3 (h : Heap) (t1 t2 : Addr) : Heap := (zt2 h t1 t2).push { cls := .type "tuple", data := .seq #[.ref h.objs.size, .ref (zt1 h t1).objs.size] }
noncomputable abbrev zt4 (h : Heap) (t1 t2 : Addr) : Heap := (zt3 h t1 t2).push { cls := .type "tuple", data := .seq #[.none, .none] }
noncomputable abbrev zt5 (h : Heap) (t1 t2 : Addr) : Heap := (zt4 h t1 t2).push { cls := .type "zip", data := .fields #[.none, .bool false, .bool false, .ref (zt2 h t1 t2).objs.size, .ref (zt3 h t1 t2).objs.size] }
section
variable {prog : Program} {w : World} {A : Around} {E : Value → Shared → Prop} {s : Shared}
end

noncomputable def Itzt (K : PySem.W.Frag) (a b : Addr) : It :=
  ⟨fun i H => ∃ xs ys x y, SqT K H a xs ∧ SqT K H b ys ∧ xs[i]? = some x ∧ ys[i]? = some y,
   fun i H v H' => ∃ T x y, v = .ref T ∧ H T = none ∧ H' = upd H T (.tup [x, y]) ∧ (∀ xs, SqT K H a xs → xs[i]? = some x) ∧ ∀ ys, SqT K H b ys → ys[i]? = some y,
   fun i H => ∃ xs ys, SqT K H a xs ∧ SqT K H b ys ∧ i = min xs.length ys.length⟩
noncomputable def ZTSt (z TI TO i1 i2 a b : Addr) (i : Nat) (h : Heap) : Prop := IsZip h z TI TO .none ∧ IsPair h TI (.ref i1) (.ref i2) ∧ (∃ u v, IsPair h TO u v) ∧ h.IsTupleIter i1 a i ∧ h.IsTupleIter i2 b i
noncomputable def iZipT (K : PySem.W.Frag) (ta : TA) : TI := fun σ H R => ta σ H fun vs H1 => ∃ a b, vs = [.ref a, .ref b] ∧ (∃ xs, SqT K H1 a xs) ∧ (∃ ys, SqT K H1 b ys) ∧ R (Itzt K a b) H1
section
variable {X : Cx}
end
end L2.Internal
namespace L2.Internal
open PySem PySem.Spec PyProof.Rows
theorem tuple_keys : typeLookup (.type "tuple") "keys" = pure none := by rw [typeLookup_type, builtinLookup_eq_fast]; kernel_rfl
section
variable {prog : Program} {w : World} {A : Around} {E : Value → Shared → Prop} {s : Shared}
theorem no_keys {a : Addr} {xs : Array Value} {k : Nat} {sl : Array (Option Value)} {Q : Option Value → Shared → Prop} (hx : s.heap.get? a = some { cls := .type "tuple", dict := none, data := .seq xs k, slots := sl }) (hA : A.handled = none)
    (q : ∀ h' tk, (∀ b o, s.heap.get? b = some o → h'.get? b = some o) → Q none { s with heap := h', toks := tk }) : wpAny (model prog w) A (getAttr? (.ref a) "keys") Q E s := by
  obtain ⟨hp, g, d, tk, os⟩ := s
  have hT : ∀ tk', (⟨hp, g, d, tk', os⟩ : Shared).TypeIs (.ref a) "tuple" := fun _ => ⟨_, hx, rfl⟩
  have f1 := sub_AttributeError
  have f3 := F.slot_tuple_getattribute.lookup
  have f4 := F.slot_tuple_getattribute.bind (.ref a)
  have f5 := am_tuple_getattr_none
  unfold getAttr? getAttrBy? getAttrBy
  repeat (any_goals (first | assumption | exact hT _ | ((with_reducible show wpAny _ _ (call (Value.builtin "tuple.__getattribute__") _ _) _ _ _); refine call_meets F.slot_tuple_getattribute (hT _) am_entry_tuple_getattribute (F.args_tuple_getattribute_2 _ _) (meets_getattribute_miss_tuple a xs k sl "keys" _ tuple_keys (by decide +kernel) (by decide +kernel)) ⟨hx, hA, fun h' tk' e hx' => ?_⟩) | wp_step))
  obtain ⟨t', u', he⟩ := hx'.there
  show wpAny _ _ (getattributeRaised _ _ _ _ _ _ _) _ _ _
  unfold getattributeRaised
  repeat (any_goals (first | assumption | wp_step))
  exact q h' tk' hx'.keeps
end

inductive Prs (H : Hp) : List V → List (Str × V) → Prop
  | nil : Prs H [] []
  | cons {a : Addr} {p : Str × V} {l : List V} {m : List (Str × V)} : H a = some (.tup [.str p.1, p.2]) → Prs H l m → Prs H (.ref a :: l) (p :: m)
theorem entry_upd_loop : entryFor table "dict.update.loop" = some Builtin.«dict.update.loop» := entryFor_of_tree (by kernel_rfl)
noncomputable def kf (p : Str × V) : Key × V := (Sum.inr p.1, p.2)
section
variable {X : Cx} {pins : List (Addr × Obj)} {σ : St} {H : Hp} {d it t : Addr} {vs : List V} {A : Around} {R : Result → Shared → Prop}
theorem upd_pairs (hA : A.handled = none) (hd : H d = none) (ht : H t = some (.tup vs)) : ∀ (rest : List (Str × V)) (ys : List V) (i : Nat) (acc : List (Key × V)) (s : Shared),
    Inv X pins σ (upd H d (.dK acc)) s → FpOk X pins (upd H d (.dK acc)) it → s.heap.IsTupleIter it t i → vs.drop i = ys → Prs H ys rest → acc.length + rest.length ≤ 1000 →
    (∀ s', Inv X pins σ (upd H d (.dK (mergeK acc (rest.map kf)))) s' → R (.ok (.ret .none)) s') →
    codeAny (model X.prog X.w) A (.builtin "dict.update.loop" ⟨[.ref d, .ref it, .int (i : Int) 0, .none], []⟩) R s
  | [], ys, i, acc, s, I, f, st, ey, hp, hn, k => by
    cases hp
    have ht' : (upd H d (.dK acc)) t = some (.tup vs) := by rw [upd_ne (ne_of_none ht hd)]; exact ht
    obtain ⟨its, rv, p, hz⟩ := I.tuple (SqT.of ht')
    obtain ⟨f0, f1, f2, f3, f4, f5⟩ := f
    have hl := rv.length
    have hi : vs.length ≤ i := List.drop_eq_nil_iff.mp ey
    refine codeAny_builtin entry_upd_loop ?_
    unfold Builtin.«dict.update.loop»
    show wpAny _ _ (pyNext (.ref it) >>= _) _ _ s
    refine wpAny_bind (wpAny_pyNext_tuple_end (by exact hA) st (show s.heap.IsTuple t its.toArray from p) (by simp; omega) fun h' eb => ?_)
    have I1 : Inv X pins σ (upd H d (.dK acc)) { s with heap := h' } := I.turned (t' := s.toks) (fun b o hb e => eb b o hb e) f0 f1 f3 f4 f5
    exact wpAny_bind (wpAny_pure (wpAny_pure (k _ I1)))
  | pr :: rest, ys, i, acc, s, I, f, st, ey, hp0, hn, k => by
    obtain ⟨a, l, rfl, ha, hp⟩ : ∃ a l, ys = .ref a :: l ∧ H a = some (.tup [.str pr.1, pr.2]) ∧ Prs H l rest := by
      cases hp0 with
      | cons h1 h2 => exact ⟨_, _, rfl, h1, h2⟩
    have ht' : (upd H d (.dK acc)) t = some (.tup vs) := by rw [upd_ne (ne_of_none ht hd)]; exact ht
    have ha' : (upd H d (.dK acc)) a = some (.tup [.str pr.1, pr.2]) := by rw [upd_ne (ne_of_none ha hd)]; exact ha
    obtain ⟨its, rv, p, hz⟩ := I.tuple (SqT.of ht')
    have ff := f
    obtain ⟨f0, f1, f2, f3, f4, f5⟩ := f
    have hvi : vs[i]? = some (.ref a) := by
      have := congrArg (·[0]?) ey
      simpa using this
    obtain ⟨u, hu, ru⟩ := rv.get hvi
    cases ru
    refine codeAny_builtin entry_upd_loop ?_
    unfold Builtin.«dict.update.loop»
    show wpAny _ _ (pyNext (.ref it) >>= _) _ _ s
    refine wpAny_bind (wpAny_pyNext_tuple_item st (show s.heap.IsTuple t its.toArray from p) (x := .ref a) (by simpa using hu) fun h' st' sb => ?_)
    have I1 : Inv X pins σ (upd H d (.dK acc)) { s with heap := h' } := I.turned (t' := s.toks) (fun b o hb e => (sb.2 b hb).trans e) f0 f1 f3 f4 f5
    obtain ⟨its2, rv2, ⟨ob, hob, hoc, on, hod⟩, _⟩ := I1.tuple (SqT.of ha')
    obtain ⟨kx, vx, rfl, ⟨tk, rfl⟩, rvx⟩ := vals2 rv2
    obtain ⟨z, hds, vs2, rel, dd⟩ := dk_of I1.hok (show (upd H d (.dK acc)) d = some (.dK acc) from upd_same)
    refine wpAny_bind (wpAny_holding (wpAny_bind (wpAny_tryCatch ?_)))
    unfold Builtin.Dict.pairItems
    refine wpAny_bind (wpAny_typeOf (T := "tuple") ⟨ob, hob, hoc⟩ ?_)
    rw [if_pos (by decide)]
    refine wpAny_bind (wpAny_seqItems hob hod ?_)
    refine wpAny_pure ?_
    show wpAny _ _ (holding [Value.str pr.1 tk, vx] (dictSet d (.str pr.1 tk) vx)) _ _ _
    have hv2 : vs2.length ≤ sizeLine := by rw [← rel.length]; exact z
    have hn' : acc.length + (rest.length + 1) ≤ 1000 := hn
    have hl : (putK acc (Sum.inr pr.1) pr.2).length ≤ 1000 := by have := length_putK acc (Sum.inr pr.1) pr.2; omega
    have hl2 : (putK acc (Sum.inr pr.1) pr.2).length + rest.length ≤ 1000 := by have := length_putK acc (Sum.inr pr.1) pr.2; omega
    refine wpAny_holding (wpAny_dictSet_pairs (hsz := hv2) (k := (Sum.inr pr.1 : Key)) (kV_is (k := (Sum.inr pr.1 : Key)) (show RelV (kV (Sum.inr pr.1)) _ from ⟨tk, rfl⟩)) dd fun h2 dd2 sb2 => ?_)
    have he : ∃ q, h2.get? d = some q := let ⟨q, _, _, hq, _⟩ := dd2; ⟨q, hq⟩
    have I2 := d_write (t' := s.toks + 1) I1 (by rw [upd_same]; exact True.intro) sb2 he (dk_new (kvs := putK acc (Sum.inr pr.1) pr.2) (Nat.le_trans hl (by decide)) hds (rel.put (Sum.inr pr.1) rvx) dd2)
    rw [upd_upd] at I2
    have hid : it ≠ d := fun e => by rw [e, upd_same] at f0; exact nomatch f0
    obtain ⟨oi, hoi, ri⟩ := st'
    have st2 : h2.IsTupleIter it t (i + 1) := ⟨oi, (sb2.2 it hid).trans hoi, ri⟩
    refine wpAny_pure ⟨Code.quiet_builtin _ (by decide +kernel), ?_⟩
    have ey2 : vs.drop (i + 1) = l := by rw [← List.tail_drop, ey]; rfl
    exact upd_pairs hA hd ht rest l (i + 1) (putK acc (Sum.inr pr.1) pr.2) _ I2 ⟨by rw [upd_ne hid] at f0 ⊢; exact f0, f1, f2, f3, f4, f5⟩ st2 ey2 hp hl2 k
end
section
variable {X : Cx}
theorem call_dictT (hc : X.calm = true) : CallR X (.type "dict") (fun xs H Q => ∃ (t : Addr) (vs : List V) (kvs : List (Str × V)), xs = [.ref t] ∧ H t = some (.tup vs) ∧ Prs H vs kvs ∧ kvs.length ≤ 1000 ∧ ∀ d, H d = none → Q (.ref d) (upd H d (.dK (mergeK [] (kvs.map kf))))) := by
  intro pins s σ H xs us Q I r h
  obtain ⟨t, vs, kvs, rfl, ht, hp, hn, q⟩ := h
  obtain ⟨u, rfl, ru⟩ := vals1 r
  cases ru
  obtain ⟨_, its, rv, o, ho, hcl, n, hd, hdd⟩ := (show ObjOk X.prog X.w H s.heap t (.tup vs) from I.hok t _ ht)
  obtain ⟨oc, od, odt, osl⟩ := o
  cases (show oc = _ from hcl)
  cases (show odt = _ from hd)
  cases (show od = _ from hdd)
  refine callType_codes (Q₁ := fun obj s₁ => obj = .ref s.heap.objs.size ∧ s₁ = { s with heap := s.heap.push { cls := .type "dict", data := .dict #[] } }) F.kt_called_dict (F.kt_typeCall_dict_1 _) F.entry_dict_init (kt_code_dict_new _ ⟨rfl, rfl⟩) ?_
  rintro obj s₁ ⟨rfl, rfl⟩
  have hnew : (s.heap.push { cls := .type "dict", data := .dict #[] }).DictOf (mixKind X.prog X.w) s.heap.objs.size [] := Heap.DictOf.new s.heap
  refine ⟨hnew.typeIs, F.args_dict_init_2 _ _, ?_⟩
  unfold Builtin.«dict.__init__»
  refine wpAny_bind ?_
  unfold Builtin.Dict.selfAndRest
  refine wpAny_bind (wpAny_notOrdered_dict hnew.typeIs ?_)
  show wpAny _ _ (pure (s.heap.objs.size, [Value.ref t])) _ _ _
  refine wpAny_pure ?_
  show wpAny _ _ (Builtin.Dict.updateFrom "dict.__init__" s.heap.objs.size (.ref t) [] .none) _ _ _
  unfold Builtin.Dict.updateFrom
  have ho1 := Heap.get?_push_of_some { cls := .type "dict", data := .dict #[] } ho
  refine wpAny_bind (wpAny_typeOf (T := "tuple") ⟨_, ho1, rfl⟩ ?_)
  rw [if_pos (by decide)]
  refine wpAny_bind (no_keys ho1 (by exact I.ok.hd hc) fun h1 tk1 kp1 => ?_)
  rw [if_pos (by rfl)]
  refine wpAny_bind (wpAny_rule ?_)
  have I1 : Inv X pins σ (upd H s.heap.objs.size (.dK [])) { s with heap := h1, toks := tk1 } := by
    refine I.laid (fun b u e => kp1 b u (Heap.get?_push_of_some _ e)) (Nat.le_refl _) (dk_new (by decide) ?_ .nil ?_)
    · have hb := I.big
      exact beq_false_of_ne (Nat.ne_of_gt hb)
    · obtain ⟨o, es, ep, ho, r⟩ := hnew
      exact ⟨o, es, ep, kp1 _ _ ho, r⟩
  have ho2 : h1.IsTuple t its.toArray := ⟨_, kp1 _ _ ho1, rfl, n, rfl⟩
  refine wpAny_bind (wpAny_pyIter_tuple (show ({ s with heap := h1, toks := tk1 } : Shared).heap.IsTuple t its.toArray from ho2) ?_)
  have f := I1.fpOk (Nat.le_refl _) (I1.hok.fresh (Nat.le_refl _))
  have I2 : Inv X pins σ (upd H s.heap.objs.size (.dK [])) { s with heap := h1.push { cls := .type "tuple_iterator", data := .fields #[.ref t, .int 0 0] }, toks := tk1 } := I1.kept (t' := tk1) fun b o e => Heap.get?_push_of_some _ e
  refine wpAny_pure ⟨Code.quiet_builtin _ (by decide +kernel), ?_⟩
  refine upd_pairs (A := X.A.in1) (by exact I.ok.hd hc) (I.hok.fresh (Nat.le_refl _)) ht kvs vs 0 [] _ I2 f ⟨_, Heap.get?_push_size _ rfl, rfl, rfl⟩ rfl hp (by simpa using hn) fun s' J => ?_
  exact ⟨rfl, .ref s.heap.objs.size, _, J, rfl, q _ (I.hok.fresh (Nat.le_refl _))⟩
end
end L2.Internal
namespace BO.Internal
open PySem L2.Internal
noncomputable def rIsi (K : PySem.W.Frag) : List V → Hp → VK → Prop := fun xs H Q => ∃ x v c t b, xs = [x, v] ∧ (∀ u, RelV v u → u = c) ∧ TyOf K H x t ∧ PySem.W.kitOne K t c = some b ∧ Q (.bl b) H
theorem sz {n : Nat} (h : n ≤ 100000) : n ≤ sizeLine := Nat.le_trans h (by decide)
theorem same_new {H : Hp} {p : Addr} (h : H p = none) (o : HO) : Same H (upd H p o) := fun b u q => by rw [upd_ne (ne_of_none q h)]; exact q
theorem atI_lt {α : Type} (l : List α) (i : Int) (h0 : 0 ≤ i) (h1 : i < (l.length : Int)) : ∃ c, atI l i = some c ∧ c ∈ l := by
  have e : i = ((i.toNat : Nat) : Int) := by omega
  have hi : i.toNat < l.length := by omega
  refine ⟨l[i.toNat], ?_, List.getElem_mem hi⟩
  have z : atI l ((i.toNat : Nat) : Int) = some l[i.toNat] := atI_nat (List.getElem?_eq_getElem hi)
  rw [← e] at z
  exact z
noncomputable def flN : V → Bool
  | .non => true
  | .int _ => true
  | .str _ => true
  | _ => false
mutual
inductive Im (H : Hp) : V → Dt → Prop where
  | flat {v : V} (h : flN v = true) : Im H v (.flat v)
  | tup {a : Addr} {xs : List V} {ds : List Dt} (h : H a = some (.tup xs)) (hs : Ims H xs ds) : Im H (.ref a) (.tup ds)
inductive Ims (H : Hp) : List V → List Dt → Prop where
  | nil : Ims H [] []
  | cons {x : V} {d : Dt} {xs : List V} {ds : List Dt} (h : Im H x d) (hs : Ims H xs ds) : Ims H (x :: xs) (d :: ds)
end
mutual
inductive Dta (H : Hp) : V → Dt → Prop where
  | flat {v : V} (h : flN v = true) : Dta H v (.flat v)
  | tup {a : Addr} {xs : List V} {ds : List Dt} (h : H a = some (.tup xs)) (hs : Dtas H xs ds) : Dta H (.ref a) (.tup ds)
  | lst {a : Addr} {xs : List V} {ds : List Dt} (h : H a = some (.lst xs)) (hs : Dtas H xs ds) : Dta H (.ref a) (.lst ds)
inductive Dtas (H : Hp) : List V → List Dt → Prop where
  | nil : Dtas H [] []
  | cons {x : V} {d : Dt} {xs : List V} {ds : List Dt} (h : Dta H x d) (hs : Dtas H xs ds) : Dtas H (x :: xs) (d :: ds)
end
noncomputable def TK (H H' : Hp) : Prop := ∀ a xs, H a = some (.tup xs) → H' a = some (.tup xs)
theorem Same.tk {H H' : Hp} (s : Same H H') : TK H H' := fun a xs e => s a _ e
mutual
theorem Im.mono {H H' : Hp} (k : TK H H') : ∀ {v : V} {d : Dt}, Im H v d → Im H' v d
  | _, _, .flat h => .flat h
  | _, _, .tup h hs => .tup (k _ _ h) (Ims.mono k hs)
theorem Ims.mono {H H' : Hp} (k : TK H H') : ∀ {v : List V} {d : List Dt}, Ims H v d → Ims H' v d
  | _, _, .nil => .nil
  | _, _, .cons h hs => .cons (Im.mono k h) (Ims.mono k hs)
end
mutual
theorem Im.da {H : Hp} : ∀ {v : V} {d : Dt}, Im H v d → Dta H v d
  | _, _, .flat h => .flat h
  | _, _, .tup h hs => .tup h (Ims.das hs)
theorem Ims.das {H : Hp} : ∀ {v : List V} {d : List Dt}, Ims H v d → Dtas H v d
  | _, _, .nil => .nil
  | _, _, .cons h hs => .cons (Im.da h) (Ims.das hs)
end
theorem Ims.length {H : Hp} : ∀ {xs : List V} {ds : List Dt}, Ims H xs ds → xs.length = ds.length
  | _, _, .nil => rfl
  | _, _, .cons _ t => by rw [List.length_cons, List.length_cons, Ims.length t]
theorem Ims.app {H : Hp} : ∀ {xs ys : List V} {ds es : List Dt}, Ims H xs ds → Ims H ys es → Ims H (xs ++ ys) (ds ++ es)
  | _, _, _, _, .nil, h => h
  | _, _, _, _, .cons a b, h => .cons a (Ims.app b h)
inductive All2 {α β : Type} (F : α → β → Prop) : List α → List β → Prop
  | nil : All2 F [] []
  | cons {a : α} {b : β} {l : List α} {m : List β} : F a b → All2 F l m → All2 F (a :: l) (b :: m)
theorem All2.imp {α β : Type} {F G : α → β → Prop} (f : ∀ a b, F a b → G a b) : ∀ {l : List α} {m : List β}, All2 F l m → All2 G l m
  | _, _, .nil => .nil
  | _, _, .cons h t => .cons (f _ _ h) (All2.imp f t)
theorem All2.snoc {α β : Type} {F : α → β → Prop} {a : α} {b : β} (h : F a b) : ∀ {l : List α} {m : List β}, All2 F l m → All2 F (l ++ [a]) (m ++ [b])
  | _, _, .nil => .cons h .nil
  | _, _, .cons x t => .cons x (All2.snoc h t)
theorem All2.length {α β : Type} {F : α → β → Prop} : ∀ {l : List α} {m : List β}, All2 F l m → l.length = m.length
  | _, _, .nil => rfl
  | _, _, .cons _ t => by rw [List.length_cons, List.length_cons, All2.length t]
theorem All2.get {α β : Type} {F : α → β → Prop} : ∀ {l : List α} {m : List β} {j : Nat} {x : α}, All2 F l m → l[j]? = some x → ∃ y, m[j]? = some y ∧ F x y
  | _, _, 0, _, .cons h _, e => ⟨_, rfl, by cases e; exact h⟩
  | _, _, j + 1, _, .cons _ t, e => by
    rw [List.getElem?_cons_succ] at e
    obtain ⟨d, e1, e2⟩ := All2.get t e
    exact ⟨d, by rw [List.getElem?_cons_succ]; exact e1, e2⟩

mutual
noncomputable def okD : Dt → Prop
  | .flat _ => True
  | .tup l => l.length ≤ 100000 ∧ okDs l
  | .lst l => l.length ≤ 100000 ∧ okDs l
noncomputable def okDs : List Dt → Prop
  | [] => True
  | x :: xs => okD x ∧ okDs xs
end
theorem okDs_map {α : Type} {f : α → Dt} : ∀ {l : List α}, (∀ x ∈ l, okD (f x)) → okDs (l.map f)
  | [], _ => trivial
  | x :: xs, h => ⟨h x (by simp), okDs_map fun y hy => h y (by simp [hy])⟩
noncomputable def prL (p : Str × Int) : Dt := .tup [.flat (.str p.1), .flat (.int p.2)]
noncomputable def prD (l : List (Str × Int)) : Dt := .tup (l.map prL)
inductive Us where
  | num (a p s : Int)
  | call (a p s x y : Int)
  | take (a p s : Int) (l : List (Str × Int))
  | case (a p s : Int) (l : List (Str × Int))
  | row (a p s x : Int)
noncomputable def hdD (n : Str) (a p s : Int) : List Dt := [.flat (.str n), .flat (.int a), .flat (.int p), .flat (.int s)]
noncomputable def Us.d : Us → Dt
  | .num a p s => .tup (hdD "num" a p s)
  | .call a p s x y => .tup (hdD "call" a p s ++ [.flat (.int x), .flat (.int y)])
  | .take a p s l => .tup (hdD "take" a p s ++ [prD l])
  | .case a p s l => .tup (hdD "case" a p s ++ [prD l])
  | .row a p s x => .tup (hdD "row" a p s ++ [.flat (.int x)])
noncomputable def Us.ok : Us → Prop
  | .take _ _ _ l => l.length ≤ 10
  | .case _ _ _ l => l.length ≤ 10
  | _ => True
structure Mkg where
  s : Str
  f : Dt
  a : Int
  p : Int
noncomputable def Mkg.d (m : Mkg) : Dt := .tup [.flat (.str m.s), m.f, .flat (.int m.a), .flat (.int m.p)]
theorem prD_dep (l : List (Str × Int)) : depD (prD l) ≤ 2 := by
  have h : ∀ l : List (Str × Int), depDs (l.map prL) ≤ 1 := by
    intro l
    induction l with
    | nil => exact Nat.zero_le _
    | cons x t ih => exact Nat.max_le.mpr ⟨by simp [prL, depD, depDs], ih⟩
  exact Nat.succ_le_succ (h l)
theorem prD_ok {l : List (Str × Int)} (h : l.length ≤ 10) : okD (prD l) := ⟨by rw [List.length_map]; omega, okDs_map fun x _ => ⟨by show 2 ≤ 100000; decide, trivial, trivial, trivial⟩⟩
noncomputable def fU (a p s : V) : List (Str × V) := [("at", a), ("place", p), ("slot", s)]
noncomputable def fU1 (n : Str) (a p s x : V) : List (Str × V) := [("at", a), ("place", p), ("slot", s), (n, x)]
noncomputable def fU2 (a p s x y : V) : List (Str × V) := [("at", a), ("place", p), ("slot", s), ("arg", x), ("out", y)]
noncomputable def fM (s f a p : V) : List (Str × V) := [("shape", s), ("parts", f), ("at", a), ("place", p)]
noncomputable def fB (p0 p1 p2 p3 : Addr) (r : V) : List (Str × V) := [("points", .ref p0), ("makes", .ref p1), ("uses", .ref p2), ("flows", .ref p3), ("root", r)]
structure Cs where
  M : Addr
  N : Addr
  C : Addr
  T : Addr
  K : Addr
  R : Addr
  B : Addr
noncomputable def UsAt (c : Cs) (H : Hp) (v : V) : Us → Prop
  | .num a p s => ∃ x dx, v = .ref x ∧ H x = some (.ins c.N dx (fU (.int a) (.int p) (.int s)))
  | .call a p s y z => ∃ x dx, v = .ref x ∧ H x = some (.ins c.C dx (fU2 (.int a) (.int p) (.int s) (.int y) (.int z)))
  | .take a p s l => ∃ x dx f, v = .ref x ∧ H x = some (.ins c.T dx (fU1 "fields" (.int a) (.int p) (.int s) f)) ∧ Im H f (prD l) ∧ l.length ≤ 10
  | .case a p s l => ∃ x dx f, v = .ref x ∧ H x = some (.ins c.K dx (fU1 "arms" (.int a) (.int p) (.int s) f)) ∧ Im H f (prD l) ∧ l.length ≤ 10
  | .row a p s y => ∃ x dx, v = .ref x ∧ H x = some (.ins c.R dx (fU1 "out" (.int a) (.int p) (.int s) (.int y)))
noncomputable def MkAt (c : Cs) (H : Hp) (v : V) (m : Mkg) : Prop := ∃ x dx f, v = .ref x ∧ H x = some (.ins c.M dx (fM (.str m.s) f (.int m.a) (.int m.p))) ∧ Im H f m.f ∧ depD m.f ≤ 2 ∧ okD m.f
noncomputable def Fz : HO → Prop
  | .tup _ => True
  | .ins _ _ fs => fs.length ≠ 5 ∨ ∃ v r, fs = (("at" : Str), v) :: r
  | _ => False
noncomputable def FK (H H' : Hp) : Prop := ∀ a o, H a = some o → Fz o → H' a = some o
theorem FK.tk {H H' : Hp} (k : FK H H') : TK H H' := fun a xs e => k a _ e trivial
theorem Same.fk {H H' : Hp} (s : Same H H') : FK H H' := fun a o e _ => s a o e
theorem FK.trans {H H1 H2 : Hp} (a : FK H H1) (b : FK H1 H2) : FK H H2 := fun c o e f => b c o (a c o e f) f
theorem UsAt.mono {c : Cs} {H H' : Hp} {v : V} (k : FK H H') : ∀ {u : Us}, UsAt c H v u → UsAt c H' v u
  | .num _ _ _, ⟨x, dx, e, h⟩ => ⟨x, dx, e, k _ _ h (.inr ⟨_, _, rfl⟩)⟩
  | .call _ _ _ _ _, ⟨x, dx, e, h⟩ => ⟨x, dx, e, k _ _ h (.inr ⟨_, _, rfl⟩)⟩
  | .take _ _ _ _, ⟨x, dx, f, e, h, i, n⟩ => ⟨x, dx, f, e, k _ _ h (.inr ⟨_, _, rfl⟩), i.mono k.tk, n⟩
  | .case _ _ _ _, ⟨x, dx, f, e, h, i, n⟩ => ⟨x, dx, f, e, k _ _ h (.inr ⟨_, _, rfl⟩), i.mono k.tk, n⟩
  | .row _ _ _ _, ⟨x, dx, e, h⟩ => ⟨x, dx, e, k _ _ h (.inr ⟨_, _, rfl⟩)⟩
theorem MkAt.mono {c : Cs} {H H' : Hp} {v : V} {m : Mkg} (k : FK H H') : MkAt c H v m → MkAt c H' v m
  | ⟨x, dx, f, e, h, i, d⟩ => ⟨x, dx, f, e, k _ _ h (.inl (by show 4 ≠ 5; decide)), i.mono k.tk, d⟩

theorem lc_gen {J : It} {i : Nat} {te : TE} {Q : VK} {τ : St} {H1 : Hp} {D : Addr} (n : Nat) (hn : n < sizeLine) (R : List V → Hp → Prop) (hR : ∀ xs H H', R xs H → TK H H' → R xs H') (hD : H1 D = none) (hτ : τ.set i none = τ)
    (hgo : ∀ k H, Same H1 H → k < n → J.go k H) (hst : ∀ H, Same H1 H → J.stop n H) (h0 : R [] H1)
    (step : ∀ k H v H3 xs (Z : VK), Same H1 H → k < n → J.yld k H v H3 → R xs H → xs.length = k → (∀ y H5, Same H H5 → R (xs ++ [y]) H5 → Z y H5) → te (τ.set i (some v)) H3 Z)
    (hq : ∀ H' xs, Same H1 H' → R xs H' → xs.length = n → H' D = some (.lst xs) → Q (.ref D) H') : LcP J i tAlways te Q τ H1 D := by
  have nd : ∀ (H5 : Hp) (xs ys : List V), H5 D = some (.lst xs) → TK H5 (upd H5 D (.lst ys)) := fun H5 xs ys e a zs q => by rw [upd_ne (ne_of q e (fun z => nomatch z))]; exact q
  have up : ∀ {H : Hp} (o : HO), Same H1 H → Same H1 (upd H D o) := fun {H} o S b u e => by rw [upd_ne (ne_of_none e hD)]; exact S b u e
  refine ⟨fun k m σ' H2 => m = n - k ∧ k ≤ n ∧ (∃ o, σ' = τ.set i o) ∧ Same H1 H2 ∧ ∃ xs, H2 D = some (.lst xs) ∧ xs.length = k ∧ R xs H2, ⟨n, by simp, Nat.zero_le _, ⟨none, hτ.symm⟩, same_new hD _, [], upd_same, rfl, hR _ _ _ h0 (Same.tk (same_new hD _))⟩, ?_⟩
  rintro k m σ' H2 ⟨rfl, hk, ⟨o, rfl⟩, S, xs, e, hl, hr⟩
  by_cases hlt : k < n
  · refine .inr ⟨hgo k H2 S hlt, fun v H3 y => ?_⟩
    rw [List.set_set]
    refine step k H2 v H3 xs _ S hlt y hr hl fun y H5 S5 r5 => ?_
    refine ⟨xs, S5 D _ e, by omega, n - (k + 1), by omega, rfl, hlt, ⟨some v, rfl⟩, up _ (S.trans S5), xs ++ [y], upd_same, by rw [List.length_append, hl]; rfl, hR _ _ _ r5 (nd H5 _ _ (S5 D _ e))⟩
  · have e1 : k = n := by omega
    subst e1
    exact .inl ⟨hst H2 S, hq H2 xs S hr hl e⟩
theorem go_lst {K : PySem.W.Frag} {a : Addr} {xs : List V} {k : Nat} {H1 H : Hp} (e : H1 a = some (.lst xs)) (S : Same H1 H) (h : k < xs.length) : (Itl K a).go k H := ⟨xs, xs[k], SqL.of (S a _ e), List.getElem?_eq_getElem h⟩
theorem st_lst {K : PySem.W.Frag} {a : Addr} {xs : List V} {H1 H : Hp} (e : H1 a = some (.lst xs)) (S : Same H1 H) : (Itl K a).stop xs.length H := ⟨xs, SqL.of (S a _ e), Nat.le_refl _⟩
theorem go_tup {K : PySem.W.Frag} {a : Addr} {xs : List V} {k : Nat} {H1 H : Hp} (e : H1 a = some (.tup xs)) (S : Same H1 H) (h : k < xs.length) : (Itt K a).go k H := ⟨xs, xs[k], SqT.of (S a _ e), List.getElem?_eq_getElem h⟩
theorem st_tup {K : PySem.W.Frag} {a : Addr} {xs : List V} {H1 H : Hp} (e : H1 a = some (.tup xs)) (S : Same H1 H) : (Itt K a).stop xs.length H := ⟨xs, SqT.of (S a _ e), Nat.le_refl _⟩
inductive Ls (H : Hp) : List Addr → List (List V) → Prop
  | nil : Ls H [] []
  | cons {a : Addr} {c : List V} {l : List Addr} {m : List (List V)} : H a = some (.lst c) → Ls H l m → Ls H (a :: l) (c :: m)
theorem Ls.other {H : Hp} {b : Addr} {o : HO} : ∀ {l : List Addr} {m : List (List V)}, Ls H l m → b ∉ l → Ls (upd H b o) l m
  | _, _, .nil, _ => .nil
  | _, _, .cons (a := a) h t, n => .cons (by rw [upd_ne (fun z => n (by simp [z]))]; exact h) (Ls.other t fun z => n (by simp [z]))
theorem Ls.frame {H H' : Hp} {M : List Addr} (k : ∀ a o, H a = some o → a ∉ M → H' a = some o) : ∀ {l : List Addr} {m : List (List V)}, Ls H l m → (∀ a ∈ l, a ∉ M) → Ls H' l m
  | _, _, .nil, _ => .nil
  | _, _, .cons (a := a) h t, n => .cons (k _ _ h (n a (by simp))) (Ls.frame k t fun b hb => n b (by simp [hb]))
theorem Ls.same {H H' : Hp} (k : Same H H') : ∀ {l : List Addr} {m : List (List V)}, Ls H l m → Ls H' l m
  | _, _, .nil => .nil
  | _, _, .cons h t => .cons (k _ _ h) (Ls.same k t)
theorem Ls.get {H : Hp} : ∀ {l : List Addr} {m : List (List V)} {i : Nat} {a : Addr}, Ls H l m → l[i]? = some a → ∃ c, m[i]? = some c ∧ H a = some (.lst c)
  | _, _, 0, _, .cons h _, e => ⟨_, rfl, by cases e; exact h⟩
  | _, _, j + 1, _, .cons _ t, e => by
    rw [List.getElem?_cons_succ] at e
    obtain ⟨d, e1, e2⟩ := Ls.get t e
    exact ⟨d, by rw [List.getElem?_cons_succ]; exact e1, e2⟩
theorem Ls.put {H : Hp} {c : List V} : ∀ {l : List Addr} {m : List (List V)} {i : Nat} {a : Addr}, Ls H l m → l.Nodup → l[i]? = some a → Ls (upd H a (.lst c)) l (m.set i c)
  | _, _, 0, _, .cons h t, n, e => by
    cases e
    exact .cons upd_same (t.other (List.nodup_cons.mp n).1)
  | _, _, j + 1, a, .cons (a := b) h t, n, e => by
    rw [List.getElem?_cons_succ] at e
    have nb : b ≠ a := fun z => (List.nodup_cons.mp n).1 (by rw [z]; exact List.mem_of_getElem? e)
    exact .cons (by rw [upd_ne nb]; exact h) (Ls.put t (List.nodup_cons.mp n).2 e)
structure Sd where
  b : Addr
  dx : Addr
  p0 : Addr
  p1 : Addr
  p2 : Addr
  p3 : Addr
  d : Addr
  q0 : Addr
  q1 : Addr
  q2 : Addr
  q3 : Addr
noncomputable def Sd.ls (S : Sd) : List Addr := [S.p0, S.p1, S.p2, S.p3, S.d, S.q0, S.q1, S.q2, S.q3]
structure Bd where
  pts : List Int
  mks : List Mkg
  uss : List Us
  fls : List (Int × Int)
  root : Int
noncomputable def flD (p : Int × Int) : Dt := .tup [.flat (.int p.1), .flat (.int p.2)]
structure BSx (c : Cs) (H : Hp) (S : Sd) (E D : Bd) : Prop where
  nd : S.ls.Nodup
  ob : H S.b = some (.ins c.B S.dx (fB S.p0 S.p1 S.p2 S.p3 (.int D.root)))
  st : ∃ mv uv fv mv' uv' fv' : List V, Ls H S.ls [D.pts.map V.int, mv, uv, fv, [.ref S.q0, .ref S.q1, .ref S.q2, .ref S.q3, .int E.root], E.pts.map V.int, mv', uv', fv'] ∧
    All2 (MkAt c H) mv D.mks ∧ All2 (UsAt c H) uv D.uss ∧ Ims H fv (D.fls.map flD) ∧ Ims H mv' (E.mks.map Mkg.d) ∧ Ims H uv' (E.uss.map Us.d) ∧ Ims H fv' (E.fls.map flD)
theorem Ls.at {H : Hp} {l : List Addr} {m : List (List V)} (L : Ls H l m) {i : Nat} {a : Addr} {c : List V} (h1 : l[i]? = some a) (h2 : m[i]? = some c) : H a = some (.lst c) := by
  obtain ⟨d, e1, e2⟩ := L.get h1
  rw [h2] at e1
  cases e1
  exact e2
theorem fk_lst {H : Hp} {a : Addr} {xs : List V} {o : HO} (h : H a = some (.lst xs)) : FK H (upd H a o) := fun b u e f => by
  rw [upd_ne (ne_of e h (fun z => by rw [z] at f; exact f))]
  exact e
section
variable {c : Cs} {H H' : Hp} {S : Sd} {E D : Bd}
theorem BSx.frame {M : List Addr} (B : BSx c H S E D) (k : ∀ a o, H a = some o → a ∉ M → H' a = some o) (hb : S.b ∉ M) (hl : ∀ a ∈ S.ls, a ∉ M) (fk : FK H H') : BSx c H' S E D := by
  obtain ⟨nd, ob, mv, uv, fv, mv', uv', fv', L, h1, h2, h3, h4, h5, h6⟩ := B
  exact ⟨nd, k _ _ ob hb, mv, uv, fv, mv', uv', fv', L.frame k hl, h1.imp fun _ _ => MkAt.mono fk, h2.imp fun _ _ => UsAt.mono fk, h3.mono fk.tk, h4.mono fk.tk, h5.mono fk.tk, h6.mono fk.tk⟩
theorem Ls.mem {H : Hp} : ∀ {l : List Addr} {m : List (List V)} {a : Addr}, Ls H l m → a ∈ l → ∃ c, H a = some (.lst c)
  | _, _, _, .nil, h => by simp at h
  | _, _, _, .cons e t, h => by
    rcases List.mem_cons.mp h with z | z
    · rw [z]; exact ⟨_, e⟩
    · exact Ls.mem t z
end
theorem BSx.hl {c : Cs} {H : Hp} {S : Sd} {E D : Bd} {l : Addr} {xs : List V} {o : HO} (B : BSx c H S E D) (hn : l ∉ S.ls) (e : H l = some (.lst xs)) : BSx c (upd H l o) S E D := by
  refine B.frame (M := [l]) (fun a u q n => ?_) (fun z => ?_) (fun a ha z => ?_) (fk_lst e)
  · rw [upd_ne (fun z => n (by simp [z]))]; exact q
  · have z' : S.b = l := by simpa using z
    have q := B.ob
    rw [z', e] at q
    cases q
  · have z' : a = l := by simpa using z
    rw [z'] at ha
    exact hn ha
noncomputable def Bd.sm (D : Bd) (n : Nat) : Prop := D.pts.length ≤ n ∧ D.mks.length ≤ n ∧ D.uss.length ≤ n ∧ D.fls.length ≤ n
noncomputable def Hld (c : Cs) (H : Hp) (l : Addr) : Prop := H l = some (.lst []) ∨ ∃ x t u, H l = some (.lst [x, t]) ∧ UsAt c H x u ∧ Im H t (Us.d u)
noncomputable def Frm (M : List Addr) (H H' : Hp) : Prop := ∀ a o, H a = some o → a ∉ M → H' a = some o
theorem Frm.trans {M : List Addr} {H H1 H2 : Hp} (a : Frm M H H1) (b : Frm M H1 H2) : Frm M H H2 := fun c o e n => b c o (a c o e n) n
noncomputable def bdD (D : Bd) : Dt := .lst [.lst (D.pts.map fun i => .flat (.int i)), .lst (D.mks.map Mkg.d), .lst (D.uss.map Us.d), .lst (D.fls.map flD), .flat (.int D.root)]
end BO.Internal
namespace BO.Internal
open PySem L2.Internal
noncomputable def lk : List (Str × Int) → Str → Option Int
  | [], _ => none
  | p :: t, w => if p.1 = w then some p.2 else lk t w
noncomputable def pI (p : Str × Int) : Str × V := (p.1, .int p.2)
noncomputable def Dist (l : List (Str × Int)) : Prop := (l.map Prod.fst).Nodup
theorem lk_none : ∀ {l : List (Str × Int)} {w : Str}, w ∉ l.map Prod.fst → lk l w = none
  | [], _, _ => rfl
  | p :: t, w, h => by
    rw [List.map_cons, List.mem_cons, not_or] at h
    rw [lk, if_neg (fun z => h.1 z.symm)]
    exact lk_none h.2
theorem valV_merge : ∀ (l : List (Str × Int)) (acc : List (Key × V)) (w : Str), Dist l → valV (mergeK acc ((l.map pI).map kf)) (Sum.inr w) = match lk l w with
    | some i => some (.int i)
    | none => valV acc (Sum.inr w)
  | [], _, _, _ => rfl
  | p :: t, acc, w, h => by
    obtain ⟨h1, h2⟩ := List.nodup_cons.mp (show (p.1 :: t.map Prod.fst).Nodup from h)
    show valV (mergeK (putK acc (Sum.inr p.1) (.int p.2)) ((t.map pI).map kf)) (Sum.inr w) = _
    rw [valV_merge t _ w h2, valV_put, lk]
    by_cases e : p.1 = w
    · rw [if_pos e, lk_none (by rw [← e]; exact h1)]
      rw [if_pos (by rw [e])]
    · rw [if_neg e]
      rw [if_neg (fun z => e (by injection z with z; exact z.symm))]
inductive Mf where
  | num
  | fn (x y : Int)
  | rcd (l : List (Str × Int))
  | tag (w : Str) (x : Int)
  | row (x : Int)
  | any
noncomputable def Mf.s : Mf → Str
  | .num => "num"
  | .fn _ _ => "fn"
  | .rcd _ => "rec"
  | .tag _ _ => "tag"
  | .row _ => "row"
  | .any => "any"
noncomputable def Mf.f : Mf → Dt
  | .num => .tup []
  | .fn x y => .tup [.flat (.int x), .flat (.int y)]
  | .rcd l => prD l
  | .tag w x => .tup [.flat (.str w), .flat (.int x)]
  | .row x => .tup [.flat (.int x)]
  | .any => .tup []
noncomputable def Mf.ok : Mf → Prop
  | .rcd l => l.length ≤ 10 ∧ Dist l
  | _ => True
noncomputable def mkg (m : Mf) (a p : Int) : Mkg := ⟨m.s, m.f, a, p⟩
theorem Mf.dep (m : Mf) : depD m.f ≤ 2 := by
  cases m with
  | rcd l => exact prD_dep l
  | _ => simp [Mf.f, depD, depDs]
theorem Mf.okd {m : Mf} (h : m.ok) : okD m.f := by
  cases m with
  | rcd l => exact prD_ok h.1
  | _ => simp [Mf.f, okD, okDs]
noncomputable def Us.dist : Us → Prop
  | .take _ _ _ l => Dist l
  | .case _ _ _ l => Dist l
  | _ => True
noncomputable def fnd (m : List (Str × Int)) (p : Str × Int) : Option (Int × Int) := (lk m p.1).map fun x => (x, p.2)
noncomputable def taken (l m : List (Str × Int)) : Option (List (Int × Int)) := if (l.filterMap (fnd m)).length = l.length then some (l.filterMap (fnd m)) else none
noncomputable def meet : Us → Mf → Option (List (Int × Int))
  | .num _ _ _, .num => some []
  | .call _ _ _ x y, .fn a b => some [(x, a), (b, y)]
  | .take _ _ _ l, .rcd m => taken l m
  | .case _ _ _ l, .tag w x => (lk l w).map fun y => [(x, y)]
  | .row _ _ _ y, .row x => some [(x, y)]
  | _, _ => none
noncomputable def mtD : Option (List (Int × Int)) → Dt
  | none => .flat .non
  | some l => .lst (l.map flD)
theorem taken_none {l m : List (Str × Int)} {p : Str × Int} (h : p ∈ l) (e : lk m p.1 = none) : taken l m = none := by
  have : ∀ l : List (Str × Int), p ∈ l → (l.filterMap (fnd m)).length < l.length := by
    intro l
    induction l with
    | nil => intro h; simp at h
    | cons a t ih =>
      intro h
      have hle := List.length_filterMap_le (fnd m) t
      rw [List.filterMap_cons]
      rcases List.mem_cons.mp h with z | z
      · have : fnd m a = none := by rw [← z, fnd, e]; rfl
        rw [this]
        show (List.filterMap (fnd m) t).length < t.length + 1
        omega
      · have := ih z
        cases fnd m a with
        | none => show (List.filterMap (fnd m) t).length < t.length + 1; omega
        | some q => show (List.filterMap (fnd m) t).length + 1 < t.length + 1; omega
  rw [taken, if_neg (Nat.ne_of_lt (this l h))]
theorem im_ps {H : Hp} : ∀ {xs : List V} {l : List (Str × Int)}, Ims H xs (l.map prL) → Prs H xs (l.map pI)
  | _, [], .nil => .nil
  | _, p :: t, .cons h hs => by
    cases h with
    | tup e es =>
      cases es with
      | cons h1 es =>
        cases h1
        cases es with
        | cons h2 es =>
          cases h2
          cases es
          exact .cons e (im_ps hs)
theorem ims_at {H : Hp} : ∀ {xs : List V} {ps : List (Str × Int)} {k : Nat} {v : V}, Ims H xs (ps.map prL) → xs[k]? = some v → ∃ p t, ps[k]? = some p ∧ v = .ref t ∧ H t = some (.tup [.str p.1, .int p.2])
  | _, [], _, _, .nil, e => by simp at e
  | _, p :: ps, 0, v, .cons h _, e => by
    cases e
    cases h with
    | tup e es =>
      cases es with
      | cons h1 es =>
        cases h1
        cases es with
        | cons h2 es =>
          cases h2
          cases es
          exact ⟨p, _, rfl, rfl, e⟩
  | _, p :: ps, k + 1, v, .cons _ t, e => by
    rw [List.getElem?_cons_succ] at e
    obtain ⟨q, u, e1, e2⟩ := ims_at t e
    exact ⟨q, u, by rw [List.getElem?_cons_succ]; exact e1, e2⟩
end BO.Internal
namespace L2.Internal
open PySem PySem.Spec PyProof.Rows
section
variable {X : Cx} {e a b o f : Expr} {st : Stmt} {ta tb td ty tx to : TE} {pos apos cpos : Pos}
theorem PE.weak {t t' : TE} (h : PE X e t) (m : ∀ σ H Q, t' σ H Q → t σ H Q) : PE X e t' := fun pins s σ H Q I q => h pins s σ H Q I (m σ H Q q)
theorem PT.weak {t t' : TT} (h : PT X e t) (m : ∀ σ H Q, t' σ H Q → t σ H Q) : PT X e t' := fun pins s σ H Q I q => h pins s σ H Q I (m σ H Q q)
theorem PS.weak {t t' : TS} (h : PS X st t) (m : ∀ D σ H, t' D σ H → t D σ H) : PS X st t' := fun pins s σ H D I q => h pins s σ H D I (m D σ H q)
theorem OpR.weak {g : Value → Value → Sem Value} {r r' : R2} (h : OpR X g r) (m : ∀ x y H Q, r' x y H Q → r x y H Q) : OpR X g r' := fun pins s σ H x y v u Q I rx ry q => h pins s σ H x y v u Q I rx ry (m x y H Q q)
theorem IxR.weak {r r' : R2} (h : IxR X r) (m : ∀ x y H Q, r' x y H Q → r x y H Q) : IxR X r' := fun value slice pins s σ H x y v u Q I rx ry q hs => h value slice pins s σ H x y v u Q I rx ry (m x y H Q q) hs
noncomputable def mT (t : TE) : TE := fun σ H Q => ∃ Q0 : VK, t σ H Q0 ∧ ∀ x H1, Q0 x H1 → Q x H1
theorem PE.mono {t : TE} (h : PE X e t) : PE X e (mT t) := fun pins s σ H Q I ⟨Q0, h0, m⟩ => thn (h pins s σ H Q0 I h0) fun v s1 ⟨x, H1, I1, r1, q1⟩ => ⟨x, H1, I1, r1, m x H1 q1⟩
noncomputable def mR (r : R2) : R2 := fun x y H Q => ∃ Q0 : VK, r x y H Q0 ∧ ∀ x H1, Q0 x H1 → Q x H1
theorem OpR.mono {g : Value → Value → Sem Value} {r : R2} (h : OpR X g r) : OpR X g (mR r) := fun pins s σ H x y v u Q I rx ry ⟨Q0, h0, m⟩ => thn (h pins s σ H x y v u Q0 I rx ry h0) fun v s1 ⟨x, H1, I1, r1, q1⟩ => ⟨x, H1, I1, r1, m x H1 q1⟩
noncomputable def onV : Option (Option V) → (V → Prop) → Prop
  | some (some v), k => k v
  | _, _ => False
noncomputable def onS {α : Type} : Option α → (α → Prop) → Prop
  | some v, k => k v
  | none, _ => False
theorem onS_of {α : Type} {x : Option α} {v : α} {k : α → Prop} (h : x = some v) (q : k v) : onS x k := by rw [h]; exact q
theorem onS_ex {α : Type} {x : Option α} {k : α → Prop} (h : onS x k) : ∃ v, x = some v ∧ k v := by
  cases x with
  | none => exact h.elim
  | some v => exact ⟨v, rfl, h⟩
noncomputable def cV (i : Nat) : TE := fun σ H Q => onV σ[i]? fun v => Q v H
theorem cv (i : Nat) {x : Str} {pos : Pos} (hN : autoParam (X.N[i]? = some x) L2.Internal.auR._auto_1) (hv : Vis X.env.scope x := by first | exact Or.inl rfl | exact Or.inr (Or.inl rfl) | exact Or.inr (Or.inr rfl)) (hd : autoParam ((x == ("__debug__" : Str)) = false) L2.Internal.auD._auto_1)
    (hcd : autoParam ((x == ("__classdict__" : Str)) = false) L2.Internal.auD._auto_1) : PE X (.Name x pos) (cV i) := (pv i hN hv hd hcd).weak fun σ H Q h => by
  unfold cV at h
  cases q : σ[i]? with
  | none => rw [q] at h; exact h.elim
  | some o =>
    rw [q] at h
    cases o with
    | none => exact h.elim
    | some v => exact ⟨v, q, h⟩
noncomputable def cI0 (g : Int → Int → V) : R2 := fun x y H Q => match x, y with
  | .int i, .int j => Q (g i j) H
  | _, _ => False
noncomputable def cI (C : Int → Int → Prop) (g : Int → Int → V) : R2 := fun x y H Q => match x, y with
  | .int i, .int j => C i j ∧ Q (g i j) H
  | _, _ => False
theorem cI0_of {g : Int → Int → V} : ∀ x y H Q, cI0 g x y H Q → rI0 g x y H Q := fun x y H Q h => by
  unfold cI0 at h
  split at h
  · exact ⟨_, _, rfl, rfl, h⟩
  · exact h.elim
theorem cI_of {C : Int → Int → Prop} {g : Int → Int → V} : ∀ x y H Q, cI C g x y H Q → rI C g x y H Q := fun x y H Q h => by
  unfold cI at h
  split at h
  · exact ⟨_, _, rfl, rfl, h.1, h.2⟩
  · exact h.elim
theorem oc_add : OpR X (binaryOp .Add) (cI0 fun i j => .int (i + j)) := op_add.weak cI0_of
theorem oc_mul : OpR X (binaryOp .Mult) (cI CMul fun i j => .int (i * j)) := op_mul.weak cI_of
theorem oc_fdiv : OpR X (binaryOp .FloorDiv) (cI CDiv fun i j => .int (i / j)) := op_fdiv.weak cI_of
theorem oc_mod : OpR X (binaryOp .Mod) (cI (fun _ j => 0 < j) fun i j => .int (i % j)) := op_mod.weak cI_of
theorem oc_pow : OpR X (binaryOp .Pow) (cI CPow fun i j => .int (i ^ j.toNat)) := op_pow.weak cI_of
theorem oc_lt : OpR X (compareOp .Lt) (cI0 fun i j => .bl (decide (i < j))) := op_lt.weak cI0_of
noncomputable def cEq (n : Bool) : R2 := fun x y H Q => match x, y with
  | .int i, .int j => Q (.bl (xor n (decide (i = j)))) H
  | .str i, .str j => Q (.bl (xor n (decide (i = j)))) H
  | _, _ => False
theorem decS {i j : Str} : decide (V.str i = V.str j) = decide (i = j) := by
  rw [Bool.eq_iff_iff]
  simp
theorem decI {i j : Int} : decide (V.int i = V.int j) = decide (i = j) := by
  rw [Bool.eq_iff_iff]
  simp
theorem oc_eq : OpR X (compareOp .Eq) (cEq false) := op_eq.weak fun x y H Q h => by
  unfold cEq at h
  split at h
  · refine ⟨rfl, ?_⟩; rw [decI]; rw [Bool.false_xor] at h; exact h
  · refine ⟨rfl, ?_⟩; rw [decS]; rw [Bool.false_xor] at h; exact h
  · exact h.elim
theorem oc_ne : OpR X (compareOp .NotEq) (cEq true) := op_ne.weak fun x y H Q h => by
  unfold cEq at h
  split at h
  · refine ⟨rfl, ?_⟩; rw [decI]; rw [Bool.true_xor] at h; exact h
  · refine ⟨rfl, ?_⟩; rw [decS]; rw [Bool.true_xor] at h; exact h
  · exact h.elim
noncomputable def onB : V → (Bool → Prop) → Prop
  | .bl k, q => q k
  | _, _ => False
theorem onB_ex {x : V} {k : Bool → Prop} (h : onB x k) : ∃ c, x = .bl c ∧ k c := by
  cases x <;> first | exact ⟨_, rfl, h⟩ | exact h.elim
noncomputable def cT (t : TE) : TT := fun σ H Q => t σ H fun x H' => onB x fun k => Q k H'
theorem ptc_cmpR {op : CmpOp} {r : R2} (ho : OpR X (compareOp op) r) (ha : PE X a ta) (hb : PE X b tb) (hm : behindInMarks op b = false) : PT X (.Compare a [op] [b] pos) (cT (tOp r ta tb)) :=
  (pt_cmpR ho.mono ha.mono hb.mono hm).weak fun σ H Q h => ⟨_, h, fun x H1 h1 => ⟨_, h1, fun y H2 h2 => ⟨_, h2, fun z H' h3 => onB_ex h3⟩⟩⟩
noncomputable def cIxL : R2 := fun x y H Q => match x, y with
  | .ref p, .int i => ∃ xs, H p = some (.lst xs) ∧ onS (atI xs i) fun v => Q v H
  | _, _ => False
noncomputable def cIxT : R2 := fun x y H Q => match x, y with
  | .ref p, .int i => ∃ xs, H p = some (.tup xs) ∧ onS (atI xs i) fun v => Q v H
  | _, _ => False
noncomputable def cIxS : R2 := fun x y H Q => match x, y with
  | .str z, .int i => z.length ≤ sizeLine ∧ onS (atI z.cps.toList i) fun c => Q (.str ⟨#[c]⟩) H
  | _, _ => False
theorem xc_list : IxR X cIxL := ix_list.weak fun x y H Q h => by
  unfold cIxL at h
  split at h
  · obtain ⟨xs, e, h⟩ := h
    obtain ⟨v, ev, h⟩ := onS_ex h
    exact ⟨_, xs, _, v, rfl, rfl, SqL.of e, ev, h⟩
  · exact h.elim
theorem xc_tup : IxR X cIxT := ix_tup.weak fun x y H Q h => by
  unfold cIxT at h
  split at h
  · obtain ⟨xs, e, h⟩ := h
    obtain ⟨v, ev, h⟩ := onS_ex h
    exact ⟨_, xs, _, v, rfl, rfl, SqT.of e, ev, h⟩
  · exact h.elim
theorem xc_str : IxR X cIxS := ix_str.weak fun x y H Q h => by
  unfold cIxS at h
  split at h
  · obtain ⟨e, h⟩ := h
    obtain ⟨v, ev, h⟩ := onS_ex h
    exact ⟨_, _, v, rfl, rfl, e, ev, h⟩
  · exact h.elim
noncomputable def Fd (H : Hp) (a C : Addr) (f : Str) (v : V) : Prop := ∃ dx fs, H a = some (.ins C dx fs) ∧ fs.lookup f = some v
noncomputable def Nf (H : Hp) (a C : Addr) (m : Str) : Prop := ∃ dx fs, H a = some (.ins C dx fs) ∧ fs.lookup m = none
noncomputable def cFld (C : Addr) (f : Str) (ta : TE) : TE := fun σ H Q => ta σ H fun x H1 => match x with
  | .ref a => ∃ v, Fd H1 a C f v ∧ Q v H1
  | _ => False
theorem pec_fld {C : Addr} {f : Str} (c : Cls X.K C) (n : NoAttr X.K C f) (he : PE X e ta) (hb : autoParam (attributeBase e f X.env (eval e X.env) = eval e X.env) L2.Internal.auR._auto_1) : PE X (.Attribute e f pos) (cFld C f ta) :=
  (pe_fld he.mono hb).weak fun σ H Q h => ⟨_, h, fun x H1 h1 => by
    cases x with
    | ref a =>
      obtain ⟨v, ⟨dx, fs, ea, ev⟩, q⟩ := h1
      exact ⟨a, C, dx, fs, v, rfl, ea, c, n, ev, q⟩
    | _ => exact h1.elim⟩
noncomputable def cMeth (C : Addr) (m : Str) (sp : Sp) (dvs : List V) (E : XK) (ta : TE) (t : TA) : TE := fun σ H Q => ta σ H fun x H1 => match x with
  | .ref a => Nf H1 a C m ∧ t σ H1 fun vs H2 => sp (.ref a :: (vs ++ dvs)) H2 Q E
  | _ => False
theorem pec_meth {C : Addr} {m : Str} {sp : Sp} {dvs : List V} {E : XK} {t : TA} (h : PE X e (tMeth C m sp dvs E (mT ta) t)) : PE X e (cMeth C m sp dvs E ta t) := h.weak fun σ H Q h => ⟨_, h, fun x H1 h1 => by
    cases x with
    | ref a =>
      obtain ⟨⟨dx, fs, ea, l⟩, q⟩ := h1
      exact ⟨a, dx, fs, rfl, ea, l, q⟩
    | _ => exact h1.elim⟩
noncomputable def csFld (C : Addr) (f : Str) (ta tv : TE) : TS := fun D σ H => tv σ H fun y H1 => ta σ H1 fun x H2 => match x with
  | .ref a => ∃ dx fs, H2 a = some (.ins C dx fs) ∧ fs.length < 1000 ∧ D.nx σ (upd H2 a (.ins C dx (putF f y fs)))
  | _ => False
theorem psc_fld {C : Addr} {f : Str} {tv : TE} (c : Cls X.K C) (n : NoAttr X.K C f) (h : PS X st (sFld X.K (mT ta) (mT tv) f)) : PS X st (csFld C f ta tv) := h.weak fun D σ H h => ⟨_, h, fun y H1 h1 => ⟨_, h1, fun x H2 h2 => by
    cases x with
    | ref a =>
      obtain ⟨dx, fs, ea, l, q⟩ := h2
      exact ⟨a, C, dx, fs, rfl, ea, c, n, l, q⟩
    | _ => exact h2.elim⟩⟩
noncomputable def cS : R2 := fun x y H Q => match x, y with
  | .str i, .str j => i.length + j.length ≤ sizeLine ∧ Q (.str (i ++ j)) H
  | _, _ => False
theorem oc_addS : OpR X (binaryOp .Add) cS := op_add_str.weak fun x y H Q h => by
  unfold cS at h
  split at h
  · exact ⟨_, _, rfl, rfl, h.1, h.2⟩
  · exact h.elim
noncomputable def tDSet (td ty tx : TE) : TE := fun σ H Q => td σ H fun x H1 => ∃ a, x = .ref a ∧ IsD H1 a ∧ ty σ H1 fun y H2 => tx σ H2 fun z H3 => ∃ kvs k, H3 a = some (.dK kvs) ∧ y = kV k ∧ kvs.length < sizeLine ∧
  (∀ v, valV kvs k = some v → Q v H3) ∧ (valV kvs k = none → Q z (upd H3 a (.dK (putK kvs k z))))
theorem d_setdef {pins : List (Addr × Obj)} {σ : St} {H : Hp} {s : Shared} {a : Addr} {kvs : List (Key × V)} {k : Key} {d : V} {u r : Value} {A : Around} {E : Value → Shared → Prop} {Q : Value → Shared → Prop} (I : Inv X pins σ H s) (e : H a = some (.dK kvs)) (ry : RelV (kV k) u) (rd : RelV d r) (hl : kvs.length < sizeLine)
    (h1 : ∀ v w' s', valV kvs k = some v → Inv X pins σ H s' → RelV v w' → Q w' s') (h2 : valV kvs k = none → ∀ s', Inv X pins σ (upd H a (.dK (putK kvs k d))) s' → Q r s') :
    wpAny (model X.prog X.w) A (call (.builtin "dict.setdefault") [.ref a, u, r]) Q E s := by
  obtain ⟨z, hd, vs, rel, dd⟩ := dk_of I.hok e
  refine call_meetsIn PySem.F.slot_dict_setdefault dd.typeIs PySem.F.entry_dict_setdefault (PySem.F.args_dict_setdefault_3 _ _ _) (kt_meets_setdefault (mixKind X.prog X.w) a (kV_is ry) hd r) ⟨vs, dd, by rw [← rel.length]; exact z, fun v hv => ?_, fun hn h' dd' hs => ?_⟩
  · have q := rel.val k
    rw [hv] at q
    cases e2 : valV kvs k with
    | none => rw [e2] at q; exact q.elim
    | some v' => rw [e2] at q; exact h1 v' _ _ e2 (I.tok _) q
  · have q := rel.val k
    rw [hn] at q
    cases e2 : valV kvs k with
    | some v' => rw [e2] at q; exact q.elim
    | none =>
      have hl' : (putK kvs k d).length ≤ sizeLine := by have := length_putK kvs k d; omega
      have he : ∃ q, h'.get? a = some q := let ⟨q, _, _, hq, _⟩ := dd'; ⟨q, hq⟩
      exact h2 e2 _ (d_write I (by rw [e]; exact True.intro) hs he (dk_new hl' hd (rel.put k rd) dd'))
theorem pe_dsetd (ho : PE X o td) (he : PE X e ty) (hf : PE X f tx) (m : M2 X o "setdefault" apos e f cpos) : PE X (.Call (.Attribute o "setdefault" apos) [e, f] [] cpos) (tDSet td ty tx) := by
  intro pins s σ H Q I h
  refine wpAny_Call_method m.base m.few m.line PySem.F.plainAttrs_dict PySem.F.slot_dict_setdefault PySem.F.type_dict_setdefault (thn (ho pins s σ H _ I h) fun u s1 ⟨x, H1, I1, rx, a, ex, d, q1⟩ => ?_)
  subst ex
  obtain rfl : u = Value.ref a := rx
  obtain ⟨t1, t2, _⟩ := isD_at I1 d
  refine ⟨t1, t2, ?_⟩
  rw [m.trees]
  refine Calls.callWith_builtin rfl (Calls.evalArgs_plain (Calls.spliced_cons (thn (he pins s1 σ H1 _ I1 q1) fun iv s2 ⟨y, H2, I2, ry, q2⟩ =>
    Calls.spliced_cons (thn (hf pins s2 σ H2 _ I2 q2) fun fv s3 ⟨z, H3, I3, rz, kvs, k, e3, ey, hl, q3, q4⟩ => Calls.spliced_nil ?_))))
  subst ey
  exact d_setdef I3 e3 ry rz hl (fun v w' s4 ev I4 rw' => ⟨v, H3, I4, rw', q3 v ev⟩) (fun hn s4 I4 => ⟨z, _, I4, rz, q4 hn⟩)
noncomputable def cApp (to ta : TE) : TE := fun σ H Q => to σ H fun x H1 => match x with
  | .ref l => (∃ xs, H1 l = some (.lst xs)) ∧ ta σ H1 fun y H2 => ∃ xs, H2 l = some (.lst xs) ∧ xs.length < sizeLine ∧ Q .non (upd H2 l (.lst (xs ++ [y])))
  | _ => False
theorem pec_app (h : PE X e (tBM X.K "list" rAppend (mT to) (tCons (mT ta) tNil))) : PE X e (cApp to ta) := h.weak fun σ H Q h => ⟨_, h, fun x H1 h1 => by
    cases x with
    | ref l =>
      obtain ⟨⟨xs, e⟩, q⟩ := h1
      exact ⟨.inl ⟨rfl, xs, SqL.of e⟩, _, q, fun y H2 ⟨xs, e, hl, q2⟩ => ⟨l, xs, y, rfl, rfl, e, hl, q2⟩⟩
    | _ => exact h1.elim⟩
end
end L2.Internal
namespace BO.Internal
open PySem L2.Internal
theorem nodup_le : ∀ (n : Nat) (l : List Nat), l.Nodup → (∀ x ∈ l, x < n) → l.length ≤ n
  | 0, [], _, _ => Nat.le_refl _
  | 0, a :: _, _, h => absurd (h a (by simp)) (Nat.not_lt_zero _)
  | n + 1, l, d, h => by
    by_cases m : n ∈ l
    · have e := List.length_erase_of_mem m
      have ih := nodup_le n (l.erase n) (d.erase n) fun x hx => by
        have := (List.Nodup.mem_erase_iff d).mp hx
        have := h x this.2
        omega
      omega
    · have ih := nodup_le n l d fun x hx => by
        have := h x hx
        have : x ≠ n := fun z => m (z ▸ hx)
        omega
      omega
noncomputable def wd : Bool → Str
  | true => "goes"
  | false => "here"
structure Rw where
  w : Bool
  a : Int
  b : Int
  y : Option (Int × Int)
noncomputable def Rw.k (r : Rw) : List Key := [.inr (wd r.w), .inl r.a, .inl r.b]
noncomputable def whyD : Option (Int × Int) → Dt
  | none => .flat .non
  | some p => flD p
noncomputable def Rw.d (r : Rw) : Dt := .tup [.flat (.str (wd r.w)), .flat (.int r.a), .flat (.int r.b), whyD r.y]
noncomputable def Rw.ok (N M : Int) (r : Rw) : Prop := 0 ≤ r.a ∧ (r.a < match r.w with | true => N | false => M) ∧ 0 ≤ r.b ∧ r.b < N
noncomputable def Rw.c (r : Rw) : Nat := (match r.w with | true => 0 | false => 4096) + r.a.toNat * 64 + r.b.toNat
theorem nodup_map {α β : Type} {f : α → β} : ∀ {l : List α}, (l.map f).Nodup → ∀ {g : α → Nat}, (∀ x ∈ l, ∀ y ∈ l, g x = g y → f x = f y) → (l.map g).Nodup
  | [], _, _, _ => List.nodup_nil
  | a :: t, h, g, k => by
    rw [List.map_cons, List.nodup_cons] at h ⊢
    refine ⟨fun m => ?_, nodup_map h.2 fun x hx y hy => k x (by simp [hx]) y (by simp [hy])⟩
    obtain ⟨y, hy, e⟩ := List.mem_map.mp m
    exact h.1 (List.mem_map.mpr ⟨y, hy, k y (by simp [hy]) a (by simp) e⟩)
theorem rows_le {N M : Int} {l : List Rw} (hN : N ≤ 64) (hM : M ≤ 64) (d : (l.map Rw.k).Nodup) (h : ∀ r ∈ l, r.ok N M) : l.length ≤ 8192 := by
  have z : ∀ r ∈ l, 0 ≤ r.a ∧ r.a < 64 ∧ 0 ≤ r.b ∧ r.b < 64 := fun r hr => by
    obtain ⟨h1, h2, h3, h4⟩ := h r hr
    cases e : r.w <;> rw [e] at h2 <;> dsimp only at h2 <;> omega
  have := nodup_le 8192 (l.map Rw.c) (nodup_map d fun x hx y hy e => ?_) fun c hc => ?_
  · rw [List.length_map] at this; exact this
  · have a1 := z x hx
    have a2 := z y hy
    unfold Rw.c at e
    have w : x.w = y.w := by
      cases e1 : x.w <;> cases e2 : y.w <;> rw [e1, e2] at e <;> dsimp only at e <;> first | rfl | omega
    rw [w] at e
    have : x.a = y.a ∧ x.b = y.b := by
      cases e2 : y.w <;> rw [e2] at e <;> dsimp only at e <;> omega
    rw [Rw.k, Rw.k, w, this.1, this.2]
  · obtain ⟨r, hr, rfl⟩ := List.mem_map.mp hc
    have a1 := z r hr
    unfold Rw.c
    cases e : r.w <;> dsimp only <;> omega
noncomputable def ixn (A : Nat → Option Int) (p : Int) (n : Nat) : List Int := ((List.range n).filter fun j => decide (A j = some p)).map fun j => ((j : Nat) : Int)
theorem ixn_succ {A : Nat → Option Int} {p : Int} {n : Nat} : ixn A p (n + 1) = ixn A p n ++ if A n = some p then [(n : Int)] else [] := by
  unfold ixn
  rw [List.range_succ, List.filter_append, List.map_append]
  congr 1
  by_cases h : A n = some p
  · rw [if_pos h]; simp [h]
  · rw [if_neg h]; simp [h]
theorem ixn_len {A : Nat → Option Int} {p : Int} {n : Nat} : (ixn A p n).length ≤ n := by
  unfold ixn
  rw [List.length_map]
  exact Nat.le_trans (List.length_filter_le _ _) (by simp)
theorem ixn_mem {A : Nat → Option Int} {p : Int} {n : Nat} {x : Int} (h : x ∈ ixn A p n) : ∃ j : Nat, x = j ∧ j < n ∧ A j = some p := by
  unfold ixn at h
  obtain ⟨j, hj, rfl⟩ := List.mem_map.mp h
  rw [List.mem_filter] at hj
  exact ⟨j, rfl, List.mem_range.mp hj.1, of_decide_eq_true hj.2⟩
noncomputable def bdn (A : Nat → Option Int) (q : Int → Bool) (p k : Int) (n : Nat) : List (Int × Int) := ((ixn A p n).filter q).map fun j => (k, j)
theorem bdn_len {A : Nat → Option Int} {q : Int → Bool} {p k : Int} {n : Nat} : (bdn A q p k n).length ≤ n := by
  unfold bdn
  rw [List.length_map]
  exact Nat.le_trans (List.length_filter_le _ _) ixn_len
noncomputable def dueN (f : Rw → Int → List (Int × Int)) (R : List Rw) : Nat → List (Int × Int)
  | 0 => []
  | n + 1 => dueN f R n ++ match R[n]? with
    | some r => f r n
    | none => []
theorem due_app {f : Rw → Int → List (Int × Int)} {R S : List Rw} : ∀ {n : Nat}, n ≤ R.length → dueN f (R ++ S) n = dueN f R n
  | 0, _ => rfl
  | n + 1, h => by
    rw [dueN, dueN, due_app (Nat.le_of_succ_le h), List.getElem?_append_left h]
theorem due_one {f : Rw → Int → List (Int × Int)} {R : List Rw} {n : Nat} {r : Rw} (h : R[n]? = some r) : dueN f R (n + 1) = dueN f R n ++ f r n := by
  rw [dueN, h]
structure DL (H : Hp) (d : Addr) (L : List Addr) (f : Int → List V) (k : Nat) : Prop where
  ex : ∃ kvs : List (Key × V), H d = some (.dK kvs) ∧ kvs.length ≤ k ∧ (∀ p, valV kvs (.inl p) = none → f p = []) ∧
    (∀ p v, valV kvs (.inl p) = some v → ∃ l, l ∈ L ∧ v = .ref l ∧ H l = some (.lst (f p))) ∧ (∀ p q v, valV kvs (.inl p) = some v → valV kvs (.inl q) = some v → p = q)
noncomputable def putf (f : Int → List V) (p : Int) (x : V) : Int → List V := fun q => if q = p then f p ++ [x] else f q
structure Sda (H : Hp) (d : Addr) (L : List Addr) (f : Int → List V) (k : Nat) (p : Int) (l : Addr) (H1 : Hp) : Prop where
  here : H1 l = some (.lst (f p))
  fin : ∀ H2 x, Same H1 H2 → ∃ L', (∀ a ∈ L', a ∈ L ∨ a = l) ∧ DL (upd H2 l (.lst (f p ++ [x]))) d L' (putf f p x) (k + 1)
  fr : ∀ a o, H a = some o → a ≠ d → H1 a = some o
  own : l ∈ L ∨ H l = none
theorem DL.same {H H' : Hp} {d : Addr} {L : List Addr} {f : Int → List V} {k : Nat} (W : DL H d L f k) (s : ∀ a o, H a = some o → a = d ∨ a ∈ L → H' a = some o) : DL H' d L f k := by
  obtain ⟨kvs, e, hl, h1, h2, h3⟩ := W
  exact ⟨kvs, s _ _ e (.inl rfl), hl, h1, fun p v hv => by obtain ⟨l, m, rfl, el⟩ := h2 p v hv; exact ⟨l, m, rfl, s _ _ el (.inr m)⟩, h3⟩
theorem DL.keep {H H' : Hp} {d : Addr} {L : List Addr} {f : Int → List V} {k : Nat} (W : DL H d L f k) (hd : ∀ kvs, H d = some (.dK kvs) → H' d = some (.dK kvs)) (hl : ∀ a l, a ∈ L → H a = some (.lst l) → H' a = some (.lst l)) : DL H' d L f k := by
  obtain ⟨kvs, e, hn, h1, h2, h3⟩ := W
  exact ⟨kvs, hd _ e, hn, h1, fun p v hv => by obtain ⟨l, m, rfl, el⟩ := h2 p v hv; exact ⟨l, m, rfl, hl _ _ m el⟩, h3⟩
theorem DL.get {H : Hp} {d : Addr} {L : List Addr} {f : Int → List V} {k : Nat} (W : DL H d L f k) (p : Int) {z : Addr} (hz : H z = none) :
    ∃ kvs l, (upd H z (.lst [])) d = some (.dK kvs) ∧ (valV kvs (.inl p)).getD (.ref z) = .ref l ∧ (upd H z (.lst [])) l = some (.lst (f p)) ∧ (l ∈ L ∨ H l = none) := by
  obtain ⟨kvs, e, hl, h1, h2, h3⟩ := W
  have s := same_new hz (.lst [])
  cases ev : valV kvs (.inl p) with
  | none => exact ⟨kvs, z, s _ _ e, by rw [ev]; rfl, by rw [h1 p ev]; exact upd_same, .inr hz⟩
  | some v =>
    obtain ⟨l, m, rfl, el⟩ := h2 p v ev
    exact ⟨kvs, l, s _ _ e, by rw [ev]; rfl, s _ _ el, .inl m⟩
theorem DL.sda {H : Hp} {d : Addr} {L : List Addr} {f : Int → List V} {k : Nat} (W : DL H d L f k) (p : Int) {z : Addr} (hz : H z = none) :
    ∃ kvs, (upd H z (.lst [])) d = some (.dK kvs) ∧ kvs.length ≤ k ∧
      (∀ v, valV kvs (.inl p) = some v → ∃ l, v = .ref l ∧ Sda H d L f k p l (upd H z (.lst []))) ∧
      (valV kvs (.inl p) = none → Sda H d L f k p z (upd (upd H z (.lst [])) d (.dK (putK kvs (.inl p) (.ref z))))) := by
  obtain ⟨kvs, e, hl, h1, h2, h3⟩ := W
  have s := same_new hz (.lst [])
  have dz : d ≠ z := ne_of_none e hz
  refine ⟨kvs, s _ _ e, hl, fun v hv => ?_, fun hn => ?_⟩
  · obtain ⟨l, m, rfl, el⟩ := h2 p v hv
    refine ⟨l, rfl, s _ _ el, fun H2 x S => ⟨L, fun a ha => .inl ha, kvs, ?_, Nat.le_succ_of_le hl, fun q hq => ?_, fun q v hv' => ?_, h3⟩, fun a o ea _ => s _ _ ea, .inl m⟩
    · rw [upd_ne (ne_of e el (fun z => nomatch z))]
      exact S _ _ (s _ _ e)
    · have : q ≠ p := fun z => by rw [z, hv] at hq; cases hq
      rw [putf, if_neg this]
      exact h1 q hq
    · obtain ⟨l', m', rfl, el'⟩ := h2 q v hv'
      refine ⟨l', m', rfl, ?_⟩
      by_cases z : q = p
      · subst z
        rw [hv] at hv'
        cases hv'
        rw [putf, if_pos rfl]
        exact upd_same
      · have : l' ≠ l := fun w => z (h3 q p (.ref l') hv' (by rw [w]; exact hv))
        rw [putf, if_neg z, upd_ne this]
        exact S _ _ (s _ _ el')
  · have ez : (upd (upd H z (.lst [])) d (.dK (putK kvs (.inl p) (.ref z)))) z = some (.lst []) := by rw [upd_ne dz.symm]; exact upd_same
    refine ⟨by rw [ez, h1 p hn], fun H2 x S => ⟨z :: L, fun a ha => ?_, putK kvs (.inl p) (.ref z), ?_, ?_, fun q hq => ?_, fun q v hv' => ?_, fun q1 q2 v e1 e2 => ?_⟩, fun a o ea n => by rw [upd_ne n]; exact s _ _ ea, .inr hz⟩
    · rcases List.mem_cons.mp ha with rfl | ha
      · exact .inr rfl
      · exact .inl ha
    · rw [upd_ne dz]
      exact S _ _ upd_same
    · have := length_putK kvs (.inl p) (.ref z)
      omega
    · rw [valV_put] at hq
      by_cases w : q = p
      · rw [if_pos (by rw [w])] at hq; cases hq
      · rw [if_neg (fun y => w (by injection y))] at hq
        rw [putf, if_neg w]
        exact h1 q hq
    · rw [valV_put] at hv'
      by_cases w : q = p
      · rw [if_pos (by rw [w])] at hv'
        cases hv'
        exact ⟨z, by simp, rfl, by rw [putf, if_pos w]; exact upd_same⟩
      · rw [if_neg (fun y => w (by injection y))] at hv'
        obtain ⟨l', m', rfl, el'⟩ := h2 q v hv'
        refine ⟨l', by simp [m'], rfl, ?_⟩
        rw [putf, if_neg w, upd_ne (ne_of_none el' hz)]
        refine S _ _ ?_
        rw [upd_ne (ne_of el' e (fun z => nomatch z))]
        exact s _ _ el'
    · rw [valV_put] at e1 e2
      have no : ∀ q, valV kvs (.inl q) ≠ some (.ref z) := fun q y => by
        obtain ⟨l', _, w, el'⟩ := h2 q _ y
        cases w
        rw [hz] at el'
        cases el'
      by_cases w1 : q1 = p
      · by_cases w2 : q2 = p
        · rw [w1, w2]
        · rw [if_pos (by rw [w1])] at e1
          cases e1
          rw [if_neg (fun y => w2 (by injection y))] at e2
          exact absurd e2 (no q2)
      · by_cases w2 : q2 = p
        · rw [if_pos (by rw [w2])] at e2
          cases e2
          rw [if_neg (fun y => w1 (by injection y))] at e1
          exact absurd e1 (no q1)
        · rw [if_neg (fun y => w1 (by injection y))] at e1
          rw [if_neg (fun y => w2 (by injection y))] at e2
          exact h3 q1 q2 v e1 e2
end BO.Internal
namespace BO.Internal
open PySem L2.Internal
open Classical in
noncomputable def putR (R : List Rw) (ρ : Rw) : List Rw := if ρ.k ∈ R.map Rw.k then R else R ++ [ρ]
noncomputable def putsR (R l : List Rw) : List Rw := l.foldl putR R
theorem putsR_snoc (R l : List Rw) (ρ : Rw) : putsR R (l ++ [ρ]) = putR (putsR R l) ρ := by
  unfold putsR
  rw [List.foldl_append]
  rfl
theorem putR_pre (R : List Rw) (ρ : Rw) : ∃ more, putR R ρ = R ++ more := by
  unfold putR
  split
  · exact ⟨[], (List.append_nil _).symm⟩
  · exact ⟨[ρ], rfl⟩
theorem putsR_pre : ∀ (l R : List Rw), ∃ more, putsR R l = R ++ more
  | [], R => ⟨[], (List.append_nil _).symm⟩
  | ρ :: l, R => by
    obtain ⟨m1, e1⟩ := putR_pre R ρ
    obtain ⟨m2, e2⟩ := putsR_pre l (putR R ρ)
    refine ⟨m1 ++ m2, ?_⟩
    show putsR (putR R ρ) l = _
    rw [e2, e1, List.append_assoc]
noncomputable def gosF (p : Int) (r : Rw) (n : Int) : List (Int × Int) := if r.w = true ∧ r.a = p then [(n, r.b)] else []
noncomputable def herF (p : Int) (r : Rw) (n : Int) : List (Int × Int) := if r.w = false ∧ r.b = p then [(n, r.a)] else []
theorem due_mem {f : Rw → Int → List (Int × Int)} {R : List Rw} {x : Int × Int} : ∀ {k : Nat}, x ∈ dueN f R k → ∃ (n : Nat) (r : Rw), n < k ∧ R[n]? = some r ∧ x ∈ f r n
  | 0, h => by cases h
  | k + 1, h => by
    rw [dueN] at h
    rcases List.mem_append.mp h with h | h
    · obtain ⟨n, r, h1, h2, h3⟩ := due_mem h
      exact ⟨n, r, Nat.lt_succ_of_lt h1, h2, h3⟩
    · cases e : R[k]? with
      | none => rw [e] at h; cases h
      | some r => rw [e] at h; exact ⟨k, r, Nat.lt_succ_self k, e, h⟩
theorem gos_mem {R : List Rw} {p : Int} {k : Nat} {x : Int × Int} (h : x ∈ dueN (gosF p) R k) : ∃ (n : Nat) (y : Option (Int × Int)), x.1 = (n : Int) ∧ n < k ∧ R[n]? = some ⟨true, p, x.2, y⟩ := by
  obtain ⟨n, ⟨w, a, b, y⟩, h1, h2, h3⟩ := due_mem h
  unfold gosF at h3
  split at h3
  · rename_i z
    simp only [List.mem_singleton] at h3
    subst h3
    obtain ⟨z1, z2⟩ := z
    dsimp only at z1 z2
    subst z1 z2
    exact ⟨n, y, rfl, h1, h2⟩
  · cases h3
theorem her_mem {R : List Rw} {p : Int} {k : Nat} {x : Int × Int} (h : x ∈ dueN (herF p) R k) : ∃ (n : Nat) (y : Option (Int × Int)), x.1 = (n : Int) ∧ n < k ∧ R[n]? = some ⟨false, x.2, p, y⟩ := by
  obtain ⟨n, ⟨w, a, b, y⟩, h1, h2, h3⟩ := due_mem h
  unfold herF at h3
  split at h3
  · rename_i z
    simp only [List.mem_singleton] at h3
    subst h3
    obtain ⟨z1, z2⟩ := z
    dsimp only at z1 z2
    subst z1 z2
    exact ⟨n, y, rfl, h1, h2⟩
  · cases h3
theorem take_map {α β : Type} {f : α → β} {l : List α} {i : Nat} {x : α} (h : l[i]? = some x) : (l.take (i + 1)).map f = (l.take i).map f ++ [f x] := by
  rw [List.take_add_one, h, List.map_append]
  rfl
end BO.Internal
namespace L2.Internal
open PySem PySem.Spec PyProof.Rows
section
variable {X : Cx}
theorem vals_mem : ∀ {xs : List V} {us : List Value} {u : Value}, Vals xs us → u ∈ us → ∃ (j : Nat) (x : V), xs[j]? = some x ∧ RelV x u
  | _, _, _, .nil, h => by cases h
  | x :: xs, v :: us, u, .cons r t, h => by
    rcases List.mem_cons.mp h with e | h
    · subst e; exact ⟨0, x, rfl, r⟩
    · obtain ⟨j, y, e, r'⟩ := vals_mem t h
      exact ⟨j + 1, y, e, r'⟩
theorem vals_get : ∀ {xs : List V} {us : List Value} {j : Nat} {x : V}, Vals xs us → xs[j]? = some x → ∃ u, u ∈ us ∧ RelV x u
  | _, _, _, _, .nil, h => by simp at h
  | x :: xs, v :: us, 0, y, .cons r t, h => by cases h; exact ⟨v, by simp, r⟩
  | x :: xs, v :: us, j + 1, y, .cons r t, h => by
    obtain ⟨u, m, q⟩ := vals_get (j := j) t h
    exact ⟨u, by simp [m], q⟩
noncomputable def rInD (K : PySem.W.Frag) : R2 := fun x y H Q => ∃ p xs ds d, y = .ref p ∧ SqL K H p xs ∧ Ats K H xs ds ∧ At K H x d ∧ (∀ e ∈ ds, cmpD e d = true ∧ depD e ≤ 100) ∧ (∃ (j : Nat) (e : Dt), ds[j]? = some e ∧ eqD e d = true) ∧ Q (.bl true) H
theorem op_inD {k : Nat} (hr : Room k X.A) : OpR X (compareOp .In) (rInD X.K) := by
  intro pins s σ H x y v u Q I rx ry h
  obtain ⟨p, xs, ds, d, rfl, hq, hs, hx, hc, ⟨j0, e0, hj0, he0⟩, q⟩ := h
  cases ry
  have hu := hr.un
  obtain ⟨its, r, pl, hz⟩ := I.list hq
  have one : ∀ {j : Nat} {z : V} {w : Value}, xs[j]? = some z → RelV z w → ∃ e, ds[j]? = some e ∧ SeqAt.EqAt X.A.in1 s w v (eqD e d) := fun {j z w} hz rz => by
    obtain ⟨e, he, ha⟩ := hs.get hz
    have := hc e (List.mem_of_getElem? he)
    exact ⟨e, he, eqAt_D I 100 X.A.in1 rz rx ha hx this.1 this.2 (by show X.A.units + 1 + 100 < cLine; omega)⟩
  let E : Value → Prop := fun w => ∃ (j : Nat) (z : V) (e : Dt), xs[j]? = some z ∧ RelV z w ∧ ds[j]? = some e ∧ eqD e d = true
  haveI : DecidablePred E := fun _ => Classical.propDecidable _
  refine SeqAt.in_listAt (fun w => decide (E w)) pl.isList (fun w hw => ?_) ⟨.bl true, H, I, ?_, q⟩
  · by_cases hE : E w
    · obtain ⟨j, z, e, h1, h2, h3, h4⟩ := id hE
      obtain ⟨e', h5, h6⟩ := one h1 h2
      rw [h3] at h5
      cases h5
      rw [h4] at h6
      show SeqAt.EqAt _ _ _ _ (decide (E w))
      rw [decide_eq_true hE]
      exact h6
    · obtain ⟨j, z, h1, h2⟩ := vals_mem r (by simpa using hw)
      obtain ⟨e', h5, h6⟩ := one h1 h2
      have : eqD e' d = false := by
        cases h : eqD e' d with
        | false => rfl
        | true => exact absurd ⟨j, z, e', h1, h2, h5, h⟩ hE
      rw [this] at h6
      show SeqAt.EqAt _ _ _ _ (decide (E w))
      rw [decide_eq_false hE]
      exact h6
  · have hl := hs.length
    have hjl := (List.getElem?_eq_some_iff.mp hj0).1
    obtain ⟨z, hz0⟩ : ∃ z, xs[j0]? = some z := ⟨_, List.getElem?_eq_getElem (by omega)⟩
    obtain ⟨w, hw, rw_⟩ := vals_get r hz0
    have : its.toArray.any (fun w => decide (E w)) = true := by
      simp only [List.any_toArray, List.any_eq_true, decide_eq_true_eq]
      exact ⟨w, hw, j0, z, e0, hz0, rw_, hj0, he0⟩
    rw [this]
    rfl
end
end L2.Internal
namespace L2.Internal
open PySem PySem.Spec PyProof.Rows
section
variable {X : Cx}
end
section
variable {X : Cx} {pins : List (Addr × Obj)} {σ : St} {H : Hp} {s : Shared}
noncomputable def rEqE (K : PySem.W.Frag) (neg : Bool) : R2 := fun x y H Q => ∃ a b l m, x = .ref a ∧ y = .ref b ∧ At K H x (.tup l) ∧ At K H y (.tup m) ∧ cmpDs l m = true ∧ depDs l ≤ 200 ∧ Q (.bl (if neg then !eqDs l m else eqDs l m)) H
end
section
variable {prog : Program} {w : World} {A : Around} {R : Result → Shared → Prop} {I : Addr} {fp wr : List Addr} {n : Nat} {P : Nat → Value → Prop} {St : Nat → Heap → Prop}
end
section
variable {prog : Program} {w : World} {A : Around} {E : Value → Shared → Prop} {s : Shared} {l : Addr} {xs : Array (Int × Tok)}
end
section
variable {X : Cx}
noncomputable def tMaxD (K : PySem.W.Frag) (ta : TA) (td : TE) : TE := fun σ H Q => ta σ H fun vs H1 => td σ H1 fun x H2 => ∃ (a : Addr) (ns : List Int) (i : Int), vs = [.ref a] ∧ x = .int i ∧ SqL K H2 a (ns.map V.int) ∧ ∀ n, Q (.int n) H2
end
end L2.Internal
namespace L2.Internal
open PySem PySem.Spec PyProof.Rows
section
variable {X : Cx}
end
end L2.Internal
namespace L2.Internal
open PySem PySem.Spec PyProof.Rows PySem.W
noncomputable def KG {α : Type} (n : Nat) (P : α → Prop) : KasT α → Prop
  | .ret a => P a
  | .ask i j k => i < n ∧ j < n ∧ ∀ b, KG n P (k b)
noncomputable def PmN (n : Nat) (p : Array Nat) : Prop := p.Perm (List.toArray (List.range n))
section
variable {prog : Program} {w : World} {A : Around} {E : Value → Shared → Prop} {s : Shared}
noncomputable def Sortable (prog : Program) (w : World) (A : Around) (vs : List Value) (s : Shared) : Prop :=
  ∃ κ, (∀ (Q : SortKind → Shared → Prop) (E : Value → Shared → Prop), Q κ s → wpAny (model prog w) A (keyKind' vs.toArray) Q E s) ∧ ∀ i j C, i < vs.length → j < vs.length → (∀ b, C b s) → kas_ask prog w A κ vs i j C s
noncomputable def KeyV (S : Bool) (x : Value) : Prop := if S = true then ∃ z t, x = .str z t else ∃ z t, x = .int z t
noncomputable def PairV (S : Bool) (h : Heap) (v : Value) : Prop := ∃ t o n x y j tk, v = .ref t ∧ h.get? t = some o ∧ o.cls = .type "tuple" ∧ o.data = .seq #[x, y] n ∧ KeyV S x ∧ y = .int j tk
noncomputable def tyS (S : Bool) : Value := if S = true then .type "str" else .type "int"
end
section
variable {X : Cx}
noncomputable def PairH (S : Bool) (H : Hp) (v : V) : Prop := ∃ t x j, v = .ref t ∧ H t = some (.tup [x, .int j]) ∧ if S = true then ∃ z, x = .str z else ∃ z, x = .int z
end
end L2.Internal
namespace L2.Internal
open PySem PySem.Spec PyProof.Rows PySem.W
section
variable {fs ex : List Addr} {H H' : Hp} {h h' : Heap}
end
section
variable {X : Cx} {pins : List (Addr × Obj)} {σ : St} {H H' : Hp} {s : Shared} {h' : Heap}
end
section
variable {X : Cx}
noncomputable def itT (p : Key × V) : HO := .tup [kV p.1, p.2]
noncomputable def itsH (H : Hp) (as : List Addr) (kvs : List (Key × V)) : Hp := fun b => match (as.zip kvs).find? (fun p => decide (p.1 = b)) with
  | some p => some (itT p.2)
  | none => H b
end
end L2.Internal
namespace L2.Internal
open PySem PySem.Spec PyProof.Rows
mutual
noncomputable def nlD : Dt → Bool
  | .flat _ => true
  | .tup l => nlDs l
  | .lst _ => false
noncomputable def nlDs : List Dt → Bool
  | [] => true
  | x :: xs => nlD x && nlDs xs
end
theorem nlDs_get : ∀ {l : List Dt} {j : Nat} {a : Dt}, nlDs l = true → l[j]? = some a → nlD a = true
  | x :: xs, 0, a, h, e => by
    cases e
    rw [nlDs, Bool.and_eq_true] at h
    exact h.1
  | x :: xs, j + 1, a, h, e => by
    rw [nlDs, Bool.and_eq_true] at h
    exact nlDs_get h.2 e
  | [], j, a, _, e => by simp at e
section
variable {X : Cx} {pins : List (Addr × Obj)} {σ : St} {H : Hp} {s : Shared}
mutual
theorem at_same (I : Inv X pins σ H s) : ∀ {x : V} {d e : Dt}, At X.K H x d → At X.K H x e → nlD d = true → nlD e = true → eqD d e = true
  | _, _, _, .flat h, .flat _, _, _ => by rw [eqD]; exact flat_same h
  | _, _, _, .tup h hs, .tup h' hs', n, n' => by
    have e := I.tuple_inj h h'
    subst e
    rw [nlD] at n n'
    rw [eqD]
    exact ats_same I hs hs' n n'
  | _, _, _, .flat h, .tup _ _, _, _ => absurd h Bool.false_ne_true
  | _, _, _, .tup _ _, .flat h, _, _ => absurd h Bool.false_ne_true
  | _, _, _, .lst _ _, _, n, _ => by rw [nlD] at n; cases n
  | _, _, _, _, .lst _ _, _, n => by rw [nlD] at n; cases n
theorem ats_same (I : Inv X pins σ H s) : ∀ {xs : List V} {l m : List Dt}, Ats X.K H xs l → Ats X.K H xs m → nlDs l = true → nlDs m = true → eqDs l m = true
  | _, _, _, .nil, .nil, _, _ => by rw [eqDs]
  | _, _, _, .cons h t, .cons h' t', n, n' => by
    rw [nlDs, Bool.and_eq_true] at n n'
    rw [eqDs, at_same I h h' n.1 n'.1, ats_same I t t' n.2 n'.2]
    rfl
end
theorem eq_flat_tup {A : Around} (I : Inv X pins σ H s) {x : V} {u : Value} {b : Addr} {ys : List V} (r : RelV x u) (hx : flatV x = true) (h : SqT X.K H b ys) (hu : A.units < cLine) : SeqAt.EqAt A s u (.ref b) false ∧ SeqAt.EqAt A s (.ref b) u false := by
  obtain ⟨its, _, pl, _⟩ := I.tuple h
  cases x with
  | non => cases r; exact ⟨.none_tuple pl hu, .tuple_none pl hu⟩
  | bl k => cases r; exact ⟨.bool_tuple _ pl hu, .tuple_bool _ pl hu⟩
  | int i => obtain ⟨t, rfl⟩ := r; exact ⟨.int_tuple _ _ pl hu, .tuple_int _ _ pl hu⟩
  | str z => obtain ⟨t, rfl⟩ := r; exact ⟨.str_tuple _ _ pl hu, .tuple_str _ _ pl hu⟩
  | _ => cases hx
theorem eqAt_M (I : Inv X pins σ H s) : ∀ (n : Nat) (A : Around) {x y : V} {u v : Value} {d e : Dt}, RelV x u → RelV y v → At X.K H x d → At X.K H y e → nlD d = true → nlD e = true → depD d ≤ n → A.units + n < cLine → SeqAt.EqAt A s u v (eqD d e) := by
  intro n
  induction n with
  | zero =>
    intro A x y u v d e rx ry hx hy n1 n2 hd hu
    cases hx with
    | flat h =>
      cases hy with
      | flat h' => rw [eqD]; exact eqAt_V rx ry h h'
      | tup h' _ => cases ry; simp only [eqD]; exact (eq_flat_tup I rx h h' (by omega)).1
      | lst _ _ => rw [nlD] at n2; cases n2
    | tup _ _ => rw [depD] at hd; omega
    | lst _ _ => rw [depD] at hd; omega
  | succ n ih =>
    intro A x y u v d e rx ry hx hy n1 n2 hd hu
    cases hx with
    | flat h =>
      cases hy with
      | flat h' => rw [eqD]; exact eqAt_V rx ry h h'
      | tup h' _ => cases ry; simp only [eqD]; exact (eq_flat_tup I rx h h' (by omega)).1
      | lst _ _ => rw [nlD] at n2; cases n2
    | lst _ _ => rw [nlD] at n1; cases n1
    | @tup a xs ds h hs =>
      cases hy with
      | flat h' => cases rx; simp only [eqD]; exact (eq_flat_tup I ry h' h (by omega)).2
      | lst _ _ => rw [nlD] at n2; cases n2
      | @tup b ys es h' hs' =>
        cases rx
        cases ry
        by_cases hab : a = b
        · subst hab
          rw [at_same I (.tup h hs) (.tup h' hs') n1 n2]
          exact SeqAt.EqAt.same _
        · rw [depD] at hd
          rw [nlD] at n1 n2
          refine SeqAt.EqAt.of_refs hab (rc_tup I h hs h' hs' (by omega) fun j d1 d2 x y u v f1 f2 q1 q2 p1 p2 => ?_).1
          exact ih A.in1 q1 q2 p1 p2 (nlDs_get n1 f1) (nlDs_get n2 f2) (Nat.le_trans (depDs_get f1) (by omega)) (by show A.units + 1 + n < cLine; omega)
end
section
variable {X : Cx}
noncomputable def rNiD (K : PySem.W.Frag) : R2 := fun x y H Q => ∃ p xs ds d, y = .ref p ∧ SqL K H p xs ∧ Ats K H xs ds ∧ At K H x d ∧ nlD d = true ∧ (∀ e ∈ ds, nlD e = true ∧ depD e ≤ 100) ∧ ∀ b : Bool, Q (.bl b) H
end
end L2.Internal
namespace L2.Internal
open PySem PySem.Spec PyProof.Rows
section
open PySem.SeqAt
open PySem.AutoSeq1 (wpAny_loadPart')
open PySem.MeetsSeq PySem.MeetsSeq2 PySem.MeetsSeq3
theorem gt_walk (l b : Addr) (us vs : List Value) (n n2 : Nat) (dd dd2 : Option Addr) (sl sl2 : Array (Option Value)) (is js : List Int) (hu : IntsAre us is) (hv : IntsAre vs js) (hl : is.length = js.length) :
    Meets (Builtin.«tuple.__gt__» ⟨[.ref l, .ref b], []⟩)
      (fun A R s => (s.heap.get? l = some { cls := .type "tuple", dict := dd, data := .seq us.toArray n, slots := sl } ∧ s.heap.get? b = some { cls := .type "tuple", dict := dd2, data := .seq vs.toArray n2, slots := sl2 }) ∧
        R (.ok (.ret (.bool (HT.Internal.lexLt js is)))) s) :=
  .of_wp fun prog w A R s h => by
    obtain ⟨hp, g, d, tk, os⟩ := s
    obtain ⟨⟨g1, g2⟩, h⟩ := h
    have f2 := AutoSeq1.sub_tuple_tuple
    wp_walk using wpAny_loadPart' g1, wpAny_loadPart' g2, wpAny_forIn_list _ (fun rest b s' => b.1 = none ∧ s' = ⟨hp, g, d, tk, os⟩ ∧ ∃ (us' vs' : List Value) (is' js' : List Int), rest = us'.zip vs' ∧ IntsAre us' is' ∧ IntsAre vs' js' ∧ is'.length = js'.length ∧ HT.Internal.lexLt js is = HT.Internal.lexLt js' is') _
    case turn =>
      rintro ⟨y, x⟩ rest b s' ⟨hb', rfl, us', vs', is', js', hz, q1, q2, hl2, he⟩
      cases q1 with
      | nil => cases hz
      | cons i t r1 =>
        cases q2 with
        | nil => cases hz
        | cons j t2 r2 =>
          rw [List.zip_cons_cons] at hz
          cases hz
          refine wpAny_bind (wpAny_eqBool_int ?_)
          by_cases hij : i = j
          · have hb2 : (i == j) = true := by rw [hij]; exact beq_self_eq_true j
            rw [hb2]
            wp_walk
            refine ⟨rfl, rfl, _, _, _, _, rfl, r1, r2, by simpa using hl2, ?_⟩
            rw [he, HT.Internal.lexLt_cons, if_pos hij.symm]
          · have hb2 : (i == j) = false := by simp [hij]
            rw [hb2]
            have hri : ∀ (E : Value → Shared → Prop) (Q : Value → Shared → Prop), Q (.bool (decide (i > j))) ⟨hp, g, d, tk, os⟩ → wpAny (model prog w) A.in1 (richCompare .Gt (.int i t) (.int j t2)) Q E ⟨hp, g, d, tk, os⟩ := fun E Q h => (PyProof.Rows.gt_int h : wpAny (model prog w) A.in1 (compareOp .Gt (.int i t) (.int j t2)) Q E _)
            wp_walk using hri
            rw [he, HT.Internal.lexLt_cons, if_neg (fun z => hij z.symm)] at h
            exact ⟨_, rfl, h⟩
    case fin =>
      rintro ⟨b1, b2⟩ s' ⟨hb', rfl, us', vs', is', js', hz, q1, q2, hl2, he⟩
      simp only at hb'
      subst hb'
      have e0 : HT.Internal.lexLt js' is' = false := by
        cases q1 with
        | nil =>
          have : js' = [] := List.eq_nil_of_length_eq_zero hl2.symm
          rw [this]
          rfl
        | cons i t r1 =>
          cases q2 with
          | nil => cases hl2
          | cons _ _ _ => cases hz
      have z1 := hu.length
      have z2 := hv.length
      rw [he, e0] at h
      wp_walk
      have : Builtin.Tuple.tupleCompareSizes .Gt us.toArray.size vs.toArray.size = .bool false := by
        show Value.bool (decide (us.toArray.size > vs.toArray.size)) = _
        rw [decide_eq_false (by rw [List.size_toArray, List.size_toArray]; omega)]
      exact ⟨_, rfl, by rw [this]; exact h⟩
    case h => exact ⟨rfl, rfl, us, vs, is, js, rfl, hu, hv, hl, rfl⟩
end
section
variable {X : Cx}
noncomputable def rGtT (K : PySem.W.Frag) : R2 := fun x y H Q => ∃ a b ns ms, x = .ref a ∧ y = .ref b ∧ SqT K H a (ns.map V.int) ∧ SqT K H b (ms.map V.int) ∧ ns.length = ms.length ∧ Q (.bl (HT.Internal.lexLt ms ns)) H
theorem op_gtT (hu : X.A.units < cLine) : OpR X (compareOp .Gt) (rGtT X.K) := by
  intro pins s σ H x y v u Q I rx ry h
  obtain ⟨a, b, ns, ms, rfl, rfl, ha, hb, hl, q⟩ := h
  cases rx
  cases ry
  obtain ⟨its, r1, p1, _⟩ := I.tuple ha
  obtain ⟨its2, r2, p2, _⟩ := I.tuple hb
  obtain ⟨⟨cls, dd, data, sl⟩, ho, hc, n, hd⟩ := id p1
  obtain ⟨⟨cls2, dd2, data2, sl2⟩, ho2, hc2, n2, hd2⟩ := id p2
  simp only at hc hd hc2 hd2
  subst hc hd hc2 hd2
  exact richCompare_meets_room (op := .Gt) ⟨_, ho, rfl⟩ ⟨_, ho2, rfl⟩ PySem.F.slot_tuple_gt PySem.F.entry_tuple_gt (PySem.F.args_tuple_gt_2 _ _) (gt_walk a b its its2 n n2 dd dd2 sl sl2 ns ms (intsAre_of r1) (intsAre_of r2) hl)
    ⟨⟨ho, ho2⟩, show Value.bool (HT.Internal.lexLt ms ns) ≠ Value.notImplemented ∧ EP X pins σ Q (.bool (HT.Internal.lexLt ms ns)) s from ⟨(fun x => nomatch x), ⟨.bl (HT.Internal.lexLt ms ns), H, I, rfl, q⟩⟩⟩ hu
noncomputable def rIndex (K : PySem.W.Frag) : V → List V → Hp → VK → Prop := fun x vs H Q => ∃ l xs ds y d j e, x = .ref l ∧ vs = [y] ∧ SqL K H l xs ∧ Ats K H xs ds ∧ At K H y d ∧ nlD d = true ∧ (∀ e ∈ ds, nlD e = true ∧ depD e ≤ 100) ∧ (∀ z ∈ xs, ∃ a, z = V.ref a) ∧ ds[j]? = some e ∧ eqD e d = true ∧ (∀ (m i : Nat) z e', m < j → xs[m]? = some z → xs[i]? = some z → ds[i]? = some e' → eqD e' d = false) ∧ Q (.int (j : Int)) H
theorem mt_index {k : Nat} (hr : Room k X.A) : MtR X "list.index" (rIndex X.K) := by
  intro pins s σ H x vs v us Q I rx rv h
  obtain ⟨l, xs, ds, y, d, j, e, rfl, rfl, hq, hs, hy, nd, hc, hrf, hj, hje, hno, q⟩ := h
  cases rx
  obtain ⟨u, rfl, ru⟩ := rv.one
  have hu := hr.un
  have sl0 : sizeLine = 16777216 := sizeLine_eq
  obtain ⟨its, r, pl, hz⟩ := I.list hq
  have lz := r.length
  have lds := hs.length
  have one : ∀ {i : Nat} {z : V} {w : Value}, xs[i]? = some z → RelV z w → ∃ e, ds[i]? = some e ∧ SeqAt.EqAt X.A.in1 s w u (eqD e d) := fun {i z w} hz rz => by
    obtain ⟨e, he, ha⟩ := hs.get hz
    have := hc e (List.mem_of_getElem? he)
    exact ⟨e, he, eqAt_M I 100 X.A.in1 rz ru ha hy this.1 nd this.2 (by show X.A.units + 1 + 100 < cLine; omega)⟩
  have hjl := (List.getElem?_eq_some_iff.mp hj).1
  let E : Value → Prop := fun w => ∃ (j : Nat) (z : V) (e : Dt), xs[j]? = some z ∧ RelV z w ∧ ds[j]? = some e ∧ eqD e d = true
  haveI : DecidablePred E := fun _ => Classical.propDecidable _
  obtain ⟨⟨cls, dd, data, sl⟩, ho, hcl, n, hd⟩ := id pl.isList
  simp only at hcl hd
  subst hcl hd
  have rel : ∀ (i : Nat) (hi : i < its.length), ∃ z, xs[i]? = some z ∧ RelV z its[i] := fun i hi => by
    obtain ⟨z, hz⟩ : ∃ z, xs[i]? = some z := ⟨_, List.getElem?_eq_getElem (by omega)⟩
    obtain ⟨w, hw, rw'⟩ := r.get hz
    rw [List.getElem?_eq_getElem hi] at hw
    cases hw
    exact ⟨z, hz, rw'⟩
  refine call_meets PySem.F.slot_list_index ⟨_, ho, rfl⟩ PySem.F.entry_list_index (PySem.F.args_list_index_2 _ _)
    (SeqAt.list_indexAt l its.toArray n dd sl u (fun w => decide (E w)) j (by rw [List.size_toArray]; omega) (by omega) ?_ ?_) ⟨ho, fun w hw => ?_, ⟨.int (j : Int), H, I.tok _, ⟨_, rfl⟩, q⟩⟩
  · obtain ⟨z, hz1, hz2⟩ := rel j (by omega)
    exact decide_eq_true ⟨j, z, e, hz1, hz2, hj, hje⟩
  · intro m hm hmj
    refine decide_eq_false ?_
    rintro ⟨i, z, e', h1, h2, h3, h4⟩
    rw [List.size_toArray] at hm
    obtain ⟨z', hz1, hz2⟩ := rel m hm
    have h2' : RelV z its[m] := h2
    obtain ⟨a, rfl⟩ := hrf z (List.mem_of_getElem? h1)
    obtain ⟨a', rfl⟩ := hrf z' (List.mem_of_getElem? hz1)
    have e1 : its[m] = Value.ref a := h2'
    have e2 : its[m] = Value.ref a' := hz2
    rw [e1] at e2
    cases e2
    rw [hno m i _ e' hmj hz1 h1 h3] at h4
    cases h4
  · by_cases hE : E w
    · obtain ⟨i, z, e, h1, h2, h3, h4⟩ := id hE
      obtain ⟨e', h5, h6⟩ := one h1 h2
      rw [h3] at h5
      cases h5
      rw [h4] at h6
      show SeqAt.EqAt _ _ _ _ (decide (E w))
      rw [decide_eq_true hE]
      exact h6
    · obtain ⟨i, z, h1, h2⟩ := vals_mem r (by simpa using hw)
      obtain ⟨e', h5, h6⟩ := one h1 h2
      have hz' : eqD e' d = false := by
        cases h : eqD e' d with
        | false => rfl
        | true => exact absurd ⟨i, z, e', h1, h2, h5, h⟩ hE
      rw [hz'] at h6
      show SeqAt.EqAt _ _ _ _ (decide (E w))
      rw [decide_eq_false hE]
      exact h6
end
end L2.Internal
namespace L2.Internal
open PySem PySem.Spec PyProof.Rows
section
variable {prog : Program} {w : World} {A : Around} {E : Value → Shared → Prop} {s : Shared}
theorem unp_two {l : Addr} {x y : Value} {Q : List Value → Shared → Prop} (hh : A.handled = none) (hl : s.heap.IsList l #[x, y])
    (hQ : ∀ h', Heap.ExtBut s.heap.objs.size s.heap h' → Q [x, y] { s with heap := h' }) : wpAny (model prog w) A (unpackItems (.ref l) 2 none) Q E s := by
  have hlt : l ≠ s.heap.objs.size := by obtain ⟨o, ho, _⟩ := hl; exact Nat.ne_of_lt (Heap.lt_size ho)
  unfold unpackItems notIterableAtAll
  refine wpAny_bind (wpAny_bind (wpAny_specialOf hl.typeIs slot_list_iter.lookup (wpAny_pure ?_)))
  simp only [Bool.false_eq_true, if_false]
  have h0 := hl.push { cls := .type "list_iterator", data := .fields #[.ref l, .int 0 0] }
  refine wpAny_bind (wpAny_holding (wpAny_pyIter_list hl (wpAny_bind (wpAny_holding ?_))))
  show wpAny _ _ (pyNext (.ref s.heap.objs.size) >>= _) _ _ _
  refine wpAny_bind (wpAny_pyNext_list_item (i := 0) (x := x) ⟨_, Heap.get?_push_size _ rfl, rfl, rfl⟩ h0 rfl fun h1 i1 s1 => ?_)
  have k1 := h0.extBut s1.extBut hlt
  refine wpAny_bind (wpAny_holding ?_)
  show wpAny _ _ (pyNext (.ref s.heap.objs.size) >>= _) _ _ _
  refine wpAny_bind (wpAny_pyNext_list_item (i := 1) (x := y) i1 k1 rfl fun h2 i2 s2 => ?_)
  have k2 := k1.extBut s2.extBut hlt
  refine wpAny_bind (wpAny_holding ?_)
  show wpAny _ _ (pure []) _ _ _
  refine wpAny_pure (wpAny_pure (wpAny_pure ?_))
  rw [if_neg (by simp)]
  refine wpAny_bind (wpAny_holding (wpAny_pyNext_list_end hh i2 k2 rfl fun h3 e3 => ?_))
  simp only [Option.isSome_none, Bool.false_eq_true, if_false]
  exact wpAny_pure (hQ h3 fun b o hb e => e3 b o hb (s2.extBut b o hb (s1.extBut b o hb (Heap.get?_push_of_some _ e))))
end
section
variable {X : Cx} {pos : Pos}
noncomputable def gLst2 (K : PySem.W.Frag) (t : TGs) : TG := fun v σ H Q => ∃ a x y, v = .ref a ∧ SqL K H a [x, y] ∧ t [x, y] σ H Q
theorem pg_lst2 {es : List Expr} {k : Nat} {t : TGs} (hc : X.calm = true) (h : PGs X es t)
    (hn : autoParam ((assignEach es X.env).length = 2) L2.Internal.auR._auto_1) (hst : autoParam ((assignEach es X.env).findIdx? (·.1) = none) L2.Internal.auR._auto_1) : PG X (.Tuple es k pos) (gLst2 X.K t) := by
  intro pins s σ H v u Q I r hw
  obtain ⟨a, x, y, rfl, hq, hw⟩ := hw
  cases r
  obtain ⟨its, rv, pl, hz⟩ := I.list hq
  obtain ⟨u1, u2, rfl, r1, r2⟩ := Vals.two rv
  rw [assign_Tuple]
  refine wpAny_bind (wpAny_standAt ?_)
  unfold unpack
  rw [hn, hst]
  refine wpAny_bind (wpAny_holding (unp_two (I.ok.hd hc) pl.isList fun h' hx => ?_))
  have I1 : Inv X pins σ H { s with heap := h' } := I.kept (t' := s.toks) fun b o e => hx b o (Nat.ne_of_lt (Heap.lt_size e)) e
  exact h pins _ σ H _ _ Q I1 rv hw
end
end L2.Internal
namespace K33.Internal
open PySem L2.Internal
theorem l0 {P : List Value → Prop} (h : P []) : ∀ us : List Value, us.length = 0 → P us := fun us e => by rw [List.eq_nil_of_length_eq_zero e]; exact h
theorem lS {n : Nat} {P : List Value → Prop} (h : ∀ a, ∀ us : List Value, us.length = n → P (a :: us)) : ∀ us : List Value, us.length = n + 1 → P us := fun us e => by
  cases us with
  | nil => cases e
  | cons a t => exact h a t (Nat.succ.inj e)
noncomputable def top (i : Nat) : Stmt := PySem.Challenge.pw_flowkinds_k33_the_order_of_causes.main.body.getD i (.Pass ⟨0, 0, 0, 0⟩)
noncomputable abbrev s__wall : Stmt := top 0
noncomputable abbrev s_uses_by_point : Stmt := top 10
noncomputable abbrev s_settled : Stmt := top 13
noncomputable abbrev s__law_pick : Stmt := top 16
noncomputable abbrev s__law_words : Stmt := top 17
noncomputable abbrev s__law_named : Stmt := top 18
noncomputable abbrev s__law_make : Stmt := top 19
noncomputable abbrev s__law_use : Stmt := top 20
noncomputable abbrev s__law_things : Stmt := top 21
noncomputable abbrev s__law_using : Stmt := top 22
noncomputable abbrev s__law_board : Stmt := top 23
noncomputable abbrev s__law_met : Stmt := top 24
noncomputable abbrev s__law_whole : Stmt := top 25
noncomputable abbrev s__law_pair : Stmt := top 26
noncomputable abbrev s__law_shaped : Stmt := top 27
noncomputable abbrev s__law_caused : Stmt := top 28
noncomputable abbrev s__law_stamp : Stmt := top 29
noncomputable abbrev s__law_steps : Stmt := top 30
noncomputable abbrev s__law_stamps : Stmt := top 31
noncomputable abbrev s_law : Stmt := top 32
noncomputable abbrev s_Make___init__ : Stmt := inClass (top 2) 0
noncomputable abbrev s_Make_told : Stmt := inClass (top 2) 1
noncomputable abbrev s_Use___init__ : Stmt := inClass (top 3) 0
noncomputable abbrev s_NumUse_met : Stmt := inClass (top 4) 0
noncomputable abbrev s_NumUse_told : Stmt := inClass (top 4) 1
noncomputable abbrev s_CallUse___init__ : Stmt := inClass (top 5) 0
noncomputable abbrev s_CallUse_met : Stmt := inClass (top 5) 1
noncomputable abbrev s_CallUse_told : Stmt := inClass (top 5) 2
noncomputable abbrev s_TakeUse___init__ : Stmt := inClass (top 6) 0
noncomputable abbrev s_TakeUse_met : Stmt := inClass (top 6) 1
noncomputable abbrev s_TakeUse_told : Stmt := inClass (top 6) 2
noncomputable abbrev s_CaseUse___init__ : Stmt := inClass (top 7) 0
noncomputable abbrev s_CaseUse_met : Stmt := inClass (top 7) 1
noncomputable abbrev s_CaseUse_told : Stmt := inClass (top 7) 2
noncomputable abbrev s_RowUse___init__ : Stmt := inClass (top 8) 0
noncomputable abbrev s_RowUse_met : Stmt := inClass (top 8) 1
noncomputable abbrev s_RowUse_told : Stmt := inClass (top 8) 2
noncomputable abbrev s_Board___init__ : Stmt := inClass (top 9) 0
noncomputable abbrev s_Board_point : Stmt := inClass (top 9) 1
noncomputable abbrev s_Board_make : Stmt := inClass (top 9) 2
noncomputable abbrev s_Board_use : Stmt := inClass (top 9) 3
noncomputable abbrev s_Board_flow : Stmt := inClass (top 9) 4
noncomputable abbrev s_Board_rooted : Stmt := inClass (top 9) 5
noncomputable abbrev s_Log___init__ : Stmt := inClass (top 12) 0
noncomputable abbrev s_Settling___init__ : Stmt := inClass (top 14) 0
noncomputable abbrev s_Settling_put : Stmt := inClass (top 14) 1
noncomputable abbrev s_Settling_work : Stmt := inClass (top 14) 2
noncomputable abbrev s_Settling_work_goes : Stmt := inClass (top 14) 3
noncomputable abbrev s_Settling_work_uses : Stmt := inClass (top 14) 4
noncomputable abbrev s_Settling_put_flows : Stmt := inClass (top 14) 5
noncomputable abbrev s_Settling_work_here : Stmt := inClass (top 14) 6
set_option genInjectivity false in
set_option genSizeOf false in
structure Txt (K : PySem.W.Frag) (mg : Str → Option Value) where
  a_uses_by_point : Addr
  fd_uses_by_point : FuncData
  F_uses_by_point : Fun K "uses_by_point" "uses_by_point" s_uses_by_point a_uses_by_point fd_uses_by_point
  b_uses_by_point : Binds K fd_uses_by_point ["board"] []
  m_uses_by_point : mg "uses_by_point" = some (.ref a_uses_by_point)
  k_uses_by_point : PySem.W.keepIn K (.ref a_uses_by_point) = true
  a_settled : Addr
  fd_settled : FuncData
  F_settled : Fun K "settled" "settled" s_settled a_settled fd_settled
  b_settled : Binds K fd_settled ["board"] []
  m_settled : mg "settled" = some (.ref a_settled)
  k_settled : PySem.W.keepIn K (.ref a_settled) = true
  a__law_pick : Addr
  fd__law_pick : FuncData
  F__law_pick : Fun K "_law_pick" "_law_pick" s__law_pick a__law_pick fd__law_pick
  b__law_pick : Binds K fd__law_pick ["_law_cell", "_law_turn", "_law_many"] []
  m__law_pick : mg "_law_pick" = some (.ref a__law_pick)
  k__law_pick : PySem.W.keepIn K (.ref a__law_pick) = true
  a__law_words : Addr
  fd__law_words : FuncData
  F__law_words : Fun K "_law_words" "_law_words" s__law_words a__law_words fd__law_words
  b__law_words : Binds K fd__law_words ["_law_cell"] []
  m__law_words : mg "_law_words" = some (.ref a__law_words)
  k__law_words : PySem.W.keepIn K (.ref a__law_words) = true
  a__law_named : Addr
  fd__law_named : FuncData
  F__law_named : Fun K "_law_named" "_law_named" s__law_named a__law_named fd__law_named
  b__law_named : Binds K fd__law_named ["_law_words_here", "_law_cell", "_law_spots"] []
  m__law_named : mg "_law_named" = some (.ref a__law_named)
  k__law_named : PySem.W.keepIn K (.ref a__law_named) = true
  a__law_make : Addr
  fd__law_make : FuncData
  F__law_make : Fun K "_law_make" "_law_make" s__law_make a__law_make fd__law_make
  b__law_make : Binds K fd__law_make ["_law_words_here", "_law_cell", "_law_many"] []
  m__law_make : mg "_law_make" = some (.ref a__law_make)
  k__law_make : PySem.W.keepIn K (.ref a__law_make) = true
  a__law_use : Addr
  fd__law_use : FuncData
  F__law_use : Fun K "_law_use" "_law_use" s__law_use a__law_use fd__law_use
  b__law_use : Binds K fd__law_use ["_law_words_here", "_law_cell", "_law_many"] []
  m__law_use : mg "_law_use" = some (.ref a__law_use)
  k__law_use : PySem.W.keepIn K (.ref a__law_use) = true
  a__law_things : Addr
  fd__law_things : FuncData
  F__law_things : Fun K "_law_things" "_law_things" s__law_things a__law_things fd__law_things
  b__law_things : Binds K fd__law_things ["_law_script"] []
  m__law_things : mg "_law_things" = some (.ref a__law_things)
  k__law_things : PySem.W.keepIn K (.ref a__law_things) = true
  a__law_using : Addr
  fd__law_using : FuncData
  F__law_using : Fun K "_law_using" "_law_using" s__law_using a__law_using fd__law_using
  b__law_using : Binds K fd__law_using ["_law_told"] []
  m__law_using : mg "_law_using" = some (.ref a__law_using)
  k__law_using : PySem.W.keepIn K (.ref a__law_using) = true
  a__law_board : Addr
  fd__law_board : FuncData
  F__law_board : Fun K "_law_board" "_law_board" s__law_board a__law_board fd__law_board
  b__law_board : Binds K fd__law_board ["_law_things_here"] []
  m__law_board : mg "_law_board" = some (.ref a__law_board)
  k__law_board : PySem.W.keepIn K (.ref a__law_board) = true
  a__law_met : Addr
  fd__law_met : FuncData
  F__law_met : Fun K "_law_met" "_law_met" s__law_met a__law_met fd__law_met
  b__law_met : Binds K fd__law_met ["_law_make_here", "_law_use_here"] []
  m__law_met : mg "_law_met" = some (.ref a__law_met)
  k__law_met : PySem.W.keepIn K (.ref a__law_met) = true
  a__law_whole : Addr
  fd__law_whole : FuncData
  F__law_whole : Fun K "_law_whole" "_law_whole" s__law_whole a__law_whole fd__law_whole
  b__law_whole : Binds K fd__law_whole ["_law_x"] []
  m__law_whole : mg "_law_whole" = some (.ref a__law_whole)
  k__law_whole : PySem.W.keepIn K (.ref a__law_whole) = true
  a__law_pair : Addr
  fd__law_pair : FuncData
  F__law_pair : Fun K "_law_pair" "_law_pair" s__law_pair a__law_pair fd__law_pair
  b__law_pair : Binds K fd__law_pair ["_law_x"] []
  m__law_pair : mg "_law_pair" = some (.ref a__law_pair)
  k__law_pair : PySem.W.keepIn K (.ref a__law_pair) = true
  a__law_shaped : Addr
  fd__law_shaped : FuncData
  F__law_shaped : Fun K "_law_shaped" "_law_shaped" s__law_shaped a__law_shaped fd__law_shaped
  b__law_shaped : Binds K fd__law_shaped ["_law_rows"] []
  m__law_shaped : mg "_law_shaped" = some (.ref a__law_shaped)
  k__law_shaped : PySem.W.keepIn K (.ref a__law_shaped) = true
  a__law_caused : Addr
  fd__law_caused : FuncData
  F__law_caused : Fun K "_law_caused" "_law_caused" s__law_caused a__law_caused fd__law_caused
  b__law_caused : Binds K fd__law_caused ["_law_things_here", "_law_rows", "_law_number"] []
  m__law_caused : mg "_law_caused" = some (.ref a__law_caused)
  k__law_caused : PySem.W.keepIn K (.ref a__law_caused) = true
  a__law_stamp : Addr
  fd__law_stamp : FuncData
  F__law_stamp : Fun K "_law_stamp" "_law_stamp" s__law_stamp a__law_stamp fd__law_stamp
  b__law_stamp : Binds K fd__law_stamp ["_law_things_here", "_law_rows", "_law_row"] []
  m__law_stamp : mg "_law_stamp" = some (.ref a__law_stamp)
  k__law_stamp : PySem.W.keepIn K (.ref a__law_stamp) = true
  a__law_steps : Addr
  fd__law_steps : FuncData
  F__law_steps : Fun K "_law_steps" "_law_steps" s__law_steps a__law_steps fd__law_steps
  b__law_steps : Binds K fd__law_steps ["_law_things_here", "_law_leaving", "_law_number", "_law_row"] []
  m__law_steps : mg "_law_steps" = some (.ref a__law_steps)
  k__law_steps : PySem.W.keepIn K (.ref a__law_steps) = true
  a__law_stamps : Addr
  fd__law_stamps : FuncData
  F__law_stamps : Fun K "_law_stamps" "_law_stamps" s__law_stamps a__law_stamps fd__law_stamps
  b__law_stamps : Binds K fd__law_stamps ["_law_things_here", "_law_rows"] []
  m__law_stamps : mg "_law_stamps" = some (.ref a__law_stamps)
  k__law_stamps : PySem.W.keepIn K (.ref a__law_stamps) = true
  a_Make : Addr
  m_Make : mg "Make" = some (.ref a_Make)
  cl_Make : Cls K a_Make
  ty_Make : ∀ (H : Hp) (a dx : Addr) (fs : List (Str × V)), H a = some (.ins a_Make dx fs) → TyOf K H (.ref a) (.ref a_Make)
  n_Make_shape : NoAttr K a_Make "shape"
  n_Make_parts : NoAttr K a_Make "parts"
  n_Make_at : NoAttr K a_Make "at"
  n_Make_place : NoAttr K a_Make "place"
  a_Make___init__ : Addr
  fd_Make___init__ : FuncData
  F_Make___init__ : Fun K "__init__" "Make.__init__" s_Make___init__ a_Make___init__ fd_Make___init__
  b_Make___init__ : Binds K fd_Make___init__ ["self", "shape", "parts", "at", "place"] []
  mk_Make : Mk K a_Make a_Make___init__
  a_Use : Addr
  m_Use : mg "Use" = some (.ref a_Use)
  cl_Use : Cls K a_Use
  ty_Use : ∀ (H : Hp) (a dx : Addr) (fs : List (Str × V)), H a = some (.ins a_Use dx fs) → TyOf K H (.ref a) (.ref a_Use)
  n_Use_at : NoAttr K a_Use "at"
  n_Use_place : NoAttr K a_Use "place"
  n_Use_slot : NoAttr K a_Use "slot"
  a_Use___init__ : Addr
  fd_Use___init__ : FuncData
  F_Use___init__ : Fun K "__init__" "Use.__init__" s_Use___init__ a_Use___init__ fd_Use___init__
  b_Use___init__ : Binds K fd_Use___init__ ["self", "at", "place", "slot"] []
  cm_Use___init__ : ClsM K a_Use "__init__" a_Use___init__
  mk_Use : Mk K a_Use a_Use___init__
  a_NumUse : Addr
  m_NumUse : mg "NumUse" = some (.ref a_NumUse)
  cl_NumUse : Cls K a_NumUse
  ty_NumUse : ∀ (H : Hp) (a dx : Addr) (fs : List (Str × V)), H a = some (.ins a_NumUse dx fs) → TyOf K H (.ref a) (.ref a_NumUse)
  n_NumUse_at : NoAttr K a_NumUse "at"
  n_NumUse_place : NoAttr K a_NumUse "place"
  n_NumUse_slot : NoAttr K a_NumUse "slot"
  a_NumUse_met : Addr
  fd_NumUse_met : FuncData
  F_NumUse_met : Fun K "met" "NumUse.met" s_NumUse_met a_NumUse_met fd_NumUse_met
  b_NumUse_met : Binds K fd_NumUse_met ["self", "make"] []
  me_NumUse_met : Meth K a_NumUse "met" a_NumUse_met
  mk_NumUse : Mk K a_NumUse a_Use___init__
  a_CallUse : Addr
  m_CallUse : mg "CallUse" = some (.ref a_CallUse)
  cl_CallUse : Cls K a_CallUse
  ty_CallUse : ∀ (H : Hp) (a dx : Addr) (fs : List (Str × V)), H a = some (.ins a_CallUse dx fs) → TyOf K H (.ref a) (.ref a_CallUse)
  n_CallUse_arg : NoAttr K a_CallUse "arg"
  n_CallUse_out : NoAttr K a_CallUse "out"
  n_CallUse_at : NoAttr K a_CallUse "at"
  n_CallUse_place : NoAttr K a_CallUse "place"
  n_CallUse_slot : NoAttr K a_CallUse "slot"
  a_CallUse___init__ : Addr
  fd_CallUse___init__ : FuncData
  F_CallUse___init__ : Fun K "__init__" "CallUse.__init__" s_CallUse___init__ a_CallUse___init__ fd_CallUse___init__
  b_CallUse___init__ : Binds K fd_CallUse___init__ ["self", "at", "place", "slot", "arg", "out"] []
  mk_CallUse : Mk K a_CallUse a_CallUse___init__
  a_CallUse_met : Addr
  fd_CallUse_met : FuncData
  F_CallUse_met : Fun K "met" "CallUse.met" s_CallUse_met a_CallUse_met fd_CallUse_met
  b_CallUse_met : Binds K fd_CallUse_met ["self", "make"] []
  me_CallUse_met : Meth K a_CallUse "met" a_CallUse_met
  a_TakeUse : Addr
  m_TakeUse : mg "TakeUse" = some (.ref a_TakeUse)
  cl_TakeUse : Cls K a_TakeUse
  ty_TakeUse : ∀ (H : Hp) (a dx : Addr) (fs : List (Str × V)), H a = some (.ins a_TakeUse dx fs) → TyOf K H (.ref a) (.ref a_TakeUse)
  n_TakeUse_fields : NoAttr K a_TakeUse "fields"
  n_TakeUse_at : NoAttr K a_TakeUse "at"
  n_TakeUse_place : NoAttr K a_TakeUse "place"
  n_TakeUse_slot : NoAttr K a_TakeUse "slot"
  a_TakeUse___init__ : Addr
  fd_TakeUse___init__ : FuncData
  F_TakeUse___init__ : Fun K "__init__" "TakeUse.__init__" s_TakeUse___init__ a_TakeUse___init__ fd_TakeUse___init__
  b_TakeUse___init__ : Binds K fd_TakeUse___init__ ["self", "at", "place", "slot", "fields"] []
  mk_TakeUse : Mk K a_TakeUse a_TakeUse___init__
  a_TakeUse_met : Addr
  fd_TakeUse_met : FuncData
  F_TakeUse_met : Fun K "met" "TakeUse.met" s_TakeUse_met a_TakeUse_met fd_TakeUse_met
  b_TakeUse_met : Binds K fd_TakeUse_met ["self", "make"] []
  me_TakeUse_met : Meth K a_TakeUse "met" a_TakeUse_met
  a_CaseUse : Addr
  m_CaseUse : mg "CaseUse" = some (.ref a_CaseUse)
  cl_CaseUse : Cls K a_CaseUse
  ty_CaseUse : ∀ (H : Hp) (a dx : Addr) (fs : List (Str × V)), H a = some (.ins a_CaseUse dx fs) → TyOf K H (.ref a) (.ref a_CaseUse)
  n_CaseUse_arms : NoAttr K a_CaseUse "arms"
  n_CaseUse_at : NoAttr K a_CaseUse "at"
  n_CaseUse_place : NoAttr K a_CaseUse "place"
  n_CaseUse_slot : NoAttr K a_CaseUse "slot"
  a_CaseUse___init__ : Addr
  fd_CaseUse___init__ : FuncData
  F_CaseUse___init__ : Fun K "__init__" "CaseUse.__init__" s_CaseUse___init__ a_CaseUse___init__ fd_CaseUse___init__
  b_CaseUse___init__ : Binds K fd_CaseUse___init__ ["self", "at", "place", "slot", "arms"] []
  mk_CaseUse : Mk K a_CaseUse a_CaseUse___init__
  a_CaseUse_met : Addr
  fd_CaseUse_met : FuncData
  F_CaseUse_met : Fun K "met" "CaseUse.met" s_CaseUse_met a_CaseUse_met fd_CaseUse_met
  b_CaseUse_met : Binds K fd_CaseUse_met ["self", "make"] []
  me_CaseUse_met : Meth K a_CaseUse "met" a_CaseUse_met
  a_RowUse : Addr
  m_RowUse : mg "RowUse" = some (.ref a_RowUse)
  cl_RowUse : Cls K a_RowUse
  ty_RowUse : ∀ (H : Hp) (a dx : Addr) (fs : List (Str × V)), H a = some (.ins a_RowUse dx fs) → TyOf K H (.ref a) (.ref a_RowUse)
  n_RowUse_out : NoAttr K a_RowUse "out"
  n_RowUse_at : NoAttr K a_RowUse "at"
  n_RowUse_place : NoAttr K a_RowUse "place"
  n_RowUse_slot : NoAttr K a_RowUse "slot"
  a_RowUse___init__ : Addr
  fd_RowUse___init__ : FuncData
  F_RowUse___init__ : Fun K "__init__" "RowUse.__init__" s_RowUse___init__ a_RowUse___init__ fd_RowUse___init__
  b_RowUse___init__ : Binds K fd_RowUse___init__ ["self", "at", "place", "slot", "out"] []
  mk_RowUse : Mk K a_RowUse a_RowUse___init__
  a_RowUse_met : Addr
  fd_RowUse_met : FuncData
  F_RowUse_met : Fun K "met" "RowUse.met" s_RowUse_met a_RowUse_met fd_RowUse_met
  b_RowUse_met : Binds K fd_RowUse_met ["self", "make"] []
  me_RowUse_met : Meth K a_RowUse "met" a_RowUse_met
  a_Board : Addr
  m_Board : mg "Board" = some (.ref a_Board)
  cl_Board : Cls K a_Board
  ty_Board : ∀ (H : Hp) (a dx : Addr) (fs : List (Str × V)), H a = some (.ins a_Board dx fs) → TyOf K H (.ref a) (.ref a_Board)
  n_Board_points : NoAttr K a_Board "points"
  n_Board_makes : NoAttr K a_Board "makes"
  n_Board_uses : NoAttr K a_Board "uses"
  n_Board_flows : NoAttr K a_Board "flows"
  n_Board_root : NoAttr K a_Board "root"
  a_Board___init__ : Addr
  fd_Board___init__ : FuncData
  F_Board___init__ : Fun K "__init__" "Board.__init__" s_Board___init__ a_Board___init__ fd_Board___init__
  b_Board___init__ : Binds K fd_Board___init__ ["self"] []
  mk_Board : Mk K a_Board a_Board___init__
  a_Board_point : Addr
  fd_Board_point : FuncData
  F_Board_point : Fun K "point" "Board.point" s_Board_point a_Board_point fd_Board_point
  b_Board_point : Binds K fd_Board_point ["self", "place"] []
  me_Board_point : Meth K a_Board "point" a_Board_point
  a_Board_make : Addr
  fd_Board_make : FuncData
  F_Board_make : Fun K "make" "Board.make" s_Board_make a_Board_make fd_Board_make
  b_Board_make : Binds K fd_Board_make ["self", "shape", "parts", "at", "place"] []
  me_Board_make : Meth K a_Board "make" a_Board_make
  a_Board_use : Addr
  fd_Board_use : FuncData
  F_Board_use : Fun K "use" "Board.use" s_Board_use a_Board_use fd_Board_use
  b_Board_use : Binds K fd_Board_use ["self", "one"] []
  me_Board_use : Meth K a_Board "use" a_Board_use
  a_Board_flow : Addr
  fd_Board_flow : FuncData
  F_Board_flow : Fun K "flow" "Board.flow" s_Board_flow a_Board_flow fd_Board_flow
  b_Board_flow : Binds K fd_Board_flow ["self", "p", "q"] []
  me_Board_flow : Meth K a_Board "flow" a_Board_flow
  a_Log : Addr
  m_Log : mg "Log" = some (.ref a_Log)
  cl_Log : Cls K a_Log
  ty_Log : ∀ (H : Hp) (a dx : Addr) (fs : List (Str × V)), H a = some (.ins a_Log dx fs) → TyOf K H (.ref a) (.ref a_Log)
  n_Log_rows : NoAttr K a_Log "rows"
  n_Log_bads : NoAttr K a_Log "bads"
  a_Log___init__ : Addr
  fd_Log___init__ : FuncData
  F_Log___init__ : Fun K "__init__" "Log.__init__" s_Log___init__ a_Log___init__ fd_Log___init__
  b_Log___init__ : Binds K fd_Log___init__ ["self", "rows", "bads"] []
  mk_Log : Mk K a_Log a_Log___init__
  a_Settling : Addr
  m_Settling : mg "Settling" = some (.ref a_Settling)
  cl_Settling : Cls K a_Settling
  ty_Settling : ∀ (H : Hp) (a dx : Addr) (fs : List (Str × V)), H a = some (.ins a_Settling dx fs) → TyOf K H (.ref a) (.ref a_Settling)
  n_Settling_board : NoAttr K a_Settling "board"
  n_Settling_uses_at : NoAttr K a_Settling "uses_at"
  n_Settling_rows : NoAttr K a_Settling "rows"
  n_Settling_bads : NoAttr K a_Settling "bads"
  n_Settling_known : NoAttr K a_Settling "known"
  n_Settling_goes : NoAttr K a_Settling "goes"
  n_Settling_heres : NoAttr K a_Settling "heres"
  a_Settling___init__ : Addr
  fd_Settling___init__ : FuncData
  F_Settling___init__ : Fun K "__init__" "Settling.__init__" s_Settling___init__ a_Settling___init__ fd_Settling___init__
  b_Settling___init__ : Binds K fd_Settling___init__ ["self", "board"] []
  mk_Settling : Mk K a_Settling a_Settling___init__
  a_Settling_put : Addr
  fd_Settling_put : FuncData
  F_Settling_put : Fun K "put" "Settling.put" s_Settling_put a_Settling_put fd_Settling_put
  b_Settling_put : Binds K fd_Settling_put ["self", "word", "first", "second", "why"] []
  me_Settling_put : Meth K a_Settling "put" a_Settling_put
  a_Settling_work : Addr
  fd_Settling_work : FuncData
  F_Settling_work : Fun K "work" "Settling.work" s_Settling_work a_Settling_work fd_Settling_work
  b_Settling_work : Binds K fd_Settling_work ["self", "number"] []
  me_Settling_work : Meth K a_Settling "work" a_Settling_work
  a_Settling_work_goes : Addr
  fd_Settling_work_goes : FuncData
  F_Settling_work_goes : Fun K "work_goes" "Settling.work_goes" s_Settling_work_goes a_Settling_work_goes fd_Settling_work_goes
  b_Settling_work_goes : Binds K fd_Settling_work_goes ["self", "number", "p", "q"] []
  me_Settling_work_goes : Meth K a_Settling "work_goes" a_Settling_work_goes
  a_Settling_work_uses : Addr
  fd_Settling_work_uses : FuncData
  F_Settling_work_uses : Fun K "work_uses" "Settling.work_uses" s_Settling_work_uses a_Settling_work_uses fd_Settling_work_uses
  b_Settling_work_uses : Binds K fd_Settling_work_uses ["self", "number", "m", "p"] []
  me_Settling_work_uses : Meth K a_Settling "work_uses" a_Settling_work_uses
  a_Settling_put_flows : Addr
  fd_Settling_put_flows : FuncData
  F_Settling_put_flows : Fun K "put_flows" "Settling.put_flows" s_Settling_put_flows a_Settling_put_flows fd_Settling_put_flows
  b_Settling_put_flows : Binds K fd_Settling_put_flows ["self", "flows", "why"] []
  me_Settling_put_flows : Meth K a_Settling "put_flows" a_Settling_put_flows
  a_Settling_work_here : Addr
  fd_Settling_work_here : FuncData
  F_Settling_work_here : Fun K "work_here" "Settling.work_here" s_Settling_work_here a_Settling_work_here fd_Settling_work_here
  b_Settling_work_here : Binds K fd_Settling_work_here ["self", "number", "m", "p"] []
  me_Settling_work_here : Meth K a_Settling "work_here" a_Settling_work_here
  z_all : mg "all" = none
  z_bool : mg "bool" = none
  z_dict : mg "dict" = none
  z_enumerate : mg "enumerate" = none
  z_int : mg "int" = none
  z_isinstance : mg "isinstance" = none
  z_len : mg "len" = none
  z_list : mg "list" = none
  z_max : mg "max" = none
  z_min : mg "min" = none
  z_range : mg "range" = none
  z_str : mg "str" = none
  z_sum : mg "sum" = none
  z_tuple : mg "tuple" = none
theorem sc_uses_by_point : FnScope ["board", "found", "number", "one"] ["board"] (defScope s_uses_by_point) := ⟨rfl, rfl, rfl, by decide +kernel, rfl, by decide +kernel, by decide +kernel⟩
theorem sc_settled : FnScope ["board", "settling", "flow", "number", "make", "worked"] ["board"] (defScope s_settled) := ⟨rfl, rfl, rfl, by decide +kernel, rfl, by decide +kernel, by decide +kernel⟩
theorem sc__law_pick : FnScope ["_law_cell", "_law_turn", "_law_many", "_law_factors", "_law_primes"] ["_law_cell", "_law_turn", "_law_many"] (defScope s__law_pick) := ⟨rfl, rfl, rfl, by decide +kernel, rfl, by decide +kernel, by decide +kernel⟩
theorem sc__law_words : FnScope ["_law_cell", "_law_c", "_law_stem", "_law_k", "_law_at"] ["_law_cell"] (defScope s__law_words) := ⟨rfl, rfl, rfl, by decide +kernel, rfl, by decide +kernel, by decide +kernel⟩
theorem sc__law_named : FnScope ["_law_words_here", "_law_cell", "_law_spots", "_law_first"] ["_law_words_here", "_law_cell", "_law_spots"] (defScope s__law_named) := ⟨rfl, rfl, rfl, by decide +kernel, rfl, by decide +kernel, by decide +kernel⟩
theorem sc__law_make : FnScope ["_law_words_here", "_law_cell", "_law_many", "_law_spots", "_law_shape", "_law_parts"] ["_law_words_here", "_law_cell", "_law_many"] (defScope s__law_make) := ⟨rfl, rfl, rfl, by decide +kernel, rfl, by decide +kernel, by decide +kernel⟩
theorem sc__law_use : FnScope ["_law_words_here", "_law_cell", "_law_many", "_law_spots", "_law_word", "_law_head"] ["_law_words_here", "_law_cell", "_law_many"] (defScope s__law_use) := ⟨rfl, rfl, rfl, by decide +kernel, rfl, by decide +kernel, by decide +kernel⟩
theorem sc__law_things : FnScope ["_law_script", "_law_words_here", "_law_start", "_law_many", "_law_things_here", "_law_cell", "_law_sort"] ["_law_script"] (defScope s__law_things) := ⟨rfl, rfl, rfl, by decide +kernel, rfl, by decide +kernel, by decide +kernel⟩
theorem sc__law_using : FnScope ["_law_told"] ["_law_told"] (defScope s__law_using) := ⟨rfl, rfl, rfl, by decide +kernel, rfl, by decide +kernel, by decide +kernel⟩
theorem sc__law_board : FnScope ["_law_things_here", "_law_board_here", "_law_place", "_law_make_here", "_law_told", "_law_pair_here"] ["_law_things_here"] (defScope s__law_board) := ⟨rfl, rfl, rfl, by decide +kernel, rfl, by decide +kernel, by decide +kernel⟩
theorem sc__law_met : FnScope ["_law_make_here", "_law_use_here", "_law_arm", "_law_there"] ["_law_make_here", "_law_use_here"] (defScope s__law_met) := ⟨rfl, rfl, rfl, by decide +kernel, rfl, by decide +kernel, by decide +kernel⟩
theorem sc__law_whole : FnScope ["_law_x"] ["_law_x"] (defScope s__law_whole) := ⟨rfl, rfl, rfl, by decide +kernel, rfl, by decide +kernel, by decide +kernel⟩
theorem sc__law_pair : FnScope ["_law_x"] ["_law_x"] (defScope s__law_pair) := ⟨rfl, rfl, rfl, by decide +kernel, rfl, by decide +kernel, by decide +kernel⟩
theorem sc__law_shaped : FnScope ["_law_rows", "_law_row"] ["_law_rows"] (defScope s__law_shaped) := ⟨rfl, rfl, rfl, by decide +kernel, rfl, by decide +kernel, by decide +kernel⟩
theorem sc__law_caused : FnScope ["_law_things_here", "_law_rows", "_law_number", "_law_row", "_law_why", "_law_one", "_law_flows", "_law_other"] ["_law_things_here", "_law_rows", "_law_number"] (defScope s__law_caused) := ⟨rfl, rfl, rfl, by decide +kernel, rfl, by decide +kernel, by decide +kernel⟩
theorem sc__law_stamp : FnScope ["_law_things_here", "_law_rows", "_law_row", "_law_why", "_law_flows"] ["_law_things_here", "_law_rows", "_law_row"] (defScope s__law_stamp) := ⟨rfl, rfl, rfl, by decide +kernel, rfl, by decide +kernel, by decide +kernel⟩
theorem sc__law_steps : FnScope ["_law_things_here", "_law_leaving", "_law_number", "_law_row", "_law_steps_here", "_law_u", "_law_told", "_law_flows", "_law_at", "_law_pair_here", "_law_f", "_law_q"] ["_law_things_here", "_law_leaving", "_law_number", "_law_row"] (defScope s__law_steps) := ⟨rfl, rfl, rfl, by decide +kernel, rfl, by decide +kernel, by decide +kernel⟩
theorem sc__law_stamps : FnScope ["_law_things_here", "_law_rows", "_law_stamps_here", "_law_last", "_law_number", "_law_row", "_law_stamp_here"] ["_law_things_here", "_law_rows"] (defScope s__law_stamps) := ⟨rfl, rfl, rfl, by decide +kernel, rfl, by decide +kernel, by decide +kernel⟩
theorem sc_law : FnScope ["_law_script", "_law_things_here", "_law_rows", "_law_stamps_here", "_law_leaving", "_law_number", "_law_row", "_law_target", "_law_stamp_here"] ["_law_script"] (defScope s_law) := ⟨rfl, rfl, rfl, by decide +kernel, rfl, by decide +kernel, by decide +kernel⟩
theorem sc_Make___init__ : FnScope ["self", "shape", "parts", "at", "place"] ["self", "shape", "parts", "at", "place"] (defScope s_Make___init__) := ⟨rfl, rfl, rfl, by decide +kernel, rfl, by decide +kernel, by decide +kernel⟩
theorem sc_Use___init__ : FnScope ["self", "at", "place", "slot"] ["self", "at", "place", "slot"] (defScope s_Use___init__) := ⟨rfl, rfl, rfl, by decide +kernel, rfl, by decide +kernel, by decide +kernel⟩
theorem sc_NumUse_met : FnScope ["self", "make"] ["self", "make"] (defScope s_NumUse_met) := ⟨rfl, rfl, rfl, by decide +kernel, rfl, by decide +kernel, by decide +kernel⟩
theorem sc_CallUse___init__ : FnScope ["self", "at", "place", "slot", "arg", "out"] ["self", "at", "place", "slot", "arg", "out"] (defScope s_CallUse___init__) := ⟨rfl, rfl, rfl, by decide +kernel, rfl, by decide +kernel, by decide +kernel⟩
theorem sc_CallUse_met : FnScope ["self", "make"] ["self", "make"] (defScope s_CallUse_met) := ⟨rfl, rfl, rfl, by decide +kernel, rfl, by decide +kernel, by decide +kernel⟩
theorem sc_TakeUse___init__ : FnScope ["self", "at", "place", "slot", "fields"] ["self", "at", "place", "slot", "fields"] (defScope s_TakeUse___init__) := ⟨rfl, rfl, rfl, by decide +kernel, rfl, by decide +kernel, by decide +kernel⟩
theorem sc_TakeUse_met : FnScope ["self", "make", "made", "flows", "field"] ["self", "make"] (defScope s_TakeUse_met) := ⟨rfl, rfl, rfl, by decide +kernel, rfl, by decide +kernel, by decide +kernel⟩
theorem sc_CaseUse___init__ : FnScope ["self", "at", "place", "slot", "arms"] ["self", "at", "place", "slot", "arms"] (defScope s_CaseUse___init__) := ⟨rfl, rfl, rfl, by decide +kernel, rfl, by decide +kernel, by decide +kernel⟩
theorem sc_CaseUse_met : FnScope ["self", "make", "arms"] ["self", "make"] (defScope s_CaseUse_met) := ⟨rfl, rfl, rfl, by decide +kernel, rfl, by decide +kernel, by decide +kernel⟩
theorem sc_RowUse___init__ : FnScope ["self", "at", "place", "slot", "out"] ["self", "at", "place", "slot", "out"] (defScope s_RowUse___init__) := ⟨rfl, rfl, rfl, by decide +kernel, rfl, by decide +kernel, by decide +kernel⟩
theorem sc_RowUse_met : FnScope ["self", "make"] ["self", "make"] (defScope s_RowUse_met) := ⟨rfl, rfl, rfl, by decide +kernel, rfl, by decide +kernel, by decide +kernel⟩
theorem sc_Board___init__ : FnScope ["self"] ["self"] (defScope s_Board___init__) := ⟨rfl, rfl, rfl, by decide +kernel, rfl, by decide +kernel, by decide +kernel⟩
theorem sc_Board_point : FnScope ["self", "place"] ["self", "place"] (defScope s_Board_point) := ⟨rfl, rfl, rfl, by decide +kernel, rfl, by decide +kernel, by decide +kernel⟩
theorem sc_Board_make : FnScope ["self", "shape", "parts", "at", "place"] ["self", "shape", "parts", "at", "place"] (defScope s_Board_make) := ⟨rfl, rfl, rfl, by decide +kernel, rfl, by decide +kernel, by decide +kernel⟩
theorem sc_Board_use : FnScope ["self", "one"] ["self", "one"] (defScope s_Board_use) := ⟨rfl, rfl, rfl, by decide +kernel, rfl, by decide +kernel, by decide +kernel⟩
theorem sc_Board_flow : FnScope ["self", "p", "q"] ["self", "p", "q"] (defScope s_Board_flow) := ⟨rfl, rfl, rfl, by decide +kernel, rfl, by decide +kernel, by decide +kernel⟩
theorem sc_Log___init__ : FnScope ["self", "rows", "bads"] ["self", "rows", "bads"] (defScope s_Log___init__) := ⟨rfl, rfl, rfl, by decide +kernel, rfl, by decide +kernel, by decide +kernel⟩
theorem sc_Settling___init__ : FnScope ["self", "board"] ["self", "board"] (defScope s_Settling___init__) := ⟨rfl, rfl, rfl, by decide +kernel, rfl, by decide +kernel, by decide +kernel⟩
theorem sc_Settling_put : FnScope ["self", "word", "first", "second", "why", "beginning"] ["self", "word", "first", "second", "why"] (defScope s_Settling_put) := ⟨rfl, rfl, rfl, by decide +kernel, rfl, by decide +kernel, by decide +kernel⟩
theorem sc_Settling_work : FnScope ["self", "number", "row"] ["self", "number"] (defScope s_Settling_work) := ⟨rfl, rfl, rfl, by decide +kernel, rfl, by decide +kernel, by decide +kernel⟩
theorem sc_Settling_work_goes : FnScope ["self", "number", "p", "q", "here"] ["self", "number", "p", "q"] (defScope s_Settling_work_goes) := ⟨rfl, rfl, rfl, by decide +kernel, rfl, by decide +kernel, by decide +kernel⟩
theorem sc_Settling_work_uses : FnScope ["self", "number", "m", "p", "u", "flows"] ["self", "number", "m", "p"] (defScope s_Settling_work_uses) := ⟨rfl, rfl, rfl, by decide +kernel, rfl, by decide +kernel, by decide +kernel⟩
theorem sc_Settling_put_flows : FnScope ["self", "flows", "why", "flow"] ["self", "flows", "why"] (defScope s_Settling_put_flows) := ⟨rfl, rfl, rfl, by decide +kernel, rfl, by decide +kernel, by decide +kernel⟩
theorem sc_Settling_work_here : FnScope ["self", "number", "m", "p", "going"] ["self", "number", "m", "p"] (defScope s_Settling_work_here) := ⟨rfl, rfl, rfl, by decide +kernel, rfl, by decide +kernel, by decide +kernel⟩
noncomputable def sp_law (K : PySem.W.Frag) : Sp := fun vs H Q _ => ∃ (a : Addr) (ns : List Int), vs = [.ref a] ∧ SqL K H a (ns.map V.int) ∧ ns.length ≤ 63 ∧ ∀ H', Q (.bl true) H'
end K33.Internal
namespace K33.Internal
open PySem L2.Internal BO.Internal
seal L2.Internal.PE L2.Internal.PA L2.Internal.PS L2.Internal.PSs L2.Internal.PT L2.Internal.PI
theorem same_upd {H H2 : Hp} {l : Addr} (s : Same H H2) (h : H l = none) (o : HO) : Same H (upd H2 l o) := fun b u e => by rw [upd_ne (ne_of_none e h)]; exact s b u e
theorem fU_mk (a p s : V) : putF "slot" s (putF "place" p (putF "at" a [])) = fU a p s := by
  have h1 : ¬ ("at" : Str) = "place" := by decide +kernel
  have h2 : ¬ ("at" : Str) = "slot" := by decide +kernel
  have h3 : ¬ ("place" : Str) = "slot" := by decide +kernel
  simp only [putF, if_neg h1, if_neg h2, if_neg h3, fU]
theorem fU1_mk (n : Str) (a p s x : V) (h1 : ¬ ("at" : Str) = n) (h2 : ¬ ("place" : Str) = n) (h3 : ¬ ("slot" : Str) = n) : putF n x (fU a p s) = fU1 n a p s x := by
  simp only [putF, fU, if_neg h1, if_neg h2, if_neg h3, fU1]
theorem fU2_mk (a p s x y : V) : putF "out" y (putF "arg" x (fU a p s)) = fU2 a p s x y := by
  have h1 : ¬ ("at" : Str) = "arg" := by decide +kernel
  have h2 : ¬ ("place" : Str) = "arg" := by decide +kernel
  have h3 : ¬ ("slot" : Str) = "arg" := by decide +kernel
  have h4 : ¬ ("at" : Str) = "out" := by decide +kernel
  have h5 : ¬ ("place" : Str) = "out" := by decide +kernel
  have h6 : ¬ ("slot" : Str) = "out" := by decide +kernel
  have h7 : ¬ ("arg" : Str) = "out" := by decide +kernel
  simp only [putF, fU, if_neg h1, if_neg h2, if_neg h3, if_neg h4, if_neg h5, if_neg h6, if_neg h7, fU2]
theorem fM_mk (s f a p : V) : putF "place" p (putF "at" a (putF "parts" f (putF "shape" s []))) = fM s f a p := by
  have h1 : ¬ ("shape" : Str) = "parts" := by decide +kernel
  have h2 : ¬ ("shape" : Str) = "at" := by decide +kernel
  have h3 : ¬ ("shape" : Str) = "place" := by decide +kernel
  have h4 : ¬ ("parts" : Str) = "at" := by decide +kernel
  have h5 : ¬ ("parts" : Str) = "place" := by decide +kernel
  have h6 : ¬ ("at" : Str) = "place" := by decide +kernel
  simp only [putF, if_neg h1, if_neg h2, if_neg h3, if_neg h4, if_neg h5, if_neg h6, fM]
theorem len_put {f : Str} {v : V} {fs : List (Str × V)} {n : Nat} (h : fs.length < n) : (putF f v fs).length < n + 1 := Nat.lt_of_le_of_lt (length_putF f v fs) (Nat.succ_lt_succ h)
theorem fU_at (a p s : V) : (fU a p s).lookup ("at" : Str) = some (a) := by
  unfold fU
  rw [List.lookup_cons, show (("at" : Str) == "at") = true by decide +kernel]
theorem fU_no_met (a p s : V) : (fU a p s).lookup ("met" : Str) = none := by
  unfold fU
  rw [List.lookup_cons, show (("met" : Str) == "at") = false by decide +kernel, List.lookup_cons, show (("met" : Str) == "place") = false by decide +kernel, List.lookup_cons, show (("met" : Str) == "slot") = false by decide +kernel]
  rfl
theorem fU2_at (a p s x y : V) : (fU2 a p s x y).lookup ("at" : Str) = some (a) := by
  unfold fU2
  rw [List.lookup_cons, show (("at" : Str) == "at") = true by decide +kernel]
theorem fU2_arg (a p s x y : V) : (fU2 a p s x y).lookup ("arg" : Str) = some (x) := by
  unfold fU2
  rw [List.lookup_cons, show (("arg" : Str) == "at") = false by decide +kernel, List.lookup_cons, show (("arg" : Str) == "place") = false by decide +kernel, List.lookup_cons, show (("arg" : Str) == "slot") = false by decide +kernel, List.lookup_cons, show (("arg" : Str) == "arg") = true by decide +kernel]
theorem fU2_out (a p s x y : V) : (fU2 a p s x y).lookup ("out" : Str) = some (y) := by
  unfold fU2
  rw [List.lookup_cons, show (("out" : Str) == "at") = false by decide +kernel, List.lookup_cons, show (("out" : Str) == "place") = false by decide +kernel, List.lookup_cons, show (("out" : Str) == "slot") = false by decide +kernel, List.lookup_cons, show (("out" : Str) == "arg") = false by decide +kernel, List.lookup_cons, show (("out" : Str) == "out") = true by decide +kernel]
theorem fU2_no_met (a p s x y : V) : (fU2 a p s x y).lookup ("met" : Str) = none := by
  unfold fU2
  rw [List.lookup_cons, show (("met" : Str) == "at") = false by decide +kernel, List.lookup_cons, show (("met" : Str) == "place") = false by decide +kernel, List.lookup_cons, show (("met" : Str) == "slot") = false by decide +kernel, List.lookup_cons, show (("met" : Str) == "arg") = false by decide +kernel, List.lookup_cons, show (("met" : Str) == "out") = false by decide +kernel]
  rfl
theorem fM_shape (s f a p : V) : (fM s f a p).lookup ("shape" : Str) = some (s) := by
  unfold fM
  rw [List.lookup_cons, show (("shape" : Str) == "shape") = true by decide +kernel]
theorem fM_parts (s f a p : V) : (fM s f a p).lookup ("parts" : Str) = some (f) := by
  unfold fM
  rw [List.lookup_cons, show (("parts" : Str) == "shape") = false by decide +kernel, List.lookup_cons, show (("parts" : Str) == "parts") = true by decide +kernel]
theorem fM_at (s f a p : V) : (fM s f a p).lookup ("at" : Str) = some (a) := by
  unfold fM
  rw [List.lookup_cons, show (("at" : Str) == "shape") = false by decide +kernel, List.lookup_cons, show (("at" : Str) == "parts") = false by decide +kernel, List.lookup_cons, show (("at" : Str) == "at") = true by decide +kernel]
theorem fU1F_at (a p s x : V) : (fU1 "fields" a p s x).lookup ("at" : Str) = some (a) := by
  unfold fU1
  rw [List.lookup_cons, show (("at" : Str) == "at") = true by decide +kernel]
theorem fU1F_fields (a p s x : V) : (fU1 "fields" a p s x).lookup ("fields" : Str) = some (x) := by
  unfold fU1
  rw [List.lookup_cons, show (("fields" : Str) == "at") = false by decide +kernel, List.lookup_cons, show (("fields" : Str) == "place") = false by decide +kernel, List.lookup_cons, show (("fields" : Str) == "slot") = false by decide +kernel, List.lookup_cons, show (("fields" : Str) == "fields") = true by decide +kernel]
theorem fU1F_no_met (a p s x : V) : (fU1 "fields" a p s x).lookup ("met" : Str) = none := by
  unfold fU1
  rw [List.lookup_cons, show (("met" : Str) == "at") = false by decide +kernel, List.lookup_cons, show (("met" : Str) == "place") = false by decide +kernel, List.lookup_cons, show (("met" : Str) == "slot") = false by decide +kernel, List.lookup_cons, show (("met" : Str) == "fields") = false by decide +kernel]
  rfl
theorem fU1A_at (a p s x : V) : (fU1 "arms" a p s x).lookup ("at" : Str) = some (a) := by
  unfold fU1
  rw [List.lookup_cons, show (("at" : Str) == "at") = true by decide +kernel]
theorem fU1A_arms (a p s x : V) : (fU1 "arms" a p s x).lookup ("arms" : Str) = some (x) := by
  unfold fU1
  rw [List.lookup_cons, show (("arms" : Str) == "at") = false by decide +kernel, List.lookup_cons, show (("arms" : Str) == "place") = false by decide +kernel, List.lookup_cons, show (("arms" : Str) == "slot") = false by decide +kernel, List.lookup_cons, show (("arms" : Str) == "arms") = true by decide +kernel]
theorem fU1A_no_met (a p s x : V) : (fU1 "arms" a p s x).lookup ("met" : Str) = none := by
  unfold fU1
  rw [List.lookup_cons, show (("met" : Str) == "at") = false by decide +kernel, List.lookup_cons, show (("met" : Str) == "place") = false by decide +kernel, List.lookup_cons, show (("met" : Str) == "slot") = false by decide +kernel, List.lookup_cons, show (("met" : Str) == "arms") = false by decide +kernel]
  rfl
theorem fU1O_at (a p s x : V) : (fU1 "out" a p s x).lookup ("at" : Str) = some (a) := by
  unfold fU1
  rw [List.lookup_cons, show (("at" : Str) == "at") = true by decide +kernel]
theorem fU1O_out (a p s x : V) : (fU1 "out" a p s x).lookup ("out" : Str) = some (x) := by
  unfold fU1
  rw [List.lookup_cons, show (("out" : Str) == "at") = false by decide +kernel, List.lookup_cons, show (("out" : Str) == "place") = false by decide +kernel, List.lookup_cons, show (("out" : Str) == "slot") = false by decide +kernel, List.lookup_cons, show (("out" : Str) == "out") = true by decide +kernel]
theorem fU1O_no_met (a p s x : V) : (fU1 "out" a p s x).lookup ("met" : Str) = none := by
  unfold fU1
  rw [List.lookup_cons, show (("met" : Str) == "at") = false by decide +kernel, List.lookup_cons, show (("met" : Str) == "place") = false by decide +kernel, List.lookup_cons, show (("met" : Str) == "slot") = false by decide +kernel, List.lookup_cons, show (("met" : Str) == "out") = false by decide +kernel]
  rfl
section
variable {P : Program} {w : World} {K : PySem.W.Frag} {mg : Str → Option Value} {base : Heap}
noncomputable def sp_Use___init__ (K : PySem.W.Frag) : Sp := fun vs H Q _ => ∃ (x C dx : Addr) (a p s : V), vs = [.ref x, a, p, s] ∧ H x = some (.ins C dx []) ∧ Cls K C ∧ NoAttr K C "at" ∧ NoAttr K C "place" ∧ NoAttr K C "slot" ∧ Q .non (upd H x (.ins C dx (fU a p s)))
theorem ok_Use___init__ (T : Txt K mg) : FnOk P w K mg base CX0 1 T.a_Use___init__ T.fd_Use___init__ ["self", "at", "place", "slot"] (sp_Use___init__ K) := by
  refine T.F_Use___init__.ok sc_Use___init__ (fun vs H Q E h => ?_) (fun cdv A outer s H vs Q E hr h => ?_)
  · obtain ⟨x, C, dx, a, p, s, rfl, _⟩ := h
    rfl
  obtain ⟨x, C, dx, a, p, sl, rfl, hx, cl, n1, n2, n3, q⟩ := h
  refine ⟨_, (pss_cons (ps_fld (pv 0) (pv 1) rfl)
    (pss_cons (ps_fld (pv 0) (pv 2) rfl)
    (pss_one (ps_fld (pv 0) (pv 3) rfl)))), ?_⟩
  refine ⟨_, rfl, _, rfl, x, C, dx, [], rfl, hx, cl, n1, (by show 0 < 1000; decide), ?_⟩
  refine ⟨_, rfl, _, rfl, x, C, dx, _, rfl, upd_same, cl, n2, (by show 1 < 1000; decide), ?_⟩
  refine ⟨_, rfl, _, rfl, x, C, dx, _, rfl, upd_same, cl, n3, len_put (len_put (by show 0 < 998; decide)), ?_⟩
  rw [upd_upd, upd_upd, fU_mk]
  exact q
noncomputable def sp_CallUse___init__ (C : Addr) : Sp := fun vs H Q _ => ∃ (x dx : Addr) (a p s y z : V), vs = [.ref x, a, p, s, y, z] ∧ H x = some (.ins C dx []) ∧ Q .non (upd H x (.ins C dx (fU2 a p s y z)))
theorem ok_CallUse___init__ (T : Txt K mg) : FnOk P w K mg base CX0 2 T.a_CallUse___init__ T.fd_CallUse___init__ ["self", "at", "place", "slot", "arg", "out"] (sp_CallUse___init__ T.a_CallUse) := by
  have G_Use___init__ := ok_Use___init__ (P := P) (w := w) (base := base) T
  refine T.F_CallUse___init__.ok sc_CallUse___init__ (fun vs H Q E h => ?_) (fun cdv A outer s H vs Q E hr h => ?_)
  · obtain ⟨x, dx, a, p, s, y, z, rfl, _⟩ := h
    rfl
  obtain ⟨x, dx, a, p, sl, y, z, rfl, hx, q⟩ := h
  refine ⟨_, (pss_cons (ps_expr (pe_clsm (pe_gR rfl T.m_Use) T.cm_Use___init__ G_Use___init__ (hr.mono (by decide)) T.b_Use___init__ .nil pass0 (pa_cons (pv 0) (pa_cons (pv 1) (pa_cons (pv 2) (pa_cons (pv 3) pa_nil))))))
    (pss_cons (ps_fld (pv 0) (pv 4) rfl)
    (pss_one (ps_fld (pv 0) (pv 5) rfl)))), ?_⟩
  refine ⟨_, rfl, _, rfl, _, rfl, _, rfl, x, _, dx, a, p, sl, rfl, hx, T.cl_CallUse, T.n_CallUse_at, T.n_CallUse_place, T.n_CallUse_slot, ?_⟩
  refine ⟨_, rfl, _, rfl, x, _, dx, _, rfl, upd_same, T.cl_CallUse, T.n_CallUse_arg, (by show 3 < 1000; decide), ?_⟩
  refine ⟨_, rfl, _, rfl, x, _, dx, _, rfl, upd_same, T.cl_CallUse, T.n_CallUse_out, len_put (by show 3 < 999; decide), ?_⟩
  rw [upd_upd, upd_upd, fU2_mk]
  exact q
noncomputable def sp_U1 (C : Addr) (n : Str) : Sp := fun vs H Q _ => ∃ (x dx : Addr) (a p s y : V), vs = [.ref x, a, p, s, y] ∧ H x = some (.ins C dx []) ∧ Q .non (upd H x (.ins C dx (fU1 n a p s y)))
theorem ok_TakeUse___init__ (T : Txt K mg) : FnOk P w K mg base CX0 2 T.a_TakeUse___init__ T.fd_TakeUse___init__ ["self", "at", "place", "slot", "fields"] (sp_U1 T.a_TakeUse "fields") := by
  have G_Use___init__ := ok_Use___init__ (P := P) (w := w) (base := base) T
  refine T.F_TakeUse___init__.ok sc_TakeUse___init__ (fun vs H Q E h => ?_) (fun cdv A outer s H vs Q E hr h => ?_)
  · obtain ⟨x, dx, a, p, s, y, rfl, _⟩ := h
    rfl
  obtain ⟨x, dx, a, p, sl, y, rfl, hx, q⟩ := h
  refine ⟨_, (pss_cons (ps_expr (pe_clsm (pe_gR rfl T.m_Use) T.cm_Use___init__ G_Use___init__ (hr.mono (by decide)) T.b_Use___init__ .nil pass0 (pa_cons (pv 0) (pa_cons (pv 1) (pa_cons (pv 2) (pa_cons (pv 3) pa_nil))))))
    (pss_one (ps_fld (pv 0) (pv 4) rfl))), ?_⟩
  refine ⟨_, rfl, _, rfl, _, rfl, _, rfl, x, _, dx, a, p, sl, rfl, hx, T.cl_TakeUse, T.n_TakeUse_at, T.n_TakeUse_place, T.n_TakeUse_slot, ?_⟩
  refine ⟨_, rfl, _, rfl, x, _, dx, _, rfl, upd_same, T.cl_TakeUse, T.n_TakeUse_fields, (by show 3 < 1000; decide), ?_⟩
  rw [upd_upd, fU1_mk "fields" a p sl y (by decide +kernel) (by decide +kernel) (by decide +kernel)]
  exact q
theorem ok_CaseUse___init__ (T : Txt K mg) : FnOk P w K mg base CX0 2 T.a_CaseUse___init__ T.fd_CaseUse___init__ ["self", "at", "place", "slot", "arms"] (sp_U1 T.a_CaseUse "arms") := by
  have G_Use___init__ := ok_Use___init__ (P := P) (w := w) (base := base) T
  refine T.F_CaseUse___init__.ok sc_CaseUse___init__ (fun vs H Q E h => ?_) (fun cdv A outer s H vs Q E hr h => ?_)
  · obtain ⟨x, dx, a, p, s, y, rfl, _⟩ := h
    rfl
  obtain ⟨x, dx, a, p, sl, y, rfl, hx, q⟩ := h
  refine ⟨_, (pss_cons (ps_expr (pe_clsm (pe_gR rfl T.m_Use) T.cm_Use___init__ G_Use___init__ (hr.mono (by decide)) T.b_Use___init__ .nil pass0 (pa_cons (pv 0) (pa_cons (pv 1) (pa_cons (pv 2) (pa_cons (pv 3) pa_nil))))))
    (pss_one (ps_fld (pv 0) (pv 4) rfl))), ?_⟩
  refine ⟨_, rfl, _, rfl, _, rfl, _, rfl, x, _, dx, a, p, sl, rfl, hx, T.cl_CaseUse, T.n_CaseUse_at, T.n_CaseUse_place, T.n_CaseUse_slot, ?_⟩
  refine ⟨_, rfl, _, rfl, x, _, dx, _, rfl, upd_same, T.cl_CaseUse, T.n_CaseUse_arms, (by show 3 < 1000; decide), ?_⟩
  rw [upd_upd, fU1_mk "arms" a p sl y (by decide +kernel) (by decide +kernel) (by decide +kernel)]
  exact q
theorem ok_RowUse___init__ (T : Txt K mg) : FnOk P w K mg base CX0 2 T.a_RowUse___init__ T.fd_RowUse___init__ ["self", "at", "place", "slot", "out"] (sp_U1 T.a_RowUse "out") := by
  have G_Use___init__ := ok_Use___init__ (P := P) (w := w) (base := base) T
  refine T.F_RowUse___init__.ok sc_RowUse___init__ (fun vs H Q E h => ?_) (fun cdv A outer s H vs Q E hr h => ?_)
  · obtain ⟨x, dx, a, p, s, y, rfl, _⟩ := h
    rfl
  obtain ⟨x, dx, a, p, sl, y, rfl, hx, q⟩ := h
  refine ⟨_, (pss_cons (ps_expr (pe_clsm (pe_gR rfl T.m_Use) T.cm_Use___init__ G_Use___init__ (hr.mono (by decide)) T.b_Use___init__ .nil pass0 (pa_cons (pv 0) (pa_cons (pv 1) (pa_cons (pv 2) (pa_cons (pv 3) pa_nil))))))
    (pss_one (ps_fld (pv 0) (pv 4) rfl))), ?_⟩
  refine ⟨_, rfl, _, rfl, _, rfl, _, rfl, x, _, dx, a, p, sl, rfl, hx, T.cl_RowUse, T.n_RowUse_at, T.n_RowUse_place, T.n_RowUse_slot, ?_⟩
  refine ⟨_, rfl, _, rfl, x, _, dx, _, rfl, upd_same, T.cl_RowUse, T.n_RowUse_out, (by show 3 < 1000; decide), ?_⟩
  rw [upd_upd, fU1_mk "out" a p sl y (by decide +kernel) (by decide +kernel) (by decide +kernel)]
  exact q
noncomputable def sp_Make___init__ (C : Addr) : Sp := fun vs H Q _ => ∃ (x dx : Addr) (s f a p : V), vs = [.ref x, s, f, a, p] ∧ H x = some (.ins C dx []) ∧ Q .non (upd H x (.ins C dx (fM s f a p)))
theorem ok_Make___init__ (T : Txt K mg) : FnOk P w K mg base CX0 1 T.a_Make___init__ T.fd_Make___init__ ["self", "shape", "parts", "at", "place"] (sp_Make___init__ T.a_Make) := by
  refine T.F_Make___init__.ok sc_Make___init__ (fun vs H Q E h => ?_) (fun cdv A outer s H vs Q E hr h => ?_)
  · obtain ⟨x, dx, s, f, a, p, rfl, _⟩ := h
    rfl
  obtain ⟨x, dx, sh, f, a, p, rfl, hx, q⟩ := h
  refine ⟨_, (pss_cons (ps_fld (pv 0) (pv 1) rfl)
    (pss_cons (ps_fld (pv 0) (pv 2) rfl)
    (pss_cons (ps_fld (pv 0) (pv 3) rfl)
    (pss_one (ps_fld (pv 0) (pv 4) rfl))))), ?_⟩
  refine ⟨_, rfl, _, rfl, x, _, dx, [], rfl, hx, T.cl_Make, T.n_Make_shape, (by show 0 < 1000; decide), ?_⟩
  refine ⟨_, rfl, _, rfl, x, _, dx, _, rfl, upd_same, T.cl_Make, T.n_Make_parts, (by show 1 < 1000; decide), ?_⟩
  refine ⟨_, rfl, _, rfl, x, _, dx, _, rfl, upd_same, T.cl_Make, T.n_Make_at, len_put (len_put (by show 0 < 998; decide)), ?_⟩
  refine ⟨_, rfl, _, rfl, x, _, dx, _, rfl, upd_same, T.cl_Make, T.n_Make_place, len_put (len_put (len_put (by show 0 < 997; decide))), ?_⟩
  rw [upd_upd, upd_upd, upd_upd, fM_mk]
  exact q
end
end K33.Internal
namespace K33.Internal
open PySem L2.Internal BO.Internal
seal L2.Internal.PE L2.Internal.PA L2.Internal.PS L2.Internal.PSs L2.Internal.PT L2.Internal.PI
section
variable {P : Program} {w : World} {K : PySem.W.Frag} {mg : Str → Option Value} {base : Heap}
noncomputable def cs (T : Txt K mg) : Cs := ⟨T.a_Make, T.a_NumUse, T.a_CallUse, T.a_TakeUse, T.a_CaseUse, T.a_RowUse, T.a_Board⟩
theorem ns {x y : Str} (h : x ≠ y) : decide (V.str x = V.str y) = false := decide_eq_false fun z => by injection z with z; exact h z
theorem Mf.is_num {m : Mf} (h : m.s = "num") : m = .num := by
  cases m <;> first | rfl | exact absurd h (by simp only [Mf.s]; decide +kernel)
theorem Mf.is_fn {m : Mf} (h : m.s = "fn") : ∃ x y, m = .fn x y := by
  cases m <;> first | exact ⟨_, _, rfl⟩ | exact absurd h (by simp only [Mf.s]; decide +kernel)
theorem Mf.is_rcd {m : Mf} (h : m.s = "rec") : ∃ l, m = .rcd l := by
  cases m <;> first | exact ⟨_, rfl⟩ | exact absurd h (by simp only [Mf.s]; decide +kernel)
theorem Mf.is_tag {m : Mf} (h : m.s = "tag") : ∃ x y, m = .tag x y := by
  cases m <;> first | exact ⟨_, _, rfl⟩ | exact absurd h (by simp only [Mf.s]; decide +kernel)
theorem Mf.is_row {m : Mf} (h : m.s = "row") : ∃ x, m = .row x := by
  cases m <;> first | exact ⟨_, rfl⟩ | exact absurd h (by simp only [Mf.s]; decide +kernel)
theorem no_num {a p s : Int} {m : Mf} (h : m.s ≠ "num") : meet (.num a p s) m = none := by
  cases m <;> first | rfl | exact absurd rfl h
theorem no_fn {a p s x y : Int} {m : Mf} (h : m.s ≠ "fn") : meet (.call a p s x y) m = none := by
  cases m <;> first | rfl | exact absurd rfl h
theorem no_rcd {a p s : Int} {l : List (Str × Int)} {m : Mf} (h : m.s ≠ "rec") : meet (.take a p s l) m = none := by
  cases m <;> first | rfl | exact absurd rfl h
theorem no_tag {a p s : Int} {l : List (Str × Int)} {m : Mf} (h : m.s ≠ "tag") : meet (.case a p s l) m = none := by
  cases m <;> first | rfl | exact absurd rfl h
theorem no_row {a p s x : Int} {m : Mf} (h : m.s ≠ "row") : meet (.row a p s x) m = none := by
  cases m <;> first | rfl | exact absurd rfl h
noncomputable def sp_met (c : Cs) (f : Us → Prop) : Sp := fun vs H Q _ => ∃ (xv mv : V) (u : Us) (m : Mf) (ma mp : Int), vs = [xv, mv] ∧ f u ∧ u.dist ∧ UsAt c H xv u ∧ MkAt c H mv (mkg m ma mp) ∧ m.ok ∧ ∀ v H', Same H H' → Dta H' v (mtD (meet u m)) → Q v H'
theorem im_nil {H : Hp} {f : V} {l : List Dt} (h : Im H f (.tup l)) : ∃ t xs, f = .ref t ∧ H t = some (.tup xs) ∧ Ims H xs l := by
  cases h with
  | tup e hs => exact ⟨_, _, rfl, e, hs⟩
theorem ims1 {H : Hp} {xs : List V} {i : V} (h : Ims H xs [.flat i]) : xs = [i] := by
  cases h with
  | cons h hs => cases h; cases hs; rfl
theorem ims2 {H : Hp} {xs : List V} {i j : V} (h : Ims H xs [.flat i, .flat j]) : xs = [i, j] := by
  cases h with
  | cons h hs =>
    cases h
    rw [ims1 hs]
theorem ok_NumUse_met (T : Txt K mg) : FnOk P w K mg base CX0 1 T.a_NumUse_met T.fd_NumUse_met ["self", "make"] (sp_met (cs T) fun u => ∃ a p s, u = .num a p s) := by
  refine T.F_NumUse_met.ok sc_NumUse_met (fun vs H Q E h => ?_) (fun cdv A outer s H vs Q E hr h => ?_)
  · obtain ⟨xv, mv, u, m, ma, mp, rfl, _⟩ := h
    rfl
  obtain ⟨xv, mv, u, m, ma, mp, rfl, ⟨a, p, sl, rfl⟩, hd, ⟨x, dx, rfl, hx⟩, ⟨xm, dxm, f, rfl, hm, hf, _, _⟩, mo, q⟩ := h
  refine ⟨_, (pss_cons (ps_if (pt_cmpR op_ne (pe_fld (pv 1) rfl) pe_str (nomark _))
      (pss_one (ps_ret pe_non))
      pss_nil)
    (pss_one (ps_ret (pe_lst pa_nil)))), ?_⟩
  refine ⟨_, rfl, xm, _, dxm, _, _, rfl, hm, T.cl_Make, T.n_Make_shape, fM_shape _ _ _ _, rfl, _, rfl, ?_⟩
  by_cases e : m.s = "num"
  · rw [show decide (V.str (mkg m ma mp).s = V.str "num") = true from decide_eq_true (congrArg V.str e)]
    obtain rfl := Mf.is_num e
    exact iteF ⟨(by show 0 ≤ sizeLine; decide), fun l hl => q _ _ (same_new hl _) (.lst upd_same .nil)⟩
  · rw [show decide (V.str (mkg m ma mp).s = V.str "num") = false from ns e]
    exact iteT (q .non H (Same.refl _) (by rw [no_num e]; exact .flat rfl))
theorem ok_CallUse_met (T : Txt K mg) : FnOk P w K mg base CX0 1 T.a_CallUse_met T.fd_CallUse_met ["self", "make"] (sp_met (cs T) fun u => ∃ a p s x y, u = .call a p s x y) := by
  refine T.F_CallUse_met.ok sc_CallUse_met (fun vs H Q E h => ?_) (fun cdv A outer s H vs Q E hr h => ?_)
  · obtain ⟨xv, mv, u, m, ma, mp, rfl, _⟩ := h
    rfl
  obtain ⟨xv, mv, u, m, ma, mp, rfl, ⟨a, p, sl, y, z, rfl⟩, hd, ⟨x, dx, rfl, hx⟩, ⟨xm, dxm, f, rfl, hm, hf, _, _⟩, mo, q⟩ := h
  refine ⟨_, (pss_cons (ps_if (pt_cmpR op_ne (pe_fld (pv 1) rfl) pe_str (nomark _))
      (pss_one (ps_ret pe_non))
      pss_nil)
    (pss_one (ps_ret (pe_lst (pa_cons (pe_tup (pa_cons (pe_fld (pv 0) rfl) (pa_cons (pe_ix ix_tup (pe_fld (pv 1) rfl) pe_int (fun _ _ => rfl)) pa_nil))) (pa_cons (pe_tup (pa_cons (pe_ix ix_tup (pe_fld (pv 1) rfl) pe_int (fun _ _ => rfl)) (pa_cons (pe_fld (pv 0) rfl) pa_nil))) pa_nil)))))), ?_⟩
  refine ⟨_, rfl, xm, _, dxm, _, _, rfl, hm, T.cl_Make, T.n_Make_shape, fM_shape _ _ _ _, rfl, _, rfl, ?_⟩
  by_cases e : m.s = "fn"
  · rw [show decide (V.str (mkg m ma mp).s = V.str "fn") = true from decide_eq_true (congrArg V.str e)]
    obtain ⟨u, v, rfl⟩ := Mf.is_fn e
    obtain ⟨t, xs, rfl, et, hs⟩ := im_nil hf
    obtain rfl := ims2 hs
    refine iteF ⟨_, rfl, x, _, dx, _, _, rfl, hx, T.cl_CallUse, T.n_CallUse_arg, fU2_arg _ _ _ _ _, _, rfl, xm, _, dxm, _, _, rfl, hm, T.cl_Make, T.n_Make_parts, fM_parts _ _ _ _, t, _, _, _, rfl, rfl, SqT.of et, atI_nat (j := 0) rfl, (by show 2 ≤ sizeLine; decide), fun t1 h1 => ?_⟩
    have S1 := same_new h1 (.tup [.int y, .int u])
    refine ⟨_, rfl, xm, _, dxm, _, _, rfl, S1 _ _ hm, T.cl_Make, T.n_Make_parts, fM_parts _ _ _ _, t, _, _, _, rfl, rfl, SqT.of (S1 _ _ et), atI_nat (j := 1) rfl, _, rfl, x, _, dx, _, _, rfl, S1 _ _ hx, T.cl_CallUse, T.n_CallUse_out, fU2_out _ _ _ _ _, (by show 2 ≤ sizeLine; decide), fun t2 h2 => ?_⟩
    have S2 := same_new h2 (.tup [.int v, .int z])
    refine ⟨(by show 2 ≤ sizeLine; decide), fun l hl => ?_⟩
    have S3 := same_new hl (.lst [.ref t1, .ref t2])
    refine q _ _ ((S1.trans S2).trans S3) (.lst upd_same (.cons (.tup (S3 _ _ (S2 _ _ upd_same)) (.cons (.flat rfl) (.cons (.flat rfl) .nil))) (.cons (.tup (S3 _ _ upd_same) (.cons (.flat rfl) (.cons (.flat rfl) .nil))) .nil)))
  · rw [show decide (V.str (mkg m ma mp).s = V.str "fn") = false from ns e]
    exact iteT (q .non H (Same.refl _) (by rw [no_fn e]; exact .flat rfl))
theorem ok_RowUse_met (T : Txt K mg) : FnOk P w K mg base CX0 1 T.a_RowUse_met T.fd_RowUse_met ["self", "make"] (sp_met (cs T) fun u => ∃ a p s x, u = .row a p s x) := by
  refine T.F_RowUse_met.ok sc_RowUse_met (fun vs H Q E h => ?_) (fun cdv A outer s H vs Q E hr h => ?_)
  · obtain ⟨xv, mv, u, m, ma, mp, rfl, _⟩ := h
    rfl
  obtain ⟨xv, mv, u, m, ma, mp, rfl, ⟨a, p, sl, y, rfl⟩, hd, ⟨x, dx, rfl, hx⟩, ⟨xm, dxm, f, rfl, hm, hf, _, _⟩, mo, q⟩ := h
  refine ⟨_, (pss_cons (ps_if (pt_cmpR op_ne (pe_fld (pv 1) rfl) pe_str (nomark _))
      (pss_one (ps_ret pe_non))
      pss_nil)
    (pss_one (ps_ret (pe_lst (pa_cons (pe_tup (pa_cons (pe_ix ix_tup (pe_fld (pv 1) rfl) pe_int (fun _ _ => rfl)) (pa_cons (pe_fld (pv 0) rfl) pa_nil))) pa_nil))))), ?_⟩
  refine ⟨_, rfl, xm, _, dxm, _, _, rfl, hm, T.cl_Make, T.n_Make_shape, fM_shape _ _ _ _, rfl, _, rfl, ?_⟩
  by_cases e : m.s = "row"
  · rw [show decide (V.str (mkg m ma mp).s = V.str "row") = true from decide_eq_true (congrArg V.str e)]
    obtain ⟨u, rfl⟩ := Mf.is_row e
    obtain ⟨t, xs, rfl, et, hs⟩ := im_nil hf
    obtain rfl := ims1 hs
    refine iteF ⟨_, rfl, xm, _, dxm, _, _, rfl, hm, T.cl_Make, T.n_Make_parts, fM_parts _ _ _ _, t, _, _, _, rfl, rfl, SqT.of et, atI_nat (j := 0) rfl, _, rfl, x, _, dx, _, _, rfl, hx, T.cl_RowUse, T.n_RowUse_out, fU1O_out _ _ _ _, (by show 2 ≤ sizeLine; decide), fun t1 h1 => ?_⟩
    refine ⟨(by show 1 ≤ sizeLine; decide), fun l hl => ?_⟩
    have S1 := same_new h1 (.tup [.int u, .int y])
    have S3 := same_new hl (.lst [.ref t1])
    refine q _ _ (S1.trans S3) (.lst upd_same (.cons (.tup (S3 _ _ upd_same) (.cons (.flat rfl) (.cons (.flat rfl) .nil))) .nil))
  · rw [show decide (V.str (mkg m ma mp).s = V.str "row") = false from ns e]
    exact iteT (q .non H (Same.refl _) (by rw [no_row e]; exact .flat rfl))
theorem ok_CaseUse_met (T : Txt K mg) : FnOk P w K mg base CX0 1 T.a_CaseUse_met T.fd_CaseUse_met ["self", "make"] (sp_met (cs T) fun u => ∃ a p s l, u = .case a p s l) := by
  refine T.F_CaseUse_met.ok sc_CaseUse_met (fun vs H Q E h => ?_) (fun cdv A outer s H vs Q E hr h => ?_)
  · obtain ⟨xv, mv, u, m, ma, mp, rfl, _⟩ := h
    rfl
  have hu : (A.deeper (PyProof.Rows.envOfC "CaseUse.met" (defScope s_CaseUse_met) s.heap.objs.size T.a_CaseUse_met cdv)).units + 1 < cLine := by have := hr.un; omega
  obtain ⟨xv, mv, u, m, ma, mp, rfl, ⟨a, p, sl, l, rfl⟩, hd, ⟨x, dx, g, rfl, hx, hg, hl⟩, ⟨xm, dxm, f, rfl, hm, hf, _, _⟩, mo, q⟩ := h
  refine ⟨_, (pss_cons (ps_if (pt_cmpR op_ne (pe_fld (pv 1) rfl) pe_str (nomark _))
      (pss_one (ps_ret pe_non))
      pss_nil)
    (pss_cons (ps_set (i := 2) sc_CaseUse_met.nd rfl (Or.inl rfl) (pe_callTy (call_dictT rfl) rfl T.z_dict bt_dict (pa_cons (pe_fld (pv 0) rfl) pa_nil)))
    (pss_cons (ps_if (pt_cmp (pc_dnotin hu (pe_ix ix_tup (pe_fld (pv 1) rfl) pe_int (fun _ _ => rfl)) (pv 2)) rfl)
      (pss_one (ps_ret pe_non))
      pss_nil)
    (pss_one (ps_ret (pe_lst (pa_cons (pe_tup (pa_cons (pe_ix ix_tup (pe_fld (pv 1) rfl) pe_int (fun _ _ => rfl)) (pa_cons (pe_dget hu (pv 2) (pe_ix ix_tup (pe_fld (pv 1) rfl) pe_int (fun _ _ => rfl)) (fun _ _ => rfl)) pa_nil))) pa_nil))))))), ?_⟩
  refine ⟨_, rfl, xm, _, dxm, _, _, rfl, hm, T.cl_Make, T.n_Make_shape, fM_shape _ _ _ _, rfl, _, rfl, ?_⟩
  by_cases e : m.s = "tag"
  · rw [show decide (V.str (mkg m ma mp).s = V.str "tag") = true from decide_eq_true (congrArg V.str e)]
    obtain ⟨u, v, rfl⟩ := Mf.is_tag e
    obtain ⟨t, xs, rfl, et, hs⟩ := im_nil hf
    obtain rfl := ims2 hs
    obtain ⟨tg, ys, rfl, eg, hys⟩ := im_nil hg
    refine iteF ⟨_, rfl, x, _, dx, _, _, rfl, hx, T.cl_CaseUse, T.n_CaseUse_arms, fU1A_arms _ _ _ _, tg, ys, _, rfl, eg, im_ps hys, by rw [List.length_map]; omega, fun d hd2 => ?_⟩
    have S1 := same_new hd2 (.dK (mergeK [] ((l.map pI).map kf)))
    have ev := valV_merge l [] u hd
    have dg : ∀ {H5 : Hp}, H5 d = some (.dK (mergeK [] ((l.map pI).map kf))) → DGet H5 d (.str u) (valV (mergeK [] ((l.map pI).map kf)) (Sum.inr u)) := fun h5 => DGet.k (k := (Sum.inr u : Key)) h5
    refine ⟨_, rfl, xm, _, dxm, _, _, rfl, S1 _ _ hm, T.cl_Make, T.n_Make_parts, fM_parts _ _ _ _, t, _, _, _, rfl, rfl, SqT.of (S1 _ _ et), atI_nat (j := 0) rfl, _, rfl, d, _, rfl, dg upd_same, _, rfl, ?_⟩
    cases ek : lk l u with
    | none =>
      rw [ev, ek]
      exact iteT (q .non _ S1 (by rw [meet, ek]; exact .flat rfl))
    | some i =>
      replace ev : valV (mergeK [] ((l.map pI).map kf)) (Sum.inr u) = some (.int i) := by rw [ev, ek]
      rw [ev]
      refine iteF ⟨_, rfl, xm, _, dxm, _, _, rfl, S1 _ _ hm, T.cl_Make, T.n_Make_parts, fM_parts _ _ _ _, t, _, _, _, rfl, rfl, SqT.of (S1 _ _ et), atI_nat (j := 1) rfl, _, rfl, _, rfl, xm, _, dxm, _, _, rfl, S1 _ _ hm, T.cl_Make, T.n_Make_parts, fM_parts _ _ _ _, t, _, _, _, rfl, rfl, SqT.of (S1 _ _ et), atI_nat (j := 0) rfl, d, .int i, rfl, (by rw [← ev]; exact dg upd_same), (by show 2 ≤ sizeLine; decide), fun t1 h1 => ?_⟩
      refine ⟨(by show 1 ≤ sizeLine; decide), fun l2 hl2 => ?_⟩
      have S2 := same_new h1 (.tup [.int v, .int i])
      have S3 := same_new hl2 (.lst [.ref t1])
      refine q _ _ ((S1.trans S2).trans S3) ?_
      rw [meet, ek]
      exact .lst upd_same (.cons (.tup (S3 _ _ upd_same) (.cons (.flat rfl) (.cons (.flat rfl) .nil))) .nil)
  · rw [show decide (V.str (mkg m ma mp).s = V.str "tag") = false from ns e]
    exact iteT (q .non H (Same.refl _) (by rw [no_tag e]; exact .flat rfl))
end
end K33.Internal
namespace K33.Internal
open PySem L2.Internal BO.Internal
seal L2.Internal.PE L2.Internal.PA L2.Internal.PS L2.Internal.PSs L2.Internal.PT L2.Internal.PI
section
variable {P : Program} {w : World} {K : PySem.W.Frag} {mg : Str → Option Value} {base : Heap}
theorem taken_take {l m : List (Str × Int)} {k : Nat} {p : Str × Int} {x : Int} (e : l[k]? = some p) (ek : lk m p.1 = some x) : (l.take (k + 1)).filterMap (fnd m) = (l.take k).filterMap (fnd m) ++ [(x, p.2)] := by
  rw [List.take_add_one, e, Option.toList, List.filterMap_append]
  have : fnd m p = some (x, p.2) := by rw [fnd, ek]; rfl
  simp [this]
theorem ok_TakeUse_met (T : Txt K mg) : FnOk P w K mg base CX0 1 T.a_TakeUse_met T.fd_TakeUse_met ["self", "make"] (sp_met (cs T) fun u => ∃ a p s l, u = .take a p s l) := by
  refine T.F_TakeUse_met.ok sc_TakeUse_met (fun vs H Q E h => ?_) (fun cdv A outer s H vs Q E hr h => ?_)
  · obtain ⟨xv, mv, u, m, ma, mp, rfl, _⟩ := h
    rfl
  have hu : (A.deeper (PyProof.Rows.envOfC "TakeUse.met" (defScope s_TakeUse_met) s.heap.objs.size T.a_TakeUse_met cdv)).units + 1 < cLine := by have := hr.un; omega
  obtain ⟨xv, mv, u, m, ma, mp, rfl, ⟨a, p, sl, l, rfl⟩, hd, ⟨x, dx, g, rfl, hx, hg, hl⟩, ⟨xm, dxm, f, rfl, hm, hf, _, _⟩, mo, q⟩ := h
  refine ⟨_, (pss_cons (ps_if (pt_cmpR op_ne (pe_fld (pv 1) rfl) pe_str (nomark _))
      (pss_one (ps_ret pe_non))
      pss_nil)
    (pss_cons (ps_set (i := 2) sc_TakeUse_met.nd rfl (Or.inl rfl) (pe_callTy (call_dictT rfl) rfl T.z_dict bt_dict (pa_cons (pe_fld (pv 1) rfl) pa_nil)))
    (pss_cons (ps_set (i := 3) sc_TakeUse_met.nd rfl (Or.inl rfl) (pe_lst pa_nil))
    (pss_cons (ps_for PassesOwn.never rfl (pi_tup (pe_fld (pv 0) rfl)) (pg_name (i := 4) sc_TakeUse_met.nd rfl (Or.inl rfl))
      (pss_cons (ps_if (pt_cmp (pc_dnotin hu (pe_ix ix_tup (pv 4) pe_int (fun _ _ => rfl)) (pv 2)) rfl)
        (pss_one (ps_ret pe_non))
        pss_nil)
      (pss_one (ps_expr (pe_bm PySem.F.plainAttrs_list PySem.F.slot_list_append PySem.F.type_list_append mt_append (pv 3) (pa_cons (pe_tup (pa_cons (pe_dget hu (pv 2) (pe_ix ix_tup (pv 4) pe_int (fun _ _ => rfl)) (fun _ _ => rfl)) (pa_cons (pe_ix ix_tup (pv 4) pe_int (fun _ _ => rfl)) pa_nil))) pa_nil))))))
    (pss_one (ps_ret (pv 3))))))), ?_⟩
  have sl : sizeLine = 16777216 := sizeLine_eq
  refine ⟨_, rfl, xm, _, dxm, _, _, rfl, hm, T.cl_Make, T.n_Make_shape, fM_shape _ _ _ _, rfl, _, rfl, ?_⟩
  by_cases e : m.s = "rec"
  · rw [show decide (V.str (mkg m ma mp).s = V.str "rec") = true from decide_eq_true (congrArg V.str e)]
    obtain ⟨m, rfl⟩ := Mf.is_rcd e
    obtain ⟨t, xs, rfl, et, hs⟩ := im_nil hf
    obtain ⟨tg, ys, rfl, eg, hys⟩ := im_nil hg
    have ly := hys.length
    rw [List.length_map] at ly
    refine iteF ⟨_, rfl, xm, _, dxm, _, _, rfl, hm, T.cl_Make, T.n_Make_parts, fM_parts _ _ _ _, t, xs, _, rfl, et, im_ps hs, by rw [List.length_map]; have := mo.1; omega, fun d hd2 => ?_⟩
    have S1 := same_new hd2 (.dK (mergeK [] ((m.map pI).map kf)))
    have ed : (upd H d (.dK (mergeK [] ((m.map pI).map kf)))) d = some (.dK (mergeK [] ((m.map pI).map kf))) := upd_same
    generalize upd H d (.dK (mergeK [] ((m.map pI).map kf))) = H1 at S1 ed
    refine ⟨(by show 0 ≤ sizeLine; decide), fun fl hfl => ?_⟩
    have S2 := S1.trans (same_new hfl (.lst []))
    have fr : H fl = none := by
      cases h : H fl with
      | none => rfl
      | some o => rw [S1 _ _ h] at hfl; cases hfl
    have ed2 := same_new hfl (.lst []) _ _ ed
    refine ⟨_, rfl, x, _, dx, _, _, rfl, S2 _ _ hx, T.cl_TakeUse, T.n_TakeUse_fields, fU1F_fields _ _ _ _, tg, rfl, ⟨_, SqT.of (S2 _ _ eg)⟩, for_tup (xs := ys) (fun i σ H2 => ∃ (o : Option V) (zs : List V), σ = [some (.ref x), some (.ref xm), some (.ref d), some (.ref fl), o] ∧ Same H H2 ∧ H2 d = some (.dK (mergeK [] ((m.map pI).map kf))) ∧ H2 fl = some (.lst zs) ∧ zs.length = i ∧ Ims H2 zs (((l.take i).filterMap (fnd m)).map flD))
      ⟨none, [], rfl, S2, ed2, upd_same, rfl, .nil⟩ (fun i σ H2 _ ⟨_, _, _, S, _⟩ => SqT.of (S _ _ eg)) ?_ ?_⟩
    · rintro i v σ H2 hv ⟨o, zs, rfl, S, hd3, hf3, hzl, hz⟩
      have hi : i < ys.length := (List.getElem?_eq_some_iff.mp hv).1
      obtain ⟨pr, tt, e1, rfl, e2⟩ := ims_at (hys.mono (Same.tk S)) hv
      have ev := valV_merge m [] pr.1 mo.2
      have dg : ∀ {H5 : Hp}, H5 d = some (.dK (mergeK [] ((m.map pI).map kf))) → DGet H5 d (.str pr.1) (valV (mergeK [] ((m.map pI).map kf)) (Sum.inr pr.1)) := fun h5 => DGet.k (k := (Sum.inr pr.1 : Key)) h5
      refine ⟨_, rfl, tt, _, _, _, rfl, rfl, SqT.of e2, atI_nat (j := 0) rfl, _, rfl, d, _, rfl, dg hd3, _, rfl, ?_⟩
      cases ek : lk m pr.1 with
      | none =>
        rw [ev, ek]
        exact iteT (q .non _ S (by rw [meet, taken_none (List.mem_of_getElem? e1) ek]; exact .flat rfl))
      | some z =>
        replace ev : valV (mergeK [] ((m.map pI).map kf)) (Sum.inr pr.1) = some (.int z) := by rw [ev, ek]
        rw [ev]
        refine iteF ⟨_, rfl, .inl ⟨rfl, _, SqL.of hf3⟩, _, rfl, _, rfl, tt, _, _, _, rfl, rfl, SqT.of e2, atI_nat (j := 0) rfl, d, .int z, rfl, (by rw [← ev]; exact dg hd3), _, rfl, tt, _, _, _, rfl, rfl, SqT.of e2, atI_nat (j := 1) rfl, (by show 2 ≤ sizeLine; decide), fun t1 h1 => ?_⟩
        have S3 := same_new h1 (.tup [.int z, .int pr.2])
        have hf4 := S3 _ _ hf3
        refine ⟨fl, _, _, rfl, rfl, hf4, by omega, ?_⟩
        have nd : d ≠ fl := ne_of hd3 hf3 (fun z => nomatch z)
        refine ⟨_, zs ++ [.ref t1], rfl, same_upd (S.trans S3) fr _, by rw [upd_ne nd]; exact S3 _ _ hd3, upd_same, by rw [List.length_append, hzl]; rfl, ?_⟩
        rw [taken_take e1 ek, List.map_append]
        have k4 := fk_lst (o := .lst (zs ++ [.ref t1])) hf4
        exact ((hz.mono (Same.tk S3)).mono k4.tk).app (.cons (.tup (k4.tk _ _ upd_same) (.cons (.flat rfl) (.cons (.flat rfl) .nil))) .nil)
    · rintro σ H2 ⟨o, zs, rfl, S, hd3, hf3, hzl, hz⟩
      have lz := hz.length
      rw [List.length_map, ly, List.take_length] at lz
      rw [ly, List.take_length] at hz
      refine ⟨_, rfl, q _ _ S ?_⟩
      rw [meet, taken, if_pos (by omega)]
      exact .lst hf3 hz.das
  · rw [show decide (V.str (mkg m ma mp).s = V.str "rec") = false from ns e]
    exact iteT (q .non H (Same.refl _) (by rw [no_rcd e]; exact .flat rfl))
end
end K33.Internal
namespace K33.Internal
open PySem L2.Internal BO.Internal
seal L2.Internal.PE L2.Internal.PA L2.Internal.PS L2.Internal.PSs L2.Internal.PT L2.Internal.PI
theorem fB_mk (p0 p1 p2 p3 : Addr) (r : V) : putF "root" r (putF "flows" (.ref p3) (putF "uses" (.ref p2) (putF "makes" (.ref p1) (putF "points" (.ref p0) [])))) = fB p0 p1 p2 p3 r := by
  have h1 : ¬ ("points" : Str) = "root" := by decide +kernel
  have h2 : ¬ ("makes" : Str) = "root" := by decide +kernel
  have h3 : ¬ ("uses" : Str) = "root" := by decide +kernel
  have h4 : ¬ ("flows" : Str) = "root" := by decide +kernel
  have h5 : ¬ ("points" : Str) = "flows" := by decide +kernel
  have h6 : ¬ ("makes" : Str) = "flows" := by decide +kernel
  have h7 : ¬ ("uses" : Str) = "flows" := by decide +kernel
  have h8 : ¬ ("points" : Str) = "uses" := by decide +kernel
  have h9 : ¬ ("makes" : Str) = "uses" := by decide +kernel
  have h10 : ¬ ("points" : Str) = "makes" := by decide +kernel
  simp only [putF, fB, if_neg h1, if_neg h2, if_neg h3, if_neg h4, if_neg h5, if_neg h6, if_neg h7, if_neg h8, if_neg h9, if_neg h10]
theorem same_make {H : Hp} {x dx : Addr} {o : HO} (hx : H x = none) (hd : H dx = none) : Same H (upd (upd H dx (.own x)) x o) := fun b u e => by
  rw [upd_ne (ne_of_none e hx), upd_ne (ne_of_none e hd)]; exact e
theorem fB_points (p0 p1 p2 p3 : Addr) (r : V) : (fB p0 p1 p2 p3 r).lookup ("points" : Str) = some (.ref p0) := by
  unfold fB
  rw [List.lookup_cons, show (("points" : Str) == "points") = true by decide +kernel]
theorem fB_makes (p0 p1 p2 p3 : Addr) (r : V) : (fB p0 p1 p2 p3 r).lookup ("makes" : Str) = some (.ref p1) := by
  unfold fB
  rw [List.lookup_cons, show (("makes" : Str) == "points") = false by decide +kernel, List.lookup_cons, show (("makes" : Str) == "makes") = true by decide +kernel]
theorem fB_uses (p0 p1 p2 p3 : Addr) (r : V) : (fB p0 p1 p2 p3 r).lookup ("uses" : Str) = some (.ref p2) := by
  unfold fB
  rw [List.lookup_cons, show (("uses" : Str) == "points") = false by decide +kernel, List.lookup_cons, show (("uses" : Str) == "makes") = false by decide +kernel, List.lookup_cons, show (("uses" : Str) == "uses") = true by decide +kernel]
theorem fB_flows (p0 p1 p2 p3 : Addr) (r : V) : (fB p0 p1 p2 p3 r).lookup ("flows" : Str) = some (.ref p3) := by
  unfold fB
  rw [List.lookup_cons, show (("flows" : Str) == "points") = false by decide +kernel, List.lookup_cons, show (("flows" : Str) == "makes") = false by decide +kernel, List.lookup_cons, show (("flows" : Str) == "uses") = false by decide +kernel, List.lookup_cons, show (("flows" : Str) == "flows") = true by decide +kernel]
section
variable {P : Program} {w : World} {K : PySem.W.Frag} {mg : Str → Option Value} {base : Heap}
noncomputable def sp_Board___init__ (C : Addr) : Sp := fun vs H Q _ => ∃ (x dx : Addr), vs = [.ref x] ∧ H x = some (.ins C dx []) ∧ ∀ (p0 p1 p2 p3 : Addr) (H' : Hp), (∀ a ∈ [p0, p1, p2, p3], H a = none) → [p0, p1, p2, p3].Nodup → H' x = some (.ins C dx (fB p0 p1 p2 p3 (.int 0))) → Ls H' [p0, p1, p2, p3] [[], [], [], []] → (∀ b o, H b = some o → b ≠ x → H' b = some o) → Q .non H'
theorem ok_Board___init__ (T : Txt K mg) : FnOk P w K mg base CX0 1 T.a_Board___init__ T.fd_Board___init__ ["self"] (sp_Board___init__ T.a_Board) := by
  refine T.F_Board___init__.ok sc_Board___init__ (fun vs H Q E h => ?_) (fun cdv A outer s H vs Q E hr h => ?_)
  · obtain ⟨x, dx, rfl, _⟩ := h
    rfl
  obtain ⟨x, dx, rfl, hx, q⟩ := h
  refine ⟨_, (pss_cons (ps_fld (pv 0) (pe_lst pa_nil) rfl)
    (pss_cons (ps_fld (pv 0) (pe_lst pa_nil) rfl)
    (pss_cons (ps_fld (pv 0) (pe_lst pa_nil) rfl)
    (pss_cons (ps_fld (pv 0) (pe_lst pa_nil) rfl)
    (pss_one (ps_fld (pv 0) pe_int rfl)))))), ?_⟩
  have z0 : (0 : Nat) ≤ sizeLine := by decide
  refine ⟨z0, fun p0 h0 => ⟨_, rfl, x, _, dx, _, rfl, (by rw [upd_ne (ne_of_none hx h0)]; exact hx), T.cl_Board, T.n_Board_points, (by show 0 < 1000; decide), ?_⟩⟩
  refine ⟨z0, fun p1 h1 => ⟨_, rfl, x, _, dx, _, rfl, (by rw [upd_ne (ne_of_none upd_same h1)]; exact upd_same), T.cl_Board, T.n_Board_makes, (by show 1 < 1000; decide), ?_⟩⟩
  refine ⟨z0, fun p2 h2 => ⟨_, rfl, x, _, dx, _, rfl, (by rw [upd_ne (ne_of_none upd_same h2)]; exact upd_same), T.cl_Board, T.n_Board_uses, len_put (len_put (by show 0 < 998; decide)), ?_⟩⟩
  refine ⟨z0, fun p3 h3 => ⟨_, rfl, x, _, dx, _, rfl, (by rw [upd_ne (ne_of_none upd_same h3)]; exact upd_same), T.cl_Board, T.n_Board_flows, len_put (len_put (len_put (by show 0 < 997; decide))), ?_⟩⟩
  refine ⟨_, rfl, x, _, dx, _, rfl, upd_same, T.cl_Board, T.n_Board_root, len_put (len_put (len_put (len_put (by show 0 < 996; decide)))), ?_⟩
  have n0 : x ≠ p0 := ne_of_none hx h0
  have n1 : x ≠ p1 := ne_of_none upd_same h1
  have n2 : x ≠ p2 := ne_of_none upd_same h2
  have n3 : x ≠ p3 := ne_of_none upd_same h3
  have d10 : p0 ≠ p1 := ne_of_none (by rw [upd_ne (Ne.symm n0)]; exact upd_same) h1
  have d20 : p0 ≠ p2 := ne_of_none (by rw [upd_ne (Ne.symm n0), upd_ne d10, upd_ne (Ne.symm n0)]; exact upd_same) h2
  have d21 : p1 ≠ p2 := ne_of_none (by rw [upd_ne (Ne.symm n1)]; exact upd_same) h2
  have d30 : p0 ≠ p3 := ne_of_none (by rw [upd_ne (Ne.symm n0), upd_ne d20, upd_ne (Ne.symm n0), upd_ne d10, upd_ne (Ne.symm n0)]; exact upd_same) h3
  have d31 : p1 ≠ p3 := ne_of_none (by rw [upd_ne (Ne.symm n1), upd_ne d21, upd_ne (Ne.symm n1)]; exact upd_same) h3
  have d32 : p2 ≠ p3 := ne_of_none (by rw [upd_ne (Ne.symm n2)]; exact upd_same) h3
  rw [upd_ne (Ne.symm n1), upd_ne (Ne.symm d10)] at h1
  rw [upd_ne (Ne.symm n2), upd_ne (Ne.symm d21), upd_ne (Ne.symm n2), upd_ne (Ne.symm d20)] at h2
  rw [upd_ne (Ne.symm n3), upd_ne (Ne.symm d32), upd_ne (Ne.symm n3), upd_ne (Ne.symm d31), upd_ne (Ne.symm n3), upd_ne (Ne.symm d30)] at h3
  refine q p0 p1 p2 p3 _ ?_ ?_ ?_ ?_ ?_
  · intro a ha
    simp only [List.mem_cons, List.not_mem_nil, or_false] at ha
    rcases ha with e | e | e | e <;> rw [e] <;> assumption
  · simp only [List.nodup_cons, List.mem_cons, List.not_mem_nil, or_false, not_or]
    exact ⟨⟨d10, d20, d30⟩, ⟨d21, d31⟩, d32, fun z => z, List.nodup_nil⟩
  · rw [upd_same, fB_mk]
  · refine .cons ?_ (.cons ?_ (.cons ?_ (.cons ?_ .nil)))
    · rw [upd_ne (Ne.symm n0), upd_ne (Ne.symm n0), upd_ne d30, upd_ne (Ne.symm n0), upd_ne d20, upd_ne (Ne.symm n0), upd_ne d10, upd_ne (Ne.symm n0)]; exact upd_same
    · rw [upd_ne (Ne.symm n1), upd_ne (Ne.symm n1), upd_ne d31, upd_ne (Ne.symm n1), upd_ne d21, upd_ne (Ne.symm n1)]; exact upd_same
    · rw [upd_ne (Ne.symm n2), upd_ne (Ne.symm n2), upd_ne d32, upd_ne (Ne.symm n2)]; exact upd_same
    · rw [upd_ne (Ne.symm n3), upd_ne (Ne.symm n3)]; exact upd_same
  · intro b o e hb
    rw [upd_ne hb, upd_ne hb, upd_ne (ne_of_none e h3), upd_ne hb, upd_ne (ne_of_none e h2), upd_ne hb, upd_ne (ne_of_none e h1), upd_ne hb, upd_ne (ne_of_none e h0)]
    exact e
noncomputable def sp_Board_point (C : Addr) : Sp := fun vs H Q _ => ∃ (x dx p0 p1 p2 p3 : Addr) (r v : V) (xs : List V), vs = [.ref x, v] ∧ H x = some (.ins C dx (fB p0 p1 p2 p3 r)) ∧ H p0 = some (.lst xs) ∧ xs.length < sizeLine ∧ Q (.int xs.length) (upd H p0 (.lst (xs ++ [v])))
theorem ok_Board_point (T : Txt K mg) : FnOk P w K mg base CX0 1 T.a_Board_point T.fd_Board_point ["self", "place"] (sp_Board_point T.a_Board) := by
  refine T.F_Board_point.ok sc_Board_point (fun vs H Q E h => ?_) (fun cdv A outer s H vs Q E hr h => ?_)
  · obtain ⟨x, dx, p0, p1, p2, p3, r, v, xs, rfl, _⟩ := h
    rfl
  obtain ⟨x, dx, p0, p1, p2, p3, r, v, xs, rfl, hx, h0, hl, q⟩ := h
  refine ⟨_, (pss_cons (ps_expr (pe_bm PySem.F.plainAttrs_list PySem.F.slot_list_append PySem.F.type_list_append mt_append (pe_fld (pv 0) rfl) (pa_cons (pv 1) pa_nil)))
    (pss_one (ps_ret (pe_op op_sub (pe_callB call_len_seq rfl T.z_len bt_len (pa_cons (pe_fld (pv 0) rfl) pa_nil)) pe_int)))), ?_⟩
  refine ⟨_, rfl, x, _, dx, _, _, rfl, hx, T.cl_Board, T.n_Board_points, fB_points _ _ _ _ _, .inl ⟨rfl, _, SqL.of h0⟩, _, rfl, p0, _, _, rfl, rfl, h0, hl, ?_⟩
  have hx2 : (upd H p0 (.lst (xs ++ [v]))) x = some (.ins T.a_Board dx (fB p0 p1 p2 p3 r)) := by rw [upd_ne (ne_of hx h0 (fun z => nomatch z))]; exact hx
  refine ⟨_, rfl, x, _, dx, _, _, rfl, hx2, T.cl_Board, T.n_Board_points, fB_points _ _ _ _ _, p0, _, rfl, .inl (SqL.of upd_same), _, _, rfl, rfl, ?_⟩
  show Q (V.int (((xs ++ [v]).length : Int) - 1)) _
  rw [List.length_append, show (((xs.length + [v].length : Nat) : Int) - 1) = (xs.length : Int) by simp]
  exact q
noncomputable def sp_Board_make (C M : Addr) : Sp := fun vs H Q _ => ∃ (x dx p0 p1 p2 p3 : Addr) (r s f a p : V) (xs : List V), vs = [.ref x, s, f, a, p] ∧ H x = some (.ins C dx (fB p0 p1 p2 p3 r)) ∧ H p1 = some (.lst xs) ∧ xs.length < sizeLine ∧ ∀ m dm, H m = none → H dm = none → Q .non (upd (upd (upd H dm (.own m)) m (.ins M dm (fM s f a p))) p1 (.lst (xs ++ [.ref m])))
theorem ok_Board_make (T : Txt K mg) : FnOk P w K mg base CX0 3 T.a_Board_make T.fd_Board_make ["self", "shape", "parts", "at", "place"] (sp_Board_make T.a_Board T.a_Make) := by
  have G_Make___init__ := ok_Make___init__ (P := P) (w := w) (base := base) T
  refine T.F_Board_make.ok sc_Board_make (fun vs H Q E h => ?_) (fun cdv A outer s H vs Q E hr h => ?_)
  · obtain ⟨x, dx, p0, p1, p2, p3, r, s, f, a, p, xs, rfl, _⟩ := h
    rfl
  obtain ⟨x, dx, p0, p1, p2, p3, r, sh, f, a, p, xs, rfl, hx, h0, hl, q⟩ := h
  refine ⟨_, (pss_one (ps_expr (pe_bm PySem.F.plainAttrs_list PySem.F.slot_list_append PySem.F.type_list_append mt_append (pe_fld (pv 0) rfl) (pa_cons (pe_make T.mk_Make G_Make___init__ (hr.mono (by decide)) rfl T.m_Make T.b_Make___init__ .nil pass0 (pa_cons (pv 1) (pa_cons (pv 2) (pa_cons (pv 3) (pa_cons (pv 4) pa_nil))))) pa_nil)))), ?_⟩
  refine ⟨_, rfl, x, _, dx, _, _, rfl, hx, T.cl_Board, T.n_Board_makes, fB_makes _ _ _ _ _, .inl ⟨rfl, _, SqL.of h0⟩, _, rfl, _, rfl, _, rfl, _, rfl, fun m dm hm hdm nm => ?_⟩
  refine ⟨m, dm, _, _, _, _, rfl, upd_same, rfl, ?_⟩
  rw [upd_upd]
  have h1 : (upd (upd H dm (.own m)) m (.ins T.a_Make dm (fM sh f a p))) p1 = some (.lst xs) := same_make hm hdm _ _ h0
  exact ⟨p1, _, _, rfl, rfl, h1, hl, q m dm hm hdm⟩
noncomputable def sp_Board_use (C : Addr) : Sp := fun vs H Q _ => ∃ (x dx p0 p1 p2 p3 : Addr) (r v : V) (xs : List V), vs = [.ref x, v] ∧ H x = some (.ins C dx (fB p0 p1 p2 p3 r)) ∧ H p2 = some (.lst xs) ∧ xs.length < sizeLine ∧ Q .non (upd H p2 (.lst (xs ++ [v])))
theorem ok_Board_use (T : Txt K mg) : FnOk P w K mg base CX0 1 T.a_Board_use T.fd_Board_use ["self", "one"] (sp_Board_use T.a_Board) := by
  refine T.F_Board_use.ok sc_Board_use (fun vs H Q E h => ?_) (fun cdv A outer s H vs Q E hr h => ?_)
  · obtain ⟨x, dx, p0, p1, p2, p3, r, v, xs, rfl, _⟩ := h
    rfl
  obtain ⟨x, dx, p0, p1, p2, p3, r, v, xs, rfl, hx, h0, hl, q⟩ := h
  refine ⟨_, (pss_one (ps_expr (pe_bm PySem.F.plainAttrs_list PySem.F.slot_list_append PySem.F.type_list_append mt_append (pe_fld (pv 0) rfl) (pa_cons (pv 1) pa_nil)))), ?_⟩
  exact ⟨_, rfl, x, _, dx, _, _, rfl, hx, T.cl_Board, T.n_Board_uses, fB_uses _ _ _ _ _, .inl ⟨rfl, _, SqL.of h0⟩, _, rfl, p2, _, _, rfl, rfl, h0, hl, q⟩
noncomputable def sp_Board_flow (C : Addr) : Sp := fun vs H Q _ => ∃ (x dx p0 p1 p2 p3 : Addr) (r v u : V) (xs : List V), vs = [.ref x, v, u] ∧ H x = some (.ins C dx (fB p0 p1 p2 p3 r)) ∧ H p3 = some (.lst xs) ∧ xs.length < sizeLine ∧ ∀ t, H t = none → Q .non (upd (upd H t (.tup [v, u])) p3 (.lst (xs ++ [.ref t])))
theorem ok_Board_flow (T : Txt K mg) : FnOk P w K mg base CX0 1 T.a_Board_flow T.fd_Board_flow ["self", "p", "q"] (sp_Board_flow T.a_Board) := by
  refine T.F_Board_flow.ok sc_Board_flow (fun vs H Q E h => ?_) (fun cdv A outer s H vs Q E hr h => ?_)
  · obtain ⟨x, dx, p0, p1, p2, p3, r, v, u, xs, rfl, _⟩ := h
    rfl
  obtain ⟨x, dx, p0, p1, p2, p3, r, v, u, xs, rfl, hx, h0, hl, q⟩ := h
  refine ⟨_, (pss_one (ps_expr (pe_bm PySem.F.plainAttrs_list PySem.F.slot_list_append PySem.F.type_list_append mt_append (pe_fld (pv 0) rfl) (pa_cons (pe_tup (pa_cons (pv 1) (pa_cons (pv 2) pa_nil))) pa_nil)))), ?_⟩
  refine ⟨_, rfl, x, _, dx, _, _, rfl, hx, T.cl_Board, T.n_Board_flows, fB_flows _ _ _ _ _, .inl ⟨rfl, _, SqL.of h0⟩, _, rfl, _, rfl, (by show 2 ≤ sizeLine; decide), fun t ht => ?_⟩
  exact ⟨p3, _, _, rfl, rfl, same_new ht _ _ _ h0, hl, q t ht⟩
end
end K33.Internal
namespace K33.Internal
open PySem L2.Internal BO.Internal
seal L2.Internal.PE L2.Internal.PA L2.Internal.PS L2.Internal.PSs L2.Internal.PT L2.Internal.PI
theorem for_enum {K : PySem.W.Frag} {a : Addr} {xs : List V} {g : TG} {tb : TS} {D : Ends} {σ : St} {H : Hp} (Pv : Nat → St → Hp → Prop) (h0 : Pv 0 σ H) (hl : ∀ i σ H, i ≤ xs.length → Pv i σ H → SqL K H a xs)
    (hs : ∀ (i : Nat) (x : V) (σ : St) (H : Hp) (T : Addr), xs[i]? = some x → Pv i σ H → H T = none → g (.ref T) σ (upd H T (.tup [.int (i : Int), x])) fun σ2 H2 => tb { D with nx := Pv (i + 1), ct := Pv (i + 1), bk := D.nx } σ2 H2) (hd : ∀ σ H, Pv xs.length σ H → D.nx σ H) :
    ∃ W : Nat → Nat → St → Hp → Prop, (∃ m, W 0 m σ H) ∧ ∀ i m σ H, W i m σ H →
      ((Ite K a).stop i H ∧ D.nx σ H) ∨ ((Ite K a).go i H ∧ ∃ N : St → Hp → Prop, (∀ σ' H', N σ' H' → ∃ m', m' < m ∧ W (i + 1) m' σ' H') ∧ ∀ x H', (Ite K a).yld i H x H' → g x σ H' fun σ2 H2 => tb { D with nx := N, ct := N, bk := D.nx } σ2 H2) := by
  refine ⟨fun i m σ H => m = xs.length - i ∧ i ≤ xs.length ∧ Pv i σ H, ⟨xs.length, by simp, Nat.zero_le _, h0⟩, ?_⟩
  rintro i m σ H ⟨rfl, hi, p⟩
  have q := hl i σ H hi p
  by_cases hlt : i < xs.length
  · refine .inr ⟨⟨xs, xs[i], q, by simp [hlt]⟩, Pv (i + 1), fun σ' H' p' => ⟨xs.length - (i + 1), by omega, rfl, hlt, p'⟩, fun v H' y => ?_⟩
    obtain ⟨T, x, rfl, hT, rfl, hx⟩ := y
    exact hs i x σ H T (hx xs q) p hT
  · have e : i = xs.length := by omega
    subst e
    exact .inl ⟨⟨xs, q, rfl⟩, hd σ H p⟩
theorem lk_hd {f : Str} {v : V} {r : List (Str × V)} : List.lookup f ((f, v) :: r) = some v := by
  rw [List.lookup_cons, show (f == f) = true by simp]
theorem lk_tl {f g : Str} {v : V} {r : List (Str × V)} (h : (f == g) = false) : List.lookup f ((g, v) :: r) = List.lookup f r := by
  rw [List.lookup_cons, h]
theorem putF_app {f : Str} {v : V} : ∀ {fs : List (Str × V)} (ns : List Str), fs.map Prod.fst = ns → f ∉ ns → putF f v fs = fs ++ [(f, v)]
  | [], _, _, _ => rfl
  | p :: t, _, rfl, h => by
    rw [List.map_cons, List.mem_cons, not_or] at h
    have : ¬ p.1 = f := fun z => h.1 z.symm
    simp only [putF, if_neg this, List.cons_append]
    rw [putF_app _ rfl h.2]
noncomputable def fS (b ua r bd kn g h : Addr) : List (Str × V) := [("board", .ref b), ("uses_at", .ref ua), ("rows", .ref r), ("bads", .ref bd), ("known", .ref kn), ("goes", .ref g), ("heres", .ref h)]
noncomputable def fL (r bd : Addr) : List (Str × V) := [("rows", .ref r), ("bads", .ref bd)]
noncomputable def _root_.BO.Internal.Us.at : Us → Int
  | .num a _ _ => a
  | .call a _ _ _ _ => a
  | .take a _ _ _ => a
  | .case a _ _ _ => a
  | .row a _ _ _ => a
noncomputable def atU (us : List Us) (j : Nat) : Option Int := (us[j]?).map Us.at
section
variable {P : Program} {w : World} {K : PySem.W.Frag} {mg : Str → Option Value} {base : Heap}
theorem use_at (T : Txt K mg) {H : Hp} {v : V} {u : Us} (h : UsAt (cs T) H v u) : ∃ x C dx fs, v = .ref x ∧ H x = some (.ins C dx fs) ∧ Cls K C ∧ NoAttr K C "at" ∧ fs.lookup ("at" : Str) = some (.int u.at) := by
  cases u with
  | num a p s => obtain ⟨x, dx, rfl, e⟩ := h; exact ⟨x, _, dx, _, rfl, e, T.cl_NumUse, T.n_NumUse_at, fU_at _ _ _⟩
  | call a p s y z => obtain ⟨x, dx, rfl, e⟩ := h; exact ⟨x, _, dx, _, rfl, e, T.cl_CallUse, T.n_CallUse_at, fU2_at _ _ _ _ _⟩
  | take a p s l => obtain ⟨x, dx, f, rfl, e, _⟩ := h; exact ⟨x, _, dx, _, rfl, e, T.cl_TakeUse, T.n_TakeUse_at, fU1F_at _ _ _ _⟩
  | case a p s l => obtain ⟨x, dx, f, rfl, e, _⟩ := h; exact ⟨x, _, dx, _, rfl, e, T.cl_CaseUse, T.n_CaseUse_at, fU1A_at _ _ _ _⟩
  | row a p s y => obtain ⟨x, dx, rfl, e⟩ := h; exact ⟨x, _, dx, _, rfl, e, T.cl_RowUse, T.n_RowUse_at, fU1O_at _ _ _ _⟩
noncomputable def ixv (us : List Us) (n : Nat) (p : Int) : List V := (ixn (atU us) p n).map V.int
theorem ixv_put {us : List Us} {i : Nat} {u : Us} (h : us[i]? = some u) : putf (ixv us i) u.at (.int (i : Int)) = ixv us (i + 1) := by
  funext q
  have e : atU us i = some u.at := by rw [atU, h]; rfl
  unfold putf ixv
  rw [ixn_succ, e]
  by_cases z : q = u.at
  · rw [if_pos z, if_pos (by rw [z]), z, List.map_append]; rfl
  · rw [if_neg z, if_neg (fun y => z (Option.some.inj y).symm), List.append_nil]
noncomputable def sp_uses_by_point (c : Cs) : Sp := fun vs H Q _ => ∃ (b dx p0 p1 p2 p3 : Addr) (r : V) (uv : List V) (us : List Us), vs = [.ref b] ∧ H b = some (.ins c.B dx (fB p0 p1 p2 p3 r)) ∧ H p2 = some (.lst uv) ∧ All2 (UsAt c H) uv us ∧ us.length ≤ 1000 ∧
  ∀ d L H', Same H H' → H d = none → (∀ a ∈ L, H a = none ∧ ∃ o, H' a = some o) → DL H' d L (ixv us us.length) us.length → Q (.ref d) H'
theorem ok_uses_by_point (T : Txt K mg) : FnOk P w K mg base CX0 1 T.a_uses_by_point T.fd_uses_by_point ["board"] (sp_uses_by_point (cs T)) := by
  refine T.F_uses_by_point.ok sc_uses_by_point (fun vs H Q E h => ?_) (fun cdv A outer s H vs Q E hr h => ?_)
  · obtain ⟨b, dx, p0, p1, p2, p3, r, uv, us, rfl, _⟩ := h
    rfl
  obtain ⟨b, dx, p0, p1, p2, p3, r, uv, us, rfl, hb, h2, hU, hn, q⟩ := h
  refine ⟨_, (pss_cons (ps_set (i := 1) sc_uses_by_point.nd rfl (Or.inl rfl) pe_dnewK)
    (pss_cons (ps_for PassesOwn.never rfl (pi_enum rfl T.z_enumerate (pa_cons (pec_fld T.cl_Board T.n_Board_uses (cv 0)) pa_nil)) (pg_tup rfl (pgs_cons (pg_name (i := 2) sc_uses_by_point.nd rfl (Or.inl rfl)) (pgs_cons (pg_name (i := 3) sc_uses_by_point.nd rfl (Or.inl rfl)) pgs_nil)))
      (pss_one (ps_expr (pec_app (pe_bm PySem.F.plainAttrs_list PySem.F.slot_list_append PySem.F.type_list_append mt_append (PE.mono (pe_dsetd (cv 1) (pe_fld (cv 3) rfl) (pe_lst pa_nil) ⟨rfl, rfl, rfl, rfl⟩)) (pa_cons (PE.mono (cv 2)) pa_nil))))))
    (pss_one (ps_ret (cv 1))))), ?_⟩
  have sl : sizeLine = 16777216 := sizeLine_eq
  intro d hd
  have s1 := same_new hd (.dK [])
  refine ⟨_, ⟨dx, _, s1 _ _ hb, fB_uses _ _ _ _ _⟩, p2, rfl, ⟨_, SqL.of (s1 _ _ h2)⟩, for_enum (xs := uv) (fun i σ H2 => ∃ (o2 o3 : Option V) (L : List Addr), σ = [some (.ref b), some (.ref d), o2, o3] ∧ Same H H2 ∧ (∀ a ∈ L, H a = none ∧ ∃ o, H2 a = some o) ∧ DL H2 d L (ixv us i) i)
    ⟨none, none, [], rfl, s1, fun a ha => absurd ha (List.not_mem_nil), [], upd_same, Nat.zero_le _, fun p _ => rfl, fun p v e => (by cases e), fun p q v e => (by cases e)⟩ (fun i σ H2 _ ⟨_, _, _, _, S, _⟩ => SqL.of (S _ _ h2)) ?_ ?_⟩
  · rintro i x σ H2 t hx ⟨o2, o3, L, rfl, S, hL, W⟩ ht
    have hi := (List.getElem?_eq_some_iff.mp hx).1
    have hlen := hU.length
    obtain ⟨u, hu', hux⟩ := hU.get hx
    have sT := same_new ht (.tup [.int (i : Int), x])
    refine ⟨t, _, rfl, SqT.of upd_same, rfl, _, _, rfl, _, _, rfl, rfl, ?_⟩
    have W1 : DL (upd H2 t (.tup [.int (i : Int), x])) d L (ixv us i) i := W.same fun a o e _ => sT _ _ e
    have S1 : Same H (upd H2 t (.tup [.int (i : Int), x])) := S.trans sT
    generalize upd H2 t (.tup [.int (i : Int), x]) = H3 at W1 S1 sT ⊢
    obtain ⟨xu, C, dxu, fs, rfl, exu, cl, na, el⟩ := use_at T (hux.mono (Same.fk S1))
    refine ⟨d, rfl, .inl (by obtain ⟨kvs, e, _⟩ := W1; exact ⟨kvs, .inl e⟩), xu, C, dxu, fs, _, rfl, exu, cl, na, el, (by show 0 ≤ sizeLine; decide), fun z hz => ?_⟩
    obtain ⟨kvs, ek, hl, c1, c2⟩ := W1.sda u.at hz
    have fin : ∀ (l : Addr) (H4 : Hp), Sda H3 d L (ixv us i) i u.at l H4 → ∃ xs, H4 l = some (.lst xs) ∧ xs.length < sizeLine ∧ ∃ (o2 o3 : Option V) (L : List Addr), [some (V.ref b), some (V.ref d), some (V.int (i : Int)), some (V.ref xu)] = [some (.ref b), some (.ref d), o2, o3] ∧ Same H (upd H4 l (.lst (xs ++ [V.int (i : Int)]))) ∧ (∀ a ∈ L, H a = none ∧ ∃ o, (upd H4 l (.lst (xs ++ [V.int (i : Int)]))) a = some o) ∧ DL (upd H4 l (.lst (xs ++ [V.int (i : Int)]))) d L (ixv us (i + 1)) (i + 1) := fun l H4 A => by
      obtain ⟨L', hL', W'⟩ := A.fin H4 (.int (i : Int)) (Same.refl _)
      have nl : H l = none := by
        rcases A.own with m | m
        · exact (hL l m).1
        · cases e : H l with
          | none => rfl
          | some o => rw [S1 _ _ e] at m; cases m
      have dn : ∀ a o, H a = some o → a ≠ d := fun a o e z => by rw [z, hd] at e; cases e
      refine ⟨_, A.here, ?_, _, _, L', rfl, fun a o e => ?_, fun a ha => ?_, ?_⟩
      · unfold ixv
        rw [List.length_map]
        have := ixn_len (A := atU us) (p := u.at) (n := i)
        omega
      · rw [upd_ne (fun z => by rw [z, nl] at e; cases e)]
        exact A.fr a o (S1 _ _ e) (dn a o e)
      · by_cases y : a = l
        · rw [y]; exact ⟨nl, _, upd_same⟩
        · rcases hL' a ha with m | m
          · obtain ⟨o, eo⟩ := (hL a m).2
            by_cases z : a = d
            · rw [z]; obtain ⟨kv, ekv, _⟩ := W'; exact ⟨hd, _, ekv⟩
            · exact ⟨(hL a m).1, o, by rw [upd_ne y]; exact A.fr a o (sT _ _ eo) z⟩
          · exact absurd m y
      · rw [ixv_put hu'] at W'
        exact W'
    refine ⟨kvs, Sum.inl u.at, ek, rfl, by omega, fun v hv => ?_, fun hnone => ?_⟩
    · obtain ⟨l, rfl, A⟩ := c1 v hv
      exact ⟨⟨_, A.here⟩, fin l _ A⟩
    · have A := c2 hnone
      exact ⟨⟨_, A.here⟩, fin z _ A⟩
  · rintro σ H2 ⟨o2, o3, L, rfl, S, hL, W⟩
    rw [hU.length] at W
    exact q d L H2 S hd hL W
noncomputable def sp_Log___init__ (C : Addr) : Sp := fun vs H Q _ => ∃ (x dx r bd : Addr), vs = [.ref x, .ref r, .ref bd] ∧ H x = some (.ins C dx []) ∧ Q .non (upd H x (.ins C dx (fL r bd)))
theorem ok_Log___init__ (T : Txt K mg) : FnOk P w K mg base CX0 1 T.a_Log___init__ T.fd_Log___init__ ["self", "rows", "bads"] (sp_Log___init__ T.a_Log) := by
  refine T.F_Log___init__.ok sc_Log___init__ (fun vs H Q E h => ?_) (fun cdv A outer s H vs Q E hr h => ?_)
  · obtain ⟨x, dx, r, bd, rfl, _⟩ := h
    rfl
  obtain ⟨x, dx, r, bd, rfl, hx, q⟩ := h
  refine ⟨_, (pss_cons (psc_fld T.cl_Log T.n_Log_rows (ps_fld (PE.mono (cv 0)) (PE.mono (cv 1)) rfl))
    (pss_one (psc_fld T.cl_Log T.n_Log_bads (ps_fld (PE.mono (cv 0)) (PE.mono (cv 2)) rfl)))), ?_⟩
  refine ⟨dx, _, hx, (by show 0 < 1000; decide), dx, _, upd_same, (by show 1 < 1000; decide), ?_⟩
  rw [upd_upd, putF_app ["rows"] rfl (by decide +kernel)]
  exact q
end
end K33.Internal
namespace K33.Internal
open PySem L2.Internal BO.Internal
seal L2.Internal.PE L2.Internal.PA L2.Internal.PS L2.Internal.PSs L2.Internal.PT L2.Internal.PI
noncomputable def InR (N x : Int) : Prop := 0 ≤ x ∧ x < N
noncomputable def _root_.BO.Internal.Mf.rng (N : Int) : Mf → Prop
  | .fn x y => InR N x ∧ InR N y
  | .rcd l => ∀ p ∈ l, InR N p.2
  | .tag _ x => InR N x
  | .row x => InR N x
  | _ => True
noncomputable def _root_.BO.Internal.Us.rng (N : Int) : Us → Prop
  | .call _ _ _ x y => InR N x ∧ InR N y
  | .take _ _ _ l => ∀ p ∈ l, InR N p.2
  | .case _ _ _ l => ∀ p ∈ l, InR N p.2
  | .row _ _ _ x => InR N x
  | .num _ _ _ => True
theorem lk_rng {N : Int} : ∀ {l : List (Str × Int)} {w : Str} {x : Int}, (∀ p ∈ l, InR N p.2) → lk l w = some x → InR N x
  | [], _, _, _, e => by cases e
  | p :: t, w, x, h, e => by
    rw [lk] at e
    by_cases z : p.1 = w
    · rw [if_pos z] at e; cases e; exact h p (by simp)
    · rw [if_neg z] at e; exact lk_rng (fun q hq => h q (by simp [hq])) e
theorem meet_rng {N : Int} {u : Us} {m : Mf} {l : List (Int × Int)} (hu : u.rng N) (hm : m.rng N) (e : meet u m = some l) : ∀ p ∈ l, InR N p.1 ∧ InR N p.2 := by
  cases u with
  | num a p s => cases m <;> cases e; simp
  | call a p s x y =>
    cases m <;> cases e
    intro p hp
    simp only [List.mem_cons, List.not_mem_nil, or_false] at hp
    rcases hp with rfl | rfl
    · exact ⟨hu.1, hm.1⟩
    · exact ⟨hm.2, hu.2⟩
  | take a p s l' =>
    cases m <;> try (cases e; done)
    rename_i k
    change taken l' k = some l at e
    unfold taken at e
    split at e
    · cases e
      intro p hp
      obtain ⟨q, hq, e⟩ := List.mem_filterMap.mp hp
      unfold fnd at e
      cases z : lk k q.1 with
      | none => rw [z] at e; cases e
      | some x => rw [z] at e; cases e; exact ⟨lk_rng hm z, hu q hq⟩
    · cases e
  | case a p s l' =>
    cases m <;> try (cases e; done)
    rename_i w x
    change (lk l' w).map _ = some l at e
    cases z : lk l' w with
    | none => rw [z] at e; cases e
    | some y =>
      rw [z] at e
      cases e
      intro p hp
      simp only [List.mem_cons, List.not_mem_nil, or_false] at hp
      subst hp
      exact ⟨hm, lk_rng hu z⟩
  | row a p s x =>
    cases m <;> cases e
    intro p hp
    simp only [List.mem_cons, List.not_mem_nil, or_false] at hp
    subst hp
    exact ⟨hm, hu⟩
structure Mk3 where
  f : Mf
  a : Int
  p : Int
noncomputable def M3 (c : Cs) (H : Hp) (v : V) (m : Mk3) : Prop := MkAt c H v (mkg m.f m.a m.p)
structure Dat (N : Int) (ms : List Mk3) (us : List Us) (fs : List (Int × Int)) : Prop where
  n0 : 0 < N
  n1 : N ≤ 64
  lm : ms.length ≤ 64
  lu : us.length ≤ 64
  lf : fs.length ≤ 64
  mo : ∀ m ∈ ms, m.f.ok ∧ m.f.rng N ∧ InR N m.a
  uo : ∀ u ∈ us, u.dist ∧ u.rng N
  fo : ∀ p ∈ fs, InR N p.1 ∧ InR N p.2
structure Sx where
  s : Addr
  dx : Addr
  b : Addr
  bx : Addr
  p0 : Addr
  p1 : Addr
  p2 : Addr
  p3 : Addr
  ua : Addr
  r : Addr
  bd : Addr
  kn : Addr
  g : Addr
  h : Addr
  Lu : List Addr
structure Stat (c : Cs) (S : Addr) (H0 : Hp) (x : Sx) (ms : List Mk3) (us : List Us) : Prop where
  s : H0 x.s = some (.ins S x.dx (fS x.b x.ua x.r x.bd x.kn x.g x.h))
  b : H0 x.b = some (.ins c.B x.bx (fB x.p0 x.p1 x.p2 x.p3 (.int 0)))
  m : ∃ mv, H0 x.p1 = some (.lst mv) ∧ All2 (M3 c H0) mv ms
  u : ∃ uv, H0 x.p2 = some (.lst uv) ∧ All2 (UsAt c H0) uv us
  ua : DL H0 x.ua x.Lu (ixv us us.length) us.length
  r : ∃ l, H0 x.r = some (.lst l)
  bd : ∃ l, H0 x.bd = some (.lst l)
  kn : ∃ l, H0 x.kn = some (.dT l)
  g : ∃ l, H0 x.g = some (.dK l)
  h : ∃ l, H0 x.h = some (.dK l)
  n1 : x.r ≠ x.bd
  n2 : x.g ≠ x.h
  n3 : x.ua ≠ x.g
  n4 : x.ua ≠ x.h
  n5 : x.p1 ≠ x.r
  n6 : x.p1 ≠ x.bd
  n7 : x.p2 ≠ x.r
  n8 : x.p2 ≠ x.bd
  n9 : ∀ a ∈ x.Lu, a ≠ x.r ∧ a ≠ x.bd
structure Two (H0 H : Hp) (d e : Addr) (N M : Int → List (Int × Int)) (k : Nat) (Ld Le : List Addr) (fd fe : Int → List V) : Prop where
  d : DL H d Ld fd k
  e : DL H e Le fe k
  d0 : ∀ a ∈ Ld, H0 a = none ∧ ∃ o, H a = some o
  e0 : ∀ a ∈ Le, H0 a = none ∧ ∃ o, H a = some o
  ap : ∀ a ∈ Ld, a ∉ Le
  dv : ∀ p, (fd p).length ≤ k ∧ Ims H (fd p) ((N p).map flD)
  ev : ∀ p, (fe p).length ≤ k ∧ Ims H (fe p) ((M p).map flD)
theorem Two.swap {H0 H : Hp} {d e : Addr} {N M : Int → List (Int × Int)} {k : Nat} {Ld Le : List Addr} {fd fe : Int → List V} (W : Two H0 H d e N M k Ld Le fd fe) : Two H0 H e d M N k Le Ld fe fd :=
  ⟨W.e, W.d, W.e0, W.d0, fun a h1 h2 => W.ap a h2 h1, W.ev, W.dv⟩
theorem Two.frame {H0 H H' : Hp} {d e : Addr} {N M : Int → List (Int × Int)} {k : Nat} {Ld Le : List Addr} {fd fe : Int → List V} (W : Two H0 H d e N M k Ld Le fd fe) (s : ∀ a o, H a = some o → (a = d ∨ a = e ∨ H0 a = none) → H' a = some o) (tk : TK H H') : Two H0 H' d e N M k Ld Le fd fe :=
  ⟨W.d.same fun a o h m => s a o h (m.elim .inl fun m => .inr (.inr (W.d0 a m).1)), W.e.same fun a o h m => s a o h (m.elim (fun z => .inr (.inl z)) fun m => .inr (.inr (W.e0 a m).1)),
    fun a m => ⟨(W.d0 a m).1, let ⟨o, h⟩ := (W.d0 a m).2; ⟨o, s a o h (.inr (.inr (W.d0 a m).1))⟩⟩, fun a m => ⟨(W.e0 a m).1, let ⟨o, h⟩ := (W.e0 a m).2; ⟨o, s a o h (.inr (.inr (W.e0 a m).1))⟩⟩, W.ap,
    fun p => ⟨(W.dv p).1, (W.dv p).2.mono tk⟩, fun p => ⟨(W.ev p).1, (W.ev p).2.mono tk⟩⟩
structure Go2 (H0 H : Hp) (d e : Addr) (N M : Int → List (Int × Int)) (k : Nat) (p : Int) (l : Addr) (H1 : Hp) : Prop where
  l0 : H0 l = none
  fr : ∀ a o, H a = some o → a ≠ d → H1 a = some o
  go : ∃ xs, H1 l = some (.lst xs) ∧ xs.length ≤ k ∧ ∀ n q t (N2 : Int → List (Int × Int)), (∀ p2, N2 p2 = if p2 = p then N p ++ [(n, q)] else N p2) → H1 t = none → ∃ Ld Le fd fe, Two H0 (upd (upd H1 t (.tup [.int n, .int q])) l (.lst (xs ++ [.ref t]))) d e N2 M (k + 1) Ld Le fd fe
theorem Two.add {H0 H : Hp} {d e : Addr} {N M : Int → List (Int × Int)} {k : Nat} {Ld Le : List Addr} {fd fe : Int → List V} (W : Two H0 H d e N M k Ld Le fd fe) (p : Int) {z : Addr} (hz : H z = none) (n0 : ∀ a, H a = none → H0 a = none) (d1 : ∃ o, H0 d = some o) (e1 : ∃ o, H0 e = some o) (de : d ≠ e) :
    ∃ kvs, (upd H z (.lst [])) d = some (.dK kvs) ∧ kvs.length ≤ k ∧ (∀ v, valV kvs (.inl p) = some v → ∃ l, v = .ref l ∧ Go2 H0 H d e N M k p l (upd H z (.lst []))) ∧
      (valV kvs (.inl p) = none → Go2 H0 H d e N M k p z (upd (upd H z (.lst [])) d (.dK (putK kvs (.inl p) (.ref z))))) := by
  have key : ∀ (l : Addr) (H1 : Hp), Sda H d Ld fd k p l H1 → (∃ y, H1 d = some (.dK y)) → Go2 H0 H d e N M k p l H1 := fun l H1 A ⟨y, hd1⟩ => by
    have l0 : H0 l = none := by
      rcases A.own with m | m
      · exact (W.d0 l m).1
      · exact n0 l m
    refine ⟨l0, A.fr, fd p, A.here, (W.dv p).1, fun n q t N2 hq ht => ?_⟩
    obtain ⟨L', hL', D'⟩ := A.fin (upd H1 t (.tup [.int n, .int q])) (.ref t) (same_new ht _)
    have tl : t ≠ l := fun h => by rw [h, A.here] at ht; cases ht
    have mv : ∀ a o, H a = some o → a ≠ d → a ≠ l → (upd (upd H1 t (.tup [.int n, .int q])) l (.lst (fd p ++ [.ref t]))) a = some o := fun a o h n1 n2 => by
      have := A.fr a o h n1
      rw [upd_ne n2, upd_ne (ne_of_none this ht)]
      exact this
    have nd : ∀ a, H0 a = none → a ≠ d := fun a h z => by obtain ⟨o, h1⟩ := d1; rw [z, h1] at h; cases h
    have el : ∀ a, a ∈ Le → a ≠ l := fun a m z => by
      rcases A.own with w | w
      · exact W.ap l w (z ▸ m)
      · obtain ⟨o, h⟩ := (W.e0 a m).2; rw [z, w] at h; cases h
    have tk : TK H (upd (upd H1 t (.tup [.int n, .int q])) l (.lst (fd p ++ [.ref t]))) := fun a xs h => by
      obtain ⟨kvs, ek, _⟩ := W.d
      have a1 : a ≠ d := ne_of h ek (fun h => nomatch h)
      exact mv a _ h a1 (ne_of (A.fr a _ h a1) A.here (fun h => nomatch h))
    have e2 : e ≠ l := fun z => by obtain ⟨o, h⟩ := e1; rw [z, l0] at h; cases h
    refine ⟨L', Le, _, fe, D', ?_, fun a m => ?_, fun a m => ?_, fun a m1 m2 => ?_, fun p2 => ?_, fun p2 => ⟨Nat.le_succ_of_le (W.ev p2).1, (W.ev p2).2.mono tk⟩⟩
    · obtain ⟨kvs, h1, h2, h3⟩ := W.e.same fun a o h m => mv a o h (m.elim (fun z => z ▸ de.symm) fun m => nd a (W.e0 a m).1) (m.elim (fun z => z ▸ e2) (el a))
      exact ⟨kvs, h1, Nat.le_succ_of_le h2, h3⟩
    · by_cases z : a = l
      · exact ⟨z ▸ l0, _, by rw [z]; exact upd_same⟩
      · rcases hL' a m with m | m
        · obtain ⟨o, h⟩ := (W.d0 a m).2
          exact ⟨(W.d0 a m).1, o, mv a o h (nd a (W.d0 a m).1) z⟩
        · exact absurd m z
    · obtain ⟨o, h⟩ := (W.e0 a m).2
      exact ⟨(W.e0 a m).1, o, mv a o h (nd a (W.e0 a m).1) (el a m)⟩
    · rcases hL' a m1 with m | m
      · exact W.ap a m m2
      · exact el a m2 m
    · unfold putf
      by_cases z : p2 = p
      · rw [if_pos z, hq p2, if_pos z, List.map_append]
        exact ⟨by rw [List.length_append]; exact Nat.succ_le_succ (W.dv p).1, ((W.dv p).2.mono tk).app (.cons (.tup (by rw [upd_ne tl]; exact upd_same) (.cons (.flat rfl) (.cons (.flat rfl) .nil))) .nil)⟩
      · rw [if_neg z, hq p2, if_neg z]
        exact ⟨Nat.le_succ_of_le (W.dv p2).1, (W.dv p2).2.mono tk⟩
  obtain ⟨kvs, h1, h2, h3, h4⟩ := W.d.sda p hz
  exact ⟨kvs, h1, h2, fun v hv => let ⟨l, h, A⟩ := h3 v hv; ⟨l, h, key l _ A ⟨_, h1⟩⟩, fun hn => key z _ (h4 hn) ⟨_, upd_same⟩⟩
structure Stt (H0 H : Hp) (x : Sx) (N M : Int) (R : List Rw) (B : List (Int × Int)) (k : Nat) : Prop where
  keep : ∀ a o, H0 a = some o → a ≠ x.r → a ≠ x.bd → a ≠ x.kn → a ≠ x.g → a ≠ x.h → H a = some o
  r : ∃ rv, H x.r = some (.lst rv) ∧ Ims H rv (R.map Rw.d)
  bd : ∃ bv, H x.bd = some (.lst bv) ∧ Ims H bv (B.map flD)
  kn : H x.kn = some (.dT (R.map fun r => (r.k, V.bl true)))
  gh : ∃ Lg Lh fg fh, Two H0 H x.g x.h (fun p => dueN (gosF p) R k) (fun p => dueN (herF p) R k) k Lg Lh fg fh
  nd : (R.map Rw.k).Nodup
  ok : ∀ r ∈ R, r.ok N M
  kl : k ≤ R.length
noncomputable def Fr2 (x : Sx) (H H' : Hp) : Prop := ∀ a o, H a = some o → a ≠ x.r → a ≠ x.kn → H' a = some o
theorem Fr2.refl (x : Sx) (H : Hp) : Fr2 x H H := fun _ _ e _ _ => e
theorem Fr2.trans {x : Sx} {H H1 H2 : Hp} (a : Fr2 x H H1) (b : Fr2 x H1 H2) : Fr2 x H H2 := fun c o e n m => b c o (a c o e n m) n m
theorem Fr2.of {x : Sx} {H H' : Hp} (s : Same H H') : Fr2 x H H' := fun a o e _ _ => s a o e
section
variable {c : Cs} {S : Addr} {H0 H H' : Hp} {x : Sx} {N M : Int} {R : List Rw} {B : List (Int × Int)} {k : Nat} {ms : List Mk3} {us : List Us}
theorem Stt.same (t : Stt H0 H x N M R B k) (s : Same H H') : Stt H0 H' x N M R B k := by
  obtain ⟨keep, ⟨rv, r1, r2⟩, ⟨bv, b1, b2⟩, kn, ⟨Lg, Lh, fg, fh, W⟩, nd, ok, kl⟩ := t
  have tk : TK H H' := Same.tk s
  exact ⟨fun a o e n1 n2 n3 n4 n5 => s _ _ (keep a o e n1 n2 n3 n4 n5), ⟨rv, s _ _ r1, r2.mono tk⟩, ⟨bv, s _ _ b1, b2.mono tk⟩, s _ _ kn,
    ⟨Lg, Lh, fg, fh, W.frame (fun a o e _ => s _ _ e) tk⟩, nd, ok, kl⟩
theorem Stat.fix (z : Stat c S H0 x ms us) (t : Stt H0 H x N M R B k) {a : Addr} {o : HO} (e : H0 a = some o) (h1 : ∀ l, o ≠ .lst l) (h2 : ∀ l, o ≠ .dT l) (h3 : ∀ l, o ≠ .dK l) : H a = some o := by
  obtain ⟨_, er⟩ := z.r
  obtain ⟨_, eb⟩ := z.bd
  obtain ⟨_, ek⟩ := z.kn
  obtain ⟨_, eg⟩ := z.g
  obtain ⟨_, eh⟩ := z.h
  exact t.keep a o e (ne_of e er (h1 _)) (ne_of e eb (h1 _)) (ne_of e ek (h2 _)) (ne_of e eg (h3 _)) (ne_of e eh (h3 _))
theorem Stat.hs (z : Stat c S H0 x ms us) (t : Stt H0 H x N M R B k) : H x.s = some (.ins S x.dx (fS x.b x.ua x.r x.bd x.kn x.g x.h)) := z.fix t z.s (fun _ h => nomatch h) (fun _ h => nomatch h) (fun _ h => nomatch h)
theorem Stat.hb (z : Stat c S H0 x ms us) (t : Stt H0 H x N M R B k) : H x.b = some (.ins c.B x.bx (fB x.p0 x.p1 x.p2 x.p3 (.int 0))) := z.fix t z.b (fun _ h => nomatch h) (fun _ h => nomatch h) (fun _ h => nomatch h)
theorem Stat.lst (z : Stat c S H0 x ms us) (t : Stt H0 H x N M R B k) {a : Addr} {l : List V} (e : H0 a = some (.lst l)) (n1 : a ≠ x.r) (n2 : a ≠ x.bd) : H a = some (.lst l) := by
  obtain ⟨_, ek⟩ := z.kn
  obtain ⟨_, eg⟩ := z.g
  obtain ⟨_, eh⟩ := z.h
  exact t.keep a _ e n1 n2 (ne_of e ek (fun h => nomatch h)) (ne_of e eg (fun h => nomatch h)) (ne_of e eh (fun h => nomatch h))
theorem Stat.fk (z : Stat c S H0 x ms us) (t : Stt H0 H x N M R B k) : FK H0 H := fun a o e f => z.fix t e (fun l h => by rw [h] at f; exact f) (fun l h => by rw [h] at f; exact f) (fun l h => by rw [h] at f; exact f)
theorem Stt.len (t : Stt H0 H x N M R B k) (hN : N ≤ 64) (hM : M ≤ 64) : R.length ≤ 8192 := rows_le hN hM t.nd t.ok
theorem valV_key : ∀ {R : List Rw} {q : List Key}, valV (R.map fun r => (r.k, V.bl true)) q = none → q ∉ R.map Rw.k
  | [], _, _ => by simp
  | r :: R, q, h => by
    rw [List.map_cons] at h
    by_cases e : r.k = q
    · rw [valV_pos (p := (r.k, V.bl true)) e] at h; cases h
    · rw [valV_neg (p := (r.k, V.bl true)) e] at h
      rw [List.map_cons, List.mem_cons, not_or]
      exact ⟨fun z => e z.symm, valV_key h⟩
theorem key_valV {R : List Rw} {q : List Key} {v : V} (h : valV (R.map fun r => (r.k, V.bl true)) q = some v) : q ∈ R.map Rw.k := by
  induction R with
  | nil => cases h
  | cons r R ih =>
    rw [List.map_cons] at h
    by_cases e : r.k = q
    · rw [List.map_cons, e]; exact List.mem_cons_self
    · rw [valV_neg (p := (r.k, V.bl true)) e] at h
      rw [List.map_cons]
      exact List.mem_cons_of_mem _ (ih h)
theorem putK_key {R : List Rw} {ρ : Rw} (h : valV (R.map fun r => (r.k, V.bl true)) ρ.k = none) : putK (R.map fun r => (r.k, V.bl true)) ρ.k (.bl true) = (R ++ [ρ]).map fun r => (r.k, V.bl true) := by
  unfold putK
  rw [if_neg (by rw [valV_any, h]; exact Bool.false_ne_true), List.map_append]
  rfl
theorem Stt.put (z : Stat c S H0 x ms us) (t : Stt H0 H x N M R B k) {ρ : Rw} {wv : V} {tb t2 : Addr} {rv : List V} (hw : Im H wv (whyD ρ.y)) (ok : ρ.ok N M) (hn : valV (R.map fun r => (r.k, V.bl true)) ρ.k = none) (hr : H x.r = some (.lst rv))
    (htb : H tb = none) (h2 : (upd (upd H tb (.tup (ρ.k.map kV))) x.kn (.dT (putK (R.map fun r => (r.k, V.bl true)) ρ.k (.bl true)))) t2 = none) :
    Stt H0 (upd (upd (upd (upd H tb (.tup (ρ.k.map kV))) x.kn (.dT (putK (R.map fun r => (r.k, V.bl true)) ρ.k (.bl true)))) t2 (.tup [.str (wd ρ.w), .int ρ.a, .int ρ.b, wv])) x.r (.lst (rv ++ [.ref t2]))) x N M (R ++ [ρ]) B k ∧
    Fr2 x H (upd (upd (upd (upd H tb (.tup (ρ.k.map kV))) x.kn (.dT (putK (R.map fun r => (r.k, V.bl true)) ρ.k (.bl true)))) t2 (.tup [.str (wd ρ.w), .int ρ.a, .int ρ.b, wv])) x.r (.lst (rv ++ [.ref t2]))) := by
  have s1 := same_new htb (.tup (ρ.k.map kV))
  have t1 := t.same s1
  have hr1 := s1 _ _ hr
  have hw1 : Im _ wv (whyD ρ.y) := hw.mono (Same.tk s1)
  generalize upd H tb (.tup (ρ.k.map kV)) = H1 at s1 t1 hr1 hw1 h2 ⊢
  have hk1 := t1.kn
  have rk : x.r ≠ x.kn := ne_of hr1 hk1 (fun h => nomatch h)
  have F : Fr2 x H (upd (upd (upd H1 x.kn (.dT (putK (R.map fun r => (r.k, V.bl true)) ρ.k (.bl true)))) t2 (.tup [.str (wd ρ.w), .int ρ.a, .int ρ.b, wv])) x.r (.lst (rv ++ [.ref t2]))) := fun a o e n1 n2 => by
    have e2 : (upd H1 x.kn (.dT (putK (R.map fun r => (r.k, V.bl true)) ρ.k (.bl true)))) a = some o := by rw [upd_ne n2]; exact s1 _ _ e
    rw [upd_ne n1, upd_ne (ne_of_none e2 h2)]
    exact e2
  refine ⟨?_, F⟩
  have er : (upd (upd H1 x.kn (.dT (putK (R.map fun r => (r.k, V.bl true)) ρ.k (.bl true)))) t2 (.tup [.str (wd ρ.w), .int ρ.a, .int ρ.b, wv])) t2 = some (.tup [.str (wd ρ.w), .int ρ.a, .int ρ.b, wv]) := upd_same
  obtain ⟨keep, ⟨rv', r1, r2⟩, ⟨bv, b1, b2⟩, kn, ⟨Lg, Lh, fg, fh, W⟩, nd, okk, kl⟩ := t
  rw [hr] at r1
  cases r1
  obtain ⟨_, Er⟩ := z.r
  obtain ⟨_, Eb⟩ := z.bd
  obtain ⟨_, Ek⟩ := z.kn
  obtain ⟨_, Eg⟩ := z.g
  obtain ⟨_, Eh⟩ := z.h
  have tk : TK H (upd (upd (upd H1 x.kn (.dT (putK (R.map fun r => (r.k, V.bl true)) ρ.k (.bl true)))) t2 (.tup [.str (wd ρ.w), .int ρ.a, .int ρ.b, wv])) x.r (.lst (rv ++ [.ref t2]))) := fun a xs e => F a _ e (ne_of e hr (fun h => nomatch h)) (ne_of e kn (fun h => nomatch h))
  have eg : (fun p => dueN (gosF p) R k) = fun p => dueN (gosF p) (R ++ [ρ]) k := funext fun p => (due_app kl).symm
  have eh : (fun p => dueN (herF p) R k) = fun p => dueN (herF p) (R ++ [ρ]) k := funext fun p => (due_app kl).symm
  have t2r : t2 ≠ x.r := fun h => by rw [h, upd_ne rk, hr1] at h2; cases h2
  refine ⟨fun a o e n1 n2 n3 n4 n5 => F a o (keep a o e n1 n2 n3 n4 n5) n1 n3, ⟨_, upd_same, ?_⟩, ⟨bv, F _ _ b1 (Ne.symm z.n1) (ne_of Eb Ek (fun h => nomatch h)), b2.mono tk⟩, ?_, ⟨Lg, Lh, fg, fh, eg ▸ eh ▸ W.frame (fun a o e m => F a o e (fun h => ?_) (fun h => ?_)) tk⟩, ?_, ?_, by rw [List.length_append]; omega⟩
  · rw [List.map_append]
    refine (r2.mono tk).app (.cons (.tup (by rw [upd_ne t2r]; exact er) (.cons (.flat rfl) (.cons (.flat rfl) (.cons (.flat rfl) (.cons (hw.mono tk) .nil))))) .nil)
  · rw [upd_ne (Ne.symm rk), upd_ne (fun h => by rw [← h, upd_same] at h2; cases h2), upd_same, putK_key hn]
  · rcases m with m | m | m
    · rw [h] at m; exact absurd (show some (HO.lst _) = some (HO.dK _) by rw [← Er, m, Eg]) (fun h => nomatch h)
    · rw [h] at m; exact absurd (show some (HO.lst _) = some (HO.dK _) by rw [← Er, m, Eh]) (fun h => nomatch h)
    · rw [h, Er] at m; cases m
  · rcases m with m | m | m
    · rw [h] at m; exact absurd (show some (HO.dT _) = some (HO.dK _) by rw [← Ek, m, Eg]) (fun h => nomatch h)
    · rw [h] at m; exact absurd (show some (HO.dT _) = some (HO.dK _) by rw [← Ek, m, Eh]) (fun h => nomatch h)
    · rw [h, Ek] at m; cases m
  · rw [List.map_append, List.nodup_append]
    refine ⟨nd, by simp, fun a ha b hb e => ?_⟩
    simp only [List.map_cons, List.map_nil, List.mem_singleton] at hb
    exact valV_key hn (by rw [← hb, ← e]; exact ha)
  · intro r hr
    rcases List.mem_append.mp hr with h | h
    · exact okk r h
    · simp only [List.mem_singleton] at h
      rw [h]
      exact ok
end
section
variable {P : Program} {w : World} {K : PySem.W.Frag} {mg : Str → Option Value} {base : Heap}
theorem fS_board (b ua r bd kn g h : Addr) : (fS b ua r bd kn g h).lookup ("board" : Str) = some (.ref b) := lk_hd
theorem fS_uses_at (b ua r bd kn g h : Addr) : (fS b ua r bd kn g h).lookup ("uses_at" : Str) = some (.ref ua) := (lk_tl (by decide +kernel)).trans lk_hd
theorem fS_rows (b ua r bd kn g h : Addr) : (fS b ua r bd kn g h).lookup ("rows" : Str) = some (.ref r) := (lk_tl (by decide +kernel)).trans ((lk_tl (by decide +kernel)).trans lk_hd)
theorem fS_bads (b ua r bd kn g h : Addr) : (fS b ua r bd kn g h).lookup ("bads" : Str) = some (.ref bd) := (lk_tl (by decide +kernel)).trans ((lk_tl (by decide +kernel)).trans ((lk_tl (by decide +kernel)).trans lk_hd))
theorem fS_known (b ua r bd kn g h : Addr) : (fS b ua r bd kn g h).lookup ("known" : Str) = some (.ref kn) := (lk_tl (by decide +kernel)).trans ((lk_tl (by decide +kernel)).trans ((lk_tl (by decide +kernel)).trans ((lk_tl (by decide +kernel)).trans lk_hd)))
theorem fS_goes (b ua r bd kn g h : Addr) : (fS b ua r bd kn g h).lookup ("goes" : Str) = some (.ref g) := (lk_tl (by decide +kernel)).trans ((lk_tl (by decide +kernel)).trans ((lk_tl (by decide +kernel)).trans ((lk_tl (by decide +kernel)).trans ((lk_tl (by decide +kernel)).trans lk_hd))))
theorem fS_heres (b ua r bd kn g h : Addr) : (fS b ua r bd kn g h).lookup ("heres" : Str) = some (.ref h) := (lk_tl (by decide +kernel)).trans ((lk_tl (by decide +kernel)).trans ((lk_tl (by decide +kernel)).trans ((lk_tl (by decide +kernel)).trans ((lk_tl (by decide +kernel)).trans ((lk_tl (by decide +kernel)).trans lk_hd)))))
theorem fS_no (m : Str) (b ua r bd kn g h : Addr) (q : m ∉ (["board", "uses_at", "rows", "bads", "known", "goes", "heres"] : List Str)) : (fS b ua r bd kn g h).lookup m = none := by
  simp only [List.mem_cons, List.not_mem_nil, or_false, not_or] at q
  obtain ⟨q1, q2, q3, q4, q5, q6, q7⟩ := q
  have f : ∀ {a b : Str}, ¬ a = b → (a == b) = false := fun {a b} h => by simp [h]
  exact (lk_tl (f q1)).trans ((lk_tl (f q2)).trans ((lk_tl (f q3)).trans ((lk_tl (f q4)).trans ((lk_tl (f q5)).trans ((lk_tl (f q6)).trans ((lk_tl (f q7)).trans rfl))))))
noncomputable def sp_put (c : Cs) (S : Addr) : Sp := fun vs H Q _ => ∃ (H0 : Hp) (x : Sx) (N M : Int) (ms : List Mk3) (us : List Us) (R : List Rw) (B : List (Int × Int)) (k : Nat) (ρ : Rw) (wv : V), vs = [.ref x.s, .str (wd ρ.w), .int ρ.a, .int ρ.b, wv] ∧ Stat c S H0 x ms us ∧ Stt H0 H x N M R B k ∧ N ≤ 64 ∧ M ≤ 64 ∧ Im H wv (whyD ρ.y) ∧ ρ.ok N M ∧
  ∀ H', Stt H0 H' x N M (putR R ρ) B k → Fr2 x H H' → Q .non H'
theorem ok_Settling_put (T : Txt K mg) : FnOk P w K mg base CX0 1 T.a_Settling_put T.fd_Settling_put ["self", "word", "first", "second", "why"] (sp_put (cs T) T.a_Settling) := by
  refine T.F_Settling_put.ok sc_Settling_put (fun vs H Q E h => ?_) (fun cdv A outer s H vs Q E hr h => ?_)
  · obtain ⟨H0, x, N, M, ms, us, R, B, k, ρ, wv, rfl, _⟩ := h
    rfl
  obtain ⟨H0, x, N, M, ms, us, R, B, k, ρ, wv, rfl, z, t, hN, hM, hw, ok, q⟩ := h
  have hu := hu_of hr
  refine ⟨_, (pss_cons (ps_set (i := 5) sc_Settling_put.nd rfl (Or.inl rfl) (pe_tup (pa_cons (cv 1) (pa_cons (cv 2) (pa_cons (cv 3) pa_nil)))))
    (pss_one (ps_if (pt_cmp (pc_dnotin hu (cv 5) (pec_fld T.cl_Settling T.n_Settling_known (cv 0))) rfl)
      (pss_cons (ps_dput hu (pec_fld T.cl_Settling T.n_Settling_known (cv 0)) (cv 5) pe_bl rfl)
      (pss_one (ps_expr (pec_app (pe_bm PySem.F.plainAttrs_list PySem.F.slot_list_append PySem.F.type_list_append mt_append (PE.mono (pec_fld T.cl_Settling T.n_Settling_rows (cv 0))) (pa_cons (PE.mono (pe_tup (pa_cons (cv 1) (pa_cons (cv 2) (pa_cons (cv 3) (pa_cons (cv 4) pa_nil)))))) pa_nil))))))
      pss_nil))), ?_⟩
  have sl : sizeLine = 16777216 := sizeLine_eq
  have hlen := t.len hN hM
  refine ⟨(by show 3 ≤ sizeLine; decide), fun tb hb => ?_⟩
  have s1 : Same H (upd H tb (.tup (ρ.k.map kV))) := same_new hb _
  have t1 := t.same s1
  have hs1 := z.hs t1
  have hk1 := t1.kn
  refine ⟨_, ⟨_, _, hs1, fS_known _ _ _ _ _ _ _⟩, x.kn, _, rfl, DGet.t (k := ρ.k) hk1 upd_same, _, rfl, ?_⟩
  cases e : valV (R.map fun r => (r.k, V.bl true)) ρ.k with
  | some v => exact iteF (q _ (by unfold putR; rw [if_pos (key_valV e)]; exact t1) (.of s1))
  | none =>
    obtain ⟨rv, hrv, hrl⟩ := t.r
    have hl : rv.length ≤ 8192 := by rw [hrl.length, List.length_map]; exact hlen
    refine iteT ⟨_, ⟨_, _, hs1, fS_known _ _ _ _ _ _ _⟩, x.kn, _, rfl, DPut.t (k := ρ.k) hk1 upd_same (by rw [List.length_map]; omega), ?_⟩
    have rk : x.r ≠ x.kn := ne_of (s1 _ _ hrv) hk1 (fun h => nomatch h)
    have hr2 : (upd (upd H tb (.tup (ρ.k.map kV))) x.kn (.dT (putK (R.map fun r => (r.k, V.bl true)) ρ.k (.bl true)))) x.r = some (.lst rv) := by rw [upd_ne rk]; exact s1 _ _ hrv
    refine ⟨_, ⟨_, _, by rw [upd_ne (ne_of hs1 hk1 (fun h => nomatch h))]; exact hs1, fS_rows _ _ _ _ _ _ _⟩, ⟨_, hr2⟩, (by show 4 ≤ sizeLine; decide), fun t2 h2 => ?_⟩
    refine ⟨rv, same_new h2 _ _ _ hr2, by omega, ?_⟩
    obtain ⟨t4, f4⟩ := t.put z (ρ := ρ) (wv := wv) hw ok e hrv hb h2
    exact q _ (by unfold putR; rw [if_neg (valV_key e)]; exact t4) f4
end
end K33.Internal
namespace K33.Internal
open PySem L2.Internal BO.Internal
seal L2.Internal.PE L2.Internal.PA L2.Internal.PS L2.Internal.PSs L2.Internal.PT L2.Internal.PI
section
variable {c : Cs} {S : Addr} {H0 H H' : Hp} {x : Sx} {N M : Int} {R : List Rw} {B : List (Int × Int)} {k : Nat} {ms : List Mk3} {us : List Us}
theorem Stt.n0 (t : Stt H0 H x N M R B k) : ∀ a, H a = none → H0 a = none := fun a h => by
  cases e : H0 a with
  | none => rfl
  | some o =>
    obtain ⟨rv, r1, _⟩ := t.r
    obtain ⟨bv, b1, _⟩ := t.bd
    obtain ⟨Lg, Lh, fg, fh, W⟩ := t.gh
    obtain ⟨kg, g1, _⟩ := W.d
    obtain ⟨kh, h1, _⟩ := W.e
    by_cases m1 : a = x.r
    · rw [m1, r1] at h; cases h
    by_cases m2 : a = x.bd
    · rw [m2, b1] at h; cases h
    by_cases m3 : a = x.kn
    · rw [m3, t.kn] at h; cases h
    by_cases m4 : a = x.g
    · rw [m4, g1] at h; cases h
    by_cases m5 : a = x.h
    · rw [m5, h1] at h; cases h
    rw [t.keep a o e m1 m2 m3 m4 m5] at h
    cases h
noncomputable def Gs (H0 : Hp) (x : Sx) (N M : Int) (R : List Rw) (B : List (Int × Int)) (k : Nat) (q : Int) (l : Addr) (H1 : Hp) : Prop := ∃ xs, H1 l = some (.lst xs) ∧ xs.length ≤ k ∧ ∀ t, H1 t = none → Stt H0 (upd (upd H1 t (.tup [.int (k : Int), .int q])) l (.lst (xs ++ [.ref t]))) x N M R B (k + 1)
theorem Stt.goG (z : Stat c S H0 x ms us) (t : Stt H0 H x N M R B k) {p q : Int} {y : Option (Int × Int)} (hrow : R[k]? = some ⟨true, p, q, y⟩) {zz : Addr} (hz : H zz = none) : ∃ kvs, (upd H zz (.lst [])) x.g = some (.dK kvs) ∧ kvs.length ≤ k ∧
    (∀ v, valV kvs (.inl p) = some v → ∃ l, v = .ref l ∧ Gs H0 x N M R B k q l (upd H zz (.lst []))) ∧ (valV kvs (.inl p) = none → Gs H0 x N M R B k q zz (upd (upd H zz (.lst [])) x.g (.dK (putK kvs (.inl p) (.ref zz))))) := by
  obtain ⟨Lg, Lh, fg, fh, W⟩ := t.gh
  obtain ⟨_, Er⟩ := z.r
  obtain ⟨_, Eb⟩ := z.bd
  obtain ⟨_, Ek⟩ := z.kn
  obtain ⟨_, Eg⟩ := z.g
  obtain ⟨_, Eh⟩ := z.h
  have n0 := t.n0
  have oth : (fun p => dueN (herF p) R k) = fun p => dueN (herF p) R (k + 1) := funext fun p => by
    rw [due_one hrow]
    unfold herF
    rw [if_neg (fun h => Bool.noConfusion h.1), List.append_nil]
  obtain ⟨dk, edk, _⟩ := W.d
  have key : ∀ (l : Addr) (H1 : Hp), Go2 H0 H x.g x.h (fun p => dueN (gosF p) R k) (fun p => dueN (herF p) R k) k p l H1 → Gs H0 x N M R B k q l H1 := fun l H1 A => by
    obtain ⟨xs, el, hx, go⟩ := A.go
    refine ⟨xs, el, hx, fun tt ht => ?_⟩
    have hN : ∀ p2, dueN (gosF p2) R (k + 1) = if p2 = p then dueN (gosF p) R k ++ [((k : Int), q)] else dueN (gosF p2) R k := fun p2 => by
      rw [due_one hrow]
      unfold gosF
      by_cases z : p2 = p
      · subst z; rw [if_pos rfl, if_pos ⟨rfl, rfl⟩]
      · rw [if_neg z, if_neg (fun h => z h.2.symm), List.append_nil]
    obtain ⟨Ld, Le, fd, fe, W'⟩ := go (k : Int) q tt (fun p2 => dueN (gosF p2) R (k + 1)) hN ht
    have mv : ∀ a o u, H0 a = some u → H a = some o → a ≠ x.g → (upd (upd H1 tt (.tup [.int (k : Int), .int q])) l (.lst (xs ++ [.ref tt]))) a = some o := fun a o u e0 e n1 => by
      have := A.fr a o e n1
      rw [upd_ne (fun h => by rw [h, A.l0] at e0; cases e0), upd_ne (ne_of_none this ht)]
      exact this
    have tk : TK H (upd (upd H1 tt (.tup [.int (k : Int), .int q])) l (.lst (xs ++ [.ref tt]))) := fun a ys e => by
      have := A.fr a _ e (ne_of e edk (fun h => nomatch h))
      rw [upd_ne (ne_of this el (fun h => nomatch h)), upd_ne (ne_of_none this ht)]
      exact this
    obtain ⟨rv, r1, r2⟩ := t.r
    obtain ⟨bv, b1, b2⟩ := t.bd
    exact ⟨fun a o e m1 m2 m3 m4 m5 => mv a o o e (t.keep a o e m1 m2 m3 m4 m5) m4, ⟨rv, mv _ _ _ Er r1 (ne_of Er Eg (fun h => nomatch h)), r2.mono tk⟩, ⟨bv, mv _ _ _ Eb b1 (ne_of Eb Eg (fun h => nomatch h)), b2.mono tk⟩, mv _ _ _ Ek t.kn (ne_of Ek Eg (fun h => nomatch h)), ⟨_, _, _, _, oth ▸ W'⟩, t.nd, t.ok, (List.getElem?_eq_some_iff.mp hrow).1⟩
  obtain ⟨kvs, h1, h2, h3, h4⟩ := Two.add W p hz n0 ⟨_, Eg⟩ ⟨_, Eh⟩ z.n2
  exact ⟨kvs, h1, h2, fun v hv => let ⟨l, h, A⟩ := h3 v hv; ⟨l, h, key l _ A⟩, fun hn => key zz _ (h4 hn)⟩
theorem Stt.goH (z : Stat c S H0 x ms us) (t : Stt H0 H x N M R B k) {p q : Int} {y : Option (Int × Int)} (hrow : R[k]? = some ⟨false, q, p, y⟩) {zz : Addr} (hz : H zz = none) : ∃ kvs, (upd H zz (.lst [])) x.h = some (.dK kvs) ∧ kvs.length ≤ k ∧
    (∀ v, valV kvs (.inl p) = some v → ∃ l, v = .ref l ∧ Gs H0 x N M R B k q l (upd H zz (.lst []))) ∧ (valV kvs (.inl p) = none → Gs H0 x N M R B k q zz (upd (upd H zz (.lst [])) x.h (.dK (putK kvs (.inl p) (.ref zz))))) := by
  obtain ⟨Lg, Lh, fg, fh, W⟩ := t.gh
  obtain ⟨_, Er⟩ := z.r
  obtain ⟨_, Eb⟩ := z.bd
  obtain ⟨_, Ek⟩ := z.kn
  obtain ⟨_, Eg⟩ := z.g
  obtain ⟨_, Eh⟩ := z.h
  have n0 := t.n0
  have oth : (fun p => dueN (gosF p) R k) = fun p => dueN (gosF p) R (k + 1) := funext fun p => by
    rw [due_one hrow]
    unfold gosF
    rw [if_neg (fun h => Bool.noConfusion h.1), List.append_nil]
  obtain ⟨dk, edk, _⟩ := W.swap.d
  have key : ∀ (l : Addr) (H1 : Hp), Go2 H0 H x.h x.g (fun p => dueN (herF p) R k) (fun p => dueN (gosF p) R k) k p l H1 → Gs H0 x N M R B k q l H1 := fun l H1 A => by
    obtain ⟨xs, el, hx, go⟩ := A.go
    refine ⟨xs, el, hx, fun tt ht => ?_⟩
    have hN : ∀ p2, dueN (herF p2) R (k + 1) = if p2 = p then dueN (herF p) R k ++ [((k : Int), q)] else dueN (herF p2) R k := fun p2 => by
      rw [due_one hrow]
      unfold herF
      by_cases z : p2 = p
      · subst z; rw [if_pos rfl, if_pos ⟨rfl, rfl⟩]
      · rw [if_neg z, if_neg (fun h => z h.2.symm), List.append_nil]
    obtain ⟨Ld, Le, fd, fe, W'⟩ := go (k : Int) q tt (fun p2 => dueN (herF p2) R (k + 1)) hN ht
    have mv : ∀ a o u, H0 a = some u → H a = some o → a ≠ x.h → (upd (upd H1 tt (.tup [.int (k : Int), .int q])) l (.lst (xs ++ [.ref tt]))) a = some o := fun a o u e0 e n1 => by
      have := A.fr a o e n1
      rw [upd_ne (fun h => by rw [h, A.l0] at e0; cases e0), upd_ne (ne_of_none this ht)]
      exact this
    have tk : TK H (upd (upd H1 tt (.tup [.int (k : Int), .int q])) l (.lst (xs ++ [.ref tt]))) := fun a ys e => by
      have := A.fr a _ e (ne_of e edk (fun h => nomatch h))
      rw [upd_ne (ne_of this el (fun h => nomatch h)), upd_ne (ne_of_none this ht)]
      exact this
    obtain ⟨rv, r1, r2⟩ := t.r
    obtain ⟨bv, b1, b2⟩ := t.bd
    exact ⟨fun a o e m1 m2 m3 m4 m5 => mv a o o e (t.keep a o e m1 m2 m3 m4 m5) m5, ⟨rv, mv _ _ _ Er r1 (ne_of Er Eh (fun h => nomatch h)), r2.mono tk⟩, ⟨bv, mv _ _ _ Eb b1 (ne_of Eb Eh (fun h => nomatch h)), b2.mono tk⟩, mv _ _ _ Ek t.kn (ne_of Ek Eh (fun h => nomatch h)), ⟨_, _, _, _, oth ▸ W'.swap⟩, t.nd, t.ok, (List.getElem?_eq_some_iff.mp hrow).1⟩
  obtain ⟨kvs, h1, h2, h3, h4⟩ := Two.add W.swap p hz n0 ⟨_, Eh⟩ ⟨_, Eg⟩ (Ne.symm z.n2)
  exact ⟨kvs, h1, h2, fun v hv => let ⟨l, h, A⟩ := h3 v hv; ⟨l, h, key l _ A⟩, fun hn => key zz _ (h4 hn)⟩
end
theorem ims_fl {H : Hp} : ∀ {fv : List V} {l : List (Int × Int)} {i : Nat} {v : V}, Ims H fv (l.map flD) → fv[i]? = some v → ∃ p t, l[i]? = some p ∧ v = .ref t ∧ H t = some (.tup [.int p.1, .int p.2])
  | _, [], _, _, .nil, e => by simp at e
  | _, p :: ps, 0, v, .cons h _, e => by
    cases e
    obtain ⟨t, xs, rfl, e, hs⟩ := im_nil h
    obtain rfl := ims2 hs
    exact ⟨p, t, rfl, rfl, e⟩
  | _, p :: ps, i + 1, v, .cons _ t, e => by
    rw [List.getElem?_cons_succ] at e
    obtain ⟨q, u, e1, e2⟩ := ims_fl t e
    exact ⟨q, u, by rw [List.getElem?_cons_succ]; exact e1, e2⟩
section
variable {P : Program} {w : World} {K : PySem.W.Frag} {mg : Str → Option Value} {base : Heap}
noncomputable def sp_put_flows (c : Cs) (S : Addr) : Sp := fun vs H Q _ => ∃ (H0 : Hp) (x : Sx) (N M : Int) (ms : List Mk3) (us : List Us) (R : List Rw) (B : List (Int × Int)) (k : Nat) (f : Addr) (fv : List V) (l : List (Int × Int)) (y : Option (Int × Int)) (wv : V), vs = [.ref x.s, .ref f, wv] ∧ Stat c S H0 x ms us ∧ Stt H0 H x N M R B k ∧ N ≤ 64 ∧ M ≤ 64 ∧
  H f = some (.lst fv) ∧ Ims H fv (l.map flD) ∧ f ≠ x.r ∧ (∀ p ∈ l, InR N p.1 ∧ InR N p.2) ∧ Im H wv (whyD y) ∧ ∀ H', Stt H0 H' x N M (putsR R (l.map fun p => ⟨true, p.1, p.2, y⟩)) B k → Fr2 x H H' → Q .non H'
theorem ok_Settling_put_flows (T : Txt K mg) : FnOk P w K mg base CX0 2 T.a_Settling_put_flows T.fd_Settling_put_flows ["self", "flows", "why"] (sp_put_flows (cs T) T.a_Settling) := by
  have G_Settling_put := ok_Settling_put (P := P) (w := w) (base := base) T
  refine T.F_Settling_put_flows.ok sc_Settling_put_flows (fun vs H Q E h => ?_) (fun cdv A outer s H vs Q E hr h => ?_)
  · obtain ⟨H0, x, N, M, ms, us, R, B, k, f, fv, l, y, wv, rfl, _⟩ := h
    rfl
  obtain ⟨H0, x, N, M, ms, us, R, B, k, f, fv, l, y, wv, rfl, z, t, hN, hM, hf, hl, nr, hin, hw, q⟩ := h
  refine ⟨_, (pss_one (ps_for PassesOwn.never rfl (pi_list (cv 1)) (pg_name (i := 3) sc_Settling_put_flows.nd rfl (Or.inl rfl))
      (pss_one (ps_expr (pec_meth (pe_meth (PE.mono (cv 0)) T.cl_Settling T.me_Settling_put G_Settling_put (hr.mono (by decide)) T.b_Settling_put .nil pass0 (pa_cons pe_str (pa_cons (pe_ix xc_tup (cv 3) pe_int (fun _ _ => rfl)) (pa_cons (pe_ix xc_tup (cv 3) pe_int (fun _ _ => rfl)) (pa_cons (cv 2) pa_nil)))))))))), ?_⟩
  have nk : f ≠ x.kn := ne_of hf t.kn (fun h => nomatch h)
  obtain ⟨rv, hrv, _⟩ := t.r
  refine ⟨f, rfl, ⟨_, SqL.of hf⟩, for_list (xs := fv) (fun i σ H2 => ∃ (o : Option V), σ = [some (.ref x.s), some (.ref f), some wv, o] ∧ Stt H0 H2 x N M (putsR R ((l.take i).map fun p => ⟨true, p.1, p.2, y⟩)) B k ∧ Fr2 x H H2)
    ⟨none, rfl, t, .refl _ _⟩ (fun i σ H2 _ ⟨_, _, _, F⟩ => SqL.of (F _ _ hf nr nk)) ?_ ?_⟩
  · rintro i v σ H2 hv ⟨o, rfl, t2, F⟩
    obtain ⟨p, tt, hp, rfl, et⟩ := ims_fl hl hv
    have tk : TK H H2 := fun a xs e => F a _ e (ne_of e hrv (fun h => nomatch h)) (ne_of e t.kn (fun h => nomatch h))
    have et2 := tk _ _ et
    have hpm := hin p (List.mem_of_getElem? hp)
    refine ⟨⟨_, _, z.hs t2, fS_no "put" _ _ _ _ _ _ _ (by decide +kernel)⟩, _, et2, _, et2, ?_⟩
    refine ⟨H0, x, N, M, ms, us, _, B, k, ⟨true, p.1, p.2, y⟩, wv, rfl, z, t2, hN, hM, hw.mono tk, ⟨hpm.1.1, hpm.1.2, hpm.2.1, hpm.2.2⟩, fun H' t' F' => ⟨_, rfl, ?_, F.trans F'⟩⟩
    rw [take_map hp, putsR_snoc]
    exact t'
  · rintro σ H2 ⟨o, rfl, t2, F⟩
    refine q H2 ?_ F
    have := hl.length
    rw [List.length_map] at this
    rw [this, List.take_length] at t2
    exact t2
noncomputable def sp_wG (c : Cs) (S : Addr) : Sp := fun vs H Q _ => ∃ (H0 : Hp) (x : Sx) (N M : Int) (ms : List Mk3) (us : List Us) (R : List Rw) (B : List (Int × Int)) (k : Nat) (p q : Int) (y : Option (Int × Int)), vs = [.ref x.s, .int (k : Int), .int p, .int q] ∧ Stat c S H0 x ms us ∧ Stt H0 H x N M R B k ∧ N ≤ 64 ∧ M ≤ 64 ∧ k ≤ 8192 ∧ R[k]? = some ⟨true, p, q, y⟩ ∧ ∀ H', Stt H0 H' x N M (putsR R ((dueN (herF p) R k).map fun h => (⟨false, h.2, q, some (h.1, (k : Int))⟩ : Rw))) B (k + 1) → Q .non H'
theorem ok_Settling_work_goes (T : Txt K mg) : FnOk P w K mg base CX0 2 T.a_Settling_work_goes T.fd_Settling_work_goes ["self", "number", "p", "q"] (sp_wG (cs T) T.a_Settling) := by
  have G_Settling_put := ok_Settling_put (P := P) (w := w) (base := base) T
  refine T.F_Settling_work_goes.ok sc_Settling_work_goes (fun vs H Q E h => ?_) (fun cdv A outer s H vs Q E hr h => ?_)
  · obtain ⟨H0, x, N, M, ms, us, R, B, k, p, q, y, rfl, _⟩ := h
    rfl
  obtain ⟨H0, x, N, M, ms, us, R, B, k, p, q, y, rfl, z, t, hN, hM, hk, hrow, fin⟩ := h
  have hq := t.ok _ (List.mem_of_getElem? hrow)
  have hu := hu_of hr
  refine ⟨_, (pss_cons (ps_for PassesOwn.never rfl (pi_list (pe_dget2 hu (pec_fld T.cl_Settling T.n_Settling_heres (cv 0)) (cv 2) (pe_lst pa_nil) ⟨rfl, rfl, rfl, rfl⟩)) (pg_name (i := 4) sc_Settling_work_goes.nd rfl (Or.inl rfl))
      (pss_one (ps_expr (pec_meth (pe_meth (PE.mono (cv 0)) T.cl_Settling T.me_Settling_put G_Settling_put (hr.mono (by decide)) T.b_Settling_put .nil pass0 (pa_cons pe_str (pa_cons (pe_ix xc_tup (cv 4) pe_int (fun _ _ => rfl)) (pa_cons (cv 3) (pa_cons (pe_tup (pa_cons (pe_ix xc_tup (cv 4) pe_int (fun _ _ => rfl)) (pa_cons (cv 1) pa_nil))) pa_nil)))))))))
    (pss_one (ps_expr (pec_app (pe_bm PySem.F.plainAttrs_list PySem.F.slot_list_append PySem.F.type_list_append mt_append (PE.mono (pe_dsetd (pec_fld T.cl_Settling T.n_Settling_goes (cv 0)) (cv 2) (pe_lst pa_nil) ⟨rfl, rfl, rfl, rfl⟩)) (pa_cons (PE.mono (pe_tup (pa_cons (cv 1) (pa_cons (cv 3) pa_nil)))) pa_nil)))))), ?_⟩
  have sl : sizeLine = 16777216 := sizeLine_eq
  obtain ⟨Lg, Lh, fg, fh, W⟩ := t.gh
  obtain ⟨rv, hrv, _⟩ := t.r
  obtain ⟨_, Er⟩ := z.r
  refine ⟨_, ⟨_, _, z.hs t, fS_heres _ _ _ _ _ _ _⟩, x.h, rfl, .inl (by obtain ⟨kvs, e, _⟩ := W.e; exact ⟨kvs, .inl e⟩), (by show 0 ≤ sizeLine; decide), fun zz hz => ?_⟩
  obtain ⟨kvs, l, ek, eg, hl, own⟩ := W.e.get p hz
  have s1 := same_new hz (.lst [])
  have t1 := t.same s1
  have nr : l ≠ x.r := fun h => by
    rcases own with m | m
    · rw [h] at m; rw [(W.e0 _ m).1] at Er; cases Er
    · rw [h, hrv] at m; cases m
  have nk : l ≠ x.kn := ne_of hl t1.kn (fun h => nomatch h)
  refine ⟨_, DGet.k (k := Sum.inl p) ek, l, eg, ⟨_, SqL.of hl⟩, for_list (xs := fh p) (fun i σ H2 => ∃ (o : Option V), σ = [some (.ref x.s), some (.int (k : Int)), some (.int p), some (.int q), o] ∧ Stt H0 H2 x N M (putsR R (((dueN (herF p) R k).take i).map fun h => (⟨false, h.2, q, some (h.1, (k : Int))⟩ : Rw))) B k ∧ Fr2 x (upd H zz (.lst [])) H2)
    ⟨none, rfl, t1, .refl _ _⟩ (fun i σ H2 _ ⟨_, _, _, F⟩ => SqL.of (F _ _ hl nr nk)) ?_ ?_⟩
  · rintro i v σ H2 hv ⟨o, rfl, t2, F⟩
    obtain ⟨hh, tt, hp, rfl, et⟩ := ims_fl (W.ev p).2 hv
    obtain ⟨nn, yy, en, hn, hrr⟩ := her_mem (List.mem_of_getElem? hp)
    have oo := t.ok _ (List.mem_of_getElem? hrr)
    have et2 := F _ _ (s1 _ _ et) (ne_of et hrv (fun h => nomatch h)) (ne_of et t.kn (fun h => nomatch h))
    refine ⟨⟨_, _, z.hs t2, fS_no "put" _ _ _ _ _ _ _ (by decide +kernel)⟩, _, et2, _, et2, (by show 2 ≤ sizeLine; decide), fun tw hw => ?_⟩
    refine ⟨H0, x, N, M, ms, us, _, B, k, ⟨false, hh.2, q, some (hh.1, (k : Int))⟩, .ref tw, rfl, z, t2.same (same_new hw _), hN, hM, .tup upd_same (.cons (.flat rfl) (.cons (.flat rfl) .nil)), ⟨oo.1, oo.2.1, hq.2.2.1, hq.2.2.2⟩, fun H' t' F' => ⟨_, rfl, ?_, F.trans ((Fr2.of (same_new hw _)).trans F')⟩⟩
    rw [take_map hp, putsR_snoc]
    exact t'
  · rintro σ H2 ⟨o, rfl, t2, F⟩
    have hln := (W.ev p).2.length
    rw [List.length_map] at hln
    rw [hln, List.take_length] at t2
    obtain ⟨more, em⟩ := putsR_pre ((dueN (herF p) R k).map fun h => (⟨false, h.2, q, some (h.1, (k : Int))⟩ : Rw)) R
    have hrow2 : (putsR R ((dueN (herF p) R k).map fun h => (⟨false, h.2, q, some (h.1, (k : Int))⟩ : Rw)))[k]? = some ⟨true, p, q, y⟩ := by rw [em, List.getElem?_append_left (List.getElem?_eq_some_iff.mp hrow).1]; exact hrow
    obtain ⟨Lg2, Lh2, fg2, fh2, W2⟩ := t2.gh
    refine ⟨_, ⟨_, _, z.hs t2, fS_goes _ _ _ _ _ _ _⟩, x.g, rfl, .inl (by obtain ⟨kvs, e, _⟩ := W2.d; exact ⟨kvs, .inl e⟩), (by show 0 ≤ sizeLine; decide), fun z2 hz2 => ?_⟩
    obtain ⟨kvs2, ek2, hl2, c1, c2⟩ := t2.goG z hrow2 hz2
    refine ⟨kvs2, Sum.inl p, ek2, rfl, by omega, fun v hv => ?_, fun hn => ?_⟩
    · obtain ⟨l2, rfl, xs, el, hx, go⟩ := c1 v hv
      exact ⟨⟨xs, el⟩, (by show 2 ≤ sizeLine; decide), fun tt ht => ⟨xs, same_new ht _ _ _ el, by omega, fin _ (go tt ht)⟩⟩
    · obtain ⟨xs, el, hx, go⟩ := c2 hn
      exact ⟨⟨xs, el⟩, (by show 2 ≤ sizeLine; decide), fun tt ht => ⟨xs, same_new ht _ _ _ el, by omega, fin _ (go tt ht)⟩⟩
noncomputable def sp_wH (c : Cs) (S : Addr) : Sp := fun vs H Q _ => ∃ (H0 : Hp) (x : Sx) (N M : Int) (ms : List Mk3) (us : List Us) (R : List Rw) (B : List (Int × Int)) (k : Nat) (p q : Int) (y : Option (Int × Int)), vs = [.ref x.s, .int (k : Int), .int q, .int p] ∧ Stat c S H0 x ms us ∧ Stt H0 H x N M R B k ∧ N ≤ 64 ∧ M ≤ 64 ∧ k ≤ 8192 ∧ R[k]? = some ⟨false, q, p, y⟩ ∧ ∀ H', Stt H0 H' x N M (putsR R ((dueN (gosF p) R k).map fun h => (⟨false, q, h.2, some ((k : Int), h.1)⟩ : Rw))) B (k + 1) → Q .non H'
theorem ok_Settling_work_here (T : Txt K mg) : FnOk P w K mg base CX0 2 T.a_Settling_work_here T.fd_Settling_work_here ["self", "number", "m", "p"] (sp_wH (cs T) T.a_Settling) := by
  have G_Settling_put := ok_Settling_put (P := P) (w := w) (base := base) T
  refine T.F_Settling_work_here.ok sc_Settling_work_here (fun vs H Q E h => ?_) (fun cdv A outer s H vs Q E hr h => ?_)
  · obtain ⟨H0, x, N, M, ms, us, R, B, k, p, q, y, rfl, _⟩ := h
    rfl
  obtain ⟨H0, x, N, M, ms, us, R, B, k, p, q, y, rfl, z, t, hN, hM, hk, hrow, fin⟩ := h
  have hq := t.ok _ (List.mem_of_getElem? hrow)
  have hu := hu_of hr
  refine ⟨_, (pss_cons (ps_for PassesOwn.never rfl (pi_list (pe_dget2 hu (pec_fld T.cl_Settling T.n_Settling_goes (cv 0)) (cv 3) (pe_lst pa_nil) ⟨rfl, rfl, rfl, rfl⟩)) (pg_name (i := 4) sc_Settling_work_here.nd rfl (Or.inl rfl))
      (pss_one (ps_expr (pec_meth (pe_meth (PE.mono (cv 0)) T.cl_Settling T.me_Settling_put G_Settling_put (hr.mono (by decide)) T.b_Settling_put .nil pass0 (pa_cons pe_str (pa_cons (cv 2) (pa_cons (pe_ix xc_tup (cv 4) pe_int (fun _ _ => rfl)) (pa_cons (pe_tup (pa_cons (cv 1) (pa_cons (pe_ix xc_tup (cv 4) pe_int (fun _ _ => rfl)) pa_nil))) pa_nil)))))))))
    (pss_one (ps_expr (pec_app (pe_bm PySem.F.plainAttrs_list PySem.F.slot_list_append PySem.F.type_list_append mt_append (PE.mono (pe_dsetd (pec_fld T.cl_Settling T.n_Settling_heres (cv 0)) (cv 3) (pe_lst pa_nil) ⟨rfl, rfl, rfl, rfl⟩)) (pa_cons (PE.mono (pe_tup (pa_cons (cv 1) (pa_cons (cv 2) pa_nil)))) pa_nil)))))), ?_⟩
  have sl : sizeLine = 16777216 := sizeLine_eq
  obtain ⟨Lg, Lh, fg, fh, W⟩ := t.gh
  obtain ⟨rv, hrv, _⟩ := t.r
  obtain ⟨_, Er⟩ := z.r
  refine ⟨_, ⟨_, _, z.hs t, fS_goes _ _ _ _ _ _ _⟩, x.g, rfl, .inl (by obtain ⟨kvs, e, _⟩ := W.d; exact ⟨kvs, .inl e⟩), (by show 0 ≤ sizeLine; decide), fun zz hz => ?_⟩
  obtain ⟨kvs, l, ek, eg, hl, own⟩ := W.d.get p hz
  have s1 := same_new hz (.lst [])
  have t1 := t.same s1
  have nr : l ≠ x.r := fun h => by
    rcases own with m | m
    · rw [h] at m; rw [(W.d0 _ m).1] at Er; cases Er
    · rw [h, hrv] at m; cases m
  have nk : l ≠ x.kn := ne_of hl t1.kn (fun h => nomatch h)
  refine ⟨_, DGet.k (k := Sum.inl p) ek, l, eg, ⟨_, SqL.of hl⟩, for_list (xs := fg p) (fun i σ H2 => ∃ (o : Option V), σ = [some (.ref x.s), some (.int (k : Int)), some (.int q), some (.int p), o] ∧ Stt H0 H2 x N M (putsR R (((dueN (gosF p) R k).take i).map fun h => (⟨false, q, h.2, some ((k : Int), h.1)⟩ : Rw))) B k ∧ Fr2 x (upd H zz (.lst [])) H2)
    ⟨none, rfl, t1, .refl _ _⟩ (fun i σ H2 _ ⟨_, _, _, F⟩ => SqL.of (F _ _ hl nr nk)) ?_ ?_⟩
  · rintro i v σ H2 hv ⟨o, rfl, t2, F⟩
    obtain ⟨hh, tt, hp, rfl, et⟩ := ims_fl (W.dv p).2 hv
    obtain ⟨nn, yy, en, hn, hrr⟩ := gos_mem (List.mem_of_getElem? hp)
    have oo := t.ok _ (List.mem_of_getElem? hrr)
    have et2 := F _ _ (s1 _ _ et) (ne_of et hrv (fun h => nomatch h)) (ne_of et t.kn (fun h => nomatch h))
    refine ⟨⟨_, _, z.hs t2, fS_no "put" _ _ _ _ _ _ _ (by decide +kernel)⟩, _, et2, _, et2, (by show 2 ≤ sizeLine; decide), fun tw hw => ?_⟩
    refine ⟨H0, x, N, M, ms, us, _, B, k, ⟨false, q, hh.2, some ((k : Int), hh.1)⟩, .ref tw, rfl, z, t2.same (same_new hw _), hN, hM, .tup upd_same (.cons (.flat rfl) (.cons (.flat rfl) .nil)), ⟨hq.1, hq.2.1, oo.2.2.1, oo.2.2.2⟩, fun H' t' F' => ⟨_, rfl, ?_, F.trans ((Fr2.of (same_new hw _)).trans F')⟩⟩
    rw [take_map hp, putsR_snoc]
    exact t'
  · rintro σ H2 ⟨o, rfl, t2, F⟩
    have hln := (W.dv p).2.length
    rw [List.length_map] at hln
    rw [hln, List.take_length] at t2
    obtain ⟨more, em⟩ := putsR_pre ((dueN (gosF p) R k).map fun h => (⟨false, q, h.2, some ((k : Int), h.1)⟩ : Rw)) R
    have hrow2 : (putsR R ((dueN (gosF p) R k).map fun h => (⟨false, q, h.2, some ((k : Int), h.1)⟩ : Rw)))[k]? = some ⟨false, q, p, y⟩ := by rw [em, List.getElem?_append_left (List.getElem?_eq_some_iff.mp hrow).1]; exact hrow
    obtain ⟨Lg2, Lh2, fg2, fh2, W2⟩ := t2.gh
    refine ⟨_, ⟨_, _, z.hs t2, fS_heres _ _ _ _ _ _ _⟩, x.h, rfl, .inl (by obtain ⟨kvs, e, _⟩ := W2.e; exact ⟨kvs, .inl e⟩), (by show 0 ≤ sizeLine; decide), fun z2 hz2 => ?_⟩
    obtain ⟨kvs2, ek2, hl2, c1, c2⟩ := t2.goH z hrow2 hz2
    refine ⟨kvs2, Sum.inl p, ek2, rfl, by omega, fun v hv => ?_, fun hn => ?_⟩
    · obtain ⟨l2, rfl, xs, el, hx, go⟩ := c1 v hv
      exact ⟨⟨xs, el⟩, (by show 2 ≤ sizeLine; decide), fun tt ht => ⟨xs, same_new ht _ _ _ el, by omega, fin _ (go tt ht)⟩⟩
    · obtain ⟨xs, el, hx, go⟩ := c2 hn
      exact ⟨⟨xs, el⟩, (by show 2 ≤ sizeLine; decide), fun tt ht => ⟨xs, same_new ht _ _ _ el, by omega, fin _ (go tt ht)⟩⟩
end
end K33.Internal
namespace K33.Internal
open PySem L2.Internal BO.Internal
seal L2.Internal.PE L2.Internal.PA L2.Internal.PS L2.Internal.PSs L2.Internal.PT L2.Internal.PI
noncomputable def nmB (us : List Us) (ms : List Mk3) (m j : Int) : Bool := match us[j.toNat]?, ms[m.toNat]? with
  | some u, some k => (meet u k.f).isNone
  | _, _ => false
noncomputable def dueF (us : List Us) (ms : List Mk3) (ρ : Rw) (k : Int) : List (Int × Int) := match ρ.w with
  | true => []
  | false => bdn (atU us) (nmB us ms ρ.a) ρ.b k us.length
noncomputable def useR (us : List Us) (ms : List Mk3) (m n : Int) (R : List Rw) (j : Int) : List Rw := match us[j.toNat]?, ms[m.toNat]? with
  | some u, some mk => (match meet u mk.f with
    | none => R
    | some l => putsR R (l.map fun p => ⟨true, p.1, p.2, some (n, j)⟩))
  | _, _ => R
noncomputable def usesR (us : List Us) (ms : List Mk3) (m n : Int) (R : List Rw) (L : List Int) : List Rw := L.foldl (useR us ms m n) R
theorem useR_pre (us : List Us) (ms : List Mk3) (m n : Int) (R : List Rw) (j : Int) : ∃ more, useR us ms m n R j = R ++ more := by
  unfold useR
  split
  · split
    · exact ⟨[], (List.append_nil _).symm⟩
    · exact putsR_pre _ _
  · exact ⟨[], (List.append_nil _).symm⟩
theorem usesR_pre (us : List Us) (ms : List Mk3) (m n : Int) : ∀ (L : List Int) (R : List Rw), ∃ more, usesR us ms m n R L = R ++ more
  | [], R => ⟨[], (List.append_nil _).symm⟩
  | j :: L, R => by
    obtain ⟨m1, e1⟩ := useR_pre us ms m n R j
    obtain ⟨m2, e2⟩ := usesR_pre us ms m n L (useR us ms m n R j)
    refine ⟨m1 ++ m2, ?_⟩
    show usesR us ms m n (useR us ms m n R j) L = _
    rw [e2, e1, List.append_assoc]
theorem usesR_take {us : List Us} {ms : List Mk3} {m n : Int} {R : List Rw} {L : List Int} {i : Nat} {j : Int} (h : L[i]? = some j) : usesR us ms m n R (L.take (i + 1)) = useR us ms m n (usesR us ms m n R (L.take i)) j := by
  rw [List.take_add_one, h]
  unfold usesR
  rw [List.foldl_append]
  rfl
noncomputable def stepR (us : List Us) (ms : List Mk3) (R : List Rw) (k : Nat) (ρ : Rw) : List Rw := match ρ.w with
  | true => putsR R ((dueN (herF ρ.a) R k).map fun h => (⟨false, h.2, ρ.b, some (h.1, (k : Int))⟩ : Rw))
  | false => putsR (usesR us ms ρ.a (k : Int) R (ixn (atU us) ρ.b us.length)) ((dueN (gosF ρ.b) R k).map fun h => (⟨false, ρ.a, h.2, some ((k : Int), h.1)⟩ : Rw))
theorem stepR_pre (us : List Us) (ms : List Mk3) (R : List Rw) (k : Nat) (ρ : Rw) : ∃ more, stepR us ms R k ρ = R ++ more := by
  unfold stepR
  split
  · exact putsR_pre _ _
  · obtain ⟨m1, e1⟩ := usesR_pre us ms ρ.a (k : Int) (ixn (atU us) ρ.b us.length) R
    obtain ⟨m2, e2⟩ := putsR_pre ((dueN (gosF ρ.b) R k).map fun h => (⟨false, ρ.a, h.2, some ((k : Int), h.1)⟩ : Rw)) (usesR us ms ρ.a (k : Int) R (ixn (atU us) ρ.b us.length))
    exact ⟨m1 ++ m2, by rw [e2, e1, List.append_assoc]⟩
theorem filt_take {L : List Int} {q : Int → Bool} {n : Int} {i : Nat} {j : Int} (h : L[i]? = some j) : ((L.take (i + 1)).filter q).map (fun j => (n, j)) = ((L.take i).filter q).map (fun j => (n, j)) ++ if q j = true then [(n, j)] else [] := by
  rw [List.take_add_one, h, Option.toList, List.filter_append, List.map_append]
  congr 1
  by_cases e : q j = true
  · rw [if_pos e]; simp [e]
  · rw [if_neg e]; simp [e]
theorem das_fl {H : Hp} : ∀ {fv : List V} {l : List (Int × Int)}, Dtas H fv (l.map flD) → Ims H fv (l.map flD)
  | _, [], .nil => .nil
  | _, p :: t, .cons h hs => by
    refine .cons ?_ (das_fl hs)
    cases h with
    | tup e es =>
      cases es with
      | cons h1 es =>
        cases h1
        cases es with
        | cons h2 es =>
          cases h2
          cases es
          exact .tup e (.cons (.flat rfl) (.cons (.flat rfl) .nil))
theorem rw_fl {H : Hp} {rv : List V} {R : List Rw} {l : List (Int × Int)} (h1 : Ims H rv (R.map Rw.d)) (h2 : Ims H rv (l.map flD)) (hR : R ≠ []) : False := by
  cases R with
  | nil => exact hR rfl
  | cons r R =>
    cases h1 with
    | cons a _ =>
      cases l with
      | nil => cases h2
      | cons p l =>
        cases h2 with
        | cons b _ =>
          obtain ⟨t, xs, rfl, e, hs⟩ := im_nil a
          obtain ⟨t', xs', e', e2, hs'⟩ := im_nil b
          cases e'
          rw [e] at e2
          cases e2
          have y1 := hs.length
          have y2 := hs'.length
          rw [y1] at y2
          simp at y2
theorem asg_by {te : TE} {i : Nat} {D : Ends} {σ : St} {H : Hp} {u : TS} (R : V → Hp → Prop) (ht : ∀ Q : VK, (∀ v H1, R v H1 → Q v H1) → te σ H Q) (h : ∀ v H1, R v H1 → u D (σ.set i (some v)) H1) : tSeq (tAsg te (gName i)) u D σ H := ht _ h
theorem ims_rw {H : Hp} : ∀ {rv : List V} {R : List Rw} {i : Nat} {ρ : Rw}, Ims H rv (R.map Rw.d) → R[i]? = some ρ → ∃ t wv, rv[i]? = some (.ref t) ∧ H t = some (.tup [.str (wd ρ.w), .int ρ.a, .int ρ.b, wv]) ∧ Im H wv (whyD ρ.y)
  | _, [], _, _, _, e => by simp at e
  | _, r :: R, 0, ρ, .cons h _, e => by
    cases e
    obtain ⟨t, xs, rfl, e, hs⟩ := im_nil h
    cases hs with
    | cons h1 hs =>
      cases h1
      cases hs with
      | cons h2 hs =>
        cases h2
        cases hs with
        | cons h3 hs =>
          cases h3
          cases hs with
          | cons h4 hs => cases hs; exact ⟨t, _, rfl, e, h4⟩
  | _, r :: R, i + 1, ρ, .cons _ t, e => by
    rw [List.getElem?_cons_succ] at e
    obtain ⟨q, u, e1, e2⟩ := ims_rw t e
    exact ⟨q, u, by rw [List.getElem?_cons_succ]; exact e1, e2⟩
section
variable {c : Cs} {S : Addr} {H0 H H' : Hp} {x : Sx} {N M : Int} {R : List Rw} {B : List (Int × Int)} {k : Nat} {ms : List Mk3} {us : List Us}
theorem Stat.uaH (z : Stat c S H0 x ms us) (t : Stt H0 H x N M R B k) : DL H x.ua x.Lu (ixv us us.length) us.length := by
  obtain ⟨_, Er⟩ := z.r
  obtain ⟨_, Eb⟩ := z.bd
  obtain ⟨_, Ek⟩ := z.kn
  exact z.ua.keep (fun kvs e => t.keep _ _ e (ne_of e Er (fun h => nomatch h)) (ne_of e Eb (fun h => nomatch h)) (ne_of e Ek (fun h => nomatch h)) z.n3 z.n4) (fun a l m e => z.lst t e (z.n9 a m).1 (z.n9 a m).2)
noncomputable def Fr3 (x : Sx) (H H' : Hp) : Prop := ∀ a o, H a = some o → a ≠ x.r → a ≠ x.kn → a ≠ x.bd → H' a = some o
theorem Stt.bad (z : Stat c S H0 x ms us) (t : Stt H0 H x N M R B k) {n u : Int} {tt : Addr} {bv : List V} (hb : H x.bd = some (.lst bv)) (ht : H tt = none) :
    Stt H0 (upd (upd H tt (.tup [.int n, .int u])) x.bd (.lst (bv ++ [.ref tt]))) x N M R (B ++ [(n, u)]) k := by
  have s1 := same_new ht (.tup [.int n, .int u])
  have e1 : (upd H tt (.tup [.int n, .int u])) tt = some (.tup [.int n, .int u]) := upd_same
  have t1 := t.same s1
  have hb1 := s1 _ _ hb
  generalize upd H tt (.tup [.int n, .int u]) = H1 at s1 t1 hb1 e1 ⊢
  obtain ⟨keep, ⟨rv, r1, r2⟩, ⟨bv', b1, b2⟩, kn, ⟨Lg, Lh, fg, fh, W⟩, nd, ok, kl⟩ := t1
  rw [hb1] at b1
  cases b1
  obtain ⟨_, Eb⟩ := z.bd
  obtain ⟨_, Eg⟩ := z.g
  obtain ⟨_, Eh⟩ := z.h
  have F : ∀ a o, H1 a = some o → a ≠ x.bd → (upd H1 x.bd (.lst (bv ++ [.ref tt]))) a = some o := fun a o e m => by rw [upd_ne m]; exact e
  have tk : TK H1 (upd H1 x.bd (.lst (bv ++ [.ref tt]))) := fun a xs e => F a _ e (ne_of e hb1 (fun h => nomatch h))
  refine ⟨fun a o e m1 m2 m3 m4 m5 => F a o (keep a o e m1 m2 m3 m4 m5) m2, ⟨rv, F _ _ r1 z.n1, r2.mono tk⟩, ⟨_, upd_same, ?_⟩, F _ _ kn (ne_of kn hb1 (fun h => nomatch h)), ⟨Lg, Lh, fg, fh, W.frame (fun a o e m => F a o e (fun h => ?_)) tk⟩, nd, ok, kl⟩
  · rw [List.map_append]
    exact (b2.mono tk).app (.cons (.tup (tk _ _ e1) (.cons (.flat rfl) (.cons (.flat rfl) .nil))) .nil)
  · rcases m with m | m | m
    · rw [h] at m; exact absurd (show some (HO.lst _) = some (HO.dK _) by rw [← Eb, m, Eg]) (fun h => nomatch h)
    · rw [h] at m; exact absurd (show some (HO.lst _) = some (HO.dK _) by rw [← Eb, m, Eh]) (fun h => nomatch h)
    · rw [h, Eb] at m; cases m
end
section
variable {P : Program} {w : World} {K : PySem.W.Frag} {mg : Str → Option Value} {base : Heap}
noncomputable def sp_wU (c : Cs) (S : Addr) : Sp := fun vs H Q _ => ∃ (H0 : Hp) (x : Sx) (N : Int) (ms : List Mk3) (us : List Us) (fs : List (Int × Int)) (R : List Rw) (B : List (Int × Int)) (k : Nat) (n p : Int) (m : Nat), vs = [.ref x.s, .int n, .int (m : Int), .int p] ∧ Stat c S H0 x ms us ∧ Stt H0 H x N ms.length R B k ∧ Dat N ms us fs ∧ m < ms.length ∧ R ≠ [] ∧ B.length ≤ 1000000 ∧
  ∀ H', Stt H0 H' x N ms.length (usesR us ms (m : Int) n R (ixn (atU us) p us.length)) (B ++ bdn (atU us) (nmB us ms m) p n us.length) k → TK H H' → Q .non H'
theorem ok_Settling_work_uses (T : Txt K mg) : FnOk P w K mg base CX0 3 T.a_Settling_work_uses T.fd_Settling_work_uses ["self", "number", "m", "p"] (sp_wU (cs T) T.a_Settling) := by
  have G_Settling_put_flows := ok_Settling_put_flows (P := P) (w := w) (base := base) T
  have G_NumUse_met := ok_NumUse_met (P := P) (w := w) (base := base) T
  have G_CallUse_met := ok_CallUse_met (P := P) (w := w) (base := base) T
  have G_TakeUse_met := ok_TakeUse_met (P := P) (w := w) (base := base) T
  have G_CaseUse_met := ok_CaseUse_met (P := P) (w := w) (base := base) T
  have G_RowUse_met := ok_RowUse_met (P := P) (w := w) (base := base) T
  refine T.F_Settling_work_uses.ok sc_Settling_work_uses (fun vs H Q E h => ?_) (fun cdv A outer s H vs Q E hr h => ?_)
  · obtain ⟨H0, x, N, ms, us, fs, R, B, k, n, p, m, rfl, _⟩ := h
    rfl
  obtain ⟨H0, x, N, ms, us, fs, R, B, k, n, p, m, rfl, z, t, dat, hm, hR, hB, fin⟩ := h
  have hu := hu_of hr
  refine ⟨_, (pss_one (ps_for PassesOwn.never rfl (pi_list (pe_dget2 hu (pec_fld T.cl_Settling T.n_Settling_uses_at (cv 0)) (cv 3) (pe_lst pa_nil) ⟨rfl, rfl, rfl, rfl⟩)) (pg_name (i := 4) sc_Settling_work_uses.nd rfl (Or.inl rfl))
      (pss_cons (ps_set (i := 5) sc_Settling_work_uses.nd rfl (Or.inl rfl) (PE.or (pec_meth (pe_meth (PE.mono (pe_ix xc_list (pec_fld T.cl_Board T.n_Board_uses (pec_fld T.cl_Settling T.n_Settling_board (cv 0))) (cv 4) (fun _ _ => rfl))) T.cl_NumUse T.me_NumUse_met G_NumUse_met (hr.mono (by decide)) T.b_NumUse_met .nil pass0 (pa_cons (pe_ix xc_list (pec_fld T.cl_Board T.n_Board_makes (pec_fld T.cl_Settling T.n_Settling_board (cv 0))) (cv 2) (fun _ _ => rfl)) pa_nil))) (PE.or (pec_meth (pe_meth (PE.mono (pe_ix xc_list (pec_fld T.cl_Board T.n_Board_uses (pec_fld T.cl_Settling T.n_Settling_board (cv 0))) (cv 4) (fun _ _ => rfl))) T.cl_CallUse T.me_CallUse_met G_CallUse_met (hr.mono (by decide)) T.b_CallUse_met .nil pass0 (pa_cons (pe_ix xc_list (pec_fld T.cl_Board T.n_Board_makes (pec_fld T.cl_Settling T.n_Settling_board (cv 0))) (cv 2) (fun _ _ => rfl)) pa_nil))) (PE.or (pec_meth (pe_meth (PE.mono (pe_ix xc_list (pec_fld T.cl_Board T.n_Board_uses (pec_fld T.cl_Settling T.n_Settling_board (cv 0))) (cv 4) (fun _ _ => rfl))) T.cl_TakeUse T.me_TakeUse_met G_TakeUse_met (hr.mono (by decide)) T.b_TakeUse_met .nil pass0 (pa_cons (pe_ix xc_list (pec_fld T.cl_Board T.n_Board_makes (pec_fld T.cl_Settling T.n_Settling_board (cv 0))) (cv 2) (fun _ _ => rfl)) pa_nil))) (PE.or (pec_meth (pe_meth (PE.mono (pe_ix xc_list (pec_fld T.cl_Board T.n_Board_uses (pec_fld T.cl_Settling T.n_Settling_board (cv 0))) (cv 4) (fun _ _ => rfl))) T.cl_CaseUse T.me_CaseUse_met G_CaseUse_met (hr.mono (by decide)) T.b_CaseUse_met .nil pass0 (pa_cons (pe_ix xc_list (pec_fld T.cl_Board T.n_Board_makes (pec_fld T.cl_Settling T.n_Settling_board (cv 0))) (cv 2) (fun _ _ => rfl)) pa_nil))) (pec_meth (pe_meth (PE.mono (pe_ix xc_list (pec_fld T.cl_Board T.n_Board_uses (pec_fld T.cl_Settling T.n_Settling_board (cv 0))) (cv 4) (fun _ _ => rfl))) T.cl_RowUse T.me_RowUse_met G_RowUse_met (hr.mono (by decide)) T.b_RowUse_met .nil pass0 (pa_cons (pe_ix xc_list (pec_fld T.cl_Board T.n_Board_makes (pec_fld T.cl_Settling T.n_Settling_board (cv 0))) (cv 2) (fun _ _ => rfl)) pa_nil))))))))
      (pss_one (ps_if (pt_cmp (pc_isN (cv 5)))
        (pss_one (ps_expr (pec_app (pe_bm PySem.F.plainAttrs_list PySem.F.slot_list_append PySem.F.type_list_append mt_append (PE.mono (pec_fld T.cl_Settling T.n_Settling_bads (cv 0))) (pa_cons (PE.mono (pe_tup (pa_cons (cv 1) (pa_cons (cv 4) pa_nil)))) pa_nil)))))
        (pss_one (ps_expr (pec_meth (pe_meth (PE.mono (cv 0)) T.cl_Settling T.me_Settling_put_flows G_Settling_put_flows (hr.mono (by decide)) T.b_Settling_put_flows .nil pass0 (pa_cons (cv 5) (pa_cons (pe_tup (pa_cons (cv 1) (pa_cons (cv 4) pa_nil))) pa_nil))))))))))), ?_⟩
  have sl : sizeLine = 16777216 := sizeLine_eq
  have hM : (ms.length : Int) ≤ 64 := by have := dat.lm; omega
  obtain ⟨rv, hrv, _⟩ := t.r
  obtain ⟨bv0, hbv0, _⟩ := t.bd
  refine ⟨_, ⟨_, _, z.hs t, fS_uses_at _ _ _ _ _ _ _⟩, x.ua, rfl, .inl (by obtain ⟨kvs, e, _⟩ := z.uaH t; exact ⟨kvs, .inl e⟩), (by show 0 ≤ sizeLine; decide), fun zz hz => ?_⟩
  obtain ⟨kvs, l, ek, eg, hl, own⟩ := (z.uaH t).get p hz
  have s1 := same_new hz (.lst [])
  have t1 := t.same s1
  have nr : l ≠ x.r := fun h => by
    rcases own with m | m
    · exact (z.n9 l m).1 h
    · rw [h, hrv] at m; cases m
  have nb : l ≠ x.bd := fun h => by
    rcases own with m | m
    · exact (z.n9 l m).2 h
    · rw [h, hbv0] at m; cases m
  have nk : l ≠ x.kn := ne_of hl t1.kn (fun h => nomatch h)
  obtain ⟨uv, eu, hU⟩ := z.u
  obtain ⟨mv, em, hMk⟩ := z.m
  obtain ⟨mk, hmk⟩ : ∃ mk, ms[m]? = some mk := ⟨_, List.getElem?_eq_getElem hm⟩
  obtain ⟨mvv, hmvv⟩ : ∃ v, mv[m]? = some v := ⟨_, List.getElem?_eq_getElem (by rw [hMk.length]; exact hm)⟩
  obtain ⟨mk', hmk', hM3⟩ := hMk.get hmvv
  rw [hmk] at hmk'
  cases hmk'
  have mo := dat.mo mk (List.mem_of_getElem? hmk)
  refine ⟨_, DGet.k (k := Sum.inl p) ek, l, eg, ⟨_, SqL.of hl⟩, for_list (xs := ixv us us.length p) (fun i σ H2 => ∃ (o5 o6 : Option V), σ = [some (.ref x.s), some (.int n), some (.int (m : Int)), some (.int p), o5, o6] ∧ Stt H0 H2 x N ms.length (usesR us ms (m : Int) n R ((ixn (atU us) p us.length).take i)) (B ++ (((ixn (atU us) p us.length).take i).filter (nmB us ms m)).map fun j => (n, j)) k ∧ Fr3 x (upd H zz (.lst [])) H2)
    ⟨none, none, rfl, (by show Stt H0 _ x N ms.length R (B ++ []) k; rw [List.append_nil]; exact t1), fun _ _ e _ _ _ => e⟩ (fun i σ H2 _ ⟨_, _, _, _, F⟩ => SqL.of (F _ _ hl nr nk nb)) ?_ ?_⟩
  · rintro i v σ H2 hv ⟨o5, o6, rfl, t2, F⟩
    unfold ixv at hv
    rw [List.getElem?_map] at hv
    cases hj : (ixn (atU us) p us.length)[i]? with
    | none => rw [hj] at hv; cases hv
    | some j' =>
    rw [hj] at hv
    cases hv
    obtain ⟨j, rfl, hjl, hat⟩ := ixn_mem (List.mem_of_getElem? hj)
    have hi : i ≤ us.length := Nat.le_of_lt (Nat.lt_of_lt_of_le (List.getElem?_eq_some_iff.mp hj).1 ixn_len)
    obtain ⟨u, hu1⟩ : ∃ u, us[j]? = some u := ⟨_, List.getElem?_eq_getElem hjl⟩
    obtain ⟨xv, hxv⟩ : ∃ v, uv[j]? = some v := ⟨_, List.getElem?_eq_getElem (by rw [hU.length]; exact hjl)⟩
    obtain ⟨u', hu2, hux⟩ := hU.get hxv
    rw [hu1] at hu2
    cases hu2
    have uo := dat.uo u (List.mem_of_getElem? hu1)
    have fk := z.fk t2
    have hux2 := hux.mono fk
    have hM2 : MkAt (cs T) H2 mvv (mkg mk.f mk.a mk.p) := MkAt.mono fk hM3
    have hp2 := z.lst t2 eu z.n7 z.n8
    have hp1 := z.lst t2 em z.n5 z.n6
    have hnm : nmB us ms m j = (meet u mk.f).isNone := by unfold nmB; rw [Int.toNat_natCast, Int.toNat_natCast, hu1, hmk]
    have huse : ∀ Rx, useR us ms (m : Int) n Rx (j : Int) = (match meet u mk.f with | none => Rx | some l => putsR Rx (l.map fun p => ⟨true, p.1, p.2, some (n, (j : Int))⟩)) := fun Rx => by unfold useR; rw [Int.toNat_natCast, Int.toNat_natCast, hu1, hmk]
    dsimp only [gName]
    refine asg_by (R := fun v H3 => Same H2 H3 ∧ Dta H3 v (mtD (meet u mk.f))) (fun Q' key => ?_) (fun v H3 ⟨S3, hd⟩ => ?_)
    · have hs2 := z.hs t2
      have hb2 := z.hb t2
      have key' : ∀ v H', Same H2 H' → Dta H' v (mtD (meet u mk.f)) → Q' v H' := fun v H' a b => key v H' ⟨a, b⟩
      cases u with
      | num a1 a2 a3 =>
        obtain ⟨xu, dxu, rfl, e⟩ := id hux2
        exact .inl ⟨_, ⟨_, _, hs2, fS_board _ _ _ _ _ _ _⟩, _, ⟨_, _, hb2, fB_uses _ _ _ _ _⟩, uv, hp2, onS_of (atI_nat hxv) ⟨⟨_, _, e, fU_no_met _ _ _⟩, _, ⟨_, _, hs2, fS_board _ _ _ _ _ _ _⟩, _, ⟨_, _, hb2, fB_makes _ _ _ _ _⟩, mv, hp1, onS_of (atI_nat hmvv) ⟨_, _, _, mk.f, mk.a, mk.p, rfl, ⟨_, _, _, rfl⟩, uo.1, hux2, hM2, mo.1, key'⟩⟩⟩
      | call a1 a2 a3 a4 a5 =>
        obtain ⟨xu, dxu, rfl, e⟩ := id hux2
        exact .inr (.inl ⟨_, ⟨_, _, hs2, fS_board _ _ _ _ _ _ _⟩, _, ⟨_, _, hb2, fB_uses _ _ _ _ _⟩, uv, hp2, onS_of (atI_nat hxv) ⟨⟨_, _, e, fU2_no_met _ _ _ _ _⟩, _, ⟨_, _, hs2, fS_board _ _ _ _ _ _ _⟩, _, ⟨_, _, hb2, fB_makes _ _ _ _ _⟩, mv, hp1, onS_of (atI_nat hmvv) ⟨_, _, _, mk.f, mk.a, mk.p, rfl, ⟨_, _, _, _, _, rfl⟩, uo.1, hux2, hM2, mo.1, key'⟩⟩⟩)
      | take a1 a2 a3 a4 =>
        obtain ⟨xu, dxu, f, rfl, e, _⟩ := id hux2
        exact .inr (.inr (.inl ⟨_, ⟨_, _, hs2, fS_board _ _ _ _ _ _ _⟩, _, ⟨_, _, hb2, fB_uses _ _ _ _ _⟩, uv, hp2, onS_of (atI_nat hxv) ⟨⟨_, _, e, fU1F_no_met _ _ _ _⟩, _, ⟨_, _, hs2, fS_board _ _ _ _ _ _ _⟩, _, ⟨_, _, hb2, fB_makes _ _ _ _ _⟩, mv, hp1, onS_of (atI_nat hmvv) ⟨_, _, _, mk.f, mk.a, mk.p, rfl, ⟨_, _, _, _, rfl⟩, uo.1, hux2, hM2, mo.1, key'⟩⟩⟩))
      | case a1 a2 a3 a4 =>
        obtain ⟨xu, dxu, f, rfl, e, _⟩ := id hux2
        exact .inr (.inr (.inr (.inl ⟨_, ⟨_, _, hs2, fS_board _ _ _ _ _ _ _⟩, _, ⟨_, _, hb2, fB_uses _ _ _ _ _⟩, uv, hp2, onS_of (atI_nat hxv) ⟨⟨_, _, e, fU1A_no_met _ _ _ _⟩, _, ⟨_, _, hs2, fS_board _ _ _ _ _ _ _⟩, _, ⟨_, _, hb2, fB_makes _ _ _ _ _⟩, mv, hp1, onS_of (atI_nat hmvv) ⟨_, _, _, mk.f, mk.a, mk.p, rfl, ⟨_, _, _, _, rfl⟩, uo.1, hux2, hM2, mo.1, key'⟩⟩⟩)))
      | row a1 a2 a3 a4 =>
        obtain ⟨xu, dxu, rfl, e⟩ := id hux2
        exact .inr (.inr (.inr (.inr ⟨_, ⟨_, _, hs2, fS_board _ _ _ _ _ _ _⟩, _, ⟨_, _, hb2, fB_uses _ _ _ _ _⟩, uv, hp2, onS_of (atI_nat hxv) ⟨⟨_, _, e, fU1O_no_met _ _ _ _⟩, _, ⟨_, _, hs2, fS_board _ _ _ _ _ _ _⟩, _, ⟨_, _, hb2, fB_makes _ _ _ _ _⟩, mv, hp1, onS_of (atI_nat hmvv) ⟨_, _, _, mk.f, mk.a, mk.p, rfl, ⟨_, _, _, _, rfl⟩, uo.1, hux2, hM2, mo.1, key'⟩⟩⟩)))
    have t3 := t2.same S3
    have hs3 := z.hs t3
    have F3 : Fr3 x (upd H zz (.lst [])) H3 := fun a o e n1 n2 n3 => S3 _ _ (F a o e n1 n2 n3)
    cases e : meet u mk.f with
    | none =>
      rw [e] at hd
      cases hd
      refine ⟨true, by rw [decide_eq_true rfl], iteT ?_⟩
      obtain ⟨bv, hbv, hbl⟩ := t3.bd
      have hbn : bv.length ≤ 1000000 + us.length := by
        rw [hbl.length, List.length_map, List.length_append, List.length_map]
        have := List.length_filter_le (nmB us ms m) ((ixn (atU us) p us.length).take i)
        have := List.length_take_le i (ixn (atU us) p us.length)
        omega
      have := dat.lu
      refine ⟨_, ⟨_, _, hs3, fS_bads _ _ _ _ _ _ _⟩, ⟨_, hbv⟩, (by show 2 ≤ sizeLine; decide), fun tt ht => ⟨bv, same_new ht _ _ _ hbv, by omega, _, _, rfl, ?_, fun a o e n1 n2 n3 => ?_⟩⟩
      · rw [usesR_take hj, huse, e, filt_take hj, hnm, e, if_pos (show (none : Option (List (Int × Int))).isNone = true from rfl), ← List.append_assoc]
        exact t3.bad z hbv ht
      · rw [upd_ne n3]
        exact same_new ht _ _ _ (F3 a o e n1 n2 n3)
    | some lf =>
      rw [e] at hd
      cases hd with
      | @lst f fv _ ef hfl =>
      refine ⟨false, by rw [decide_eq_false (fun h => nomatch h)], iteF ?_⟩
      refine ⟨⟨_, _, hs3, fS_no "put_flows" _ _ _ _ _ _ _ (by decide +kernel)⟩, (by show 2 ≤ sizeLine; decide), fun tw hw => ?_⟩
      have S4 := same_new hw (.tup [.int n, .int (j : Int)])
      have fr : f ≠ x.r := fun h => by
        obtain ⟨rv3, hrv3, hrl⟩ := t3.r
        rw [h, hrv3] at ef
        cases ef
        obtain ⟨more, em⟩ := usesR_pre us ms (m : Int) n ((ixn (atU us) p us.length).take i) R
        exact rw_fl hrl (das_fl hfl) (by rw [em]; simp [hR])
      refine ⟨H0, x, N, ms.length, ms, us, _, _, k, f, fv, lf, some (n, (j : Int)), .ref tw, rfl, z, t3.same S4, dat.n1, hM, S4 _ _ ef, (das_fl hfl).mono (Same.tk S4), fr, meet_rng uo.2 mo.2.1 e, .tup upd_same (.cons (.flat rfl) (.cons (.flat rfl) .nil)), fun H' t' F' => ?_⟩
      refine ⟨_, _, rfl, ?_, fun a o e n1 n2 n3 => F' a o (S4 _ _ (F3 a o e n1 n2 n3)) n1 n2⟩
      rw [usesR_take hj, huse, e, filt_take hj, hnm, e, if_neg (by simp), List.append_nil]
      exact t'
  · rintro σ H2 ⟨o5, o6, rfl, t2, F⟩
    refine fin H2 ?_ fun a xs e => F a _ (s1 _ _ e) (ne_of e hrv (fun h => nomatch h)) (ne_of e t.kn (fun h => nomatch h)) (ne_of e hbv0 (fun h => nomatch h))
    unfold ixv at t2
    rw [List.length_map, List.take_length] at t2
    exact t2
noncomputable def sp_work (c : Cs) (S : Addr) : Sp := fun vs H Q _ => ∃ (H0 : Hp) (x : Sx) (N : Int) (ms : List Mk3) (us : List Us) (fs : List (Int × Int)) (R : List Rw) (B : List (Int × Int)) (k : Nat) (ρ : Rw), vs = [.ref x.s, .int (k : Int)] ∧ Stat c S H0 x ms us ∧ Stt H0 H x N ms.length R B k ∧ Dat N ms us fs ∧ R[k]? = some ρ ∧ B.length ≤ 64 * k ∧
  ∀ H', Stt H0 H' x N ms.length (stepR us ms R k ρ) (B ++ dueF us ms ρ k) (k + 1) → Q .non H'
theorem wd_t : (xor false (decide (wd true = ("goes" : Str)))) = true := by decide +kernel
theorem wd_f : (xor false (decide (wd false = ("goes" : Str)))) = false := by decide +kernel
theorem ok_Settling_work (T : Txt K mg) : FnOk P w K mg base CX0 4 T.a_Settling_work T.fd_Settling_work ["self", "number"] (sp_work (cs T) T.a_Settling) := by
  have G_Settling_work_goes := ok_Settling_work_goes (P := P) (w := w) (base := base) T
  have G_Settling_work_here := ok_Settling_work_here (P := P) (w := w) (base := base) T
  have G_Settling_work_uses := ok_Settling_work_uses (P := P) (w := w) (base := base) T
  refine T.F_Settling_work.ok sc_Settling_work (fun vs H Q E h => ?_) (fun cdv A outer s H vs Q E hr h => ?_)
  · obtain ⟨H0, x, N, ms, us, fs, R, B, k, ρ, rfl, _⟩ := h
    rfl
  obtain ⟨H0, x, N, ms, us, fs, R, B, k, ρ, rfl, z, t, dat, hk, hB, fin⟩ := h
  refine ⟨_, (pss_cons (ps_set (i := 2) sc_Settling_work.nd rfl (Or.inl rfl) (pe_ix xc_list (pec_fld T.cl_Settling T.n_Settling_rows (cv 0)) (cv 1) (fun _ _ => rfl)))
    (pss_one (ps_if (ptc_cmpR oc_eq (pe_ix xc_tup (cv 2) pe_int (fun _ _ => rfl)) pe_str (nomark _))
      (pss_one (ps_expr (pec_meth (pe_meth (PE.mono (cv 0)) T.cl_Settling T.me_Settling_work_goes G_Settling_work_goes (hr.mono (by decide)) T.b_Settling_work_goes .nil pass0 (pa_cons (cv 1) (pa_cons (pe_ix xc_tup (cv 2) pe_int (fun _ _ => rfl)) (pa_cons (pe_ix xc_tup (cv 2) pe_int (fun _ _ => rfl)) pa_nil)))))))
      (pss_cons (ps_expr (pec_meth (pe_meth (PE.mono (cv 0)) T.cl_Settling T.me_Settling_work_uses G_Settling_work_uses (hr.mono (by decide)) T.b_Settling_work_uses .nil pass0 (pa_cons (cv 1) (pa_cons (pe_ix xc_tup (cv 2) pe_int (fun _ _ => rfl)) (pa_cons (pe_ix xc_tup (cv 2) pe_int (fun _ _ => rfl)) pa_nil))))))
      (pss_one (ps_expr (pec_meth (pe_meth (PE.mono (cv 0)) T.cl_Settling T.me_Settling_work_here G_Settling_work_here (hr.mono (by decide)) T.b_Settling_work_here .nil pass0 (pa_cons (cv 1) (pa_cons (pe_ix xc_tup (cv 2) pe_int (fun _ _ => rfl)) (pa_cons (pe_ix xc_tup (cv 2) pe_int (fun _ _ => rfl)) pa_nil))))))))))), ?_⟩
  have hM : (ms.length : Int) ≤ 64 := by have := dat.lm; omega
  have hlen := t.len dat.n1 hM
  have hkl := (List.getElem?_eq_some_iff.mp hk).1
  obtain ⟨rv, hrv, hrl⟩ := t.r
  obtain ⟨tr, wv, h1, h2, _⟩ := ims_rw hrl hk
  obtain ⟨o1, o2, o3, o4⟩ := t.ok ρ (List.mem_of_getElem? hk)
  refine ⟨_, ⟨_, _, z.hs t, fS_rows _ _ _ _ _ _ _⟩, rv, hrv, onS_of (atI_nat h1) ⟨_, h2, onS_of (atI_nat (j := 0) rfl) ?_⟩⟩
  obtain ⟨w', a, b, y⟩ := ρ
  cases w' with
  | true =>
    dsimp only at h2 o1 o2 o3 o4 ⊢
    dsimp only [tC, cEq, onB]
    rw [wd_t]
    refine iteT ⟨⟨_, _, z.hs t, fS_no "work_goes" _ _ _ _ _ _ _ (by decide +kernel)⟩, _, h2, _, h2, H0, x, N, ms.length, ms, us, R, B, k, a, b, y, rfl, z, t, dat.n1, hM, by omega, hk, fun H' t' => fin H' ?_⟩
    show Stt H0 H' x N ms.length (putsR R ((dueN (herF a) R k).map fun h => (⟨false, h.2, b, some (h.1, (k : Int))⟩ : Rw))) (B ++ []) (k + 1)
    rw [List.append_nil]
    exact t'
  | false =>
    dsimp only at h2 o1 o2 o3 o4 ⊢
    dsimp only [tC, cEq, onB]
    have ea : a = (a.toNat : Int) := by omega
    rw [wd_f]
    refine iteF ⟨⟨_, _, z.hs t, fS_no "work_uses" _ _ _ _ _ _ _ (by decide +kernel)⟩, _, h2, _, h2, H0, x, N, ms, us, fs, R, B, k, (k : Int), b, a.toNat, (by rw [← ea]; rfl), z, t, dat, by omega, (fun h => by rw [h] at hkl; exact absurd hkl (Nat.not_lt_zero _)), by omega, fun H1 t1 tk => ?_⟩
    have h2' : H1 tr = some (.tup [.str (wd false), .int a, .int b, wv]) := tk _ _ h2
    rw [← ea] at t1
    obtain ⟨more, em⟩ := usesR_pre us ms a (k : Int) (ixn (atU us) b us.length) R
    have eg : ∀ p, dueN (gosF p) (usesR us ms a (k : Int) R (ixn (atU us) b us.length)) k = dueN (gosF p) R k := fun p => by rw [em]; exact due_app (Nat.le_of_lt hkl)
    refine ⟨⟨_, _, z.hs t1, fS_no "work_here" _ _ _ _ _ _ _ (by decide +kernel)⟩, _, h2', _, h2', H0, x, N, ms.length, ms, us, _, _, k, b, a, y, rfl, z, t1, dat.n1, hM, by omega, by rw [em, List.getElem?_append_left hkl]; exact hk, fun H' t' => fin H' ?_⟩
    rw [eg] at t'
    exact t'
end
end K33.Internal
namespace K33.Internal
open PySem L2.Internal BO.Internal
seal L2.Internal.PE L2.Internal.PA L2.Internal.PS L2.Internal.PSs L2.Internal.PT L2.Internal.PI
theorem _root_.BO.Internal.UsAt.to {c : Cs} {H H' : Hp} {v : V} {u : Us} {s S dx : Addr} (h : UsAt c H v u) (hs : H s = some (.ins S dx [])) (k : ∀ a o, H a = some o → a ≠ s → H' a = some o) : UsAt c H' v u := by
  have tk : TK H H' := fun a xs e => k a _ e (ne_of e hs (fun h => nomatch h))
  have n : ∀ {a : Addr} {C d : Addr} {p : Str × V} {r : List (Str × V)}, H a = some (.ins C d (p :: r)) → a ≠ s := fun e => ne_of e hs (fun h => by injection h with _ _ h; cases h)
  cases u with
  | num a p q => obtain ⟨x, d, rfl, e⟩ := h; exact ⟨x, d, rfl, k _ _ e (n e)⟩
  | call a p q y z => obtain ⟨x, d, rfl, e⟩ := h; exact ⟨x, d, rfl, k _ _ e (n e)⟩
  | take a p q l => obtain ⟨x, d, f, rfl, e, i, j⟩ := h; exact ⟨x, d, f, rfl, k _ _ e (n e), i.mono tk, j⟩
  | case a p q l => obtain ⟨x, d, f, rfl, e, i, j⟩ := h; exact ⟨x, d, f, rfl, k _ _ e (n e), i.mono tk, j⟩
  | row a p q y => obtain ⟨x, d, rfl, e⟩ := h; exact ⟨x, d, rfl, k _ _ e (n e)⟩
theorem M3.to {c : Cs} {H H' : Hp} {v : V} {m : Mk3} {s S dx : Addr} (h : M3 c H v m) (hs : H s = some (.ins S dx [])) (k : ∀ a o, H a = some o → a ≠ s → H' a = some o) : M3 c H' v m := by
  have tk : TK H H' := fun a xs e => k a _ e (ne_of e hs (fun h => nomatch h))
  obtain ⟨x, d, f, rfl, e, i, j⟩ := h
  exact ⟨x, d, f, rfl, k _ _ e (ne_of e hs (fun h => by injection h with _ _ h; cases h)), i.mono tk, j⟩
theorem stp {Hc : Hp} {s p : Addr} {o u o2 : HO} (Hs : Hc s = some u) (hp : Hc p = none) : (∀ a w, Hc a = some w → a ≠ s → (upd (upd Hc p o) s o2) a = some w) ∧ (upd (upd Hc p o) s o2) p = some o ∧ (upd (upd Hc p o) s o2) s = some o2 ∧ (upd Hc p o) s = some u := by
  have n : s ≠ p := ne_of_none Hs hp
  refine ⟨fun a w e m => by rw [upd_ne m, upd_ne (ne_of_none e hp)]; exact e, by rw [upd_ne (Ne.symm n)]; exact upd_same, upd_same, by rw [upd_ne n]; exact Hs⟩
noncomputable def g1 (b : Addr) : List (Str × V) := [(("board" : Str), V.ref b)]
noncomputable def g2 (b ua : Addr) : List (Str × V) := g1 b ++ [(("uses_at" : Str), V.ref ua)]
noncomputable def g3 (b ua r : Addr) : List (Str × V) := g2 b ua ++ [(("rows" : Str), V.ref r)]
noncomputable def g4 (b ua r bd : Addr) : List (Str × V) := g3 b ua r ++ [(("bads" : Str), V.ref bd)]
noncomputable def g5 (b ua r bd kn : Addr) : List (Str × V) := g4 b ua r bd ++ [(("known" : Str), V.ref kn)]
noncomputable def g6 (b ua r bd kn g : Addr) : List (Str × V) := g5 b ua r bd kn ++ [(("goes" : Str), V.ref g)]
noncomputable def g7 (b ua r bd kn g h : Addr) : List (Str × V) := g6 b ua r bd kn g ++ [(("heres" : Str), V.ref h)]
section
variable {P : Program} {w : World} {K : PySem.W.Frag} {mg : Str → Option Value} {base : Heap}
noncomputable def sp_Sinit (c : Cs) (S : Addr) : Sp := fun vs H Q _ => ∃ (s dx b bx p0 p1 p2 p3 : Addr) (r0 : V) (uv : List V) (us : List Us), vs = [.ref s, .ref b] ∧ H s = some (.ins S dx []) ∧ H b = some (.ins c.B bx (fB p0 p1 p2 p3 r0)) ∧ H p2 = some (.lst uv) ∧ All2 (UsAt c H) uv us ∧ us.length ≤ 64 ∧
  ∀ (ua r bd kn g h : Addr) (Lu : List Addr) (H' : Hp), (∀ a o, H a = some o → a ≠ s → H' a = some o) → H' s = some (.ins S dx (fS b ua r bd kn g h)) → DL H' ua Lu (ixv us us.length) us.length → H' r = some (.lst []) → H' bd = some (.lst []) → H' kn = some (.dT []) → H' g = some (.dK []) → H' h = some (.dK []) →
    H r = none → H bd = none → H kn = none → H g = none → H h = none → (∀ a ∈ Lu, a ≠ r ∧ a ≠ bd) → r ≠ bd → g ≠ h → ua ≠ g → ua ≠ h → Q .non H'
theorem ok_Settling___init__ (T : Txt K mg) : FnOk P w K mg base CX0 2 T.a_Settling___init__ T.fd_Settling___init__ ["self", "board"] (sp_Sinit (cs T) T.a_Settling) := by
  have G_uses_by_point := ok_uses_by_point (P := P) (w := w) (base := base) T
  refine T.F_Settling___init__.ok sc_Settling___init__ (fun vs H Q E h => ?_) (fun cdv A outer s H vs Q E hr h => ?_)
  · obtain ⟨s, dx, b, bx, p0, p1, p2, p3, r0, uv, us, rfl, _⟩ := h
    rfl
  obtain ⟨s, dx, b, bx, p0, p1, p2, p3, r0, uv, us, rfl, hs, hb, h2, hU, hn, q⟩ := h
  refine ⟨_, (pss_cons (psc_fld T.cl_Settling T.n_Settling_board (ps_fld (PE.mono (cv 0)) (PE.mono (cv 1)) rfl))
    (pss_cons (psc_fld T.cl_Settling T.n_Settling_uses_at (ps_fld (PE.mono (cv 0)) (PE.mono (pe_call G_uses_by_point (hr.mono (by decide)) rfl T.m_uses_by_point T.k_uses_by_point T.b_uses_by_point .nil pass0 (pa_cons (cv 1) pa_nil))) rfl))
    (pss_cons (psc_fld T.cl_Settling T.n_Settling_rows (ps_fld (PE.mono (cv 0)) (PE.mono (pe_lst pa_nil)) rfl))
    (pss_cons (psc_fld T.cl_Settling T.n_Settling_bads (ps_fld (PE.mono (cv 0)) (PE.mono (pe_lst pa_nil)) rfl))
    (pss_cons (psc_fld T.cl_Settling T.n_Settling_known (ps_fld (PE.mono (cv 0)) (PE.mono pe_dnewT) rfl))
    (pss_cons (psc_fld T.cl_Settling T.n_Settling_goes (ps_fld (PE.mono (cv 0)) (PE.mono pe_dnewK) rfl))
    (pss_one (psc_fld T.cl_Settling T.n_Settling_heres (ps_fld (PE.mono (cv 0)) (PE.mono pe_dnewK) rfl))))))))), ?_⟩
  have z0 : (0 : Nat) ≤ sizeLine := by decide
  refine ⟨dx, _, hs, (by show 0 < 1000; decide), ?_⟩
  have k1 : ∀ a o, H a = some o → a ≠ s → (upd H s (.ins T.a_Settling dx (g1 b))) a = some o := fun a o e m => by rw [upd_ne m]; exact e
  have hs1 : (upd H s (.ins T.a_Settling dx (g1 b))) s = some (.ins T.a_Settling dx (g1 b)) := upd_same
  change tSeq _ _ _ _ (upd H s (.ins T.a_Settling dx (g1 b)))
  generalize upd H s (.ins T.a_Settling dx (g1 b)) = H1 at k1 hs1 ⊢
  have bs : b ≠ s := ne_of hb hs (fun h => by injection h with _ _ h; cases h)
  refine ⟨b, bx, p0, p1, p2, p3, r0, uv, us, rfl, k1 _ _ hb bs, k1 _ _ h2 (ne_of h2 hs (fun h => nomatch h)), hU.imp fun _ _ h => h.to hs k1, by omega, fun ua Lu H2 S2 nua nLu D2 => ?_⟩
  refine ⟨dx, _, S2 _ _ hs1, (by show 1 < 1000; decide), ?_⟩
  rw [putF_app ["board"] rfl (by decide +kernel)]
  change tSeq _ _ _ _ (upd H2 s (.ins T.a_Settling dx (g2 b ua)))
  have k2 : ∀ a o, H1 a = some o → a ≠ s → (upd H2 s (.ins T.a_Settling dx (g2 b ua))) a = some o := fun a o e m => by rw [upd_ne m]; exact S2 _ _ e
  have uas : ua ≠ s := fun h => by rw [h, hs1] at nua; cases nua
  have D2' : DL (upd H2 s (.ins T.a_Settling dx (g2 b ua))) ua Lu (ixv us us.length) us.length := D2.keep (fun kvs e => by rw [upd_ne uas]; exact e) (fun a l m e => by rw [upd_ne (fun h => by have := (nLu a m).1; rw [h, hs1] at this; cases this)]; exact e)
  have L2.Internal : ∀ a ∈ Lu, a ≠ s ∧ ∃ o, (upd H2 s (.ins T.a_Settling dx (g2 b ua))) a = some o := fun a m => by
    have as : a ≠ s := fun h => by have := (nLu a m).1; rw [h, hs1] at this; cases this
    obtain ⟨o, eo⟩ := (nLu a m).2
    exact ⟨as, o, by rw [upd_ne as]; exact eo⟩
  have hs2 : (upd H2 s (.ins T.a_Settling dx (g2 b ua))) s = some (.ins T.a_Settling dx (g2 b ua)) := upd_same
  generalize upd H2 s (.ins T.a_Settling dx (g2 b ua)) = H3 at k2 D2' hs2 L2.Internal ⊢
  obtain ⟨kv, eua, D3⟩ := D2'
  have DD : DL H3 ua Lu (ixv us us.length) us.length := ⟨kv, eua, D3⟩
  have lne : ∀ {Hx : Hp} {f : Int → List V} {n : Nat} {p : Addr}, DL Hx ua Lu f n → Hx p = none → ua ≠ p := fun D e h => by obtain ⟨_, e2, _⟩ := D; rw [h, e] at e2; cases e2
  refine ⟨z0, fun r hr0 => ⟨dx, _, (stp (o := .lst []) (o2 := .lst []) hs2 hr0).2.2.2, (by show 2 < 1000; decide), ?_⟩⟩
  rw [putF_app ["board", "uses_at"] rfl (by decide +kernel)]
  change tSeq _ _ _ _ (upd (upd H3 r (.lst [])) s (.ins T.a_Settling dx (g3 b ua r)))
  obtain ⟨k3, er3, hs3, _⟩ := stp (o := .lst []) (o2 := .ins T.a_Settling dx (g3 b ua r)) hs2 hr0
  have rs : r ≠ s := fun h => by rw [h, hs2] at hr0; cases hr0
  generalize upd (upd H3 r (.lst [])) s (.ins T.a_Settling dx (g3 b ua r)) = H4 at k3 er3 hs3 ⊢
  refine ⟨z0, fun bd hbd => ⟨dx, _, (stp (o := .lst []) (o2 := .lst []) hs3 hbd).2.2.2, (by show 3 < 1000; decide), ?_⟩⟩
  rw [putF_app ["board", "uses_at", "rows"] rfl (by decide +kernel)]
  change tSeq _ _ _ _ (upd (upd H4 bd (.lst [])) s (.ins T.a_Settling dx (g4 b ua r bd)))
  obtain ⟨k4, ebd4, hs4, _⟩ := stp (o := .lst []) (o2 := .ins T.a_Settling dx (g4 b ua r bd)) hs3 hbd
  have rb : r ≠ bd := fun h => by rw [← h, er3] at hbd; cases hbd
  have bds : bd ≠ s := fun h => by rw [h, hs3] at hbd; cases hbd
  generalize upd (upd H4 bd (.lst [])) s (.ins T.a_Settling dx (g4 b ua r bd)) = H5 at k4 ebd4 hs4 ⊢
  refine fun kn hkn => ⟨dx, _, (stp (o := .dT []) (o2 := .lst []) hs4 hkn).2.2.2, (by show 4 < 1000; decide), ?_⟩
  rw [putF_app ["board", "uses_at", "rows", "bads"] rfl (by decide +kernel)]
  change tSeq _ _ _ _ (upd (upd H5 kn (.dT [])) s (.ins T.a_Settling dx (g5 b ua r bd kn)))
  obtain ⟨k5, ekn5, hs5, _⟩ := stp (o := .dT []) (o2 := .ins T.a_Settling dx (g5 b ua r bd kn)) hs4 hkn
  generalize upd (upd H5 kn (.dT [])) s (.ins T.a_Settling dx (g5 b ua r bd kn)) = H6 at k5 ekn5 hs5 ⊢
  have kns : kn ≠ s := ne_of ekn5 hs5 (fun h => nomatch h)
  refine fun g hg => ⟨dx, _, (stp (o := .dK []) (o2 := .lst []) hs5 hg).2.2.2, (by show 5 < 1000; decide), ?_⟩
  rw [putF_app ["board", "uses_at", "rows", "bads", "known"] rfl (by decide +kernel)]
  change Ends.nx _ _ (upd (upd H6 g (.dK [])) s (.ins T.a_Settling dx (g6 b ua r bd kn g)))
  obtain ⟨k6, eg6, hs6, _⟩ := stp (o := .dK []) (o2 := .ins T.a_Settling dx (g6 b ua r bd kn g)) hs5 hg
  have gs : g ≠ s := ne_of eg6 hs6 (fun h => nomatch h)
  have e6 : ∀ a o, H3 a = some o → a ≠ s → H6 a = some o := fun a o e m => k5 _ _ (k4 _ _ (k3 _ _ e m) m) m
  have uag : ua ≠ g := fun h => by rw [← h, e6 _ _ eua uas] at hg; cases hg
  generalize upd (upd H6 g (.dK [])) s (.ins T.a_Settling dx (g6 b ua r bd kn g)) = H7 at k6 eg6 hs6 ⊢
  refine fun h hh => ⟨dx, _, (stp (o := .dK []) (o2 := .lst []) hs6 hh).2.2.2, (by show 6 < 1000; decide), ?_⟩
  rw [putF_app ["board", "uses_at", "rows", "bads", "known", "goes"] rfl (by decide +kernel)]
  show Q .non (upd (upd H7 h (.dK [])) s (.ins T.a_Settling dx (g7 b ua r bd kn g h)))
  obtain ⟨k7, eh7, hs7, _⟩ := stp (o := .dK []) (o2 := .ins T.a_Settling dx (g7 b ua r bd kn g h)) hs6 hh
  have uah : ua ≠ h := fun z => by rw [← z, k6 _ _ (e6 _ _ eua uas) uas] at hh; cases hh
  have gh : g ≠ h := fun z => by rw [← z, eg6] at hh; cases hh
  have e8 : ∀ a o, H3 a = some o → a ≠ s → (upd (upd H7 h (.dK [])) s (.ins T.a_Settling dx (g7 b ua r bd kn g h))) a = some o := fun a o e m => k7 _ _ (k6 _ _ (e6 a o e m) m) m
  have nn : ∀ {Hx : Hp} {p : Addr}, (∀ a o, H a = some o → a ≠ s → Hx a = some o) → Hx p = none → p ≠ s → H p = none := fun {Hx p} k e m => by
    cases z : H p with
    | none => rfl
    | some o => rw [k p o z m] at e; cases e
  refine q ua r bd kn g h Lu _ (fun a o e m => e8 a o (k2 _ _ (k1 _ _ e m) m) m) hs7 (DD.keep (fun kvs e => e8 _ _ e uas) (fun a l m e => e8 _ _ e (ne_of e hs2 (fun h => nomatch h)))) ?_ ?_ ?_ (k7 _ _ eg6 gs) eh7 ?_ ?_ ?_ ?_ ?_ ?_ rb gh uag uah
  · exact k7 _ _ (k6 _ _ (k5 _ _ (k4 _ _ er3 rs) rs) rs) rs
  · exact k7 _ _ (k6 _ _ (k5 _ _ ebd4 bds) bds) bds
  · exact k7 _ _ (k6 _ _ ekn5 kns) kns
  · exact nn (fun a o e m => k2 _ _ (k1 _ _ e m) m) hr0 rs
  · exact nn (fun a o e m => k3 _ _ (k2 _ _ (k1 _ _ e m) m) m) hbd bds
  · exact nn (fun a o e m => k4 _ _ (k3 _ _ (k2 _ _ (k1 _ _ e m) m) m) m) hkn kns
  · exact nn (fun a o e m => e6 _ _ (k2 _ _ (k1 _ _ e m) m) m) hg gs
  · exact nn (fun a o e m => k6 _ _ (e6 _ _ (k2 _ _ (k1 _ _ e m) m) m) m) hh (ne_of eh7 hs7 (fun h => nomatch h))
  · intro a m
    obtain ⟨as, o, eo⟩ := L2.Internal a m
    exact ⟨fun h => (by rw [h, hr0] at eo; cases eo), fun h => (by have := k3 _ _ eo as; rw [h, hbd] at this; cases this)⟩
end
end K33.Internal
namespace K33.Internal
open PySem L2.Internal BO.Internal
seal L2.Internal.PE L2.Internal.PA L2.Internal.PS L2.Internal.PSs L2.Internal.PT L2.Internal.PI
section
variable {P : Program} {w : World} {K : PySem.W.Frag} {mg : Str → Option Value} {base : Heap}
theorem due_len {us : List Us} {ms : List Mk3} {R : List Rw} : ∀ k : Nat, (dueN (dueF us ms) R k).length ≤ us.length * k
  | 0 => Nat.le_refl _
  | k + 1 => by
    have ih := due_len (us := us) (ms := ms) (R := R) k
    rw [dueN, List.length_append, Nat.mul_succ]
    have : (match R[k]? with
      | some r => dueF us ms r k
      | none => []).length ≤ us.length := by
      cases R[k]? with
      | none => exact Nat.zero_le _
      | some r =>
        show (dueF us ms r k).length ≤ us.length
        unfold dueF
        cases r.w with
        | true => exact Nat.zero_le _
        | false => exact bdn_len
    exact Nat.add_le_add ih this
theorem two0 {H0 : Hp} {d e : Addr} {N M : Int → List (Int × Int)} (hd : H0 d = some (.dK [])) (he : H0 e = some (.dK [])) (hN : ∀ p, N p = []) (hM : ∀ p, M p = []) : Two H0 H0 d e N M 0 [] [] (fun _ => []) (fun _ => []) :=
  ⟨⟨[], hd, Nat.zero_le _, fun _ _ => rfl, fun _ _ h => (by cases h), fun _ _ _ h => (by cases h)⟩, ⟨[], he, Nat.zero_le _, fun _ _ => rfl, fun _ _ h => (by cases h), fun _ _ _ h => (by cases h)⟩, fun _ h => absurd h List.not_mem_nil, fun _ h => absurd h List.not_mem_nil, fun _ h => absurd h List.not_mem_nil,
    fun p => ⟨Nat.zero_le _, by rw [hN p]; exact .nil⟩, fun p => ⟨Nat.zero_le _, by rw [hM p]; exact .nil⟩⟩
noncomputable def flR (fs : List (Int × Int)) : List Rw := fs.map fun p => ⟨true, p.1, p.2, none⟩
noncomputable def heR (ms : List Mk3) : Nat → List Rw
  | 0 => []
  | n + 1 => heR ms n ++ match ms[n]? with
    | some mk => [⟨false, (n : Int), mk.a, none⟩]
    | none => []
theorem heR_one {ms : List Mk3} {n : Nat} {mk : Mk3} (h : ms[n]? = some mk) : heR ms (n + 1) = heR ms n ++ [⟨false, (n : Int), mk.a, none⟩] := by rw [heR, h]
noncomputable def fstR (fs : List (Int × Int)) (ms : List Mk3) : List Rw := putsR (putsR [] (flR fs)) (heR ms ms.length)
inductive Reach (us : List Us) (ms : List Mk3) (R0 : List Rw) : Nat → List Rw → Prop
  | zero : Reach us ms R0 0 R0
  | step {k : Nat} {R : List Rw} {ρ : Rw} : Reach us ms R0 k R → R[k]? = some ρ → Reach us ms R0 (k + 1) (stepR us ms R k ρ)
noncomputable def sp_settled (c : Cs) (L : Addr) : Sp := fun vs H Q _ => ∃ (b bx p0 p1 p2 p3 : Addr) (N : Int) (mv uv fv : List V) (ms : List Mk3) (us : List Us) (fs : List (Int × Int)), vs = [.ref b] ∧ H b = some (.ins c.B bx (fB p0 p1 p2 p3 (.int 0))) ∧ H p1 = some (.lst mv) ∧ All2 (M3 c H) mv ms ∧ H p2 = some (.lst uv) ∧ All2 (UsAt c H) uv us ∧ H p3 = some (.lst fv) ∧ Ims H fv (fs.map flD) ∧ Dat N ms us fs ∧
  ∀ (l dl r bd : Addr) (H' : Hp) (rv bv : List V) (R : List Rw), Same H H' → H' l = some (.ins L dl (fL r bd)) → H' r = some (.lst rv) → Ims H' rv (R.map Rw.d) → H' bd = some (.lst bv) → Ims H' bv ((dueN (dueF us ms) R R.length).map flD) → (∀ ρ ∈ R, ρ.ok N ms.length) → R.length ≤ 8192 → (R.map Rw.k).Nodup → Reach us ms (fstR fs ms) R.length R → Q (.ref l) H'
theorem ok_settled (T : Txt K mg) : FnOk P w K mg base CX0 5 T.a_settled T.fd_settled ["board"] (sp_settled (cs T) T.a_Log) := by
  have G_Settling___init__ := ok_Settling___init__ (P := P) (w := w) (base := base) T
  have G_Settling_put := ok_Settling_put (P := P) (w := w) (base := base) T
  have G_Settling_work := ok_Settling_work (P := P) (w := w) (base := base) T
  have G_Log___init__ := ok_Log___init__ (P := P) (w := w) (base := base) T
  refine T.F_settled.ok sc_settled (fun vs H Q E h => ?_) (fun cdv A outer s H vs Q E hr h => ?_)
  · obtain ⟨b, bx, p0, p1, p2, p3, N, mv, uv, fv, ms, us, fs, rfl, _⟩ := h
    rfl
  obtain ⟨b, bx, p0, p1, p2, p3, N, mv, uv, fv, ms, us, fs, rfl, hb, h1, hM, h2, hU, h3, hF, dat, q⟩ := h
  refine ⟨_, (pss_cons (ps_set (i := 1) sc_settled.nd rfl (Or.inl rfl) (pe_make T.mk_Settling G_Settling___init__ (hr.mono (by decide)) rfl T.m_Settling T.b_Settling___init__ .nil pass0 (pa_cons (cv 0) pa_nil)))
    (pss_cons (ps_for PassesOwn.never rfl (pi_list (pec_fld T.cl_Board T.n_Board_flows (cv 0))) (pg_name (i := 2) sc_settled.nd rfl (Or.inl rfl))
      (pss_one (ps_expr (pec_meth (pe_meth (PE.mono (cv 1)) T.cl_Settling T.me_Settling_put G_Settling_put (hr.mono (by decide)) T.b_Settling_put .nil pass0 (pa_cons pe_str (pa_cons (pe_ix xc_tup (cv 2) pe_int (fun _ _ => rfl)) (pa_cons (pe_ix xc_tup (cv 2) pe_int (fun _ _ => rfl)) (pa_cons pe_non pa_nil)))))))))
    (pss_cons (ps_for PassesOwn.never rfl (pi_enum rfl T.z_enumerate (pa_cons (pec_fld T.cl_Board T.n_Board_makes (cv 0)) pa_nil)) (pg_tup rfl (pgs_cons (pg_name (i := 3) sc_settled.nd rfl (Or.inl rfl)) (pgs_cons (pg_name (i := 4) sc_settled.nd rfl (Or.inl rfl)) pgs_nil)))
      (pss_one (ps_expr (pec_meth (pe_meth (PE.mono (cv 1)) T.cl_Settling T.me_Settling_put G_Settling_put (hr.mono (by decide)) T.b_Settling_put .nil pass0 (pa_cons pe_str (pa_cons (cv 3) (pa_cons (pec_fld T.cl_Make T.n_Make_at (cv 4)) (pa_cons pe_non pa_nil)))))))))
    (pss_cons (ps_set (i := 5) sc_settled.nd rfl (Or.inl rfl) pe_int)
    (pss_cons (ps_while PassesOwn.never (ptc_cmpR oc_lt (cv 5) (pe_callB call_len_seq rfl T.z_len bt_len (pa_cons (pec_fld T.cl_Settling T.n_Settling_rows (cv 1)) pa_nil)) (nomark _))
      (pss_cons (ps_expr (pec_meth (pe_meth (PE.mono (cv 1)) T.cl_Settling T.me_Settling_work G_Settling_work (hr.mono (by decide)) T.b_Settling_work .nil pass0 (pa_cons (cv 5) pa_nil))))
      (pss_one (ps_aug (i := 5) sc_settled.nd rfl (Or.inl rfl) pe_int ip_add))))
    (pss_one (ps_ret (pe_make T.mk_Log G_Log___init__ (hr.mono (by decide)) rfl T.m_Log T.b_Log___init__ .nil pass0 (pa_cons (pec_fld T.cl_Settling T.n_Settling_rows (cv 1)) (pa_cons (pec_fld T.cl_Settling T.n_Settling_bads (cv 1)) pa_nil)))))))))), ?_⟩
  have sl : sizeLine = 16777216 := sizeLine_eq
  have hM64 : (ms.length : Int) ≤ 64 := by have := dat.lm; omega
  refine fun s dx hs hdx _ => ?_
  have S1 : Same H (upd (upd H dx (.own s)) s (.ins T.a_Settling dx [])) := same_make hs hdx
  have es : (upd (upd H dx (.own s)) s (.ins T.a_Settling dx [])) s = some (.ins T.a_Settling dx []) := upd_same
  have fresh : ∀ a, (upd (upd H dx (.own s)) s (.ins T.a_Settling dx [])) a = none → H a = none := fun a e => by
    cases z : H a with
    | none => rfl
    | some o => rw [S1 _ _ z] at e; cases e
  generalize upd (upd H dx (.own s)) s (.ins T.a_Settling dx []) = H1 at S1 es fresh ⊢
  refine ⟨s, dx, b, bx, p0, p1, p2, p3, _, uv, us, rfl, es, S1 _ _ hb, S1 _ _ h2, hU.imp fun _ _ h => h.mono (Same.fk S1), dat.lu, fun ua r bd kn g h Lu H0 k hS D er ebd ekn eg eh nr nbd nkn ng nh nL rb gh uag uah => ⟨rfl, ?_⟩⟩
  have sN : ∀ {a : Addr} {o : HO}, H a = some o → a ≠ s := fun e z => by rw [z, hs] at e; cases e
  have keepH : ∀ a o, H a = some o → H0 a = some o := fun a o e => k _ _ (S1 _ _ e) (sN e)
  have pn : ∀ {a p : Addr} {o : HO}, H a = some o → H1 p = none → a ≠ p := fun e z => ne_of_none e (fresh _ z)
  have Z : Stat (cs T) T.a_Settling H0 ⟨s, dx, b, bx, p0, p1, p2, p3, ua, r, bd, kn, g, h, Lu⟩ ms us :=
    ⟨hS, keepH _ _ hb, ⟨mv, keepH _ _ h1, hM.imp fun _ _ h => (show M3 _ H1 _ _ from MkAt.mono (Same.fk S1) h).to es k⟩, ⟨uv, keepH _ _ h2, hU.imp fun _ _ h => (h.mono (Same.fk S1)).to es k⟩, D, ⟨_, er⟩, ⟨_, ebd⟩, ⟨_, ekn⟩, ⟨_, eg⟩, ⟨_, eh⟩, rb, gh, uag, uah, pn h1 nr, pn h1 nbd, pn h2 nr, pn h2 nbd, nL⟩
  have T0 : Stt H0 H0 ⟨s, dx, b, bx, p0, p1, p2, p3, ua, r, bd, kn, g, h, Lu⟩ N ms.length [] [] 0 :=
    ⟨fun a o e _ _ _ _ _ => e, ⟨[], er, .nil⟩, ⟨[], ebd, .nil⟩, ekn, ⟨_, _, _, _, two0 eg eh (fun _ => rfl) (fun _ => rfl)⟩, List.nodup_nil, fun _ h => absurd h List.not_mem_nil, Nat.le_refl _⟩
  have e3 := keepH _ _ h3
  have n31 := pn h3 nr
  have n32 := pn h3 nbd
  have hF0 : Ims H0 fv (fs.map flD) := hF.mono fun a xs e => keepH _ _ e
  generalize hx : (⟨s, dx, b, bx, p0, p1, p2, p3, ua, r, bd, kn, g, h, Lu⟩ : Sx) = x at Z T0
  have xs_ : x.s = s := by rw [← hx]
  have xb : x.b = b := by rw [← hx]
  have xr : x.r = r := by rw [← hx]
  have xbd : x.bd = bd := by rw [← hx]
  have hbo : ∀ {H2 : Hp} {R : List Rw} {B : List (Int × Int)} {k : Nat}, Stt H0 H2 x N ms.length R B k → H2 b = some (.ins (cs T).B bx (fB p0 p1 p2 p3 (.int 0))) := fun t => by
    have := Z.hb t
    rw [← hx] at this
    exact this
  have hso : ∀ {H2 : Hp} {R : List Rw} {B : List (Int × Int)} {k : Nat}, Stt H0 H2 x N ms.length R B k → H2 s = some (.ins T.a_Settling dx (fS b ua r bd kn g h)) := fun t => by
    have := Z.hs t
    rw [← hx] at this
    exact this
  have fl : ∀ {H2 : Hp} {R : List Rw} {B : List (Int × Int)} {k : Nat}, Stt H0 H2 x N ms.length R B k → H2 p3 = some (.lst fv) := fun t => Z.lst t e3 (by rw [xr]; exact n31) (by rw [xbd]; exact n32)
  have tkk : ∀ {H2 : Hp} {R : List Rw} {B : List (Int × Int)} {k : Nat}, Stt H0 H2 x N ms.length R B k → TK H0 H2 := fun t a xs e => Z.fix t e (fun _ h => nomatch h) (fun _ h => nomatch h) (fun _ h => nomatch h)
  refine ⟨_, ⟨_, _, hbo T0, fB_flows _ _ _ _ _⟩, p3, rfl, ⟨_, SqL.of (fl T0)⟩, for_list (xs := fv) (fun i σ H2 => ∃ (o2 o3 o4 o5 : Option V), σ = [some (.ref b), some (.ref s), o2, o3, o4, o5] ∧ Stt H0 H2 x N ms.length (putsR [] (flR (fs.take i))) [] 0)
    ⟨none, none, none, none, rfl, T0⟩ (fun i σ H2 _ ⟨_, _, _, _, _, t⟩ => SqL.of (fl t)) ?_ ?_⟩
  · rintro i v σ H2 hv ⟨o2, o3, o4, o5, rfl, t⟩
    obtain ⟨p, tt, hp, rfl, et⟩ := ims_fl hF0 hv
    have et2 := tkk t _ _ et
    have hpm := dat.fo p (List.mem_of_getElem? hp)
    refine ⟨⟨_, _, hso t, fS_no "put" _ _ _ _ _ _ _ (by decide +kernel)⟩, _, et2, _, et2, H0, x, N, ms.length, ms, us, _, [], 0, ⟨true, p.1, p.2, none⟩, .non, by rw [xs_]; rfl, Z, t, dat.n1, hM64, .flat rfl, ⟨hpm.1.1, hpm.1.2, hpm.2.1, hpm.2.2⟩, fun H' t' _ => ⟨_, _, _, _, rfl, ?_⟩⟩
    unfold flR
    rw [take_map hp, putsR_snoc]
    exact t'
  · rintro σ H2 ⟨o2, o3, o4, o5, rfl, t⟩
    have hfl := hF0.length
    rw [List.length_map] at hfl
    rw [hfl, List.take_length] at t
    have ml : ∀ {H2 : Hp} {R : List Rw} {B : List (Int × Int)} {k : Nat}, Stt H0 H2 x N ms.length R B k → H2 p1 = some (.lst mv) := fun t => Z.lst t (keepH _ _ h1) (by rw [xr]; exact pn h1 nr) (by rw [xbd]; exact pn h1 nbd)
    refine ⟨_, ⟨_, _, hbo t, fB_makes _ _ _ _ _⟩, p1, rfl, ⟨_, SqL.of (ml t)⟩, for_enum (xs := mv) (fun i σ H2 => ∃ (o2 o3 o4 o5 : Option V), σ = [some (.ref b), some (.ref s), o2, o3, o4, o5] ∧ Stt H0 H2 x N ms.length (putsR (putsR [] (flR fs)) (heR ms i)) [] 0)
      ⟨_, _, _, _, rfl, t⟩ (fun i σ H2 _ ⟨_, _, _, _, _, t⟩ => SqL.of (ml t)) ?_ ?_⟩
    · rintro i v σ H2 tt hv ⟨o2, o3, o4, o5, rfl, t⟩ htt
      obtain ⟨mv0, em0, hM0⟩ := Z.m
      have eqv : mv0 = mv := by
        have : H0 x.p1 = some (.lst mv) := by rw [← hx]; exact keepH _ _ h1
        rw [em0] at this
        cases this
        rfl
      subst eqv
      obtain ⟨mk, hmk, hm3⟩ := hM0.get hv
      have hil := (List.getElem?_eq_some_iff.mp hmk).1
      have hmo := dat.mo mk (List.mem_of_getElem? hmk)
      have sT := same_new htt (.tup [.int (i : Int), v])
      refine ⟨tt, _, rfl, SqT.of upd_same, rfl, _, _, rfl, _, _, rfl, rfl, ?_⟩
      have t1 := t.same sT
      generalize upd H2 tt (.tup [.int (i : Int), v]) = H3 at t1 ⊢
      obtain ⟨xm, dxm, f, rfl, exm, _⟩ := MkAt.mono (Z.fk t1) hm3
      refine ⟨⟨_, _, hso t1, fS_no "put" _ _ _ _ _ _ _ (by decide +kernel)⟩, _, ⟨_, _, exm, fM_at _ _ _ _⟩, H0, x, N, ms.length, ms, us, _, [], 0, ⟨false, (i : Int), mk.a, none⟩, .non, by rw [xs_]; rfl, Z, t1, dat.n1, hM64, .flat rfl, ⟨by show (0 : Int) ≤ (i : Int); omega, by show (i : Int) < (ms.length : Int); omega, hmo.2.2.1, hmo.2.2.2⟩, fun H' t' _ => ⟨_, _, _, _, rfl, ?_⟩⟩
      rw [heR_one hmk, putsR_snoc]
      exact t'
    · rintro σ H2 ⟨o2, o3, o4, o5, rfl, t⟩
      have hml := hM.length
      rw [hml] at t
      refine ⟨fun m σ H2 => ∃ (o2 o3 o4 : Option V) (k : Nat) (R : List Rw), m = 9000 - k ∧ σ = [some (.ref b), some (.ref s), o2, o3, o4, some (.int (k : Int))] ∧ k ≤ R.length ∧ Reach us ms (fstR fs ms) k R ∧ Stt H0 H2 x N ms.length R (dueN (dueF us ms) R k) k, ⟨_, _, _, _, 0, _, rfl, rfl, Nat.zero_le _, .zero, t⟩, ?_⟩
      rintro m σ H2 ⟨o2, o3, o4, k, R, rfl, rfl, hk, hre, t⟩
      have hlen := t.len dat.n1 hM64
      obtain ⟨rv, hrv, hrl⟩ := t.r
      have hrn : rv.length = R.length := by rw [hrl.length, List.length_map]
      refine ⟨_, ⟨_, _, hso t, fS_rows _ _ _ _ _ _ _⟩, r, _, rfl, .inl (SqL.of (by rw [← xr]; exact hrv)), ?_⟩
      by_cases hkl : k < R.length
      · dsimp only [cI0, onB]
        rw [decide_eq_true (show (k : Int) < (rv.length : Int) by omega)]
        refine iteT ⟨fun σ' H' => ∃ m', m' < 9000 - k ∧ ∃ (o2 o3 o4 : Option V) (k : Nat) (R : List Rw), m' = 9000 - k ∧ σ' = [some (.ref b), some (.ref s), o2, o3, o4, some (.int (k : Int))] ∧ k ≤ R.length ∧ Reach us ms (fstR fs ms) k R ∧ Stt H0 H' x N ms.length R (dueN (dueF us ms) R k) k, fun _ _ h => h, ?_⟩
        obtain ⟨ρ, hρ⟩ : ∃ ρ, R[k]? = some ρ := ⟨_, List.getElem?_eq_getElem hkl⟩
        have dl := due_len (us := us) (ms := ms) (R := R) k
        have := dat.lu
        refine ⟨⟨_, _, hso t, fS_no "work" _ _ _ _ _ _ _ (by decide +kernel)⟩, H0, x, N, ms, us, fs, R, _, k, ρ, by rw [xs_]; rfl, Z, t, dat, hρ, Nat.le_trans dl (Nat.mul_le_mul_right k this), fun H' t' => ?_⟩
        obtain ⟨more, em⟩ := stepR_pre us ms R k ρ
        refine ⟨_, rfl, _, _, rfl, rfl, 9000 - (k + 1), by omega, _, _, _, k + 1, stepR us ms R k ρ, rfl, rfl, by rw [em, List.length_append]; omega, .step hre hρ, ?_⟩
        rw [em] at t' ⊢
        rw [due_app (R := R) (S := more) (n := k + 1) hkl, due_one hρ]
        exact t'
      · have ek : k = R.length := by omega
        subst ek
        obtain ⟨bv, hbv, hbl⟩ := t.bd
        dsimp only [cI0, onB]
        rw [decide_eq_false (show ¬ ((R.length : Nat) : Int) < (rv.length : Int) by omega)]
        refine iteF ⟨_, ⟨_, _, hso t, fS_rows _ _ _ _ _ _ _⟩, _, ⟨_, _, hso t, fS_bads _ _ _ _ _ _ _⟩, fun l dl hl hdl _ => ?_⟩
        refine ⟨l, dl, r, bd, rfl, upd_same, rfl, ?_⟩
        rw [upd_upd]
        have S9 : Same H2 (upd (upd H2 dl (.own l)) l (.ins T.a_Log dl (fL r bd))) := same_make hl hdl
        refine q l dl r bd _ rv bv R (fun a o e => S9 _ _ (t.keep a o (keepH _ _ e) (by rw [xr]; exact pn e nr) (by rw [xbd]; exact pn e nbd) ?_ ?_ ?_)) upd_same (by have := S9 _ _ hrv; rw [xr] at this; exact this) (hrl.mono (Same.tk S9)) (by have := S9 _ _ hbv; rw [xbd] at this; exact this) (hbl.mono (Same.tk S9)) t.ok hlen t.nd hre
        · rw [← hx]; exact pn e nkn
        · rw [← hx]; exact pn e ng
        · rw [← hx]; exact pn e nh
end
end K33.Internal
namespace K33.Internal
open PySem L2.Internal BO.Internal
seal L2.Internal.PE L2.Internal.PA L2.Internal.PS L2.Internal.PSs L2.Internal.PT L2.Internal.PI
section
variable {P : Program} {w : World} {K : PySem.W.Frag} {mg : Str → Option Value} {base : Heap}
noncomputable def facs : List Int := [48271, 69621, 16807, 39373, 40692, 52774, 12211, 3791, 40014]
noncomputable def prms : List Int := [10007, 20011, 30011, 40009, 50021, 60013, 70001, 80021, 90001]
theorem at_ints {l : List Int} {i : Int} (h0 : 0 ≤ i) (h1 : i < (l.length : Int)) : ∃ n, atI (l.map V.int) i = some (.int n) ∧ n ∈ l := by
  obtain ⟨c, e, m⟩ := atI_lt (l.map V.int) i h0 (by rw [List.length_map]; exact h1)
  obtain ⟨n, hn, rfl⟩ := List.mem_map.mp m
  exact ⟨n, e, hn⟩
theorem facs_ok : ∀ n ∈ facs, -(2 ^ 64) < n ∧ n < 2 ^ 64 := by decide
theorem prms_ok : ∀ n ∈ prms, 0 < n := by decide
noncomputable def sp__law_pick : Sp := fun vs H Q _ => ∃ c t m : Int, vs = [.int c, .int t, .int m] ∧ 0 ≤ t ∧ t < 9 ∧ 0 < m ∧ ∀ n H', Same H H' → 0 ≤ n → n < m → Q (.int n) H'
theorem ok__law_pick (T : Txt K mg) : FnOk P w K mg base CX0 1 T.a__law_pick T.fd__law_pick ["_law_cell", "_law_turn", "_law_many"] sp__law_pick := by
  refine T.F__law_pick.ok sc__law_pick (fun vs H Q E h => ?_) (fun cdv A outer s H vs Q E hr h => ?_)
  · obtain ⟨c, t, m, rfl, _⟩ := h
    rfl
  obtain ⟨c, t, m, rfl, t0, t1, hm, q⟩ := h
  refine ⟨_, (pss_cons (ps_set (i := 3) sc__law_pick.nd rfl (Or.inl rfl) (pe_lst (pa_ints (xs := [48271, 69621, 16807, 39373, 40692, 52774, 12211, 3791, 40014]) (by decide +kernel))))
    (pss_cons (ps_set (i := 4) sc__law_pick.nd rfl (Or.inl rfl) (pe_lst (pa_ints (xs := [10007, 20011, 30011, 40009, 50021, 60013, 70001, 80021, 90001]) (by decide +kernel))))
    (pss_one (ps_ret (pe_op oc_mod (pe_op oc_mod (pe_op oc_mul (pe_op oc_add (pe_op oc_mod (cv 0) (pe_op oc_pow pe_int pe_int)) pe_int) (pe_ix xc_list (cv 3) (cv 1) (fun _ _ => rfl))) (pe_ix xc_list (cv 4) (cv 1) (fun _ _ => rfl))) (cv 2)))))), ?_⟩
  obtain ⟨f, ef, mf⟩ := at_ints (l := facs) t0 t1
  obtain ⟨p, ep, mp⟩ := at_ints (l := prms) t0 t1
  refine ⟨(by show 9 ≤ sizeLine; decide), fun a ha => ⟨(by show 9 ≤ sizeLine; decide), fun b hb => ?_⟩⟩
  have S1 := same_new ha (.lst (facs.map V.int))
  have S2 := same_new hb (.lst (prms.map V.int))
  refine ⟨⟨by decide, by decide, by decide⟩, (by show (0 : Int) < 10 ^ (40 : Int).toNat; decide +kernel), _, S2 _ _ upd_same, onS_of ef ⟨.inr (facs_ok f mf), _, upd_same, onS_of ep ⟨prms_ok p mp, hm, ?_⟩⟩⟩
  exact q _ _ (S1.trans S2) (Int.emod_nonneg _ (Int.ne_of_gt hm)) (Int.emod_lt_of_pos _ hm)
theorem op_repN {X : Cx} : OpR X (binaryOp .Mult) (fun x y H Q => ∃ (i : Str) (n : Int), x = .str i ∧ y = .int n ∧ 0 ≤ n ∧ n < 100 ∧ 1 ≤ i.length ∧ i.length ≤ 1000 ∧ ∀ z : Str, z.length = n.toNat * i.length → Q (.str z) H) := by
  intro pins s σ H x y v u Q I rx ry h
  obtain ⟨i, n, rfl, rfl, h0, h9, hl, hm, q⟩ := h
  by_cases n2 : 2 ≤ n
  · exact op_rep_str pins s σ H _ _ v u Q I rx ry ⟨i, n, rfl, rfl, n2, h9, hl, hm, q _ (rep_len i _)⟩
  obtain ⟨t, rfl⟩ := rx
  obtain ⟨t', rfl⟩ := ry
  by_cases n1 : n = 1
  · subst n1
    refine PySem.P.mul_str (by decide) (fun _ h => by simp at h) (fun _ h => by simp at h) ?_
    rw [if_neg (by decide), if_pos (by simp)]
    exact ⟨.str i, H, I, ⟨_, rfl⟩, q i (by simp)⟩
  · obtain rfl : n = 0 := by omega
    exact PySem.P.mul_str_none (by decide) (by decide) ⟨.str Str.empty, H, I.tok _, ⟨_, rfl⟩, q _ (by show (0 : Nat) = 0 * i.length; omega)⟩
noncomputable def sg4 (k : Nat) : Nat := ("abcd" : Str).cps.toList.getD k 0
noncomputable def w4 (A B : Str) (k : Nat) : Str := A ++ ⟨#[sg4 k]⟩ ++ B
theorem app_list (a b : Str) : (a ++ b).cps.toList = a.cps.toList ++ b.cps.toList := Array.toList_append
theorem one_len (c : Nat) : (⟨#[c]⟩ : Str).length = 1 := rfl
theorem nodup4 {f : Nat → Str} (h : ∀ a, a < 4 → ∀ b, b < 4 → a ≠ b → f a ≠ f b) : ((List.range 4).map f).Nodup := by
  rw [List.Nodup, List.pairwise_map]
  refine List.Pairwise.imp_of_mem (fun {a b} ha hb hlt => ?_) List.pairwise_lt_range
  exact h a (List.mem_range.mp ha) b (List.mem_range.mp hb) (Nat.ne_of_lt hlt)
theorem sg4_ne : ∀ a, a < 4 → ∀ b, b < 4 → a ≠ b → sg4 a ≠ sg4 b := by decide +kernel
theorem w4_nodup (A B : Str) : ((List.range 4).map (w4 A B)).Nodup := nodup4 fun a ha b hb hn e => by
  have h := congrArg (fun z : Str => z.cps.toList) e
  simp only [w4, app_list] at h
  have h2 := List.append_cancel_left (List.append_cancel_right h)
  injection h2 with h3 _
  exact sg4_ne a ha b hb hn h3
noncomputable def Wd (H : Hp) (l : Addr) : Prop := ∃ ws : List Str, H l = some (.lst (ws.map V.str)) ∧ ws.length = 4 ∧ ws.Nodup
theorem Wd.same {H H' : Hp} {l : Addr} (h : Wd H l) (s : Same H H') : Wd H' l := by
  obtain ⟨ws, e, z⟩ := h
  exact ⟨ws, s _ _ e, z⟩
theorem wd_at {H : Hp} {l : Addr} (h : Wd H l) : ∃ ws : List Str, H l = some (.lst (ws.map V.str)) ∧ ws.Nodup ∧ ∀ i : Int, 0 ≤ i → i < 4 → ∃ x, atI (ws.map V.str) i = some (.str x) ∧ ws[i.toNat]? = some x := by
  obtain ⟨ws, e, hl, hn⟩ := h
  refine ⟨ws, e, hn, fun i h0 h1 => ?_⟩
  have hi : i.toNat < ws.length := by omega
  refine ⟨ws[i.toNat], ?_, List.getElem?_eq_getElem hi⟩
  have z : atI (ws.map V.str) ((i.toNat : Nat) : Int) = some (.str ws[i.toNat]) := atI_nat (by rw [List.getElem?_map, List.getElem?_eq_getElem hi]; rfl)
  rw [show ((i.toNat : Nat) : Int) = i by omega] at z
  exact z
theorem nodup_len {a : Nat} {ws : List Str} (h : ∀ (j : Nat) (y : Str), ws[j]? = some y → y.length = a + j) : ws.Nodup := by
  rw [List.Nodup, List.pairwise_iff_getElem]
  intro i j hi hj hlt e
  have h1 := h i _ (List.getElem?_eq_getElem hi)
  have h2 := h j _ (List.getElem?_eq_getElem hj)
  rw [e] at h1
  omega
theorem sg4_at {k ch : Nat} (h : ("abcd" : Str).cps[k]? = some ch) : sg4 k = ch := by
  rw [sg4, List.getD_eq_getElem?_getD, Array.getElem?_toList, h]
  rfl
noncomputable def sp__law_words : Sp := fun vs H Q _ => ∃ c : Int, vs = [.int c] ∧ ∀ l H', Same H H' → H l = none → Wd H' l → Q (.ref l) H'
theorem ok__law_words (T : Txt K mg) : FnOk P w K mg base CX0 2 T.a__law_words T.fd__law_words ["_law_cell"] sp__law_words := by
  refine T.F__law_words.ok sc__law_words (fun vs H Q E h => ?_) (fun cdv A outer s H vs Q E hr h => ?_)
  · obtain ⟨c, rfl, _⟩ := h
    rfl
  obtain ⟨c0, rfl, q⟩ := h
  refine ⟨_, (pss_cons (ps_set (i := 1) sc__law_words.nd rfl (Or.inl rfl) (pe_op oc_mod (cv 0) (pe_op oc_pow pe_int pe_int)))
    (pss_cons (ps_set (i := 2) sc__law_words.nd rfl (Or.inr rfl) pe_str)
    (pss_cons (ps_for PassesOwn.never rfl (pi_range1 rfl T.z_range (pa_cons (pe_op oc_mod (cv 1) pe_int) pa_nil)) (pg_name (i := 3) sc__law_words.nd rfl (Or.inl rfl))
      (pss_one (ps_set (i := 2) sc__law_words.nd rfl (Or.inr rfl) (pe_op oc_addS (cv 2) (pe_ix xc_str pe_str (pe_op oc_mod (pe_op oc_fdiv (cv 1) (pe_op oc_add pe_int (pe_op oc_mul (pe_op oc_mul pe_int (cv 3)) (cv 3)))) pe_int) (fun _ _ => rfl))))))
    (pss_cons (ps_set (i := 4) sc__law_words.nd rfl (Or.inr rfl) (pe_op oc_mod (pe_op oc_fdiv (cv 1) pe_int) (pe_op oc_add (pe_callB call_len_str rfl T.z_len bt_len (pa_cons (cv 2) pa_nil)) pe_int)))
    (pss_cons (ps_if (ptc_cmpR oc_eq (pe_op oc_mod (pe_op oc_fdiv (cv 1) pe_int) pe_int) pe_int (nomark _))
      (pss_one (ps_ret (pe_lc rfl (blkC (x := "_law_sign") ["_law_stem", "_law_at"] [("_law_stem", 2, s.heap.objs.size + 1), ("_law_at", 4, s.heap.objs.size + 2)] rfl rfl (by decide +kernel) (by decide +kernel) rfl (by decide +kernel) rfl rfl (by intro p hp; simp only [List.mem_cons, List.not_mem_nil, or_false] at hp; rcases hp with rfl | rfl <;> exact ⟨rfl, rfl, rfl, rfl⟩)) (pi_str pe_str) (fun _ _ _ _ _ => pts_nil) (fun _ _ _ _ _ => (pe_op oc_addS (pe_op oc_addS (pe_slice sl_str (cv 1) po_none (po_some (cv 2))) (cv 0)) (pe_slice sl_str (cv 1) (po_some (cv 2)) po_none))))))
      pss_nil)
    (pss_one (ps_ret (pe_lc rfl (blkC (x := "_law_k") ["_law_stem"] [("_law_stem", 2, s.heap.objs.size + 1)] rfl rfl (by decide +kernel) (by decide +kernel) rfl (by decide +kernel) rfl rfl (by intro p hp; simp only [List.mem_cons, List.not_mem_nil, or_false] at hp; rcases hp with rfl <;> exact ⟨rfl, rfl, rfl, rfl⟩)) (pi_range1 rfl T.z_range (pa_cons pe_int pa_nil)) (fun _ _ _ _ _ => pts_nil) (fun _ _ _ _ _ => (pe_op oc_addS (cv 1) (pe_op op_repN pe_str (cv 0)))))))))))), ?_⟩
  have sl : sizeLine = 16777216 := sizeLine_eq
  refine ⟨⟨by decide, by decide, by decide⟩, (by show (0 : Int) < 10 ^ (30 : Int).toNat; decide +kernel), ?_⟩
  dsimp only
  generalize c0 % 10 ^ (30 : Int).toNat = c
  have s0 := Int.emod_nonneg c (show (8 : Int) ≠ 0 by decide)
  have s1 := Int.emod_lt_of_pos c (show (0 : Int) < 8 by decide)
  refine ⟨(by show (0 : Int) < 8; decide), c % 8, rfl, by omega, by omega, for_range (fun i σ H2 => ∃ (x : Str) (o : Option V), σ = [some (.int c0), some (.int c), some (.str x), o, none] ∧ H2 = H ∧ 1 ≤ x.length ∧ x.length ≤ 1 + i)
    ⟨"q", none, rfl, rfl, (by decide +kernel), (by decide +kernel)⟩ ?_ ?_⟩
  · rintro i σ H2 hi ⟨x, o, rfl, rfl, h1, h2⟩
    have k0 : (0 : Int) ≤ 0 + (i : Int) := by omega
    have k1 : (0 : Int) + (i : Int) ≤ 7 := by omega
    have kk0 : 0 ≤ 3 * (0 + (i : Int)) * (0 + (i : Int)) := Int.mul_nonneg (by omega) k0
    have kk1 : 3 * (0 + (i : Int)) * (0 + (i : Int)) ≤ 21 * 7 := Int.mul_le_mul (by omega) k1 k0 (by decide)
    obtain ⟨ch, e1, _⟩ := atI_lt ("q7" : Str).cps.toList (c / (8 + 3 * (0 + (i : Int)) * (0 + (i : Int))) % 2) (Int.emod_nonneg _ (by decide)) (by rw [show ("q7" : Str).cps.toList.length = 2 by decide +kernel]; exact Int.emod_lt_of_pos _ (by decide))
    refine ⟨.inl ⟨by decide, by decide⟩, .inl ⟨by omega, by omega⟩, ⟨by omega, by omega⟩, (by show (0 : Int) < 2; decide), sz (by decide +kernel), onS_of e1 ⟨by rw [one_len]; omega, _, _, rfl, rfl, by rw [Str.length_append, one_len]; omega, by rw [Str.length_append, one_len]; omega⟩⟩
  · rintro σ H2 ⟨x, o, rfl, rfl, h1, h2⟩
    have hx : x.length ≤ 100 := by omega
    refine ⟨⟨by decide, by decide⟩, x, rfl, by omega, (by show (0 : Int) < (x.length : Int) + 1; omega), ?_⟩
    dsimp only
    generalize c / 8 % ((x.length : Int) + 1) = at_
    have la := Txt.slice_le x none (some at_)
    have lb := Txt.slice_le x (some at_) none
    refine ⟨⟨by decide, by decide⟩, (by show (0 : Int) < 2; decide), ?_⟩
    dsimp only [tC, cEq, onB]
    refine ite2 (fun _ => ?_) (fun _ => ?_)
    · have z4 : ("abcd" : Str).cps.size = 4 := by decide +kernel
      refine ⟨_, rfl, fun D hD => ?_⟩
      refine lc_gen 4 (by omega) (fun xs _ => xs = ((List.range xs.length).map (w4 (Txt.slice x none (some at_)) (Txt.slice x (some at_) none))).map V.str) (fun xs H1 H2 h _ => h) hD rfl (fun k H2 _ hk => (by show k < ("abcd" : Str).cps.size; rw [z4]; exact hk)) (fun H2 _ => (by show 4 = ("abcd" : Str).cps.size; rw [z4])) rfl ?_ ?_
      · rintro k H3 v H4 xs Z S hk ⟨rfl, ch, hc, rfl⟩ hxs hl z
        refine ⟨_, rfl, _, rfl, by omega, by rw [one_len]; omega, _, rfl, _, rfl, by omega, by rw [Str.length_append, one_len]; omega, z _ _ (Same.refl _) ?_⟩
        rw [List.length_append, List.length_singleton, List.range_succ, List.map_append, List.map_append, ← hxs, hl]
        show xs ++ _ = xs ++ [V.str (w4 _ _ k)]
        rw [w4, sg4_at hc]
      · rintro H3 xs S hxs hl e
        rw [hl] at hxs
        exact q D H3 S hD ⟨_, by rw [e, hxs], by rw [List.length_map, List.length_range], w4_nodup _ _⟩
    · refine ⟨4, rfl, by decide, by decide, fun D hD => ?_⟩
      refine lc_gen 4 (by omega) (fun xs _ => ∃ ws : List Str, xs = ws.map V.str ∧ ∀ (j : Nat) (y : Str), ws[j]? = some y → y.length = x.length + j) (fun xs H1 H2 h _ => h) hD rfl (fun k H2 _ hk => hk) (fun H2 _ => Nat.le_refl _) ⟨[], rfl, fun j y h => by simp at h⟩ ?_ ?_
      · rintro k H3 v H4 xs Z S hk ⟨rfl, rfl⟩ ⟨ws, hws, hj⟩ hl z
        have hwl : ws.length = k := by rw [hws, List.length_map] at hl; exact hl
        have l7 : ("7" : Str).length = 1 := by decide +kernel
        refine ⟨_, _, rfl, rfl, by omega, by omega, by rw [l7]; decide, by rw [l7]; decide, fun y hy => ⟨?_, z _ _ (Same.refl _) ⟨ws ++ [x ++ y], by rw [hws, List.map_append]; rfl, fun j y' h => ?_⟩⟩⟩
        · rw [l7] at hy; omega
        · by_cases hjl : j < ws.length
          · rw [List.getElem?_append_left hjl] at h
            exact hj j y' h
          · have : j = ws.length := by
              have := (List.getElem?_eq_some_iff.mp h).1
              rw [List.length_append, List.length_singleton] at this
              omega
            subst this
            rw [List.getElem?_concat_length] at h
            cases h
            rw [Str.length_append, hy, l7]
            omega
      · rintro H3 xs S ⟨ws, hws, hj⟩ hl e
        exact q D H3 S hD ⟨ws, by rw [e, hws], by rw [hws, List.length_map] at hl; exact hl, nodup_len hj⟩
end
end K33.Internal
namespace K33.Internal
open PySem L2.Internal BO.Internal
seal L2.Internal.PE L2.Internal.PA L2.Internal.PS L2.Internal.PSs L2.Internal.PT L2.Internal.PI
section
variable {i : Nat} {s w : Str} {t u : TS} {D : Ends} {σ : St} {H : Hp}
theorem tst_no (hv : σ[i]? = some (some (.str s))) (h : s ≠ w) (q : u D σ H) : tIfS (cT (tOp (cEq false) (cV i) (tC (.str w)))) t u D σ H := by
  show onV σ[i]? _
  rw [hv]
  show if (false ^^ decide (s = w)) = true then t D σ H else u D σ H
  rw [decide_eq_false h]
  exact q
theorem tst_yes (hv : σ[i]? = some (some (.str s))) (h : s = w) (q : t D σ H) : tIfS (cT (tOp (cEq false) (cV i) (tC (.str w)))) t u D σ H := by
  show onV σ[i]? _
  rw [hv]
  show if (false ^^ decide (s = w)) = true then t D σ H else u D σ H
  rw [decide_eq_true h]
  exact q
theorem tsh_no {a : Addr} {r : List V} (hv : σ[i]? = some (some (.ref a))) (ha : H a = some (.tup (.str s :: r))) (h : s ≠ w) (q : u D σ H) : tIfS (cT (tOp (cEq false) (tOp cIxT (cV i) (tC (.int 0))) (tC (.str w)))) t u D σ H := by
  show onV σ[i]? _
  rw [hv]
  refine ⟨_, ha, onS_of (atI_nat (j := 0) rfl) ?_⟩
  show if (false ^^ decide (s = w)) = true then t D σ H else u D σ H
  rw [decide_eq_false h]
  exact q
theorem tsh_yes {a : Addr} {r : List V} (hv : σ[i]? = some (some (.ref a))) (ha : H a = some (.tup (.str s :: r))) (h : s = w) (q : t D σ H) : tIfS (cT (tOp (cEq false) (tOp cIxT (cV i) (tC (.int 0))) (tC (.str w)))) t u D σ H := by
  show onV σ[i]? _
  rw [hv]
  refine ⟨_, ha, onS_of (atI_nat (j := 0) rfl) ?_⟩
  show if (false ^^ decide (s = w)) = true then t D σ H else u D σ H
  rw [decide_eq_true h]
  exact q
theorem seq_no {u' : TS} (hv : σ[i]? = some (some (.str s))) (h : s ≠ w) (q : u' D σ H) : tSeq (tIfS (cT (tOp (cEq false) (cV i) (tC (.str w)))) t tNext) u' D σ H := tst_no (u := tNext) (D := { D with nx := u' D }) hv h q
theorem seq_yes {u' : TS} (hv : σ[i]? = some (some (.str s))) (h : s = w) (q : t { D with nx := u' D } σ H) : tSeq (tIfS (cT (tOp (cEq false) (cV i) (tC (.str w)))) t tNext) u' D σ H := tst_yes (u := tNext) (D := { D with nx := u' D }) hv h q
end
noncomputable def wat (ws : List Str) (i : Int) : Str := ws.getD (i % 4).toNat ""
theorem wat_at {ws : List Str} (n : ws.length = 4) (i : Int) : atI (ws.map V.str) (i % 4) = some (.str (wat ws i)) := by
  have h0 := Int.emod_nonneg i (show (4 : Int) ≠ 0 by decide)
  have h1 := Int.emod_lt_of_pos i (show (0 : Int) < 4 by decide)
  obtain ⟨r, er⟩ : ∃ r : Nat, i % 4 = (r : Int) := ⟨_, (Int.toNat_of_nonneg h0).symm⟩
  rw [wat, er, Int.toNat_natCast]
  refine atI_nat (j := r) ?_
  have hr : r < ws.length := by omega
  rw [List.getElem?_map, List.getD_eq_getElem?_getD, List.getElem?_eq_getElem hr]
  rfl
theorem wat_ne {ws : List Str} (n : ws.length = 4) (nd : ws.Nodup) {i j : Int} (h : i % 4 ≠ j % 4) : wat ws i ≠ wat ws j := by
  have h0 := Int.emod_nonneg i (show (4 : Int) ≠ 0 by decide)
  have h1 := Int.emod_lt_of_pos i (show (0 : Int) < 4 by decide)
  have g0 := Int.emod_nonneg j (show (4 : Int) ≠ 0 by decide)
  have g1 := Int.emod_lt_of_pos j (show (0 : Int) < 4 by decide)
  have hi : (i % 4).toNat < ws.length := by omega
  have hj : (j % 4).toNat < ws.length := by omega
  rw [wat, wat, List.getD_eq_getElem?_getD, List.getD_eq_getElem?_getD, List.getElem?_eq_getElem hi, List.getElem?_eq_getElem hj]
  have key := List.pairwise_iff_getElem.mp nd
  rcases Nat.lt_or_gt_of_ne (show (i % 4).toNat ≠ (j % 4).toNat by omega) with z | z
  · exact key _ _ hi hj z
  · exact (key _ _ hj hi z).symm
noncomputable def kys (ws : List Str) (a : Int) (n : Nat) : List Str := (List.range n).map fun (k : Nat) => wat ws (a + (0 + (k : Int)))
theorem kys_nodup {ws : List Str} (n : ws.length = 4) (nd : ws.Nodup) {a : Int} {m : Nat} (hm : m ≤ 4) : (kys ws a m).Nodup := by
  rw [kys, List.Nodup, List.pairwise_map]
  refine List.Pairwise.imp_of_mem (fun {x y} hx hy hlt => wat_ne n nd ?_) List.pairwise_lt_range
  have h1 := List.mem_range.mp hx
  have h2 := List.mem_range.mp hy
  omega
theorem kys_snoc (ws : List Str) (a : Int) (n : Nat) : kys ws a (n + 1) = kys ws a n ++ [wat ws (a + (0 + (n : Int)))] := by
  rw [kys, kys, List.range_succ, List.map_append]
  rfl
section
variable {P : Program} {w : World} {K : PySem.W.Frag} {mg : Str → Option Value} {base : Heap}
noncomputable def Spt (H : Hp) (sp : Addr) (N : Int) : Prop := ∃ ns : List Int, H sp = some (.lst (ns.map V.int)) ∧ ns.length = 3 ∧ ∀ n ∈ ns, InR N n
theorem Spt.at {H : Hp} {sp : Addr} {N : Int} (h : Spt H sp N) : ∃ ns : List Int, H sp = some (.lst (ns.map V.int)) ∧ ∀ k : Int, 0 ≤ k → k < 3 → ∃ n, atI (ns.map V.int) k = some (.int n) ∧ InR N n := by
  obtain ⟨ns, e, hl, hr⟩ := h
  refine ⟨ns, e, fun k k0 k1 => ?_⟩
  obtain ⟨n, en, mn⟩ := at_ints (l := ns) k0 (by omega)
  exact ⟨n, en, hr n mn⟩
theorem Spt.same {H H' : Hp} {sp : Addr} {N : Int} (h : Spt H sp N) (s : Same H H') : Spt H' sp N := by
  obtain ⟨ns, e, z⟩ := h
  exact ⟨ns, s _ _ e, z⟩
noncomputable def sp__law_named : Sp := fun vs H Q _ => ∃ (l sp : Addr) (c N : Int), vs = [.ref l, .int c, .ref sp] ∧ Wd H l ∧ Spt H sp N ∧ ∀ v (ps : List (Str × Int)) H', Same H H' → ps.length ≤ 10 → Dist ps → (∀ p ∈ ps, InR N p.2) → Im H' v (prD ps) → Q v H'
theorem ok__law_named (T : Txt K mg) : FnOk P w K mg base CX0 2 T.a__law_named T.fd__law_named ["_law_words_here", "_law_cell", "_law_spots"] sp__law_named := by
  have G__law_pick := ok__law_pick (P := P) (w := w) (base := base) T
  refine T.F__law_named.ok sc__law_named (fun vs H Q E h => ?_) (fun cdv A outer s H vs Q E hr h => ?_)
  · obtain ⟨l, sp, c, N, rfl, _⟩ := h
    rfl
  obtain ⟨l, sp, c, N, rfl, hw, hsp, q⟩ := h
  obtain ⟨ws, ew, wn, wd⟩ := hw
  obtain ⟨ns, es, hat⟩ := hsp.at
  refine ⟨_, (pss_cons (ps_set (i := 3) sc__law_named.nd rfl (Or.inr rfl) (pe_call G__law_pick (hr.mono (by decide)) rfl T.m__law_pick T.k__law_pick T.b__law_pick .nil pass0 (pa_cons (cv 1) (pa_cons pe_int (pa_cons pe_int pa_nil)))))
    (pss_one (ps_ret (pe_callTy call_tuple_of rfl T.z_tuple bt_tuple (pa_cons (pe_lc rfl (blkC (x := "_law_k") ["_law_words_here", "_law_spots", "_law_first"] [("_law_words_here", 0, s.heap.objs.size + 1), ("_law_spots", 2, s.heap.objs.size + 2), ("_law_first", 3, s.heap.objs.size + 3)] rfl rfl (by decide +kernel) (by decide +kernel) rfl (by decide +kernel) rfl rfl (by intro p hp; simp only [List.mem_cons, List.not_mem_nil, or_false] at hp; rcases hp with rfl | rfl | rfl <;> exact ⟨rfl, rfl, rfl, rfl⟩)) (pi_range1 rfl T.z_range (pa_cons (pe_call G__law_pick (hr.mono (by decide)) rfl T.m__law_pick T.k__law_pick T.b__law_pick .nil pass0 (pa_cons (cv 1) (pa_cons pe_int (pa_cons pe_int pa_nil)))) pa_nil)) (fun _ _ _ _ _ => pts_nil) (fun _ _ _ _ _ => (pe_tup (pa_cons (pe_ix xc_list (cv 1) (pe_op oc_mod (pe_op oc_add (cv 3) (cv 0)) pe_int) (fun _ _ => rfl)) (pa_cons (pe_ix xc_list (cv 2) (cv 0) (fun _ _ => rfl)) pa_nil))))) pa_nil))))), ?_⟩
  have sl : sizeLine = 16777216 := sizeLine_eq
  refine ⟨c, 6, 4, rfl, by decide, by decide, by decide, fun fi H1 S1 _ _ => ⟨c, 8, 4, rfl, by decide, by decide, by decide, fun r H2 S2 r0 r1 => ⟨r, rfl, by omega, by omega, fun D hD => ?_⟩⟩⟩
  have S12 := S1.trans S2
  refine lc_gen r.toNat (by omega) (fun xs H2 => ∃ ps : List (Str × Int), ps.map Prod.fst = kys ws fi xs.length ∧ (∀ p ∈ ps, InR N p.2) ∧ Ims H2 xs (ps.map prL)) (fun xs H1 H2 ⟨ps, hn, hr, h⟩ k => ⟨ps, hn, hr, h.mono k⟩) hD rfl (fun k H2 _ hk => hk) (fun H2 _ => Nat.le_refl _) ⟨[], rfl, fun p h => absurd h List.not_mem_nil, .nil⟩ ?_ ?_
  · rintro k H3 v H4 xs Z S hk ⟨rfl, rfl⟩ ⟨ps, hpl, hpr, hp⟩ hl z
    obtain ⟨m, em, hm⟩ := hat (0 + (k : Int)) (by omega) (by omega)
    refine ⟨(by show (0 : Int) < 4; decide), _, S _ _ (S12 _ _ ew), onS_of (wat_at wn _) ⟨_, S _ _ (S12 _ _ es), onS_of em ⟨(by show 2 ≤ sizeLine; decide), fun t2 ht2 => ?_⟩⟩⟩
    refine z _ _ (same_new ht2 _) ⟨ps ++ [(wat ws (fi + (0 + (k : Int))), m)], ?_, fun p hp => ?_, ?_⟩
    · rw [List.map_append, hpl, List.length_append, hl]
      exact (kys_snoc ws fi k).symm
    · rcases List.mem_append.mp hp with h | h
      · exact hpr p h
      · simp only [List.mem_singleton] at h
        rw [h]
        exact hm
    rw [List.map_append]
    exact (hp.mono (Same.tk (same_new ht2 _))).app (.cons (.tup upd_same (.cons (.flat rfl) (.cons (.flat rfl) .nil))) .nil)
  · rintro H3 xs S ⟨ps, hpl, hpr, hp⟩ hl e
    have lp : ps.length = xs.length := by
      have := congrArg List.length hpl
      rw [List.length_map, kys, List.length_map, List.length_range] at this
      exact this
    have dp : Dist ps := by
      rw [Dist, hpl]
      exact kys_nodup wn wd (by omega)
    exact ⟨D, xs, rfl, .inl ⟨SqL.of e, fun t3 ht3 => q _ ps _ ((S12.trans S).trans (same_new ht3 _)) (by omega) dp hpr (.tup upd_same (hp.mono (Same.tk (same_new ht3 _))))⟩⟩
theorem lc_spots {K : PySem.W.Frag} {te : TE} {Q : VK} {τ : St} {H H1 : Hp} {p D : Addr} {N : Int} (hp : H1 p = some (.lst [V.int 1, V.int 2, V.int 3])) (hD : H1 D = none) (hτ : τ.set 0 none = τ) (S : Same H H1)
    (step : ∀ (k : Int) (H2 : Hp) (Z : VK), Same H1 H2 → 1 ≤ k → k ≤ 3 → (∀ n H5, Same H2 H5 → InR N n → Z (.int n) H5) → te (τ.set 0 (some (.int k))) H2 Z)
    (fin : ∀ H', Same H H' → Spt H' D N → Q (.ref D) H') : LcP (Itl K p) 0 tAlways te Q τ H1 D := by
  refine lc_gen 3 (by decide) (fun xs _ => ∃ ns : List Int, xs = ns.map V.int ∧ ∀ n ∈ ns, InR N n) (fun xs _ _ h _ => h) hD hτ (fun k H2 S hk => go_lst hp S hk) (fun H2 S => st_lst hp S) ⟨[], rfl, fun n h => absurd h List.not_mem_nil⟩ ?_ ?_
  · rintro k H2 v H3 xs Z S2 hk ⟨rfl, hv⟩ ⟨ns, hns, hr⟩ hl z
    have hv' := hv _ (SqL.of (S2 _ _ hp))
    obtain ⟨j, rfl, j1, j3⟩ : ∃ j : Int, v = .int j ∧ 1 ≤ j ∧ j ≤ 3 := by
      match k, hk, hv' with
      | 0, _, e => cases e; exact ⟨1, rfl, by decide, by decide⟩
      | 1, _, e => cases e; exact ⟨2, rfl, by decide, by decide⟩
      | 2, _, e => cases e; exact ⟨3, rfl, by decide, by decide⟩
    refine step j H3 Z S2 j1 j3 fun n H5 S5 hn => z _ _ S5 ⟨ns ++ [n], by rw [hns, List.map_append]; rfl, fun m hm => ?_⟩
    rcases List.mem_append.mp hm with h | h
    · exact hr m h
    · simp only [List.mem_singleton] at h
      rw [h]
      exact hn
  · rintro H2 xs S2 ⟨ns, hns, hr⟩ hl e
    exact fin H2 (S.trans S2) ⟨ns, by rw [e, hns], by rw [hns, List.length_map] at hl; exact hl, hr⟩
theorem ret_make {Q : VK} {l : Addr} {c N : Int} {sp : Option V} {f : V} {m : Mf} {H H1 : Hp} (hN : 0 < N) (q : ∀ v (m : Mf) (a p : Int) H', Same H H' → m.ok → m.rng N → InR N a → Im H' v (Mkg.d (mkg m a p)) → Q v H') (S : Same H H1) (ok : m.ok) (rg : m.rng N) (hf : Im H1 f m.f) :
    tRet (tTup (tCons (cV 4) (tCons (cV 5) (tCons (tCall sp__law_pick [] E0 (tCons (cV 1) (tCons (tC (.int 5)) (tCons (cV 2) tNil)))) (tCons (tCall sp__law_pick [] E0 (tCons (cV 1) (tCons (tC (.int 7)) (tCons (tC (.int 160)) tNil)))) tNil))))) { nx := fun _ H' => Q .non H', rt := Q } [some (.ref l), some (.int c), some (.int N), sp, some (.str m.s), some f] H1 := by
  refine ⟨c, 5, N, rfl, by decide, by decide, hN, fun a H2 S2 a0 a1 => ⟨c, 7, 160, rfl, by decide, by decide, by decide, fun p H3 S3 _ _ => ⟨(by show 4 ≤ sizeLine; decide), fun t ht => ?_⟩⟩⟩
  have S4 := same_new ht (.tup [V.str m.s, f, V.int a, V.int p])
  exact q _ m a p _ (((S.trans S2).trans S3).trans S4) ok rg ⟨a0, a1⟩ (.tup upd_same (.cons (.flat rfl) (.cons (hf.mono (Same.tk ((S2.trans S3).trans S4))) (.cons (.flat rfl) (.cons (.flat rfl) .nil)))))
noncomputable def sp__law_make : Sp := fun vs H Q _ => ∃ (l : Addr) (c N : Int), vs = [.ref l, .int c, .int N] ∧ Wd H l ∧ 0 < N ∧ ∀ v (m : Mf) (a p : Int) H', Same H H' → m.ok → m.rng N → InR N a → Im H' v (Mkg.d (mkg m a p)) → Q v H'
theorem ok__law_make (T : Txt K mg) : FnOk P w K mg base CX0 3 T.a__law_make T.fd__law_make ["_law_words_here", "_law_cell", "_law_many"] sp__law_make := by
  have G__law_pick := ok__law_pick (P := P) (w := w) (base := base) T
  have G__law_named := ok__law_named (P := P) (w := w) (base := base) T
  refine T.F__law_make.ok sc__law_make (fun vs H Q E h => ?_) (fun cdv A outer s H vs Q E hr h => ?_)
  · obtain ⟨l, c, N, rfl, _⟩ := h
    rfl
  obtain ⟨l, c, N, rfl, hw, hN, q⟩ := h
  refine ⟨_, (pss_cons (ps_setLC (j := 3) rfl (blkC (x := "_law_k") ["_law_many", "_law_cell"] [("_law_many", 2, s.heap.objs.size + 2), ("_law_cell", 1, s.heap.objs.size + 1)] rfl rfl (by decide +kernel) (by decide +kernel) rfl (by decide +kernel) rfl rfl (by intro p hp; simp only [List.mem_cons, List.not_mem_nil, or_false] at hp; rcases hp with rfl | rfl <;> exact ⟨rfl, rfl, rfl, rfl⟩)) (pi_list (pe_lst (pa_cons pe_int (pa_cons pe_int (pa_cons pe_int pa_nil))))) (fun _ _ _ _ _ => pts_nil) (fun _ _ _ _ _ => (pe_call G__law_pick (hr.mono (by decide)) rfl T.m__law_pick T.k__law_pick T.b__law_pick .nil pass0 (pa_cons (cv 2) (pa_cons (cv 0) (pa_cons (cv 1) pa_nil))))) sc__law_make.nd rfl (Or.inl rfl))
    (pss_cons (ps_set (i := 4) sc__law_make.nd rfl (Or.inl rfl) (pe_ix xc_list (pe_lst (pa_cons pe_str (pa_cons pe_str (pa_cons pe_str (pa_cons pe_str (pa_cons pe_str (pa_cons pe_str pa_nil))))))) (pe_call G__law_pick (hr.mono (by decide)) rfl T.m__law_pick T.k__law_pick T.b__law_pick .nil pass0 (pa_cons (cv 1) (pa_cons pe_int (pa_cons pe_int pa_nil)))) (fun _ _ => rfl)))
    (pss_cons (ps_set (i := 5) sc__law_make.nd rfl (Or.inl rfl) (pe_tup pa_nil))
    (pss_cons (ps_if (ptc_cmpR oc_eq (cv 4) pe_str (nomark _))
      (pss_one (ps_set (i := 5) sc__law_make.nd rfl (Or.inl rfl) (pe_tup (pa_cons (pe_ix xc_list (cv 3) pe_int (fun _ _ => rfl)) (pa_cons (pe_ix xc_list (cv 3) pe_int (fun _ _ => rfl)) pa_nil)))))
      pss_nil)
    (pss_cons (ps_if (ptc_cmpR oc_eq (cv 4) pe_str (nomark _))
      (pss_one (ps_set (i := 5) sc__law_make.nd rfl (Or.inl rfl) (pe_call G__law_named (hr.mono (by decide)) rfl T.m__law_named T.k__law_named T.b__law_named .nil pass0 (pa_cons (cv 0) (pa_cons (cv 1) (pa_cons (cv 3) pa_nil))))))
      pss_nil)
    (pss_cons (ps_if (ptc_cmpR oc_eq (cv 4) pe_str (nomark _))
      (pss_one (ps_set (i := 5) sc__law_make.nd rfl (Or.inl rfl) (pe_tup (pa_cons (pe_ix xc_list (cv 0) (pe_call G__law_pick (hr.mono (by decide)) rfl T.m__law_pick T.k__law_pick T.b__law_pick .nil pass0 (pa_cons (cv 1) (pa_cons pe_int (pa_cons pe_int pa_nil)))) (fun _ _ => rfl)) (pa_cons (pe_ix xc_list (cv 3) pe_int (fun _ _ => rfl)) pa_nil)))))
      pss_nil)
    (pss_cons (ps_if (ptc_cmpR oc_eq (cv 4) pe_str (nomark _))
      (pss_one (ps_set (i := 5) sc__law_make.nd rfl (Or.inl rfl) (pe_tup (pa_cons (pe_ix xc_list (cv 3) pe_int (fun _ _ => rfl)) pa_nil))))
      pss_nil)
    (pss_one (ps_ret (pe_tup (pa_cons (cv 4) (pa_cons (cv 5) (pa_cons (pe_call G__law_pick (hr.mono (by decide)) rfl T.m__law_pick T.k__law_pick T.b__law_pick .nil pass0 (pa_cons (cv 1) (pa_cons pe_int (pa_cons (cv 2) pa_nil)))) (pa_cons (pe_call G__law_pick (hr.mono (by decide)) rfl T.m__law_pick T.k__law_pick T.b__law_pick .nil pass0 (pa_cons (cv 1) (pa_cons pe_int (pa_cons pe_int pa_nil)))) pa_nil)))))))))))))), ?_⟩
  refine ⟨(by show 3 ≤ sizeLine; decide), fun p hp => ⟨p, rfl, ⟨_, SqL.of upd_same⟩, fun D hD => lc_spots (N := N) upd_same hD rfl (same_new hp _) (fun k H2 Z _ k1 k3 z => ⟨c, k, N, rfl, by omega, by omega, hN, fun n H5 S5 n0 n1 => z n H5 S5 ⟨n0, n1⟩⟩) (fun H1 S1 hsp => ?_)⟩⟩
  refine ⟨(by show 6 ≤ sizeLine; decide), fun b hb => ⟨c, 4, 6, rfl, by decide, by decide, by decide, fun n H2 S2 n0 n1 => ?_⟩⟩
  have Sb := same_new hb (.lst [V.str "num", V.str "fn", V.str "rec", V.str "tag", V.str "row", V.str "any"])
  have hb2 := S2 _ _ (upd_same (H := H1) (a := b) (o := .lst [V.str "num", V.str "fn", V.str "rec", V.str "tag", V.str "row", V.str "any"]))
  have S3 : Same H H2 := S1.trans (Sb.trans S2)
  have hsp2 := hsp.same (Sb.trans S2)
  have hw2 := hw.same S3
  obtain ⟨ws, ew, _, wat_⟩ := wd_at hw2
  obtain ⟨ns, es, hat⟩ := hsp2.at
  obtain ⟨x0, e0, r0⟩ := hat 0 (by decide) (by decide)
  obtain ⟨x1, e1, r1⟩ := hat 1 (by decide) (by decide)
  refine ⟨_, hb2, ?_⟩
  obtain ⟨k, rfl⟩ : ∃ k : Nat, n = (k : Int) := ⟨n.toNat, by omega⟩
  match k, n1 with
  | 0, _ =>
    refine onS_of (atI_nat (j := 0) rfl) ⟨(by show 0 ≤ sizeLine; decide), fun t ht => ?_⟩
    dsimp only [gName]
    refine seq_no (s := "num") rfl (by decide +kernel) (seq_no (s := "num") rfl (by decide +kernel) (seq_no (s := "num") rfl (by decide +kernel) (seq_no (s := "num") rfl (by decide +kernel) ?_)))
    exact ret_make (m := .num) hN q (S3.trans (same_new ht _)) trivial trivial (.tup upd_same .nil)
  | 1, _ =>
    refine onS_of (atI_nat (j := 1) rfl) ⟨(by show 0 ≤ sizeLine; decide), fun t ht => ?_⟩
    have St := same_new ht (.tup [])
    dsimp only [gName]
    refine seq_yes (s := "fn") rfl rfl ⟨_, St _ _ es, onS_of e0 ⟨_, St _ _ es, onS_of e1 ⟨(by show 2 ≤ sizeLine; decide), fun t2 ht2 => ?_⟩⟩⟩
    dsimp only [gName]
    refine seq_no (s := "fn") rfl (by decide +kernel) (seq_no (s := "fn") rfl (by decide +kernel) (seq_no (s := "fn") rfl (by decide +kernel) ?_))
    exact ret_make (m := .fn x0 x1) hN q ((S3.trans St).trans (same_new ht2 _)) trivial ⟨r0, r1⟩ (.tup upd_same (.cons (.flat rfl) (.cons (.flat rfl) .nil)))
  | 2, _ =>
    refine onS_of (atI_nat (j := 2) rfl) ⟨(by show 0 ≤ sizeLine; decide), fun t ht => ?_⟩
    have St := same_new ht (.tup [])
    dsimp only [gName]
    refine seq_no (s := "rec") rfl (by decide +kernel) (seq_yes (s := "rec") rfl rfl ⟨l, D, c, N, rfl, hw2.same St, hsp2.same St, fun v ps H4 S4 hl hd hr hv => ?_⟩)
    dsimp only [gName]
    refine seq_no (s := "rec") rfl (by decide +kernel) (seq_no (s := "rec") rfl (by decide +kernel) ?_)
    exact ret_make (m := .rcd ps) hN q ((S3.trans St).trans S4) ⟨hl, hd⟩ hr hv
  | 3, _ =>
    refine onS_of (atI_nat (j := 3) rfl) ⟨(by show 0 ≤ sizeLine; decide), fun t ht => ?_⟩
    have St := same_new ht (.tup [])
    dsimp only [gName]
    refine seq_no (s := "tag") rfl (by decide +kernel) (seq_no (s := "tag") rfl (by decide +kernel) (seq_yes (s := "tag") rfl rfl ⟨c, 6, 4, rfl, by decide, by decide, by decide, fun j H4 S4 j0 j1 => ?_⟩))
    obtain ⟨y, ey, _⟩ := wat_ j j0 j1
    refine ⟨_, S4 _ _ (St _ _ ew), onS_of ey ⟨_, S4 _ _ (St _ _ es), onS_of e0 ⟨(by show 2 ≤ sizeLine; decide), fun t2 ht2 => ?_⟩⟩⟩
    dsimp only [gName]
    refine seq_no (s := "tag") rfl (by decide +kernel) ?_
    exact ret_make (m := .tag y x0) hN q (((S3.trans St).trans S4).trans (same_new ht2 _)) trivial r0 (.tup upd_same (.cons (.flat rfl) (.cons (.flat rfl) .nil)))
  | 4, _ =>
    refine onS_of (atI_nat (j := 4) rfl) ⟨(by show 0 ≤ sizeLine; decide), fun t ht => ?_⟩
    have St := same_new ht (.tup [])
    dsimp only [gName]
    refine seq_no (s := "row") rfl (by decide +kernel) (seq_no (s := "row") rfl (by decide +kernel) (seq_no (s := "row") rfl (by decide +kernel) (seq_yes (s := "row") rfl rfl ⟨_, St _ _ es, onS_of e0 ⟨(by show 1 ≤ sizeLine; decide), fun t2 ht2 => ?_⟩⟩)))
    exact ret_make (m := .row x0) hN q ((S3.trans St).trans (same_new ht2 _)) trivial r0 (.tup upd_same (.cons (.flat rfl) .nil))
  | 5, _ =>
    refine onS_of (atI_nat (j := 5) rfl) ⟨(by show 0 ≤ sizeLine; decide), fun t ht => ?_⟩
    dsimp only [gName]
    refine seq_no (s := "any") rfl (by decide +kernel) (seq_no (s := "any") rfl (by decide +kernel) (seq_no (s := "any") rfl (by decide +kernel) (seq_no (s := "any") rfl (by decide +kernel) ?_)))
    exact ret_make (m := .any) hN q (S3.trans (same_new ht _)) trivial trivial (.tup upd_same .nil)
  | k + 6, h => exact absurd h (by omega)
end
end K33.Internal
namespace K33.Internal
open PySem L2.Internal BO.Internal
seal L2.Internal.PE L2.Internal.PA L2.Internal.PS L2.Internal.PSs L2.Internal.PT L2.Internal.PI
section
variable {i : Nat} {s w w' : Str} {t : TS} {D : Ends} {σ : St} {H : Hp} {u' : TS}
theorem tq_no {Q : Bool → Hp → Prop} (hv : σ[i]? = some (some (.str s))) (h : s ≠ w) (q : Q false H) : cT (tOp (cEq false) (cV i) (tC (.str w))) σ H Q := by
  show onV σ[i]? _
  rw [hv]
  show Q (false ^^ decide (s = w)) H
  rw [decide_eq_false h]
  exact q
theorem tq_yes {Q : Bool → Hp → Prop} (hv : σ[i]? = some (some (.str s))) (h : s = w) (q : Q true H) : cT (tOp (cEq false) (cV i) (tC (.str w))) σ H Q := by
  show onV σ[i]? _
  rw [hv]
  show Q (false ^^ decide (s = w)) H
  rw [decide_eq_true h]
  exact q
theorem sor_no (hv : σ[i]? = some (some (.str s))) (h : s ≠ w) (h' : s ≠ w') (q : u' D σ H) : tSeq (tIfS (tOr (cT (tOp (cEq false) (cV i) (tC (.str w)))) (cT (tOp (cEq false) (cV i) (tC (.str w'))))) t tNext) u' D σ H :=
  tq_no hv h (iteF (tq_no hv h' (iteF q)))
theorem sor_1 (hv : σ[i]? = some (some (.str s))) (h : s = w) (q : t { D with nx := u' D } σ H) : tSeq (tIfS (tOr (cT (tOp (cEq false) (cV i) (tC (.str w)))) (cT (tOp (cEq false) (cV i) (tC (.str w'))))) t tNext) u' D σ H :=
  tq_yes hv h (iteT (iteT q))
theorem sor_2 (hv : σ[i]? = some (some (.str s))) (h : s ≠ w) (h' : s = w') (q : t { D with nx := u' D } σ H) : tSeq (tIfS (tOr (cT (tOp (cEq false) (cV i) (tC (.str w)))) (cT (tOp (cEq false) (cV i) (tC (.str w'))))) t tNext) u' D σ H :=
  tq_no hv h (iteF (tq_yes hv h' (iteT q)))
end
section
variable {P : Program} {w : World} {K : PySem.W.Frag} {mg : Str → Option Value} {base : Heap}
theorem hdI {H : Hp} (n : Str) (a p s : Int) : Ims H [V.str n, .int a, .int p, .int s] (hdD n a p s) := .cons (.flat rfl) (.cons (.flat rfl) (.cons (.flat rfl) (.cons (.flat rfl) .nil)))
noncomputable def sp__law_use : Sp := fun vs H Q _ => ∃ (l : Addr) (c N : Int), vs = [.ref l, .int c, .int N] ∧ Wd H l ∧ 0 < N ∧ ∀ v (u : Us) H', Same H H' → u.ok → u.dist → u.rng N → Im H' v (Us.d u) → Q v H'
theorem ok__law_use (T : Txt K mg) : FnOk P w K mg base CX0 3 T.a__law_use T.fd__law_use ["_law_words_here", "_law_cell", "_law_many"] sp__law_use := by
  have G__law_pick := ok__law_pick (P := P) (w := w) (base := base) T
  have G__law_named := ok__law_named (P := P) (w := w) (base := base) T
  refine T.F__law_use.ok sc__law_use (fun vs H Q E h => ?_) (fun cdv A outer s H vs Q E hr h => ?_)
  · obtain ⟨l, c, N, rfl, _⟩ := h
    rfl
  obtain ⟨l, c, N, rfl, hw, hN, q⟩ := h
  refine ⟨_, (pss_cons (ps_setLC (j := 3) rfl (blkC (x := "_law_k") ["_law_many", "_law_cell"] [("_law_many", 2, s.heap.objs.size + 2), ("_law_cell", 1, s.heap.objs.size + 1)] rfl rfl (by decide +kernel) (by decide +kernel) rfl (by decide +kernel) rfl rfl (by intro p hp; simp only [List.mem_cons, List.not_mem_nil, or_false] at hp; rcases hp with rfl | rfl <;> exact ⟨rfl, rfl, rfl, rfl⟩)) (pi_list (pe_lst (pa_cons pe_int (pa_cons pe_int (pa_cons pe_int pa_nil))))) (fun _ _ _ _ _ => pts_nil) (fun _ _ _ _ _ => (pe_call G__law_pick (hr.mono (by decide)) rfl T.m__law_pick T.k__law_pick T.b__law_pick .nil pass0 (pa_cons (cv 2) (pa_cons (cv 0) (pa_cons (cv 1) pa_nil))))) sc__law_use.nd rfl (Or.inl rfl))
    (pss_cons (ps_set (i := 4) sc__law_use.nd rfl (Or.inl rfl) (pe_ix xc_list (pe_lst (pa_cons pe_str (pa_cons pe_str (pa_cons pe_str (pa_cons pe_str (pa_cons pe_str pa_nil)))))) (pe_call G__law_pick (hr.mono (by decide)) rfl T.m__law_pick T.k__law_pick T.b__law_pick .nil pass0 (pa_cons (cv 1) (pa_cons pe_int (pa_cons pe_int pa_nil)))) (fun _ _ => rfl)))
    (pss_cons (ps_set (i := 5) sc__law_use.nd rfl (Or.inl rfl) (pe_tup (pa_cons (cv 4) (pa_cons (pe_call G__law_pick (hr.mono (by decide)) rfl T.m__law_pick T.k__law_pick T.b__law_pick .nil pass0 (pa_cons (cv 1) (pa_cons pe_int (pa_cons (cv 2) pa_nil)))) (pa_cons (pe_call G__law_pick (hr.mono (by decide)) rfl T.m__law_pick T.k__law_pick T.b__law_pick .nil pass0 (pa_cons (cv 1) (pa_cons pe_int (pa_cons pe_int pa_nil)))) (pa_cons (pe_op oc_mod (cv 1) pe_int) pa_nil))))))
    (pss_cons (ps_if (ptc_cmpR oc_eq (cv 4) pe_str (nomark _))
      (pss_one (ps_ret (pe_op op_catT (cv 5) (pe_tup (pa_cons (pe_ix xc_list (cv 3) pe_int (fun _ _ => rfl)) (pa_cons (pe_ix xc_list (cv 3) pe_int (fun _ _ => rfl)) pa_nil))))))
      pss_nil)
    (pss_cons (ps_if (PW.pt (pw_or (ptc_cmpR oc_eq (cv 4) pe_str (nomark _)) (pw_or1 (ptc_cmpR oc_eq (cv 4) pe_str (nomark _)))))
      (pss_one (ps_ret (pe_op op_catT (cv 5) (pe_tup (pa_cons (pe_call G__law_named (hr.mono (by decide)) rfl T.m__law_named T.k__law_named T.b__law_named .nil pass0 (pa_cons (cv 0) (pa_cons (cv 1) (pa_cons (cv 3) pa_nil)))) pa_nil)))))
      pss_nil)
    (pss_cons (ps_if (ptc_cmpR oc_eq (cv 4) pe_str (nomark _))
      (pss_one (ps_ret (pe_op op_catT (cv 5) (pe_tup (pa_cons (pe_ix xc_list (cv 3) pe_int (fun _ _ => rfl)) pa_nil)))))
      pss_nil)
    (pss_one (ps_ret (cv 5))))))))), ?_⟩
  refine ⟨(by show 3 ≤ sizeLine; decide), fun p hp => ⟨p, rfl, ⟨_, SqL.of upd_same⟩, fun D hD => lc_spots (N := N) upd_same hD rfl (same_new hp _) (fun k H2 Z _ k1 k3 z => ⟨c, k, N, rfl, by omega, by omega, hN, fun n H5 S5 n0 n1 => z n H5 S5 ⟨n0, n1⟩⟩) (fun H1 S1 hsp => ?_)⟩⟩
  refine ⟨(by show 5 ≤ sizeLine; decide), fun b hb => ⟨c, 4, 5, rfl, by decide, by decide, by decide, fun n H2 S2 n0 n1 => ?_⟩⟩
  have Sb := same_new hb (.lst [V.str "num", V.str "call", V.str "take", V.str "case", V.str "row"])
  have hb2 := S2 _ _ (upd_same (H := H1) (a := b) (o := .lst [V.str "num", V.str "call", V.str "take", V.str "case", V.str "row"]))
  have S3 : Same H H2 := S1.trans (Sb.trans S2)
  have hsp2 := hsp.same (Sb.trans S2)
  refine ⟨_, hb2, ?_⟩
  obtain ⟨k, rfl⟩ : ∃ k : Nat, n = (k : Int) := ⟨n.toNat, by omega⟩
  obtain ⟨wd_, hk, hws⟩ : ∃ x : Str, [V.str "num", V.str "call", V.str "take", V.str "case", V.str "row"][k]? = some (.str x) ∧ (x = "num" ∨ x = "call" ∨ x = "take" ∨ x = "case" ∨ x = "row") := by
    match k, n1 with
    | 0, _ => exact ⟨_, rfl, by simp⟩
    | 1, _ => exact ⟨_, rfl, by simp⟩
    | 2, _ => exact ⟨_, rfl, by simp⟩
    | 3, _ => exact ⟨_, rfl, by simp⟩
    | 4, _ => exact ⟨_, rfl, by simp⟩
    | k + 5, h => exact absurd h (by omega)
  refine onS_of (atI_nat hk) ⟨c, 5, N, rfl, by decide, by decide, hN, fun a H3 S3' a0 a1 => ⟨c, 7, 160, rfl, by decide, by decide, by decide, fun p H4 S4 _ _ => ⟨(by show (0 : Int) < 2; decide), (by show 4 ≤ sizeLine; decide), fun hd hhd => ?_⟩⟩⟩
  have Sh := same_new hhd (.tup [V.str wd_, .int a, .int p, .int (c % 2)])
  have S5 : Same H _ := ((S3.trans S3').trans S4).trans Sh
  have eh := (upd_same (H := H4) (a := hd) (o := .tup [V.str wd_, .int a, .int p, .int (c % 2)]))
  have hw5 := hw.same S5
  have hsp5 := hsp2.same ((S3'.trans S4).trans Sh)
  dsimp only [gName]
  generalize upd H4 hd (.tup [V.str wd_, .int a, .int p, .int (c % 2)]) = H5 at S5 eh hw5 hsp5 ⊢
  obtain ⟨ns, es, hat⟩ := hsp5.at
  obtain ⟨x0, e0, r0⟩ := hat 0 (by decide) (by decide)
  obtain ⟨x1, e1, r1⟩ := hat 1 (by decide) (by decide)
  have cat : ∀ (H6 : Hp) (ys : List V) (t3 : Addr) (Z : VK), Same H5 H6 → H6 t3 = none → ys.length ≤ 5 → ys ≠ [] → (∀ t4, (upd H6 t3 (.tup ys)) t4 = none → Z (.ref t4) (upd (upd H6 t3 (.tup ys)) t4 (.tup ([V.str wd_, .int a, .int p, .int (c % 2)] ++ ys)))) → rCatT K (.ref hd) (.ref t3) (upd H6 t3 (.tup ys)) Z := fun H6 ys t3 Z S6 h3 hl hne z =>
    ⟨hd, t3, _, _, rfl, rfl, SqT.of (same_new h3 _ _ _ (S6 _ _ eh)), SqT.of upd_same, (fun z => nomatch z), (by show 4 + ys.length ≤ sizeLine; have := sizeLine_eq; omega), fun z => absurd z hne, fun _ t4 h4 => z t4 h4⟩
  have pt : ∀ (v : V) (H6 : Hp) (d : Dt) (t3 t4 : Addr), H6 t3 = none → (upd H6 t3 (.tup [v])) t4 = none → Im H6 v d → Im (upd (upd H6 t3 (.tup [v])) t4 (.tup ([V.str wd_, .int a, .int p, .int (c % 2)] ++ [v]))) (.ref t4) (.tup (hdD wd_ a p (c % 2) ++ [d])) := fun v H6 d t3 t4 h3 h4 hv =>
    .tup upd_same ((hdI _ _ _ _).app (.cons (hv.mono (Same.tk ((same_new h3 _).trans (same_new h4 _)))) .nil))
  have nm : ∀ (v : V) (ps : List (Str × Int)) (H6 : Hp) (Z : VK), Same H5 H6 → Im H6 v (prD ps) → (∀ v' H', Same H H' → Im H' v' (.tup (hdD wd_ a p (c % 2) ++ [prD ps])) → Z v' H') → (1 : Nat) ≤ sizeLine ∧ ∀ t3, H6 t3 = none → rCatT K (.ref hd) (.ref t3) (upd H6 t3 (.tup [v])) Z := fun v ps H6 Z S6 hv z =>
    ⟨by decide, fun t3 h3 => cat H6 [v] t3 Z S6 h3 (by show 1 ≤ 5; decide) (fun h => nomatch h) fun t4 h4 => z _ _ (((S5.trans S6).trans (same_new h3 _)).trans (same_new h4 _)) (pt v H6 _ t3 t4 h3 h4 hv)⟩
  rcases hws with rfl | rfl | rfl | rfl | rfl
  · refine seq_no (s := "num") rfl (by decide +kernel) (sor_no (s := "num") rfl (by decide +kernel) (by decide +kernel) (seq_no (s := "num") rfl (by decide +kernel) ?_))
    exact q _ (.num a p (c % 2)) _ S5 trivial trivial trivial (.tup eh (hdI _ _ _ _))
  · refine seq_yes (s := "call") rfl rfl ⟨_, es, onS_of e0 ⟨_, es, onS_of e1 ⟨(by show 2 ≤ sizeLine; decide), fun t3 h3 => ?_⟩⟩⟩
    refine cat H5 _ t3 _ (Same.refl _) h3 (by show 2 ≤ 5; decide) (fun h => nomatch h) fun t4 h4 => ?_
    exact q _ (.call a p (c % 2) x0 x1) _ ((S5.trans (same_new h3 _)).trans (same_new h4 _)) trivial trivial ⟨r0, r1⟩ (.tup upd_same ((hdI _ _ _ _).app (.cons (.flat rfl) (.cons (.flat rfl) .nil))))
  · refine seq_no (s := "take") rfl (by decide +kernel) (sor_1 (s := "take") rfl rfl ⟨l, D, c, N, rfl, hw5, hsp5, fun v ps H6 S6 hl hd_ hr hv => ?_⟩)
    exact nm v ps H6 _ S6 hv fun v' H' S' h' => q _ (.take a p (c % 2) ps) _ S' hl hd_ hr h'
  · refine seq_no (s := "case") rfl (by decide +kernel) (sor_2 (s := "case") rfl (by decide +kernel) rfl ⟨l, D, c, N, rfl, hw5, hsp5, fun v ps H6 S6 hl hd_ hr hv => ?_⟩)
    exact nm v ps H6 _ S6 hv fun v' H' S' h' => q _ (.case a p (c % 2) ps) _ S' hl hd_ hr h'
  · refine seq_no (s := "row") rfl (by decide +kernel) (sor_no (s := "row") rfl (by decide +kernel) (by decide +kernel) (seq_yes (s := "row") rfl rfl ⟨_, es, onS_of e0 ⟨(by show 1 ≤ sizeLine; decide), fun t3 h3 => ?_⟩⟩))
    refine cat H5 _ t3 _ (Same.refl _) h3 (by show 1 ≤ 5; decide) (fun h => nomatch h) fun t4 h4 => ?_
    exact q _ (.row a p (c % 2) x0) _ ((S5.trans (same_new h3 _)).trans (same_new h4 _)) trivial trivial r0 (.tup upd_same ((hdI _ _ _ _).app (.cons (.flat rfl) .nil)))
theorem tup_hd {H : Hp} {v : V} {n : Str} {a p s : Int} {r : List Dt} (h : Im H v (.tup (hdD n a p s ++ r))) : ∃ t xs, v = .ref t ∧ H t = some (.tup ([.str n, .int a, .int p, .int s] ++ xs)) ∧ Ims H xs r := by
  cases h with
  | @tup t ys _ e hs =>
    cases hs with
    | cons h1 hs =>
      cases h1
      cases hs with
      | cons h2 hs =>
        cases h2
        cases hs with
        | cons h3 hs =>
          cases h3
          cases hs with
          | cons h4 hs =>
            cases h4
            exact ⟨t, _, rfl, e, hs⟩
theorem shq_no {i : Nat} {s w : Str} {t u' : TS} {D : Ends} {σ : St} {H : Hp} {a : Addr} {r : List V} (hv : σ[i]? = some (some (.ref a))) (ha : H a = some (.tup (.str s :: r))) (h : s ≠ w) (q : u' D σ H) : tSeq (tIfS (cT (tOp (cEq false) (tOp cIxT (cV i) (tC (.int 0))) (tC (.str w)))) t tNext) u' D σ H := tsh_no (u := tNext) (D := { D with nx := u' D }) hv ha h q
theorem shq_yes {i : Nat} {s w : Str} {t u' : TS} {D : Ends} {σ : St} {H : Hp} {a : Addr} {r : List V} (hv : σ[i]? = some (some (.ref a))) (ha : H a = some (.tup (.str s :: r))) (h : s = w) (q : t { D with nx := u' D } σ H) : tSeq (tIfS (cT (tOp (cEq false) (tOp cIxT (cV i) (tC (.int 0))) (tC (.str w)))) t tNext) u' D σ H := tsh_yes (u := tNext) (D := { D with nx := u' D }) hv ha h q
noncomputable def sp__law_using (c : Cs) : Sp := fun vs H Q _ => ∃ (v : V) (u : Us), vs = [v] ∧ u.ok ∧ Im H v (Us.d u) ∧ ∀ x H', Same H H' → UsAt c H' x u → Q x H'
theorem ok__law_using (T : Txt K mg) : FnOk P w K mg base CX0 4 T.a__law_using T.fd__law_using ["_law_told"] (sp__law_using (cs T)) := by
  have G_Use___init__ := ok_Use___init__ (P := P) (w := w) (base := base) T
  have G_CallUse___init__ := ok_CallUse___init__ (P := P) (w := w) (base := base) T
  have G_TakeUse___init__ := ok_TakeUse___init__ (P := P) (w := w) (base := base) T
  have G_CaseUse___init__ := ok_CaseUse___init__ (P := P) (w := w) (base := base) T
  have G_RowUse___init__ := ok_RowUse___init__ (P := P) (w := w) (base := base) T
  refine T.F__law_using.ok sc__law_using (fun vs H Q E h => ?_) (fun cdv A outer s H vs Q E hr h => ?_)
  · obtain ⟨v, u, rfl, _⟩ := h
    rfl
  obtain ⟨v, u, rfl, uo, hv, q⟩ := h
  refine ⟨_, (pss_cons (ps_if (ptc_cmpR oc_eq (pe_ix xc_tup (cv 0) pe_int (fun _ _ => rfl)) pe_str (nomark _))
      (pss_one (ps_ret (pe_make T.mk_CallUse G_CallUse___init__ (hr.mono (by decide)) rfl T.m_CallUse T.b_CallUse___init__ .nil pass0 (pa_cons (pe_ix xc_tup (cv 0) pe_int (fun _ _ => rfl)) (pa_cons (pe_ix xc_tup (cv 0) pe_int (fun _ _ => rfl)) (pa_cons (pe_ix xc_tup (cv 0) pe_int (fun _ _ => rfl)) (pa_cons (pe_ix xc_tup (cv 0) pe_int (fun _ _ => rfl)) (pa_cons (pe_ix xc_tup (cv 0) pe_int (fun _ _ => rfl)) pa_nil))))))))
      pss_nil)
    (pss_cons (ps_if (ptc_cmpR oc_eq (pe_ix xc_tup (cv 0) pe_int (fun _ _ => rfl)) pe_str (nomark _))
      (pss_one (ps_ret (pe_make T.mk_TakeUse G_TakeUse___init__ (hr.mono (by decide)) rfl T.m_TakeUse T.b_TakeUse___init__ .nil pass0 (pa_cons (pe_ix xc_tup (cv 0) pe_int (fun _ _ => rfl)) (pa_cons (pe_ix xc_tup (cv 0) pe_int (fun _ _ => rfl)) (pa_cons (pe_ix xc_tup (cv 0) pe_int (fun _ _ => rfl)) (pa_cons (pe_ix xc_tup (cv 0) pe_int (fun _ _ => rfl)) pa_nil)))))))
      pss_nil)
    (pss_cons (ps_if (ptc_cmpR oc_eq (pe_ix xc_tup (cv 0) pe_int (fun _ _ => rfl)) pe_str (nomark _))
      (pss_one (ps_ret (pe_make T.mk_CaseUse G_CaseUse___init__ (hr.mono (by decide)) rfl T.m_CaseUse T.b_CaseUse___init__ .nil pass0 (pa_cons (pe_ix xc_tup (cv 0) pe_int (fun _ _ => rfl)) (pa_cons (pe_ix xc_tup (cv 0) pe_int (fun _ _ => rfl)) (pa_cons (pe_ix xc_tup (cv 0) pe_int (fun _ _ => rfl)) (pa_cons (pe_ix xc_tup (cv 0) pe_int (fun _ _ => rfl)) pa_nil)))))))
      pss_nil)
    (pss_cons (ps_if (ptc_cmpR oc_eq (pe_ix xc_tup (cv 0) pe_int (fun _ _ => rfl)) pe_str (nomark _))
      (pss_one (ps_ret (pe_make T.mk_RowUse G_RowUse___init__ (hr.mono (by decide)) rfl T.m_RowUse T.b_RowUse___init__ .nil pass0 (pa_cons (pe_ix xc_tup (cv 0) pe_int (fun _ _ => rfl)) (pa_cons (pe_ix xc_tup (cv 0) pe_int (fun _ _ => rfl)) (pa_cons (pe_ix xc_tup (cv 0) pe_int (fun _ _ => rfl)) (pa_cons (pe_ix xc_tup (cv 0) pe_int (fun _ _ => rfl)) pa_nil)))))))
      pss_nil)
    (pss_one (ps_ret (pe_make T.mk_NumUse G_Use___init__ (hr.mono (by decide)) rfl T.m_NumUse T.b_Use___init__ .nil pass0 (pa_cons (pe_ix xc_tup (cv 0) pe_int (fun _ _ => rfl)) (pa_cons (pe_ix xc_tup (cv 0) pe_int (fun _ _ => rfl)) (pa_cons (pe_ix xc_tup (cv 0) pe_int (fun _ _ => rfl)) pa_nil)))))))))), ?_⟩
  cases u with
  | num a p sl =>
    obtain ⟨t, xs, rfl, e, hs⟩ := tup_hd (r := []) (show Im H v (.tup (hdD "num" a p sl ++ [])) from hv)
    cases hs
    refine shq_no rfl e (by decide +kernel) (shq_no rfl e (by decide +kernel) (shq_no rfl e (by decide +kernel) (shq_no rfl e (by decide +kernel) ?_)))
    refine ⟨_, e, onS_of (atI_nat (j := 1) rfl) ⟨_, e, onS_of (atI_nat (j := 2) rfl) ⟨_, e, onS_of (atI_nat (j := 3) rfl) fun x dx hx hdx nx => ?_⟩⟩⟩
    refine ⟨x, _, dx, _, _, _, rfl, upd_same, T.cl_NumUse, T.n_NumUse_at, T.n_NumUse_place, T.n_NumUse_slot, rfl, ?_⟩
    rw [upd_upd]
    exact q _ _ (same_make hx hdx) ⟨x, dx, rfl, upd_same⟩
  | call a p sl y z =>
    obtain ⟨t, xs, rfl, e, hs⟩ := tup_hd hv
    obtain rfl := ims2 hs
    refine shq_yes rfl e rfl ⟨_, e, onS_of (atI_nat (j := 1) rfl) ⟨_, e, onS_of (atI_nat (j := 2) rfl) ⟨_, e, onS_of (atI_nat (j := 3) rfl) ⟨_, e, onS_of (atI_nat (j := 4) rfl) ⟨_, e, onS_of (atI_nat (j := 5) rfl) fun x dx hx hdx nx => ?_⟩⟩⟩⟩⟩
    refine ⟨x, dx, _, _, _, _, _, rfl, upd_same, rfl, ?_⟩
    rw [upd_upd]
    exact q _ _ (same_make hx hdx) ⟨x, dx, rfl, upd_same⟩
  | take a p sl ps =>
    obtain ⟨t, xs, rfl, e, hs⟩ := tup_hd hv
    obtain ⟨f, rfl, hf⟩ : ∃ f, xs = [f] ∧ Im H f (prD ps) := by
      cases hs with | cons h1 hs => cases hs; exact ⟨_, rfl, h1⟩
    refine shq_no rfl e (by decide +kernel) (shq_yes rfl e rfl ⟨_, e, onS_of (atI_nat (j := 1) rfl) ⟨_, e, onS_of (atI_nat (j := 2) rfl) ⟨_, e, onS_of (atI_nat (j := 3) rfl) ⟨_, e, onS_of (atI_nat (j := 4) rfl) fun x dx hx hdx nx => ?_⟩⟩⟩⟩)
    refine ⟨x, dx, _, _, _, _, rfl, upd_same, rfl, ?_⟩
    rw [upd_upd]
    exact q _ _ (same_make hx hdx) ⟨x, dx, f, rfl, upd_same, hf.mono (Same.tk (same_make hx hdx)), uo⟩
  | case a p sl ps =>
    obtain ⟨t, xs, rfl, e, hs⟩ := tup_hd hv
    obtain ⟨f, rfl, hf⟩ : ∃ f, xs = [f] ∧ Im H f (prD ps) := by
      cases hs with | cons h1 hs => cases hs; exact ⟨_, rfl, h1⟩
    refine shq_no rfl e (by decide +kernel) (shq_no rfl e (by decide +kernel) (shq_yes rfl e rfl ⟨_, e, onS_of (atI_nat (j := 1) rfl) ⟨_, e, onS_of (atI_nat (j := 2) rfl) ⟨_, e, onS_of (atI_nat (j := 3) rfl) ⟨_, e, onS_of (atI_nat (j := 4) rfl) fun x dx hx hdx nx => ?_⟩⟩⟩⟩))
    refine ⟨x, dx, _, _, _, _, rfl, upd_same, rfl, ?_⟩
    rw [upd_upd]
    exact q _ _ (same_make hx hdx) ⟨x, dx, f, rfl, upd_same, hf.mono (Same.tk (same_make hx hdx)), uo⟩
  | row a p sl y =>
    obtain ⟨t, xs, rfl, e, hs⟩ := tup_hd hv
    obtain rfl := ims1 hs
    refine shq_no rfl e (by decide +kernel) (shq_no rfl e (by decide +kernel) (shq_no rfl e (by decide +kernel) (shq_yes rfl e rfl ⟨_, e, onS_of (atI_nat (j := 1) rfl) ⟨_, e, onS_of (atI_nat (j := 2) rfl) ⟨_, e, onS_of (atI_nat (j := 3) rfl) ⟨_, e, onS_of (atI_nat (j := 4) rfl) fun x dx hx hdx nx => ?_⟩⟩⟩⟩)))
    refine ⟨x, dx, _, _, _, _, rfl, upd_same, rfl, ?_⟩
    rw [upd_upd]
    exact q _ _ (same_make hx hdx) ⟨x, dx, rfl, upd_same⟩
end
end K33.Internal
namespace K33.Internal
open PySem L2.Internal BO.Internal
seal L2.Internal.PE L2.Internal.PA L2.Internal.PS L2.Internal.PSs L2.Internal.PT L2.Internal.PI
theorem cut_ints (ns : List Int) (lo hi : Option Int) : ∃ ms : List Int, cutV (ns.map V.int) lo hi = ms.map V.int ∧ ms.length ≤ ns.length := by
  refine ⟨(ns.drop (HT.Internal.sIx (ns.map V.int).length 0 lo)).take (HT.Internal.sIx (ns.map V.int).length (ns.map V.int).length hi - HT.Internal.sIx (ns.map V.int).length 0 lo), ?_, ?_⟩
  · unfold cutV
    rw [← List.map_drop, ← List.map_take]
  · rw [List.length_take, List.length_drop]
    omega
theorem _root_.BO.Internal.Ls.new {H : Hp} {l : List Addr} {m : List (List V)} {a : Addr} (c : List V) (L : Ls H l m) (nd : l.Nodup) (h : H a = none) : Ls (upd H a (.lst c)) (a :: l) (c :: m) ∧ (a :: l).Nodup :=
  ⟨.cons upd_same (L.same (same_new h _)), List.nodup_cons.mpr ⟨fun m => (by obtain ⟨c, e⟩ := L.mem m; rw [h] at e; cases e), nd⟩⟩
noncomputable def Mk3.d (m : Mk3) : Dt := Mkg.d (mkg m.f m.a m.p)
structure Th (H : Hp) (th q0 q1 q2 q3 : Addr) (pts : List Int) (ms : List Mk3) (us : List Us) (fs : List (Int × Int)) : Prop where
  t : H th = some (.lst [.ref q0, .ref q1, .ref q2, .ref q3])
  p : H q0 = some (.lst (pts.map V.int))
  m : ∃ mv, H q1 = some (.lst mv) ∧ Ims H mv (ms.map Mk3.d)
  u : ∃ uv, H q2 = some (.lst uv) ∧ Ims H uv (us.map Us.d)
  f : ∃ fv, H q3 = some (.lst fv) ∧ Ims H fv (fs.map flD)
theorem Th.same {H H' : Hp} {th q0 q1 q2 q3 : Addr} {pts : List Int} {ms : List Mk3} {us : List Us} {fs : List (Int × Int)} (h : Th H th q0 q1 q2 q3 pts ms us fs) (s : Same H H') : Th H' th q0 q1 q2 q3 pts ms us fs := by
  obtain ⟨t, p, ⟨mv, m1, m2⟩, ⟨uv, u1, u2⟩, ⟨fv, f1, f2⟩⟩ := h
  have tk := Same.tk s
  exact ⟨s _ _ t, s _ _ p, ⟨mv, s _ _ m1, m2.mono tk⟩, ⟨uv, s _ _ u1, u2.mono tk⟩, ⟨fv, s _ _ f1, f2.mono tk⟩⟩
noncomputable def midT (H : Hp) (a : Addr) : St → Hp → Prop := fun σ' H' => ∃ (wl : Addr) (st N : Int), σ' = [some (.ref a), some (.ref wl), some (.int st), some (.int N), none, none, none] ∧ Same H H' ∧ Wd H' wl ∧ 0 < N ∧ N ≤ 40
theorem ints_at {ts : List Int} {i : Nat} {x : V} (h : (ts.map V.int)[i]? = some x) : i < ts.length ∧ ∃ n : Int, x = .int n := by
  have hi := (List.getElem?_eq_some_iff.mp h).1
  rw [List.length_map] at hi
  rw [List.getElem?_map] at h
  cases e : ts[i]? with
  | none => rw [e] at h; cases h
  | some m => rw [e] at h; exact ⟨hi, m, (Option.some.inj h).symm⟩
section
variable {P : Program} {w : World} {K : PySem.W.Frag} {mg : Str → Option Value} {base : Heap}
structure Dr (H H2 : Hp) (sc th q0 q1 q2 q3 wl : Addr) (ts : List Int) (pts : List Int) (N : Int) (i : Nat) (mv uv fv : List V) (ms : List Mk3) (us : List Us) (fs : List (Int × Int)) : Prop where
  s : Same H H2
  w : Wd H2 wl
  wf : H wl = none ∨ True
  l : Ls H2 [sc, th, q3, q2, q1, q0] [ts.map V.int, [.ref q0, .ref q1, .ref q2, .ref q3], fv, uv, mv, pts.map V.int]
  nd : [sc, th, q3, q2, q1, q0].Nodup
  f3 : H q3 = none
  f2 : H q2 = none
  f1 : H q1 = none
  w3 : wl ∉ [q3, q2, q1]
  im : Ims H2 mv (ms.map Mk3.d)
  iu : Ims H2 uv (us.map Us.d)
  if_ : Ims H2 fv (fs.map flD)
  lm : ms.length ≤ i
  lu : us.length ≤ i
  lf : fs.length ≤ i
  mo : ∀ m ∈ ms, m.f.ok ∧ m.f.rng N ∧ InR N m.a
  uo : ∀ u ∈ us, u.ok ∧ u.dist ∧ u.rng N
  fo : ∀ p ∈ fs, InR N p.1 ∧ InR N p.2
theorem mem_snoc {α : Type} {l : List α} {a : α} {F : α → Prop} (h : ∀ x ∈ l, F x) (ha : F a) : ∀ x ∈ l ++ [a], F x := fun x hx => by
  rcases List.mem_append.mp hx with z | z
  · exact h x z
  · simp only [List.mem_singleton] at z
    rw [z]
    exact ha
section
variable {H H2 H3 : Hp} {sc th q0 q1 q2 q3 wl : Addr} {ts pts : List Int} {N : Int} {i : Nat} {mv uv fv : List V} {ms : List Mk3} {us : List Us} {fs : List (Int × Int)}
theorem Dr.same (d : Dr H H2 sc th q0 q1 q2 q3 wl ts pts N i mv uv fv ms us fs) (s : Same H2 H3) : Dr H H3 sc th q0 q1 q2 q3 wl ts pts N i mv uv fv ms us fs :=
  ⟨d.s.trans s, d.w.same s, d.wf, d.l.same s, d.nd, d.f3, d.f2, d.f1, d.w3, d.im.mono (Same.tk s), d.iu.mono (Same.tk s), d.if_.mono (Same.tk s), d.lm, d.lu, d.lf, d.mo, d.uo, d.fo⟩
theorem wd_upd {a : Addr} {o : HO} (h : Wd H2 wl) (n : wl ≠ a) : Wd (upd H2 a o) wl := by
  obtain ⟨ws, e, z⟩ := h
  exact ⟨ws, by rw [upd_ne n]; exact e, z⟩
theorem Dr.addF (d : Dr H H2 sc th q0 q1 q2 q3 wl ts pts N i mv uv fv ms us fs) {v : V} {p : Int × Int} (hv : Im H2 v (flD p)) (hp : InR N p.1 ∧ InR N p.2) : Dr H (upd H2 q3 (.lst (fv ++ [v]))) sc th q0 q1 q2 q3 wl ts pts N (i + 1) mv uv (fv ++ [v]) ms us (fs ++ [p]) := by
  have k : FK H2 (upd H2 q3 (.lst (fv ++ [v]))) := fk_lst (d.l.at (i := 2) (a := q3) rfl rfl)
  refine ⟨same_upd d.s d.f3 _, wd_upd d.w (fun z => d.w3 (by simp [z])), d.wf, d.l.put (c := fv ++ [v]) d.nd (i := 2) (a := q3) rfl, d.nd, d.f3, d.f2, d.f1, d.w3, d.im.mono k.tk, d.iu.mono k.tk, ?_, Nat.le_succ_of_le d.lm, Nat.le_succ_of_le d.lu, by rw [List.length_append]; exact Nat.succ_le_succ d.lf, d.mo, d.uo, mem_snoc d.fo hp⟩
  rw [List.map_append]
  exact (d.if_.mono k.tk).app (.cons (hv.mono k.tk) .nil)
theorem Dr.addU (d : Dr H H2 sc th q0 q1 q2 q3 wl ts pts N i mv uv fv ms us fs) {v : V} {u : Us} (hv : Im H2 v u.d) (hu : u.ok ∧ u.dist ∧ u.rng N) : Dr H (upd H2 q2 (.lst (uv ++ [v]))) sc th q0 q1 q2 q3 wl ts pts N (i + 1) mv (uv ++ [v]) fv ms (us ++ [u]) fs := by
  have k : FK H2 (upd H2 q2 (.lst (uv ++ [v]))) := fk_lst (d.l.at (i := 3) (a := q2) rfl rfl)
  refine ⟨same_upd d.s d.f2 _, wd_upd d.w (fun z => d.w3 (by simp [z])), d.wf, d.l.put (c := uv ++ [v]) d.nd (i := 3) (a := q2) rfl, d.nd, d.f3, d.f2, d.f1, d.w3, d.im.mono k.tk, ?_, d.if_.mono k.tk, Nat.le_succ_of_le d.lm, by rw [List.length_append]; exact Nat.succ_le_succ d.lu, Nat.le_succ_of_le d.lf, d.mo, mem_snoc d.uo hu, d.fo⟩
  rw [List.map_append]
  exact (d.iu.mono k.tk).app (.cons (hv.mono k.tk) .nil)
theorem Dr.addM (d : Dr H H2 sc th q0 q1 q2 q3 wl ts pts N i mv uv fv ms us fs) {v : V} {m : Mk3} (hv : Im H2 v m.d) (hm : m.f.ok ∧ m.f.rng N ∧ InR N m.a) : Dr H (upd H2 q1 (.lst (mv ++ [v]))) sc th q0 q1 q2 q3 wl ts pts N (i + 1) (mv ++ [v]) uv fv (ms ++ [m]) us fs := by
  have k : FK H2 (upd H2 q1 (.lst (mv ++ [v]))) := fk_lst (d.l.at (i := 4) (a := q1) rfl rfl)
  refine ⟨same_upd d.s d.f1 _, wd_upd d.w (fun z => d.w3 (by simp [z])), d.wf, d.l.put (c := mv ++ [v]) d.nd (i := 4) (a := q1) rfl, d.nd, d.f3, d.f2, d.f1, d.w3, ?_, d.iu.mono k.tk, d.if_.mono k.tk, by rw [List.length_append]; exact Nat.succ_le_succ d.lm, Nat.le_succ_of_le d.lu, Nat.le_succ_of_le d.lf, mem_snoc d.mo hm, d.uo, d.fo⟩
  rw [List.map_append]
  exact (d.im.mono k.tk).app (.cons (hv.mono k.tk) .nil)
end
noncomputable def sp__law_things (K : PySem.W.Frag) : Sp := fun vs H Q _ => ∃ (a : Addr) (ns : List Int), vs = [.ref a] ∧ SqL K H a (ns.map V.int) ∧ ns.length ≤ 63 ∧ ∀ (th q0 q1 q2 q3 : Addr) (N : Int) (pts : List Int) (ms : List Mk3) (us : List Us) (fs : List (Int × Int)) (H' : Hp), Same H H' → Th H' th q0 q1 q2 q3 pts ms us fs → Dat N ms us fs → (∀ u ∈ us, u.ok) → pts.length ≤ 64 → Q (.ref th) H'
theorem ok__law_things (T : Txt K mg) : FnOk P w K mg base CX0 4 T.a__law_things T.fd__law_things ["_law_script"] (sp__law_things K) := by
  have G__law_pick := ok__law_pick (P := P) (w := w) (base := base) T
  have G__law_words := ok__law_words (P := P) (w := w) (base := base) T
  have G__law_make := ok__law_make (P := P) (w := w) (base := base) T
  have G__law_use := ok__law_use (P := P) (w := w) (base := base) T
  refine T.F__law_things.ok sc__law_things (fun vs H Q E h => ?_) (fun cdv A outer s H vs Q E hr h => ?_)
  · obtain ⟨a, ns, rfl, _⟩ := h
    rfl
  obtain ⟨a, ns, rfl, hsq, hlen, q⟩ := h
  refine ⟨_, (pss_cons (ps_set (i := 1) sc__law_things.nd rfl (Or.inl rfl) (pe_call G__law_words (hr.mono (by decide)) rfl T.m__law_words T.k__law_words T.b__law_words .nil pass0 (pa_cons (pe_callB (call_sumA rfl) rfl T.z_sum bt_sum (pa_cons (pe_slice sl_list (cv 0) po_none (po_some pe_int)) pa_nil)) pa_nil)))
    (pss_cons (ps_set (i := 2) sc__law_things.nd rfl (Or.inr rfl) (pe_callB (call_sumA rfl) rfl T.z_sum bt_sum (pa_cons (pe_slice sl_list (cv 0) (po_some pe_int) (po_some pe_int)) pa_nil)))
    (pss_cons (ps_set (i := 3) sc__law_things.nd rfl (Or.inl rfl) (pe_op oc_add pe_int (pe_call G__law_pick (hr.mono (by decide)) rfl T.m__law_pick T.k__law_pick T.b__law_pick .nil pass0 (pa_cons (cv 2) (pa_cons pe_int (pa_cons pe_int pa_nil))))))
    (pss_mid (midT H a) (ps_if (ptc_cmpR oc_eq (pe_call G__law_pick (hr.mono (by decide)) rfl T.m__law_pick T.k__law_pick T.b__law_pick .nil pass0 (pa_cons (cv 2) (pa_cons pe_int (pa_cons pe_int pa_nil)))) pe_int (nomark _))
      (pss_one (ps_set (i := 3) sc__law_things.nd rfl (Or.inl rfl) (pe_op oc_add pe_int (pe_call G__law_pick (hr.mono (by decide)) rfl T.m__law_pick T.k__law_pick T.b__law_pick .nil pass0 (pa_cons (cv 2) (pa_cons pe_int (pa_cons pe_int pa_nil)))))))
      pss_nil)
    (pss_cons (ps_set (i := 4) sc__law_things.nd rfl (Or.inl rfl) (pe_lst (pa_cons (pe_lc rfl (blkC (x := "_law_k") ["_law_start"] [("_law_start", 2, s.heap.objs.size + 1)] rfl rfl (by decide +kernel) (by decide +kernel) rfl (by decide +kernel) rfl rfl (by intro p hp; simp only [List.mem_cons, List.not_mem_nil, or_false] at hp; rcases hp with rfl <;> exact ⟨rfl, rfl, rfl, rfl⟩)) (pi_range1 rfl T.z_range (pa_cons (cv 3) pa_nil)) (fun _ _ _ _ _ => pts_nil) (fun _ _ _ _ _ => (pe_call G__law_pick (hr.mono (by decide)) rfl T.m__law_pick T.k__law_pick T.b__law_pick .nil pass0 (pa_cons (pe_op oc_add (cv 1) (pe_op oc_mul pe_int (cv 0))) (pa_cons (pe_op oc_mod (cv 0) pe_int) (pa_cons pe_int pa_nil)))))) (pa_cons (pe_lst pa_nil) (pa_cons (pe_lst pa_nil) (pa_cons (pe_lst pa_nil) pa_nil))))))
    (pss_cons (ps_for PassesOwn.never rfl (pi_list (pe_slice sl_list (cv 0) (po_some pe_int) (po_some pe_int))) (pg_name (i := 5) sc__law_things.nd rfl (Or.inl rfl))
      (pss_cons (ps_set (i := 6) sc__law_things.nd rfl (Or.inl rfl) (pe_call G__law_pick (hr.mono (by decide)) rfl T.m__law_pick T.k__law_pick T.b__law_pick .nil pass0 (pa_cons (cv 5) (pa_cons pe_int (pa_cons pe_int pa_nil)))))
      (pss_one (ps_if (ptc_cmpR oc_lt (cv 6) pe_int (nomark _))
        (pss_one (ps_expr (pec_app (pe_bm PySem.F.plainAttrs_list PySem.F.slot_list_append PySem.F.type_list_append mt_append (PE.mono (pe_ix xc_list (cv 4) pe_int (fun _ _ => rfl))) (pa_cons (PE.mono (pe_tup (pa_cons (pe_call G__law_pick (hr.mono (by decide)) rfl T.m__law_pick T.k__law_pick T.b__law_pick .nil pass0 (pa_cons (cv 5) (pa_cons pe_int (pa_cons (cv 3) pa_nil)))) (pa_cons (pe_call G__law_pick (hr.mono (by decide)) rfl T.m__law_pick T.k__law_pick T.b__law_pick .nil pass0 (pa_cons (cv 5) (pa_cons pe_int (pa_cons (cv 3) pa_nil)))) pa_nil)))) pa_nil)))))
        (pss_one (ps_if (ptc_cmpR oc_lt (cv 6) pe_int (nomark _))
          (pss_one (ps_expr (pec_app (pe_bm PySem.F.plainAttrs_list PySem.F.slot_list_append PySem.F.type_list_append mt_append (PE.mono (pe_ix xc_list (cv 4) pe_int (fun _ _ => rfl))) (pa_cons (PE.mono (pe_call G__law_make (hr.mono (by decide)) rfl T.m__law_make T.k__law_make T.b__law_make .nil pass0 (pa_cons (cv 1) (pa_cons (cv 5) (pa_cons (cv 3) pa_nil))))) pa_nil)))))
          (pss_one (ps_expr (pec_app (pe_bm PySem.F.plainAttrs_list PySem.F.slot_list_append PySem.F.type_list_append mt_append (PE.mono (pe_ix xc_list (cv 4) pe_int (fun _ _ => rfl))) (pa_cons (PE.mono (pe_call G__law_use (hr.mono (by decide)) rfl T.m__law_use T.k__law_use T.b__law_use .nil pass0 (pa_cons (cv 1) (pa_cons (cv 5) (pa_cons (cv 3) pa_nil))))) pa_nil)))))))))))
    (pss_one (ps_ret (cv 4))))))))), ?_⟩
  have sl : sizeLine = 16777216 := sizeLine_eq
  have z0 : (0 : Nat) ≤ sizeLine := by decide
  obtain ⟨ms0, em, _⟩ := cut_ints ns none (some 1)
  obtain ⟨ms1, em1, _⟩ := cut_ints ns (some 1) (some 2)
  obtain ⟨ts, et, lt⟩ := cut_ints ns (some 2) (some 82)
  refine ⟨_, rfl, a, _, rfl, hsq, fun c1 hc1 => ⟨c1, ms0, rfl, SqL.of (by rw [upd_same, em]), fun n0 => ⟨n0, rfl, fun wl Hw sw _ ww => ?_⟩⟩⟩
  have Sw : Same H Hw := (same_new hc1 _).trans sw
  refine ⟨_, rfl, _, rfl, a, _, rfl, Sw.seq hsq, fun c2 hc2 => ⟨c2, ms1, rfl, SqL.of (by rw [upd_same, em1]), fun st => ?_⟩⟩
  have S2 := same_new hc2 (.lst (cutV (ns.map V.int) (some 1) (some 2)))
  have Sv := Sw.trans S2
  have ww2 := ww.same S2
  dsimp only [gName]
  generalize upd Hw c2 (.lst (cutV (ns.map V.int) (some 1) (some 2))) = H1 at Sv ww2 ⊢
  refine ⟨st, 0, 12, rfl, by decide, by decide, by decide, fun n1 H2 S2 a0 a1 => ⟨⟨st, 1, 8, rfl, by decide, by decide, by decide, fun n2 H3 S3 _ _ => ?_⟩, ?_⟩⟩
  · dsimp only [tC, cEq, onB]
    refine ite2 (fun _ => ?_) (fun _ => ?_)
    · exact ⟨st, 2, 40, rfl, by decide, by decide, by decide, fun n3 H4 S4 b0 b1 => ⟨wl, st, 1 + n3, rfl, ((Sv.trans S2).trans S3).trans S4, ww2.same ((S2.trans S3).trans S4), by omega, by omega⟩⟩
    · exact ⟨wl, st, 1 + n1, rfl, (Sv.trans S2).trans S3, ww2.same (S2.trans S3), by omega, by omega⟩
  rintro σ H3 ⟨wl, st, N, rfl, S, ww, hN0, hN1⟩
  refine ⟨N, rfl, by omega, by omega, fun q0 hq0 => ?_⟩
  refine lc_gen N.toNat (by omega) (fun xs _ => ∃ ns : List Int, xs = ns.map V.int) (fun xs _ _ h _ => h) hq0 rfl (fun k H2 _ hk => hk) (fun H2 _ => Nat.le_refl _) ⟨[], rfl⟩ ?_ ?_
  · rintro k H4 v H5 xs Z S4 hk ⟨rfl, rfl⟩ ⟨ms, hms⟩ hl z
    refine ⟨.inl ⟨by decide, by decide⟩, (by show (0 : Int) < 9; decide), _, _, 160, rfl, Int.emod_nonneg _ (by decide), Int.emod_lt_of_pos _ (by decide), by decide, fun n H5 S5 _ _ => z _ _ S5 ⟨ms ++ [n], by rw [hms, List.map_append]; rfl⟩⟩
  rintro H4 xs S4 ⟨pts, rfl⟩ hl e0
  rw [List.length_map] at hl
  refine ⟨z0, fun q1 h1 => ⟨z0, fun q2 h2 => ⟨z0, fun q3 h3 => ⟨(by show 4 ≤ sizeLine; decide), fun th hth => ?_⟩⟩⟩⟩
  obtain ⟨L1, N1⟩ := Ls.new [] (Ls.cons e0 .nil) (by simp) h1
  obtain ⟨L2.Internal, N2⟩ := Ls.new [] L1 N1 h2
  obtain ⟨L3, N3⟩ := Ls.new [] L2.Internal N2 h3
  obtain ⟨L4, N4⟩ := Ls.new [.ref q0, .ref q1, .ref q2, .ref q3] L3 N3 hth
  have s1 := same_new h1 (.lst [])
  have s2 := same_new h2 (.lst [])
  have s3 := same_new h3 (.lst [])
  have s4 := same_new hth (.lst [.ref q0, .ref q1, .ref q2, .ref q3])
  have SS : Same H4 _ := ((s1.trans s2).trans s3).trans s4
  have S5 := (S.trans S4).trans SS
  have ww5 := (ww.same S4).same SS
  have f1 : H4 q1 = none := h1
  have f2 : H4 q2 = none := s1.free h2
  have f3 : H4 q3 = none := (s1.trans s2).free h3
  have nw : ∀ x, H4 x = none → wl ≠ x := fun x hx z => by
    obtain ⟨ws, ew, _⟩ := ww.same S4
    rw [z, hx] at ew
    cases ew
  dsimp only [gName]
  refine ⟨_, rfl, _, rfl, a, _, rfl, S5.seq hsq, fun sc hsc => ?_⟩
  obtain ⟨L5, N5⟩ := Ls.new (cutV (ns.map V.int) (some 2) (some 82)) L4 N4 hsc
  rw [et] at *
  have s5 := same_new hsc (.lst (ts.map V.int))
  have D0 : Dr H _ sc th q0 q1 q2 q3 wl ts pts N 0 [] [] [] [] [] [] := ⟨S5.trans s5, ww5.same s5, .inr trivial, L5, N5, (S.trans S4).free f3, (S.trans S4).free f2, (S.trans S4).free f1, by simp only [List.mem_cons, List.not_mem_nil, or_false, not_or]; exact ⟨nw _ f3, nw _ f2, nw _ f1⟩, .nil, .nil, .nil, Nat.le_refl _, Nat.le_refl _, Nat.le_refl _, fun _ h => absurd h List.not_mem_nil, fun _ h => absurd h List.not_mem_nil, fun _ h => absurd h List.not_mem_nil⟩
  refine ⟨sc, rfl, ⟨_, SqL.of upd_same⟩, for_list (xs := ts.map V.int) (fun i σ H2 => ∃ (o5 o6 : Option V) (mv uv fv : List V) (ms : List Mk3) (us : List Us) (fs : List (Int × Int)), σ = [some (.ref a), some (.ref wl), some (.int st), some (.int N), some (.ref th), o5, o6] ∧ Dr H H2 sc th q0 q1 q2 q3 wl ts pts N i mv uv fv ms us fs)
    ⟨none, none, [], [], [], [], [], [], rfl, D0⟩ (fun i σ H2 _ ⟨_, _, _, _, _, _, _, _, _, d⟩ => SqL.of (d.l.at (i := 0) (a := sc) rfl rfl)) ?_ ?_⟩
  · rintro i x σ H2 hx ⟨o5, o6, mv, uv, fv, ms, us, fs, rfl, d⟩
    obtain ⟨hi, n, rfl⟩ := ints_at hx
    have li : i ≤ 63 := by omega
    refine ⟨n, 0, 8, rfl, by decide, by decide, by decide, fun so H3 S3 _ _ => ?_⟩
    have d3 := d.same S3
    have et3 := d3.l.at (i := 1) (a := th) rfl rfl
    dsimp only [gName, tC, cI0, onB]
    refine ite2 (fun _ => ?_) (fun _ => ite2 (fun _ => ?_) (fun _ => ?_))
    · refine ⟨_, et3, onS_of (atI_nat (j := 3) rfl) ⟨⟨_, d3.l.at (i := 2) (a := q3) rfl rfl⟩, n, 1, N, rfl, by decide, by decide, hN0, fun x H4 S4 x0 x1 => ⟨n, 2, N, rfl, by decide, by decide, hN0, fun y H5 S5 y0 y1 => ⟨(by show 2 ≤ sizeLine; decide), fun t ht => ?_⟩⟩⟩⟩
      have d6 := ((d3.same S4).same S5).same (same_new ht (.tup [.int x, .int y]))
      have fl := d6.if_.length
      rw [List.length_map] at fl
      have := d6.lf
      exact ⟨fv, d6.l.at (i := 2) (a := q3) rfl rfl, by omega, _, _, _, _, _, _, _, _, rfl, d6.addF (p := (x, y)) (.tup upd_same (.cons (.flat rfl) (.cons (.flat rfl) .nil))) ⟨⟨x0, x1⟩, ⟨y0, y1⟩⟩⟩
    · refine ⟨_, et3, onS_of (atI_nat (j := 1) rfl) ⟨⟨_, d3.l.at (i := 4) (a := q1) rfl rfl⟩, wl, n, N, rfl, d3.w, hN0, fun v m ma mp H4 S4 ok rg ra hv => ?_⟩⟩
      have d6 := d3.same S4
      have fl := d6.im.length
      rw [List.length_map] at fl
      have := d6.lm
      exact ⟨mv, d6.l.at (i := 4) (a := q1) rfl rfl, by omega, _, _, _, _, _, _, _, _, rfl, d6.addM (m := ⟨m, ma, mp⟩) hv ⟨ok, rg, ra⟩⟩
    · refine ⟨_, et3, onS_of (atI_nat (j := 2) rfl) ⟨⟨_, d3.l.at (i := 3) (a := q2) rfl rfl⟩, wl, n, N, rfl, d3.w, hN0, fun v u H4 S4 ok di rg hv => ?_⟩⟩
      have d6 := d3.same S4
      have fl := d6.iu.length
      rw [List.length_map] at fl
      have := d6.lu
      exact ⟨uv, d6.l.at (i := 3) (a := q2) rfl rfl, by omega, _, _, _, _, _, _, _, _, rfl, d6.addU (u := u) hv ⟨ok, di, rg⟩⟩
  · rintro σ H2 ⟨o5, o6, mv, uv, fv, ms, us, fs, rfl, d⟩
    have l1 := d.lm
    have l2 := d.lu
    have l3 := d.lf
    rw [List.length_map] at l1 l2 l3
    exact q th q0 q1 q2 q3 N pts ms us fs H2 d.s ⟨d.l.at (i := 1) (a := th) rfl rfl, d.l.at (i := 5) (a := q0) rfl rfl, ⟨mv, d.l.at (i := 4) (a := q1) rfl rfl, d.im⟩, ⟨uv, d.l.at (i := 3) (a := q2) rfl rfl, d.iu⟩, ⟨fv, d.l.at (i := 2) (a := q3) rfl rfl, d.if_⟩⟩
      ⟨hN0, by omega, by omega, by omega, by omega, d.mo, fun u hu => (d.uo u hu).2, d.fo⟩ (fun u hu => (d.uo u hu).1) (by omega)
end
end K33.Internal
namespace K33.Internal
open PySem L2.Internal BO.Internal
seal L2.Internal.PE L2.Internal.PA L2.Internal.PS L2.Internal.PSs L2.Internal.PT L2.Internal.PI
section
variable {P : Program} {w : World} {K : PySem.W.Frag} {mg : Str → Option Value} {base : Heap}
theorem ims_mk {H : Hp} : ∀ {mv : List V} {ms : List Mk3} {i : Nat} {v : V}, Ims H mv (ms.map Mk3.d) → mv[i]? = some v → ∃ m t f, ms[i]? = some m ∧ v = .ref t ∧ H t = some (.tup [.str m.f.s, f, .int m.a, .int m.p]) ∧ Im H f m.f.f
  | _, [], _, _, .nil, e => by simp at e
  | _, m :: ms, 0, v, .cons h _, e => by
    cases e
    obtain ⟨t, xs, rfl, e, hs⟩ := im_nil h
    cases hs with
    | cons h1 hs =>
      cases h1
      cases hs with
      | cons h2 hs =>
        obtain rfl := ims2 hs
        exact ⟨m, t, _, rfl, rfl, e, h2⟩
  | _, m :: ms, i + 1, v, .cons _ t, e => by
    rw [List.getElem?_cons_succ] at e
    obtain ⟨q, u, f, e1, e2⟩ := ims_mk t e
    exact ⟨q, u, f, by rw [List.getElem?_cons_succ]; exact e1, e2⟩
theorem ims_us {H : Hp} : ∀ {uv : List V} {us : List Us} {i : Nat} {v : V}, Ims H uv (us.map Us.d) → uv[i]? = some v → ∃ u, us[i]? = some u ∧ Im H v u.d
  | _, [], _, _, .nil, e => by simp at e
  | _, m :: ms, 0, v, .cons h _, e => by cases e; exact ⟨m, rfl, h⟩
  | _, m :: ms, i + 1, v, .cons _ t, e => by
    rw [List.getElem?_cons_succ] at e
    obtain ⟨q, e1, e2⟩ := ims_us t e
    exact ⟨q, by rw [List.getElem?_cons_succ]; exact e1, e2⟩
structure Bf (c : Cs) (H H2 : Hp) (b bx p0 p1 p2 p3 : Addr) (xs mv uv fv : List V) (ms : List Mk3) (us : List Us) (fs : List (Int × Int)) : Prop where
  s : Same H H2
  b : H2 b = some (.ins c.B bx (fB p0 p1 p2 p3 (.int 0)))
  l : Ls H2 [p0, p1, p2, p3] [xs, mv, uv, fv]
  nd : [p0, p1, p2, p3].Nodup
  f : ∀ a ∈ [p0, p1, p2, p3], H a = none
  m : All2 (M3 c H2) mv ms
  u : All2 (UsAt c H2) uv us
  i : Ims H2 fv (fs.map flD)
section
variable {c : Cs} {H H2 H3 : Hp} {b bx p0 p1 p2 p3 : Addr} {xs mv uv fv : List V} {ms : List Mk3} {us : List Us} {fs : List (Int × Int)}
theorem Bf.same (B : Bf c H H2 b bx p0 p1 p2 p3 xs mv uv fv ms us fs) (s : Same H2 H3) : Bf c H H3 b bx p0 p1 p2 p3 xs mv uv fv ms us fs :=
  ⟨B.s.trans s, s _ _ B.b, B.l.same s, B.nd, B.f, B.m.imp fun _ _ => MkAt.mono (Same.fk s), B.u.imp fun _ _ => UsAt.mono (Same.fk s), B.i.mono (Same.tk s)⟩
theorem Bf.put (B : Bf c H H2 b bx p0 p1 p2 p3 xs mv uv fv ms us fs) {j : Nat} {a : Addr} {ys zs : List V} (ha : [p0, p1, p2, p3][j]? = some a) (hy : [xs, mv, uv, fv][j]? = some ys) :
    FK H2 (upd H2 a (.lst zs)) ∧ Same H (upd H2 a (.lst zs)) ∧ (upd H2 a (.lst zs)) b = some (.ins c.B bx (fB p0 p1 p2 p3 (.int 0))) ∧ Ls (upd H2 a (.lst zs)) [p0, p1, p2, p3] ([xs, mv, uv, fv].set j zs) := by
  have e := B.l.at ha hy
  exact ⟨fk_lst e, same_upd B.s (B.f a (List.mem_of_getElem? ha)) _, by rw [upd_ne (ne_of B.b e (fun h => nomatch h))]; exact B.b, B.l.put B.nd ha⟩
end
noncomputable def sp__law_board (c : Cs) : Sp := fun vs H Q _ => ∃ (th q0 q1 q2 q3 : Addr) (pts : List Int) (ms : List Mk3) (us : List Us) (fs : List (Int × Int)), vs = [.ref th] ∧ Th H th q0 q1 q2 q3 pts ms us fs ∧ (∀ m ∈ ms, m.f.ok) ∧ (∀ u ∈ us, u.ok) ∧ pts.length ≤ 64 ∧ ms.length ≤ 64 ∧ us.length ≤ 64 ∧ fs.length ≤ 64 ∧
  ∀ (b bx p0 p1 p2 p3 : Addr) (mv uv fv : List V) (H' : Hp), Same H H' → H' b = some (.ins c.B bx (fB p0 p1 p2 p3 (.int 0))) → H' p1 = some (.lst mv) → All2 (M3 c H') mv ms → H' p2 = some (.lst uv) → All2 (UsAt c H') uv us → H' p3 = some (.lst fv) → Ims H' fv (fs.map flD) → Q (.ref b) H'
theorem take_snoc {α : Type} {l : List α} {i : Nat} {a : α} (h : l[i]? = some a) : l.take (i + 1) = l.take i ++ [a] := by
  rw [List.take_add_one, h]
  rfl
theorem ok__law_board (T : Txt K mg) : FnOk P w K mg base CX0 5 T.a__law_board T.fd__law_board ["_law_things_here"] (sp__law_board (cs T)) := by
  have G_Board___init__ := ok_Board___init__ (P := P) (w := w) (base := base) T
  have G_Board_point := ok_Board_point (P := P) (w := w) (base := base) T
  have G_Board_make := ok_Board_make (P := P) (w := w) (base := base) T
  have G_Board_use := ok_Board_use (P := P) (w := w) (base := base) T
  have G_Board_flow := ok_Board_flow (P := P) (w := w) (base := base) T
  have G__law_using := ok__law_using (P := P) (w := w) (base := base) T
  refine T.F__law_board.ok sc__law_board (fun vs H Q E h => ?_) (fun cdv A outer s H vs Q E hr h => ?_)
  · obtain ⟨th, q0, q1, q2, q3, pts, ms, us, fs, rfl, _⟩ := h
    rfl
  obtain ⟨th, q0, q1, q2, q3, pts, ms, us, fs, rfl, hT, mo, uo, lp, lm, lu, lf, q⟩ := h
  refine ⟨_, (pss_cons (ps_set (i := 1) sc__law_board.nd rfl (Or.inl rfl) (pe_make0 T.mk_Board G_Board___init__ (hr.mono (by decide)) rfl T.m_Board T.b_Board___init__ .nil pass0))
    (pss_cons (ps_for PassesOwn.never rfl (pi_list (pe_ix xc_list (cv 0) pe_int (fun _ _ => rfl))) (pg_name (i := 2) sc__law_board.nd rfl (Or.inl rfl))
      (pss_one (ps_expr (pec_meth (pe_meth (PE.mono (cv 1)) T.cl_Board T.me_Board_point G_Board_point (hr.mono (by decide)) T.b_Board_point .nil pass0 (pa_cons (cv 2) pa_nil))))))
    (pss_cons (ps_for PassesOwn.never rfl (pi_list (pe_ix xc_list (cv 0) pe_int (fun _ _ => rfl))) (pg_name (i := 3) sc__law_board.nd rfl (Or.inl rfl))
      (pss_one (ps_expr (pec_meth (pe_meth (PE.mono (cv 1)) T.cl_Board T.me_Board_make G_Board_make (hr.mono (by decide)) T.b_Board_make .nil pass0 (pa_cons (pe_ix xc_tup (cv 3) pe_int (fun _ _ => rfl)) (pa_cons (pe_ix xc_tup (cv 3) pe_int (fun _ _ => rfl)) (pa_cons (pe_ix xc_tup (cv 3) pe_int (fun _ _ => rfl)) (pa_cons (pe_ix xc_tup (cv 3) pe_int (fun _ _ => rfl)) pa_nil)))))))))
    (pss_cons (ps_for PassesOwn.never rfl (pi_list (pe_ix xc_list (cv 0) pe_int (fun _ _ => rfl))) (pg_name (i := 4) sc__law_board.nd rfl (Or.inl rfl))
      (pss_one (ps_expr (pec_meth (pe_meth (PE.mono (cv 1)) T.cl_Board T.me_Board_use G_Board_use (hr.mono (by decide)) T.b_Board_use .nil pass0 (pa_cons (pe_call G__law_using (hr.mono (by decide)) rfl T.m__law_using T.k__law_using T.b__law_using .nil pass0 (pa_cons (cv 4) pa_nil)) pa_nil))))))
    (pss_cons (ps_for PassesOwn.never rfl (pi_list (pe_ix xc_list (cv 0) pe_int (fun _ _ => rfl))) (pg_name (i := 5) sc__law_board.nd rfl (Or.inl rfl))
      (pss_one (ps_expr (pec_meth (pe_meth (PE.mono (cv 1)) T.cl_Board T.me_Board_flow G_Board_flow (hr.mono (by decide)) T.b_Board_flow .nil pass0 (pa_cons (pe_ix xc_tup (cv 5) pe_int (fun _ _ => rfl)) (pa_cons (pe_ix xc_tup (cv 5) pe_int (fun _ _ => rfl)) pa_nil)))))))
    (pss_one (ps_ret (cv 1)))))))), ?_⟩
  have sl : sizeLine = 16777216 := sizeLine_eq
  obtain ⟨et, ep, ⟨mv0, em, im⟩, ⟨uv0, eu, iu⟩, ⟨fv0, ef, if_⟩⟩ := hT
  have lmv := im.length
  have luv := iu.length
  have lfv := if_.length
  rw [List.length_map] at lmv luv lfv
  refine fun b bx hb hbx _ => ⟨b, bx, rfl, upd_same, fun p0 p1 p2 p3 H1 fr nd eb L k => ⟨rfl, ?_⟩⟩
  have S1 : Same H (upd (upd H bx (.own b)) b (.ins (cs T).B bx [])) := same_make hb hbx
  have SH : Same H H1 := fun a o e => k a o (S1 a o e) (ne_of_none e hb)
  have B0 : Bf (cs T) H H1 b bx p0 p1 p2 p3 [] [] [] [] [] [] [] := ⟨SH, eb, L, nd, fun a ha => S1.free (fr a ha), .nil, .nil, .nil⟩
  have no : ∀ {x : Str}, x ∉ (["points", "makes", "uses", "flows", "root"] : List Str) → (fB p0 p1 p2 p3 (.int 0)).lookup x = none := fun {x} h => by
    simp only [List.mem_cons, List.not_mem_nil, or_false, not_or] at h
    have f : ∀ {a b : Str}, ¬ a = b → (a == b) = false := fun {a b} h => by simp [h]
    exact (lk_tl (f h.1)).trans ((lk_tl (f h.2.1)).trans ((lk_tl (f h.2.2.1)).trans ((lk_tl (f h.2.2.2.1)).trans ((lk_tl (f h.2.2.2.2)).trans rfl))))
  dsimp only [gName]
  refine ⟨_, SH _ _ et, onS_of (atI_nat (j := 0) rfl) ⟨q0, rfl, ⟨_, SqL.of (SH _ _ ep)⟩, for_list (xs := pts.map V.int) (fun i σ H2 => ∃ (o2 : Option V) (xs : List V), σ = [some (.ref th), some (.ref b), o2, none, none, none] ∧ xs.length = i ∧ Bf (cs T) H H2 b bx p0 p1 p2 p3 xs [] [] [] [] [] [])
    ⟨none, [], rfl, rfl, B0⟩ (fun i σ H2 _ ⟨_, _, _, _, B⟩ => SqL.of (B.s _ _ ep)) ?_ ?_⟩⟩
  · rintro i v σ H2 hv ⟨o2, xs, rfl, hx, B⟩
    obtain ⟨hi, n, rfl⟩ := ints_at hv
    obtain ⟨k1, s1, b1, l1⟩ := B.put (j := 0) (zs := xs ++ [.int n]) rfl rfl
    refine ⟨⟨_, _, B.b, no (by decide +kernel)⟩, b, bx, p0, p1, p2, p3, _, .int n, xs, rfl, B.b, B.l.at (i := 0) (a := p0) rfl rfl, by omega, _, xs ++ [V.int n], rfl, by rw [List.length_append, hx]; rfl, s1, b1, l1, B.nd, B.f, .nil, .nil, .nil⟩
  rintro σ H2 ⟨o2, xs, rfl, hx, B⟩
  refine ⟨_, B.s _ _ et, onS_of (atI_nat (j := 1) rfl) ⟨q1, rfl, ⟨_, SqL.of (B.s _ _ em)⟩, for_list (xs := mv0) (fun i σ H2 => ∃ (o3 : Option V) (mv : List V), σ = [some (.ref th), some (.ref b), o2, o3, none, none] ∧ Bf (cs T) H H2 b bx p0 p1 p2 p3 xs mv [] [] (ms.take i) [] [])
    ⟨none, [], rfl, B⟩ (fun i σ H2 _ ⟨_, _, _, B⟩ => SqL.of (B.s _ _ em)) ?_ ?_⟩⟩
  · rintro i v σ H2 hv ⟨o3, mv, rfl, B⟩
    obtain ⟨m, t, f, hm, rfl, e, hf⟩ := ims_mk im hv
    have e2 := B.s _ _ e
    have lmv2 := B.m.length
    rw [List.length_take] at lmv2
    refine ⟨⟨_, _, B.b, no (by decide +kernel)⟩, _, e2, onS_of (atI_nat (j := 0) rfl) ⟨_, e2, onS_of (atI_nat (j := 1) rfl) ⟨_, e2, onS_of (atI_nat (j := 2) rfl) ⟨_, e2, onS_of (atI_nat (j := 3) rfl) ⟨b, bx, p0, p1, p2, p3, _, _, _, _, _, mv, rfl, B.b, B.l.at (i := 1) (a := p1) rfl rfl, by omega, fun x dx hx hdx => ?_⟩⟩⟩⟩⟩
    have S3 : Same H2 (upd (upd H2 dx (.own x)) x (.ins (cs T).M dx (fM (.str m.f.s) f (.int m.a) (.int m.p)))) := same_make hx hdx
    have B3 := B.same S3
    have ex : (upd (upd H2 dx (.own x)) x (.ins (cs T).M dx (fM (.str m.f.s) f (.int m.a) (.int m.p)))) x = some (.ins (cs T).M dx (fM (.str m.f.s) f (.int m.a) (.int m.p))) := upd_same
    have hf3 : Im _ f m.f.f := hf.mono (Same.tk (B.s.trans S3))
    show ∃ (o3 : Option V) (mv' : List V), _ ∧ Bf (cs T) H (upd (upd (upd H2 dx (.own x)) x (.ins (cs T).M dx (fM (.str m.f.s) f (.int m.a) (.int m.p)))) p1 (.lst (mv ++ [.ref x]))) b bx p0 p1 p2 p3 xs mv' [] [] (ms.take (i + 1)) [] []
    generalize upd (upd H2 dx (.own x)) x (.ins (cs T).M dx (fM (.str m.f.s) f (.int m.a) (.int m.p))) = H3 at B3 ex hf3 ⊢
    obtain ⟨k1, s1, b1, l1⟩ := B3.put (j := 1) (zs := mv ++ [.ref x]) rfl rfl
    have nx : x ≠ p1 := ne_of ex (B3.l.at (i := 1) (a := p1) rfl rfl) (fun h => nomatch h)
    refine ⟨_, _, rfl, s1, b1, l1, B.nd, B.f, ?_, .nil, .nil⟩
    rw [take_snoc hm]
    exact .snoc ⟨x, dx, f, rfl, by rw [upd_ne nx]; exact ex, hf3.mono k1.tk, Mf.dep _, Mf.okd (mo m (List.mem_of_getElem? hm))⟩ (B3.m.imp fun _ _ => MkAt.mono k1)
  rintro σ H3 ⟨o3, mv, rfl, B⟩
  rw [List.take_of_length_le (by omega)] at B
  refine ⟨_, B.s _ _ et, onS_of (atI_nat (j := 2) rfl) ⟨q2, rfl, ⟨_, SqL.of (B.s _ _ eu)⟩, for_list (xs := uv0) (fun i σ H2 => ∃ (o4 : Option V) (uv : List V), σ = [some (.ref th), some (.ref b), o2, o3, o4, none] ∧ Bf (cs T) H H2 b bx p0 p1 p2 p3 xs mv uv [] ms (us.take i) [])
    ⟨none, [], rfl, B⟩ (fun i σ H2 _ ⟨_, _, _, B⟩ => SqL.of (B.s _ _ eu)) ?_ ?_⟩⟩
  · rintro i v σ H2 hv ⟨o4, uv, rfl, B⟩
    obtain ⟨u, hu, hv⟩ := ims_us iu hv
    have luv2 := B.u.length
    rw [List.length_take] at luv2
    refine ⟨⟨_, _, B.b, no (by decide +kernel)⟩, v, u, rfl, uo u (List.mem_of_getElem? hu), hv.mono (Same.tk B.s), fun x H4 S4 hx => ?_⟩
    have B4 := B.same S4
    obtain ⟨k1, s1, b1, l1⟩ := B4.put (j := 2) (zs := uv ++ [x]) rfl rfl
    refine ⟨b, bx, p0, p1, p2, p3, _, x, uv, rfl, B4.b, B4.l.at (i := 2) (a := p2) rfl rfl, by omega, _, _, rfl, s1, b1, l1, B.nd, B.f, B4.m.imp fun _ _ => MkAt.mono k1, ?_, .nil⟩
    rw [take_snoc hu]
    exact .snoc (hx.mono k1) (B4.u.imp fun _ _ => UsAt.mono k1)
  rintro σ H4 ⟨o4, uv, rfl, B⟩
  rw [List.take_of_length_le (by omega)] at B
  refine ⟨_, B.s _ _ et, onS_of (atI_nat (j := 3) rfl) ⟨q3, rfl, ⟨_, SqL.of (B.s _ _ ef)⟩, for_list (xs := fv0) (fun i σ H2 => ∃ (o5 : Option V) (fv : List V), σ = [some (.ref th), some (.ref b), o2, o3, o4, o5] ∧ fv.length = i ∧ Bf (cs T) H H2 b bx p0 p1 p2 p3 xs mv uv fv ms us (fs.take i))
    ⟨none, [], rfl, rfl, B⟩ (fun i σ H2 _ ⟨_, _, _, _, B⟩ => SqL.of (B.s _ _ ef)) ?_ ?_⟩⟩
  · rintro i v σ H2 hv ⟨o5, fv, rfl, hl, B⟩
    have hi := (List.getElem?_eq_some_iff.mp hv).1
    obtain ⟨p, t, hp, rfl, e⟩ := ims_fl if_ hv
    have e2 := B.s _ _ e
    refine ⟨⟨_, _, B.b, no (by decide +kernel)⟩, _, e2, onS_of (atI_nat (j := 0) rfl) ⟨_, e2, onS_of (atI_nat (j := 1) rfl) ⟨b, bx, p0, p1, p2, p3, _, _, _, fv, rfl, B.b, B.l.at (i := 3) (a := p3) rfl rfl, by omega, fun t2 h2 => ?_⟩⟩⟩
    have B4 := B.same (same_new h2 (.tup [.int p.1, .int p.2]))
    have e4 : (upd H2 t2 (.tup [.int p.1, .int p.2])) t2 = some (.tup [.int p.1, .int p.2]) := upd_same
    obtain ⟨k1, s1, b1, l1⟩ := B4.put (j := 3) (zs := fv ++ [.ref t2]) rfl rfl
    refine ⟨_, fv ++ [V.ref t2], rfl, by rw [List.length_append, hl]; rfl, s1, b1, l1, B.nd, B.f, B4.m.imp fun _ _ => MkAt.mono k1, B4.u.imp fun _ _ => UsAt.mono k1, ?_⟩
    rw [take_snoc hp, List.map_append]
    exact (B4.i.mono k1.tk).app (.cons (.tup (k1.tk _ _ e4) (.cons (.flat rfl) (.cons (.flat rfl) .nil))) .nil)
  rintro σ H5 ⟨o5, fv, rfl, hl, B⟩
  rw [List.take_of_length_le (by omega)] at B
  exact q b bx p0 p1 p2 p3 mv uv fv H5 B.s B.b (B.l.at (i := 1) (a := p1) rfl rfl) B.m (B.l.at (i := 2) (a := p2) rfl rfl) B.u (B.l.at (i := 3) (a := p3) rfl rfl) B.i
end
end K33.Internal
namespace K33.Internal
open PySem L2.Internal BO.Internal
seal L2.Internal.PE L2.Internal.PA L2.Internal.PS L2.Internal.PSs L2.Internal.PT L2.Internal.PI
section
variable {i j : Nat} {s s' w w' : Str} {t : TS} {D : Ends} {σ : St} {H : Hp} {u' : TS} {a b : Addr} {r r' : List V}
theorem hq_no {Q : Bool → Hp → Prop} (hv : σ[i]? = some (some (.ref a))) (ha : H a = some (.tup (.str s :: r))) (h : s ≠ w) (q : Q false H) : cT (tOp (cEq false) (tOp cIxT (cV i) (tC (.int 0))) (tC (.str w))) σ H Q := by
  show onV σ[i]? _
  rw [hv]
  refine ⟨_, ha, onS_of (atI_nat (j := 0) rfl) ?_⟩
  show Q (false ^^ decide (s = w)) H
  rw [decide_eq_false h]
  exact q
theorem hq_yes {Q : Bool → Hp → Prop} (hv : σ[i]? = some (some (.ref a))) (ha : H a = some (.tup (.str s :: r))) (h : s = w) (q : Q true H) : cT (tOp (cEq false) (tOp cIxT (cV i) (tC (.int 0))) (tC (.str w))) σ H Q := by
  show onV σ[i]? _
  rw [hv]
  refine ⟨_, ha, onS_of (atI_nat (j := 0) rfl) ?_⟩
  show Q (false ^^ decide (s = w)) H
  rw [decide_eq_true h]
  exact q
noncomputable abbrev tBoth (i j : Nat) (w w' : Str) : TT := tAnd (cT (tOp (cEq false) (tOp cIxT (cV i) (tC (.int 0))) (tC (.str w)))) (cT (tOp (cEq false) (tOp cIxT (cV j) (tC (.int 0))) (tC (.str w'))))
theorem and_n1 (hv : σ[i]? = some (some (.ref a))) (ha : H a = some (.tup (.str s :: r))) (h : s ≠ w) (q : u' D σ H) : tSeq (tIfS (tBoth i j w w') t tNext) u' D σ H := hq_no hv ha h (iteF (iteF q))
theorem and_n2 (hv : σ[i]? = some (some (.ref a))) (ha : H a = some (.tup (.str s :: r))) (h : s = w) (hv' : σ[j]? = some (some (.ref b))) (hb : H b = some (.tup (.str s' :: r'))) (h' : s' ≠ w') (q : u' D σ H) : tSeq (tIfS (tBoth i j w w') t tNext) u' D σ H := hq_yes hv ha h (iteT (hq_no hv' hb h' (iteF q)))
theorem and_y (hv : σ[i]? = some (some (.ref a))) (ha : H a = some (.tup (.str s :: r))) (h : s = w) (hv' : σ[j]? = some (some (.ref b))) (hb : H b = some (.tup (.str s' :: r'))) (h' : s' = w') (q : t { D with nx := u' D } σ H) : tSeq (tIfS (tBoth i j w w') t tNext) u' D σ H := hq_yes hv ha h (iteT (hq_yes hv' hb h' (iteT q)))
end
section
variable {P : Program} {w : World} {K : PySem.W.Frag} {mg : Str → Option Value} {base : Heap}
theorem mk_hd {H : Hp} {v : V} {s : Str} {d : Dt} {a p : Int} (h : Im H v (.tup [.flat (.str s), d, .flat (.int a), .flat (.int p)])) : ∃ t f, v = .ref t ∧ H t = some (.tup [.str s, f, .int a, .int p]) ∧ Im H f d := by
  obtain ⟨t, xs, rfl, e, hs⟩ := im_nil h
  cases hs with
  | cons h1 hs =>
    cases h1
    cases hs with
    | cons h2 hs =>
      obtain rfl := ims2 hs
      exact ⟨t, _, rfl, e, h2⟩
theorem lk_take : ∀ {l : List (Str × Int)} {w : Str} {k : Nat} {p : Str × Int}, l[k]? = some p → lk (l.take k) w = none → p.1 ≠ w → lk (l.take (k + 1)) w = none
  | q :: t, w, 0, p, e, _, n => by
    cases e
    show (if q.1 = w then some q.2 else none) = none
    rw [if_neg n]
  | q :: t, w, k + 1, p, e, h, n => by
    rw [List.getElem?_cons_succ] at e
    rw [List.take_succ_cons, lk] at h ⊢
    by_cases z : q.1 = w
    · rw [if_pos z] at h; cases h
    · rw [if_neg z] at h ⊢
      exact lk_take e h n
theorem lk_at : ∀ {l : List (Str × Int)} {w : Str} {k : Nat} {p : Str × Int}, l[k]? = some p → lk (l.take k) w = none → p.1 = w → lk l w = some p.2
  | q :: t, w, 0, p, e, _, n => by
    cases e
    rw [lk, if_pos n]
  | q :: t, w, k + 1, p, e, h, n => by
    rw [List.getElem?_cons_succ] at e
    rw [List.take_succ_cons, lk] at h
    rw [lk]
    by_cases z : q.1 = w
    · rw [if_pos z] at h; cases h
    · rw [if_neg z] at h ⊢
      exact lk_at e h n
theorem taken_all {l m : List (Str × Int)} (h : ∀ p ∈ l, lk m p.1 ≠ none) : taken l m = some (l.filterMap (fnd m)) := by
  have : ∀ l : List (Str × Int), (∀ p ∈ l, lk m p.1 ≠ none) → (l.filterMap (fnd m)).length = l.length := by
    intro l
    induction l with
    | nil => intro _; rfl
    | cons a t ih =>
      intro h
      have h1 := h a (by simp)
      cases e : lk m a.1 with
      | none => exact absurd e h1
      | some x =>
        have : fnd m a = some (x, a.2) := by rw [fnd, e]; rfl
        rw [List.filterMap_cons, this]
        show (List.filterMap (fnd m) t).length + 1 = t.length + 1
        rw [ih fun p hp => h p (by simp [hp])]
  rw [taken, if_pos (this l h)]
noncomputable def MetV (H : Hp) (v : V) : Option (List (Int × Int)) → Prop
  | none => v = .non
  | some l => ∃ a xs, v = .ref a ∧ H a = some (.lst xs) ∧ Ims H xs (l.map flD)
theorem pr_im {H : Hp} {t : Addr} {a b : Int} (h : H t = some (.tup [.int a, .int b])) : Im H (.ref t) (flD (a, b)) := .tup h (.cons (.flat rfl) (.cons (.flat rfl) .nil))
noncomputable def sp__law_met : Sp := fun vs H Q _ => ∃ (mv uv : V) (u : Us) (m : Mf) (ma mp : Int), vs = [mv, uv] ∧ Im H mv (Mkg.d (mkg m ma mp)) ∧ Im H uv (Us.d u) ∧ m.ok ∧ u.ok ∧ ∀ v H', Same H H' → MetV H' v (meet u m) → Q v H'
theorem ok__law_met (T : Txt K mg) : FnOk P w K mg base CX0 1 T.a__law_met T.fd__law_met ["_law_make_here", "_law_use_here"] sp__law_met := by
  refine T.F__law_met.ok sc__law_met (fun vs H Q E h => ?_) (fun cdv A outer s H vs Q E hr h => ?_)
  · obtain ⟨mv, uv, u, m, ma, mp, rfl, _⟩ := h
    rfl
  have hu := hu_of hr
  obtain ⟨mv, uv, u, m, ma, mp, rfl, hm, huv, mo, uo, q⟩ := h
  obtain ⟨tm, f, rfl, em, hf⟩ := mk_hd hm
  refine ⟨_, (pss_cons (ps_if (PW.pt (pw_and (ptc_cmpR oc_eq (pe_ix xc_tup (cv 1) pe_int (fun _ _ => rfl)) pe_str (nomark _)) (pw_and1 (ptc_cmpR oc_eq (pe_ix xc_tup (cv 0) pe_int (fun _ _ => rfl)) pe_str (nomark _)))))
      (pss_one (ps_ret (pe_lst pa_nil)))
      pss_nil)
    (pss_cons (ps_if (PW.pt (pw_and (ptc_cmpR oc_eq (pe_ix xc_tup (cv 1) pe_int (fun _ _ => rfl)) pe_str (nomark _)) (pw_and1 (ptc_cmpR oc_eq (pe_ix xc_tup (cv 0) pe_int (fun _ _ => rfl)) pe_str (nomark _)))))
      (pss_one (ps_ret (pe_lst (pa_cons (pe_tup (pa_cons (pe_ix xc_tup (cv 1) pe_int (fun _ _ => rfl)) (pa_cons (pe_ix xc_tup (pe_ix xc_tup (cv 0) pe_int (fun _ _ => rfl)) pe_int (fun _ _ => rfl)) pa_nil))) (pa_cons (pe_tup (pa_cons (pe_ix xc_tup (pe_ix xc_tup (cv 0) pe_int (fun _ _ => rfl)) pe_int (fun _ _ => rfl)) (pa_cons (pe_ix xc_tup (cv 1) pe_int (fun _ _ => rfl)) pa_nil))) pa_nil)))))
      pss_nil)
    (pss_cons (ps_if (PW.pt (pw_and (ptc_cmpR oc_eq (pe_ix xc_tup (cv 1) pe_int (fun _ _ => rfl)) pe_str (nomark _)) (pw_and1 (ptc_cmpR oc_eq (pe_ix xc_tup (cv 0) pe_int (fun _ _ => rfl)) pe_str (nomark _)))))
      (pss_one (ps_ret (pe_lst (pa_cons (pe_tup (pa_cons (pe_ix xc_tup (pe_ix xc_tup (cv 0) pe_int (fun _ _ => rfl)) pe_int (fun _ _ => rfl)) (pa_cons (pe_ix xc_tup (cv 1) pe_int (fun _ _ => rfl)) pa_nil))) pa_nil))))
      pss_nil)
    (pss_cons (ps_if (PW.pt (pw_and (ptc_cmpR oc_eq (pe_ix xc_tup (cv 1) pe_int (fun _ _ => rfl)) pe_str (nomark _)) (pw_and1 (ptc_cmpR oc_eq (pe_ix xc_tup (cv 0) pe_int (fun _ _ => rfl)) pe_str (nomark _)))))
      (pss_one (ps_for PassesOwn.never rfl (pi_tup (pe_ix xc_tup (cv 1) pe_int (fun _ _ => rfl))) (pg_name (i := 2) sc__law_met.nd rfl (Or.inl rfl))
        (pss_one (ps_if (ptc_cmpR oc_eq (pe_ix xc_tup (cv 2) pe_int (fun _ _ => rfl)) (pe_ix xc_tup (pe_ix xc_tup (cv 0) pe_int (fun _ _ => rfl)) pe_int (fun _ _ => rfl)) (nomark _))
          (pss_one (ps_ret (pe_lst (pa_cons (pe_tup (pa_cons (pe_ix xc_tup (pe_ix xc_tup (cv 0) pe_int (fun _ _ => rfl)) pe_int (fun _ _ => rfl)) (pa_cons (pe_ix xc_tup (cv 2) pe_int (fun _ _ => rfl)) pa_nil))) pa_nil))))
          pss_nil))))
      pss_nil)
    (pss_cons (ps_if (PW.pt (pw_and (ptc_cmpR oc_eq (pe_ix xc_tup (cv 1) pe_int (fun _ _ => rfl)) pe_str (nomark _)) (pw_and1 (ptc_cmpR oc_eq (pe_ix xc_tup (cv 0) pe_int (fun _ _ => rfl)) pe_str (nomark _)))))
      (pss_cons (ps_set (i := 3) sc__law_met.nd rfl (Or.inr rfl) (pe_callTy (call_dictT rfl) rfl T.z_dict bt_dict (pa_cons (pe_ix xc_tup (cv 0) pe_int (fun _ _ => rfl)) pa_nil)))
      (pss_one (ps_if (pt_val (pe_callB (call_all rfl) rfl T.z_all bt_all (pa_cons (pe_lc rfl (blkC (x := "_law_field") ["_law_there"] [("_law_there", 3, s.heap.objs.size + 1)] rfl rfl (by decide +kernel) (by decide +kernel) rfl (by decide +kernel) rfl rfl (by intro p hp; simp only [List.mem_cons, List.not_mem_nil, or_false] at hp; rcases hp with rfl <;> exact ⟨rfl, rfl, rfl, rfl⟩)) (pi_tup (pe_ix xc_tup (cv 1) pe_int (fun _ _ => rfl))) (fun _ _ _ _ _ => pts_nil) (fun _ _ _ _ _ => (pe_cmp (pc_din hu (pe_ix xc_tup (cv 0) pe_int (fun _ _ => rfl)) (cv 1)) rfl))) pa_nil)))
        (pss_one (ps_ret (pe_lc rfl (blkC (x := "_law_field") ["_law_there"] [("_law_there", 3, s.heap.objs.size + 1)] rfl rfl (by decide +kernel) (by decide +kernel) rfl (by decide +kernel) rfl rfl (by intro p hp; simp only [List.mem_cons, List.not_mem_nil, or_false] at hp; rcases hp with rfl <;> exact ⟨rfl, rfl, rfl, rfl⟩)) (pi_tup (pe_ix xc_tup (cv 1) pe_int (fun _ _ => rfl))) (fun _ _ _ _ _ => pts_nil) (fun _ _ _ _ _ => (pe_tup (pa_cons (pe_dget hu (cv 1) (pe_ix xc_tup (cv 0) pe_int (fun _ _ => rfl)) (fun _ _ => rfl)) (pa_cons (pe_ix xc_tup (cv 0) pe_int (fun _ _ => rfl)) pa_nil)))))))
        pss_nil)))
      pss_nil)
    (pss_one (ps_ret pe_non))))))), ?_⟩
  have sl : sizeLine = 16777216 := sizeLine_eq
  have none_ : ∀ H2, Same H H2 → meet u m = none → Q .non H2 := fun H2 S e => q .non H2 S (by rw [e]; exact rfl)
  have some_ : ∀ a xs l H2, Same H H2 → meet u m = some l → H2 a = some (.lst xs) → Ims H2 xs (l.map flD) → Q (.ref a) H2 := fun a xs l H2 S e h1 h2 => q (.ref a) H2 S (by rw [e]; exact ⟨a, xs, rfl, h1, h2⟩)
  cases u with
  | num a p s1 =>
    obtain ⟨tu, xs, rfl, eu, hs⟩ := tup_hd (r := []) (show Im H uv (.tup (hdD "num" a p s1 ++ [])) from huv)
    by_cases e : m.s = "num"
    · obtain rfl := Mf.is_num e
      exact and_y rfl eu rfl rfl em rfl ⟨(by show 0 ≤ sizeLine; decide), fun l hl => some_ _ _ [] _ (same_new hl _) rfl upd_same .nil⟩
    · exact and_n2 rfl eu rfl rfl em e (and_n1 rfl eu (by decide +kernel) (and_n1 rfl eu (by decide +kernel) (and_n1 rfl eu (by decide +kernel) (and_n1 rfl eu (by decide +kernel) (none_ _ (Same.refl _) (no_num e))))))
  | call a p s1 y z =>
    obtain ⟨tu, xs, rfl, eu, hs⟩ := tup_hd huv
    obtain rfl := ims2 hs
    refine and_n1 rfl eu (by decide +kernel) ?_
    by_cases e : m.s = "fn"
    · obtain ⟨x1, y1, rfl⟩ := Mf.is_fn e
      obtain ⟨t, xs, rfl, et, hs⟩ := im_nil hf
      obtain rfl := ims2 hs
      refine and_y rfl eu rfl rfl em rfl ⟨_, eu, onS_of (atI_nat (j := 4) rfl) ⟨_, em, onS_of (atI_nat (j := 1) rfl) ⟨_, et, onS_of (atI_nat (j := 0) rfl) ⟨(by show 2 ≤ sizeLine; decide), fun t1 h1 => ?_⟩⟩⟩⟩
      have S1 := same_new h1 (.tup [.int y, .int x1])
      refine ⟨_, S1 _ _ em, onS_of (atI_nat (j := 1) rfl) ⟨_, S1 _ _ et, onS_of (atI_nat (j := 1) rfl) ⟨_, S1 _ _ eu, onS_of (atI_nat (j := 5) rfl) ⟨(by show 2 ≤ sizeLine; decide), fun t2 h2 => ⟨(by show 2 ≤ sizeLine; decide), fun l hl => ?_⟩⟩⟩⟩⟩
      exact some_ _ _ [(y, x1), (y1, z)] _ ((S1.trans (same_new h2 _)).trans (same_new hl _)) rfl upd_same (.cons (pr_im (same_new hl _ _ _ (same_new h2 _ _ _ upd_same))) (.cons (pr_im (same_new hl _ _ _ upd_same)) .nil))
    · exact and_n2 rfl eu rfl rfl em e (and_n1 rfl eu (by decide +kernel) (and_n1 rfl eu (by decide +kernel) (and_n1 rfl eu (by decide +kernel) (none_ _ (Same.refl _) (no_fn e)))))
  | row a p s1 y =>
    obtain ⟨tu, xs, rfl, eu, hs⟩ := tup_hd huv
    obtain rfl := ims1 hs
    refine and_n1 rfl eu (by decide +kernel) (and_n1 rfl eu (by decide +kernel) ?_)
    by_cases e : m.s = "row"
    · obtain ⟨x1, rfl⟩ := Mf.is_row e
      obtain ⟨t, xs, rfl, et, hs⟩ := im_nil hf
      obtain rfl := ims1 hs
      refine and_y rfl eu rfl rfl em rfl ⟨_, em, onS_of (atI_nat (j := 1) rfl) ⟨_, et, onS_of (atI_nat (j := 0) rfl) ⟨_, eu, onS_of (atI_nat (j := 4) rfl) ⟨(by show 2 ≤ sizeLine; decide), fun t1 h1 => ⟨(by show 1 ≤ sizeLine; decide), fun l hl => ?_⟩⟩⟩⟩⟩
      exact some_ _ _ [(x1, y)] _ ((same_new h1 _).trans (same_new hl _)) rfl upd_same (.cons (pr_im (same_new hl _ _ _ upd_same)) .nil)
    · exact and_n2 rfl eu rfl rfl em e (and_n1 rfl eu (by decide +kernel) (and_n1 rfl eu (by decide +kernel) (none_ _ (Same.refl _) (no_row e))))
  | case a p s1 l =>
    obtain ⟨tu, xs, rfl, eu, hs⟩ := tup_hd huv
    obtain ⟨g, rfl, hg⟩ : ∃ g, xs = [g] ∧ Im H g (prD l) := by
      cases hs with | cons h1 hs => cases hs; exact ⟨_, rfl, h1⟩
    refine and_n1 rfl eu (by decide +kernel) (and_n1 rfl eu (by decide +kernel) (and_n1 rfl eu (by decide +kernel) ?_))
    by_cases e : m.s = "tag"
    · obtain ⟨w1, x1, rfl⟩ := Mf.is_tag e
      obtain ⟨t, xs, rfl, et, hs⟩ := im_nil hf
      obtain rfl := ims2 hs
      obtain ⟨tg, ys, rfl, eg, hys⟩ := im_nil hg
      have ly := hys.length
      rw [List.length_map] at ly
      refine and_y rfl eu rfl rfl em rfl ⟨_, eu, onS_of (atI_nat (j := 4) rfl) ⟨tg, rfl, ⟨_, SqT.of eg⟩, for_tup (xs := ys) (fun i σ H2 => ∃ (o : Option V), σ = [some (.ref tm), some (.ref tu), o, none] ∧ H2 = H ∧ lk (l.take i) w1 = none) ⟨none, rfl, rfl, rfl⟩ (fun i σ H2 _ ⟨_, _, e, _⟩ => by rw [e]; exact SqT.of eg) ?_ ?_⟩⟩
      · rintro i v σ H2 hv ⟨o, rfl, rfl, hl⟩
        obtain ⟨pr, tt, e1, rfl, e2⟩ := ims_at hys hv
        refine ⟨_, e2, onS_of (atI_nat (j := 0) rfl) ⟨_, em, onS_of (atI_nat (j := 1) rfl) ⟨_, et, onS_of (atI_nat (j := 0) rfl) ?_⟩⟩⟩
        dsimp only [cEq, onB]
        by_cases z : pr.1 = w1
        · rw [decide_eq_true z]
          refine iteT ⟨_, em, onS_of (atI_nat (j := 1) rfl) ⟨_, et, onS_of (atI_nat (j := 1) rfl) ⟨_, e2, onS_of (atI_nat (j := 1) rfl) ⟨(by show 2 ≤ sizeLine; decide), fun t1 h1 => ⟨(by show 1 ≤ sizeLine; decide), fun l1 hl1 => ?_⟩⟩⟩⟩⟩
          refine some_ _ _ [(x1, pr.2)] _ ((same_new h1 _).trans (same_new hl1 _)) ?_ upd_same (.cons (pr_im (same_new hl1 _ _ _ upd_same)) .nil)
          show (lk l w1).map _ = _
          rw [lk_at e1 hl z]
          rfl
        · rw [decide_eq_false z]
          exact iteF ⟨_, rfl, rfl, lk_take e1 hl z⟩
      · rintro σ H2 ⟨o, rfl, rfl, hl⟩
        rw [List.take_of_length_le (by omega)] at hl
        dsimp only [tNext]
        refine and_n1 rfl eu (by decide +kernel) ?_
        exact none_ _ (Same.refl _) (by show (lk l w1).map _ = none; rw [hl]; rfl)
    · exact and_n2 rfl eu rfl rfl em e (and_n1 rfl eu (by decide +kernel) (none_ _ (Same.refl _) (no_tag e)))
  | take a p s1 l =>
    obtain ⟨tu, xs, rfl, eu, hs⟩ := tup_hd huv
    obtain ⟨g, rfl, hg⟩ : ∃ g, xs = [g] ∧ Im H g (prD l) := by
      cases hs with | cons h1 hs => cases hs; exact ⟨_, rfl, h1⟩
    refine and_n1 rfl eu (by decide +kernel) (and_n1 rfl eu (by decide +kernel) (and_n1 rfl eu (by decide +kernel) (and_n1 rfl eu (by decide +kernel) ?_)))
    by_cases e : m.s = "rec"
    · obtain ⟨m, rfl⟩ := Mf.is_rcd e
      obtain ⟨t, xs, rfl, et, hsm⟩ := im_nil hf
      obtain ⟨tg, ys, rfl, eg, hys⟩ := im_nil hg
      have ly := hys.length
      rw [List.length_map] at ly
      have hl10 : l.length ≤ 10 := uo
      refine and_y rfl eu rfl rfl em rfl ⟨_, em, onS_of (atI_nat (j := 1) rfl) ⟨t, xs, _, rfl, et, im_ps hsm, by rw [List.length_map]; have := mo.1; omega, fun d hd => ?_⟩⟩
      have S1 := same_new hd (.dK (mergeK [] ((m.map pI).map kf)))
      have ed : (upd H d (.dK (mergeK [] ((m.map pI).map kf)))) d = some (.dK (mergeK [] ((m.map pI).map kf))) := upd_same
      dsimp only [gName]
      generalize upd H d (.dK (mergeK [] ((m.map pI).map kf))) = H1 at S1 ed ⊢
      have ev : ∀ w1, valV (mergeK [] ((m.map pI).map kf)) (Sum.inr w1) = (lk m w1).map V.int := fun w1 => by
        rw [valV_merge m [] w1 mo.2]
        cases lk m w1 <;> rfl
      have dg : ∀ {H5 : Hp} (w1 : Str), H5 d = some (.dK (mergeK [] ((m.map pI).map kf))) → DGet H5 d (.str w1) ((lk m w1).map V.int) := fun w1 h5 => by rw [← ev]; exact DGet.k (k := (Sum.inr w1 : Key)) h5
      have eg1 := S1 _ _ eg
      have eu1 := S1 _ _ eu
      have i4 : atI ([V.str "take", .int a, .int p, .int s1] ++ [V.ref tg]) 4 = some (.ref tg) := atI_nat (j := 4) rfl
      refine ⟨_, eu1, onS_of i4 ⟨tg, rfl, ⟨_, SqT.of eg1⟩, fun D hD => ?_⟩⟩
      refine lc_gen ys.length (by omega) (fun xs _ => xs = ((l.take xs.length).map fun p => (lk m p.1).isSome).map V.bl) (fun _ _ _ h _ => h) hD rfl (fun k H2 S hk => go_tup eg1 S hk) (fun H2 S => st_tup eg1 S) (by simp) ?_ ?_
      · rintro k H2 v H3 xs Z S hk ⟨rfl, hv⟩ hxs hl z
        obtain ⟨pr, tt, e1, rfl, e2⟩ := ims_at (hys.mono (Same.tk S1)) (hv _ (SqT.of (S _ _ eg1)))
        refine ⟨_, S _ _ e2, onS_of (atI_nat (j := 0) rfl) ⟨d, _, rfl, dg pr.1 (S _ _ ed), z _ _ (Same.refl _) ?_⟩⟩
        rw [List.length_append, List.length_singleton, hl, take_snoc e1, List.map_append, List.map_append, ← hl, ← hxs, Option.isSome_map]
        rfl
      · rintro H2 xs S hxs hl eD
        have hxs' : xs = (l.map fun p => (lk m p.1).isSome).map V.bl := by rw [hxs, hl, List.take_of_length_le (by omega)]
        refine ⟨D, l.map fun p => (lk m p.1).isSome, rfl, SqL.of (by rw [eD, hxs']), _, rfl, ?_⟩
        have S12 := S1.trans S
        by_cases hall : ∀ p ∈ l, lk m p.1 ≠ none
        · have hb : ((l.map fun p => (lk m p.1).isSome).all id) = true := by
            rw [List.all_eq_true]
            intro b hb
            obtain ⟨p, hp, rfl⟩ := List.mem_map.mp hb
            cases h : lk m p.1 with
            | none => exact absurd h (hall p hp)
            | some x => rfl
          rw [hb]
          refine iteT ⟨_, S _ _ eu1, onS_of i4 ⟨tg, rfl, ⟨_, SqT.of (S _ _ eg1)⟩, fun D2 hD2 => ?_⟩⟩
          refine lc_gen ys.length (by omega) (fun xs H9 => Ims H9 xs (((l.take xs.length).filterMap (fnd m)).map flD)) (fun _ _ _ h s => h.mono s) hD2 rfl (fun k H3 S3 hk => go_tup (S _ _ eg1) S3 hk) (fun H3 S3 => st_tup (S _ _ eg1) S3) .nil ?_ ?_
          · rintro k H3 v H4 xs Z S3 hk ⟨rfl, hv⟩ hin hl z
            obtain ⟨pr, tt, e1, rfl, e2⟩ := ims_at (hys.mono (Same.tk S12)) (hv _ (SqT.of (S3 _ _ (S _ _ eg1))))
            cases hx : lk m pr.1 with
            | none => exact absurd hx (hall pr (List.mem_of_getElem? e1))
            | some x =>
              refine ⟨_, S3 _ _ e2, onS_of (atI_nat (j := 0) rfl) ⟨d, .int x, rfl, (by have := dg pr.1 (S3 _ _ (S _ _ ed)); rw [hx] at this; exact this), _, S3 _ _ e2, onS_of (atI_nat (j := 1) rfl) ⟨(by show 2 ≤ sizeLine; decide), fun t1 h1 => z _ _ (same_new h1 _) (by rw [List.length_append, List.length_singleton, hl, taken_take e1 hx, List.map_append, ← hl]; exact (hin.mono (Same.tk (same_new h1 _))).app (.cons (pr_im upd_same) .nil))⟩⟩⟩
          · rintro H3 xs S3 hin hl e3
            rw [hl, List.take_of_length_le (by omega)] at hin
            exact some_ _ _ _ _ (S12.trans S3) (taken_all hall) e3 hin
        · obtain ⟨p, hp, hn⟩ : ∃ p ∈ l, lk m p.1 = none := by
            apply Classical.byContradiction
            intro h
            exact hall fun p hp hn => h ⟨p, hp, hn⟩
          have hb : ((l.map fun p => (lk m p.1).isSome).all id) = false := by
            rw [Bool.eq_false_iff]
            intro h
            rw [List.all_eq_true] at h
            have := h (lk m p.1).isSome (List.mem_map.mpr ⟨p, hp, rfl⟩)
            rw [hn] at this
            cases this
          rw [hb]
          exact iteF (none_ _ S12 (taken_none hp hn))
    · exact and_n2 rfl eu rfl rfl em e (none_ _ (Same.refl _) (no_rcd e))
end
end K33.Internal
namespace K33.Internal
open PySem L2.Internal BO.Internal
seal L2.Internal.PE L2.Internal.PA L2.Internal.PS L2.Internal.PSs L2.Internal.PT L2.Internal.PI
mutual
theorem im_at {K : PySem.W.Frag} {H : Hp} : ∀ {v : V} {d : Dt}, Im H v d → At K H v d
  | v, _, .flat h => .flat (by cases v <;> first | rfl | cases h)
  | _, _, .tup h hs => .tup (SqT.of h) (ims_ats hs)
theorem ims_ats {K : PySem.W.Frag} {H : Hp} : ∀ {v : List V} {d : List Dt}, Ims H v d → Ats K H v d
  | _, _, .nil => .nil
  | _, _, .cons h hs => .cons (im_at h) (ims_ats hs)
end
noncomputable def _root_.BO.Internal.Rw.k2 (r : Rw) : List Key := [.inl r.a, .inl r.b]
section
variable {R : List Rw} {q : List Key} {v : V} {f : Rw → List Key}
end
theorem putsR_mem {r : Rw} : ∀ {l R : List Rw}, r ∈ putsR R l → r ∈ R ∨ r ∈ l
  | [], R, h => .inl h
  | ρ :: l, R, h => by
    rcases putsR_mem (l := l) (R := putR R ρ) h with h | h
    · unfold putR at h
      split at h
      · exact .inl h
      · rcases List.mem_append.mp h with h | h
        · exact .inl h
        · simp only [List.mem_singleton] at h
          exact .inr (by simp [h])
    · exact .inr (by simp [h])
noncomputable def Cau (us : List Us) (ms : List Mk3) (Rp : List Rw) (ρ : Rw) : Prop := ∃ (n1 n2 : Int) (i j : Nat) (m p : Int) (y : Option (Int × Int)), ρ.y = some (n1, n2) ∧ n1 = i ∧ n2 = j ∧ Rp[i]? = some ⟨false, m, p, y⟩ ∧ match ρ.w with
  | true => ∃ (u : Us) (mk : Mk3) (l : List (Int × Int)), us[j]? = some u ∧ u.at = p ∧ ms[m.toNat]? = some mk ∧ meet u mk.f = some l ∧ (ρ.a, ρ.b) ∈ l
  | false => m = ρ.a ∧ ∃ y', Rp[j]? = some ⟨true, p, ρ.b, y'⟩
theorem get_app {α : Type} {R S : List α} {i : Nat} {x : α} (h : R[i]? = some x) : (R ++ S)[i]? = some x := by
  rw [List.getElem?_append_left (List.getElem?_eq_some_iff.mp h).1]
  exact h
theorem Cau.app {us : List Us} {ms : List Mk3} {R : List Rw} {ρ : Rw} (h : Cau us ms R ρ) (S : List Rw) : Cau us ms (R ++ S) ρ := by
  obtain ⟨n1, n2, i, j, m, p, y, e1, e2, e3, e4, h⟩ := h
  refine ⟨n1, n2, i, j, m, p, y, e1, e2, e3, get_app e4, ?_⟩
  cases hw : ρ.w with
  | true => rw [hw] at h; exact h
  | false =>
    rw [hw] at h
    obtain ⟨h1, y', h2⟩ := h
    exact ⟨h1, y', get_app h2⟩
structure Cz (us : List Us) (ms : List Mk3) (R0 R : List Rw) : Prop where
  pre : ∃ more, R = R0 ++ more
  cau : ∀ (i : Nat) (ρ : Rw), R0.length ≤ i → R[i]? = some ρ → Cau us ms (R.take i) ρ
section
variable {us : List Us} {ms : List Mk3} {R0 R : List Rw}
theorem Cz.put (c : Cz us ms R0 R) {ρ : Rw} (h : Cau us ms R ρ) : Cz us ms R0 (putR R ρ) := by
  unfold putR
  split
  · exact c
  · obtain ⟨more, e⟩ := c.pre
    refine ⟨⟨more ++ [ρ], by rw [e, List.append_assoc]⟩, fun i r hi hr => ?_⟩
    by_cases hl : i < R.length
    · rw [List.getElem?_append_left hl] at hr
      rw [List.take_append_of_le_length (Nat.le_of_lt hl)]
      exact c.cau i r hi hr
    · have := (List.getElem?_eq_some_iff.mp hr).1
      rw [List.length_append, List.length_singleton] at this
      have ei : i = R.length := by omega
      subst ei
      rw [List.getElem?_concat_length] at hr
      cases hr
      rw [List.take_append_of_le_length (Nat.le_refl _), List.take_length]
      exact h
theorem Cz.puts : ∀ {l R : List Rw}, Cz us ms R0 R → (∀ ρ ∈ l, Cau us ms R ρ) → Cz us ms R0 (putsR R l)
  | [], R, c, _ => c
  | ρ :: l, R, c, h => by
    obtain ⟨more, e⟩ := putR_pre R ρ
    refine Cz.puts (l := l) (R := putR R ρ) (c.put (h ρ (by simp))) fun r hr => ?_
    rw [e]
    exact (h r (by simp [hr])).app more
theorem Cz.uses {k : Nat} {m p : Int} {y : Option (Int × Int)} : ∀ {L : List Int} {R : List Rw}, Cz us ms R0 R → R[k]? = some ⟨false, m, p, y⟩ → (∀ x ∈ L, ∃ j : Nat, x = j ∧ atU us j = some p) → Cz us ms R0 (usesR us ms m (k : Int) R L)
  | [], R, c, _, _ => c
  | x :: L, R, c, hk, h => by
    obtain ⟨j, rfl, ha⟩ := h x (by simp)
    obtain ⟨more, e⟩ := useR_pre us ms m (k : Int) R (j : Int)
    refine Cz.uses (L := L) (R := useR us ms m (k : Int) R (j : Int)) ?_ (by rw [e]; exact get_app hk) fun x hx => h x (by simp [hx])
    unfold useR
    rw [Int.toNat_natCast]
    unfold atU at ha
    cases hu : us[j]? with
    | none => rw [hu] at ha; cases ha
    | some u =>
      rw [hu] at ha
      cases hm : ms[m.toNat]? with
      | none => exact c
      | some mk =>
        dsimp only
        cases hl : meet u mk.f with
        | none => exact c
        | some l =>
          refine c.puts fun ρ hρ => ?_
          obtain ⟨q, hq, rfl⟩ := List.mem_map.mp hρ
          exact ⟨_, _, k, j, m, p, y, rfl, rfl, rfl, hk, u, mk, l, hu, Option.some.inj ha, hm, hl, hq⟩
theorem Cz.step (c : Cz us ms R0 R) {k : Nat} {ρ : Rw} (hk : R[k]? = some ρ) : Cz us ms R0 (stepR us ms R k ρ) := by
  obtain ⟨w, a, b, y⟩ := ρ
  unfold stepR
  cases w with
  | true =>
    dsimp only
    refine c.puts fun r hr => ?_
    obtain ⟨h, hh, rfl⟩ := List.mem_map.mp hr
    obtain ⟨n, y1, e1, _, e2⟩ := her_mem hh
    exact ⟨_, _, n, k, h.2, a, y1, rfl, e1, rfl, e2, rfl, y, hk⟩
  | false =>
    dsimp only
    have c1 := c.uses hk (L := ixn (atU us) b us.length) fun x hx => let ⟨j, e1, _, e2⟩ := ixn_mem hx; ⟨j, e1, e2⟩
    obtain ⟨more, e⟩ := usesR_pre us ms a (k : Int) (ixn (atU us) b us.length) R
    refine c1.puts fun r hr => ?_
    obtain ⟨h, hh, rfl⟩ := List.mem_map.mp hr
    obtain ⟨n, y1, e1, _, e2⟩ := gos_mem hh
    rw [e]
    exact ⟨_, _, k, n, a, b, y, rfl, rfl, e1, get_app hk, rfl, y1, get_app e2⟩
theorem reach_cz {k : Nat} (h : Reach us ms R0 k R) : Cz us ms R0 R := by
  induction h with
  | zero => exact ⟨⟨[], (List.append_nil _).symm⟩, fun i ρ hi hr => absurd (List.getElem?_eq_some_iff.mp hr).1 (by omega)⟩
  | step _ hk ih => exact ih.step hk
end
theorem ims_get {H : Hp} : ∀ {xs : List V} {ds : List Dt} {j : Nat} {x : V}, Ims H xs ds → xs[j]? = some x → ∃ d, ds[j]? = some d ∧ Im H x d
  | _, _, 0, _, .cons h _, e => ⟨_, rfl, by cases e; exact h⟩
  | _, _, j + 1, _, .cons _ t, e => by
    rw [List.getElem?_cons_succ] at e
    obtain ⟨d, e1, e2⟩ := ims_get t e
    exact ⟨d, by rw [List.getElem?_cons_succ]; exact e1, e2⟩
theorem us_at1 {H : Hp} {v : V} {u : Us} (h : Im H v u.d) : ∃ t s r, v = .ref t ∧ H t = some (.tup (.str s :: .int u.at :: r)) := by
  cases u with
  | num a p s => obtain ⟨t, xs, rfl, e, _⟩ := tup_hd (r := []) (show Im H v (.tup (hdD "num" a p s ++ [])) from h); exact ⟨t, _, _, rfl, e⟩
  | call a p s y z => obtain ⟨t, xs, rfl, e, _⟩ := tup_hd h; exact ⟨t, _, _, rfl, e⟩
  | take a p s l => obtain ⟨t, xs, rfl, e, _⟩ := tup_hd h; exact ⟨t, _, _, rfl, e⟩
  | case a p s l => obtain ⟨t, xs, rfl, e, _⟩ := tup_hd h; exact ⟨t, _, _, rfl, e⟩
  | row a p s y => obtain ⟨t, xs, rfl, e, _⟩ := tup_hd h; exact ⟨t, _, _, rfl, e⟩
section
variable {P : Program} {w : World} {K : PySem.W.Frag} {mg : Str → Option Value} {base : Heap}
noncomputable def sp__law_whole : Sp := fun vs H Q _ => ∃ n : Int, vs = [.int n] ∧ Q (.bl true) H
theorem ok__law_whole (T : Txt K mg) : FnOk P w K mg base CX0 1 T.a__law_whole T.fd__law_whole ["_law_x"] sp__law_whole := by
  refine T.F__law_whole.ok sc__law_whole (fun vs H Q E h => ?_) (fun cdv A outer s H vs Q E hr h => ?_)
  · obtain ⟨n, rfl, _⟩ := h
    rfl
  obtain ⟨n, rfl, q⟩ := h
  refine ⟨_, (pss_one (ps_ret (pe_and (pe_callB call_isi rfl T.z_isinstance bt_isinstance (pa_cons (cv 0) (pa_cons (pe_bty rfl T.z_int bt_int) pa_nil))) (pe_one (pe_not (pe_callB call_isi rfl T.z_isinstance bt_isinstance (pa_cons (cv 0) (pa_cons (pe_bty rfl T.z_bool bt_bool) pa_nil)))))))), ?_⟩
  exact ⟨_, _, _, _, true, rfl, fun _ r => r, .int n, rfl, _, rfl, iteT ⟨_, _, _, _, false, rfl, fun _ r => r, .int n, rfl, _, rfl, q⟩⟩
noncomputable def sp__law_pair : Sp := fun vs H Q _ => ∃ (t : Addr) (a b : Int), vs = [.ref t] ∧ H t = some (.tup [.int a, .int b]) ∧ Q (.bl true) H
theorem ok__law_pair (T : Txt K mg) : FnOk P w K mg base CX0 2 T.a__law_pair T.fd__law_pair ["_law_x"] sp__law_pair := by
  have G__law_whole := ok__law_whole (P := P) (w := w) (base := base) T
  refine T.F__law_pair.ok sc__law_pair (fun vs H Q E h => ?_) (fun cdv A outer s H vs Q E hr h => ?_)
  · obtain ⟨t, a, b, rfl, _⟩ := h
    rfl
  obtain ⟨t, a, b, rfl, e, q⟩ := h
  refine ⟨_, (pss_one (ps_ret (pe_and (pe_callB call_isi rfl T.z_isinstance bt_isinstance (pa_cons (cv 0) (pa_cons (pe_bty rfl T.z_tuple bt_tuple) pa_nil))) (pe_and (pe_cmpR oc_eq (pe_callB call_len_seq rfl T.z_len bt_len (pa_cons (cv 0) pa_nil)) pe_int (nomark _)) (pe_and (pe_call G__law_whole (hr.mono (by decide)) rfl T.m__law_whole T.k__law_whole T.b__law_whole .nil pass0 (pa_cons (pe_ix xc_tup (cv 0) pe_int (fun _ _ => rfl)) pa_nil)) (pe_one (pe_call G__law_whole (hr.mono (by decide)) rfl T.m__law_whole T.k__law_whole T.b__law_whole .nil pass0 (pa_cons (pe_ix xc_tup (cv 0) pe_int (fun _ _ => rfl)) pa_nil)))))))), ?_⟩
  refine ⟨_, _, _, _, true, rfl, fun _ r => r, .tup e, rfl, _, rfl, iteT ⟨t, _, rfl, .inr (SqT.of e), _, rfl, ?_⟩⟩
  refine iteT ⟨_, e, onS_of (atI_nat (j := 0) rfl) ⟨a, rfl, _, rfl, iteT ⟨_, e, onS_of (atI_nat (j := 1) rfl) ⟨b, rfl, q⟩⟩⟩⟩
noncomputable def sp__law_shaped : Sp := fun vs H Q _ => ∃ (r : Addr) (rv : List V) (R : List Rw), vs = [.ref r] ∧ H r = some (.lst rv) ∧ Ims H rv (R.map Rw.d) ∧ Q (.bl true) H
theorem ok__law_shaped (T : Txt K mg) : FnOk P w K mg base CX0 3 T.a__law_shaped T.fd__law_shaped ["_law_rows"] sp__law_shaped := by
  have G__law_whole := ok__law_whole (P := P) (w := w) (base := base) T
  have G__law_pair := ok__law_pair (P := P) (w := w) (base := base) T
  refine T.F__law_shaped.ok sc__law_shaped (fun vs H Q E h => ?_) (fun cdv A outer s H vs Q E hr h => ?_)
  · obtain ⟨r, rv, R, rfl, _⟩ := h
    rfl
  obtain ⟨r, rv, R, rfl, er, hR, q⟩ := h
  refine ⟨_, (pss_cons (ps_if (pt_not (pt_val (pe_callB call_isi rfl T.z_isinstance bt_isinstance (pa_cons (cv 0) (pa_cons (pe_bty rfl T.z_list bt_list) pa_nil)))))
      (pss_one (ps_ret pe_bl))
      pss_nil)
    (pss_cons (ps_for PassesOwn.never rfl (pi_list (cv 0)) (pg_name (i := 1) sc__law_shaped.nd rfl (Or.inl rfl))
      (pss_cons (ps_if (PW.pt (pw_or (pt_not (pt_val (pe_callB call_isi rfl T.z_isinstance bt_isinstance (pa_cons (cv 1) (pa_cons (pe_bty rfl T.z_tuple bt_tuple) pa_nil))))) (pw_or (ptc_cmpR oc_ne (pe_callB call_len_seq rfl T.z_len bt_len (pa_cons (cv 1) pa_nil)) pe_int (nomark _)) (pw_or1 (pt_not (pt_val (pe_callB call_isi rfl T.z_isinstance bt_isinstance (pa_cons (pe_ix xc_tup (cv 1) pe_int (fun _ _ => rfl)) (pa_cons (pe_bty rfl T.z_str bt_str) pa_nil)))))))))
        (pss_one (ps_ret pe_bl))
        pss_nil)
      (pss_cons (ps_if (PW.pt (pw_and (ptc_cmpR oc_ne (pe_ix xc_tup (cv 1) pe_int (fun _ _ => rfl)) pe_str (nomark _)) (pw_and1 (ptc_cmpR oc_ne (pe_ix xc_tup (cv 1) pe_int (fun _ _ => rfl)) pe_str (nomark _)))))
        (pss_one (ps_ret pe_bl))
        pss_nil)
      (pss_cons (ps_if (PW.pt (pw_or (pt_not (pt_val (pe_call G__law_whole (hr.mono (by decide)) rfl T.m__law_whole T.k__law_whole T.b__law_whole .nil pass0 (pa_cons (pe_ix xc_tup (cv 1) pe_int (fun _ _ => rfl)) pa_nil)))) (pw_or1 (pt_not (pt_val (pe_call G__law_whole (hr.mono (by decide)) rfl T.m__law_whole T.k__law_whole T.b__law_whole .nil pass0 (pa_cons (pe_ix xc_tup (cv 1) pe_int (fun _ _ => rfl)) pa_nil)))))))
        (pss_one (ps_ret pe_bl))
        pss_nil)
      (pss_one (ps_if (PW.pt (pw_and (pt_cmp (pc_notN (pe_ix xc_tup (cv 1) pe_int (fun _ _ => rfl)))) (pw_and1 (pt_not (pt_val (pe_call G__law_pair (hr.mono (by decide)) rfl T.m__law_pair T.k__law_pair T.b__law_pair .nil pass0 (pa_cons (pe_ix xc_tup (cv 1) pe_int (fun _ _ => rfl)) pa_nil)))))))
        (pss_one (ps_ret pe_bl))
        pss_nil))))))
    (pss_one (ps_ret pe_bl)))), ?_⟩
  refine ⟨_, _, _, _, true, rfl, fun _ r => r, .lst er, rfl, _, rfl, iteF ?_⟩
  refine ⟨r, rfl, ⟨_, SqL.of er⟩, for_list (xs := rv) (fun i σ H2 => ∃ (o : Option V), σ = [some (.ref r), o] ∧ H2 = H) ⟨none, rfl, rfl⟩ (fun i σ H2 _ ⟨_, _, e⟩ => by rw [e]; exact SqL.of er) ?_ ?_⟩
  · rintro i v σ H2 hv ⟨o, rfl, rfl⟩
    have hl := hR.length
    rw [List.length_map] at hl
    have hi := (List.getElem?_eq_some_iff.mp hv).1
    obtain ⟨ρ, hρ⟩ : ∃ ρ, R[i]? = some ρ := ⟨_, List.getElem?_eq_getElem (by omega)⟩
    obtain ⟨t, wv, h1, e, hw⟩ := ims_rw hR hρ
    rw [hv] at h1
    cases h1
    refine ⟨_, _, _, _, true, rfl, fun _ r => r, .tup e, rfl, _, rfl, iteF ⟨t, _, rfl, .inr (SqT.of e), ?_⟩⟩
    dsimp only [tC, cEq, onB]
    rw [show (xor true (decide (((([V.str (wd ρ.w), V.int ρ.a, V.int ρ.b, wv] : List V).length : Nat) : Int) = 4))) = false from rfl]
    refine iteF ⟨_, e, onS_of (atI_nat (j := 0) rfl) ⟨_, _, _, _, true, rfl, fun _ r => r, .str _, rfl, _, rfl, iteF ?_⟩⟩
    obtain ⟨w', a, b, y⟩ := ρ
    dsimp only at e hw
    refine ⟨_, e, onS_of (atI_nat (j := 0) rfl) ?_⟩
    dsimp only [tC, cEq, onB]
    cases w' with
    | true =>
      rw [show (xor true (decide (wd true = ("goes" : Str)))) = false by decide +kernel]
      refine iteF (iteF ⟨_, e, onS_of (atI_nat (j := 1) rfl) ⟨a, rfl, _, rfl, iteF ⟨_, e, onS_of (atI_nat (j := 2) rfl) ⟨b, rfl, _, rfl, iteF ⟨_, e, onS_of (atI_nat (j := 3) rfl) ?_⟩⟩⟩⟩⟩)
      cases y with
      | none => cases hw; exact ⟨false, by rw [decide_eq_true rfl]; rfl, iteF (iteF ⟨_, rfl, rfl⟩)⟩
      | some p =>
        obtain ⟨tw, xs, rfl, ew, hs⟩ := im_nil hw
        obtain rfl := ims2 hs
        exact ⟨true, by rw [decide_eq_false (fun h => nomatch h)]; rfl, iteT ⟨_, e, onS_of (atI_nat (j := 3) rfl) ⟨tw, _, _, rfl, ew, _, rfl, iteF ⟨_, rfl, rfl⟩⟩⟩⟩
    | false =>
      rw [show (xor true (decide (wd false = ("goes" : Str)))) = true by decide +kernel]
      refine iteT ⟨_, e, onS_of (atI_nat (j := 0) rfl) ?_⟩
      dsimp only [tC, cEq, onB]
      rw [show (xor true (decide (wd false = ("here" : Str)))) = false by decide +kernel]
      refine iteF ⟨_, e, onS_of (atI_nat (j := 1) rfl) ⟨a, rfl, _, rfl, iteF ⟨_, e, onS_of (atI_nat (j := 2) rfl) ⟨b, rfl, _, rfl, iteF ⟨_, e, onS_of (atI_nat (j := 3) rfl) ?_⟩⟩⟩⟩⟩
      cases y with
      | none => cases hw; exact ⟨false, by rw [decide_eq_true rfl]; rfl, iteF (iteF ⟨_, rfl, rfl⟩)⟩
      | some p =>
        obtain ⟨tw, xs, rfl, ew, hs⟩ := im_nil hw
        obtain rfl := ims2 hs
        exact ⟨true, by rw [decide_eq_false (fun h => nomatch h)]; rfl, iteT ⟨_, e, onS_of (atI_nat (j := 3) rfl) ⟨tw, _, _, rfl, ew, _, rfl, iteF ⟨_, rfl, rfl⟩⟩⟩⟩
  · rintro σ H2 ⟨o, rfl, rfl⟩
    exact q
end
end K33.Internal
namespace K33.Internal
open PySem L2.Internal BO.Internal
seal L2.Internal.PE L2.Internal.PA L2.Internal.PS L2.Internal.PSs L2.Internal.PT L2.Internal.PI
theorem get_take {α : Type} {R : List α} {k i : Nat} {x : α} (h : (R.take k)[i]? = some x) : i < k ∧ R[i]? = some x := by
  rw [List.getElem?_take] at h
  split at h
  · exact ⟨by assumption, h⟩
  · cases h
theorem xn_f : (xor true (decide (wd false = ("here" : Str)))) = false := by decide +kernel
section
variable {P : Program} {w : World} {K : PySem.W.Frag} {mg : Str → Option Value} {base : Heap}
noncomputable def sp__law_caused : Sp := fun vs H Q _ => ∃ (th q0 q1 q2 q3 r : Addr) (pts : List Int) (ms : List Mk3) (us : List Us) (fs : List (Int × Int)) (rv : List V) (R : List Rw) (N : Int) (k : Nat) (ρ : Rw), vs = [.ref th, .ref r, .int (k : Int)] ∧ Th H th q0 q1 q2 q3 pts ms us fs ∧ H r = some (.lst rv) ∧ Ims H rv (R.map Rw.d) ∧ R[k]? = some ρ ∧ Cau us ms (R.take k) ρ ∧ (∀ r ∈ R, r.ok N ms.length) ∧ (∀ m ∈ ms, m.f.ok) ∧ (∀ u ∈ us, u.ok) ∧
  ∀ H', Same H H' → Q (.bl true) H'
theorem ok__law_caused (T : Txt K mg) : FnOk P w K mg base CX0 5 T.a__law_caused T.fd__law_caused ["_law_things_here", "_law_rows", "_law_number"] sp__law_caused := by
  have G__law_met := ok__law_met (P := P) (w := w) (base := base) T
  refine T.F__law_caused.ok sc__law_caused (fun vs H Q E h => ?_) (fun cdv A outer s H vs Q E hr h => ?_)
  · obtain ⟨th, q0, q1, q2, q3, r, pts, ms, us, fs, rv, R, N, k, ρ, rfl, _⟩ := h
    rfl
  have hu := hu_of hr
  obtain ⟨th, q0, q1, q2, q3, r, pts, ms, us, fs, rv, R, N, k, ⟨w', a, b, yy⟩, rfl, hT, er, hR, hk, hc, hok, mo, uo, q⟩ := h
  refine ⟨_, (pss_cons (ps_set (i := 3) sc__law_caused.nd rfl (Or.inl rfl) (pe_ix xc_list (cv 1) (cv 2) (fun _ _ => rfl)))
    (pss_cons (ps_set (i := 4) sc__law_caused.nd rfl (Or.inl rfl) (pe_ix xc_tup (cv 3) pe_int (fun _ _ => rfl)))
    (pss_cons (ps_if (pt_not (pt_chain op_le op_lt pe_int (pe_ix xc_tup (cv 4) pe_int (fun _ _ => rfl)) (cv 2)))
      (pss_one (ps_ret pe_bl))
      pss_nil)
    (pss_cons (ps_set (i := 5) sc__law_caused.nd rfl (Or.inl rfl) (pe_ix xc_list (cv 1) (pe_ix xc_tup (cv 4) pe_int (fun _ _ => rfl)) (fun _ _ => rfl)))
    (pss_cons (ps_if (PW.pt (pw_or (ptc_cmpR oc_ne (pe_ix xc_tup (cv 5) pe_int (fun _ _ => rfl)) pe_str (nomark _)) (pw_or1 (pt_not (pt_chain op_le op_lt pe_int (pe_ix xc_tup (cv 5) pe_int (fun _ _ => rfl)) (pe_callB call_len_seq rfl T.z_len bt_len (pa_cons (pe_ix xc_list (cv 0) pe_int (fun _ _ => rfl)) pa_nil)))))))
      (pss_one (ps_ret pe_bl))
      pss_nil)
    (pss_cons (ps_if (ptc_cmpR oc_eq (pe_ix xc_tup (cv 3) pe_int (fun _ _ => rfl)) pe_str (nomark _))
      (pss_cons (ps_if (PW.pt (pw_or (pt_not (pt_chain op_le op_lt pe_int (pe_ix xc_tup (cv 4) pe_int (fun _ _ => rfl)) (pe_callB call_len_seq rfl T.z_len bt_len (pa_cons (pe_ix xc_list (cv 0) pe_int (fun _ _ => rfl)) pa_nil)))) (pw_or1 (ptc_cmpR oc_ne (pe_ix xc_tup (pe_ix xc_list (pe_ix xc_list (cv 0) pe_int (fun _ _ => rfl)) (pe_ix xc_tup (cv 4) pe_int (fun _ _ => rfl)) (fun _ _ => rfl)) pe_int (fun _ _ => rfl)) (pe_ix xc_tup (cv 5) pe_int (fun _ _ => rfl)) (nomark _)))))
        (pss_one (ps_ret pe_bl))
        pss_nil)
      (pss_cons (ps_set (i := 6) sc__law_caused.nd rfl (Or.inl rfl) (pe_call G__law_met (hr.mono (by decide)) rfl T.m__law_met T.k__law_met T.b__law_met .nil pass0 (pa_cons (pe_ix xc_list (pe_ix xc_list (cv 0) pe_int (fun _ _ => rfl)) (pe_ix xc_tup (cv 5) pe_int (fun _ _ => rfl)) (fun _ _ => rfl)) (pa_cons (pe_ix xc_list (pe_ix xc_list (cv 0) pe_int (fun _ _ => rfl)) (pe_ix xc_tup (cv 4) pe_int (fun _ _ => rfl)) (fun _ _ => rfl)) pa_nil))))
      (pss_one (ps_ret (pe_and (pe_cmp (pc_notN (cv 6))) (pe_one (pe_cmpR (op_inD hr) (pe_tup (pa_cons (pe_ix xc_tup (cv 3) pe_int (fun _ _ => rfl)) (pa_cons (pe_ix xc_tup (cv 3) pe_int (fun _ _ => rfl)) pa_nil))) (cv 6) rfl)))))))
      pss_nil)
    (pss_cons (ps_if (pt_not (pt_chain op_le op_lt pe_int (pe_ix xc_tup (cv 4) pe_int (fun _ _ => rfl)) (cv 2)))
      (pss_one (ps_ret pe_bl))
      pss_nil)
    (pss_cons (ps_set (i := 7) sc__law_caused.nd rfl (Or.inl rfl) (pe_ix xc_list (cv 1) (pe_ix xc_tup (cv 4) pe_int (fun _ _ => rfl)) (fun _ _ => rfl)))
    (pss_one (ps_ret (pe_and (pe_cmpR oc_eq (pe_ix xc_tup (cv 7) pe_int (fun _ _ => rfl)) pe_str (nomark _)) (pe_and (pe_cmpR oc_eq (pe_ix xc_tup (cv 7) pe_int (fun _ _ => rfl)) (pe_ix xc_tup (cv 5) pe_int (fun _ _ => rfl)) (nomark _)) (pe_and (pe_cmpR oc_eq (pe_ix xc_tup (cv 7) pe_int (fun _ _ => rfl)) (pe_ix xc_tup (cv 3) pe_int (fun _ _ => rfl)) (nomark _)) (pe_one (pe_cmpR oc_eq (pe_ix xc_tup (cv 5) pe_int (fun _ _ => rfl)) (pe_ix xc_tup (cv 3) pe_int (fun _ _ => rfl)) (nomark _)))))))))))))))), ?_⟩
  have sl : sizeLine = 16777216 := sizeLine_eq
  obtain ⟨et, _, ⟨mv, em, im⟩, ⟨uv, eu, iu⟩, _⟩ := hT
  have lmv := im.length
  have luv := iu.length
  rw [List.length_map] at lmv luv
  obtain ⟨n1, n2, i, j, m, p, y, ey, rfl, rfl, hi, hc⟩ := hc
  dsimp only at ey hc
  subst ey
  obtain ⟨hik, hi⟩ := get_take hi
  obtain ⟨t, wv, h1, h2, hw⟩ := ims_rw hR hk
  dsimp only at h2 hw
  obtain ⟨tw, xs, rfl, ew, hs⟩ := im_nil hw
  obtain rfl := ims2 hs
  obtain ⟨t1, wv1, g1, g2, _⟩ := ims_rw hR hi
  dsimp only at g2
  obtain ⟨o1, o2, _, _⟩ := hok _ (List.mem_of_getElem? hi)
  dsimp only at o1 o2
  refine ⟨_, er, onS_of (atI_nat h1) ⟨_, h2, onS_of (atI_nat (j := 3) rfl) ⟨_, ew, onS_of (atI_nat (j := 0) rfl) ⟨_, _, rfl, rfl, _, rfl, ?_⟩⟩⟩⟩
  rw [decide_eq_true (show (0 : Int) ≤ (i : Int) by omega)]
  refine iteT ⟨_, _, rfl, rfl, _, rfl, ?_⟩
  rw [decide_eq_true (show (i : Int) < (k : Int) by omega)]
  refine iteF ⟨_, ew, onS_of (atI_nat (j := 0) rfl) ⟨_, er, onS_of (atI_nat g1) ⟨_, g2, onS_of (atI_nat (j := 0) rfl) ?_⟩⟩⟩
  dsimp only [tC, cEq, onB]
  rw [xn_f]
  refine iteF ⟨_, g2, onS_of (atI_nat (j := 1) rfl) ⟨_, _, rfl, rfl, _, rfl, ?_⟩⟩
  rw [decide_eq_true o1]
  refine iteT ⟨_, et, onS_of (atI_nat (j := 1) rfl) ⟨q1, _, rfl, .inl (SqL.of em), _, _, rfl, rfl, _, rfl, ?_⟩⟩
  rw [decide_eq_true (show m < ((mv.length : Nat) : Int) by omega)]
  refine iteF ⟨_, h2, onS_of (atI_nat (j := 0) rfl) ?_⟩
  dsimp only [tC, cEq, onB]
  cases w' with
  | true =>
    rw [wd_t]
    obtain ⟨u, mk, l, hu1, hat, hmk, hme, hab⟩ := hc
    have hjl := (List.getElem?_eq_some_iff.mp hu1).1
    obtain ⟨uvv, huv⟩ : ∃ v, uv[j]? = some v := ⟨_, List.getElem?_eq_getElem (by omega)⟩
    obtain ⟨u', hu2, hvu⟩ := ims_us iu huv
    rw [hu1] at hu2
    cases hu2
    obtain ⟨tu, su, ru, rfl, etu⟩ := us_at1 hvu
    have hml := (List.getElem?_eq_some_iff.mp hmk).1
    obtain ⟨vm, hvm⟩ : ∃ v, mv[m.toNat]? = some v := ⟨_, List.getElem?_eq_getElem (by omega)⟩
    have hmkI : Im H vm mk.d := by
      obtain ⟨d, e1, e2⟩ := ims_get im hvm
      rw [List.getElem?_map, hmk] at e1
      cases e1
      exact e2
    have ea : m = (m.toNat : Int) := by omega
    have hatm : atI mv m = some vm := by rw [ea]; exact atI_nat hvm
    refine iteT ⟨_, ew, onS_of (atI_nat (j := 1) rfl) ⟨_, _, rfl, rfl, _, rfl, ?_⟩⟩
    rw [decide_eq_true (show (0 : Int) ≤ (j : Int) by omega)]
    refine iteT ⟨_, et, onS_of (atI_nat (j := 2) rfl) ⟨q2, _, rfl, .inl (SqL.of eu), _, _, rfl, rfl, _, rfl, ?_⟩⟩
    rw [decide_eq_true (show (j : Int) < ((uv.length : Nat) : Int) by omega)]
    refine iteF ⟨_, et, onS_of (atI_nat (j := 2) rfl) ⟨_, ew, onS_of (atI_nat (j := 1) rfl) ⟨_, eu, onS_of (atI_nat huv) ⟨_, etu, onS_of (atI_nat (j := 1) rfl) ⟨_, g2, onS_of (atI_nat (j := 2) rfl) ?_⟩⟩⟩⟩⟩
    dsimp only [tC, cEq, onB]
    rw [decide_eq_true hat]
    refine iteF ⟨_, et, onS_of (atI_nat (j := 1) rfl) ⟨_, g2, onS_of (atI_nat (j := 1) rfl) ⟨_, em, onS_of hatm ⟨_, et, onS_of (atI_nat (j := 2) rfl) ⟨_, ew, onS_of (atI_nat (j := 1) rfl) ⟨_, eu, onS_of (atI_nat huv) ⟨_, _, u, mk.f, mk.a, mk.p, rfl, hmkI, hvu, mo mk (List.mem_of_getElem? hmk), uo u (List.mem_of_getElem? hu1), fun v H9 S9 hnn => ?_⟩⟩⟩⟩⟩⟩⟩
    rw [hme] at hnn
    obtain ⟨fa, fxs, rfl, efa, hfl⟩ := hnn
    dsimp only [gName]
    have h29 := S9 _ _ h2
    refine ⟨true, (by rw [decide_eq_false (fun h => nomatch h)]; rfl), iteT ⟨_, h29, onS_of (atI_nat (j := 1) rfl) ⟨_, h29, onS_of (atI_nat (j := 2) rfl) ⟨(by show 2 ≤ sizeLine; decide), fun t3 h3 => ?_⟩⟩⟩⟩
    have s3 := same_new h3 (.tup [.int a, .int b])
    refine ⟨fa, fxs, l.map flD, flD (a, b), rfl, SqL.of (s3 _ _ efa), ims_ats (hfl.mono (Same.tk s3)), im_at (pr_im upd_same), fun e he => ?_, ?_, q _ (S9.trans s3)⟩
    · obtain ⟨x, _, rfl⟩ := List.mem_map.mp he
      exact ⟨by simp [flD, cmpD, cmpDs], by simp [flD, depD, depDs]⟩
    · obtain ⟨n, hn⟩ := List.mem_iff_getElem?.mp hab
      exact ⟨n, flD (a, b), by rw [List.getElem?_map, hn]; rfl, by simp [flD, eqD, eqDs, eqV]⟩
  | false =>
    rw [wd_f]
    obtain ⟨rfl, y', hj⟩ := hc
    obtain ⟨hjk, hj⟩ := get_take hj
    obtain ⟨t2, wv2, g3, g4, _⟩ := ims_rw hR hj
    dsimp only at g4
    refine iteF ⟨_, ew, onS_of (atI_nat (j := 1) rfl) ⟨_, _, rfl, rfl, _, rfl, ?_⟩⟩
    rw [decide_eq_true (show (0 : Int) ≤ (j : Int) by omega)]
    refine iteT ⟨_, _, rfl, rfl, _, rfl, ?_⟩
    rw [decide_eq_true (show (j : Int) < (k : Int) by omega)]
    refine iteF ⟨_, ew, onS_of (atI_nat (j := 1) rfl) ⟨_, er, onS_of (atI_nat g3) ⟨_, g4, onS_of (atI_nat (j := 0) rfl) ?_⟩⟩⟩
    dsimp only [tC, cEq, onB]
    rw [wd_t]
    have tt : ∀ x : Int, V.bl (xor false (decide (x = x))) = V.bl true := fun x => by rw [decide_eq_true rfl]; rfl
    refine ⟨true, rfl, iteT ⟨_, g4, onS_of (atI_nat (j := 1) rfl) ⟨_, g2, onS_of (atI_nat (j := 2) rfl) ⟨true, tt p, iteT ⟨_, g4, onS_of (atI_nat (j := 2) rfl) ⟨_, h2, onS_of (atI_nat (j := 2) rfl) ⟨true, tt b, iteT ⟨_, g2, onS_of (atI_nat (j := 1) rfl) ⟨_, h2, onS_of (atI_nat (j := 1) rfl) ?_⟩⟩⟩⟩⟩⟩⟩⟩⟩
    show Q (V.bl (xor false (decide (m = m)))) H
    rw [tt m]
    exact q H (Same.refl _)
end
end K33.Internal
namespace K33.Internal
open PySem L2.Internal BO.Internal
seal L2.Internal.PE L2.Internal.PA L2.Internal.PS L2.Internal.PSs L2.Internal.PT L2.Internal.PI
noncomputable abbrev Q4 := Int × Int × Int × Int
noncomputable def Lt4 (x y : Q4) : Prop := x.1 < y.1 ∨ (x.1 = y.1 ∧ (x.2.1 < y.2.1 ∨ (x.2.1 = y.2.1 ∧ (x.2.2.1 < y.2.2.1 ∨ (x.2.2.1 = y.2.2.1 ∧ x.2.2.2 < y.2.2.2)))))
noncomputable def q4l (x : Q4) : List Int := [x.1, x.2.1, x.2.2.1, x.2.2.2]
theorem lt_q4 (x y : Q4) : HT.Internal.lexLt (q4l x) (q4l y) = true ↔ Lt4 x y := by
  obtain ⟨a, b, c, d⟩ := x
  obtain ⟨a', b', c', d'⟩ := y
  unfold q4l Lt4
  simp only [HT.Internal.lexLt]
  by_cases h1 : a = a'
  · rw [if_pos h1]
    by_cases h2 : b = b'
    · rw [if_pos h2]
      by_cases h3 : c = c'
      · rw [if_pos h3]
        by_cases h4 : d = d'
        · rw [if_pos h4]; constructor
          · intro h; cases h
          · intro h; omega
        · rw [if_neg h4, decide_eq_true_iff]; omega
      · rw [if_neg h3, decide_eq_true_iff]; omega
    · rw [if_neg h2, decide_eq_true_iff]; omega
  · rw [if_neg h1, decide_eq_true_iff]; omega
theorem Lt4.trans {x y z : Q4} (h : Lt4 x y) (g : Lt4 y z) : Lt4 x z := by unfold Lt4 at *; omega
theorem Lt4.irr {x : Q4} (h : Lt4 x x) : False := by unfold Lt4 at *; omega
noncomputable abbrev Cd := Rw × Q4
noncomputable abbrev Inc (C : List Cd) : Prop := C.Pairwise fun c d => Lt4 c.2 d.2
theorem puts_app (R l m : List Rw) : putsR R (l ++ m) = putsR (putsR R l) m := by
  unfold putsR
  rw [List.foldl_append]
theorem puts_shape : ∀ (C : List Cd) (R : List Rw), Inc C → ∃ N : List Cd, putsR R (C.map Prod.fst) = R ++ N.map Prod.fst ∧ N.Sublist C ∧ ∀ c ∈ C, c.1.k ∈ R.map Rw.k ∨ ∃ c0 ∈ N, c0.1.k = c.1.k ∧ (c0 = c ∨ Lt4 c0.2 c.2)
  | [], R, _ => ⟨[], (List.append_nil _).symm, List.Sublist.refl _, fun c h => absurd h List.not_mem_nil⟩
  | c :: C, R, hC => by
    obtain ⟨h1, h2⟩ := List.pairwise_cons.mp hC
    by_cases e : c.1.k ∈ R.map Rw.k
    · obtain ⟨N, e1, e2, e3⟩ := puts_shape C R h2
      have e0 : putR R c.1 = R := by unfold putR; rw [if_pos e]
      refine ⟨N, ?_, e2.cons _, fun d hd => ?_⟩
      · show putsR (putR R c.1) (C.map Prod.fst) = _
        rw [e0, e1]
      · rcases List.mem_cons.mp hd with z | z
        · subst z; exact .inl e
        · exact e3 d z
    · obtain ⟨N, e1, e2, e3⟩ := puts_shape C (R ++ [c.1]) h2
      have e0 : putR R c.1 = R ++ [c.1] := by unfold putR; rw [if_neg e]
      refine ⟨c :: N, ?_, e2.cons₂ _, fun d hd => ?_⟩
      · show putsR (putR R c.1) (C.map Prod.fst) = _
        rw [e0, e1, List.append_assoc]
        rfl
      · rcases List.mem_cons.mp hd with z | z
        · subst z; exact .inr ⟨d, List.mem_cons_self, rfl, .inl rfl⟩
        · rcases e3 d z with g | ⟨c0, g1, g2⟩
          · rw [List.map_append] at g
            rcases List.mem_append.mp g with g | g
            · exact .inl g
            · simp only [List.map_cons, List.map_nil, List.mem_singleton] at g
              exact .inr ⟨c, List.mem_cons_self, g.symm, .inr (h1 d z)⟩
          · exact .inr ⟨c0, List.mem_cons_of_mem _ g1, g2⟩
noncomputable def useC (us : List Us) (ms : List Mk3) (m n : Int) (j : Int) : List Cd := match us[j.toNat]?, ms[m.toNat]? with
  | some u, some mk => (match meet u mk.f with
    | none => []
    | some l => l.mapIdx fun d p => ((⟨true, p.1, p.2, some (n, j)⟩ : Rw), (n, 0, j, (d : Int))))
  | _, _ => []
noncomputable def stC (us : List Us) (ms : List Mk3) (R : List Rw) (k : Nat) (ρ : Rw) : List Cd := match ρ.w with
  | true => (dueN (herF ρ.a) R k).map fun h => ((⟨false, h.2, ρ.b, some (h.1, (k : Int))⟩ : Rw), ((k : Int), 1, h.1, 0))
  | false => (ixn (atU us) ρ.b us.length).flatMap (useC us ms ρ.a (k : Int)) ++ (dueN (gosF ρ.b) R k).map fun h => ((⟨false, ρ.a, h.2, some ((k : Int), h.1)⟩ : Rw), ((k : Int), 1, h.1, 0))
theorem map_fst_mapIdx {α : Type} (l : List α) (f : α → Rw) (g : Nat → α → Q4) : (l.mapIdx fun d p => (f p, g d p)).map Prod.fst = l.map f := by
  apply List.ext_getElem?
  intro i
  rw [List.getElem?_map, List.getElem?_mapIdx, List.getElem?_map]
  cases l[i]? <;> rfl
theorem useC_fst (us : List Us) (ms : List Mk3) (m n : Int) (R : List Rw) (j : Int) : putsR R ((useC us ms m n j).map Prod.fst) = useR us ms m n R j := by
  unfold useC useR
  cases us[j.toNat]? with
  | none => rfl
  | some u =>
    cases ms[m.toNat]? with
    | none => rfl
    | some mk =>
      dsimp only
      cases meet u mk.f with
      | none => rfl
      | some l => dsimp only; rw [map_fst_mapIdx]
theorem usesC_fst (us : List Us) (ms : List Mk3) (m n : Int) : ∀ (L : List Int) (R : List Rw), putsR R ((L.flatMap (useC us ms m n)).map Prod.fst) = usesR us ms m n R L
  | [], R => rfl
  | j :: L, R => by
    rw [List.flatMap_cons, List.map_append, puts_app, useC_fst, usesC_fst us ms m n L]
    rfl
theorem stC_fst (us : List Us) (ms : List Mk3) (R : List Rw) (k : Nat) (ρ : Rw) : putsR R ((stC us ms R k ρ).map Prod.fst) = stepR us ms R k ρ := by
  unfold stC stepR
  cases ρ.w with
  | true => dsimp only; rw [List.map_map]; rfl
  | false => dsimp only; rw [List.map_append, puts_app, usesC_fst, List.map_map]; rfl
theorem due_inc {f : Rw → Int → List (Int × Int)} (hf : ∀ (r : Rw) (n : Int), (f r n).length ≤ 1 ∧ ∀ x ∈ f r n, x.1 = n) {R : List Rw} : ∀ k : Nat, (dueN f R k).Pairwise (fun x y => x.1 < y.1) ∧ ∀ x ∈ dueN f R k, 0 ≤ x.1 ∧ x.1 < (k : Int)
  | 0 => ⟨List.Pairwise.nil, fun x h => absurd h List.not_mem_nil⟩
  | k + 1 => by
    obtain ⟨h1, h2⟩ := due_inc hf (R := R) k
    rw [dueN]
    cases e : R[k]? with
    | none =>
      rw [List.append_nil]
      exact ⟨h1, fun x hx => ⟨(h2 x hx).1, by have := (h2 x hx).2; omega⟩⟩
    | some r =>
      obtain ⟨g1, g2⟩ := hf r (k : Int)
      dsimp only
      refine ⟨List.pairwise_append.mpr ⟨h1, ?_, fun x hx y hy => ?_⟩, fun x hx => ?_⟩
      · cases hl : f r (k : Int) with
        | nil => exact List.Pairwise.nil
        | cons a t =>
          rw [hl] at g1
          cases t with
          | nil => exact List.pairwise_singleton _ _
          | cons b t => simp only [List.length_cons] at g1; omega
      · have := (h2 x hx).2
        rw [g2 y hy]
        exact this
      · rcases List.mem_append.mp hx with z | z
        · exact ⟨(h2 x z).1, by have := (h2 x z).2; omega⟩
        · rw [g2 x z]; omega
theorem her_one (p : Int) (r : Rw) (n : Int) : (herF p r n).length ≤ 1 ∧ ∀ x ∈ herF p r n, x.1 = n := by
  unfold herF
  split
  · exact ⟨Nat.le_refl _, fun x hx => by simp only [List.mem_singleton] at hx; rw [hx]⟩
  · exact ⟨Nat.zero_le _, fun x hx => absurd hx List.not_mem_nil⟩
theorem gos_one (p : Int) (r : Rw) (n : Int) : (gosF p r n).length ≤ 1 ∧ ∀ x ∈ gosF p r n, x.1 = n := by
  unfold gosF
  split
  · exact ⟨Nat.le_refl _, fun x hx => by simp only [List.mem_singleton] at hx; rw [hx]⟩
  · exact ⟨Nat.zero_le _, fun x hx => absurd hx List.not_mem_nil⟩
theorem useC_mem {us : List Us} {ms : List Mk3} {m n j : Int} {c : Cd} (h : c ∈ useC us ms m n j) : ∃ (u : Us) (mk : Mk3) (l : List (Int × Int)) (d : Nat) (p : Int × Int), us[j.toNat]? = some u ∧ ms[m.toNat]? = some mk ∧ meet u mk.f = some l ∧ l[d]? = some p ∧ c = ((⟨true, p.1, p.2, some (n, j)⟩ : Rw), (n, 0, j, (d : Int))) := by
  unfold useC at h
  cases hu : us[j.toNat]? with
  | none => rw [hu] at h; cases h
  | some u =>
    cases hm : ms[m.toNat]? with
    | none => rw [hu, hm] at h; cases h
    | some mk =>
      rw [hu, hm] at h
      dsimp only at h
      cases hl : meet u mk.f with
      | none => rw [hl] at h; cases h
      | some l =>
        rw [hl] at h
        dsimp only at h
        obtain ⟨d, hd, e⟩ := List.mem_mapIdx.mp h
        exact ⟨u, mk, l, d, l[d], rfl, rfl, hl, List.getElem?_eq_getElem hd, e.symm⟩
theorem useC_in {us : List Us} {ms : List Mk3} {m n j : Int} {u : Us} {mk : Mk3} {l : List (Int × Int)} {d : Nat} {p : Int × Int} (hu : us[j.toNat]? = some u) (hm : ms[m.toNat]? = some mk) (hl : meet u mk.f = some l) (hd : l[d]? = some p) : ((⟨true, p.1, p.2, some (n, j)⟩ : Rw), ((n, 0, j, (d : Int)) : Q4)) ∈ useC us ms m n j := by
  unfold useC
  rw [hu, hm]
  dsimp only
  rw [hl]
  dsimp only
  obtain ⟨h1, h2⟩ := List.getElem?_eq_some_iff.mp hd
  exact List.mem_mapIdx.mpr ⟨d, h1, by rw [h2]⟩
theorem useC_inc (us : List Us) (ms : List Mk3) (m n j : Int) : Inc (useC us ms m n j) := by
  unfold useC
  cases us[j.toNat]? with
  | none => exact List.Pairwise.nil
  | some u =>
    cases ms[m.toNat]? with
    | none => exact List.Pairwise.nil
    | some mk =>
      dsimp only
      cases meet u mk.f with
      | none => exact List.Pairwise.nil
      | some l =>
        dsimp only
        refine List.pairwise_iff_getElem.mpr fun a b ha hb hab => ?_
        rw [List.getElem_mapIdx, List.getElem_mapIdx]
        unfold Lt4
        dsimp only
        omega
theorem ixn_inc (A : Nat → Option Int) (p : Int) (n : Nat) : (ixn A p n).Pairwise (· < ·) := by
  unfold ixn
  refine List.pairwise_map.mpr (List.Pairwise.imp ?_ (List.Pairwise.filter _ List.pairwise_lt_range))
  intro a b h
  omega
theorem stC_inc (us : List Us) (ms : List Mk3) (R : List Rw) (k : Nat) (ρ : Rw) : Inc (stC us ms R k ρ) ∧ ∀ c ∈ stC us ms R k ρ, c.2.1 = (k : Int) := by
  unfold stC
  cases ρ.w with
  | true =>
    dsimp only
    refine ⟨List.pairwise_map.mpr (List.Pairwise.imp ?_ (due_inc (her_one ρ.a) k).1), fun c hc => ?_⟩
    · intro x y h
      unfold Lt4
      dsimp only
      omega
    · obtain ⟨h, _, rfl⟩ := List.mem_map.mp hc
      rfl
  | false =>
    dsimp only
    refine ⟨List.pairwise_append.mpr ⟨?_, ?_, ?_⟩, fun c hc => ?_⟩
    · refine List.pairwise_flatMap.mpr ⟨fun j _ => useC_inc us ms _ _ j, List.Pairwise.imp ?_ (ixn_inc (atU us) ρ.b us.length)⟩
      intro j j' hj x hx y hy
      obtain ⟨_, _, _, _, _, _, _, _, _, rfl⟩ := useC_mem hx
      obtain ⟨_, _, _, _, _, _, _, _, _, rfl⟩ := useC_mem hy
      unfold Lt4
      dsimp only
      omega
    · refine List.pairwise_map.mpr (List.Pairwise.imp ?_ (due_inc (gos_one ρ.b) k).1)
      intro x y h
      unfold Lt4
      dsimp only
      omega
    · intro x hx y hy
      obtain ⟨j, _, hx⟩ := List.mem_flatMap.mp hx
      obtain ⟨_, _, _, _, _, _, _, _, _, rfl⟩ := useC_mem hx
      obtain ⟨h, _, rfl⟩ := List.mem_map.mp hy
      unfold Lt4
      dsimp only
      omega
    · rcases List.mem_append.mp hc with hc | hc
      · obtain ⟨j, _, hx⟩ := List.mem_flatMap.mp hc
        obtain ⟨_, _, _, _, _, _, _, _, _, rfl⟩ := useC_mem hx
        rfl
      · obtain ⟨h, _, rfl⟩ := List.mem_map.mp hc
        rfl
noncomputable def Vd (us : List Us) (ms : List Mk3) (R : List Rw) (C : List Cd) (c : Cd) : Prop := match c.1.w with
  | true => ∃ (k j d : Nat) (m p : Int) (y : Option (Int × Int)) (u : Us) (mk : Mk3) (l : List (Int × Int)), c.1.y = some ((k : Int), (j : Int)) ∧ c.2 = ((k : Int), 0, (j : Int), (d : Int)) ∧ R[k]? = some ⟨false, m, p, y⟩ ∧ us[j]? = some u ∧ ms[m.toNat]? = some mk ∧ meet u mk.f = some l ∧ l[d]? = some (c.1.a, c.1.b) ∧ ∀ (d' : Nat) (q : Int × Int), d' < d → l[d']? = some q → ((⟨true, q.1, q.2, some ((k : Int), (j : Int))⟩ : Rw), (((k : Int), 0, (j : Int), (d' : Int)) : Q4)) ∈ C
  | false => ∃ n1 n2 : Int, c.1.y = some (n1, n2) ∧ c.2 = (max n1 n2, 1, min n1 n2, 0)
theorem Vd.app {us : List Us} {ms : List Mk3} {R R' : List Rw} {C C' : List Cd} {c : Cd} (h : Vd us ms R C c) : Vd us ms (R ++ R') (C ++ C') c := by
  unfold Vd at *
  cases hw : c.1.w with
  | true =>
    rw [hw] at h
    obtain ⟨k, j, d, m, p, y, u, mk, l, h1, h2, h3, h4, h5, h6, h7, h8⟩ := h
    exact ⟨k, j, d, m, p, y, u, mk, l, h1, h2, get_app h3, h4, h5, h6, h7, fun d' q a b => List.mem_append_left _ (h8 d' q a b)⟩
  | false => rw [hw] at h; exact h
structure Sd (us : List Us) (ms : List Mk3) (R0 : List Rw) (k : Nat) (R : List Rw) (C : List Cd) : Prop where
  eq : R = putsR R0 (C.map Prod.fst)
  inc : Inc C
  lt : ∀ c ∈ C, 0 ≤ c.2.1 ∧ c.2.1 < (k : Int)
  vd : ∀ c ∈ C, Vd us ms R C c
  u : ∀ (i : Nat) (m p : Int) (y : Option (Int × Int)), i < k → R[i]? = some ⟨false, m, p, y⟩ → ∀ (j : Nat) (u : Us) (mk : Mk3) (l : List (Int × Int)), us[j]? = some u → u.at = p → ms[m.toNat]? = some mk → meet u mk.f = some l → ∀ (d : Nat) (q : Int × Int), l[d]? = some q → ∃ c ∈ C, c.1.k = (⟨true, q.1, q.2, none⟩ : Rw).k ∧ c.2 = ((i : Int), 0, (j : Int), (d : Int))
  g : ∀ (i j : Nat) (m p q : Int) (y y' : Option (Int × Int)), i < k → j < k → R[i]? = some ⟨false, m, p, y⟩ → R[j]? = some ⟨true, p, q, y'⟩ → ∃ c ∈ C, c.1.k = (⟨false, m, q, none⟩ : Rw).k ∧ c.2 = (max (i : Int) (j : Int), 1, min (i : Int) (j : Int), 0)
theorem due_in' {f : Rw → Int → List (Int × Int)} {R : List Rw} {x : Int × Int} {n : Nat} {r : Rw} (hr : R[n]? = some r) (hx : x ∈ f r n) : ∀ {k : Nat}, n < k → x ∈ dueN f R k
  | k + 1, h => by
    rw [dueN]
    by_cases e : n = k
    · subst e; rw [hr]; exact List.mem_append_right _ hx
    · exact List.mem_append_left _ (due_in' hr hx (by omega))
theorem ixn_in' {A : Nat → Option Int} {p : Int} {n j : Nat} (hj : j < n) (h : A j = some p) : (j : Int) ∈ ixn A p n := by
  unfold ixn
  exact List.mem_map.mpr ⟨j, List.mem_filter.mpr ⟨List.mem_range.mpr hj, by simp [h]⟩, rfl⟩
theorem stC_vd {us : List Us} {ms : List Mk3} {R : List Rw} {k : Nat} {ρ : Rw} (hk : R[k]? = some ρ) : ∀ c ∈ stC us ms R k ρ, Vd us ms R (stC us ms R k ρ) c := by
  obtain ⟨w, a, b, y⟩ := ρ
  intro c hc
  unfold stC at hc ⊢
  cases w with
  | true =>
    dsimp only at hc ⊢
    obtain ⟨h, hh, rfl⟩ := List.mem_map.mp hc
    have := ((due_inc (her_one a) k).2 h hh)
    exact ⟨h.1, k, rfl, by rw [Int.max_eq_right (by omega), Int.min_eq_left (by omega)]⟩
  | false =>
    dsimp only at hc ⊢
    rcases List.mem_append.mp hc with hc | hc
    · obtain ⟨j, hj, hx⟩ := List.mem_flatMap.mp hc
      obtain ⟨u, mk, l, d, p, h1, h2, h3, h4, rfl⟩ := useC_mem hx
      obtain ⟨j', rfl, _, _⟩ := ixn_mem hj
      rw [Int.toNat_natCast] at h1
      refine ⟨k, j', d, a, b, y, u, mk, l, rfl, rfl, hk, h1, h2, h3, h4, fun d' q _ hq => List.mem_append_left _ (List.mem_flatMap.mpr ⟨_, hj, useC_in (by rw [Int.toNat_natCast]; exact h1) h2 h3 hq⟩)⟩
    · obtain ⟨h, hh, rfl⟩ := List.mem_map.mp hc
      have := ((due_inc (gos_one b) k).2 h hh)
      exact ⟨k, h.1, rfl, by rw [Int.max_eq_left (by omega), Int.min_eq_right (by omega)]⟩
theorem Vd.monoC {us : List Us} {ms : List Mk3} {R R' : List Rw} {C C' : List Cd} {c : Cd} (h : Vd us ms R C c) : Vd us ms (R ++ R') (C' ++ C) c := by
  unfold Vd at *
  cases hw : c.1.w with
  | true =>
    rw [hw] at h
    obtain ⟨k, j, d, m, p, y, u, mk, l, h1, h2, h3, h4, h5, h6, h7, h8⟩ := h
    exact ⟨k, j, d, m, p, y, u, mk, l, h1, h2, get_app h3, h4, h5, h6, h7, fun d' q a b => List.mem_append_right _ (h8 d' q a b)⟩
  | false => rw [hw] at h; exact h
theorem reach_sd {us : List Us} {ms : List Mk3} {R0 R : List Rw} {k : Nat} (h : Reach us ms R0 k R) : ∃ C, Sd us ms R0 k R C := by
  induction h with
  | zero => exact ⟨[], rfl, List.Pairwise.nil, fun c h => absurd h List.not_mem_nil, fun c h => absurd h List.not_mem_nil, fun i _ _ _ h => absurd h (Nat.not_lt_zero _), fun i _ _ _ _ _ _ h => absurd h (Nat.not_lt_zero _)⟩
  | @step k R ρ hre hk ih =>
    obtain ⟨C, sd⟩ := ih
    obtain ⟨more, e⟩ := stepR_pre us ms R k ρ
    have hkl := (List.getElem?_eq_some_iff.mp hk).1
    have back : ∀ {i : Nat} {r : Rw}, i < k + 1 → (stepR us ms R k ρ)[i]? = some r → R[i]? = some r := fun {i r} hi h => by
      rw [e, List.getElem?_append_left (by omega)] at h
      exact h
    obtain ⟨si, sk⟩ := stC_inc us ms R k ρ
    refine ⟨C ++ stC us ms R k ρ, ?_, List.pairwise_append.mpr ⟨sd.inc, si, fun x hx y hy => ?_⟩, fun c hc => ?_, fun c hc => ?_, fun i m p y hi hr j u mk l hu hat hm hl d q hq => ?_, fun i j m p q y y' hi hj hr hr2 => ?_⟩
    · rw [List.map_append, puts_app, ← sd.eq, stC_fst]
    · have h1 := (sd.lt x hx).2
      have h2 := sk y hy
      unfold Lt4
      omega
    · rcases List.mem_append.mp hc with z | z
      · have := sd.lt c z
        exact ⟨this.1, by omega⟩
      · have := sk c z
        exact ⟨by omega, by omega⟩
    · rw [e]
      rcases List.mem_append.mp hc with z | z
      · exact (sd.vd c z).app
      · exact (stC_vd hk c z).monoC
    · replace hr := back hi hr
      by_cases ei : i = k
      · subst ei
        rw [hk] at hr
        cases hr
        refine ⟨((⟨true, q.1, q.2, some ((i : Int), (j : Int))⟩ : Rw), (((i : Int), 0, (j : Int), (d : Int)) : Q4)), List.mem_append_right _ ?_, ?_, ?_⟩
        · unfold stC
          dsimp only
          refine List.mem_append_left _ (List.mem_flatMap.mpr ⟨_, ixn_in' (List.getElem?_eq_some_iff.mp hu).1 ?_, useC_in (by rw [Int.toNat_natCast]; exact hu) hm hl hq⟩)
          unfold atU
          rw [hu, ← hat]
          rfl
        · rfl
        · rfl
      · obtain ⟨c, h1, h2⟩ := sd.u i m p y (by omega) hr j u mk l hu hat hm hl d q hq
        exact ⟨c, List.mem_append_left _ h1, h2⟩
    · replace hr := back hi hr
      replace hr2 := back hj hr2
      by_cases ei : i = k
      · subst ei
        rw [hk] at hr
        cases hr
        have hji : j < i := by
          rcases Nat.lt_or_ge j i with h | h
          · exact h
          · have : j = i := by omega
            subst this
            rw [hk] at hr2
            cases hr2
        refine ⟨((⟨false, m, q, some ((i : Int), (j : Int))⟩ : Rw), (((i : Int), 1, (j : Int), 0) : Q4)), List.mem_append_right _ ?_, rfl, by rw [Int.max_eq_left (by omega), Int.min_eq_right (by omega)]⟩
        unfold stC
        dsimp only
        exact List.mem_append_right _ (List.mem_map.mpr ⟨((j : Int), q), due_in' hr2 (by unfold gosF; rw [if_pos ⟨rfl, rfl⟩]; simp) hji, rfl⟩)
      · by_cases ej : j = k
        · subst ej
          rw [hk] at hr2
          cases hr2
          refine ⟨((⟨false, m, q, some ((i : Int), (j : Int))⟩ : Rw), (((j : Int), 1, (i : Int), 0) : Q4)), List.mem_append_right _ ?_, rfl, by rw [Int.max_eq_right (by omega), Int.min_eq_left (by omega)]⟩
          unfold stC
          dsimp only
          exact List.mem_map.mpr ⟨((i : Int), m), due_in' hr (by unfold herF; rw [if_pos ⟨rfl, rfl⟩]; simp) (by omega), rfl⟩
        · obtain ⟨c, h1, h2⟩ := sd.g i j m p q y y' (by omega) (by omega) hr hr2
          exact ⟨c, List.mem_append_left _ h1, h2⟩
end K33.Internal
namespace K33.Internal
open PySem L2.Internal BO.Internal
seal L2.Internal.PE L2.Internal.PA L2.Internal.PS L2.Internal.PSs L2.Internal.PT L2.Internal.PI
noncomputable def So (us : List Us) (ms : List Mk3) (R : List Rw) (ρ : Rw) (s : Q4) : Prop := match ρ.w with
  | true => ∃ (k j d : Nat) (m p : Int) (y : Option (Int × Int)) (u : Us) (mk : Mk3) (l : List (Int × Int)), ρ.y = some ((k : Int), (j : Int)) ∧ s = ((k : Int), 0, (j : Int), (d : Int)) ∧ R[k]? = some ⟨false, m, p, y⟩ ∧ us[j]? = some u ∧ ms[m.toNat]? = some mk ∧ meet u mk.f = some l ∧ l[d]? = some (ρ.a, ρ.b) ∧ ∀ d' : Nat, d' < d → l[d']? ≠ some (ρ.a, ρ.b)
  | false => ∃ n1 n2 : Int, ρ.y = some (n1, n2) ∧ s = (max n1 n2, 1, min n1 n2, 0)
noncomputable abbrev s0 : Q4 := (-1, 0, 0, 0)
structure Sm (us : List Us) (ms : List Mk3) (R : List Rw) (n0 : Nat) (S : List Q4) : Prop where
  len : S.length = R.length
  nle : n0 ≤ R.length
  old : ∀ (i : Nat) (ρ : Rw) (s : Q4), i < n0 → R[i]? = some ρ → S[i]? = some s → ρ.y = none ∧ s = s0
  new : ∀ (i : Nat) (ρ : Rw) (s : Q4), n0 ≤ i → R[i]? = some ρ → S[i]? = some s → So us ms R ρ s
  ord : ∀ (i j : Nat) (s s' : Q4), n0 ≤ i → j < i → S[i]? = some s → S[j]? = some s' → Lt4 s' s
  fst : ∀ (i : Nat) (s : Q4), n0 ≤ i → S[i]? = some s → Lt4 s0 s
  u : ∀ (i : Nat) (m p : Int) (y : Option (Int × Int)), R[i]? = some ⟨false, m, p, y⟩ → ∀ (j : Nat) (u : Us) (mk : Mk3) (l : List (Int × Int)), us[j]? = some u → u.at = p → ms[m.toNat]? = some mk → meet u mk.f = some l → ∀ (d : Nat) (q : Int × Int), l[d]? = some q → ∃ (n : Nat) (r : Rw) (s : Q4), R[n]? = some r ∧ S[n]? = some s ∧ r.k = (⟨true, q.1, q.2, none⟩ : Rw).k ∧ ¬ Lt4 ((i : Int), 0, (j : Int), (d : Int)) s
  g : ∀ (i j : Nat) (m p q : Int) (y y' : Option (Int × Int)), R[i]? = some ⟨false, m, p, y⟩ → R[j]? = some ⟨true, p, q, y'⟩ → ∃ (n : Nat) (r : Rw) (s : Q4), R[n]? = some r ∧ S[n]? = some s ∧ r.k = (⟨false, m, q, none⟩ : Rw).k ∧ ¬ Lt4 (max (i : Int) (j : Int), 1, min (i : Int) (j : Int), 0) s
theorem nodup_get {α : Type} : ∀ {l : List α} {i j : Nat} {x : α}, l.Nodup → l[i]? = some x → l[j]? = some x → i = j
  | a :: t, 0, 0, _, _, _, _ => rfl
  | a :: t, 0, j + 1, x, h, e1, e2 => by
    cases e1
    rw [List.getElem?_cons_succ] at e2
    exact absurd (List.mem_of_getElem? e2) (List.nodup_cons.mp h).1
  | a :: t, i + 1, 0, x, h, e1, e2 => by
    cases e2
    rw [List.getElem?_cons_succ] at e1
    exact absurd (List.mem_of_getElem? e1) (List.nodup_cons.mp h).1
  | a :: t, i + 1, j + 1, x, h, e1, e2 => by
    rw [List.getElem?_cons_succ] at e1 e2
    rw [nodup_get (List.nodup_cons.mp h).2 e1 e2]
theorem stamps_of {us : List Us} {ms : List Mk3} {R0 R : List Rw} (h : Reach us ms R0 R.length R) (hnd : (R.map Rw.k).Nodup) (h0 : ∀ r ∈ R0, r.y = none) : ∃ S, Sm us ms R R0.length S := by
  obtain ⟨C, sd⟩ := reach_sd h
  obtain ⟨N, e1, e2, e3⟩ := puts_shape C R0 sd.inc
  have eR : R = R0 ++ N.map Prod.fst := sd.eq.trans e1
  have incN : Inc N := sd.inc.sublist e2
  have zero : ∀ c ∈ C, Lt4 s0 c.2 := fun c hc => by
    have := (sd.lt c hc).1
    unfold Lt4
    dsimp only
    omega
  have nw : ∀ {i : Nat} {ρ : Rw} {s : Q4}, R0.length ≤ i → R[i]? = some ρ → (List.replicate R0.length s0 ++ N.map Prod.snd)[i]? = some s → N[i - R0.length]? = some (ρ, s) := fun {i ρ s} hi hr hs => by
    rw [eR, List.getElem?_append_right hi, List.getElem?_map] at hr
    rw [List.getElem?_append_right (by rw [List.length_replicate]; exact hi), List.length_replicate, List.getElem?_map] at hs
    cases e : N[i - R0.length]? with
    | none => rw [e] at hr; cases hr
    | some c =>
      rw [e] at hr hs
      cases hr
      cases hs
      rfl
  have nws : ∀ {i : Nat} {s : Q4}, R0.length ≤ i → (List.replicate R0.length s0 ++ N.map Prod.snd)[i]? = some s → ∃ ρ, N[i - R0.length]? = some (ρ, s) := fun {i s} hi hs => by
    rw [List.getElem?_append_right (by rw [List.length_replicate]; exact hi), List.length_replicate, List.getElem?_map] at hs
    cases e : N[i - R0.length]? with
    | none => rw [e] at hs; cases hs
    | some c => rw [e] at hs; cases hs; exact ⟨_, rfl⟩
  have olds : ∀ {i : Nat} {s : Q4}, i < R0.length → (List.replicate R0.length s0 ++ N.map Prod.snd)[i]? = some s → s = s0 := fun {i s} hi hs => by
    rw [List.getElem?_append_left (by rw [List.length_replicate]; exact hi), List.getElem?_replicate, if_pos hi] at hs
    exact (Option.some.inj hs).symm
  have at0 : ∀ {i : Nat}, i < R0.length → (List.replicate R0.length s0 ++ N.map Prod.snd)[i]? = some s0 := fun {i} hi => by
    rw [List.getElem?_append_left (by rw [List.length_replicate]; exact hi), List.getElem?_replicate, if_pos hi]
  have atN : ∀ {i : Nat} {c : Cd}, N[i]? = some c → R[R0.length + i]? = some c.1 ∧ (List.replicate R0.length s0 ++ N.map Prod.snd)[R0.length + i]? = some c.2 := fun {i c} hc => by
    constructor
    · rw [eR, List.getElem?_append_right (Nat.le_add_right _ _), Nat.add_sub_cancel_left, List.getElem?_map, hc]; rfl
    · rw [List.getElem?_append_right (by rw [List.length_replicate]; exact Nat.le_add_right _ _), List.length_replicate, Nat.add_sub_cancel_left, List.getElem?_map, hc]; rfl
  have same : ∀ {c c' : Cd}, c ∈ N → c' ∈ N → c.1.k = c'.1.k → c = c' := fun {c c'} hc hc' hk => by
    obtain ⟨i, hi⟩ := List.mem_iff_getElem?.mp hc
    obtain ⟨j, hj⟩ := List.mem_iff_getElem?.mp hc'
    have h1 : (R.map Rw.k)[R0.length + i]? = some c.1.k := by rw [List.getElem?_map, (atN hi).1]; rfl
    have h2 : (R.map Rw.k)[R0.length + j]? = some c.1.k := by rw [List.getElem?_map, (atN hj).1, hk]; rfl
    have := nodup_get hnd h1 h2
    have : i = j := by omega
    subst this
    rw [hi] at hj
    exact Option.some.inj hj
  have notOld : ∀ {c : Cd}, c ∈ N → c.1.k ∉ R0.map Rw.k := fun {c} hc hk => by
    obtain ⟨i, hi⟩ := List.mem_iff_getElem?.mp hc
    obtain ⟨j, hj⟩ := List.mem_iff_getElem?.mp hk
    have h1 : (R.map Rw.k)[R0.length + i]? = some c.1.k := by rw [List.getElem?_map, (atN hi).1]; rfl
    have hjl := (List.getElem?_eq_some_iff.mp hj).1
    rw [List.length_map] at hjl
    have h2 : (R.map Rw.k)[j]? = some c.1.k := by rw [eR, List.map_append, List.getElem?_append_left (by rw [List.length_map]; exact hjl)]; exact hj
    have := nodup_get hnd h1 h2
    omega
  have found : ∀ {c : Cd}, c ∈ C → ∃ (n : Nat) (r : Rw) (s : Q4), R[n]? = some r ∧ (List.replicate R0.length s0 ++ N.map Prod.snd)[n]? = some s ∧ r.k = c.1.k ∧ ¬ Lt4 c.2 s := fun {c} hc => by
    rcases e3 c hc with hk | ⟨c0, h1, h2, h3⟩
    · obtain ⟨r, hr, hk⟩ := List.mem_map.mp hk
      obtain ⟨n, hn⟩ := List.mem_iff_getElem?.mp hr
      have hl := (List.getElem?_eq_some_iff.mp hn).1
      exact ⟨n, r, s0, by rw [eR, List.getElem?_append_left hl]; exact hn, at0 hl, hk, fun z => Lt4.irr (z.trans (zero c hc))⟩
    · obtain ⟨i, hi⟩ := List.mem_iff_getElem?.mp h1
      refine ⟨_, _, _, (atN hi).1, (atN hi).2, h2, fun z => ?_⟩
      rcases h3 with h3 | h3
      · rw [h3] at z; exact Lt4.irr z
      · exact Lt4.irr (z.trans h3)
  refine ⟨List.replicate R0.length s0 ++ N.map Prod.snd, by rw [eR, List.length_append, List.length_append, List.length_replicate, List.length_map, List.length_map], by rw [eR, List.length_append]; omega, fun i ρ s hi hr hs => ?_, fun i ρ s hi hr hs => ?_, fun i j s s' hi hj hs hs' => ?_, fun i s hi hs => ?_, fun i m p y hr j u mk l hu hat hm hl d q hq => ?_, fun i j m p q y y' hr hr2 => ?_⟩
  · rw [eR, List.getElem?_append_left hi] at hr
    exact ⟨h0 ρ (List.mem_of_getElem? hr), olds hi hs⟩
  · have hN := List.mem_of_getElem? (nw hi hr hs)
    have hv := sd.vd _ (e2.subset hN)
    unfold Vd at hv
    unfold So
    dsimp only at hv
    cases hw : ρ.w with
    | false => rw [hw] at hv; exact hv
    | true =>
      rw [hw] at hv
      obtain ⟨k, j, d, m, p, y, u, mk, l, g1, g2, g3, g4, g5, g6, g7, g8⟩ := hv
      refine ⟨k, j, d, m, p, y, u, mk, l, g1, g2, g3, g4, g5, g6, g7, fun d' hd' hl' => ?_⟩
      have hc := g8 d' _ hd' hl'
      have hkk : (⟨true, ρ.a, ρ.b, some ((k : Int), (j : Int))⟩ : Rw).k = ρ.k := by unfold Rw.k; rw [hw]
      rcases e3 _ hc with z | ⟨c0, z1, z2, z3⟩
      · exact notOld hN (by dsimp only at z ⊢; rw [← hkk]; exact z)
      · have := same z1 hN (z2.trans hkk)
        subst this
        dsimp only at z3
        rcases z3 with z3 | z3
        · have : s = ((k : Int), 0, (j : Int), (d' : Int)) := congrArg Prod.snd z3
          rw [g2] at this
          injection this with _ this
          injection this with _ this
          injection this with _ this
          omega
        · rw [g2] at z3
          unfold Lt4 at z3
          dsimp only at z3
          omega
  · obtain ⟨ρ, h1⟩ := nws hi hs
    by_cases hj0 : j < R0.length
    · rw [olds hj0 hs']
      exact zero _ (e2.subset (List.mem_of_getElem? h1))
    · obtain ⟨ρ', h2⟩ := nws (by omega) hs'
      obtain ⟨b1, b2⟩ := List.getElem?_eq_some_iff.mp h1
      obtain ⟨b3, b4⟩ := List.getElem?_eq_some_iff.mp h2
      have := List.pairwise_iff_getElem.mp incN _ _ b3 b1 (by omega)
      rw [b2, b4] at this
      exact this
  · obtain ⟨ρ, h1⟩ := nws hi hs
    exact zero _ (e2.subset (List.mem_of_getElem? h1))
  · obtain ⟨c, hc, k1, k2⟩ := sd.u i m p y (List.getElem?_eq_some_iff.mp hr).1 hr j u mk l hu hat hm hl d q hq
    obtain ⟨n, r, s, f1, f2, f3, f4⟩ := found hc
    exact ⟨n, r, s, f1, f2, f3.trans k1, by rw [← k2]; exact f4⟩
  · obtain ⟨c, hc, k1, k2⟩ := sd.g i j m p q y y' (List.getElem?_eq_some_iff.mp hr).1 (List.getElem?_eq_some_iff.mp hr2).1 hr hr2
    obtain ⟨n, r, s, f1, f2, f3, f4⟩ := found hc
    exact ⟨n, r, s, f1, f2, f3.trans k1, by rw [← k2]; exact f4⟩
theorem fst_y {fs : List (Int × Int)} {ms : List Mk3} : ∀ r ∈ fstR fs ms, r.y = none := fun r h => by
  unfold fstR at h
  rcases putsR_mem h with h | h
  · rcases putsR_mem h with h | h
    · cases h
    · obtain ⟨p, _, rfl⟩ := List.mem_map.mp h
      rfl
  · have : ∀ n : Nat, ∀ r ∈ heR ms n, r.y = none := fun n => by
      induction n with
      | zero => intro r h; cases h
      | succ n ih =>
        intro r h
        rw [heR] at h
        rcases List.mem_append.mp h with h | h
        · exact ih r h
        · cases e : ms[n]? with
          | none => rw [e] at h; cases h
          | some mk =>
            rw [e] at h
            simp only [List.mem_singleton] at h
            rw [h]
    exact this _ r h
end K33.Internal
namespace K33.Internal
open PySem L2.Internal BO.Internal
seal L2.Internal.PE L2.Internal.PA L2.Internal.PS L2.Internal.PSs L2.Internal.PT L2.Internal.PI
section
variable {P : Program} {w : World} {K : PySem.W.Frag} {mg : Str → Option Value} {base : Heap}
noncomputable def StO (us : List Us) (ms : List Mk3) (R : List Rw) (ρ : Rw) (s : Q4) : Prop := (ρ.y = none ∧ s = s0) ∨ So us ms R ρ s
noncomputable def q4v (s : Q4) : List V := [.int s.1, .int s.2.1, .int s.2.2.1, .int s.2.2.2]
noncomputable def sp__law_stamp : Sp := fun vs H Q _ => ∃ (th q0 q1 q2 q3 r t : Addr) (pts : List Int) (ms : List Mk3) (us : List Us) (fs : List (Int × Int)) (rv : List V) (R : List Rw) (N : Int) (ρ : Rw) (wv : V) (s : Q4), vs = [.ref th, .ref r, .ref t] ∧ Th H th q0 q1 q2 q3 pts ms us fs ∧ H r = some (.lst rv) ∧ Ims H rv (R.map Rw.d) ∧ H t = some (.tup [.str (wd ρ.w), .int ρ.a, .int ρ.b, wv]) ∧ Im H wv (whyD ρ.y) ∧ StO us ms R ρ s ∧ (∀ r ∈ R, r.ok N ms.length) ∧ (∀ m ∈ ms, m.f.ok) ∧ (∀ u ∈ us, u.ok) ∧
  ∀ p H', Same H H' → H' p = some (.tup (q4v s)) → Q (.ref p) H'
theorem eq_flD (p q : Int × Int) : eqD (flD p) (flD q) = decide (p = q) := by
  obtain ⟨a, b⟩ := p
  obtain ⟨c, d⟩ := q
  simp only [flD, eqD, eqDs, eqV, Bool.and_true, Prod.mk.injEq]
  rw [Bool.eq_iff_iff]
  simp
theorem max_if (a b : Int) : (if b > a then b else a) = max a b := by omega
theorem min_if (a b : Int) : (if b < a then b else a) = min a b := by omega
theorem ok__law_stamp (T : Txt K mg) : FnOk P w K mg base CX0 5 T.a__law_stamp T.fd__law_stamp ["_law_things_here", "_law_rows", "_law_row"] sp__law_stamp := by
  have G__law_met := ok__law_met (P := P) (w := w) (base := base) T
  refine T.F__law_stamp.ok sc__law_stamp (fun vs H Q E h => ?_) (fun cdv A outer s H vs Q E hr h => ?_)
  · obtain ⟨th, q0, q1, q2, q3, r, t, pts, ms, us, fs, rv, R, N, ρ, wv, s, rfl, _⟩ := h
    rfl
  have hu := hu_of hr
  obtain ⟨th, q0, q1, q2, q3, r, t, pts, ms, us, fs, rv, R, N, ⟨w', a, b, yy⟩, wv, st, rfl, hT, er, hR, e, hw, hs, hok, mo, uo, q⟩ := h
  refine ⟨_, (pss_cons (ps_set (i := 3) sc__law_stamp.nd rfl (Or.inl rfl) (pe_ix xc_tup (cv 2) pe_int (fun _ _ => rfl)))
    (pss_cons (ps_if (pt_cmp (pc_isN (cv 3)))
      (pss_one (ps_ret (pe_tup (pa_cons (pe_un un_neg pe_int) (pa_cons pe_int (pa_cons pe_int (pa_cons pe_int pa_nil)))))))
      pss_nil)
    (pss_cons (ps_if (ptc_cmpR oc_eq (pe_ix xc_tup (cv 2) pe_int (fun _ _ => rfl)) pe_str (nomark _))
      (pss_cons (ps_set (i := 4) sc__law_stamp.nd rfl (Or.inl rfl) (pe_call G__law_met (hr.mono (by decide)) rfl T.m__law_met T.k__law_met T.b__law_met .nil pass0 (pa_cons (pe_ix xc_list (pe_ix xc_list (cv 0) pe_int (fun _ _ => rfl)) (pe_ix xc_tup (pe_ix xc_list (cv 1) (pe_ix xc_tup (cv 3) pe_int (fun _ _ => rfl)) (fun _ _ => rfl)) pe_int (fun _ _ => rfl)) (fun _ _ => rfl)) (pa_cons (pe_ix xc_list (pe_ix xc_list (cv 0) pe_int (fun _ _ => rfl)) (pe_ix xc_tup (cv 3) pe_int (fun _ _ => rfl)) (fun _ _ => rfl)) pa_nil))))
      (pss_one (ps_ret (pe_tup (pa_cons (pe_ix xc_tup (cv 3) pe_int (fun _ _ => rfl)) (pa_cons pe_int (pa_cons (pe_ix xc_tup (cv 3) pe_int (fun _ _ => rfl)) (pa_cons (pe_bm PySem.F.plainAttrs_list PySem.F.slot_list_index PySem.F.type_list_index (mt_index hr) (cv 4) (pa_cons (pe_tup (pa_cons (pe_ix xc_tup (cv 2) pe_int (fun _ _ => rfl)) (pa_cons (pe_ix xc_tup (cv 2) pe_int (fun _ _ => rfl)) pa_nil))) pa_nil)) pa_nil))))))))
      pss_nil)
    (pss_one (ps_ret (pe_tup (pa_cons (pe_callB (call_max2 rfl) rfl T.z_max bt_max (pa_cons (pe_ix xc_tup (cv 3) pe_int (fun _ _ => rfl)) (pa_cons (pe_ix xc_tup (cv 3) pe_int (fun _ _ => rfl)) pa_nil))) (pa_cons pe_int (pa_cons (pe_callB (call_min2 rfl) rfl T.z_min bt_min (pa_cons (pe_ix xc_tup (cv 3) pe_int (fun _ _ => rfl)) (pa_cons (pe_ix xc_tup (cv 3) pe_int (fun _ _ => rfl)) pa_nil))) (pa_cons pe_int pa_nil)))))))))), ?_⟩
  have sl : sizeLine = 16777216 := sizeLine_eq
  dsimp only at e hw
  refine ⟨_, e, onS_of (atI_nat (j := 3) rfl) ?_⟩
  dsimp only [gName]
  rcases hs with ⟨hy, rfl⟩ | hs
  · dsimp only at hy
    subst hy
    cases hw
    exact ⟨true, by rw [decide_eq_true rfl], iteT ⟨1, rfl, (by show 4 ≤ sizeLine; decide), fun p hp => q p _ (same_new hp _) upd_same⟩⟩
  · unfold So at hs
    dsimp only at hs
    obtain ⟨et, _, ⟨mv, em, im⟩, ⟨uv, eu, iu⟩, _⟩ := hT
    cases w' with
    | true =>
      dsimp only at hs
      obtain ⟨k, j, d, m, p, y, u, mk, l, rfl, rfl, hk, hu1, hmk, hl, hd, hno⟩ := hs
      obtain ⟨tw, xs, rfl, ew, hs⟩ := im_nil hw
      obtain rfl := ims2 hs
      refine ⟨false, by rw [decide_eq_false (fun h => nomatch h)], iteF ⟨_, e, onS_of (atI_nat (j := 0) rfl) ?_⟩⟩
      dsimp only [tC, cEq, onB]
      rw [wd_t]
      obtain ⟨t1, wv1, g1, g2, _⟩ := ims_rw hR hk
      dsimp only at g2
      obtain ⟨o1, o2, _, _⟩ := hok _ (List.mem_of_getElem? hk)
      dsimp only at o1 o2
      have lmv := im.length
      have luv := iu.length
      rw [List.length_map] at lmv luv
      have hjl := (List.getElem?_eq_some_iff.mp hu1).1
      obtain ⟨uvv, huv⟩ : ∃ v, uv[j]? = some v := ⟨_, List.getElem?_eq_getElem (by omega)⟩
      obtain ⟨u', hu2, hvu⟩ := ims_us iu huv
      rw [hu1] at hu2
      cases hu2
      have hml := (List.getElem?_eq_some_iff.mp hmk).1
      obtain ⟨vm, hvm⟩ : ∃ v, mv[m.toNat]? = some v := ⟨_, List.getElem?_eq_getElem (by omega)⟩
      have hmkI : Im H vm mk.d := by
        obtain ⟨d, e1, e2⟩ := ims_get im hvm
        rw [List.getElem?_map, hmk] at e1
        cases e1
        exact e2
      have ea : m = (m.toNat : Int) := by omega
      have hatm : atI mv m = some vm := by rw [ea]; exact atI_nat hvm
      refine iteT ⟨_, et, onS_of (atI_nat (j := 1) rfl) ⟨_, ew, onS_of (atI_nat (j := 0) rfl) ⟨_, er, onS_of (atI_nat g1) ⟨_, g2, onS_of (atI_nat (j := 1) rfl) ⟨_, em, onS_of hatm ⟨_, et, onS_of (atI_nat (j := 2) rfl) ⟨_, ew, onS_of (atI_nat (j := 1) rfl) ⟨_, eu, onS_of (atI_nat huv) ⟨_, _, u, mk.f, mk.a, mk.p, rfl, hmkI, hvu, mo mk (List.mem_of_getElem? hmk), uo u (List.mem_of_getElem? hu1), fun v H9 S9 hnn => ?_⟩⟩⟩⟩⟩⟩⟩⟩⟩
      rw [hl] at hnn
      obtain ⟨fa, fxs, rfl, efa, hfl⟩ := hnn
      dsimp only [gName]
      have e9 := S9 _ _ e
      have ew9 := S9 _ _ ew
      refine ⟨_, ew9, onS_of (atI_nat (j := 0) rfl) ⟨_, ew9, onS_of (atI_nat (j := 1) rfl) ⟨.inl ⟨rfl, _, SqL.of efa⟩, _, e9, onS_of (atI_nat (j := 1) rfl) ⟨_, e9, onS_of (atI_nat (j := 2) rfl) ⟨(by show 2 ≤ sizeLine; decide), fun t3 h3 => ?_⟩⟩⟩⟩⟩
      have s3 := same_new h3 (.tup [.int a, .int b])
      have hfl3 := hfl.mono (Same.tk s3)
      refine ⟨fa, fxs, l.map flD, .ref t3, flD (a, b), d, flD (a, b), rfl, rfl, SqL.of (s3 _ _ efa), ims_ats hfl3, im_at (pr_im upd_same), by simp [flD, nlD, nlDs], fun x hx => ?_, fun z hz => ?_, by rw [List.getElem?_map, hd]; rfl, by rw [eq_flD, decide_eq_true rfl], fun n i z x hn hz1 hz2 hx => ?_, (by show 4 ≤ sizeLine; decide), fun p hp => q p _ (S9.trans (s3.trans (same_new hp _))) upd_same⟩
      · obtain ⟨x, _, rfl⟩ := List.mem_map.mp hx
        exact ⟨by simp [flD, nlD, nlDs], by simp [flD, depD, depDs]⟩
      · obtain ⟨i, hi⟩ := List.mem_iff_getElem?.mp hz
        obtain ⟨_, t, _, e1, _⟩ := ims_fl hfl3 hi
        exact ⟨t, e1⟩
      · obtain ⟨p1, t1, f1, f2, f3⟩ := ims_fl hfl3 hz1
        obtain ⟨p2, t2, f4, f5, f6⟩ := ims_fl hfl3 hz2
        rw [f2] at f5
        cases f5
        rw [f3] at f6
        have ep : p1 = p2 := by
          obtain ⟨x1, y1⟩ := p1
          obtain ⟨x2, y2⟩ := p2
          cases f6
          rfl
        subst ep
        rw [List.getElem?_map, f4] at hx
        cases hx
        rw [eq_flD, decide_eq_false]
        intro z
        rw [z] at f1
        exact hno n hn f1
    | false =>
      dsimp only at hs
      obtain ⟨n1, n2, rfl, rfl⟩ := hs
      obtain ⟨tw, xs, rfl, ew, hs⟩ := im_nil hw
      obtain rfl := ims2 hs
      refine ⟨false, by rw [decide_eq_false (fun h => nomatch h)], iteF ⟨_, e, onS_of (atI_nat (j := 0) rfl) ?_⟩⟩
      dsimp only [tC, cEq, onB]
      rw [wd_f]
      refine iteF ⟨_, ew, onS_of (atI_nat (j := 0) rfl) ⟨_, ew, onS_of (atI_nat (j := 1) rfl) ⟨n1, n2, rfl, _, ew, onS_of (atI_nat (j := 0) rfl) ⟨_, ew, onS_of (atI_nat (j := 1) rfl) ⟨n1, n2, rfl, (by show 4 ≤ sizeLine; decide), fun p hp => q p _ (same_new hp _) ?_⟩⟩⟩⟩⟩
      rw [upd_same, max_if, min_if]
      rfl
end
end K33.Internal
namespace K33.Internal
open PySem L2.Internal BO.Internal
seal L2.Internal.PE L2.Internal.PA L2.Internal.PS L2.Internal.PSs L2.Internal.PT L2.Internal.PI
theorem if_no {c : TT} {t u : TS} {D : Ends} {σ : St} {H : Hp} (hc : ∀ Q : Bool → Hp → Prop, (∀ H', Same H H' → Q false H') → c σ H Q) (q : ∀ H', Same H H' → u D σ H') : tSeq (tIfS c t tNext) u D σ H := hc _ fun H' S => iteF (q H' S)
noncomputable def d4 (s : Q4) : Dt := .tup [.flat (.int s.1), .flat (.int s.2.1), .flat (.int s.2.2.1), .flat (.int s.2.2.2)]
theorem im_q4 {H : Hp} {p : Addr} {s : Q4} (h : H p = some (.tup (q4v s))) : Im H (.ref p) (d4 s) := .tup h (.cons (.flat rfl) (.cons (.flat rfl) (.cons (.flat rfl) (.cons (.flat rfl) .nil))))
theorem eq_d4 (s t : Q4) : eqD (d4 s) (d4 t) = decide (s = t) := by
  obtain ⟨a, b, c, d⟩ := s
  obtain ⟨a', b', c', d'⟩ := t
  simp only [d4, eqD, eqDs, eqV, Bool.and_true, Prod.mk.injEq]
  rw [Bool.eq_iff_iff]
  simp
theorem cmp_d4 (s t : Q4) : cmpD (d4 s) (d4 t) = true := by simp [d4, cmpD, cmpDs]
theorem dep_d4 (s : Q4) : depD (d4 s) ≤ 100 := by simp [d4, depD, depDs]
noncomputable def Stm (H : Hp) (d : Addr) (R : List Rw) (S : List Q4) (i : Nat) : Prop := ∃ kvs, H d = some (.dT kvs) ∧ kvs.length ≤ i ∧ ∀ (n : Nat) (r : Rw) (s : Q4), n < i → R[n]? = some r → S[n]? = some s → ∃ p, valV kvs r.k = some (.ref p) ∧ H p = some (.tup (q4v s))
theorem Stm.same {H H' : Hp} {d : Addr} {R : List Rw} {S : List Q4} {i : Nat} (h : Stm H d R S i) (s : Same H H') : Stm H' d R S i := by
  obtain ⟨kvs, e, l, h⟩ := h
  exact ⟨kvs, s _ _ e, l, fun n r st hn hr hs => let ⟨p, h1, h2⟩ := h n r st hn hr hs; ⟨p, h1, s _ _ h2⟩⟩
theorem Stm.put {H : Hp} {d p : Addr} {R : List Rw} {S : List Q4} {i : Nat} {ρ : Rw} {s : Q4} {kvs : List (List Key × V)} (e : H d = some (.dT kvs)) (l : kvs.length ≤ i) (h : ∀ (n : Nat) (r : Rw) (s : Q4), n < i → R[n]? = some r → S[n]? = some s → ∃ p, valV kvs r.k = some (.ref p) ∧ H p = some (.tup (q4v s))) (hnd : (R.map Rw.k).Nodup) (hr : R[i]? = some ρ) (hs : S[i]? = some s) (hp : H p = some (.tup (q4v s))) : Stm (upd H d (.dT (putK kvs ρ.k (.ref p)))) d R S (i + 1) := by
  refine ⟨_, upd_same, Nat.le_trans (length_putK _ _ _) (by omega), fun n r st hn hr' hs' => ?_⟩
  rw [valV_put]
  have kd : ∀ {x : Addr} {xs : List V}, H x = some (.tup xs) → (upd H d (.dT (putK kvs ρ.k (.ref p)))) x = some (.tup xs) := fun {x xs} ex => by rw [upd_ne (ne_of ex e (fun h => nomatch h))]; exact ex
  by_cases en : n = i
  · subst en
    rw [hr] at hr'
    rw [hs] at hs'
    cases hr'
    cases hs'
    rw [if_pos rfl]
    exact ⟨p, rfl, kd hp⟩
  · have : r.k ≠ ρ.k := fun z => en (nodup_get hnd (x := ρ.k) (by rw [List.getElem?_map, hr', ← z]; rfl) (by rw [List.getElem?_map, hr]; rfl))
    rw [if_neg this]
    obtain ⟨p', h1, h2⟩ := h n r st (by omega) hr' hs'
    exact ⟨p', h1, kd h2⟩
section
variable {P : Program} {w : World} {K : PySem.W.Frag} {mg : Str → Option Value} {base : Heap}
noncomputable def sp__law_stamps : Sp := fun vs H Q _ => ∃ (th q0 q1 q2 q3 r : Addr) (pts : List Int) (ms : List Mk3) (us : List Us) (fs : List (Int × Int)) (rv : List V) (R : List Rw) (N : Int) (n0 : Nat) (S : List Q4), vs = [.ref th, .ref r] ∧ Th H th q0 q1 q2 q3 pts ms us fs ∧ H r = some (.lst rv) ∧ Ims H rv (R.map Rw.d) ∧ Sm us ms R n0 S ∧ (∀ (i : Nat) (ρ : Rw), n0 ≤ i → R[i]? = some ρ → Cau us ms (R.take i) ρ) ∧ (∀ r ∈ R, r.ok N ms.length) ∧ (∀ m ∈ ms, m.f.ok) ∧ (∀ u ∈ us, u.ok) ∧ (R.map Rw.k).Nodup ∧ R.length ≤ 8192 ∧
  ∀ d H', Same H H' → H d = none → Stm H' d R S R.length → Q (.ref d) H'
theorem ok__law_stamps (T : Txt K mg) : FnOk P w K mg base CX0 10 T.a__law_stamps T.fd__law_stamps ["_law_things_here", "_law_rows"] sp__law_stamps := by
  have G__law_caused := ok__law_caused (P := P) (w := w) (base := base) T
  have G__law_stamp := ok__law_stamp (P := P) (w := w) (base := base) T
  refine T.F__law_stamps.ok sc__law_stamps (fun vs H Q E h => ?_) (fun cdv A outer s H vs Q E hr h => ?_)
  · obtain ⟨th, q0, q1, q2, q3, r, pts, ms, us, fs, rv, R, N, n0, S, rfl, _⟩ := h
    rfl
  have hu := hu_of hr
  obtain ⟨th, q0, q1, q2, q3, r, pts, ms, us, fs, rv, R, N, n0, S, rfl, hT, er, hR, sm, hca, hok, mo, uo, hnd, hRl, q⟩ := h
  refine ⟨_, (pss_cons (ps_set (i := 2) sc__law_stamps.nd rfl (Or.inl rfl) pe_dnewT)
    (pss_cons (ps_set (i := 3) sc__law_stamps.nd rfl (Or.inl rfl) (pe_tup (pa_cons (pe_un un_neg pe_int) (pa_cons pe_int (pa_cons pe_int (pa_cons pe_int pa_nil))))))
    (pss_cons (ps_for PassesOwn.never rfl (pi_enum rfl T.z_enumerate (pa_cons (cv 1) pa_nil)) (pg_tup rfl (pgs_cons (pg_name (i := 4) sc__law_stamps.nd rfl (Or.inl rfl)) (pgs_cons (pg_name (i := 5) sc__law_stamps.nd rfl (Or.inl rfl)) pgs_nil)))
      (pss_cons (ps_if (PW.pt (pw_and (pt_cmp (pc_notN (pe_ix xc_tup (cv 5) pe_int (fun _ _ => rfl)))) (pw_and1 (pt_not (pt_val (pe_call G__law_caused (hr.mono (by decide)) rfl T.m__law_caused T.k__law_caused T.b__law_caused .nil pass0 (pa_cons (cv 0) (pa_cons (cv 1) (pa_cons (cv 4) pa_nil)))))))))
        (pss_one (ps_ret pe_non))
        pss_nil)
      (pss_cons (ps_if (PW.pt (pw_and (ptc_cmpR oc_eq (pe_ix xc_tup (cv 5) pe_int (fun _ _ => rfl)) pe_str (nomark _)) (pw_and1 (pt_not (pt_chain op_le op_lt pe_int (pe_ix xc_tup (cv 5) pe_int (fun _ _ => rfl)) (pe_callB call_len_seq rfl T.z_len bt_len (pa_cons (pe_ix xc_list (cv 0) pe_int (fun _ _ => rfl)) pa_nil)))))))
        (pss_one (ps_ret pe_non))
        pss_nil)
      (pss_cons (ps_set (i := 6) sc__law_stamps.nd rfl (Or.inl rfl) (pe_call G__law_stamp (hr.mono (by decide)) rfl T.m__law_stamp T.k__law_stamp T.b__law_stamp .nil pass0 (pa_cons (cv 0) (pa_cons (cv 1) (pa_cons (cv 5) pa_nil)))))
      (pss_cons (ps_if (PW.pt (pw_or (ptc_cmpR (op_ltT hr.units0) (cv 6) (cv 3) (nomark _)) (pw_or1 (PW.pt (pw_and (ptc_cmpR (op_eqD hr) (cv 6) (cv 3) (nomark _)) (pw_and1 (pt_cmp (pc_notN (pe_ix xc_tup (cv 5) pe_int (fun _ _ => rfl))))))))))
        (pss_one (ps_ret pe_non))
        pss_nil)
      (pss_cons (ps_dput hu (cv 2) (pe_slice sl_tup (cv 5) po_none (po_some pe_int)) (cv 6) rfl)
      (pss_one (ps_set (i := 3) sc__law_stamps.nd rfl (Or.inl rfl) (cv 6)))))))))
    (pss_one (ps_ret (cv 2)))))), ?_⟩
  have sl : sizeLine = 16777216 := sizeLine_eq
  have lrv := hR.length
  rw [List.length_map] at lrv
  intro d hd
  have s1 := same_new hd (.dT [])
  have ed : (upd H d (.dT [])) d = some (.dT []) := upd_same
  dsimp only [gName]
  generalize upd H d (.dT []) = H1 at s1 ed ⊢
  refine ⟨1, rfl, (by show 4 ≤ sizeLine; decide), fun p0 hp0 => ?_⟩
  have s2 := same_new hp0 (.tup [.int (-1), .int 0, .int 0, .int 0])
  have ep : (upd H1 p0 (.tup [.int (-1), .int 0, .int 0, .int 0])) p0 = some (.tup (q4v s0)) := upd_same
  have ed2 := s2 _ _ ed
  have S2 := s1.trans s2
  dsimp only [gName]
  generalize upd H1 p0 (.tup [.int (-1), .int 0, .int 0, .int 0]) = H2 at S2 ep ed2 ⊢
  refine ⟨r, rfl, ⟨_, SqL.of (S2 _ _ er)⟩, for_enum (xs := rv) (fun i σ H5 => ∃ (o4 o5 o6 : Option V) (L : Q4) (pl : Addr), σ = [some (.ref th), some (.ref r), some (.ref d), some (.ref pl), o4, o5, o6] ∧ Same H H5 ∧ Stm H5 d R S i ∧ H5 pl = some (.tup (q4v L)) ∧ ((i = 0 ∧ L = s0) ∨ (0 < i ∧ S[i - 1]? = some L)))
    ⟨none, none, none, s0, p0, rfl, S2, ⟨[], ed2, Nat.zero_le _, fun n _ _ h => absurd h (Nat.not_lt_zero _)⟩, ep, .inl ⟨rfl, rfl⟩⟩ (fun i σ H5 _ ⟨_, _, _, _, _, _, S5, _⟩ => SqL.of (S5 _ _ er)) ?_ ?_⟩
  · rintro i v σ H5 tt hv ⟨o4, o5, o6, L, pl, rfl, S5, hst, epl, hL⟩ htt
    have hi := (List.getElem?_eq_some_iff.mp hv).1
    obtain ⟨ρ, hρ⟩ : ∃ ρ, R[i]? = some ρ := ⟨_, List.getElem?_eq_getElem (by omega)⟩
    obtain ⟨st, hs⟩ : ∃ st, S[i]? = some st := ⟨_, List.getElem?_eq_getElem (by rw [sm.len]; omega)⟩
    obtain ⟨t, wv, h1, e0, hw0⟩ := ims_rw hR hρ
    rw [hv] at h1
    cases h1
    have sT := same_new htt (.tup [.int (i : Int), .ref t])
    refine ⟨tt, _, rfl, SqT.of upd_same, rfl, _, _, rfl, _, _, rfl, rfl, ?_⟩
    have S6 := S5.trans sT
    have hst6 := hst.same sT
    have epl6 := sT _ _ epl
    generalize upd H5 tt (.tup [.int (i : Int), .ref t]) = H6 at S6 hst6 epl6 ⊢
    have hStO : StO us ms R ρ st := by
      by_cases hn : i < n0
      · exact .inl (sm.old i ρ st hn hρ hs)
      · exact .inr (sm.new i ρ st (by omega) hρ hs)
    have hy : ρ.y = none → st = L := fun hy => by
      have hn : i < n0 := by
        rcases Nat.lt_or_ge i n0 with z | z
        · exact z
        · obtain ⟨_, _, _, _, _, _, _, z, _⟩ := hca i ρ z hρ
          rw [hy] at z
          cases z
      rw [(sm.old i ρ st hn hρ hs).2]
      rcases hL with ⟨_, h⟩ | ⟨h1, h2⟩
      · exact h.symm
      · obtain ⟨r', hr'⟩ : ∃ r', R[i - 1]? = some r' := ⟨_, List.getElem?_eq_getElem (by omega)⟩
        exact (sm.old (i - 1) r' L (by omega) hr' h2).2.symm
    have hyn : ρ.y ≠ none → n0 ≤ i := fun hy => by
      rcases Nat.lt_or_ge i n0 with z | z
      · exact absurd (sm.old i ρ st z hρ hs).1 hy
      · exact z
    have hlt : ρ.y ≠ none → Lt4 L st := fun hy => by
      have hn := hyn hy
      rcases hL with ⟨_, h⟩ | ⟨h1, h2⟩
      · rw [h]; exact sm.fst i st hn hs
      · exact sm.ord i (i - 1) st L hn (by omega) hs h2
    refine if_no (fun Q hq => ?_) (fun H7 s7 => ?_)
    · have e6 := S6 _ _ e0
      have hw6 := hw0.mono (Same.tk S6)
      refine ⟨_, e6, onS_of (atI_nat (j := 3) rfl) ?_⟩
      cases hyy : ρ.y with
      | none =>
        rw [hyy] at hw6
        cases hw6
        exact ⟨false, by rw [decide_eq_true rfl]; rfl, iteF (hq _ (Same.refl _))⟩
      | some y =>
        rw [hyy] at hw6
        obtain ⟨tw, xs, rfl, ew, _⟩ := im_nil hw6
        exact ⟨true, by rw [decide_eq_false (fun h => nomatch h)]; rfl, iteT ⟨th, q0, q1, q2, q3, r, pts, ms, us, fs, rv, R, N, i, ρ, rfl, hT.same S6, S6 _ _ er, hR.mono (Same.tk S6), hρ, hca i ρ (hyn (by rw [hyy]; exact fun h => nomatch h)) hρ, hok, mo, uo, fun H' S' => ⟨_, rfl, hq H' S'⟩⟩⟩
    have S7 := S6.trans s7
    have hst7 := hst6.same s7
    have epl7 := s7 _ _ epl6
    refine if_no (fun Q hq => ?_) (fun H8 s8 => ?_)
    · have e7 := S7 _ _ e0
      refine ⟨_, e7, onS_of (atI_nat (j := 0) rfl) ?_⟩
      dsimp only [tC, cEq, onB]
      cases hww : ρ.w with
      | true =>
        rw [show (xor false (decide (wd true = ("here" : Str)))) = false by decide +kernel]
        exact iteF (hq _ (Same.refl _))
      | false =>
        rw [show (xor false (decide (wd false = ("here" : Str)))) = true by decide +kernel]
        have o := hok ρ (List.mem_of_getElem? hρ)
        unfold Rw.ok at o
        rw [hww] at o
        obtain ⟨o1, o2, _, _⟩ := o
        dsimp only at o2
        obtain ⟨et, _, ⟨mv, em, im⟩, _, _⟩ := hT.same S7
        have lmv := im.length
        rw [List.length_map] at lmv
        refine iteT ⟨_, e7, onS_of (atI_nat (j := 1) rfl) ⟨_, _, rfl, rfl, _, rfl, ?_⟩⟩
        rw [decide_eq_true o1]
        refine iteT ⟨_, et, onS_of (atI_nat (j := 1) rfl) ⟨q1, _, rfl, .inl (SqL.of em), _, _, rfl, rfl, _, rfl, ?_⟩⟩
        rw [decide_eq_true (show ρ.a < ((mv.length : Nat) : Int) by omega)]
        exact hq _ (Same.refl _)
    have S8 := S7.trans s8
    have hst8 := hst7.same s8
    have epl8 := s8 _ _ epl7
    refine ⟨th, q0, q1, q2, q3, r, t, pts, ms, us, fs, rv, R, N, ρ, wv, st, rfl, hT.same S8, S8 _ _ er, hR.mono (Same.tk S8), S8 _ _ e0, hw0.mono (Same.tk S8), hStO, hok, mo, uo, fun p H9 s9 ep9 => ?_⟩
    have S9 := S8.trans s9
    have hst9 := hst8.same s9
    have epl9 := s9 _ _ epl8
    dsimp only [gName]
    refine if_no (fun Q hq => ?_) (fun H10 s10 => ?_)
    · refine ⟨p, pl, q4l st, q4l L, rfl, rfl, SqT.of ep9, SqT.of epl9, ?_⟩
      have hnl : HT.Internal.lexLt (q4l st) (q4l L) = false := by
        cases z : HT.Internal.lexLt (q4l st) (q4l L) with
        | false => rfl
        | true =>
          have z' := (lt_q4 st L).mp z
          by_cases hyy : ρ.y = none
          · rw [hy hyy] at z'; exact absurd z' Lt4.irr
          · exact absurd (z'.trans (hlt hyy)) Lt4.irr
      dsimp only [onB]
      rw [hnl]
      refine iteF ⟨p, pl, d4 st, d4 L, rfl, rfl, im_at (im_q4 ep9), im_at (im_q4 epl9), cmp_d4 _ _, dep_d4 _, ?_⟩
      dsimp only [onB]
      rw [show (if false = true then !eqD (d4 st) (d4 L) else eqD (d4 st) (d4 L)) = decide (st = L) from eq_d4 st L]
      have e9 := S9 _ _ e0
      have hw9 := hw0.mono (Same.tk S9)
      by_cases hyy : ρ.y = none
      · rw [decide_eq_true (hy hyy)]
        rw [hyy] at hw9
        cases hw9
        exact iteT ⟨_, e9, onS_of (atI_nat (j := 3) rfl) ⟨false, by rw [decide_eq_true rfl]; rfl, hq _ (Same.refl _)⟩⟩
      · rw [decide_eq_false (fun z => by have := hlt hyy; rw [z] at this; exact Lt4.irr this)]
        exact iteF (hq _ (Same.refl _))
    have S10 := S9.trans s10
    have e10 := S10 _ _ e0
    have ep10 := s10 _ _ ep9
    obtain ⟨kvs, ed10, hkl, hkv⟩ := hst9.same s10
    refine ⟨3, rfl, t, _, rfl, SqT.of e10, (by show ¬ (0 = 0 ∧ (3 : Nat) = 4); omega), fun pc hpc => ?_⟩
    have s11 := same_new hpc (.tup (ρ.k.map kV))
    have epc : (upd H10 pc (.tup (ρ.k.map kV))) pc = some (.tup (ρ.k.map kV)) := upd_same
    have hcut : cutV [V.str (wd ρ.w), V.int ρ.a, V.int ρ.b, wv] none (some 3) = ρ.k.map kV := rfl
    rw [hcut]
    have S11 := S10.trans s11
    have ed11 := s11 _ _ ed10
    have ep11 := s11 _ _ ep10
    have hkv11 : ∀ (n : Nat) (r : Rw) (s : Q4), n < i → R[n]? = some r → S[n]? = some s → ∃ p, valV kvs r.k = some (.ref p) ∧ (upd H10 pc (.tup (ρ.k.map kV))) p = some (.tup (q4v s)) := fun n r st hn hr hs => let ⟨p, h1, h2⟩ := hkv n r st hn hr hs; ⟨p, h1, s11 _ _ h2⟩
    generalize upd H10 pc (.tup (ρ.k.map kV)) = H11 at S11 epc ed11 ep11 hkv11 ⊢
    refine ⟨d, _, rfl, DPut.t (k := ρ.k) ed11 epc (by omega), ?_⟩
    refine ⟨_, _, _, st, p, rfl, same_upd S11 hd _, Stm.put ed11 hkl hkv11 hnd hρ hs ep11, ?_, .inr ⟨Nat.succ_pos _, by rw [Nat.add_sub_cancel]; exact hs⟩⟩
    rw [upd_ne (ne_of ep11 ed11 (fun h => nomatch h))]
    exact ep11
  · rintro σ H5 ⟨o4, o5, o6, L, pl, rfl, S5, hst, epl, hL⟩
    rw [lrv] at hst
    exact q d H5 S5 hd hst
end
end K33.Internal
namespace K33.Internal
open PySem L2.Internal BO.Internal
seal L2.Internal.PE L2.Internal.PA L2.Internal.PS L2.Internal.PSs L2.Internal.PT L2.Internal.PI
theorem meet_few {u : Us} {m : Mf} {l : List (Int × Int)} (h : meet u m = some l) (uo : u.ok) : l.length ≤ 10 := by
  cases u with
  | num a p s => cases m with
    | num => cases h; exact Nat.zero_le _
    | _ => cases h
  | call a p s x y => cases m with
    | fn a b => cases h; exact (by decide : 2 ≤ 10)
    | _ => cases h
  | take a p s l1 => cases m with
    | rcd m1 =>
      replace h : taken l1 m1 = some l := h
      unfold taken at h
      split at h
      · rename_i z
        cases h
        rw [z]
        exact uo
      · cases h
    | _ => cases h
  | case a p s l1 => cases m with
    | tag w x =>
      replace h : (lk l1 w).map (fun y => [(x, y)]) = some l := h
      cases e : lk l1 w with
      | none => rw [e] at h; cases h
      | some y => rw [e] at h; cases h; exact (by decide : 1 ≤ 10)
    | _ => cases h
  | row a p s y => cases m with
    | row x => cases h; exact (by decide : 1 ≤ 10)
    | _ => cases h
noncomputable def Gd (G : List Key → Q4 → Prop) (H : Hp) (sd : Addr) (sv : List V) : Prop := ∀ x ∈ sv, ∃ (a tt ts : Addr) (k : List Key) (s : Q4), x = .ref a ∧ a ≠ sd ∧ H a = some (.lst [.ref tt, .ref ts]) ∧ H tt = some (.tup (k.map kV)) ∧ H ts = some (.tup (q4v s)) ∧ G k s
theorem Gd.same {G : List Key → Q4 → Prop} {H H' : Hp} {sd : Addr} {sv : List V} (h : Gd G H sd sv) (s : Same H H') : Gd G H' sd sv := fun x hx => by
  obtain ⟨a, tt, ts, k, st, h1, h2, h3, h4, h5, h6⟩ := h x hx
  exact ⟨a, tt, ts, k, st, h1, h2, s _ _ h3, s _ _ h4, s _ _ h5, h6⟩
theorem Gd.put {G : List Key → Q4 → Prop} {H : Hp} {sd : Addr} {sv : List V} (h : Gd G H sd sv) {t1 t2 a : Addr} {k : List Key} {s : Q4} {o : HO} (hg : G k s) (esd : H sd = some (.lst sv)) (h1 : H t1 = none) (h2 : (upd H t1 (.tup (k.map kV))) t2 = none) (ha : (upd (upd H t1 (.tup (k.map kV))) t2 (.tup (q4v s))) a = none) :
    Gd G (upd (upd (upd (upd H t1 (.tup (k.map kV))) t2 (.tup (q4v s))) a (.lst [.ref t1, .ref t2])) sd (.lst (sv ++ [.ref a]))) sd (sv ++ [.ref a]) := by
  have s1 := same_new h1 (.tup (k.map kV))
  have s2 := same_new h2 (.tup (q4v s))
  have s3 := same_new ha (.lst [.ref t1, .ref t2])
  have S := (s1.trans s2).trans s3
  have esd3 := S _ _ esd
  have nsa : a ≠ sd := fun z => by rw [z, s2 _ _ (s1 _ _ esd)] at ha; cases ha
  have kt : ∀ {x : Addr} {xs : List V}, (upd (upd (upd H t1 (.tup (k.map kV))) t2 (.tup (q4v s))) a (.lst [.ref t1, .ref t2])) x = some (.tup xs) → (upd (upd (upd (upd H t1 (.tup (k.map kV))) t2 (.tup (q4v s))) a (.lst [.ref t1, .ref t2])) sd (.lst (sv ++ [.ref a]))) x = some (.tup xs) := fun {x xs} e => by rw [upd_ne (ne_of e esd3 (fun h => nomatch h))]; exact e
  intro x hx
  rcases List.mem_append.mp hx with hx | hx
  · obtain ⟨b, tt, ts, k', st, e1, e2, e3, e4, e5, e6⟩ := h.same S x hx
    exact ⟨b, tt, ts, k', st, e1, e2, by rw [upd_ne e2]; exact e3, kt e4, kt e5, e6⟩
  · simp only [List.mem_singleton] at hx
    exact ⟨a, t1, t2, k, s, hx, nsa, by rw [upd_ne nsa]; exact upd_same, kt (s3 _ _ (s2 _ _ upd_same)), kt (s3 _ _ upd_same), hg⟩
theorem Gd.ne {G : List Key → Q4 → Prop} {H : Hp} {sd fa t : Addr} {sv fxs xs : List V} {i : Nat} (h : Gd G H sd sv) (esd : H sd = some (.lst sv)) (efa : H fa = some (.lst fxs)) (hv : fxs[i]? = some (.ref t)) (et : H t = some (.tup xs)) : fa ≠ sd := fun z => by
  subst z
  rw [efa] at esd
  cases esd
  obtain ⟨a, _, _, _, _, e1, _, e3, _⟩ := h _ (List.mem_of_getElem? hv)
  cases e1
  rw [et] at e3
  cases e3
section
variable {P : Program} {w : World} {K : PySem.W.Frag} {mg : Str → Option Value} {base : Heap}
noncomputable def sp__law_steps : Sp := fun vs H Q _ => ∃ (th q0 q1 q2 q3 ld t : Addr) (pts : List Int) (ms : List Mk3) (us : List Us) (fs : List (Int × Int)) (L : List Addr) (f : Int → List V) (kk i : Nat) (G : List Key → Q4 → Prop) (Lp : List (Int × Int)) (m p : Int) (wv : V), vs = [.ref th, .ref ld, .int (i : Int), .ref t] ∧ Th H th q0 q1 q2 q3 pts ms us fs ∧ DL H ld L f kk ∧ Ims H (f p) (Lp.map flD) ∧ Lp.length ≤ 8192 ∧ H t = some (.tup [.str (wd false), .int m, .int p, wv]) ∧ 0 ≤ m ∧ m < (ms.length : Int) ∧ (∀ m ∈ ms, m.f.ok) ∧ (∀ u ∈ us, u.ok) ∧ us.length ≤ 64 ∧
  (∀ (j : Nat) (u : Us) (mk : Mk3) (l : List (Int × Int)), us[j]? = some u → u.at = p → ms[m.toNat]? = some mk → meet u mk.f = some l → ∀ (d : Nat) (q : Int × Int), l[d]? = some q → G (⟨true, q.1, q.2, none⟩ : Rw).k ((i : Int), 0, (j : Int), (d : Int))) ∧ (∀ x ∈ Lp, G (⟨false, m, x.2, none⟩ : Rw).k (max (i : Int) x.1, 1, min (i : Int) x.1, 0)) ∧
  ∀ sd sv H', Same H H' → H' sd = some (.lst sv) → Gd G H' sd sv → Q (.ref sd) H'
theorem ok__law_steps (T : Txt K mg) : FnOk P w K mg base CX0 5 T.a__law_steps T.fd__law_steps ["_law_things_here", "_law_leaving", "_law_number", "_law_row"] sp__law_steps := by
  have G__law_met := ok__law_met (P := P) (w := w) (base := base) T
  refine T.F__law_steps.ok sc__law_steps (fun vs H Q E h => ?_) (fun cdv A outer s H vs Q E hr h => ?_)
  · obtain ⟨th, q0, q1, q2, q3, ld, t, pts, ms, us, fs, L, f, kk, i, G, Lp, m, p, wv, rfl, _⟩ := h
    rfl
  have hu := hu_of hr
  obtain ⟨th, q0, q1, q2, q3, ld, t, pts, ms, us, fs, L, f, kk, i, G, Lp, m, p, wv, rfl, hT, W, hfp, lLp, e, m0, m1, mo, uo, lus, hG, hg, q⟩ := h
  refine ⟨_, (pss_cons (ps_set (i := 4) sc__law_steps.nd rfl (Or.inl rfl) (pe_lst pa_nil))
    (pss_cons (ps_for PassesOwn.never rfl (pi_enum rfl T.z_enumerate (pa_cons (pe_ix xc_list (cv 0) pe_int (fun _ _ => rfl)) pa_nil)) (pg_tup rfl (pgs_cons (pg_name (i := 5) sc__law_steps.nd rfl (Or.inl rfl)) (pgs_cons (pg_name (i := 6) sc__law_steps.nd rfl (Or.inl rfl)) pgs_nil)))
      (pss_one (ps_if (ptc_cmpR oc_eq (pe_ix xc_tup (cv 6) pe_int (fun _ _ => rfl)) (pe_ix xc_tup (cv 3) pe_int (fun _ _ => rfl)) (nomark _))
        (pss_cons (ps_set (i := 7) sc__law_steps.nd rfl (Or.inl rfl) (pe_call G__law_met (hr.mono (by decide)) rfl T.m__law_met T.k__law_met T.b__law_met .nil pass0 (pa_cons (pe_ix xc_list (pe_ix xc_list (cv 0) pe_int (fun _ _ => rfl)) (pe_ix xc_tup (cv 3) pe_int (fun _ _ => rfl)) (fun _ _ => rfl)) (pa_cons (cv 6) pa_nil))))
        (pss_one (ps_if (pt_cmp (pc_notN (cv 7)))
          (pss_one (ps_for PassesOwn.never rfl (pi_enum rfl T.z_enumerate (pa_cons (cv 7) pa_nil)) (pg_tup rfl (pgs_cons (pg_name (i := 8) sc__law_steps.nd rfl (Or.inl rfl)) (pgs_cons (pg_name (i := 9) sc__law_steps.nd rfl (Or.inl rfl)) pgs_nil)))
            (pss_one (ps_expr (pec_app (pe_bm PySem.F.plainAttrs_list PySem.F.slot_list_append PySem.F.type_list_append mt_append (PE.mono (cv 4)) (pa_cons (PE.mono (pe_lst (pa_cons (pe_tup (pa_cons pe_str (pa_cons (pe_ix xc_tup (cv 9) pe_int (fun _ _ => rfl)) (pa_cons (pe_ix xc_tup (cv 9) pe_int (fun _ _ => rfl)) pa_nil)))) (pa_cons (pe_tup (pa_cons (cv 2) (pa_cons pe_int (pa_cons (cv 5) (pa_cons (cv 8) pa_nil))))) pa_nil)))) pa_nil)))))))
          pss_nil)))
        pss_nil)))
    (pss_cons (ps_for PassesOwn.never rfl (pi_list (pe_dget2 hu (cv 1) (pe_ix xc_tup (cv 3) pe_int (fun _ _ => rfl)) (pe_lst pa_nil) ⟨rfl, rfl, rfl, rfl⟩)) (pg_tup rfl (pgs_cons (pg_name (i := 10) sc__law_steps.nd rfl (Or.inl rfl)) (pgs_cons (pg_name (i := 11) sc__law_steps.nd rfl (Or.inl rfl)) pgs_nil)))
      (pss_one (ps_expr (pec_app (pe_bm PySem.F.plainAttrs_list PySem.F.slot_list_append PySem.F.type_list_append mt_append (PE.mono (cv 4)) (pa_cons (PE.mono (pe_lst (pa_cons (pe_tup (pa_cons pe_str (pa_cons (pe_ix xc_tup (cv 3) pe_int (fun _ _ => rfl)) (pa_cons (cv 11) pa_nil)))) (pa_cons (pe_tup (pa_cons (pe_callB (call_max2 rfl) rfl T.z_max bt_max (pa_cons (cv 2) (pa_cons (cv 10) pa_nil))) (pa_cons pe_int (pa_cons (pe_callB (call_min2 rfl) rfl T.z_min bt_min (pa_cons (cv 2) (pa_cons (cv 10) pa_nil))) (pa_cons pe_int pa_nil))))) pa_nil)))) pa_nil))))))
    (pss_one (ps_ret (cv 4)))))), ?_⟩
  have sl : sizeLine = 16777216 := sizeLine_eq
  obtain ⟨et, _, ⟨mv, em, im⟩, ⟨uv, eu, iu⟩, _⟩ := hT
  have lmv := im.length
  have luv := iu.length
  have lfp := hfp.length
  rw [List.length_map] at lmv luv lfp
  obtain ⟨mk, hmk⟩ : ∃ mk, ms[m.toNat]? = some mk := ⟨_, List.getElem?_eq_getElem (by omega)⟩
  obtain ⟨vm, hvm⟩ : ∃ v, mv[m.toNat]? = some v := ⟨_, List.getElem?_eq_getElem (by omega)⟩
  have hmkI : Im H vm mk.d := by
    obtain ⟨d, e1, e2⟩ := ims_get im hvm
    rw [List.getElem?_map, hmk] at e1
    cases e1
    exact e2
  have ea : m = (m.toNat : Int) := by omega
  have hatm : atI mv m = some vm := by rw [ea]; exact atI_nat hvm
  refine ⟨(by show 0 ≤ sizeLine; decide), fun sd hsd => ?_⟩
  have s1 := same_new hsd (.lst [])
  have es1 : (upd H sd (.lst [])) sd = some (.lst []) := upd_same
  dsimp only [gName]
  generalize upd H sd (.lst []) = H1 at s1 es1 ⊢
  refine ⟨_, s1 _ _ et, onS_of (atI_nat (j := 2) rfl) ⟨q2, rfl, ⟨_, SqL.of (s1 _ _ eu)⟩, for_enum (xs := uv) (fun j σ H5 => ∃ (o5 o6 o7 o8 o9 : Option V) (sv : List V), σ = [some (.ref th), some (.ref ld), some (.int (i : Int)), some (.ref t), some (.ref sd), o5, o6, o7, o8, o9, none, none] ∧ Same H H5 ∧ H5 sd = some (.lst sv) ∧ sv.length ≤ 10 * j ∧ Gd G H5 sd sv)
    ⟨none, none, none, none, none, [], rfl, s1, es1, Nat.zero_le _, fun x h => absurd h List.not_mem_nil⟩ (fun j σ H5 _ ⟨_, _, _, _, _, _, _, S5, _⟩ => SqL.of (S5 _ _ eu)) ?_ ?_⟩⟩
  · rintro j v σ H5 tt hv ⟨o5, o6, o7, o8, o9, sv, rfl, S5, es5, lsv, gd⟩ htt
    have hj := (List.getElem?_eq_some_iff.mp hv).1
    obtain ⟨u, hu1, hvu0⟩ := ims_us iu hv
    have sT := same_new htt (.tup [.int (j : Int), v])
    refine ⟨tt, _, rfl, SqT.of upd_same, rfl, _, _, rfl, _, _, rfl, rfl, ?_⟩
    have S6 := S5.trans sT
    have es6 := sT _ _ es5
    have gd6 := gd.same sT
    generalize upd H5 tt (.tup [.int (j : Int), v]) = H6 at S6 es6 gd6 ⊢
    have hvu := hvu0.mono (Same.tk S6)
    obtain ⟨tu, su, ru, rfl, etu⟩ := us_at1 hvu
    refine ⟨_, etu, onS_of (atI_nat (j := 1) rfl) ⟨_, S6 _ _ e, onS_of (atI_nat (j := 2) rfl) ?_⟩⟩
    dsimp only [tC, cEq, onB]
    by_cases hat : u.at = p
    · rw [decide_eq_true hat]
      refine iteT ⟨_, S6 _ _ et, onS_of (atI_nat (j := 1) rfl) ⟨_, S6 _ _ e, onS_of (atI_nat (j := 1) rfl) ⟨_, S6 _ _ em, onS_of hatm ⟨_, _, u, mk.f, mk.a, mk.p, rfl, hmkI.mono (Same.tk S6), hvu, mo mk (List.mem_of_getElem? hmk), uo u (List.mem_of_getElem? hu1), fun v9 H9 S9 hnn => ?_⟩⟩⟩⟩
      have S9' := S6.trans S9
      have es9 := S9 _ _ es6
      have gd9 := gd6.same S9
      dsimp only [gName]
      cases hl : meet u mk.f with
      | none =>
        rw [hl] at hnn
        obtain rfl : v9 = .non := hnn
        exact ⟨false, by rw [decide_eq_true rfl]; rfl, iteF ⟨_, _, _, _, _, sv, rfl, S9', es9, by omega, gd9⟩⟩
      | some l =>
        rw [hl] at hnn
        obtain ⟨fa, fxs, rfl, efa, hfl⟩ := hnn
        have lfx := hfl.length
        rw [List.length_map] at lfx
        have l10 := meet_few hl (uo u (List.mem_of_getElem? hu1))
        refine ⟨true, by rw [decide_eq_false (fun h => nomatch h)]; rfl, iteT ⟨fa, rfl, ⟨_, SqL.of efa⟩, for_enum (xs := fxs) (fun d σ H7 => ∃ (o8 o9 : Option V) (sv : List V), σ = [some (.ref th), some (.ref ld), some (.int (i : Int)), some (.ref t), some (.ref sd), some (.int (j : Int)), some (.ref tu), some (.ref fa), o8, o9, none, none] ∧ Same H H7 ∧ H7 sd = some (.lst sv) ∧ sv.length ≤ 10 * j + d ∧ Gd G H7 sd sv ∧ H7 fa = some (.lst fxs) ∧ Ims H7 fxs (l.map flD))
          ⟨_, _, sv, rfl, S9', es9, by omega, gd9, efa, hfl⟩ (fun d σ H7 _ ⟨_, _, _, _, _, _, _, _, e7, _⟩ => SqL.of e7) ?_ ?_⟩⟩
        · rintro d v2 σ H7 t2 hv2 ⟨o8, o9, sv, rfl, S7, es7, lsv7, gd7, efa7, hfl7⟩ ht2
          have hd := (List.getElem?_eq_some_iff.mp hv2).1
          obtain ⟨pr, tp, hpr, rfl, etp⟩ := ims_fl hfl7 hv2
          have nfa := gd7.ne es7 efa7 hv2 etp
          have sT2 := same_new ht2 (.tup [.int (d : Int), .ref tp])
          refine ⟨t2, _, rfl, SqT.of upd_same, rfl, _, _, rfl, _, _, rfl, rfl, ?_⟩
          have S8 := S7.trans sT2
          have es8 := sT2 _ _ es7
          have gd8 := gd7.same sT2
          have efa8 := sT2 _ _ efa7
          have hfl8 := hfl7.mono (Same.tk sT2)
          have etp8 := sT2 _ _ etp
          generalize upd H7 t2 (.tup [.int (d : Int), .ref tp]) = H8 at S8 es8 gd8 efa8 hfl8 etp8 ⊢
          refine ⟨⟨_, es8⟩, _, etp8, onS_of (atI_nat (j := 0) rfl) ⟨_, etp8, onS_of (atI_nat (j := 1) rfl) ⟨(by show 3 ≤ sizeLine; decide), fun a1 h1 => ⟨(by show 4 ≤ sizeLine; decide), fun a2 h2 => ⟨(by show 2 ≤ sizeLine; decide), fun a3 h3 => ?_⟩⟩⟩⟩⟩
          have SS := ((same_new h1 (.tup [.str "goes", .int pr.1, .int pr.2])).trans (same_new h2 (.tup [.int (i : Int), .int 0, .int (j : Int), .int (d : Int)]))).trans (same_new h3 (.lst [.ref a1, .ref a2]))
          have es9 := SS _ _ es8
          have k9 := fk_lst (o := .lst (sv ++ [.ref a3])) es9
          refine ⟨sv, es9, by omega, _, _, sv ++ [V.ref a3], rfl, same_upd (S8.trans SS) hsd _, upd_same, by rw [List.length_append, List.length_singleton]; omega, Gd.put (o := .lst []) gd8 (k := (⟨true, pr.1, pr.2, none⟩ : Rw).k) (s := ((i : Int), 0, (j : Int), (d : Int))) (hG j u mk l hu1 hat hmk hl d pr hpr) es8 h1 h2 h3, ?_, (hfl8.mono (Same.tk SS)).mono k9.tk⟩
          rw [upd_ne nfa]
          exact SS _ _ efa8
        · rintro σ H7 ⟨o8, o9, sv, rfl, S7, es7, lsv7, gd7, efa7, hfl7⟩
          exact ⟨_, _, _, _, _, sv, rfl, S7, es7, by omega, gd7⟩
    · rw [decide_eq_false hat]
      exact iteF ⟨_, _, _, _, _, sv, rfl, S6, es6, by omega, gd6⟩
  · rintro σ H5 ⟨o5, o6, o7, o8, o9, sv, rfl, S5, es5, lsv, gd⟩
    dsimp only [tNext]
    have W5 : DL H5 ld L f kk := W.same fun a o e _ => S5 _ _ e
    refine ⟨ld, rfl, .inl (by obtain ⟨kvs, e, _⟩ := W5; exact ⟨kvs, .inl e⟩), _, S5 _ _ e, onS_of (atI_nat (j := 2) rfl) ⟨(by show 0 ≤ sizeLine; decide), fun zz hz => ?_⟩⟩
    obtain ⟨kvs, l0, ek, eg, hl0, own⟩ := W5.get p hz
    have s6 := same_new hz (.lst [])
    have S6 := S5.trans s6
    have es6 := s6 _ _ es5
    have gd6 := gd.same s6
    have hfp6 := hfp.mono (Same.tk S6)
    refine ⟨_, DGet.k (k := Sum.inl p) ek, l0, eg, ⟨_, SqL.of hl0⟩, for_list (xs := f p) (fun d σ H7 => ∃ (o10 o11 : Option V) (sv : List V), σ = [some (.ref th), some (.ref ld), some (.int (i : Int)), some (.ref t), some (.ref sd), o5, o6, o7, o8, o9, o10, o11] ∧ Same H H7 ∧ H7 sd = some (.lst sv) ∧ sv.length ≤ 10 * uv.length + d ∧ Gd G H7 sd sv ∧ H7 l0 = some (.lst (f p)) ∧ Ims H7 (f p) (Lp.map flD))
      ⟨none, none, sv, rfl, S6, es6, lsv, gd6, hl0, hfp6⟩ (fun d σ H7 _ ⟨_, _, _, _, _, _, _, _, e7, _⟩ => SqL.of e7) ?_ ?_⟩
    · rintro d v2 σ H7 hv2 ⟨o10, o11, sv, rfl, S7, es7, lsv7, gd7, efa7, hfl7⟩
      have hd := (List.getElem?_eq_some_iff.mp hv2).1
      obtain ⟨pr, tp, hpr, rfl, etp⟩ := ims_fl hfl7 hv2
      have nfa := gd7.ne es7 efa7 hv2 etp
      refine ⟨tp, _, rfl, SqT.of etp, rfl, _, _, rfl, _, _, rfl, rfl, ?_⟩
      refine ⟨⟨_, es7⟩, _, S7 _ _ e, onS_of (atI_nat (j := 1) rfl) ⟨(by show 3 ≤ sizeLine; decide), fun a1 h1 => ⟨_, _, rfl, _, _, rfl, (by show 4 ≤ sizeLine; decide), fun a2 h2 => ⟨(by show 2 ≤ sizeLine; decide), fun a3 h3 => ?_⟩⟩⟩⟩
      rw [max_if, min_if] at h3 ⊢
      have SS := ((same_new h1 (.tup [.str "here", .int m, .int pr.2])).trans (same_new h2 (.tup [.int (max (i : Int) pr.1), .int 1, .int (min (i : Int) pr.1), .int 0]))).trans (same_new h3 (.lst [.ref a1, .ref a2]))
      have es9 := SS _ _ es7
      have k9 := fk_lst (o := .lst (sv ++ [.ref a3])) es9
      refine ⟨sv, es9, by omega, _, _, sv ++ [V.ref a3], rfl, same_upd (S7.trans SS) hsd _, upd_same, by rw [List.length_append, List.length_singleton]; omega, Gd.put (o := .lst []) gd7 (k := (⟨false, m, pr.2, none⟩ : Rw).k) (s := (max (i : Int) pr.1, 1, min (i : Int) pr.1, 0)) (hg pr (List.mem_of_getElem? hpr)) es7 h1 h2 h3, ?_, (hfl7.mono (Same.tk SS)).mono k9.tk⟩
      rw [upd_ne nfa]
      exact SS _ _ efa7
    · rintro σ H7 ⟨o10, o11, sv, rfl, S7, es7, lsv7, gd7, efa7, hfl7⟩
      exact q sd sv H7 S7 es7 gd7
end
end K33.Internal
namespace K33.Internal
open PySem L2.Internal BO.Internal
seal L2.Internal.PE L2.Internal.PA L2.Internal.PS L2.Internal.PSs L2.Internal.PT L2.Internal.PI
structure FD (H H' : Hp) (d : Addr) (f : Int → List V) (k : Nat) : Prop where
  s : Same H H'
  d0 : H d = none
  w : ∃ L, (∀ a ∈ L, H a = none ∧ ∃ o, H' a = some o) ∧ DL H' d L f k
structure FG (H H3 : Hp) (d : Addr) (f : Int → List V) (k : Nat) (p : Int) (l : Addr) (H4 : Hp) : Prop where
  here : H4 l = some (.lst (f p))
  fin : ∀ x H5, Same H4 H5 → FD H (upd H5 l (.lst (f p ++ [x]))) d (putf f p x) (k + 1)
  fr : ∀ a o, H3 a = some o → a ≠ d → H4 a = some o
section
variable {H H' H'' H3 : Hp} {d : Addr} {f : Int → List V} {k : Nat}
theorem FD.same (W : FD H H' d f k) (s : Same H' H'') : FD H H'' d f k := by
  obtain ⟨s0, d0, L, hL, w⟩ := W
  exact ⟨s0.trans s, d0, L, fun a m => ⟨(hL a m).1, let ⟨o, e⟩ := (hL a m).2; ⟨o, s _ _ e⟩⟩, w.same fun a o e _ => s _ _ e⟩
theorem FD.dk (W : FD H H' d f k) : ∃ kvs, H' d = some (.dK kvs) := by
  obtain ⟨_, _, L, _, kvs, e, _⟩ := W
  exact ⟨kvs, e⟩
theorem FD.up (W : FD H H' d f k) : FD H H' d f (k + 1) := by
  obtain ⟨s0, d0, L, hL, kvs, e, hl, r⟩ := W
  exact ⟨s0, d0, L, hL, kvs, e, Nat.le_succ_of_le hl, r⟩
theorem FD.new (s : Same H H') (d0 : H d = none) (e : H' d = some (.dK [])) : FD H H' d (fun _ => []) 0 :=
  ⟨s, d0, [], fun _ h => absurd h List.not_mem_nil, [], e, Nat.zero_le _, fun _ _ => rfl, fun _ _ h => (by cases h), fun _ _ _ h => (by cases h)⟩
theorem FD.add (W : FD H H3 d f k) (p : Int) {z : Addr} (hz : H3 z = none) : ∃ kvs, (upd H3 z (.lst [])) d = some (.dK kvs) ∧ kvs.length ≤ k ∧
    (∀ v, valV kvs (.inl p) = some v → ∃ l, v = .ref l ∧ FG H H3 d f k p l (upd H3 z (.lst []))) ∧ (valV kvs (.inl p) = none → FG H H3 d f k p z (upd (upd H3 z (.lst [])) d (.dK (putK kvs (.inl p) (.ref z))))) := by
  obtain ⟨s0, d0, L, hL, w⟩ := W
  have key : ∀ (l : Addr) (H4 : Hp), (∃ y, H4 d = some y) → Sda H3 d L f k p l H4 → FG H H3 d f k p l H4 := fun l H4 hd A => by
    have nl : H l = none := by
      rcases A.own with m | m
      · exact (hL l m).1
      · cases e : H l with
        | none => rfl
        | some o => rw [s0 _ _ e] at m; cases m
    refine ⟨A.here, fun x H5 S => ?_, A.fr⟩
    obtain ⟨L', hL', W'⟩ := A.fin H5 x S
    have dn : ∀ a o, H a = some o → a ≠ d := fun a o e z => by rw [z, d0] at e; cases e
    refine ⟨fun a o e => ?_, d0, L', fun a ha => ?_, W'⟩
    · rw [upd_ne (fun z => by rw [z, nl] at e; cases e)]
      exact S _ _ (A.fr a o (s0 _ _ e) (dn a o e))
    · by_cases y : a = l
      · rw [y]; exact ⟨nl, _, upd_same⟩
      · rcases hL' a ha with m | m
        · refine ⟨(hL a m).1, ?_⟩
          rw [upd_ne y]
          obtain ⟨o, eo⟩ := (hL a m).2
          by_cases z : a = d
          · obtain ⟨u, e⟩ := hd
            rw [z]; exact ⟨u, S _ _ e⟩
          · exact ⟨o, S _ _ (A.fr a o eo z)⟩
        · exact absurd m y
  obtain ⟨kvs, h1, h2, h3, h4⟩ := w.sda p hz
  exact ⟨kvs, h1, h2, fun v hv => let ⟨l, h, A⟩ := h3 v hv; ⟨l, h, key l _ ⟨_, h1⟩ A⟩, fun hn => key z _ ⟨_, upd_same⟩ (h4 hn)⟩
end
theorem due_ln {f : Rw → Int → List (Int × Int)} (hf : ∀ r n, (f r n).length ≤ 1) {R : List Rw} : ∀ k : Nat, (dueN f R k).length ≤ k
  | 0 => Nat.le_refl _
  | k + 1 => by
    rw [dueN, List.length_append]
    have h := due_ln hf (R := R) k
    cases e : R[k]? with
    | none => simp; omega
    | some r => have := hf r k; simp only; omega
theorem lv_t {R : List Rw} {i : Nat} {a b p : Int} {y : Option (Int × Int)} (h : R[i]? = some ⟨true, a, b, y⟩) : dueN (gosF p) R (i + 1) = dueN (gosF p) R i ++ if p = a then [((i : Int), b)] else [] := by
  rw [due_one h]
  unfold gosF
  by_cases e : a = p
  · rw [if_pos ⟨rfl, e⟩, if_pos e.symm]
  · rw [if_neg (fun z => e z.2), if_neg (fun z => e z.symm)]
theorem lv_f {R : List Rw} {i : Nat} {a b p : Int} {y : Option (Int × Int)} (h : R[i]? = some ⟨false, a, b, y⟩) : dueN (gosF p) R (i + 1) = dueN (gosF p) R i := by
  rw [due_one h]
  unfold gosF
  rw [if_neg (fun z => Bool.false_ne_true z.1), List.append_nil]
section
variable {P : Program} {w : World} {K : PySem.W.Frag} {mg : Str → Option Value} {base : Heap}
theorem all_law (T : Txt K mg) {a : Addr} {fd : FuncData} (F : Fun K "law" "law" s_law a fd) : FnOk P w K mg base CX0 40 a fd ["_law_script"] (sp_law K) := by
  have G__law_things := ok__law_things (P := P) (w := w) (base := base) T
  have G__law_board := ok__law_board (P := P) (w := w) (base := base) T
  have G__law_shaped := ok__law_shaped (P := P) (w := w) (base := base) T
  have G__law_stamps := ok__law_stamps (P := P) (w := w) (base := base) T
  have G__law_steps := ok__law_steps (P := P) (w := w) (base := base) T
  have G_settled := ok_settled (P := P) (w := w) (base := base) T
  refine F.ok sc_law (fun vs H Q E h => ?_) (fun cdv A outer s H vs Q E hr h => ?_)
  · obtain ⟨a, ns, rfl, _⟩ := h
    rfl
  have hu := hu_of hr
  obtain ⟨ad, ns, rfl, hsq, hlen, q⟩ := h
  refine ⟨_, (pss_cons (ps_set (i := 1) sc_law.nd rfl (Or.inl rfl) (pe_call G__law_things (hr.mono (by decide)) rfl T.m__law_things T.k__law_things T.b__law_things .nil pass0 (pa_cons (cv 0) pa_nil)))
    (pss_cons (ps_set (i := 2) sc_law.nd rfl (Or.inl rfl) (pe_fld (pe_call G_settled (hr.mono (by decide)) rfl T.m_settled T.k_settled T.b_settled .nil pass0 (pa_cons (pe_call G__law_board (hr.mono (by decide)) rfl T.m__law_board T.k__law_board T.b__law_board .nil pass0 (pa_cons (cv 1) pa_nil)) pa_nil)) rfl))
    (pss_cons (ps_if (pt_not (pt_val (pe_call G__law_shaped (hr.mono (by decide)) rfl T.m__law_shaped T.k__law_shaped T.b__law_shaped .nil pass0 (pa_cons (cv 2) pa_nil))))
      (pss_one (ps_ret pe_bl))
      pss_nil)
    (pss_cons (ps_set (i := 3) sc_law.nd rfl (Or.inl rfl) (pe_call G__law_stamps (hr.mono (by decide)) rfl T.m__law_stamps T.k__law_stamps T.b__law_stamps .nil pass0 (pa_cons (cv 1) (pa_cons (cv 2) pa_nil))))
    (pss_cons (ps_if (pt_cmp (pc_isN (cv 3)))
      (pss_one (ps_ret pe_bl))
      pss_nil)
    (pss_cons (ps_set (i := 4) sc_law.nd rfl (Or.inl rfl) pe_dnewK)
    (pss_cons (ps_for PassesOwn.never rfl (pi_enum rfl T.z_enumerate (pa_cons (cv 2) pa_nil)) (pg_tup rfl (pgs_cons (pg_name (i := 5) sc_law.nd rfl (Or.inl rfl)) (pgs_cons (pg_name (i := 6) sc_law.nd rfl (Or.inl rfl)) pgs_nil)))
      (pss_one (ps_if (ptc_cmpR oc_eq (pe_ix xc_tup (cv 6) pe_int (fun _ _ => rfl)) pe_str (nomark _))
        (pss_one (ps_expr (pec_app (pe_bm PySem.F.plainAttrs_list PySem.F.slot_list_append PySem.F.type_list_append mt_append (PE.mono (pe_dsetd (cv 4) (pe_ix xc_tup (cv 6) pe_int (fun _ _ => rfl)) (pe_lst pa_nil) ⟨rfl, rfl, rfl, rfl⟩)) (pa_cons (PE.mono (pe_tup (pa_cons (cv 5) (pa_cons (pe_ix xc_tup (cv 6) pe_int (fun _ _ => rfl)) pa_nil)))) pa_nil)))))
        pss_nil)))
    (pss_cons (ps_for PassesOwn.never rfl (pi_enum rfl T.z_enumerate (pa_cons (cv 2) pa_nil)) (pg_tup rfl (pgs_cons (pg_name (i := 5) sc_law.nd rfl (Or.inl rfl)) (pgs_cons (pg_name (i := 6) sc_law.nd rfl (Or.inl rfl)) pgs_nil)))
      (pss_one (ps_if (ptc_cmpR oc_eq (pe_ix xc_tup (cv 6) pe_int (fun _ _ => rfl)) pe_str (nomark _))
        (pss_one (ps_for PassesOwn.never rfl (pi_list (pe_call G__law_steps (hr.mono (by decide)) rfl T.m__law_steps T.k__law_steps T.b__law_steps .nil pass0 (pa_cons (cv 1) (pa_cons (cv 4) (pa_cons (cv 5) (pa_cons (cv 6) pa_nil)))))) (pg_lst2 rfl (pgs_cons (pg_name (i := 7) sc_law.nd rfl (Or.inl rfl)) (pgs_cons (pg_name (i := 8) sc_law.nd rfl (Or.inl rfl)) pgs_nil)))
          (pss_one (ps_if (PW.pt (pw_or (pt_cmp (pc_dnotin hu (cv 7) (cv 3)) rfl) (pw_or1 (ptc_cmpR (op_gtT hr.units0) (pe_dget hu (cv 3) (cv 7) (fun _ _ => rfl)) (cv 8) (nomark _)))))
            (pss_one (ps_ret pe_bl))
            pss_nil))))
        pss_nil)))
    (pss_one (ps_ret pe_bl)))))))))), ?_⟩
  have sl : sizeLine = 16777216 := sizeLine_eq
  refine ⟨ad, ns, rfl, hsq, hlen, fun th q0 q1 q2 q3 N pts ms us fs H1 S1 hT dat uo lp => ?_⟩
  refine ⟨th, q0, q1, q2, q3, pts, ms, us, fs, rfl, hT, fun m hm => (dat.mo m hm).1, uo, lp, dat.lm, dat.lu, dat.lf, fun b bx p0 p1 p2 p3 mv uv fv H2 S2 eb e1 hM e2 hU e3 hF => ?_⟩
  refine ⟨b, bx, p0, p1, p2, p3, N, mv, uv, fv, ms, us, fs, rfl, eb, e1, hM, e2, hU, e3, hF, dat, fun lg dl r bd H3 rv bv R S3 el er hR ebd hB hok hRl hnd hre => ⟨lg, _, dl, _, _, rfl, el, T.cl_Log, T.n_Log_rows, lk_hd, ?_⟩⟩
  have hT3 := (hT.same S2).same S3
  have cz := reach_cz hre
  obtain ⟨S, sm⟩ := stamps_of hre hnd fst_y
  have lrv := hR.length
  rw [List.length_map] at lrv
  dsimp only [gName]
  refine ⟨r, rv, R, rfl, er, hR, _, rfl, iteF ?_⟩
  refine ⟨th, q0, q1, q2, q3, r, pts, ms, us, fs, rv, R, N, _, S, rfl, hT3, er, hR, sm, cz.cau, hok, fun m hm => (dat.mo m hm).1, uo, hnd, hRl, fun d H4 S4 hd hst => ?_⟩
  dsimp only [gName]
  refine ⟨false, by rw [decide_eq_false (fun h => nomatch h)], iteF ?_⟩
  intro ld hld
  have s5 := same_new hld (.dK [])
  have W0 := FD.new s5 hld (upd_same (H := H4) (a := ld) (o := .dK []))
  dsimp only [gName]
  generalize upd H4 ld (.dK []) = H5 at W0 ⊢
  have er4 := S4 _ _ er
  have hR4 := hR.mono (Same.tk S4)
  refine ⟨r, rfl, ⟨_, SqL.of (W0.s _ _ er4)⟩, for_enum (xs := rv) (fun i σ H6 => ∃ (o5 o6 : Option V) (f : Int → List V), σ = [some (.ref ad), some (.ref th), some (.ref r), some (.ref d), some (.ref ld), o5, o6, none, none] ∧ FD H4 H6 ld f i ∧ ∀ p, Ims H6 (f p) ((dueN (gosF p) R i).map flD))
    ⟨none, none, fun _ => [], rfl, W0, fun p => .nil⟩ (fun i σ H6 _ ⟨_, _, _, _, W, _⟩ => SqL.of (W.s _ _ er4)) ?_ ?_⟩
  · rintro i v σ H6 tt hv ⟨o5, o6, f, rfl, W, hf⟩ htt
    have hi := (List.getElem?_eq_some_iff.mp hv).1
    obtain ⟨ρ, hρ⟩ : ∃ ρ, R[i]? = some ρ := ⟨_, List.getElem?_eq_getElem (by omega)⟩
    obtain ⟨t, wv, h1, e, _⟩ := ims_rw hR4 hρ
    rw [hv] at h1
    cases h1
    have sT := same_new htt (.tup [.int (i : Int), .ref t])
    refine ⟨tt, _, rfl, SqT.of upd_same, rfl, _, _, rfl, _, _, rfl, rfl, ?_⟩
    have W7 := W.same sT
    have hf7 : ∀ p, Ims _ (f p) ((dueN (gosF p) R i).map flD) := fun p => (hf p).mono (Same.tk sT)
    generalize upd H6 tt (.tup [.int (i : Int), .ref t]) = H7 at W7 hf7 ⊢
    have e7 := W7.s _ _ e
    refine ⟨_, e7, onS_of (atI_nat (j := 0) rfl) ?_⟩
    obtain ⟨w', ra, rb, y⟩ := ρ
    dsimp only [tC, cEq, onB] at e7 ⊢
    cases w' with
    | true =>
      rw [wd_t]
      refine iteT ⟨ld, rfl, .inl (let ⟨kvs, e⟩ := W7.dk; ⟨kvs, .inl e⟩), _, e7, onS_of (atI_nat (j := 1) rfl) ⟨(by show 0 ≤ sizeLine; decide), fun z hz => ?_⟩⟩
      obtain ⟨kvs, ek, hk, c1, c2⟩ := W7.add ra hz
      obtain ⟨kd, ekd⟩ := W7.dk
      have fl : (f ra).length < sizeLine := by
        have h1 := (hf7 ra).length
        rw [List.length_map] at h1
        have h2 := due_ln (fun r n => (gos_one ra r n).1) (R := R) i
        omega
      have fin : ∀ l Hx, FG H4 H7 ld f i ra l Hx → ∀ t2, Hx t2 = none → Hx t = some (.tup [.str (wd true), .int ra, .int rb, wv]) ∧ (upd Hx t2 (.tup [.int (i : Int), .int rb])) l = some (.lst (f ra)) ∧ FD H4 (upd (upd Hx t2 (.tup [.int (i : Int), .int rb])) l (.lst (f ra ++ [V.ref t2]))) ld (putf f ra (.ref t2)) (i + 1) ∧ ∀ p, Ims (upd (upd Hx t2 (.tup [.int (i : Int), .int rb])) l (.lst (f ra ++ [V.ref t2]))) (putf f ra (.ref t2) p) ((dueN (gosF p) R (i + 1)).map flD) := fun l Hx A t2 h2 => by
        have s2 := same_new h2 (.tup [.int (i : Int), .int rb])
        have hl2 := s2 _ _ A.here
        have kl := fk_lst (o := .lst (f ra ++ [V.ref t2])) hl2
        have tk : TK H7 Hx := fun a xs ea => A.fr _ _ ea (ne_of ea ekd (fun h => nomatch h))
        have nl : t2 ≠ l := fun z => by rw [z, A.here] at h2; cases h2
        refine ⟨A.fr _ _ e7 (ne_of e7 ekd (fun h => nomatch h)), hl2, A.fin _ _ s2, fun p => ?_⟩
        have old : Ims (upd (upd Hx t2 (.tup [.int (i : Int), .int rb])) l (.lst (f ra ++ [V.ref t2]))) (f p) ((dueN (gosF p) R i).map flD) := (((hf7 p).mono tk).mono (Same.tk s2)).mono kl.tk
        rw [lv_t hρ]
        unfold putf
        by_cases hp : p = ra
        · subst hp
          rw [if_pos rfl, if_pos rfl, List.map_append]
          exact old.app (.cons (pr_im (by rw [upd_ne nl]; exact upd_same)) .nil)
        · rw [if_neg hp, if_neg hp, List.append_nil]
          exact old
      refine ⟨kvs, Sum.inl ra, ek, rfl, by omega, fun v hv2 => ?_, fun hn => ?_⟩
      · obtain ⟨l, rfl, A⟩ := c1 v hv2
        refine ⟨⟨_, A.here⟩, _, A.fr _ _ e7 (ne_of e7 ekd (fun h => nomatch h)), onS_of (atI_nat (j := 2) rfl) ⟨(by show 2 ≤ sizeLine; decide), fun t2 h2 => ?_⟩⟩
        obtain ⟨_, f2, f3, f4⟩ := fin l _ A t2 h2
        exact ⟨_, f2, fl, _, _, _, rfl, f3, f4⟩
      · have A := c2 hn
        refine ⟨⟨_, A.here⟩, _, A.fr _ _ e7 (ne_of e7 ekd (fun h => nomatch h)), onS_of (atI_nat (j := 2) rfl) ⟨(by show 2 ≤ sizeLine; decide), fun t2 h2 => ?_⟩⟩
        obtain ⟨_, f2, f3, f4⟩ := fin z _ A t2 h2
        exact ⟨_, f2, fl, _, _, _, rfl, f3, f4⟩
    | false =>
      rw [wd_f]
      exact iteF ⟨_, _, f, rfl, W7.up, fun p => by rw [lv_f hρ]; exact hf7 p⟩
  · rintro σ H6 ⟨o5, o6, f, rfl, W, hf⟩
    rw [lrv] at W hf
    dsimp only [tNext]
    have er6 := W.s _ _ er4
    have hR6 := hR4.mono (Same.tk W.s)
    have hst6 := hst.same W.s
    have hT6 := (hT3.same S4).same W.s
    obtain ⟨LL, _, WD⟩ := W.w
    refine ⟨r, rfl, ⟨_, SqL.of er6⟩, for_enum (xs := rv) (fun i σ H7 => ∃ (o5 o6 o7 o8 : Option V), σ = [some (.ref ad), some (.ref th), some (.ref r), some (.ref d), some (.ref ld), o5, o6, o7, o8] ∧ Same H6 H7)
      ⟨_, _, none, none, rfl, Same.refl _⟩ (fun i σ H7 _ ⟨_, _, _, _, _, S7⟩ => SqL.of (S7 _ _ er6)) ?_ ?_⟩
    · rintro i v σ H7 tt hv ⟨o5, o6, o7, o8, rfl, S7⟩ htt
      have hi := (List.getElem?_eq_some_iff.mp hv).1
      obtain ⟨ρ, hρ⟩ : ∃ ρ, R[i]? = some ρ := ⟨_, List.getElem?_eq_getElem (by omega)⟩
      obtain ⟨t, wv, h1, e, _⟩ := ims_rw hR6 hρ
      rw [hv] at h1
      cases h1
      have sT := same_new htt (.tup [.int (i : Int), .ref t])
      refine ⟨tt, _, rfl, SqT.of upd_same, rfl, _, _, rfl, _, _, rfl, rfl, ?_⟩
      have S8 := S7.trans sT
      generalize upd H7 tt (.tup [.int (i : Int), .ref t]) = H8 at S8 ⊢
      have e8 := S8 _ _ e
      refine ⟨_, e8, onS_of (atI_nat (j := 0) rfl) ?_⟩
      have o := hok ρ (List.mem_of_getElem? hρ)
      obtain ⟨w', m, p, y⟩ := ρ
      dsimp only [tC, cEq, onB] at e8 ⊢
      cases w' with
      | true =>
        rw [show (xor false (decide (wd true = ("here" : Str)))) = false by decide +kernel]
        exact iteF ⟨_, _, _, _, rfl, S8⟩
      | false =>
        rw [show (xor false (decide (wd false = ("here" : Str)))) = true by decide +kernel]
        obtain ⟨o1, o2, _, _⟩ := o
        dsimp only at o1 o2
        refine iteT ⟨th, q0, q1, q2, q3, ld, t, pts, ms, us, fs, LL, f, R.length, i, (fun k s => ∃ (n : Nat) (r : Rw) (s' : Q4), R[n]? = some r ∧ S[n]? = some s' ∧ r.k = k ∧ ¬ Lt4 s s'), dueN (gosF p) R R.length, m, p, wv, rfl, hT6.same S8, WD.same (fun a o e _ => S8 _ _ e), (hf p).mono (Same.tk S8), Nat.le_trans (due_ln (fun r n => (gos_one p r n).1) R.length) hRl, e8, o1, o2, fun m hm => (dat.mo m hm).1, uo, dat.lu, sm.u i m p y hρ, fun x hx => ?_, fun sd sv H9 S9 esd gd => ?_⟩
        · obtain ⟨n, y', e1, _, e2⟩ := gos_mem hx
          rw [e1]
          exact sm.g i n m p x.2 y y' hρ e2
        have S69 := S8.trans S9
        obtain ⟨kvs, ed, _, hkv⟩ := hst6.same S69
        refine ⟨sd, rfl, ⟨_, SqL.of esd⟩, for_list (xs := sv) (fun j σ H10 => ∃ (o7 o8 : Option V), σ = [some (.ref ad), some (.ref th), some (.ref r), some (.ref d), some (.ref ld), some (.int (i : Int)), some (.ref t), o7, o8] ∧ H10 = H9)
          ⟨_, _, rfl, rfl⟩ (fun j σ H10 _ ⟨_, _, _, z⟩ => by rw [z]; exact SqL.of esd) ?_ ?_⟩
        · rintro j v σ H10 hv2 ⟨o7, o8, rfl, rfl⟩
          obtain ⟨a, t1, t2, k, s, rfl, _, ea, et1, et2, n, r', s', hn, hs', rfl, hnl⟩ := gd v (List.mem_of_getElem? hv2)
          obtain ⟨p', hv3, ep'⟩ := hkv n r' s' (List.getElem?_eq_some_iff.mp hn).1 hn hs'
          have g := DGet.t (k := r'.k) ed et1
          rw [hv3] at g
          refine ⟨a, _, _, rfl, SqL.of ea, _, _, rfl, _, _, rfl, rfl, ?_⟩
          refine ⟨d, _, rfl, g, _, rfl, iteF ⟨d, _, rfl, g, p', t2, q4l s', q4l s, rfl, rfl, SqT.of ep', SqT.of et2, rfl, ?_⟩⟩
          dsimp only [onB]
          rw [show HT.Internal.lexLt (q4l s) (q4l s') = false from by
            cases z : HT.Internal.lexLt (q4l s) (q4l s') with
            | false => rfl
            | true => exact absurd ((lt_q4 s s').mp z) hnl]
          exact iteF ⟨_, _, rfl, rfl⟩
        · rintro σ H10 ⟨o7, o8, rfl, rfl⟩
          exact ⟨_, _, _, _, rfl, S69⟩
    · rintro σ H7 ⟨o5, o6, o7, o8, rfl, S7⟩
      exact q H7
end
end K33.Internal
noncomputable def PySem.W.Fast.tw9226661912465093154 : Nat := 0
noncomputable def PySem.W.Fast.tw4603717870832327086 : Nat := 0
noncomputable def PySem.W.Fast.tw8416571793964087489 : Nat := 0
noncomputable def PySem.W.Fast.tw15239104821119354402 : Nat := 0
noncomputable def PySem.W.Fast.tw16092912115148549697 : Nat := 0
noncomputable def PySem.W.Fast.tw12540997188206731129 : Nat := 0
noncomputable def PySem.W.Fast.tw11553769254436303938 : Nat := 0
noncomputable def PySem.W.Fast.tw14185698742000054603 : Nat := 0
noncomputable def PySem.W.Fast.tw11998595628614035561 : Nat := 0
noncomputable def PySem.W.Fast.tw881100836751309399 : Nat := 0
noncomputable def PySem.W.Fast.tw11020262259898283488 : Nat := 0
noncomputable def PySem.W.Fast.tw8303987269576712965 : Nat := 0
namespace K33.Internal
open PySem L2.Internal
theorem all_mk {l : PySem.W.OpenLaw} {w : World} {K : PySem.W.Frag} {h : Heap} {mg : Str → Option Value} {fa fL : Addr} (X : K.In h) (G : h.Ns mainGlobals mg) (hfa : mg "law" = some (.ref fa))
    {f1 : Addr} {od1 an1 : Option Addr} {sl1 : Array (Option Value)} {oc1 kV1 dc1 pm1 cd1 ct1 : Value} {f2 : Addr} {od2 an2 : Option Addr} {sl2 : Array (Option Value)} {oc2 kV2 dc2 pm2 cd2 ct2 : Value} {f3 : Addr} {od3 an3 : Option Addr} {sl3 : Array (Option Value)} {oc3 kV3 dc3 pm3 cd3 ct3 : Value} {f4 : Addr} {od4 an4 : Option Addr} {sl4 : Array (Option Value)} {oc4 kV4 dc4 pm4 cd4 ct4 : Value} {f5 : Addr} {od5 an5 : Option Addr} {sl5 : Array (Option Value)} {oc5 kV5 dc5 pm5 cd5 ct5 : Value} {f6 : Addr} {od6 an6 : Option Addr} {sl6 : Array (Option Value)} {oc6 kV6 dc6 pm6 cd6 ct6 : Value} {f7 : Addr} {od7 an7 : Option Addr} {sl7 : Array (Option Value)} {oc7 kV7 dc7 pm7 cd7 ct7 : Value} {f8 : Addr} {od8 an8 : Option Addr} {sl8 : Array (Option Value)} {oc8 kV8 dc8 pm8 cd8 ct8 : Value} {f9 : Addr} {od9 an9 : Option Addr} {sl9 : Array (Option Value)} {oc9 kV9 dc9 pm9 cd9 ct9 : Value} {f10 : Addr} {od10 an10 : Option Addr} {sl10 : Array (Option Value)} {oc10 kV10 dc10 pm10 cd10 ct10 : Value} {f11 : Addr} {od11 an11 : Option Addr} {sl11 : Array (Option Value)} {oc11 kV11 dc11 pm11 cd11 ct11 : Value} {f12 : Addr} {od12 an12 : Option Addr} {sl12 : Array (Option Value)} {oc12 kV12 dc12 pm12 cd12 ct12 : Value} {f13 : Addr} {od13 an13 : Option Addr} {sl13 : Array (Option Value)} {oc13 kV13 dc13 pm13 cd13 ct13 : Value} {f14 : Addr} {od14 an14 : Option Addr} {sl14 : Array (Option Value)} {oc14 kV14 dc14 pm14 cd14 ct14 : Value} {f15 : Addr} {od15 an15 : Option Addr} {sl15 : Array (Option Value)} {oc15 kV15 dc15 pm15 cd15 ct15 : Value} {f16 : Addr} {od16 an16 : Option Addr} {sl16 : Array (Option Value)} {oc16 kV16 dc16 pm16 cd16 ct16 : Value} {f17 : Addr} {od17 an17 : Option Addr} {sl17 : Array (Option Value)} {oc17 kV17 dc17 pm17 cd17 ct17 : Value} {f18 : Addr} {od18 an18 : Option Addr} {sl18 : Array (Option Value)} {oc18 kV18 dc18 pm18 cd18 ct18 : Value} {C19 : Addr} {f20 : Addr} {od20 an20 : Option Addr} {sl20 : Array (Option Value)} {oc20 kV20 dc20 pm20 cd20 ct20 : Value} {C21 : Addr} {f22 : Addr} {od22 an22 : Option Addr} {sl22 : Array (Option Value)} {oc22 kV22 dc22 pm22 cd22 ct22 : Value} {C23 : Addr} {f24 : Addr} {od24 an24 : Option Addr} {sl24 : Array (Option Value)} {oc24 kV24 dc24 pm24 cd24 ct24 : Value} {C25 : Addr} {f26 : Addr} {od26 an26 : Option Addr} {sl26 : Array (Option Value)} {oc26 kV26 dc26 pm26 cd26 ct26 : Value} {f27 : Addr} {od27 an27 : Option Addr} {sl27 : Array (Option Value)} {oc27 kV27 dc27 pm27 cd27 ct27 : Value} {C28 : Addr} {f29 : Addr} {od29 an29 : Option Addr} {sl29 : Array (Option Value)} {oc29 kV29 dc29 pm29 cd29 ct29 : Value} {f30 : Addr} {od30 an30 : Option Addr} {sl30 : Array (Option Value)} {oc30 kV30 dc30 pm30 cd30 ct30 : Value} {C31 : Addr} {f32 : Addr} {od32 an32 : Option Addr} {sl32 : Array (Option Value)} {oc32 kV32 dc32 pm32 cd32 ct32 : Value} {f33 : Addr} {od33 an33 : Option Addr} {sl33 : Array (Option Value)} {oc33 kV33 dc33 pm33 cd33 ct33 : Value} {C34 : Addr} {f35 : Addr} {od35 an35 : Option Addr} {sl35 : Array (Option Value)} {oc35 kV35 dc35 pm35 cd35 ct35 : Value} {f36 : Addr} {od36 an36 : Option Addr} {sl36 : Array (Option Value)} {oc36 kV36 dc36 pm36 cd36 ct36 : Value} {C37 : Addr} {f38 : Addr} {od38 an38 : Option Addr} {sl38 : Array (Option Value)} {oc38 kV38 dc38 pm38 cd38 ct38 : Value} {f39 : Addr} {od39 an39 : Option Addr} {sl39 : Array (Option Value)} {oc39 kV39 dc39 pm39 cd39 ct39 : Value} {f40 : Addr} {od40 an40 : Option Addr} {sl40 : Array (Option Value)} {oc40 kV40 dc40 pm40 cd40 ct40 : Value} {f41 : Addr} {od41 an41 : Option Addr} {sl41 : Array (Option Value)} {oc41 kV41 dc41 pm41 cd41 ct41 : Value} {f42 : Addr} {od42 an42 : Option Addr} {sl42 : Array (Option Value)} {oc42 kV42 dc42 pm42 cd42 ct42 : Value} {C43 : Addr} {f44 : Addr} {od44 an44 : Option Addr} {sl44 : Array (Option Value)} {oc44 kV44 dc44 pm44 cd44 ct44 : Value} {C45 : Addr} {f46 : Addr} {od46 an46 : Option Addr} {sl46 : Array (Option Value)} {oc46 kV46 dc46 pm46 cd46 ct46 : Value} {f47 : Addr} {od47 an47 : Option Addr} {sl47 : Array (Option Value)} {oc47 kV47 dc47 pm47 cd47 ct47 : Value} {f48 : Addr} {od48 an48 : Option Addr} {sl48 : Array (Option Value)} {oc48 kV48 dc48 pm48 cd48 ct48 : Value} {f49 : Addr} {od49 an49 : Option Addr} {sl49 : Array (Option Value)} {oc49 kV49 dc49 pm49 cd49 ct49 : Value} {f50 : Addr} {od50 an50 : Option Addr} {sl50 : Array (Option Value)} {oc50 kV50 dc50 pm50 cd50 ct50 : Value} {f51 : Addr} {od51 an51 : Option Addr} {sl51 : Array (Option Value)} {oc51 kV51 dc51 pm51 cd51 ct51 : Value} {f52 : Addr} {od52 an52 : Option Addr} {sl52 : Array (Option Value)} {oc52 kV52 dc52 pm52 cd52 ct52 : Value}
    {odL anL : Option Addr} {slL : Array (Option Value)} {ocL kVL dcL pmL cdL ctL : Value}
    (a1 : PySem.W.nsIn K mainGlobals "uses_by_point" = some (some (.ref f1)))
    (l1 : K.lookup f1 = some ⟨oc1, od1, .func (PySem.W.fnOf "uses_by_point" "uses_by_point" (defArgs s_uses_by_point) (defBody s_uses_by_point) (defScope s_uses_by_point) .none kV1 dc1 pm1 an1 cd1 ct1), sl1⟩)
    (c1 : PySem.W.codeIn K cd1 "uses_by_point" = true)
    (k1 : PySem.W.keepIn K (.ref f1) = true)
    (a2 : PySem.W.nsIn K mainGlobals "settled" = some (some (.ref f2)))
    (l2 : K.lookup f2 = some ⟨oc2, od2, .func (PySem.W.fnOf "settled" "settled" (defArgs s_settled) (defBody s_settled) (defScope s_settled) .none kV2 dc2 pm2 an2 cd2 ct2), sl2⟩)
    (c2 : PySem.W.codeIn K cd2 "settled" = true)
    (k2 : PySem.W.keepIn K (.ref f2) = true)
    (a3 : PySem.W.nsIn K mainGlobals "_law_pick" = some (some (.ref f3)))
    (l3 : K.lookup f3 = some ⟨oc3, od3, .func (PySem.W.fnOf "_law_pick" "_law_pick" (defArgs s__law_pick) (defBody s__law_pick) (defScope s__law_pick) .none kV3 dc3 pm3 an3 cd3 ct3), sl3⟩)
    (c3 : PySem.W.codeIn K cd3 "_law_pick" = true)
    (k3 : PySem.W.keepIn K (.ref f3) = true)
    (a4 : PySem.W.nsIn K mainGlobals "_law_words" = some (some (.ref f4)))
    (l4 : K.lookup f4 = some ⟨oc4, od4, .func (PySem.W.fnOf "_law_words" "_law_words" (defArgs s__law_words) (defBody s__law_words) (defScope s__law_words) .none kV4 dc4 pm4 an4 cd4 ct4), sl4⟩)
    (c4 : PySem.W.codeIn K cd4 "_law_words" = true)
    (k4 : PySem.W.keepIn K (.ref f4) = true)
    (a5 : PySem.W.nsIn K mainGlobals "_law_named" = some (some (.ref f5)))
    (l5 : K.lookup f5 = some ⟨oc5, od5, .func (PySem.W.fnOf "_law_named" "_law_named" (defArgs s__law_named) (defBody s__law_named) (defScope s__law_named) .none kV5 dc5 pm5 an5 cd5 ct5), sl5⟩)
    (c5 : PySem.W.codeIn K cd5 "_law_named" = true)
    (k5 : PySem.W.keepIn K (.ref f5) = true)
    (a6 : PySem.W.nsIn K mainGlobals "_law_make" = some (some (.ref f6)))
    (l6 : K.lookup f6 = some ⟨oc6, od6, .func (PySem.W.fnOf "_law_make" "_law_make" (defArgs s__law_make) (defBody s__law_make) (defScope s__law_make) .none kV6 dc6 pm6 an6 cd6 ct6), sl6⟩)
    (c6 : PySem.W.codeIn K cd6 "_law_make" = true)
    (k6 : PySem.W.keepIn K (.ref f6) = true)
    (a7 : PySem.W.nsIn K mainGlobals "_law_use" = some (some (.ref f7)))
    (l7 : K.lookup f7 = some ⟨oc7, od7, .func (PySem.W.fnOf "_law_use" "_law_use" (defArgs s__law_use) (defBody s__law_use) (defScope s__law_use) .none kV7 dc7 pm7 an7 cd7 ct7), sl7⟩)
    (c7 : PySem.W.codeIn K cd7 "_law_use" = true)
    (k7 : PySem.W.keepIn K (.ref f7) = true)
    (a8 : PySem.W.nsIn K mainGlobals "_law_things" = some (some (.ref f8)))
    (l8 : K.lookup f8 = some ⟨oc8, od8, .func (PySem.W.fnOf "_law_things" "_law_things" (defArgs s__law_things) (defBody s__law_things) (defScope s__law_things) .none kV8 dc8 pm8 an8 cd8 ct8), sl8⟩)
    (c8 : PySem.W.codeIn K cd8 "_law_things" = true)
    (k8 : PySem.W.keepIn K (.ref f8) = true)
    (a9 : PySem.W.nsIn K mainGlobals "_law_using" = some (some (.ref f9)))
    (l9 : K.lookup f9 = some ⟨oc9, od9, .func (PySem.W.fnOf "_law_using" "_law_using" (defArgs s__law_using) (defBody s__law_using) (defScope s__law_using) .none kV9 dc9 pm9 an9 cd9 ct9), sl9⟩)
    (c9 : PySem.W.codeIn K cd9 "_law_using" = true)
    (k9 : PySem.W.keepIn K (.ref f9) = true)
    (a10 : PySem.W.nsIn K mainGlobals "_law_board" = some (some (.ref f10)))
    (l10 : K.lookup f10 = some ⟨oc10, od10, .func (PySem.W.fnOf "_law_board" "_law_board" (defArgs s__law_board) (defBody s__law_board) (defScope s__law_board) .none kV10 dc10 pm10 an10 cd10 ct10), sl10⟩)
    (c10 : PySem.W.codeIn K cd10 "_law_board" = true)
    (k10 : PySem.W.keepIn K (.ref f10) = true)
    (a11 : PySem.W.nsIn K mainGlobals "_law_met" = some (some (.ref f11)))
    (l11 : K.lookup f11 = some ⟨oc11, od11, .func (PySem.W.fnOf "_law_met" "_law_met" (defArgs s__law_met) (defBody s__law_met) (defScope s__law_met) .none kV11 dc11 pm11 an11 cd11 ct11), sl11⟩)
    (c11 : PySem.W.codeIn K cd11 "_law_met" = true)
    (k11 : PySem.W.keepIn K (.ref f11) = true)
    (a12 : PySem.W.nsIn K mainGlobals "_law_whole" = some (some (.ref f12)))
    (l12 : K.lookup f12 = some ⟨oc12, od12, .func (PySem.W.fnOf "_law_whole" "_law_whole" (defArgs s__law_whole) (defBody s__law_whole) (defScope s__law_whole) .none kV12 dc12 pm12 an12 cd12 ct12), sl12⟩)
    (c12 : PySem.W.codeIn K cd12 "_law_whole" = true)
    (k12 : PySem.W.keepIn K (.ref f12) = true)
    (a13 : PySem.W.nsIn K mainGlobals "_law_pair" = some (some (.ref f13)))
    (l13 : K.lookup f13 = some ⟨oc13, od13, .func (PySem.W.fnOf "_law_pair" "_law_pair" (defArgs s__law_pair) (defBody s__law_pair) (defScope s__law_pair) .none kV13 dc13 pm13 an13 cd13 ct13), sl13⟩)
    (c13 : PySem.W.codeIn K cd13 "_law_pair" = true)
    (k13 : PySem.W.keepIn K (.ref f13) = true)
    (a14 : PySem.W.nsIn K mainGlobals "_law_shaped" = some (some (.ref f14)))
    (l14 : K.lookup f14 = some ⟨oc14, od14, .func (PySem.W.fnOf "_law_shaped" "_law_shaped" (defArgs s__law_shaped) (defBody s__law_shaped) (defScope s__law_shaped) .none kV14 dc14 pm14 an14 cd14 ct14), sl14⟩)
    (c14 : PySem.W.codeIn K cd14 "_law_shaped" = true)
    (k14 : PySem.W.keepIn K (.ref f14) = true)
    (a15 : PySem.W.nsIn K mainGlobals "_law_caused" = some (some (.ref f15)))
    (l15 : K.lookup f15 = some ⟨oc15, od15, .func (PySem.W.fnOf "_law_caused" "_law_caused" (defArgs s__law_caused) (defBody s__law_caused) (defScope s__law_caused) .none kV15 dc15 pm15 an15 cd15 ct15), sl15⟩)
    (c15 : PySem.W.codeIn K cd15 "_law_caused" = true)
    (k15 : PySem.W.keepIn K (.ref f15) = true)
    (a16 : PySem.W.nsIn K mainGlobals "_law_stamp" = some (some (.ref f16)))
    (l16 : K.lookup f16 = some ⟨oc16, od16, .func (PySem.W.fnOf "_law_stamp" "_law_stamp" (defArgs s__law_stamp) (defBody s__law_stamp) (defScope s__law_stamp) .none kV16 dc16 pm16 an16 cd16 ct16), sl16⟩)
    (c16 : PySem.W.codeIn K cd16 "_law_stamp" = true)
    (k16 : PySem.W.keepIn K (.ref f16) = true)
    (a17 : PySem.W.nsIn K mainGlobals "_law_steps" = some (some (.ref f17)))
    (l17 : K.lookup f17 = some ⟨oc17, od17, .func (PySem.W.fnOf "_law_steps" "_law_steps" (defArgs s__law_steps) (defBody s__law_steps) (defScope s__law_steps) .none kV17 dc17 pm17 an17 cd17 ct17), sl17⟩)
    (c17 : PySem.W.codeIn K cd17 "_law_steps" = true)
    (k17 : PySem.W.keepIn K (.ref f17) = true)
    (a18 : PySem.W.nsIn K mainGlobals "_law_stamps" = some (some (.ref f18)))
    (l18 : K.lookup f18 = some ⟨oc18, od18, .func (PySem.W.fnOf "_law_stamps" "_law_stamps" (defArgs s__law_stamps) (defBody s__law_stamps) (defScope s__law_stamps) .none kV18 dc18 pm18 an18 cd18 ct18), sl18⟩)
    (c18 : PySem.W.codeIn K cd18 "_law_stamps" = true)
    (k18 : PySem.W.keepIn K (.ref f18) = true)
    (a19 : PySem.W.nsIn K mainGlobals "Make" = some (some (.ref C19)))
    (pg19 : PySem.W.plainGet K C19 Str.empty = true)
    (hd19 : PySem.W.hasDictIn K C19 = true)
    (po19 : PySem.W.plainOver K C19 = true)
    (sa19 : PySem.W.findIn K (.ref C19) "__setattr__" = some (some (.builtin "object.__setattr__")))
    (t1_19 : PySem.W.findIn K (.ref C19) "__class__" = some (some (.builtin "object.__class__")))
    (t2_19 : PySem.W.specialIn K (.builtin "object.__class__") "__get__" = some (some (.builtin "getset_descriptor.__get__")))
    (t3_19 : PySem.W.takesIn K (.builtin "object.__class__") = some true)
    (t4_19 : PySem.W.mroIn K C19 (.type "object") = some true)
    (n19_shape : PySem.W.findIn K (.ref C19) "shape" = some none)
    (n19_parts : PySem.W.findIn K (.ref C19) "parts" = some none)
    (n19_at : PySem.W.findIn K (.ref C19) "at" = some none)
    (n19_place : PySem.W.findIn K (.ref C19) "place" = some none)
    (i20 : PySem.W.findIn K (.ref C19) "__init__" = some (some (.ref f20)))
    (j20 : PySem.W.isFn K (.ref f20) = true)
    (l20 : K.lookup f20 = some ⟨oc20, od20, .func (PySem.W.fnOf "__init__" "Make.__init__" (defArgs s_Make___init__) (defBody s_Make___init__) (defScope s_Make___init__) .none kV20 dc20 pm20 an20 cd20 ct20), sl20⟩)
    (c20 : PySem.W.codeIn K cd20 "Make.__init__" = true)
    (k20 : PySem.W.keepIn K (.ref f20) = true)
    (mk19 : PySem.W.makesIn K C19 = true)
    (kc19 : PySem.W.keepIn K (.ref C19) = true)
    (a21 : PySem.W.nsIn K mainGlobals "Use" = some (some (.ref C21)))
    (pg21 : PySem.W.plainGet K C21 Str.empty = true)
    (hd21 : PySem.W.hasDictIn K C21 = true)
    (po21 : PySem.W.plainOver K C21 = true)
    (sa21 : PySem.W.findIn K (.ref C21) "__setattr__" = some (some (.builtin "object.__setattr__")))
    (t1_21 : PySem.W.findIn K (.ref C21) "__class__" = some (some (.builtin "object.__class__")))
    (t2_21 : PySem.W.specialIn K (.builtin "object.__class__") "__get__" = some (some (.builtin "getset_descriptor.__get__")))
    (t3_21 : PySem.W.takesIn K (.builtin "object.__class__") = some true)
    (t4_21 : PySem.W.mroIn K C21 (.type "object") = some true)
    (n21_at : PySem.W.findIn K (.ref C21) "at" = some none)
    (n21_place : PySem.W.findIn K (.ref C21) "place" = some none)
    (n21_slot : PySem.W.findIn K (.ref C21) "slot" = some none)
    (i22 : PySem.W.findIn K (.ref C21) "__init__" = some (some (.ref f22)))
    (j22 : PySem.W.isFn K (.ref f22) = true)
    (l22 : K.lookup f22 = some ⟨oc22, od22, .func (PySem.W.fnOf "__init__" "Use.__init__" (defArgs s_Use___init__) (defBody s_Use___init__) (defScope s_Use___init__) .none kV22 dc22 pm22 an22 cd22 ct22), sl22⟩)
    (c22 : PySem.W.codeIn K cd22 "Use.__init__" = true)
    (k22 : PySem.W.keepIn K (.ref f22) = true)
    (cg22 : PySem.W.specialIn K (.ref C21) "__getattribute__" = some (some (.builtin "type.__getattribute__")))
    (cr22 : PySem.W.readsIn K C21 (.type "type") = true)
    (cf22 : PySem.W.findCls K (.ref C21) (.type "type") "__init__" = some (.val (.ref f22)))
    (mk21 : PySem.W.makesIn K C21 = true)
    (kc21 : PySem.W.keepIn K (.ref C21) = true)
    (a23 : PySem.W.nsIn K mainGlobals "NumUse" = some (some (.ref C23)))
    (pg23 : PySem.W.plainGet K C23 Str.empty = true)
    (hd23 : PySem.W.hasDictIn K C23 = true)
    (po23 : PySem.W.plainOver K C23 = true)
    (sa23 : PySem.W.findIn K (.ref C23) "__setattr__" = some (some (.builtin "object.__setattr__")))
    (t1_23 : PySem.W.findIn K (.ref C23) "__class__" = some (some (.builtin "object.__class__")))
    (t2_23 : PySem.W.specialIn K (.builtin "object.__class__") "__get__" = some (some (.builtin "getset_descriptor.__get__")))
    (t3_23 : PySem.W.takesIn K (.builtin "object.__class__") = some true)
    (t4_23 : PySem.W.mroIn K C23 (.type "object") = some true)
    (n23_at : PySem.W.findIn K (.ref C23) "at" = some none)
    (n23_place : PySem.W.findIn K (.ref C23) "place" = some none)
    (n23_slot : PySem.W.findIn K (.ref C23) "slot" = some none)
    (i24 : PySem.W.findIn K (.ref C23) "met" = some (some (.ref f24)))
    (j24 : PySem.W.isFn K (.ref f24) = true)
    (l24 : K.lookup f24 = some ⟨oc24, od24, .func (PySem.W.fnOf "met" "NumUse.met" (defArgs s_NumUse_met) (defBody s_NumUse_met) (defScope s_NumUse_met) .none kV24 dc24 pm24 an24 cd24 ct24), sl24⟩)
    (c24 : PySem.W.codeIn K cd24 "NumUse.met" = true)
    (k24 : PySem.W.keepIn K (.ref f24) = true)
    (mk23 : PySem.W.makesIn K C23 = true)
    (kc23 : PySem.W.keepIn K (.ref C23) = true)
    (ii23 : PySem.W.findIn K (.ref C23) "__init__" = some (some (.ref f22)))
    (a25 : PySem.W.nsIn K mainGlobals "CallUse" = some (some (.ref C25)))
    (pg25 : PySem.W.plainGet K C25 Str.empty = true)
    (hd25 : PySem.W.hasDictIn K C25 = true)
    (po25 : PySem.W.plainOver K C25 = true)
    (sa25 : PySem.W.findIn K (.ref C25) "__setattr__" = some (some (.builtin "object.__setattr__")))
    (t1_25 : PySem.W.findIn K (.ref C25) "__class__" = some (some (.builtin "object.__class__")))
    (t2_25 : PySem.W.specialIn K (.builtin "object.__class__") "__get__" = some (some (.builtin "getset_descriptor.__get__")))
    (t3_25 : PySem.W.takesIn K (.builtin "object.__class__") = some true)
    (t4_25 : PySem.W.mroIn K C25 (.type "object") = some true)
    (n25_arg : PySem.W.findIn K (.ref C25) "arg" = some none)
    (n25_out : PySem.W.findIn K (.ref C25) "out" = some none)
    (n25_at : PySem.W.findIn K (.ref C25) "at" = some none)
    (n25_place : PySem.W.findIn K (.ref C25) "place" = some none)
    (n25_slot : PySem.W.findIn K (.ref C25) "slot" = some none)
    (i26 : PySem.W.findIn K (.ref C25) "__init__" = some (some (.ref f26)))
    (j26 : PySem.W.isFn K (.ref f26) = true)
    (l26 : K.lookup f26 = some ⟨oc26, od26, .func (PySem.W.fnOf "__init__" "CallUse.__init__" (defArgs s_CallUse___init__) (defBody s_CallUse___init__) (defScope s_CallUse___init__) .none kV26 dc26 pm26 an26 cd26 ct26), sl26⟩)
    (c26 : PySem.W.codeIn K cd26 "CallUse.__init__" = true)
    (k26 : PySem.W.keepIn K (.ref f26) = true)
    (mk25 : PySem.W.makesIn K C25 = true)
    (kc25 : PySem.W.keepIn K (.ref C25) = true)
    (i27 : PySem.W.findIn K (.ref C25) "met" = some (some (.ref f27)))
    (j27 : PySem.W.isFn K (.ref f27) = true)
    (l27 : K.lookup f27 = some ⟨oc27, od27, .func (PySem.W.fnOf "met" "CallUse.met" (defArgs s_CallUse_met) (defBody s_CallUse_met) (defScope s_CallUse_met) .none kV27 dc27 pm27 an27 cd27 ct27), sl27⟩)
    (c27 : PySem.W.codeIn K cd27 "CallUse.met" = true)
    (k27 : PySem.W.keepIn K (.ref f27) = true)
    (a28 : PySem.W.nsIn K mainGlobals "TakeUse" = some (some (.ref C28)))
    (pg28 : PySem.W.plainGet K C28 Str.empty = true)
    (hd28 : PySem.W.hasDictIn K C28 = true)
    (po28 : PySem.W.plainOver K C28 = true)
    (sa28 : PySem.W.findIn K (.ref C28) "__setattr__" = some (some (.builtin "object.__setattr__")))
    (t1_28 : PySem.W.findIn K (.ref C28) "__class__" = some (some (.builtin "object.__class__")))
    (t2_28 : PySem.W.specialIn K (.builtin "object.__class__") "__get__" = some (some (.builtin "getset_descriptor.__get__")))
    (t3_28 : PySem.W.takesIn K (.builtin "object.__class__") = some true)
    (t4_28 : PySem.W.mroIn K C28 (.type "object") = some true)
    (n28_fields : PySem.W.findIn K (.ref C28) "fields" = some none)
    (n28_at : PySem.W.findIn K (.ref C28) "at" = some none)
    (n28_place : PySem.W.findIn K (.ref C28) "place" = some none)
    (n28_slot : PySem.W.findIn K (.ref C28) "slot" = some none)
    (i29 : PySem.W.findIn K (.ref C28) "__init__" = some (some (.ref f29)))
    (j29 : PySem.W.isFn K (.ref f29) = true)
    (l29 : K.lookup f29 = some ⟨oc29, od29, .func (PySem.W.fnOf "__init__" "TakeUse.__init__" (defArgs s_TakeUse___init__) (defBody s_TakeUse___init__) (defScope s_TakeUse___init__) .none kV29 dc29 pm29 an29 cd29 ct29), sl29⟩)
    (c29 : PySem.W.codeIn K cd29 "TakeUse.__init__" = true)
    (k29 : PySem.W.keepIn K (.ref f29) = true)
    (mk28 : PySem.W.makesIn K C28 = true)
    (kc28 : PySem.W.keepIn K (.ref C28) = true)
    (i30 : PySem.W.findIn K (.ref C28) "met" = some (some (.ref f30)))
    (j30 : PySem.W.isFn K (.ref f30) = true)
    (l30 : K.lookup f30 = some ⟨oc30, od30, .func (PySem.W.fnOf "met" "TakeUse.met" (defArgs s_TakeUse_met) (defBody s_TakeUse_met) (defScope s_TakeUse_met) .none kV30 dc30 pm30 an30 cd30 ct30), sl30⟩)
    (c30 : PySem.W.codeIn K cd30 "TakeUse.met" = true)
    (k30 : PySem.W.keepIn K (.ref f30) = true)
    (a31 : PySem.W.nsIn K mainGlobals "CaseUse" = some (some (.ref C31)))
    (pg31 : PySem.W.plainGet K C31 Str.empty = true)
    (hd31 : PySem.W.hasDictIn K C31 = true)
    (po31 : PySem.W.plainOver K C31 = true)
    (sa31 : PySem.W.findIn K (.ref C31) "__setattr__" = some (some (.builtin "object.__setattr__")))
    (t1_31 : PySem.W.findIn K (.ref C31) "__class__" = some (some (.builtin "object.__class__")))
    (t2_31 : PySem.W.specialIn K (.builtin "object.__class__") "__get__" = some (some (.builtin "getset_descriptor.__get__")))
    (t3_31 : PySem.W.takesIn K (.builtin "object.__class__") = some true)
    (t4_31 : PySem.W.mroIn K C31 (.type "object") = some true)
    (n31_arms : PySem.W.findIn K (.ref C31) "arms" = some none)
    (n31_at : PySem.W.findIn K (.ref C31) "at" = some none)
    (n31_place : PySem.W.findIn K (.ref C31) "place" = some none)
    (n31_slot : PySem.W.findIn K (.ref C31) "slot" = some none)
    (i32 : PySem.W.findIn K (.ref C31) "__init__" = some (some (.ref f32)))
    (j32 : PySem.W.isFn K (.ref f32) = true)
    (l32 : K.lookup f32 = some ⟨oc32, od32, .func (PySem.W.fnOf "__init__" "CaseUse.__init__" (defArgs s_CaseUse___init__) (defBody s_CaseUse___init__) (defScope s_CaseUse___init__) .none kV32 dc32 pm32 an32 cd32 ct32), sl32⟩)
    (c32 : PySem.W.codeIn K cd32 "CaseUse.__init__" = true)
    (k32 : PySem.W.keepIn K (.ref f32) = true)
    (mk31 : PySem.W.makesIn K C31 = true)
    (kc31 : PySem.W.keepIn K (.ref C31) = true)
    (i33 : PySem.W.findIn K (.ref C31) "met" = some (some (.ref f33)))
    (j33 : PySem.W.isFn K (.ref f33) = true)
    (l33 : K.lookup f33 = some ⟨oc33, od33, .func (PySem.W.fnOf "met" "CaseUse.met" (defArgs s_CaseUse_met) (defBody s_CaseUse_met) (defScope s_CaseUse_met) .none kV33 dc33 pm33 an33 cd33 ct33), sl33⟩)
    (c33 : PySem.W.codeIn K cd33 "CaseUse.met" = true)
    (k33 : PySem.W.keepIn K (.ref f33) = true)
    (a34 : PySem.W.nsIn K mainGlobals "RowUse" = some (some (.ref C34)))
    (pg34 : PySem.W.plainGet K C34 Str.empty = true)
    (hd34 : PySem.W.hasDictIn K C34 = true)
    (po34 : PySem.W.plainOver K C34 = true)
    (sa34 : PySem.W.findIn K (.ref C34) "__setattr__" = some (some (.builtin "object.__setattr__")))
    (t1_34 : PySem.W.findIn K (.ref C34) "__class__" = some (some (.builtin "object.__class__")))
    (t2_34 : PySem.W.specialIn K (.builtin "object.__class__") "__get__" = some (some (.builtin "getset_descriptor.__get__")))
    (t3_34 : PySem.W.takesIn K (.builtin "object.__class__") = some true)
    (t4_34 : PySem.W.mroIn K C34 (.type "object") = some true)
    (n34_out : PySem.W.findIn K (.ref C34) "out" = some none)
    (n34_at : PySem.W.findIn K (.ref C34) "at" = some none)
    (n34_place : PySem.W.findIn K (.ref C34) "place" = some none)
    (n34_slot : PySem.W.findIn K (.ref C34) "slot" = some none)
    (i35 : PySem.W.findIn K (.ref C34) "__init__" = some (some (.ref f35)))
    (j35 : PySem.W.isFn K (.ref f35) = true)
    (l35 : K.lookup f35 = some ⟨oc35, od35, .func (PySem.W.fnOf "__init__" "RowUse.__init__" (defArgs s_RowUse___init__) (defBody s_RowUse___init__) (defScope s_RowUse___init__) .none kV35 dc35 pm35 an35 cd35 ct35), sl35⟩)
    (c35 : PySem.W.codeIn K cd35 "RowUse.__init__" = true)
    (k35 : PySem.W.keepIn K (.ref f35) = true)
    (mk34 : PySem.W.makesIn K C34 = true)
    (kc34 : PySem.W.keepIn K (.ref C34) = true)
    (i36 : PySem.W.findIn K (.ref C34) "met" = some (some (.ref f36)))
    (j36 : PySem.W.isFn K (.ref f36) = true)
    (l36 : K.lookup f36 = some ⟨oc36, od36, .func (PySem.W.fnOf "met" "RowUse.met" (defArgs s_RowUse_met) (defBody s_RowUse_met) (defScope s_RowUse_met) .none kV36 dc36 pm36 an36 cd36 ct36), sl36⟩)
    (c36 : PySem.W.codeIn K cd36 "RowUse.met" = true)
    (k36 : PySem.W.keepIn K (.ref f36) = true)
    (a37 : PySem.W.nsIn K mainGlobals "Board" = some (some (.ref C37)))
    (pg37 : PySem.W.plainGet K C37 Str.empty = true)
    (hd37 : PySem.W.hasDictIn K C37 = true)
    (po37 : PySem.W.plainOver K C37 = true)
    (sa37 : PySem.W.findIn K (.ref C37) "__setattr__" = some (some (.builtin "object.__setattr__")))
    (t1_37 : PySem.W.findIn K (.ref C37) "__class__" = some (some (.builtin "object.__class__")))
    (t2_37 : PySem.W.specialIn K (.builtin "object.__class__") "__get__" = some (some (.builtin "getset_descriptor.__get__")))
    (t3_37 : PySem.W.takesIn K (.builtin "object.__class__") = some true)
    (t4_37 : PySem.W.mroIn K C37 (.type "object") = some true)
    (n37_points : PySem.W.findIn K (.ref C37) "points" = some none)
    (n37_makes : PySem.W.findIn K (.ref C37) "makes" = some none)
    (n37_uses : PySem.W.findIn K (.ref C37) "uses" = some none)
    (n37_flows : PySem.W.findIn K (.ref C37) "flows" = some none)
    (n37_root : PySem.W.findIn K (.ref C37) "root" = some none)
    (i38 : PySem.W.findIn K (.ref C37) "__init__" = some (some (.ref f38)))
    (j38 : PySem.W.isFn K (.ref f38) = true)
    (l38 : K.lookup f38 = some ⟨oc38, od38, .func (PySem.W.fnOf "__init__" "Board.__init__" (defArgs s_Board___init__) (defBody s_Board___init__) (defScope s_Board___init__) .none kV38 dc38 pm38 an38 cd38 ct38), sl38⟩)
    (c38 : PySem.W.codeIn K cd38 "Board.__init__" = true)
    (k38 : PySem.W.keepIn K (.ref f38) = true)
    (mk37 : PySem.W.makesIn K C37 = true)
    (kc37 : PySem.W.keepIn K (.ref C37) = true)
    (i39 : PySem.W.findIn K (.ref C37) "point" = some (some (.ref f39)))
    (j39 : PySem.W.isFn K (.ref f39) = true)
    (l39 : K.lookup f39 = some ⟨oc39, od39, .func (PySem.W.fnOf "point" "Board.point" (defArgs s_Board_point) (defBody s_Board_point) (defScope s_Board_point) .none kV39 dc39 pm39 an39 cd39 ct39), sl39⟩)
    (c39 : PySem.W.codeIn K cd39 "Board.point" = true)
    (k39 : PySem.W.keepIn K (.ref f39) = true)
    (i40 : PySem.W.findIn K (.ref C37) "make" = some (some (.ref f40)))
    (j40 : PySem.W.isFn K (.ref f40) = true)
    (l40 : K.lookup f40 = some ⟨oc40, od40, .func (PySem.W.fnOf "make" "Board.make" (defArgs s_Board_make) (defBody s_Board_make) (defScope s_Board_make) .none kV40 dc40 pm40 an40 cd40 ct40), sl40⟩)
    (c40 : PySem.W.codeIn K cd40 "Board.make" = true)
    (k40 : PySem.W.keepIn K (.ref f40) = true)
    (i41 : PySem.W.findIn K (.ref C37) "use" = some (some (.ref f41)))
    (j41 : PySem.W.isFn K (.ref f41) = true)
    (l41 : K.lookup f41 = some ⟨oc41, od41, .func (PySem.W.fnOf "use" "Board.use" (defArgs s_Board_use) (defBody s_Board_use) (defScope s_Board_use) .none kV41 dc41 pm41 an41 cd41 ct41), sl41⟩)
    (c41 : PySem.W.codeIn K cd41 "Board.use" = true)
    (k41 : PySem.W.keepIn K (.ref f41) = true)
    (i42 : PySem.W.findIn K (.ref C37) "flow" = some (some (.ref f42)))
    (j42 : PySem.W.isFn K (.ref f42) = true)
    (l42 : K.lookup f42 = some ⟨oc42, od42, .func (PySem.W.fnOf "flow" "Board.flow" (defArgs s_Board_flow) (defBody s_Board_flow) (defScope s_Board_flow) .none kV42 dc42 pm42 an42 cd42 ct42), sl42⟩)
    (c42 : PySem.W.codeIn K cd42 "Board.flow" = true)
    (k42 : PySem.W.keepIn K (.ref f42) = true)
    (a43 : PySem.W.nsIn K mainGlobals "Log" = some (some (.ref C43)))
    (pg43 : PySem.W.plainGet K C43 Str.empty = true)
    (hd43 : PySem.W.hasDictIn K C43 = true)
    (po43 : PySem.W.plainOver K C43 = true)
    (sa43 : PySem.W.findIn K (.ref C43) "__setattr__" = some (some (.builtin "object.__setattr__")))
    (t1_43 : PySem.W.findIn K (.ref C43) "__class__" = some (some (.builtin "object.__class__")))
    (t2_43 : PySem.W.specialIn K (.builtin "object.__class__") "__get__" = some (some (.builtin "getset_descriptor.__get__")))
    (t3_43 : PySem.W.takesIn K (.builtin "object.__class__") = some true)
    (t4_43 : PySem.W.mroIn K C43 (.type "object") = some true)
    (n43_rows : PySem.W.findIn K (.ref C43) "rows" = some none)
    (n43_bads : PySem.W.findIn K (.ref C43) "bads" = some none)
    (i44 : PySem.W.findIn K (.ref C43) "__init__" = some (some (.ref f44)))
    (j44 : PySem.W.isFn K (.ref f44) = true)
    (l44 : K.lookup f44 = some ⟨oc44, od44, .func (PySem.W.fnOf "__init__" "Log.__init__" (defArgs s_Log___init__) (defBody s_Log___init__) (defScope s_Log___init__) .none kV44 dc44 pm44 an44 cd44 ct44), sl44⟩)
    (c44 : PySem.W.codeIn K cd44 "Log.__init__" = true)
    (k44 : PySem.W.keepIn K (.ref f44) = true)
    (mk43 : PySem.W.makesIn K C43 = true)
    (kc43 : PySem.W.keepIn K (.ref C43) = true)
    (a45 : PySem.W.nsIn K mainGlobals "Settling" = some (some (.ref C45)))
    (pg45 : PySem.W.plainGet K C45 Str.empty = true)
    (hd45 : PySem.W.hasDictIn K C45 = true)
    (po45 : PySem.W.plainOver K C45 = true)
    (sa45 : PySem.W.findIn K (.ref C45) "__setattr__" = some (some (.builtin "object.__setattr__")))
    (t1_45 : PySem.W.findIn K (.ref C45) "__class__" = some (some (.builtin "object.__class__")))
    (t2_45 : PySem.W.specialIn K (.builtin "object.__class__") "__get__" = some (some (.builtin "getset_descriptor.__get__")))
    (t3_45 : PySem.W.takesIn K (.builtin "object.__class__") = some true)
    (t4_45 : PySem.W.mroIn K C45 (.type "object") = some true)
    (n45_board : PySem.W.findIn K (.ref C45) "board" = some none)
    (n45_uses_at : PySem.W.findIn K (.ref C45) "uses_at" = some none)
    (n45_rows : PySem.W.findIn K (.ref C45) "rows" = some none)
    (n45_bads : PySem.W.findIn K (.ref C45) "bads" = some none)
    (n45_known : PySem.W.findIn K (.ref C45) "known" = some none)
    (n45_goes : PySem.W.findIn K (.ref C45) "goes" = some none)
    (n45_heres : PySem.W.findIn K (.ref C45) "heres" = some none)
    (i46 : PySem.W.findIn K (.ref C45) "__init__" = some (some (.ref f46)))
    (j46 : PySem.W.isFn K (.ref f46) = true)
    (l46 : K.lookup f46 = some ⟨oc46, od46, .func (PySem.W.fnOf "__init__" "Settling.__init__" (defArgs s_Settling___init__) (defBody s_Settling___init__) (defScope s_Settling___init__) .none kV46 dc46 pm46 an46 cd46 ct46), sl46⟩)
    (c46 : PySem.W.codeIn K cd46 "Settling.__init__" = true)
    (k46 : PySem.W.keepIn K (.ref f46) = true)
    (mk45 : PySem.W.makesIn K C45 = true)
    (kc45 : PySem.W.keepIn K (.ref C45) = true)
    (i47 : PySem.W.findIn K (.ref C45) "put" = some (some (.ref f47)))
    (j47 : PySem.W.isFn K (.ref f47) = true)
    (l47 : K.lookup f47 = some ⟨oc47, od47, .func (PySem.W.fnOf "put" "Settling.put" (defArgs s_Settling_put) (defBody s_Settling_put) (defScope s_Settling_put) .none kV47 dc47 pm47 an47 cd47 ct47), sl47⟩)
    (c47 : PySem.W.codeIn K cd47 "Settling.put" = true)
    (k47 : PySem.W.keepIn K (.ref f47) = true)
    (i48 : PySem.W.findIn K (.ref C45) "work" = some (some (.ref f48)))
    (j48 : PySem.W.isFn K (.ref f48) = true)
    (l48 : K.lookup f48 = some ⟨oc48, od48, .func (PySem.W.fnOf "work" "Settling.work" (defArgs s_Settling_work) (defBody s_Settling_work) (defScope s_Settling_work) .none kV48 dc48 pm48 an48 cd48 ct48), sl48⟩)
    (c48 : PySem.W.codeIn K cd48 "Settling.work" = true)
    (k48 : PySem.W.keepIn K (.ref f48) = true)
    (i49 : PySem.W.findIn K (.ref C45) "work_goes" = some (some (.ref f49)))
    (j49 : PySem.W.isFn K (.ref f49) = true)
    (l49 : K.lookup f49 = some ⟨oc49, od49, .func (PySem.W.fnOf "work_goes" "Settling.work_goes" (defArgs s_Settling_work_goes) (defBody s_Settling_work_goes) (defScope s_Settling_work_goes) .none kV49 dc49 pm49 an49 cd49 ct49), sl49⟩)
    (c49 : PySem.W.codeIn K cd49 "Settling.work_goes" = true)
    (k49 : PySem.W.keepIn K (.ref f49) = true)
    (i50 : PySem.W.findIn K (.ref C45) "work_uses" = some (some (.ref f50)))
    (j50 : PySem.W.isFn K (.ref f50) = true)
    (l50 : K.lookup f50 = some ⟨oc50, od50, .func (PySem.W.fnOf "work_uses" "Settling.work_uses" (defArgs s_Settling_work_uses) (defBody s_Settling_work_uses) (defScope s_Settling_work_uses) .none kV50 dc50 pm50 an50 cd50 ct50), sl50⟩)
    (c50 : PySem.W.codeIn K cd50 "Settling.work_uses" = true)
    (k50 : PySem.W.keepIn K (.ref f50) = true)
    (i51 : PySem.W.findIn K (.ref C45) "put_flows" = some (some (.ref f51)))
    (j51 : PySem.W.isFn K (.ref f51) = true)
    (l51 : K.lookup f51 = some ⟨oc51, od51, .func (PySem.W.fnOf "put_flows" "Settling.put_flows" (defArgs s_Settling_put_flows) (defBody s_Settling_put_flows) (defScope s_Settling_put_flows) .none kV51 dc51 pm51 an51 cd51 ct51), sl51⟩)
    (c51 : PySem.W.codeIn K cd51 "Settling.put_flows" = true)
    (k51 : PySem.W.keepIn K (.ref f51) = true)
    (i52 : PySem.W.findIn K (.ref C45) "work_here" = some (some (.ref f52)))
    (j52 : PySem.W.isFn K (.ref f52) = true)
    (l52 : K.lookup f52 = some ⟨oc52, od52, .func (PySem.W.fnOf "work_here" "Settling.work_here" (defArgs s_Settling_work_here) (defBody s_Settling_work_here) (defScope s_Settling_work_here) .none kV52 dc52 pm52 an52 cd52 ct52), sl52⟩)
    (c52 : PySem.W.codeIn K cd52 "Settling.work_here" = true)
    (k52 : PySem.W.keepIn K (.ref f52) = true)
    (z_all : PySem.W.nsIn K mainGlobals "all" = some none)
    (z_bool : PySem.W.nsIn K mainGlobals "bool" = some none)
    (z_dict : PySem.W.nsIn K mainGlobals "dict" = some none)
    (z_enumerate : PySem.W.nsIn K mainGlobals "enumerate" = some none)
    (z_int : PySem.W.nsIn K mainGlobals "int" = some none)
    (z_isinstance : PySem.W.nsIn K mainGlobals "isinstance" = some none)
    (z_len : PySem.W.nsIn K mainGlobals "len" = some none)
    (z_list : PySem.W.nsIn K mainGlobals "list" = some none)
    (z_max : PySem.W.nsIn K mainGlobals "max" = some none)
    (z_min : PySem.W.nsIn K mainGlobals "min" = some none)
    (z_range : PySem.W.nsIn K mainGlobals "range" = some none)
    (z_str : PySem.W.nsIn K mainGlobals "str" = some none)
    (z_sum : PySem.W.nsIn K mainGlobals "sum" = some none)
    (z_tuple : PySem.W.nsIn K mainGlobals "tuple" = some none)
    (aL : PySem.W.nsIn K mainGlobals "law" = some (some (.ref fL))) (lL : K.lookup fL = some ⟨ocL, odL, .func (PySem.W.fnOf "law" "law" (defArgs s_law) (defBody s_law) (defScope s_law) .none kVL dcL pmL anL cdL ctL), slL⟩) (cL : PySem.W.codeIn K cdL "law" = true) (kL : PySem.W.keepIn K (.ref fL) = true) :
    ∃ fd : FuncData, (∀ (s : Shared) (v : Value), BindsTo s fd ⟨[v], []⟩ [("_law_script", v)]) ∧ ∀ base : Heap, K.In base → base.Ns mainGlobals mg → FnOk l.prog w K mg base CX0 40 fa fd ["_law_script"] (sp_law K) := by
  have e := hfa.symm.trans (PySem.W.mg_of X G aL)
  cases e
  have T : Txt K mg := ⟨f1, _, fun_mk (st := s_uses_by_point) l1 c1 k1, (fun_mk (st := s_uses_by_point) l1 c1 k1).binds (ps := ["board"]) (fun _ _ _ _ _ _ => lS (fun _ => l0 rfl)), PySem.W.mg_of X G a1, k1,
    f2, _, fun_mk (st := s_settled) l2 c2 k2, (fun_mk (st := s_settled) l2 c2 k2).binds (ps := ["board"]) (fun _ _ _ _ _ _ => lS (fun _ => l0 rfl)), PySem.W.mg_of X G a2, k2,
    f3, _, fun_mk (st := s__law_pick) l3 c3 k3, (fun_mk (st := s__law_pick) l3 c3 k3).binds (ps := ["_law_cell", "_law_turn", "_law_many"]) (fun _ _ _ _ _ _ => lS (fun _ => lS (fun _ => lS (fun _ => l0 rfl)))), PySem.W.mg_of X G a3, k3,
    f4, _, fun_mk (st := s__law_words) l4 c4 k4, (fun_mk (st := s__law_words) l4 c4 k4).binds (ps := ["_law_cell"]) (fun _ _ _ _ _ _ => lS (fun _ => l0 rfl)), PySem.W.mg_of X G a4, k4,
    f5, _, fun_mk (st := s__law_named) l5 c5 k5, (fun_mk (st := s__law_named) l5 c5 k5).binds (ps := ["_law_words_here", "_law_cell", "_law_spots"]) (fun _ _ _ _ _ _ => lS (fun _ => lS (fun _ => lS (fun _ => l0 rfl)))), PySem.W.mg_of X G a5, k5,
    f6, _, fun_mk (st := s__law_make) l6 c6 k6, (fun_mk (st := s__law_make) l6 c6 k6).binds (ps := ["_law_words_here", "_law_cell", "_law_many"]) (fun _ _ _ _ _ _ => lS (fun _ => lS (fun _ => lS (fun _ => l0 rfl)))), PySem.W.mg_of X G a6, k6,
    f7, _, fun_mk (st := s__law_use) l7 c7 k7, (fun_mk (st := s__law_use) l7 c7 k7).binds (ps := ["_law_words_here", "_law_cell", "_law_many"]) (fun _ _ _ _ _ _ => lS (fun _ => lS (fun _ => lS (fun _ => l0 rfl)))), PySem.W.mg_of X G a7, k7,
    f8, _, fun_mk (st := s__law_things) l8 c8 k8, (fun_mk (st := s__law_things) l8 c8 k8).binds (ps := ["_law_script"]) (fun _ _ _ _ _ _ => lS (fun _ => l0 rfl)), PySem.W.mg_of X G a8, k8,
    f9, _, fun_mk (st := s__law_using) l9 c9 k9, (fun_mk (st := s__law_using) l9 c9 k9).binds (ps := ["_law_told"]) (fun _ _ _ _ _ _ => lS (fun _ => l0 rfl)), PySem.W.mg_of X G a9, k9,
    f10, _, fun_mk (st := s__law_board) l10 c10 k10, (fun_mk (st := s__law_board) l10 c10 k10).binds (ps := ["_law_things_here"]) (fun _ _ _ _ _ _ => lS (fun _ => l0 rfl)), PySem.W.mg_of X G a10, k10,
    f11, _, fun_mk (st := s__law_met) l11 c11 k11, (fun_mk (st := s__law_met) l11 c11 k11).binds (ps := ["_law_make_here", "_law_use_here"]) (fun _ _ _ _ _ _ => lS (fun _ => lS (fun _ => l0 rfl))), PySem.W.mg_of X G a11, k11,
    f12, _, fun_mk (st := s__law_whole) l12 c12 k12, (fun_mk (st := s__law_whole) l12 c12 k12).binds (ps := ["_law_x"]) (fun _ _ _ _ _ _ => lS (fun _ => l0 rfl)), PySem.W.mg_of X G a12, k12,
    f13, _, fun_mk (st := s__law_pair) l13 c13 k13, (fun_mk (st := s__law_pair) l13 c13 k13).binds (ps := ["_law_x"]) (fun _ _ _ _ _ _ => lS (fun _ => l0 rfl)), PySem.W.mg_of X G a13, k13,
    f14, _, fun_mk (st := s__law_shaped) l14 c14 k14, (fun_mk (st := s__law_shaped) l14 c14 k14).binds (ps := ["_law_rows"]) (fun _ _ _ _ _ _ => lS (fun _ => l0 rfl)), PySem.W.mg_of X G a14, k14,
    f15, _, fun_mk (st := s__law_caused) l15 c15 k15, (fun_mk (st := s__law_caused) l15 c15 k15).binds (ps := ["_law_things_here", "_law_rows", "_law_number"]) (fun _ _ _ _ _ _ => lS (fun _ => lS (fun _ => lS (fun _ => l0 rfl)))), PySem.W.mg_of X G a15, k15,
    f16, _, fun_mk (st := s__law_stamp) l16 c16 k16, (fun_mk (st := s__law_stamp) l16 c16 k16).binds (ps := ["_law_things_here", "_law_rows", "_law_row"]) (fun _ _ _ _ _ _ => lS (fun _ => lS (fun _ => lS (fun _ => l0 rfl)))), PySem.W.mg_of X G a16, k16,
    f17, _, fun_mk (st := s__law_steps) l17 c17 k17, (fun_mk (st := s__law_steps) l17 c17 k17).binds (ps := ["_law_things_here", "_law_leaving", "_law_number", "_law_row"]) (fun _ _ _ _ _ _ => lS (fun _ => lS (fun _ => lS (fun _ => lS (fun _ => l0 rfl))))), PySem.W.mg_of X G a17, k17,
    f18, _, fun_mk (st := s__law_stamps) l18 c18 k18, (fun_mk (st := s__law_stamps) l18 c18 k18).binds (ps := ["_law_things_here", "_law_rows"]) (fun _ _ _ _ _ _ => lS (fun _ => lS (fun _ => l0 rfl))), PySem.W.mg_of X G a18, k18,
    C19, PySem.W.mg_of X G a19, ⟨pg19, hd19, po19, sa19⟩, fun _ _ _ _ e => .ins e ⟨pg19, hd19, po19, sa19⟩ t1_19 t2_19 t3_19 t4_19, n19_shape, n19_parts, n19_at, n19_place, f20, _, fun_mk (st := s_Make___init__) l20 c20 k20, (fun_mk (st := s_Make___init__) l20 c20 k20).binds (ps := ["self", "shape", "parts", "at", "place"]) (fun _ _ _ _ _ _ => lS (fun _ => lS (fun _ => lS (fun _ => lS (fun _ => lS (fun _ => l0 rfl)))))), ⟨mk19, i20, j20, kc19⟩,
    C21, PySem.W.mg_of X G a21, ⟨pg21, hd21, po21, sa21⟩, fun _ _ _ _ e => .ins e ⟨pg21, hd21, po21, sa21⟩ t1_21 t2_21 t3_21 t4_21, n21_at, n21_place, n21_slot, f22, _, fun_mk (st := s_Use___init__) l22 c22 k22, (fun_mk (st := s_Use___init__) l22 c22 k22).binds (ps := ["self", "at", "place", "slot"]) (fun _ _ _ _ _ _ => lS (fun _ => lS (fun _ => lS (fun _ => lS (fun _ => l0 rfl))))), ⟨cg22, ⟨_, cr22, cf22⟩, k22⟩, ⟨mk21, i22, j22, kc21⟩,
    C23, PySem.W.mg_of X G a23, ⟨pg23, hd23, po23, sa23⟩, fun _ _ _ _ e => .ins e ⟨pg23, hd23, po23, sa23⟩ t1_23 t2_23 t3_23 t4_23, n23_at, n23_place, n23_slot, f24, _, fun_mk (st := s_NumUse_met) l24 c24 k24, (fun_mk (st := s_NumUse_met) l24 c24 k24).binds (ps := ["self", "make"]) (fun _ _ _ _ _ _ => lS (fun _ => lS (fun _ => l0 rfl))), ⟨i24, j24, k24⟩, ⟨mk23, ii23, j22, kc23⟩,
    C25, PySem.W.mg_of X G a25, ⟨pg25, hd25, po25, sa25⟩, fun _ _ _ _ e => .ins e ⟨pg25, hd25, po25, sa25⟩ t1_25 t2_25 t3_25 t4_25, n25_arg, n25_out, n25_at, n25_place, n25_slot, f26, _, fun_mk (st := s_CallUse___init__) l26 c26 k26, (fun_mk (st := s_CallUse___init__) l26 c26 k26).binds (ps := ["self", "at", "place", "slot", "arg", "out"]) (fun _ _ _ _ _ _ => lS (fun _ => lS (fun _ => lS (fun _ => lS (fun _ => lS (fun _ => lS (fun _ => l0 rfl))))))), ⟨mk25, i26, j26, kc25⟩, f27, _, fun_mk (st := s_CallUse_met) l27 c27 k27, (fun_mk (st := s_CallUse_met) l27 c27 k27).binds (ps := ["self", "make"]) (fun _ _ _ _ _ _ => lS (fun _ => lS (fun _ => l0 rfl))), ⟨i27, j27, k27⟩,
    C28, PySem.W.mg_of X G a28, ⟨pg28, hd28, po28, sa28⟩, fun _ _ _ _ e => .ins e ⟨pg28, hd28, po28, sa28⟩ t1_28 t2_28 t3_28 t4_28, n28_fields, n28_at, n28_place, n28_slot, f29, _, fun_mk (st := s_TakeUse___init__) l29 c29 k29, (fun_mk (st := s_TakeUse___init__) l29 c29 k29).binds (ps := ["self", "at", "place", "slot", "fields"]) (fun _ _ _ _ _ _ => lS (fun _ => lS (fun _ => lS (fun _ => lS (fun _ => lS (fun _ => l0 rfl)))))), ⟨mk28, i29, j29, kc28⟩, f30, _, fun_mk (st := s_TakeUse_met) l30 c30 k30, (fun_mk (st := s_TakeUse_met) l30 c30 k30).binds (ps := ["self", "make"]) (fun _ _ _ _ _ _ => lS (fun _ => lS (fun _ => l0 rfl))), ⟨i30, j30, k30⟩,
    C31, PySem.W.mg_of X G a31, ⟨pg31, hd31, po31, sa31⟩, fun _ _ _ _ e => .ins e ⟨pg31, hd31, po31, sa31⟩ t1_31 t2_31 t3_31 t4_31, n31_arms, n31_at, n31_place, n31_slot, f32, _, fun_mk (st := s_CaseUse___init__) l32 c32 k32, (fun_mk (st := s_CaseUse___init__) l32 c32 k32).binds (ps := ["self", "at", "place", "slot", "arms"]) (fun _ _ _ _ _ _ => lS (fun _ => lS (fun _ => lS (fun _ => lS (fun _ => lS (fun _ => l0 rfl)))))), ⟨mk31, i32, j32, kc31⟩, f33, _, fun_mk (st := s_CaseUse_met) l33 c33 k33, (fun_mk (st := s_CaseUse_met) l33 c33 k33).binds (ps := ["self", "make"]) (fun _ _ _ _ _ _ => lS (fun _ => lS (fun _ => l0 rfl))), ⟨i33, j33, k33⟩,
    C34, PySem.W.mg_of X G a34, ⟨pg34, hd34, po34, sa34⟩, fun _ _ _ _ e => .ins e ⟨pg34, hd34, po34, sa34⟩ t1_34 t2_34 t3_34 t4_34, n34_out, n34_at, n34_place, n34_slot, f35, _, fun_mk (st := s_RowUse___init__) l35 c35 k35, (fun_mk (st := s_RowUse___init__) l35 c35 k35).binds (ps := ["self", "at", "place", "slot", "out"]) (fun _ _ _ _ _ _ => lS (fun _ => lS (fun _ => lS (fun _ => lS (fun _ => lS (fun _ => l0 rfl)))))), ⟨mk34, i35, j35, kc34⟩, f36, _, fun_mk (st := s_RowUse_met) l36 c36 k36, (fun_mk (st := s_RowUse_met) l36 c36 k36).binds (ps := ["self", "make"]) (fun _ _ _ _ _ _ => lS (fun _ => lS (fun _ => l0 rfl))), ⟨i36, j36, k36⟩,
    C37, PySem.W.mg_of X G a37, ⟨pg37, hd37, po37, sa37⟩, fun _ _ _ _ e => .ins e ⟨pg37, hd37, po37, sa37⟩ t1_37 t2_37 t3_37 t4_37, n37_points, n37_makes, n37_uses, n37_flows, n37_root, f38, _, fun_mk (st := s_Board___init__) l38 c38 k38, (fun_mk (st := s_Board___init__) l38 c38 k38).binds (ps := ["self"]) (fun _ _ _ _ _ _ => lS (fun _ => l0 rfl)), ⟨mk37, i38, j38, kc37⟩, f39, _, fun_mk (st := s_Board_point) l39 c39 k39, (fun_mk (st := s_Board_point) l39 c39 k39).binds (ps := ["self", "place"]) (fun _ _ _ _ _ _ => lS (fun _ => lS (fun _ => l0 rfl))), ⟨i39, j39, k39⟩, f40, _, fun_mk (st := s_Board_make) l40 c40 k40, (fun_mk (st := s_Board_make) l40 c40 k40).binds (ps := ["self", "shape", "parts", "at", "place"]) (fun _ _ _ _ _ _ => lS (fun _ => lS (fun _ => lS (fun _ => lS (fun _ => lS (fun _ => l0 rfl)))))), ⟨i40, j40, k40⟩, f41, _, fun_mk (st := s_Board_use) l41 c41 k41, (fun_mk (st := s_Board_use) l41 c41 k41).binds (ps := ["self", "one"]) (fun _ _ _ _ _ _ => lS (fun _ => lS (fun _ => l0 rfl))), ⟨i41, j41, k41⟩, f42, _, fun_mk (st := s_Board_flow) l42 c42 k42, (fun_mk (st := s_Board_flow) l42 c42 k42).binds (ps := ["self", "p", "q"]) (fun _ _ _ _ _ _ => lS (fun _ => lS (fun _ => lS (fun _ => l0 rfl)))), ⟨i42, j42, k42⟩,
    C43, PySem.W.mg_of X G a43, ⟨pg43, hd43, po43, sa43⟩, fun _ _ _ _ e => .ins e ⟨pg43, hd43, po43, sa43⟩ t1_43 t2_43 t3_43 t4_43, n43_rows, n43_bads, f44, _, fun_mk (st := s_Log___init__) l44 c44 k44, (fun_mk (st := s_Log___init__) l44 c44 k44).binds (ps := ["self", "rows", "bads"]) (fun _ _ _ _ _ _ => lS (fun _ => lS (fun _ => lS (fun _ => l0 rfl)))), ⟨mk43, i44, j44, kc43⟩,
    C45, PySem.W.mg_of X G a45, ⟨pg45, hd45, po45, sa45⟩, fun _ _ _ _ e => .ins e ⟨pg45, hd45, po45, sa45⟩ t1_45 t2_45 t3_45 t4_45, n45_board, n45_uses_at, n45_rows, n45_bads, n45_known, n45_goes, n45_heres, f46, _, fun_mk (st := s_Settling___init__) l46 c46 k46, (fun_mk (st := s_Settling___init__) l46 c46 k46).binds (ps := ["self", "board"]) (fun _ _ _ _ _ _ => lS (fun _ => lS (fun _ => l0 rfl))), ⟨mk45, i46, j46, kc45⟩, f47, _, fun_mk (st := s_Settling_put) l47 c47 k47, (fun_mk (st := s_Settling_put) l47 c47 k47).binds (ps := ["self", "word", "first", "second", "why"]) (fun _ _ _ _ _ _ => lS (fun _ => lS (fun _ => lS (fun _ => lS (fun _ => lS (fun _ => l0 rfl)))))), ⟨i47, j47, k47⟩, f48, _, fun_mk (st := s_Settling_work) l48 c48 k48, (fun_mk (st := s_Settling_work) l48 c48 k48).binds (ps := ["self", "number"]) (fun _ _ _ _ _ _ => lS (fun _ => lS (fun _ => l0 rfl))), ⟨i48, j48, k48⟩, f49, _, fun_mk (st := s_Settling_work_goes) l49 c49 k49, (fun_mk (st := s_Settling_work_goes) l49 c49 k49).binds (ps := ["self", "number", "p", "q"]) (fun _ _ _ _ _ _ => lS (fun _ => lS (fun _ => lS (fun _ => lS (fun _ => l0 rfl))))), ⟨i49, j49, k49⟩, f50, _, fun_mk (st := s_Settling_work_uses) l50 c50 k50, (fun_mk (st := s_Settling_work_uses) l50 c50 k50).binds (ps := ["self", "number", "m", "p"]) (fun _ _ _ _ _ _ => lS (fun _ => lS (fun _ => lS (fun _ => lS (fun _ => l0 rfl))))), ⟨i50, j50, k50⟩, f51, _, fun_mk (st := s_Settling_put_flows) l51 c51 k51, (fun_mk (st := s_Settling_put_flows) l51 c51 k51).binds (ps := ["self", "flows", "why"]) (fun _ _ _ _ _ _ => lS (fun _ => lS (fun _ => lS (fun _ => l0 rfl)))), ⟨i51, j51, k51⟩, f52, _, fun_mk (st := s_Settling_work_here) l52 c52 k52, (fun_mk (st := s_Settling_work_here) l52 c52 k52).binds (ps := ["self", "number", "m", "p"]) (fun _ _ _ _ _ _ => lS (fun _ => lS (fun _ => lS (fun _ => lS (fun _ => l0 rfl))))), ⟨i52, j52, k52⟩,
    PySem.W.mg_none_of X G z_all,
    PySem.W.mg_none_of X G z_bool,
    PySem.W.mg_none_of X G z_dict,
    PySem.W.mg_none_of X G z_enumerate,
    PySem.W.mg_none_of X G z_int,
    PySem.W.mg_none_of X G z_isinstance,
    PySem.W.mg_none_of X G z_len,
    PySem.W.mg_none_of X G z_list,
    PySem.W.mg_none_of X G z_max,
    PySem.W.mg_none_of X G z_min,
    PySem.W.mg_none_of X G z_range,
    PySem.W.mg_none_of X G z_str,
    PySem.W.mg_none_of X G z_sum,
    PySem.W.mg_none_of X G z_tuple⟩
  exact ⟨PySem.W.fnOf "law" "law" (defArgs s_law) (defBody s_law) (defScope s_law) .none kVL dcL pmL anL cdL ctL, fun s v => .of_eq rfl, fun base _ _ => all_law T (fun_mk (st := s_law) lL cL kL)⟩
theorem walk {l : PySem.W.OpenLaw} {q : Program} {loose : List Str} {XP : (Str → Option Value) → Heap → Prop} {YP : World → Heap → Prop} {d : DefRec} {K : Params → PySem.W.Frag} (hn : l.most = some 63) (hdf : d.params.defaults = [])
    (hY : ∀ (w : World) (h : Heap), YP w h → (K w.params).In h)
    (F : ∀ (w : World) (mg : Str → Option Value) (fa : Addr) (h : Heap), (K w.params).In h → h.Ns mainGlobals mg → mg d.name = some (.ref fa) →
      ∃ fd : FuncData, (∀ (s : Shared) (u : Value), BindsTo s fd ⟨[u], []⟩ [("_law_script", u)]) ∧ ∀ base : Heap, (K w.params).In base → base.Ns mainGlobals mg → FnOk l.prog w (K w.params) mg base CX0 40 fa fd ["_law_script"] (sp_law (K w.params))) :
    PySem.W.WalkO q loose XP YP l.row.toRowW d [] (fun f vs => PySem.call f vs) :=
  L2.Internal.walk_of (n := 63) (k := 40) (x := "_law_script") (CX := fun _ => CX0) (sp := fun w => sp_law (K w.params)) hn (by decide) hdf ⟨rfl, by decide, by decide⟩ hY F (fun _ _ a ns hl _ hS => ⟨a, ns, rfl, hS, hl, fun _ => rfl⟩) fun _ _ _ _ _ z => z
end K33.Internal
open PySem PySem.W PyProof.Rows
set_option maxRecDepth 100000 in
set_option maxHeartbeats 0 in
theorem PySem.Challenge.cw_flowkinds_k33_the_order_of_causes_holds : PySem.Challenge.rw_flowkinds_k33_the_order_of_causes.Holds := by
  w_on; o_law; k_head; (case hw => w_witness2)
  k_fill
  refine K33.Internal.walk (l := PySem.Challenge.rw_flowkinds_k33_the_order_of_causes) rfl rfl (fun w h Y => PySem.W.kIn_of Y) ?F
  case F =>
    intro w mg fa h KX G hmg
    refine' K33.Internal.all_mk KX G hmg ?a1 ?l1 ?c1 ?k1 ?a2 ?l2 ?c2 ?k2 ?a3 ?l3 ?c3 ?k3 ?a4 ?l4 ?c4 ?k4 ?a5 ?l5 ?c5 ?k5 ?a6 ?l6 ?c6 ?k6 ?a7 ?l7 ?c7 ?k7 ?a8 ?l8 ?c8 ?k8 ?a9 ?l9 ?c9 ?k9 ?a10 ?l10 ?c10 ?k10 ?a11 ?l11 ?c11 ?k11 ?a12 ?l12 ?c12 ?k12 ?a13 ?l13 ?c13 ?k13 ?a14 ?l14 ?c14 ?k14 ?a15 ?l15 ?c15 ?k15 ?a16 ?l16 ?c16 ?k16 ?a17 ?l17 ?c17 ?k17 ?a18 ?l18 ?c18 ?k18 ?a19 ?pg19 ?hd19 ?po19 ?sa19 ?t1_19 ?t2_19 ?t3_19 ?t4_19 ?n19_shape ?n19_parts ?n19_at ?n19_place ?i20 ?j20 ?l20 ?c20 ?k20 ?mk19 ?kc19 ?a21 ?pg21 ?hd21 ?po21 ?sa21 ?t1_21 ?t2_21 ?t3_21 ?t4_21 ?n21_at ?n21_place ?n21_slot ?i22 ?j22 ?l22 ?c22 ?k22 ?cg22 ?cr22 ?cf22 ?mk21 ?kc21 ?a23 ?pg23 ?hd23 ?po23 ?sa23 ?t1_23 ?t2_23 ?t3_23 ?t4_23 ?n23_at ?n23_place ?n23_slot ?i24 ?j24 ?l24 ?c24 ?k24 ?mk23 ?kc23 ?ii23 ?a25 ?pg25 ?hd25 ?po25 ?sa25 ?t1_25 ?t2_25 ?t3_25 ?t4_25 ?n25_arg ?n25_out ?n25_at ?n25_place ?n25_slot ?i26 ?j26 ?l26 ?c26 ?k26 ?mk25 ?kc25 ?i27 ?j27 ?l27 ?c27 ?k27 ?a28 ?pg28 ?hd28 ?po28 ?sa28 ?t1_28 ?t2_28 ?t3_28 ?t4_28 ?n28_fields ?n28_at ?n28_place ?n28_slot ?i29 ?j29 ?l29 ?c29 ?k29 ?mk28 ?kc28 ?i30 ?j30 ?l30 ?c30 ?k30 ?a31 ?pg31 ?hd31 ?po31 ?sa31 ?t1_31 ?t2_31 ?t3_31 ?t4_31 ?n31_arms ?n31_at ?n31_place ?n31_slot ?i32 ?j32 ?l32 ?c32 ?k32 ?mk31 ?kc31 ?i33 ?j33 ?l33 ?c33 ?k33 ?a34 ?pg34 ?hd34 ?po34 ?sa34 ?t1_34 ?t2_34 ?t3_34 ?t4_34 ?n34_out ?n34_at ?n34_place ?n34_slot ?i35 ?j35 ?l35 ?c35 ?k35 ?mk34 ?kc34 ?i36 ?j36 ?l36 ?c36 ?k36 ?a37 ?pg37 ?hd37 ?po37 ?sa37 ?t1_37 ?t2_37 ?t3_37 ?t4_37 ?n37_points ?n37_makes ?n37_uses ?n37_flows ?n37_root ?i38 ?j38 ?l38 ?c38 ?k38 ?mk37 ?kc37 ?i39 ?j39 ?l39 ?c39 ?k39 ?i40 ?j40 ?l40 ?c40 ?k40 ?i41 ?j41 ?l41 ?c41 ?k41 ?i42 ?j42 ?l42 ?c42 ?k42 ?a43 ?pg43 ?hd43 ?po43 ?sa43 ?t1_43 ?t2_43 ?t3_43 ?t4_43 ?n43_rows ?n43_bads ?i44 ?j44 ?l44 ?c44 ?k44 ?mk43 ?kc43 ?a45 ?pg45 ?hd45 ?po45 ?sa45 ?t1_45 ?t2_45 ?t3_45 ?t4_45 ?n45_board ?n45_uses_at ?n45_rows ?n45_bads ?n45_known ?n45_goes ?n45_heres ?i46 ?j46 ?l46 ?c46 ?k46 ?mk45 ?kc45 ?i47 ?j47 ?l47 ?c47 ?k47 ?i48 ?j48 ?l48 ?c48 ?k48 ?i49 ?j49 ?l49 ?c49 ?k49 ?i50 ?j50 ?l50 ?c50 ?k50 ?i51 ?j51 ?l51 ?c51 ?k51 ?i52 ?j52 ?l52 ?c52 ?k52 ?z_all ?z_bool ?z_dict ?z_enumerate ?z_int ?z_isinstance ?z_len ?z_list ?z_max ?z_min ?z_range ?z_str ?z_sum ?z_tuple ?aL ?lL ?cL ?kL
    (case a1 => k_is)
    (case l1 => k_is)
    (case c1 => k_is)
    (case k1 => k_is)
    (case a2 => k_is)
    (case l2 => k_is)
    (case c2 => k_is)
    (case k2 => k_is)
    (case a3 => k_is)
    (case l3 => k_is)
    (case c3 => k_is)
    (case k3 => k_is)
    (case a4 => k_is)
    (case l4 => k_is)
    (case c4 => k_is)
    (case k4 => k_is)
    (case a5 => k_is)
    (case l5 => k_is)
    (case c5 => k_is)
    (case k5 => k_is)
    (case a6 => k_is)
    (case l6 => k_is)
    (case c6 => k_is)
    (case k6 => k_is)
    (case a7 => k_is)
    (case l7 => k_is)
    (case c7 => k_is)
    (case k7 => k_is)
    (case a8 => k_is)
    (case l8 => k_is)
    (case c8 => k_is)
    (case k8 => k_is)
    (case a9 => k_is)
    (case l9 => k_is)
    (case c9 => k_is)
    (case k9 => k_is)
    (case a10 => k_is)
    (case l10 => k_is)
    (case c10 => k_is)
    (case k10 => k_is)
    (case a11 => k_is)
    (case l11 => k_is)
    (case c11 => k_is)
    (case k11 => k_is)
    (case a12 => k_is)
    (case l12 => k_is)
    (case c12 => k_is)
    (case k12 => k_is)
    (case a13 => k_is)
    (case l13 => k_is)
    (case c13 => k_is)
    (case k13 => k_is)
    (case a14 => k_is)
    (case l14 => k_is)
    (case c14 => k_is)
    (case k14 => k_is)
    (case a15 => k_is)
    (case l15 => k_is)
    (case c15 => k_is)
    (case k15 => k_is)
    (case a16 => k_is)
    (case l16 => k_is)
    (case c16 => k_is)
    (case k16 => k_is)
    (case a17 => k_is)
    (case l17 => k_is)
    (case c17 => k_is)
    (case k17 => k_is)
    (case a18 => k_is)
    (case l18 => k_is)
    (case c18 => k_is)
    (case k18 => k_is)
    (case a19 => k_is)
    (case pg19 => k_is)
    (case hd19 => k_is)
    (case po19 => k_is)
    (case sa19 => k_is)
    (case t1_19 => k_is)
    (case t2_19 => k_is)
    (case t3_19 => k_is)
    (case t4_19 => k_is)
    (case n19_shape => k_is)
    (case n19_parts => k_is)
    (case n19_at => k_is)
    (case n19_place => k_is)
    (case i20 => k_is)
    (case j20 => k_is)
    (case l20 => k_is)
    (case c20 => k_is)
    (case k20 => k_is)
    (case mk19 => k_is)
    (case kc19 => k_is)
    (case a21 => k_is)
    (case pg21 => k_is)
    (case hd21 => k_is)
    (case po21 => k_is)
    (case sa21 => k_is)
    (case t1_21 => k_is)
    (case t2_21 => k_is)
    (case t3_21 => k_is)
    (case t4_21 => k_is)
    (case n21_at => k_is)
    (case n21_place => k_is)
    (case n21_slot => k_is)
    (case i22 => k_is)
    (case j22 => k_is)
    (case l22 => k_is)
    (case c22 => k_is)
    (case k22 => k_is)
    (case cg22 => k_is)
    (case cr22 => k_is)
    (case cf22 => k_is)
    (case mk21 => k_is)
    (case kc21 => k_is)
    (case a23 => k_is)
    (case pg23 => k_is)
    (case hd23 => k_is)
    (case po23 => k_is)
    (case sa23 => k_is)
    (case t1_23 => k_is)
    (case t2_23 => k_is)
    (case t3_23 => k_is)
    (case t4_23 => k_is)
    (case n23_at => k_is)
    (case n23_place => k_is)
    (case n23_slot => k_is)
    (case i24 => k_is)
    (case j24 => k_is)
    (case l24 => k_is)
    (case c24 => k_is)
    (case k24 => k_is)
    (case mk23 => k_is)
    (case kc23 => k_is)
    (case ii23 => k_is)
    (case a25 => k_is)
    (case pg25 => k_is)
    (case hd25 => k_is)
    (case po25 => k_is)
    (case sa25 => k_is)
    (case t1_25 => k_is)
    (case t2_25 => k_is)
    (case t3_25 => k_is)
    (case t4_25 => k_is)
    (case n25_arg => k_is)
    (case n25_out => k_is)
    (case n25_at => k_is)
    (case n25_place => k_is)
    (case n25_slot => k_is)
    (case i26 => k_is)
    (case j26 => k_is)
    (case l26 => k_is)
    (case c26 => k_is)
    (case k26 => k_is)
    (case mk25 => k_is)
    (case kc25 => k_is)
    (case i27 => k_is)
    (case j27 => k_is)
    (case l27 => k_is)
    (case c27 => k_is)
    (case k27 => k_is)
    (case a28 => k_is)
    (case pg28 => k_is)
    (case hd28 => k_is)
    (case po28 => k_is)
    (case sa28 => k_is)
    (case t1_28 => k_is)
    (case t2_28 => k_is)
    (case t3_28 => k_is)
    (case t4_28 => k_is)
    (case n28_fields => k_is)
    (case n28_at => k_is)
    (case n28_place => k_is)
    (case n28_slot => k_is)
    (case i29 => k_is)
    (case j29 => k_is)
    (case l29 => k_is)
    (case c29 => k_is)
    (case k29 => k_is)
    (case mk28 => k_is)
    (case kc28 => k_is)
    (case i30 => k_is)
    (case j30 => k_is)
    (case l30 => k_is)
    (case c30 => k_is)
    (case k30 => k_is)
    (case a31 => k_is)
    (case pg31 => k_is)
    (case hd31 => k_is)
    (case po31 => k_is)
    (case sa31 => k_is)
    (case t1_31 => k_is)
    (case t2_31 => k_is)
    (case t3_31 => k_is)
    (case t4_31 => k_is)
    (case n31_arms => k_is)
    (case n31_at => k_is)
    (case n31_place => k_is)
    (case n31_slot => k_is)
    (case i32 => k_is)
    (case j32 => k_is)
    (case l32 => k_is)
    (case c32 => k_is)
    (case k32 => k_is)
    (case mk31 => k_is)
    (case kc31 => k_is)
    (case i33 => k_is)
    (case j33 => k_is)
    (case l33 => k_is)
    (case c33 => k_is)
    (case k33 => k_is)
    (case a34 => k_is)
    (case pg34 => k_is)
    (case hd34 => k_is)
    (case po34 => k_is)
    (case sa34 => k_is)
    (case t1_34 => k_is)
    (case t2_34 => k_is)
    (case t3_34 => k_is)
    (case t4_34 => k_is)
    (case n34_out => k_is)
    (case n34_at => k_is)
    (case n34_place => k_is)
    (case n34_slot => k_is)
    (case i35 => k_is)
    (case j35 => k_is)
    (case l35 => k_is)
    (case c35 => k_is)
    (case k35 => k_is)
    (case mk34 => k_is)
    (case kc34 => k_is)
    (case i36 => k_is)
    (case j36 => k_is)
    (case l36 => k_is)
    (case c36 => k_is)
    (case k36 => k_is)
    (case a37 => k_is)
    (case pg37 => k_is)
    (case hd37 => k_is)
    (case po37 => k_is)
    (case sa37 => k_is)
    (case t1_37 => k_is)
    (case t2_37 => k_is)
    (case t3_37 => k_is)
    (case t4_37 => k_is)
    (case n37_points => k_is)
    (case n37_makes => k_is)
    (case n37_uses => k_is)
    (case n37_flows => k_is)
    (case n37_root => k_is)
    (case i38 => k_is)
    (case j38 => k_is)
    (case l38 => k_is)
    (case c38 => k_is)
    (case k38 => k_is)
    (case mk37 => k_is)
    (case kc37 => k_is)
    (case i39 => k_is)
    (case j39 => k_is)
    (case l39 => k_is)
    (case c39 => k_is)
    (case k39 => k_is)
    (case i40 => k_is)
    (case j40 => k_is)
    (case l40 => k_is)
    (case c40 => k_is)
    (case k40 => k_is)
    (case i41 => k_is)
    (case j41 => k_is)
    (case l41 => k_is)
    (case c41 => k_is)
    (case k41 => k_is)
    (case i42 => k_is)
    (case j42 => k_is)
    (case l42 => k_is)
    (case c42 => k_is)
    (case k42 => k_is)
    (case a43 => k_is)
    (case pg43 => k_is)
    (case hd43 => k_is)
    (case po43 => k_is)
    (case sa43 => k_is)
    (case t1_43 => k_is)
    (case t2_43 => k_is)
    (case t3_43 => k_is)
    (case t4_43 => k_is)
    (case n43_rows => k_is)
    (case n43_bads => k_is)
    (case i44 => k_is)
    (case j44 => k_is)
    (case l44 => k_is)
    (case c44 => k_is)
    (case k44 => k_is)
    (case mk43 => k_is)
    (case kc43 => k_is)
    (case a45 => k_is)
    (case pg45 => k_is)
    (case hd45 => k_is)
    (case po45 => k_is)
    (case sa45 => k_is)
    (case t1_45 => k_is)
    (case t2_45 => k_is)
    (case t3_45 => k_is)
    (case t4_45 => k_is)
    (case n45_board => k_is)
    (case n45_uses_at => k_is)
    (case n45_rows => k_is)
    (case n45_bads => k_is)
    (case n45_known => k_is)
    (case n45_goes => k_is)
    (case n45_heres => k_is)
    (case i46 => k_is)
    (case j46 => k_is)
    (case l46 => k_is)
    (case c46 => k_is)
    (case k46 => k_is)
    (case mk45 => k_is)
    (case kc45 => k_is)
    (case i47 => k_is)
    (case j47 => k_is)
    (case l47 => k_is)
    (case c47 => k_is)
    (case k47 => k_is)
    (case i48 => k_is)
    (case j48 => k_is)
    (case l48 => k_is)
    (case c48 => k_is)
    (case k48 => k_is)
    (case i49 => k_is)
    (case j49 => k_is)
    (case l49 => k_is)
    (case c49 => k_is)
    (case k49 => k_is)
    (case i50 => k_is)
    (case j50 => k_is)
    (case l50 => k_is)
    (case c50 => k_is)
    (case k50 => k_is)
    (case i51 => k_is)
    (case j51 => k_is)
    (case l51 => k_is)
    (case c51 => k_is)
    (case k51 => k_is)
    (case i52 => k_is)
    (case j52 => k_is)
    (case l52 => k_is)
    (case c52 => k_is)
    (case k52 => k_is)
    (case z_all => k_is)
    (case z_bool => k_is)
    (case z_dict => k_is)
    (case z_enumerate => k_is)
    (case z_int => k_is)
    (case z_isinstance => k_is)
    (case z_len => k_is)
    (case z_list => k_is)
    (case z_max => k_is)
    (case z_min => k_is)
    (case z_range => k_is)
    (case z_str => k_is)
    (case z_sum => k_is)
    (case z_tuple => k_is)
    (case aL => k_is)
    (case lL => k_is)
    (case cL => k_is)
    (case kL => k_is)
