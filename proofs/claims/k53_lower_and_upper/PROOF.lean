import PyProof.Rows.All
import Wide.All
import OpenK.AllK
import Wide.FinOn
import Lean
import PyProof.EqAt
import PyProof.EqKinds
import PyProof.TupleCall
import PyProof.NeKinds
import PySem.Challenge.RW_flowkinds_k53_lower_and_upper
set_option Elab.async false
set_option linter.all false
set_option maxRecDepth 100000
set_option maxHeartbeats 4000000
set_option genInjectivity false
set_option genSizeOf false
set_option bootstrap.genMatcherCode false
set_option compiler.extract_closed false
namespace L2.Internal
theorem auR (h : True = True := by rfl) : True := trivial
theorem auD (h : True := by decide) : True := trivial
theorem auI (h : True → True = True := by intro _; rfl) : True := trivial
theorem auL (h : True = True ∨ True := by first | exact .inl rfl | exact .inr rfl | assumption) : True := trivial
open PySem PySem.Spec PyProof.Rows

noncomputable abbrev Key := Sum Int Str
noncomputable def keyIs : Key → Value → Bool
  | .inl k, v => Value.isInt k v
  | .inr x, v => Value.isStrOf x v
noncomputable def keyH (w : World) : Key → Int
  | .inl k => hashInt k
  | .inr x => hashStr w x
theorem keyIs_shape : ∀ {k : Key} {v : Value}, keyIs k v = true → (∃ i t, k = Sum.inl i ∧ v = Value.int i t) ∨ (∃ x t, k = Sum.inr x ∧ v = Value.str x t)
  | .inl i, v, h => by
    obtain ⟨t, e⟩ := Value.isInt_shape (k := i) (v := v) h
    exact .inl ⟨i, t, rfl, e⟩
  | .inr x, v, h => by
    obtain ⟨t, e⟩ := Value.isStrOf_shape (x := x) (v := v) h
    exact .inr ⟨x, t, rfl, e⟩
theorem key_ll (a b : Int) : decide ((Sum.inl a : Key) = Sum.inl b) = (a == b) := by
  by_cases e : a = b
  · subst e; simp
  · have h : ¬ (Sum.inl a : Key) = Sum.inl b := fun q => e (Sum.inl.inj q)
    rw [decide_eq_false h]
    exact (beq_eq_false_iff_ne.mpr e).symm
theorem key_rr (a b : Str) : decide ((Sum.inr a : Key) = Sum.inr b) = decide (a = b) := by
  by_cases e : a = b
  · subst e; simp
  · have h : ¬ (Sum.inr a : Key) = Sum.inr b := fun q => e (Sum.inr.inj q)
    rw [decide_eq_false h, decide_eq_false e]
theorem key_lr (a : Int) (b : Str) : decide ((Sum.inl a : Key) = Sum.inr b) = false := decide_eq_false (fun q => nomatch q)
theorem key_rl (a : Str) (b : Int) : decide ((Sum.inr a : Key) = Sum.inl b) = false := decide_eq_false (fun q => nomatch q)

noncomputable def mixKind (prog : Program) (w : World) : PySem.KeyKind prog w Key where
  is := keyIs
  hash := keyH w
  inj := fun v a b ha hb => by
    rcases keyIs_shape ha with ⟨i, t, rfl, rfl⟩ | ⟨x, t, rfl, rfl⟩
    · rcases keyIs_shape hb with ⟨j, u, rfl, e⟩ | ⟨y, u, rfl, e⟩
      · injection e with e1 _; rw [e1]
      · exact nomatch e
    · rcases keyIs_shape hb with ⟨j, u, rfl, e⟩ | ⟨y, u, rfl, e⟩
      · exact nomatch e
      · injection e with e1 _; rw [e1]
  byValue := fun k v h => by
    rcases keyIs_shape h with ⟨i, t, rfl, rfl⟩ | ⟨x, t, rfl, rfl⟩ <;> rfl
  pyHash := fun hv h => by
    rcases keyIs_shape hv with ⟨i, t, rfl, rfl⟩ | ⟨x, t, rfl, rfl⟩
    · exact wpAny_pyHash_int h
    · exact wpAny_pyHash_str h
  eqBool := fun hu hv h => by
    rcases keyIs_shape hu with ⟨i, t, rfl, rfl⟩ | ⟨x, t, rfl, rfl⟩
    · rcases keyIs_shape hv with ⟨j, u, rfl, rfl⟩ | ⟨y, u, rfl, rfl⟩
      · rw [key_ll] at h; exact wpAny_eqBool_int h
      · rw [key_lr] at h; exact SeqAt.EqAt.int_str i t y u _ _ _ _ h
    · rcases keyIs_shape hv with ⟨j, u, rfl, rfl⟩ | ⟨y, u, rfl, rfl⟩
      · rw [key_rl] at h; exact SeqAt.EqAt.str_int x t j u _ _ _ _ h
      · rw [key_rr] at h; exact wpAny_eqBool_str h
  «strs» := fun k x t v h => by
    rcases keyIs_shape h with ⟨i, u, rfl, e⟩ | ⟨y, u, rfl, e⟩
    · exact nomatch e
    · injection e with e1 _
      subst e1
      cases v <;> rfl

end L2.Internal

namespace L2.Internal
open PySem PySem.Spec PyProof.Rows

set_option genInjectivity true in
inductive V where
  | non | bl (b : Bool) | int (i : Int) | str (x : Str) | byt (b : Array UInt8) | flt (b : UInt64) | ref (a : Addr) | ty (n : String)
  deriving DecidableEq

noncomputable def RelV : V → Value → Prop
  | .non, u => u = Value.none
  | .bl b, u => u = Value.bool b
  | .int i, u => ∃ t, u = Value.int i t
  | .str x, u => ∃ t, u = Value.str x t
  | .byt b, u => ∃ t, u = Value.bytes b t
  | .flt b, u => ∃ t, u = Value.float b t
  | .ref a, u => u = Value.ref a
  | .ty n, u => u = Value.type n

noncomputable abbrev Vals : List V → List Value → Prop := Paired RelV
theorem Vals.length {xs : List V} {us : List Value} (r : Vals xs us) : xs.length = us.length := Paired.length r
theorem Vals.get : ∀ {xs : List V} {us : List Value} {i : Nat} {x : V}, Vals xs us → xs[i]? = some x → ∃ u, us[i]? = some u ∧ RelV x u
  | _, _, _, _, .nil, e => by simp at e
  | _, _, 0, _, .cons r _, e => by simp at e; subst e; exact ⟨_, rfl, r⟩
  | _, _, i + 1, x, .cons _ t, e => by
    obtain ⟨u, h1, h2⟩ := Vals.get (i := i) (x := x) t (by simpa using e)
    exact ⟨u, by simpa using h1, h2⟩
theorem Vals.append : ∀ {xs ys : List V} {us ws : List Value}, Vals xs us → Vals ys ws → Vals (xs ++ ys) (us ++ ws)
  | _, _, _, _, .nil, s => s
  | _, _, _, _, .cons r t, s => .cons r (Vals.append t s)
theorem Vals.take : ∀ {xs : List V} {us : List Value} (n : Nat), Vals xs us → Vals (xs.take n) (us.take n)
  | _, _, 0, _ => .nil
  | _, _, _ + 1, .nil => .nil
  | _, _, n + 1, .cons r t => .cons r (Vals.take n t)
theorem Vals.drop : ∀ {xs : List V} {us : List Value} (n : Nat), Vals xs us → Vals (xs.drop n) (us.drop n)
  | _, _, 0, r => r
  | _, _, _ + 1, .nil => .nil
  | _, _, n + 1, .cons _ t => Vals.drop n t
noncomputable def RelO : Option V → Option Value → Prop
  | some v, some u => RelV v u
  | none, none => True
  | _, _ => False
noncomputable def KV {κ : Type} : List (κ × V) → List (κ × Value) → Prop := Paired fun (p : κ × V) (q : κ × Value) => p.1 = q.1 ∧ RelV p.2 q.2

noncomputable def kV : Key → V
  | .inl i => .int i
  | .inr x => .str x

inductive HO where
  /-- a list -/
  | lst (xs : List V)
  /-- a tuple (never changes) -/
  | tup (xs : List V)
  /-- a dict whose keys are ints and texts; one whose keys are tuples of ints and texts (the empty one is both) -/
  | dK (kvs : List (Key × V)) | dT (kvs : List (List Key × V))
  /-- a set of ints: its members, its size -/
  | set (S : Int → Bool) (n : Nat)
  /-- an instance of the class at C, its dict at dx, its attributes -/
  | ins (C dx : Addr) (fs : List (Str × V))
  /-- the dict of the instance at x -/
  | own (x : Addr)
  /-- the dict of an exception -/
  | xd (fs : List (Str × V))
  /-- a bound method, f of x -/
  | met (f x : Addr)
  /-- a range object lo, lo + 1, .. below hi -/
  | rng (lo hi : Int)
  /-- a thing that is known to the object (the script; a dict while a loop walks it): read, never written while it is so -/
  | frz (o : Obj) (u : HO)
  /-- a code object's table -/
  | tbl (ps : Array Value)
  /-- any other thing, by what is true of its one object (a def of one's own: SetO a S n := HO.ext fun h => ..) -/
  | ext (φ : Heap → Prop)

noncomputable abbrev Hp := Addr → Option HO
noncomputable def Tup0 (h : Heap) (a : Addr) (items : Array Value) : Prop := ∃ o, h.get? a = some o ∧ o.cls = .type "tuple" ∧ ∃ n, o.data = .seq items n ∧ o.dict = none
theorem Tup0.tup {h : Heap} {a : Addr} {items : Array Value} : Tup0 h a items → IsTup h a items
  | ⟨o, h1, h2, n, h3, _⟩ => ⟨o, h1, h2, n, h3⟩
theorem Tup0.lt {h : Heap} {a : Addr} {items : Array Value} (p : Tup0 h a items) : a < h.objs.size := by
  obtain ⟨o, e, _⟩ := p
  exact Heap.lt_size e
theorem Tup0.new (h : Heap) (items : Array Value) : Tup0 (h.push { cls := .type "tuple", data := .seq items }) h.objs.size items := ⟨_, Heap.get?_push_size _ rfl, rfl, _, rfl, rfl⟩
noncomputable def upd (H : Hp) (a : Addr) (o : HO) : Hp := fun b => if b = a then some o else H b
theorem upd_same {H : Hp} {a : Addr} {o : HO} : upd H a o a = some o := by unfold upd; rw [if_pos rfl]
theorem upd_ne {H : Hp} {a b : Addr} {o : HO} (h : b ≠ a) : upd H a o b = H b := by unfold upd; rw [if_neg h]
theorem upd_upd {H : Hp} {a : Addr} {o u : HO} : upd (upd H a o) a u = upd H a u := by
  funext b; unfold upd; split <;> rfl
theorem ne_of {H : Hp} {a b : Addr} {o u : HO} (h : H a = some o) (h' : H b = some u) (d : o ≠ u) : a ≠ b := by
  intro e; subst e; rw [h] at h'; exact d (Option.some.inj h')
theorem ne_of_none {H : Hp} {a b : Addr} {o : HO} (h : H a = some o) (h' : H b = none) : a ≠ b := by
  intro e; subst e; rw [h] at h'; cases h'

section
variable (P : Program) (w : World)
noncomputable def ObjOk (H : Hp) (h : Heap) (a : Addr) : HO → Prop
  | .lst xs => xs.length ≤ sizeLine ∧ ∃ (its : List Value) (n : Nat), Vals xs its ∧ h.get? a = some { cls := .type "list", data := .seq its.toArray n }
  | .tup xs => xs.length ≤ sizeLine ∧ ∃ its : List Value, Vals xs its ∧ Tup0 h a its.toArray
  | .dK kvs => kvs.length ≤ sizeLine ∧ (a == sysModules) = false ∧ ∃ vs, KV kvs vs ∧ h.DictOf (mixKind P w) a vs
  | .dT kvs => kvs.length ≤ sizeLine ∧ (a == sysModules) = false ∧ ∃ xs : List (List Key × Addr × Value),
      Paired (fun (p : List Key × V) (q : List Key × Addr × Value) => p.1 = q.1 ∧ H q.2.1 = some (.tup (p.1.map kV)) ∧ RelV p.2 q.2.2) kvs xs ∧
      ∃ o es ep, h.get? a = some o ∧ o.ExactDict ∧ o.data = .dict es ep ∧ es.toList = xs.map (entryOfKey (tupleKind (mixKind P w))) ∧ (xs.map (·.1)).Nodup
  | .set S n => h.SetOf (intKind P w) a S n
  | .ins C dx fs => H dx = some (.own a) ∧ fs.length ≤ 1000 ∧ dx ≠ a ∧ h.get? a = some (PySem.W.instObj C dx) ∧
      ∃ mA, h.Ns1 dx mA ∧ (∀ f, RelO (fs.lookup f) (mA f)) ∧ PySem.Within mA (fs.map (·.1))
  | .own _ => ∃ o, h.get? a = some o
  | .xd fs => ∃ mA, h.Ns1 a mA ∧ ∀ f, RelO (fs.lookup f) (mA f)
  | .rng lo hi => ∃ t u v, h.get? a = some { cls := .type "range", data := .fields #[.int lo t, .int hi u, .int 1 v] }
  | .frz o u => h.get? a = some o ∧ ObjOk H h a u
  | .tbl ps => h.get? a = some { cls := .none, data := .fields ps }
  | .met f x => h.get? a = some (PySem.W.methodObj (.ref f) (.ref x))
  | .ext φ => φ h ∧ (∃ o, h.get? a = some o) ∧ ∀ h1 h2 : Heap, φ h1 → (∀ o, h1.get? a = some o → h2.get? a = some o) → φ h2
noncomputable def HOk (H : Hp) (h : Heap) : Prop := ∀ a o, H a = some o → ObjOk P w H h a o
end

section
variable {P : Program} {w : World} {H H' : Hp} {h h' : Heap} {a : Addr} {o : HO}
theorem ObjOk.lt (x : ObjOk P w H h a o) : a < h.objs.size := by
  cases o with
  | lst xs => obtain ⟨_, _, _, _, e⟩ := x; exact Heap.lt_size e
  | tup xs => obtain ⟨_, _, _, p⟩ := x; exact p.lt
  | dK kvs => obtain ⟨_, _, _, _, o, _, _, e, _⟩ := x; exact Heap.lt_size e
  | dT kvs => obtain ⟨_, _, _, _, o, _, _, e, _⟩ := x; exact Heap.lt_size e
  | set S n => obtain ⟨o, _, _, _, e, _⟩ := x; exact Heap.lt_size e
  | ins C dx fs => obtain ⟨_, _, _, e, _⟩ := x; exact Heap.lt_size e
  | own y => obtain ⟨_, e⟩ := x; exact Heap.lt_size e
  | xd fs => obtain ⟨_, ⟨_, _, _, e, _⟩, _⟩ := x; exact Heap.lt_size e
  | rng lo hi => obtain ⟨_, _, _, e⟩ := x; exact Heap.lt_size e
  | frz ob u => obtain ⟨e, _⟩ := x; exact Heap.lt_size e
  | tbl ps => exact Heap.lt_size (show h.get? a = some _ from x)
  | met f y => exact Heap.lt_size (show h.get? a = some _ from x)
  | ext φ => obtain ⟨_, ⟨_, e⟩, _⟩ := x; exact Heap.lt_size e
theorem Paired.mapP {α β : Type} {F G : α → β → Prop} : ∀ {l₁ : List α} {l₂ : List β}, Paired F l₁ l₂ → (∀ a b, F a b → G a b) → Paired G l₁ l₂
  | _, _, .nil, _ => .nil
  | _, _, .cons r t, f => .cons (f _ _ r) (Paired.mapP t f)
theorem ObjOk.stay (x : ObjOk P w H h a o) (k : ∀ b u, (b = a ∨ H b = some (.own a)) → h.get? b = some u → h'.get? b = some u)
    (ho : ∀ b, H b = some (.own a) → H' b = some (.own a)) (ht : ∀ b xs, H b = some (.tup xs) → H' b = some (.tup xs)) : ObjOk P w H' h' a o := by
  induction o with
  | lst xs => obtain ⟨z, its, n, r, e⟩ := x; exact ⟨z, its, n, r, k _ _ (.inl rfl) e⟩
  | tup xs => obtain ⟨z, its, r, ob, e, c⟩ := x; exact ⟨z, its, r, ob, k _ _ (.inl rfl) e, c⟩
  | dK kvs => obtain ⟨z, y, vs, r, ob, es, ep, e, c⟩ := x; exact ⟨z, y, vs, r, ob, es, ep, k _ _ (.inl rfl) e, c⟩
  | dT kvs =>
    obtain ⟨z, y, xs, r, ob, es, ep, e, c⟩ := x
    exact ⟨z, y, xs, Paired.mapP r fun p q z => ⟨z.1, ht _ _ z.2.1, z.2.2⟩, ob, es, ep, k _ _ (.inl rfl) e, c⟩
  | set S n => obtain ⟨ob, es, ep, t, e, c⟩ := x; exact ⟨ob, es, ep, t, k _ _ (.inl rfl) e, c⟩
  | ins C dx fs =>
    obtain ⟨d, z, ne, e, mA, ⟨od, es, ep, e2, c⟩, r⟩ := x
    exact ⟨ho _ d, z, ne, k _ _ (.inl rfl) e, mA, ⟨od, es, ep, k _ _ (.inr d) e2, c⟩, r⟩
  | own y => obtain ⟨ob, e⟩ := x; exact ⟨ob, k _ _ (.inl rfl) e⟩
  | xd fs => obtain ⟨mA, ⟨od, es, ep, e, c⟩, r⟩ := x; exact ⟨mA, ⟨od, es, ep, k _ _ (.inl rfl) e, c⟩, r⟩
  | rng lo hi => obtain ⟨t, u, v, e⟩ := x; exact ⟨t, u, v, k _ _ (.inl rfl) e⟩
  | frz ob u ih => obtain ⟨e, q⟩ := x; exact ⟨k _ _ (.inl rfl) e, ih q⟩
  | tbl ps =>
    have e : h.get? a = some { cls := .none, data := .fields ps } := x
    show h'.get? a = some { cls := .none, data := .fields ps }
    exact k a _ (.inl rfl) e
  | met f y =>
    have e : h.get? a = some (PySem.W.methodObj (.ref f) (.ref y)) := x
    show h'.get? a = some (PySem.W.methodObj (.ref f) (.ref y))
    exact k a _ (.inl rfl) e
  | ext φ => obtain ⟨p, ⟨o, e⟩, st⟩ := x; exact ⟨st _ _ p fun o q => k _ _ (.inl rfl) q, ⟨o, k _ _ (.inl rfl) e⟩, st⟩
theorem HOk.lt (x : HOk P w H h) (e : H a = some o) : a < h.objs.size := (x a o e).lt
theorem HOk.fresh (x : HOk P w H h) (e : h.objs.size ≤ a) : H a = none := by
  cases q : H a with
  | none => rfl
  | some u => exact absurd (Nat.lt_of_lt_of_le (x.lt q) e) (Nat.lt_irrefl _)
theorem HOk.kept (x : HOk P w H h) (k : ∀ b u, h.get? b = some u → h'.get? b = some u) : HOk P w H h' := fun a o e =>
  (x a o e).stay (fun b u _ q => k b u q) (fun _ q => q) fun _ _ q => q
theorem HOk.laid (x : HOk P w H h) (k : ∀ b u, h.get? b = some u → h'.get? b = some u) (hp : h.objs.size ≤ a) (new : ObjOk P w (upd H a o) h' a o) : HOk P w (upd H a o) h' := fun b u e => by
  have hn := x.fresh hp
  by_cases hb : b = a
  · subst hb; rw [upd_same] at e; cases e; exact new
  · rw [upd_ne hb] at e
    exact (x b u e).stay (fun c v _ q => k c v q) (fun c q => by rw [upd_ne (ne_of_none q hn)]; exact q) fun c xs q => by rw [upd_ne (ne_of_none q hn)]; exact q
end

noncomputable def Rd (H : Hp) (a : Addr) (u : HO) : Prop := H a = some u ∨ ∃ o, H a = some (.frz o u)
theorem Rd.ok {P : Program} {w : World} {H : Hp} {h : Heap} {a : Addr} {u : HO} (r : Rd H a u) (x : HOk P w H h) : ObjOk P w H h a u := by
  rcases r with r | ⟨o, r⟩
  · exact x a u r
  · obtain ⟨_, q⟩ := x a _ r
    exact q
noncomputable def Mut : Option HO → Prop
  | some (.lst _) => True
  | some (.dK _) => True
  | some (.dT _) => True
  | some (.set _ _) => True
  | some (.ins _ _ _) => True
  | some (.ext _) => True
  | _ => False
section
variable {P : Program} {w : World} {H : Hp} {h h' : Heap} {x e : Addr} {o' : HO}
theorem HOk.write (ok : HOk P w H h) (mu : Mut (H x)) (he : e = x ∨ H e = some (.own x)) (k : ∀ b u, b ≠ e → h.get? b = some u → h'.get? b = some u) (heo : ∃ u, h'.get? e = some u)
    (new : ObjOk P w (upd H x o') h' x o') : HOk P w (upd H x o') h' := fun b u q => by
  have nown : ∀ c y, H c = some (.own y) → c ≠ x := fun c y r z => by subst z; rw [r] at mu; exact mu
  have ntup : ∀ c xs, H c = some (.tup xs) → c ≠ x := fun c xs r z => by subst z; rw [r] at mu; exact mu
  by_cases hb : b = x
  · subst hb; rw [upd_same] at q; cases q; exact new
  · rw [upd_ne hb] at q
    by_cases hbe : b = e
    · have q' : H b = some (.own x) := by
        rcases he with z | z
        · exact absurd (hbe.trans z) hb
        · rw [hbe]; exact z
      rw [q] at q'; cases q'
      obtain ⟨v, hv⟩ := heo
      exact ⟨v, by rw [hbe]; exact hv⟩
    · refine (ok b u q).stay (fun c v hc r => k c v ?_ r) (fun c r => by rw [upd_ne (nown c b r)]; exact r) fun c xs r => by rw [upd_ne (ntup c xs r)]; exact r
      rcases hc with rfl | hc
      · exact hbe
      · rintro rfl
        rcases he with z | z
        · exact nown c b hc z
        · rw [hc] at z; cases z; exact hb rfl
end

structure Un (fs ex : List Addr) (H H' : Hp) (h h' : Heap) : Prop where
  keep : ∀ b o, h.get? b = some o → H b = none → b ∉ fs → b ∉ ex → h'.get? b = some o
  slot : ∀ b o, h.get? b = some o → H b = none → b ∈ fs → b ∉ ex → ∃ sl, h'.get? b = some { o with slots := sl }
  free : ∀ b o, h.get? b = some o → H b = none → b ∉ ex → H' b = none
  there : ∀ b o, h.get? b = some o → b ∉ ex → ∃ o', h'.get? b = some o'
  tups : ∀ b xs, H b = some (.tup xs) → H' b = some (.tup xs)
  frzs : ∀ b o u, H b = some (.frz o u) → H' b = some (.frz o u)
  tbls : ∀ b ps, H b = some (.tbl ps) → ∃ more, H' b = some (.tbl (ps ++ more))
section
variable {fs fs' ex ex' : List Addr} {H H1 H2 : Hp} {h h1 h2 h' : Heap} {a x e : Addr} {o : HO}
theorem Un.any (u : Un fs ex H H1 h h1) {b : Addr} {ob : Obj} (q : h.get? b = some ob) (n : H b = none) (hx : b ∉ ex) : ∃ sl, h1.get? b = some { ob with slots := sl } := by
  by_cases hb : b ∈ fs
  · exact u.slot b ob q n hb hx
  · exact ⟨ob.slots, u.keep b ob q n hb hx⟩
theorem Un.trans (a : Un fs ex H H1 h h1) (b : Un fs ex H1 H2 h1 h2) : Un fs ex H H2 h h2 where
  keep := fun c ob q n hc hx => b.keep c ob (a.keep c ob q n hc hx) (a.free c ob q n hx) hc hx
  slot := fun c ob q n hc hx => by
    obtain ⟨sl, e1⟩ := a.slot c ob q n hc hx
    obtain ⟨sl', e2⟩ := b.slot c _ e1 (a.free c ob q n hx) hc hx
    exact ⟨sl', e2⟩
  free := fun c ob q n hx => by
    obtain ⟨o', e1⟩ := a.there c ob q hx
    exact b.free c o' e1 (a.free c ob q n hx) hx
  there := fun c ob q hx => by
    obtain ⟨o', e1⟩ := a.there c ob q hx
    exact b.there c o' e1 hx
  tups := fun c xs q => b.tups c xs (a.tups c xs q)
  frzs := fun c ob xs q => b.frzs c ob xs (a.frzs c ob xs q)
  tbls := fun c ps q => by
    obtain ⟨m1, e1⟩ := a.tbls c ps q
    obtain ⟨m2, e2⟩ := b.tbls c _ e1
    exact ⟨m1 ++ m2, by rw [e2, Array.append_assoc]⟩
theorem Un.kept (k : ∀ b u, h.get? b = some u → h'.get? b = some u) : Un fs ex H H h h' :=
  ⟨fun b ob q _ _ _ => k b ob q, fun b ob q _ _ _ => ⟨ob.slots, k b ob q⟩, fun _ _ _ n _ => n, fun b ob q _ => ⟨ob, k b ob q⟩, fun _ _ q => q, fun _ _ _ q => q, fun _ ps q => ⟨#[], by rw [q]; simp⟩⟩
theorem Un.refl : Un fs ex H H h h := Un.kept fun _ _ q => q
theorem Un.laid (k : ∀ b u, h.get? b = some u → h'.get? b = some u) (hp : h.objs.size ≤ a) (hn : H a = none) : Un fs ex H (upd H a o) h h' where
  keep := fun b u q _ _ _ => k b u q
  slot := fun b u q _ _ _ => ⟨u.slots, k b u q⟩
  free := fun b u q n _ => by rw [upd_ne (Nat.ne_of_lt (Nat.lt_of_lt_of_le (Heap.lt_size q) hp))]; exact n
  there := fun b u q _ => ⟨u, k b u q⟩
  tups := fun b xs q => by rw [upd_ne (ne_of_none q hn)]; exact q
  frzs := fun b u xs q => by rw [upd_ne (ne_of_none q hn)]; exact q
  tbls := fun b ps q => ⟨#[], by rw [upd_ne (ne_of_none q hn), q]; simp⟩
theorem Un.write (mu : Mut (H x)) (he : e = x ∨ H e = some (.own x)) (k : ∀ b u, b ≠ e → h.get? b = some u → h'.get? b = some u) (heo : ∃ u, h'.get? e = some u) : Un fs ex H (upd H x o) h h' := by
  have hx : ∀ b, H b = none → b ≠ x := fun b n z => by subst z; rw [n] at mu; exact mu
  have hb : ∀ b, H b = none → b ≠ e := fun b n z => by
    subst z
    rcases he with r | r
    · exact hx b n r
    · rw [n] at r; cases r
  have hm : ∀ b u, H b = some u → ¬ Mut (some u) → b ≠ x := fun b u q nm z => by subst z; rw [q] at mu; exact nm mu
  refine ⟨fun b u q n _ _ => k b u (hb b n) q, fun b u q n _ _ => ⟨u.slots, k b u (hb b n) q⟩, fun b u q n _ => by rw [upd_ne (hx b n)]; exact n, fun b u q _ => ?_,
    fun b xs q => by rw [upd_ne (hm b _ q fun z => z)]; exact q, fun b u xs q => by rw [upd_ne (hm b _ q fun z => z)]; exact q, fun b ps q => ⟨#[], by rw [upd_ne (hm b _ q fun z => z), q]; simp⟩⟩
  by_cases hbe : b = e
  · subst hbe; exact heo
  · exact ⟨u, k b u hbe q⟩
end

noncomputable def trk (h : Heap) (H : Hp) : List Addr := (List.range h.objs.size).filter fun a => (H a).isSome
noncomputable def hidT (h : Heap) (H : Hp) : Heap := PySem.W.hideAll h (trk h H)
theorem hidT_size (h : Heap) (H : Hp) : (hidT h H).objs.size = h.objs.size := PySem.W.hideAll_size _ _
theorem hidT_get {h : Heap} {H : Hp} {b : Addr} {o : Obj} (e : h.get? b = some o) (n : H b = none) : (hidT h H).get? b = some o :=
  PySem.W.hideAll_get _ e fun hm => by
    have q : (H b).isSome = true := (List.mem_filter.mp hm).2
    rw [n] at q; simp at q
theorem of_hidT {h : Heap} {H : Hp} {b : Addr} {o : Obj} (e : (hidT h H).get? b = some o) : h.get? b = some o ∧ H b = none := by
  have e' : h.get? b = some o := PySem.W.of_hideAll (trk h H) e
  refine ⟨e', ?_⟩
  cases q : H b with
  | none => rfl
  | some x =>
    have hm : b ∈ trk h H := List.mem_filter.mpr ⟨List.mem_range.mpr (Heap.lt_size e'), by simp [q]⟩
    have z : (hidT h H).get? b = none := PySem.W.hideAll_none (trk h H) hm
    rw [z] at e; cases e

noncomputable def allNews (g h : Heap) (L : Addr) : List (Addr × Obj) := (List.range h.objs.size).filterMap fun a => if a = L ∨ (g.get? a).isSome = true then none else (h.get? a).map fun o => (a, o)
noncomputable def rest (g h : Heap) (L d : Addr) : List (Addr × Obj) := (allNews g h L).filter fun p => decide (p.1 ≠ d)
end L2.Internal

namespace L2.Internal
open PySem PySem.Spec PyProof.Rows

structure Mod (K : PySem.W.Frag) (mg : Str → Option Value) (base : Heap) : Prop where
  kin : K.In base
  glob : base.Ns mainGlobals mg
  blt : ∃ mb, base.Ns builtinsNs mb ∧ ∀ x : Str, x ≠ "__name__" → mb x = bootBuiltins x
  nolimit : base.NoLimit

structure Cx where
  prog : Program
  w : World
  K : PySem.W.Frag
  mg : Str → Option Value
  base : Heap
  A : Around
  N : List Str
  s₀ : Shared
  H₀ : Hp
  env : Env
  outer : List Env
  stack : List Env
  ex : List Addr
  fn : Str → Bool
  calm : Bool
  pn : List (Addr × Obj)
  xe : Value → Shared → Prop
noncomputable def frs (l : List Env) : List Addr := l.filterMap (·.frame)
noncomputable abbrev Cx.fs (X : Cx) : List Addr := frs X.outer

noncomputable def Vis (sc : Scope) (x : Str) : Prop := sc.names.lookup x = some .local ∨ sc.names.lookup x = some .cell ∨ sc.names.lookup x = some .free
noncomputable def Loc (sc : Scope) (x : Str) : Prop := sc.names.lookup x = some .local ∨ sc.names.lookup x = some .cell
noncomputable def Look (env : Env) (h : Heap) (m : Str → Option Value) (x : Str) (u : Value) : Prop :=
  (env.kindOf x = some .local ∧ m x = some u) ∨ ((env.kindOf x = some .cell ∨ env.kindOf x = some .free) ∧ ∃ c, env.cells.lookup x = some c ∧ h.IsCell c (some u))

structure Cx.Ok (X : Cx) : Prop where
  mod : Mod X.K X.mg X.base
  kind : X.env.scope.kind = .function
  glob : X.env.globals = mainGlobals
  blt : X.env.builtins = builtinsNs
  above : X.s₀.heap.objs.size ≤ X.env.locals
  inj : ∀ x y c, X.env.cells.lookup x = some c → X.env.cells.lookup y = some c → x = y
  has : ∀ x, (X.env.kindOf x = some .cell ∨ X.env.kindOf x = some .free) → ∃ c, X.env.cells.lookup x = some c
  cab : ∀ x c, X.fn x = true → X.env.cells.lookup x = some c → X.s₀.heap.objs.size ≤ c
  hd : X.calm = true → X.A.handled = none
  frames : X.A.frames = some X.stack
  stk : X.stack = X.outer ∨ (X.stack = X.env :: X.outer ∧ X.env.frame = some X.env.locals)
  exf : ∀ b ∈ X.ex, b ≠ X.env.locals ∧ ∀ x c, X.env.cells.lookup x = some c → c ≠ b
  bs : ∀ b o, X.base.get? b = some o → X.s₀.heap.get? b = some o ∧ X.H₀ b = none
  bsz : X.base.objs.size ≤ X.s₀.heap.objs.size
  noex : ∀ b o, X.base.get? b = some o → b ∉ X.ex
  exfs : ∀ b ∈ X.ex, b ∉ X.fs
  funs : X.s₀.heap.FunFrames X.base X.outer
  frf : ∀ b ∈ X.fs, X.H₀ b = none

structure Inv (X : Cx) (pins : List (Addr × Obj)) (σ : List (Option V)) (H : Hp) (s : Shared) : Prop where
  ok : X.Ok
  os : s.os = X.s₀.os
  bare : AllBare s.gens
  base : Un X.fs X.ex X.H₀ H X.s₀.heap s.heap
  loc : ∃ m, s.heap.Ns X.env.locals m ∧ ∀ (i : Nat) (x : Str) (v : V), X.N[i]? = some x → σ[i]? = some (some v) → Vis X.env.scope x → ∃ u, RelV v u ∧ Look X.env s.heap m x u
  cell : ∀ x c, X.env.cells.lookup x = some c → ∃ v, s.heap.IsCell c v
  free : H X.env.locals = none
  freeC : ∀ x c, X.env.cells.lookup x = some c → H c = none
  pin : ∀ p ∈ X.pn ++ pins, s.heap.get? p.1 = some p.2 ∧ H p.1 = none ∧ p.1 ≠ X.env.locals ∧ p.1 ∉ X.fs ∧ ∀ v, p.2.data ≠ .cell v
  hok : HOk X.prog X.w H s.heap
  len : σ.length = X.N.length

section
variable {X : Cx} {pins : List (Addr × Obj)} {σ : List (Option V)} {H H' : Hp} {s : Shared} {h' : Heap}

theorem Cx.Ok.nofr (ok : X.Ok) {b : Addr} {o : Obj} (e : X.base.get? b = some o) : b ∉ X.fs := fun hb => by
  have := (ok.funs.mem hb).1
  rw [e] at this; cases this
theorem Inv.bs (I : Inv X pins σ H s) : ∀ b o, X.base.get? b = some o → s.heap.get? b = some o ∧ H b = none := fun b o e =>
  ⟨I.base.keep b o (I.ok.bs b o e).1 (I.ok.bs b o e).2 (I.ok.nofr e) (I.ok.noex b o e), I.base.free b o (I.ok.bs b o e).1 (I.ok.bs b o e).2 (I.ok.noex b o e)⟩
theorem Inv.bk (I : Inv X pins σ H s) : ∀ b o, X.base.get? b = some o → s.heap.get? b = some o := fun b o e => (I.bs b o e).1
theorem Inv.mod (I : Inv X pins σ H s) : Mod X.K X.mg X.base := I.ok.mod
theorem Inv.kIn (I : Inv X pins σ H s) : X.K.In s.heap := I.ok.mod.kin.keeps I.bk
theorem Inv.lt (I : Inv X pins σ H s) : X.env.locals < s.heap.objs.size := let ⟨_, hn, _⟩ := I.loc; hn.lt
theorem Inv.sz (I : Inv X pins σ H s) : X.s₀.heap.objs.size ≤ s.heap.objs.size := Nat.le_trans I.ok.above (Nat.le_of_lt I.lt)
theorem Inv.nofs (I : Inv X pins σ H s) {a : Addr} (h : s.heap.objs.size ≤ a) : a ∉ X.fs := fun hb => by
  obtain ⟨_, o, ho, _⟩ := I.ok.funs.mem hb
  exact absurd (Nat.lt_of_lt_of_le (Heap.lt_size ho) (Nat.le_trans I.sz h)) (Nat.lt_irrefl _)
theorem Inv.cne (I : Inv X pins σ H s) : ∀ x c, X.env.cells.lookup x = some c → c ≠ X.env.locals := fun x c e z => by
  obtain ⟨v, o, ho, hd⟩ := I.cell x c e
  obtain ⟨m, ⟨o', es, ep, ho', hd', _⟩, _⟩ := I.loc
  rw [z, ho'] at ho; cases ho; rw [hd'] at hd; cases hd
theorem Inv.funs (I : Inv X pins σ H s) : s.heap.FunFrames X.base X.outer := by
  have all : ∀ (l : List Env), (∀ b ∈ frs l, b ∈ X.fs) → X.s₀.heap.FunFrames X.base l → s.heap.FunFrames X.base l := by
    intro l
    induction l with
    | nil => intro _ _; trivial
    | cons env r ih =>
      intro hs hl
      obtain ⟨hk, ⟨L, o, hf, hn, ho, hd⟩, hr⟩ := hl
      have hL : L ∈ X.fs := hs L (by unfold frs; rw [List.filterMap_cons, hf]; exact List.mem_cons_self)
      obtain ⟨sl, e⟩ := I.base.slot L o ho (I.ok.frf L hL) hL fun z => I.ok.exfs L z hL
      exact ⟨hk, ⟨L, _, hf, hn, e, hd⟩, ih (fun b hb => hs b (by unfold frs; rw [List.filterMap_cons, hf]; exact List.mem_cons_of_mem _ hb)) hr⟩
  exact all X.outer (fun _ hb => hb) I.ok.funs

theorem Inv.stack (I : Inv X pins σ H s) : s.heap.FunFrames X.base X.stack := by
  rcases I.ok.stk with e | ⟨e, hf⟩
  · rw [e]; exact I.funs
  · rw [e]
    obtain ⟨m, hn, _⟩ := I.loc
    refine .cons (by rw [I.ok.kind]; decide) hf hn ?_ I.funs
    exact Heap.get?_none_of_le (Nat.le_trans I.ok.bsz I.ok.above)
theorem Inv.stkSub (I : Inv X pins σ H s) : ∀ b ∈ frs X.stack, b ∈ X.env.locals :: X.fs := fun b hb => by
  rcases I.ok.stk with e | ⟨e, hf⟩
  · rw [e] at hb; exact List.mem_cons_of_mem _ hb
  · rw [e] at hb
    unfold frs at hb
    rw [List.filterMap_cons, hf] at hb
    exact hb
theorem Inv.stkFree (I : Inv X pins σ H s) : ∀ b ∈ frs X.stack, H b = none := fun b hb => by
  rcases List.mem_cons.mp (I.stkSub b hb) with e | hb
  · rw [e]; exact I.free
  · obtain ⟨_, o, ho, _⟩ := I.ok.funs.mem hb
    exact I.base.free b o ho (I.ok.frf b hb) fun z => I.ok.exfs b z hb

theorem Inv.step {g' : Array GenState} {t' : Nat} {d' : Drawn} {ch : List Addr} (I : Inv X pins σ H s)
    (hch : ∀ b ∈ ch, (b ∈ X.ex ∨ X.s₀.heap.objs.size ≤ b) ∧ b ≠ X.env.locals ∧ (∀ x c, X.env.cells.lookup x = some c → c ≠ b) ∧ ∀ p ∈ X.pn ++ pins, p.1 ≠ b)
    (keep : ∀ b o, b ≠ X.env.locals → b ∉ X.fs → b ∉ ch → s.heap.get? b = some o → H b = none → h'.get? b = some o)
    (slot : ∀ b o, b ≠ X.env.locals → b ∈ X.fs → b ∉ ch → s.heap.get? b = some o → H b = none → ∃ sl, h'.get? b = some { o with slots := sl }) (free : ∀ b o, b ∉ ch → s.heap.get? b = some o → H b = none → H' b = none)
    (there : ∀ b o, b ∉ ch → s.heap.get? b = some o → ∃ o', h'.get? b = some o')
    (tups : ∀ b xs, H b = some (.tup xs) → H' b = some (.tup xs)) (frzs : ∀ b o u, H b = some (.frz o u) → H' b = some (.frz o u)) (tbls : ∀ b ps, H b = some (.tbl ps) → ∃ more, H' b = some (.tbl (ps ++ more)))
    (ns : ∀ m, s.heap.Ns X.env.locals m → h'.Ns X.env.locals m) (hok : HOk X.prog X.w H' h') (hg : AllBare g') :
    Inv X pins σ H' { s with heap := h', gens := g', drawn := d', toks := t' } := by
  have neL : ∀ b o, X.s₀.heap.get? b = some o → b ≠ X.env.locals := fun b o e => Nat.ne_of_lt (Nat.lt_of_lt_of_le (Heap.lt_size e) I.ok.above)
  have neC : ∀ b o, X.s₀.heap.get? b = some o → b ∉ X.ex → b ∉ ch := fun b o e hx hb => by
    rcases (hch b hb).1 with z | z
    · exact hx z
    · exact absurd (Nat.lt_of_lt_of_le (Heap.lt_size e) z) (Nat.lt_irrefl _)
  have cellK : ∀ x c, X.env.cells.lookup x = some c → ∀ v, s.heap.IsCell c v → h'.IsCell c v := fun x c e v ⟨o, ho, hd⟩ => by
    have nch : c ∉ ch := fun z => (hch c z).2.2.1 x c e rfl
    by_cases hc : c ∈ X.fs
    · obtain ⟨sl, q⟩ := slot c o (I.cne x c e) hc nch ho (I.freeC x c e)
      exact ⟨_, q, hd⟩
    · exact ⟨o, keep c o (I.cne x c e) hc nch ho (I.freeC x c e), hd⟩
  refine ⟨I.ok, I.os, hg, ⟨fun b o e n hb hx => ?_, fun b o e n hb hx => ?_, fun b o e n hx => ?_, fun b o e hx => ?_, fun b xs e => tups b xs (I.base.tups b xs e), fun b o xs e => frzs b o xs (I.base.frzs b o xs e), fun b ps e => ?_⟩, ?_, fun x c e => ?_, ?_, fun x c e => ?_, fun p hp => ?_, hok, I.len⟩
  · exact keep b o (neL b o e) hb (neC b o e hx) (I.base.keep b o e n hb hx) (I.base.free b o e n hx)
  · obtain ⟨sl, e1⟩ := I.base.slot b o e n hb hx
    obtain ⟨sl', e2⟩ := slot b _ (neL b o e) hb (neC b o e hx) e1 (I.base.free b o e n hx)
    exact ⟨sl', e2⟩
  · obtain ⟨o', e1⟩ := I.base.there b o e hx
    exact free b o' (neC b o e hx) e1 (I.base.free b o e n hx)
  · obtain ⟨o', e1⟩ := I.base.there b o e hx
    exact there b o' (neC b o e hx) e1
  · obtain ⟨m1, e1⟩ := I.base.tbls b ps e
    obtain ⟨m2, e2⟩ := tbls b _ e1
    exact ⟨m1 ++ m2, by rw [e2, Array.append_assoc]⟩
  · obtain ⟨m, hn, hl⟩ := I.loc
    refine ⟨m, ns m hn, fun i x v e1 e2 e3 => ?_⟩
    obtain ⟨u, r, l⟩ := hl i x v e1 e2 e3
    refine ⟨u, r, ?_⟩
    rcases l with l | ⟨k, c, e, z⟩
    · exact .inl l
    · exact .inr ⟨k, c, e, cellK x c e _ z⟩
  · obtain ⟨v, z⟩ := I.cell x c e
    exact ⟨v, cellK x c e v z⟩
  · obtain ⟨m, ⟨o, _, _, ho, _⟩, _⟩ := I.loc
    exact free _ o (fun z => (hch _ z).2.1 rfl) ho I.free
  · obtain ⟨v, o, ho, hd⟩ := I.cell x c e
    exact free c o (fun z => (hch c z).2.2.1 x c e rfl) ho (I.freeC x c e)
  · obtain ⟨e, n, ne, nf, d⟩ := I.pin p hp
    have nch : p.1 ∉ ch := fun z => (hch p.1 z).2.2.2 p hp rfl
    exact ⟨keep p.1 p.2 ne nf nch e n, free p.1 p.2 nch e n, ne, nf, d⟩
theorem Inv.un {t' : Nat} (I : Inv X pins σ H s) (u : Un X.fs [] H H' s.heap h') (hok : HOk X.prog X.w H' h') : Inv X pins σ H' { s with heap := h', toks := t' } := by
  obtain ⟨m, ⟨o, es, ep, ho, r⟩, _⟩ := id I.loc
  obtain ⟨sl, hL⟩ := u.any ho I.free (by simp)
  exact I.step (g' := s.gens) (d' := s.drawn) (ch := []) (fun _ z => nomatch z) (fun b o _ hb _ e n => u.keep b o e n hb (by simp)) (fun b o _ hb _ e n => u.slot b o e n hb (by simp)) (fun b o _ e n => u.free b o e n (by simp)) (fun b o _ e => u.there b o e (by simp)) u.tups u.frzs u.tbls (fun m' hm => by
    obtain ⟨o', es', ep', ho', r'⟩ := hm
    rw [ho] at ho'; cases ho'
    exact ⟨_, es', ep', hL, r'⟩) hok I.bare
theorem Inv.call {g' : Array GenState} {t' : Nat} {d' : Drawn} {ch : List Addr} (I : Inv X pins σ H s) (u : Un (frs X.stack) ch H H' s.heap h') (hok : HOk X.prog X.w H' h') (hg : AllBare g')
    (hch : ∀ b ∈ ch, (b ∈ X.ex ∨ X.s₀.heap.objs.size ≤ b) ∧ b ≠ X.env.locals ∧ (∀ x c, X.env.cells.lookup x = some c → c ≠ b) ∧ ∀ p ∈ X.pn ++ pins, p.1 ≠ b) :
    Inv X pins σ H' { s with heap := h', gens := g', drawn := d', toks := t' } := by
  obtain ⟨m, ⟨o, es, ep, ho, r⟩, _⟩ := id I.loc
  obtain ⟨sl, hL⟩ := u.any ho I.free fun z => (hch _ z).2.1 rfl
  exact I.step (ch := ch) hch (fun b o hL hb hc e n => u.keep b o e n (fun z => (List.mem_cons.mp (I.stkSub b z)).elim hL hb) hc) (fun b o _ _ hc e n => u.any e n hc) (fun b o hc e n => u.free b o e n hc) (fun b o hc e => u.there b o e hc) u.tups u.frzs u.tbls (fun m' hm => by
    obtain ⟨o', es', ep', ho', r'⟩ := hm
    rw [ho] at ho'; cases ho'
    exact ⟨_, es', ep', hL, r'⟩) hok hg
theorem Inv.turned {t' : Nat} {it : Addr} (I : Inv X pins σ H s) (k : ∀ b o, b ≠ it → s.heap.get? b = some o → h'.get? b = some o) (hn : H it = none) (hL : it ≠ X.env.locals)
    (h1 : it ∈ X.ex ∨ X.s₀.heap.objs.size ≤ it) (h2 : ∀ x c, X.env.cells.lookup x = some c → c ≠ it) (h3 : ∀ p ∈ X.pn ++ pins, p.1 ≠ it) : Inv X pins σ H { s with heap := h', toks := t' } := by
  have nit : ∀ b u, H b = some u → b ≠ it := fun b u e z => by rw [z, hn] at e; cases e
  refine I.step (g' := s.gens) (d' := s.drawn) (ch := [it]) (fun b hb => ?_) (fun b o _ _ hc e _ => k b o (fun z => hc (by simp [z])) e) (fun b o _ _ hc e _ => ⟨o.slots, k b o (fun z => hc (by simp [z])) e⟩) (fun _ _ _ _ n => n)
    (fun b o hc e => ⟨o, k b o (fun z => hc (by simp [z])) e⟩) (fun _ _ e => e) (fun _ _ _ e => e) (fun b ps e => ⟨#[], by rw [e]; simp⟩) (fun m hm => ?_) (fun b u e => ?_) I.bare
  · have e : b = it := by simpa using hb
    subst e
    exact ⟨h1, hL, h2, h3⟩
  · obtain ⟨o, es, ep, ho, r⟩ := hm
    exact ⟨o, es, ep, k _ o (Ne.symm hL) ho, r⟩
  · refine (I.hok b u e).stay (fun c v hc q => k c v ?_ q) (fun _ q => q) fun _ _ q => q
    rcases hc with z | z
    · rw [z]; exact nit b u e
    · exact nit c _ z
theorem Inv.tok (I : Inv X pins σ H s) (t : Nat) : Inv X pins σ H { s with toks := t } := I.un (h' := s.heap) (t' := t) Un.refl I.hok
theorem Inv.kept {t' : Nat} (I : Inv X pins σ H s) (k : ∀ b u, s.heap.get? b = some u → h'.get? b = some u) : Inv X pins σ H { s with heap := h', toks := t' } := I.un (Un.kept k) (I.hok.kept k)
theorem Inv.laid {a : Addr} {o : HO} {t' : Nat} (I : Inv X pins σ H s) (k : ∀ b u, s.heap.get? b = some u → h'.get? b = some u) (hp : s.heap.objs.size ≤ a) (new : ObjOk X.prog X.w (upd H a o) h' a o) :
    Inv X pins σ (upd H a o) { s with heap := h', toks := t' } := I.un (Un.laid k hp (I.hok.fresh hp)) (I.hok.laid k hp new)
theorem Inv.write {x e : Addr} {o : HO} {t' : Nat} (I : Inv X pins σ H s) (mu : Mut (H x)) (he : e = x ∨ H e = some (.own x)) (k : ∀ b u, b ≠ e → s.heap.get? b = some u → h'.get? b = some u) (heo : ∃ u, h'.get? e = some u)
    (new : ObjOk X.prog X.w (upd H x o) h' x o) : Inv X pins σ (upd H x o) { s with heap := h', toks := t' } := I.un (Un.write mu he k heo) (I.hok.write mu he k heo new)
theorem Inv.pins_of {pins' : List (Addr × Obj)} (I : Inv X pins σ H s) (h : ∀ p ∈ pins', s.heap.get? p.1 = some p.2 ∧ H p.1 = none ∧ p.1 ≠ X.env.locals ∧ p.1 ∉ X.fs ∧ ∀ v, p.2.data ≠ .cell v) : Inv X pins' σ H s :=
  ⟨I.ok, I.os, I.bare, I.base, I.loc, I.cell, I.free, I.freeC, fun p hp => (List.mem_append.mp hp).elim (fun z => I.pin p (List.mem_append_left _ z)) (h p), I.hok, I.len⟩

theorem nodup_ix {N : List Str} (hN : N.Nodup) {i j : Nat} {x : Str} (a : N[i]? = some x) (b : N[j]? = some x) : i = j := by
  obtain ⟨h1, e1⟩ := List.getElem?_eq_some_iff.mp a
  obtain ⟨h2, e2⟩ := List.getElem?_eq_some_iff.mp b
  exact (List.getElem_inj hN).mp (e1.trans e2.symm)

theorem store_ok2 {M : Model} {A : Around} {E : Value → Shared → Prop} {i : Nat} {x : Str} {v : V} {u : Value} {Q : Unit → Shared → Prop} (I : Inv X pins σ H s) (hN : X.N.Nodup) (hi : X.N[i]? = some x) (hx : Loc X.env.scope x) (r : RelV v u)
    (h : ∀ s', Inv X pins (σ.set i (some v)) H s' → (∃ a, Heap.SameBut a s.heap s'.heap ∧ (a = X.env.locals ∨ X.env.cells.lookup x = some a)) → Q () s') (hf : autoParam (X.fn x = true ∨ X.env.scope.names.lookup x = some .local) L2.Internal.auL._auto_1) : wpAny M A (storeName X.env x u) Q E s := by
  obtain ⟨m, hn, hl⟩ := id I.loc
  have hcls : (X.env.scope.kind == .class || (X.env.scope.kind == .module && X.env.locals != X.env.globals)) = false := by rw [I.ok.kind]; rfl
  have hiσ : i < σ.length := by rw [I.len]; exact (List.getElem?_eq_some_iff.mp hi).1
  have cne := I.cne
  have tracked : ∀ {a : Addr} {h' : Heap}, (∃ o, s.heap.get? a = some o ∧ H a = none) → Heap.SameBut a s.heap h' → HOk X.prog X.w H h' := fun {a h'} ha hs b ob e => by
    obtain ⟨_, _, hfree⟩ := ha
    refine (I.hok b ob e).stay (fun c w' hc q => (hs.2 c ?_).trans q) (fun _ q => q) fun _ _ q => q
    rintro rfl
    rcases hc with rfl | hc
    · rw [hfree] at e; cases e
    · rw [hfree] at hc; cases hc
  rcases hx with hk | hk
  · refine wpAny_storeName_local hk hn (fun h' hn' hs => ?_) hcls
    obtain ⟨oL, _, _, hoL, _⟩ := id hn
    refine h _ ⟨I.ok, I.os, I.bare, ⟨fun b o e n hb hx => ?_, fun b o e n hb hx => ?_, I.base.free, fun b o e hx => ?_, I.base.tups, I.base.frzs, I.base.tbls⟩, ⟨_, hn', fun j y v' e1 e2 e3 => ?_⟩, fun y c e => ?_, I.free, I.freeC, fun p hp => ?_, tracked ⟨oL, hoL, I.free⟩ hs, by simpa using I.len⟩ ⟨_, hs, .inl rfl⟩
    · exact (hs.2 b (Nat.ne_of_lt (Nat.lt_of_lt_of_le (Heap.lt_size e) I.ok.above))).trans (I.base.keep b o e n hb hx)
    · obtain ⟨sl, e1⟩ := I.base.slot b o e n hb hx
      exact ⟨sl, (hs.2 b (Nat.ne_of_lt (Nat.lt_of_lt_of_le (Heap.lt_size e) I.ok.above))).trans e1⟩
    · obtain ⟨o', e1⟩ := I.base.there b o e hx
      exact ⟨o', (hs.2 b (Nat.ne_of_lt (Nat.lt_of_lt_of_le (Heap.lt_size e) I.ok.above))).trans e1⟩
    · by_cases hj : j = i
      · subst hj
        rw [hi] at e1; cases e1
        rw [List.getElem?_set_self hiσ] at e2
        cases e2
        exact ⟨u, r, .inl ⟨hk, by simp⟩⟩
      · rw [List.getElem?_set_ne (Ne.symm hj)] at e2
        obtain ⟨u', r', q⟩ := hl j y v' e1 e2 e3
        refine ⟨u', r', ?_⟩
        rcases q with ⟨k, e⟩ | ⟨k, c, e, z⟩
        · refine .inl ⟨k, ?_⟩
          have : y ≠ x := fun e => hj (nodup_ix hN e1 (e ▸ hi))
          simp [this, e]
        · exact .inr ⟨k, c, e, z.sameBut hs (cne y c e)⟩
    · obtain ⟨w', z⟩ := I.cell y c e
      exact ⟨w', z.sameBut hs (cne y c e)⟩
    · obtain ⟨e, n, ne, nf, d⟩ := I.pin p hp
      exact ⟨(hs.2 p.1 ne).trans e, n, ne, nf, d⟩
  · have hfn : X.fn x = true := by
      rcases hf with z | z
      · exact z
      · rw [z] at hk; cases hk
    obtain ⟨c, hc⟩ := I.ok.has x (.inl hk)
    obtain ⟨w', z⟩ := I.cell x c hc
    refine wpAny_storeName_cell I.ok.kind hk hc z (fun h' hc' hs => ?_)
    obtain ⟨oc, hoc, hocd⟩ := id z
    refine h { s with heap := h' } ⟨I.ok, I.os, I.bare, ⟨fun b o e n hb hx => ?_, fun b o e n hb hx => ?_, I.base.free, fun b o e hx => ?_, I.base.tups, I.base.frzs, I.base.tbls⟩, ⟨m, hn.sameBut hs (Ne.symm (cne x c hc)), fun j y v' e1 e2 e3 => ?_⟩, fun y c' e => ?_, I.free, I.freeC, fun p hp => ?_, tracked ⟨oc, hoc, I.freeC x c hc⟩ hs, by simpa using I.len⟩ ⟨c, hs, .inr hc⟩
    · exact (hs.2 b (Nat.ne_of_lt (Nat.lt_of_lt_of_le (Heap.lt_size e) (I.ok.cab x c hfn hc)))).trans (I.base.keep b o e n hb hx)
    · obtain ⟨sl, e1⟩ := I.base.slot b o e n hb hx
      exact ⟨sl, (hs.2 b (Nat.ne_of_lt (Nat.lt_of_lt_of_le (Heap.lt_size e) (I.ok.cab x c hfn hc)))).trans e1⟩
    · obtain ⟨o', e1⟩ := I.base.there b o e hx
      exact ⟨o', (hs.2 b (Nat.ne_of_lt (Nat.lt_of_lt_of_le (Heap.lt_size e) (I.ok.cab x c hfn hc)))).trans e1⟩
    · by_cases hj : j = i
      · subst hj
        rw [hi] at e1; cases e1
        rw [List.getElem?_set_self hiσ] at e2
        cases e2
        exact ⟨u, r, .inr ⟨.inl hk, c, hc, hc'⟩⟩
      · rw [List.getElem?_set_ne (Ne.symm hj)] at e2
        obtain ⟨u', r', q⟩ := hl j y v' e1 e2 e3
        refine ⟨u', r', ?_⟩
        rcases q with q | ⟨k, c', e, z'⟩
        · exact .inl q
        · refine .inr ⟨k, c', e, z'.sameBut hs ?_⟩
          rintro rfl
          exact hj (nodup_ix hN e1 (I.ok.inj _ _ _ e hc ▸ hi))
    · by_cases hcc : c' = c
      · subst hcc; exact ⟨_, hc'⟩
      · obtain ⟨w2, z2⟩ := I.cell y c' e
        exact ⟨w2, z2.sameBut hs hcc⟩
    · obtain ⟨e, n, ne, nf, d⟩ := I.pin p hp
      refine ⟨(hs.2 p.1 ?_).trans e, n, ne, nf, d⟩
      intro q
      rw [q, hoc] at e
      have q' : oc = p.2 := Option.some.inj e
      exact d w' (by rw [← q']; exact hocd)
theorem store_ok {M : Model} {A : Around} {E : Value → Shared → Prop} {i : Nat} {x : Str} {v : V} {u : Value} {Q : Unit → Shared → Prop} (I : Inv X pins σ H s) (hN : X.N.Nodup) (hi : X.N[i]? = some x) (hx : Loc X.env.scope x) (r : RelV v u)
    (h : ∀ s', Inv X pins (σ.set i (some v)) H s' → Q () s') (hf : autoParam (X.fn x = true ∨ X.env.scope.names.lookup x = some .local) L2.Internal.auL._auto_1) : wpAny M A (storeName X.env x u) Q E s :=
  store_ok2 I hN hi hx r (fun s' I' _ => h s' I') hf
theorem Inv.call' {s' : Shared} {ch : List Addr} (I : Inv X pins σ H s) (ho : s'.os = s.os) (u : Un (frs X.stack) ch H H' s.heap s'.heap) (hok : HOk X.prog X.w H' s'.heap) (hg : AllBare s'.gens)
    (hch : ∀ b ∈ ch, (b ∈ X.ex ∨ X.s₀.heap.objs.size ≤ b) ∧ b ≠ X.env.locals ∧ (∀ x c, X.env.cells.lookup x = some c → c ≠ b) ∧ ∀ p ∈ X.pn ++ pins, p.1 ≠ b) : Inv X pins σ H' s' := by
  obtain ⟨h', g', d', t', o'⟩ := s'
  have e : o' = s.os := ho
  subst e
  exact I.call (g' := g') (t' := t') (d' := d') u hok hg hch
end

noncomputable abbrev XK := Value → Option Addr → Hp → Prop
noncomputable abbrev St := List (Option V)
noncomputable abbrev VK := V → Hp → Prop
noncomputable abbrev TE := St → Hp → VK → Prop
noncomputable abbrev TT := St → Hp → (Bool → Hp → Prop) → Prop
noncomputable abbrev TA := St → Hp → (List V → Hp → Prop) → Prop
structure Ends where
  nx : St → Hp → Prop
  rt : VK
  bk : St → Hp → Prop := fun _ _ => False
  ct : St → Hp → Prop := fun _ _ => False
noncomputable abbrev TS := Ends → St → Hp → Prop

noncomputable def EP (X : Cx) (pins : List (Addr × Obj)) (σ : St) (Q : VK) (u : Value) (s' : Shared) : Prop := ∃ v H', Inv X pins σ H' s' ∧ RelV v u ∧ Q v H'
noncomputable def TP (X : Cx) (pins : List (Addr × Obj)) (σ : St) (Q : Bool → Hp → Prop) (b : Bool) (s' : Shared) : Prop := ∃ H', Inv X pins σ H' s' ∧ Q b H'
noncomputable def AP (X : Cx) (pins : List (Addr × Obj)) (σ : St) (Q : List V → Hp → Prop) (us : List Value) (s' : Shared) : Prop := ∃ vs H', Inv X pins σ H' s' ∧ Vals vs us ∧ Q vs H'
noncomputable def SP (X : Cx) (pins : List (Addr × Obj)) (D : Ends) (f : Flow) (s' : Shared) : Prop :=
  match f with
  | .next => ∃ σ' H', Inv X pins σ' H' s' ∧ D.nx σ' H'
  | .brk => ∃ σ' H', Inv X pins σ' H' s' ∧ D.bk σ' H'
  | .cont => ∃ σ' H', Inv X pins σ' H' s' ∧ D.ct σ' H'
  | .ret u => ∃ v σ' H', Inv X pins σ' H' s' ∧ RelV v u ∧ D.rt v H'

noncomputable def PE (X : Cx) (e : Expr) (t : TE) : Prop :=
  ∀ (pins : List (Addr × Obj)) (s : Shared) (σ : St) (H : Hp) (Q : VK), Inv X pins σ H s → t σ H Q → wpAny (model X.prog X.w) X.A (eval e X.env) (EP X pins σ Q) X.xe s
noncomputable def PT (X : Cx) (e : Expr) (t : TT) : Prop :=
  ∀ (pins : List (Addr × Obj)) (s : Shared) (σ : St) (H : Hp) (Q : Bool → Hp → Prop), Inv X pins σ H s → t σ H Q → wpAny (model X.prog X.w) X.A (isTrue e X.env (eval e X.env)) (TP X pins σ Q) X.xe s
noncomputable def PW (X : Cx) (e : Expr) (t : TT) : Prop :=
  ∀ (whole : Sem Value) (pins : List (Addr × Obj)) (s : Shared) (σ : St) (H : Hp) (Q : Bool → Hp → Prop), Inv X pins σ H s → t σ H Q → wpAny (model X.prog X.w) X.A (isTrue e X.env whole) (TP X pins σ Q) X.xe s
theorem PW.pt {X : Cx} {e : Expr} {t : TT} (h : PW X e t) : PT X e t := h _
noncomputable def PA (X : Cx) (es : List Expr) (t : TA) : Prop :=
  ∀ (pos : Pos) (pins : List (Addr × Obj)) (s : Shared) (σ : St) (H : Hp) (Q : List V → Hp → Prop), Inv X pins σ H s → t σ H Q → wpAny (model X.prog X.w) X.A (spliced (backTo pos (starEach es X.env))) (AP X pins σ Q) X.xe s
noncomputable def PS (X : Cx) (st : Stmt) (t : TS) : Prop :=
  ∀ (pins : List (Addr × Obj)) (s : Shared) (σ : St) (H : Hp) (D : Ends), Inv X pins σ H s → t D σ H → wpAny (model X.prog X.w) X.A (exec st X.env) (SP X pins D) X.xe s
noncomputable def PSs (X : Cx) (st : List Stmt) (t : TS) : Prop :=
  ∀ (pins : List (Addr × Obj)) (s : Shared) (σ : St) (H : Hp) (D : Ends), Inv X pins σ H s → t D σ H → wpAny (model X.prog X.w) X.A (execs st X.env) (SP X pins D) X.xe s
theorem thn {α : Type} {t : Sem α} {Q Q' : α → Shared → Prop} {M : Model} {A : Around} {E : Value → Shared → Prop} {s : Shared} (h : wpAny M A t Q E s) (hQ : ∀ a s, Q a s → Q' a s) : wpAny M A t Q' E s := wpAny_mono h hQ fun _ _ x => x
end L2.Internal

namespace L2.Internal
open PySem PySem.Spec PyProof.Rows
section
variable {X : Cx}

noncomputable def tVar (i : Nat) : TE := fun σ H Q => ∃ v, σ[i]? = some (some v) ∧ Q v H
noncomputable def tC (v : V) : TE := fun _ H Q => Q v H
theorem pe_var {i : Nat} {x : Str} {pos : Pos} (hN : X.N[i]? = some x) (hv : Vis X.env.scope x) (hd : autoParam ((x == ("__debug__" : Str)) = false) L2.Internal.auD._auto_1) (hcd : autoParam ((x == ("__classdict__" : Str)) = false) L2.Internal.auD._auto_1) : PE X (.Name x pos) (tVar i) := by
  intro pins s σ H Q I h
  obtain ⟨v, e, h⟩ := h
  obtain ⟨m, hn, hl⟩ := I.loc
  obtain ⟨u, r, l⟩ := hl i x v hN e hv
  have fin : EP X pins σ Q u s := ⟨v, H, I, r, h⟩
  rcases l with ⟨hk, hm⟩ | ⟨hk, c, hc, hcell⟩
  · exact wpAny_Name (wpAny_loadName_local I.ok.kind hk hn hm fin) hd
  · rcases hk with hk | hk
    · exact wpAny_Name (wpAny_loadName_cell I.ok.kind hk hc hcell fin) hd
    · exact wpAny_Name (wpAny_loadName_free I.ok.kind hk hc hcell fin hcd) hd
theorem pe_int {i j pos} : PE X (.Constant (.int i) j pos) (tC (.int i)) := fun _ _ _ H _ I h => wpAny_Constant_int ⟨.int i, H, I.tok _, ⟨_, rfl⟩, h⟩
theorem pe_bl {b j pos} : PE X (.Constant (.bool b) j pos) (tC (.bl b)) := fun _ _ _ H _ I h => Constant_bool ⟨.bl b, H, I, rfl, h⟩
theorem pe_str {x j pos} : PE X (.Constant (.str x) j pos) (tC (.str x)) := fun _ _ _ H _ I h => Calls.Constant_str ⟨.str x, H, I.tok _, ⟨_, rfl⟩, h⟩

noncomputable def Gl (X : Cx) (x : Str) : Prop := X.env.kindOf x = some .globalImplicit
theorem ld_glob {E : Value → Shared → Prop} {pins : List (Addr × Obj)} {s : Shared} {σ : St} {H : Hp} {x : Str} {u : Value} {pos : Pos} {Q : Value → Shared → Prop} (I : Inv X pins σ H s) (hg : Gl X x) (hm : X.mg x = some u) (h : Q u s)
    (hd : autoParam ((x == ("__debug__" : Str)) = false) L2.Internal.auD._auto_1) : wpAny (model X.prog X.w) X.A (eval (.Name x pos) X.env) Q E s :=
  Calls.Name_function_global I.ok.kind hg (Calls.loadGlobal_global (by rw [I.ok.glob]; exact I.mod.glob.keeps I.bk) hm h) hd
theorem ld_blt {E : Value → Shared → Prop} {pins : List (Addr × Obj)} {s : Shared} {σ : St} {H : Hp} {x : Str} {u : Value} {pos : Pos} {Q : Value → Shared → Prop} (I : Inv X pins σ H s) (hg : Gl X x) (hm : X.mg x = none) (hv : bootBuiltins x = some u) (h : Q u s)
    (hn : autoParam (x ≠ "__name__") L2.Internal.auD._auto_1) (hd : autoParam ((x == ("__debug__" : Str)) = false) L2.Internal.auD._auto_1) : wpAny (model X.prog X.w) X.A (eval (.Name x pos) X.env) Q E s := by
  obtain ⟨mb, h1, h2⟩ := I.mod.blt
  exact Calls.Name_function_global I.ok.kind hg (Calls.loadGlobal_builtin (by rw [I.ok.glob]; exact I.mod.glob.keeps I.bk) hm (by rw [I.ok.blt]; exact h1.keeps I.bk) ((h2 x hn).trans hv) h) hd
theorem pe_glob {x : Str} {v : V} {u : Value} {pos : Pos} (hg : Gl X x) (hm : X.mg x = some u) (r : RelV v u) (hd : autoParam ((x == ("__debug__" : Str)) = false) L2.Internal.auD._auto_1) : PE X (.Name x pos) (tC v) :=
  fun _ _ _ H _ I h => ld_glob I hg hm ⟨v, H, I, r, h⟩ hd
theorem pe_bltn {x : Str} {v : V} {u : Value} {pos : Pos} (hg : Gl X x) (hm : X.mg x = none) (hv : bootBuiltins x = some u) (r : RelV v u) (hn : autoParam (x ≠ "__name__") L2.Internal.auD._auto_1) (hd : autoParam ((x == ("__debug__" : Str)) = false) L2.Internal.auD._auto_1) : PE X (.Name x pos) (tC v) :=
  fun _ _ _ H _ I h => ld_blt I hg hm hv ⟨v, H, I, r, h⟩ hn hd

noncomputable def t2I (ta tb : TE) (k : Int → Int → Hp → Prop) : St → Hp → Prop := fun σ H => ta σ H fun x H1 => tb σ H1 fun y H2 => ∃ i j, x = .int i ∧ y = .int j ∧ k i j H2
noncomputable def tAdd (ta tb : TE) : TE := fun σ H Q => t2I ta tb (fun i j H2 => Q (.int (i + j)) H2) σ H
noncomputable def tSub (ta tb : TE) : TE := fun σ H Q => t2I ta tb (fun i j H2 => Q (.int (i - j)) H2) σ H
noncomputable def tMul (ta tb : TE) : TE := fun σ H Q => t2I ta tb (fun i j H2 => (-(2 ^ 64) < i ∧ i < 2 ^ 64) ∧ Q (.int (i * j)) H2) σ H
variable {a b : Expr} {ta tb : TE} {pos : Pos}
noncomputable def PC (X : Cx) (op : CmpOp) (a b : Expr) (t : TE) : Prop :=
  ∀ (pins : List (Addr × Obj)) (s : Shared) (σ : St) (H : Hp) (Q : VK), Inv X pins σ H s → t σ H Q →
    wpAny (model X.prog X.w) X.A (eval a X.env) (fun v s₁ => wpAny (model X.prog X.w) X.A (eval b X.env) (fun u s₂ => wpAny (model X.prog X.w) X.A (compareOp op v u) (EP X pins σ Q) X.xe s₂) X.xe s₁) X.xe s
theorem nobehind (b : Expr) {op : CmpOp} (h : op ≠ .In) (h2 : op ≠ .NotIn) : behindInMarks op b = false := by
  have e1 : (op == CmpOp.In) = false := by cases op <;> first | rfl | exact absurd rfl h
  have e2 : (op == CmpOp.NotIn) = false := by cases op <;> first | rfl | exact absurd rfl h2
  cases b <;> simp [behindInMarks, e1, e2]
noncomputable def tCmp (p : Int → Int → Bool) (ta tb : TE) : TE := fun σ H Q => t2I ta tb (fun i j H2 => Q (.bl (p i j)) H2) σ H
noncomputable abbrev tLt : TE → TE → TE := tCmp fun i j => decide (i < j)
noncomputable abbrev tLe : TE → TE → TE := tCmp fun i j => decide (i ≤ j)
noncomputable abbrev tGt : TE → TE → TE := tCmp fun i j => decide (j < i)
noncomputable abbrev tGe : TE → TE → TE := tCmp fun i j => decide (j ≤ i)
noncomputable abbrev tEqI : TE → TE → TE := tCmp fun i j => decide (i = j)
noncomputable abbrev tNeI : TE → TE → TE := tCmp fun i j => !decide (i = j)
noncomputable def tIsN (ta : TE) : TE := fun σ H Q => ta σ H fun x H1 => Q (.bl (decide (x = .non))) H1
noncomputable def tNotN (ta : TE) : TE := fun σ H Q => ta σ H fun x H1 => Q (.bl (!decide (x = .non))) H1
theorem RelV.none_iff {x : V} {v : Value} (r : RelV x v) : (v == Value.none) = decide (x = .non) := by
  cases x with
  | non => cases r; rfl
  | bl _ => cases r; rfl
  | int _ => obtain ⟨t, rfl⟩ := r; rfl
  | str _ => obtain ⟨t, rfl⟩ := r; rfl
  | byt _ => obtain ⟨t, rfl⟩ := r; rfl
  | flt _ => obtain ⟨t, rfl⟩ := r; rfl
  | ref _ => cases r; rfl
  | ty _ => cases r; rfl
theorem pc_isN {j pos'} (ha : PE X a ta) : PC X .Is a (.Constant .none j pos') (tIsN ta) := by
  intro pins s σ H Q I h
  refine thn (ha pins s σ H _ I h) fun v s1 ⟨x, H1, I1, r1, q1⟩ => ?_
  exact Constant_none (is_none_gen ⟨.bl _, H1, I1, by rw [r1.none_iff]; rfl, q1⟩)
noncomputable def tB (t : TE) : TT := fun σ H Q => t σ H fun x H1 => ∃ c, x = .bl c ∧ Q c H1
theorem pe_cmp {op : CmpOp} {t : TE} (h : PC X op a b t) (h1 : behindInMarks op b = false := by first | exact nobehind _ (by decide) (by decide) | rfl) : PE X (.Compare a [op] [b] pos) t := fun pins s σ H Q I hw => wpAny_Compare1 (h pins s σ H Q I hw) h1
theorem pt_cmp {op : CmpOp} {t : TE} (h : PC X op a b t) (h1 : behindInMarks op b = false := by first | exact nobehind _ (by decide) (by decide) | rfl) : PT X (.Compare a [op] [b] pos) (tB t) := by
  intro pins s σ H Q I hw
  refine wpAny_isTrue_Compare1 (thn (h pins s σ H _ I hw) fun v s1 h1 => thn h1 fun u s2 h2 => thn h2 fun c s3 ⟨x, H1, I1, r1, q1⟩ => ?_) h1
  obtain ⟨d, rfl, q⟩ := q1
  cases r1
  exact wpAny_truthy_bool ⟨H1, I1, q⟩
theorem pt_val {e : Expr} {t : TE} (h : PE X e t) (he : autoParam (∀ whole, isTrue e X.env whole = (do let v ← whole; standAt e.pos; holding [v] (truthy v))) L2.Internal.auI._auto_1) : PT X e (tB t) := by
  intro pins s σ H Q I hw
  refine isTrue_plain (thn (h pins s σ H _ I hw) fun v s1 ⟨x, H1, I1, r1, q1⟩ => ?_) (he _)
  obtain ⟨d, rfl, q⟩ := q1
  cases r1
  exact wpAny_truthy_bool ⟨H1, I1, q⟩

variable {tA tB' : TT} {rest : List Expr}
noncomputable def tAnd (t u : TT) : TT := fun σ H Q => t σ H fun c H1 => if c = true then u σ H1 Q else Q false H1
noncomputable def tOr (t u : TT) : TT := fun σ H Q => t σ H fun c H1 => if c = true then Q true H1 else u σ H1 Q
noncomputable def tNot (t : TT) : TT := fun σ H Q => t σ H fun c H1 => Q (!c) H1
theorem pw_and1 (ha : PT X a tA) : PW X (.BoolOp .And [a] pos) tA := by
  intro wh pins s σ H Q I h
  refine isTrue_and (thn (ha pins s σ H Q I h) fun c s1 e => ?_)
  cases c with
  | true => exact isTrue_and_nil e
  | false => exact e
theorem pw_or1 (ha : PT X a tA) : PW X (.BoolOp .Or [a] pos) tA := by
  intro wh pins s σ H Q I h
  refine isTrue_or (thn (ha pins s σ H Q I h) fun c s1 e => ?_)
  cases c with
  | false => exact isTrue_or_nil e
  | true => exact e
theorem pw_and (ha : PT X a tA) (hb : PW X (.BoolOp .And (b :: rest) pos) tB') : PW X (.BoolOp .And (a :: b :: rest) pos) (tAnd tA tB') := by
  intro wh pins s σ H Q I h
  refine isTrue_and (thn (ha pins s σ H _ I h) fun c s1 ⟨H1, I1, q1⟩ => ?_)
  cases c with
  | true => exact hb wh pins s1 σ H1 Q I1 q1
  | false => exact ⟨H1, I1, q1⟩
theorem pw_or (ha : PT X a tA) (hb : PW X (.BoolOp .Or (b :: rest) pos) tB') : PW X (.BoolOp .Or (a :: b :: rest) pos) (tOr tA tB') := by
  intro wh pins s σ H Q I h
  refine isTrue_or (thn (ha pins s σ H _ I h) fun c s1 ⟨H1, I1, q1⟩ => ?_)
  cases c with
  | true => exact ⟨H1, I1, q1⟩
  | false => exact hb wh pins s1 σ H1 Q I1 q1
theorem pt_not (ha : PT X a tA) : PT X (.UnaryOp .Not a pos) (tNot tA) := by
  intro pins s σ H Q I h
  exact isTrue_not (ha pins s σ H (fun c H1 => Q (!c) H1) I h)
noncomputable def tAndV (ta tb : TE) : TE := fun σ H Q => ta σ H fun x H1 => ∃ c, x = .bl c ∧ if c = true then tb σ H1 Q else Q (.bl false) H1
noncomputable def tOrV (ta tb : TE) : TE := fun σ H Q => ta σ H fun x H1 => ∃ c, x = .bl c ∧ if c = true then Q (.bl true) H1 else tb σ H1 Q
noncomputable def tNotV (ta : TE) : TE := fun σ H Q => ta σ H fun x H1 => ∃ c, x = .bl c ∧ Q (.bl (!c)) H1
theorem pe_one {op} {t : TE} (h : PE X a t) : PE X (.BoolOp op [a] pos) t := fun pins s σ H Q I hw => BoolOp_one (h pins s σ H Q I hw)
theorem pe_and (ha : PE X a ta) (hb : PE X (.BoolOp .And (b :: rest) pos) tb) : PE X (.BoolOp .And (a :: b :: rest) pos) (tAndV ta tb) := by
  intro pins s σ H Q I h
  refine BoolOp_and (thn (ha pins s σ H _ I h) fun v s1 ⟨x, H1, I1, r1, q1⟩ => ?_)
  obtain ⟨c, rfl, q1⟩ := q1
  cases r1
  refine wpAny_truthy_bool ?_
  cases c with
  | true => exact hb pins s1 σ H1 Q I1 q1
  | false => exact ⟨.bl false, H1, I1, rfl, q1⟩
theorem pe_not (ha : PE X a ta) : PE X (.UnaryOp .Not a pos) (tNotV ta) := by
  intro pins s σ H Q I h
  refine UnaryOp_ (thn (ha pins s σ H _ I h) fun v s1 ⟨x, H1, I1, r1, q1⟩ => ?_)
  obtain ⟨c, rfl, q1⟩ := q1
  cases r1
  exact not_of (wpAny_truthy_bool ⟨.bl (!c), H1, I1, rfl, q1⟩)
noncomputable def tIf (t : TT) (ta tb : TE) : TE := fun σ H Q => t σ H fun c H1 => if c = true then ta σ H1 Q else tb σ H1 Q
theorem pe_ifExp {c : Expr} (hc : PT X c tA) (ha : PE X a ta) (hb : PE X b tb) : PE X (.IfExp c a b pos) (tIf tA ta tb) := by
  intro pins s σ H Q I h
  refine wpAny_IfExp (thn (hc pins s σ H _ I h) fun d s1 ⟨H1, I1, q1⟩ => ?_)
  cases d with
  | true => exact ha pins s1 σ H1 Q I1 q1
  | false => exact hb pins s1 σ H1 Q I1 q1
end
end L2.Internal

namespace L2.Internal
open PySem PySem.Spec PyProof.Rows

noncomputable def SqL (K : PySem.W.Frag) (H : Hp) (a : Addr) (xs : List V) : Prop :=
  Rd H a (.lst xs) ∨
    ∃ (o : Obj) (its : Array Value) (n : Nat), K.lookup a = some o ∧ o.cls = .type "list" ∧ o.dict = none ∧ o.data = .seq its n ∧ its.size ≤ sizeLine ∧ Vals xs its.toList
noncomputable def SqT (K : PySem.W.Frag) (H : Hp) (a : Addr) (xs : List V) : Prop :=
  Rd H a (.tup xs) ∨
    ∃ (o : Obj) (its : Array Value) (n : Nat), K.lookup a = some o ∧ o.cls = .type "tuple" ∧ o.data = .seq its n ∧ its.size ≤ sizeLine ∧ Vals xs its.toList
noncomputable def absV : Value → Option V
  | .none => some .non
  | .bool b => some (.bl b)
  | .int i _ => some (.int i)
  | .str x _ => some (.str x)
  | .bytes b _ => some (.byt b)
  | .float b _ => some (.flt b)
  | .ref a => some (.ref a)
  | .type n => some (.ty n)
  | _ => none
theorem RelV.abs {x : V} {u : Value} (r : RelV x u) : absV u = some x := by
  cases x with
  | non => cases r; rfl
  | bl _ => cases r; rfl
  | int _ => obtain ⟨t, rfl⟩ := r; rfl
  | str _ => obtain ⟨t, rfl⟩ := r; rfl
  | byt _ => obtain ⟨t, rfl⟩ := r; rfl
  | flt _ => obtain ⟨t, rfl⟩ := r; rfl
  | ref _ => cases r; rfl
  | ty _ => cases r; rfl
theorem RelV.inj {x y : V} {u : Value} (r : RelV x u) (q : RelV y u) : x = y := Option.some.inj (r.abs.symm.trans q.abs)
theorem Vals.inj : ∀ {xs ys : List V} {us : List Value}, Vals xs us → Vals ys us → xs = ys
  | _, _, _, .nil, .nil => rfl
  | _, _, _, .cons r t, .cons r' t' => by rw [r.inj r', Vals.inj t t']
section
variable {X : Cx} {pins : List (Addr × Obj)} {σ : St} {H : Hp} {s : Shared} {a : Addr} {xs ys : List V}
theorem SqL.of {K : PySem.W.Frag} (h : H a = some (.lst xs)) : SqL K H a xs := .inl (.inl h)
theorem SqT.of {K : PySem.W.Frag} (h : H a = some (.tup xs)) : SqT K H a xs := .inl (.inl h)
theorem Inv.list (I : Inv X pins σ H s) (h : SqL X.K H a xs) : ∃ its : List Value, Vals xs its ∧ PlainL s.heap a its.toArray ∧ xs.length ≤ sizeLine := by
  rcases h with h | ⟨o, its, n, hk, hc, hd, hs, hz, r⟩
  · obtain ⟨z, its, n, r, e⟩ := h.ok I.hok
    exact ⟨its, r, ⟨_, n, e, rfl, rfl, rfl⟩, z⟩
  · refine ⟨its.toList, r, ⟨o, n, I.kIn a o hk, hc, hd, by simpa using hs⟩, ?_⟩
    have e := r.length
    simp only [Array.length_toList] at e
    omega
theorem Inv.tuple (I : Inv X pins σ H s) (h : SqT X.K H a xs) : ∃ its : List Value, Vals xs its ∧ IsTup s.heap a its.toArray ∧ xs.length ≤ sizeLine := by
  rcases h with h | ⟨o, its, n, hk, hc, hs, hz, r⟩
  · obtain ⟨z, its, r, p⟩ := h.ok I.hok
    exact ⟨its, r, p.tup, z⟩
  · refine ⟨its.toList, r, ⟨o, I.kIn a o hk, hc, n, by simpa using hs⟩, ?_⟩
    have e := r.length
    simp only [Array.length_toList] at e
    omega
theorem Inv.list_inj (I : Inv X pins σ H s) (h : SqL X.K H a xs) (h' : SqL X.K H a ys) : xs = ys := by
  obtain ⟨its, r, ⟨o, n, e, _, _, d⟩, _⟩ := I.list h
  obtain ⟨its', r', ⟨o', n', e', _, _, d'⟩, _⟩ := I.list h'
  rw [e] at e'; cases e'
  rw [d] at d'
  injection d' with d1 _
  have : its = its' := by simpa using congrArg Array.toList d1
  subst this
  exact r.inj r'
theorem Inv.tuple_inj (I : Inv X pins σ H s) (h : SqT X.K H a xs) (h' : SqT X.K H a ys) : xs = ys := by
  obtain ⟨its, r, ⟨o, e, _, n, d⟩, _⟩ := I.tuple h
  obtain ⟨its', r', ⟨o', e', _, n', d'⟩, _⟩ := I.tuple h'
  rw [e] at e'; cases e'
  rw [d] at d'
  injection d' with d1 _
  have : its = its' := by simpa using congrArg Array.toList d1
  subst this
  exact r.inj r'
end

noncomputable abbrev Cx.wish (X : Cx) (E : Value → Shared → Prop) : Cx := { X with xe := E }
noncomputable abbrev Cx.nox (X : Cx) : Cx := X.wish fun _ _ => False
theorem Cx.Ok.wish {X : Cx} (ok : X.Ok) (E : Value → Shared → Prop) : (X.wish E).Ok :=
  ⟨ok.mod, ok.kind, ok.glob, ok.blt, ok.above, ok.inj, ok.has, ok.cab, ok.hd, ok.frames, ok.stk, ok.exf, ok.bs, ok.bsz, ok.noex, ok.exfs, ok.funs, ok.frf⟩
theorem Cx.Ok.unwish {X : Cx} {E : Value → Shared → Prop} (ok : (X.wish E).Ok) : X.Ok :=
  ⟨ok.mod, ok.kind, ok.glob, ok.blt, ok.above, ok.inj, ok.has, ok.cab, ok.hd, ok.frames, ok.stk, ok.exf, ok.bs, ok.bsz, ok.noex, ok.exfs, ok.funs, ok.frf⟩
section
variable {X : Cx} {pins : List (Addr × Obj)} {σ : St} {H : Hp} {s : Shared} {E : Value → Shared → Prop}
theorem Inv.wish (I : Inv X pins σ H s) (E : Value → Shared → Prop) : Inv (X.wish E) pins σ H s := ⟨I.ok.wish E, I.os, I.bare, I.base, I.loc, I.cell, I.free, I.freeC, I.pin, I.hok, I.len⟩
theorem Inv.unwish (I : Inv (X.wish E) pins σ H s) : Inv X pins σ H s := ⟨I.ok.unwish, I.os, I.bare, I.base, I.loc, I.cell, I.free, I.freeC, I.pin, I.hok, I.len⟩
theorem SP.unwish {D : Ends} {f : Flow} {s' : Shared} (h : SP (X.wish E) pins D f s') : SP X pins D f s' := by
  cases f with
  | next => obtain ⟨σ', H', I, q⟩ := h; exact ⟨σ', H', I.unwish, q⟩
  | brk => obtain ⟨σ', H', I, q⟩ := h; exact ⟨σ', H', I.unwish, q⟩
  | cont => obtain ⟨σ', H', I, q⟩ := h; exact ⟨σ', H', I.unwish, q⟩
  | ret u => obtain ⟨v, σ', H', I, r, q⟩ := h; exact ⟨v, σ', H', I.unwish, r, q⟩
theorem PSs.nox {st : List Stmt} {t : TS} (h : PSs X.nox st t) : PSs X st t := fun pins s σ H D I hw =>
  wpAny_mono (h pins s σ H D (I.wish _) hw) (fun _ _ q => q.unwish) fun _ _ z => False.elim z
end

section
variable {X : Cx} {st : Stmt} {rest : List Stmt} {t u : TS} {e : Expr} {te : TE} {pos : Pos}
noncomputable def tNext : TS := fun D σ H => D.nx σ H
noncomputable def tSeq (t u : TS) : TS := fun D σ H => t { D with nx := u D } σ H
theorem pss_nil : PSs X [] tNext := fun _ _ σ H _ I h => wpAny_execs_nil ⟨σ, H, I, h⟩
theorem pss_cons (h1 : PS X st t) (h2 : PSs X rest u) : PSs X (st :: rest) (tSeq t u) := by
  intro pins s σ H D I h
  refine wpAny_execs_cons (thn (h1 pins s σ H { D with nx := u D } I h) fun f s1 q => ?_)
  cases f with
  | next =>
    obtain ⟨σ', H', I', q⟩ := q
    exact h2 pins s1 σ' H' D I' q
  | ret v => exact q
  | brk => exact q
  | cont => exact q
theorem pss_one (h1 : PS X st t) : PSs X [st] t := by
  intro pins s σ H D I h
  refine wpAny_execs_cons (thn (h1 pins s σ H D I h) fun f s1 q => ?_)
  cases f with
  | next => exact wpAny_execs_nil q
  | ret v => exact q
  | brk => exact q
  | cont => exact q
noncomputable def tBreak : TS := fun D σ H => D.bk σ H
noncomputable def tCont : TS := fun D σ H => D.ct σ H
theorem Inv.quiet {pins : List (Addr × Obj)} {σ : St} {H : Hp} {s : Shared} (I : Inv X pins σ H s) : interactive X.env = false := by simp [interactive, I.ok.kind]
noncomputable def tDrop (te : TE) : TS := fun D σ H => te σ H fun _ H1 => D.nx σ H1
theorem ps_expr (he : PE X e te) (hs : autoParam (swapsWith e none pos.line X.env = pure false) L2.Internal.auR._auto_1) : PS X (.Expr e pos) (tDrop te) := by
  intro pins s σ H D I h
  exact wpAny_Expr_any (thn (he pins s σ H _ I h) fun v s1 ⟨x, H1, I1, r1, q1⟩ => ⟨σ, H1, I1, q1⟩) I.quiet hs
noncomputable def tRet (te : TE) : TS := fun D σ H => te σ H D.rt
theorem ps_ret (he : PE X e te) : PS X (.Return (some e) pos) (tRet te) := by
  intro pins s σ H D I h
  exact wpAny_Return_some (thn (he pins s σ H _ I h) fun v s1 ⟨x, H1, I1, r1, q1⟩ => ⟨x, σ, H1, I1, r1, q1⟩)
noncomputable def tRetN : TS := fun D _ H => D.rt .non H
noncomputable def tIfS (c : TT) (t u : TS) : TS := fun D σ H => c σ H fun b H1 => if b = true then t D σ H1 else u D σ H1
theorem ps_if {c : Expr} {a b : List Stmt} {tc : TT} (hc : PT X c tc) (ha : PSs X a t) (hb : PSs X b u) : PS X (.If c a b pos) (tIfS tc t u) := by
  intro pins s σ H D I h
  refine wpAny_If (thn (hc pins s σ H _ I h) fun d s1 ⟨H1, I1, q1⟩ => ?_)
  cases d with
  | true => exact ha pins s1 σ H1 D I1 q1
  | false => exact hb pins s1 σ H1 D I1 q1
noncomputable def tNever : TS := fun _ _ _ => False
end

noncomputable abbrev TG := V → St → Hp → (St → Hp → Prop) → Prop
noncomputable abbrev TGs := List V → St → Hp → (St → Hp → Prop) → Prop
noncomputable def PG (X : Cx) (target : Expr) (t : TG) : Prop :=
  ∀ (pins : List (Addr × Obj)) (s : Shared) (σ : St) (H : Hp) (v : V) (u : Value) (Q : St → Hp → Prop), Inv X pins σ H s → RelV v u → t v σ H Q →
    wpAny (model X.prog X.w) X.A (assign target X.env u) (fun _ s' => ∃ σ' H', Inv X pins σ' H' s' ∧ Q σ' H') X.xe s
noncomputable def PGs (X : Cx) (ts : List Expr) (t : TGs) : Prop :=
  ∀ (pins : List (Addr × Obj)) (s : Shared) (σ : St) (H : Hp) (vs : List V) (us : List Value) (Q : St → Hp → Prop), Inv X pins σ H s → Vals vs us → t vs σ H Q →
    wpAny (model X.prog X.w) X.A (assignInOrder ((assignEach ts X.env).map (·.2)) us) (fun _ s' => ∃ σ' H', Inv X pins σ' H' s' ∧ Q σ' H') X.xe s
noncomputable abbrev TSet := V → V → V → Hp → (Hp → Prop) → Prop
noncomputable def PSet (X : Cx) (t : TSet) : Prop :=
  ∀ (pins : List (Addr × Obj)) (s : Shared) (σ : St) (H : Hp) (o i v : V) (ov iv u : Value) (Q : Hp → Prop), Inv X pins σ H s → RelV o ov → RelV i iv → RelV v u → t o i v H Q →
    wpAny (model X.prog X.w) X.A (setItem ov iv u) (fun _ s' => ∃ H', Inv X pins σ H' s' ∧ Q H') X.xe s
noncomputable abbrev TIp := V → V → Hp → VK → Prop
noncomputable def PIp (X : Cx) (op : Operator) (t : TIp) : Prop :=
  ∀ (pins : List (Addr × Obj)) (s : Shared) (σ : St) (H : Hp) (x y : V) (v u : Value) (Q : VK), Inv X pins σ H s → RelV x v → RelV y u → t x y H Q →
    wpAny (model X.prog X.w) X.A (inplaceOp op v u) (EP X pins σ Q) X.xe s
section
variable {X : Cx} {pos : Pos}
noncomputable def gName (i : Nat) : TG := fun v σ H Q => Q (σ.set i (some v)) H
theorem pg_name {i : Nat} {x : Str} (hN : X.N.Nodup) (hi : X.N[i]? = some x) (hx : Loc X.env.scope x) (hf : autoParam (X.fn x = true ∨ X.env.scope.names.lookup x = some .local) L2.Internal.auL._auto_1) : PG X (.Name x pos) (gName i) := by
  intro pins s σ H v u Q I r h
  exact wpAny_assign_Name (store_ok I hN hi hx r (fun s' I' => ⟨_, H, I', h⟩) hf)
noncomputable def gNil : TGs := fun vs σ H Q => vs = [] ∧ Q σ H
noncomputable def gCons (t : TG) (u : TGs) : TGs := fun vs σ H Q => ∃ v r, vs = v :: r ∧ t v σ H fun σ' H' => u r σ' H' Q
theorem pgs_nil : PGs X [] gNil := by
  intro pins s σ H vs us Q I r h
  obtain ⟨e, h⟩ := h
  subst e
  cases r
  exact assignInOrder_nil ⟨σ, H, I, h⟩
theorem pgs_cons {e : Expr} {es : List Expr} {t : TG} {u : TGs} (h1 : PG X e t) (h2 : PGs X es u)
    (hs : autoParam ((assignEach (e :: es) X.env).map (·.2) = assign e X.env :: (assignEach es X.env).map (·.2)) L2.Internal.auR._auto_1) : PGs X (e :: es) (gCons t u) := by
  intro pins s σ H vs us Q I r h
  obtain ⟨v, vr, e1, h⟩ := h
  subst e1
  cases r with
  | cons r rr =>
    rw [hs]
    refine assignInOrder_cons (thn (h1 pins s σ H _ _ _ I r h) fun _ s1 ⟨σ1, H1, I1, q1⟩ => ?_)
    exact h2 pins s1 σ1 H1 _ _ Q I1 rr q1
noncomputable def gTup (K : PySem.W.Frag) (n : Nat) (t : TGs) : TG := fun v σ H Q => ∃ a xs, v = .ref a ∧ SqT K H a xs ∧ xs.length = n ∧ t xs σ H Q
theorem pg_tup {es : List Expr} {k : Nat} {t : TGs} {n : Nat} (hc : X.calm = true) (h : PGs X es t)
    (hn : autoParam ((assignEach es X.env).length = n) L2.Internal.auR._auto_1) (hst : autoParam ((assignEach es X.env).findIdx? (·.1) = none) L2.Internal.auR._auto_1) : PG X (.Tuple es k pos) (gTup X.K n t) := by
  intro pins s σ H v u Q I r hw
  obtain ⟨a, xs, e1, hq, hl, hw⟩ := hw
  subst e1
  cases r
  obtain ⟨its, rv, ht, hz⟩ := I.tuple hq
  refine assign_Tuple_tuple (I.ok.hd hc) ht (by simp [hn, ← hl, rv.length]) hst fun h' hx => ?_
  have I1 : Inv X pins σ H { s with heap := h' } := I.kept (t' := s.toks) fun b o e => hx b o (Nat.ne_of_lt (Heap.lt_size e)) e
  exact h pins _ σ H xs _ Q I1 (by simpa using rv) hw
noncomputable def gSub (to ti : TE) (t : TSet) : TG := fun v σ H Q => to σ H fun o H1 => ti σ H1 fun i H2 => t o i v H2 fun H3 => Q σ H3
noncomputable def tAsg (te : TE) (g : TG) : TS := fun D σ H => te σ H fun x H1 => g x σ H1 D.nx
theorem ps_set {i : Nat} {x : Str} {e : Expr} {te : TE} {pos' : Pos} (hN : X.N.Nodup) (hi : X.N[i]? = some x) (hx : Loc X.env.scope x) (he : PE X e te) (hs : autoParam (swapsWith e (some (.Name x pos')) pos.line X.env = pure false) L2.Internal.auR._auto_1) (hf : autoParam (X.fn x = true ∨ X.env.scope.names.lookup x = some .local) L2.Internal.auL._auto_1) :
    PS X (.Assign [.Name x pos'] e pos) (tAsg te (gName i)) := by
  intro pins s σ H D I h
  refine wpAny_Assign_Name (thn (he pins s σ H _ I h) fun v s1 ⟨y, H1, I1, r1, q1⟩ => ?_) hs
  exact store_ok I1 hN hi hx r1 (fun s2 I2 => ⟨_, H1, I2, q1⟩) hf
noncomputable def tPar (i j : Nat) (ta : TA) : TS := fun D σ H => ta σ H fun vs H1 => ∃ v w, vs = [v, w] ∧ D.nx ((σ.set i (some v)).set j (some w)) H1
noncomputable def tAug (i : Nat) (te : TE) (ti : TIp) : TS := fun D σ H => ∃ x, σ[i]? = some (some x) ∧ te σ H fun y H1 => ti x y H1 fun z H2 => D.nx (σ.set i (some z)) H2
noncomputable def tAugS (to ti te : TE) (tget : V → V → Hp → VK → Prop) (tip : TIp) (tset : TSet) : TS := fun D σ H => to σ H fun o H1 => ti σ H1 fun i H2 => tget o i H2 fun x H3 => te σ H3 fun y H4 => tip x y H4 fun z H5 => tset o i z H5 fun H6 => D.nx σ H6
noncomputable def PGet (X : Cx) (t : V → V → Hp → VK → Prop) : Prop :=
  ∀ (pins : List (Addr × Obj)) (s : Shared) (σ : St) (H : Hp) (o i : V) (ov iv : Value) (Q : VK), Inv X pins σ H s → RelV o ov → RelV i iv → t o i H Q →
    wpAny (model X.prog X.w) X.A (getItem ov iv) (EP X pins σ Q) X.xe s
noncomputable def ipI (f : Int → Int → Int) : TIp := fun x y H Q => ∃ i j, x = .int i ∧ y = .int j ∧ Q (.int (f i j)) H
end

section
variable {X : Cx} {pos : Pos}
noncomputable def tWhile (c : TT) (tb : TS) : TS := fun D σ H => ∃ W : Nat → St → Hp → Prop, (∃ m, W m σ H) ∧ ∀ m σ H, W m σ H →
  c σ H fun b H1 => if b = true then ∃ N : St → Hp → Prop, (∀ σ' H', N σ' H' → ∃ m', m' < m ∧ W m' σ' H') ∧ tb { D with nx := N, ct := N, bk := D.nx } σ H1 else D.nx σ H1
end

structure It where
  go : Nat → Hp → Prop
  yld : Nat → Hp → V → Hp → Prop
  stop : Nat → Hp → Prop
noncomputable def FpOk (X : Cx) (pins : List (Addr × Obj)) (H : Hp) (b : Addr) : Prop :=
  H b = none ∧ b ≠ X.env.locals ∧ b ∉ X.fs ∧ (b ∈ X.ex ∨ X.s₀.heap.objs.size ≤ b) ∧ (∀ x c, X.env.cells.lookup x = some c → c ≠ b) ∧ ∀ p ∈ X.pn ++ pins, p.1 ≠ b
theorem Inv.fpOk {X : Cx} {pins : List (Addr × Obj)} {σ : St} {H H' : Hp} {s : Shared} {b : Addr} (I : Inv X pins σ H s) (hb : s.heap.objs.size ≤ b) (hn : H' b = none) : FpOk X pins H' b := by
  refine ⟨hn, Nat.ne_of_gt (Nat.lt_of_lt_of_le I.lt hb), I.nofs hb, .inr (Nat.le_trans I.sz hb), fun x c e z => ?_, fun p hp z => ?_⟩
  · obtain ⟨v, q⟩ := I.cell x c e
    exact absurd (Nat.lt_of_lt_of_le q.lt (by rw [z]; exact hb)) (Nat.lt_irrefl _)
  · exact absurd (Nat.lt_of_lt_of_le (Heap.lt_size (I.pin p hp).1) (by rw [z]; exact hb)) (Nat.lt_irrefl _)
structure Turn (P : Program) (w : World) (K : PySem.W.Frag) (tg : Expr) (J : It) (fp : List Addr) (it : Addr) (tn : Nat → Heap → Prop) : Prop where
  mem : it ∈ fp
  obj : ∀ i h, tn i h → ∀ b ∈ fp, ∃ o, h.get? b = some o ∧ ∀ v, o.data ≠ .cell v
  keep : ∀ i h h', tn i h → (∀ b ∈ fp, ∀ o, h.get? b = some o → h'.get? b = some o) → tn i h'
  item : ∀ (X : Cx), X.prog = P → X.w = w → X.K = K → X.calm = true → ∀ (i : Nat) (pins : List (Addr × Obj)) (s : Shared) (σ : St) (H : Hp) (E : Value → Shared → Prop), Inv X pins σ H s → (∀ b ∈ fp, FpOk X pins H b) → tn i s.heap → J.go i H →
    wpAny (model P w) X.A (pyNext (.ref it)) (fun r s1 => ∃ u, r = some u ∧
      wpAny (model P w) X.A (letOwnedTupleGo tg (.ref it) u) (fun _ s2 => ∃ x H', Inv X pins σ H' s2 ∧ RelV x u ∧ J.yld i H x H' ∧ tn (i + 1) s2.heap ∧ ∀ b ∈ fp, H' b = none) E s1) E s
  done : ∀ (X : Cx), X.prog = P → X.w = w → X.K = K → X.calm = true → ∀ (i : Nat) (pins : List (Addr × Obj)) (s : Shared) (σ : St) (H : Hp) (E : Value → Shared → Prop), Inv X pins σ H s → (∀ b ∈ fp, FpOk X pins H b) → tn i s.heap → J.stop i H →
    wpAny (model P w) X.A (pyNext (.ref it)) (fun r s1 => r = none ∧ Inv X pins σ H s1) E s
  self : ∀ (A : Around) (i : Nat) (s : Shared) (Q : Value → Shared → Prop) (E : Value → Shared → Prop), tn i s.heap → Q (.ref it) s → wpAny (model P w) A (pyIter (.ref it)) Q E s
noncomputable abbrev TI := St → Hp → (It → Hp → Prop) → Prop
noncomputable def PIE (X : Cx) (pins : List (Addr × Obj)) (σ : St) (tg : Expr) (R : It → Hp → Prop) (itv : Value) (s2 : Shared) : Prop :=
  ∃ (it : Addr) (fp : List Addr) (tn : Nat → Heap → Prop) (J : It) (H' : Hp), itv = .ref it ∧ Inv X pins σ H' s2 ∧ Turn X.prog X.w X.K tg J fp it tn ∧ tn 0 s2.heap ∧ (∀ b ∈ fp, FpOk X pins H' b) ∧ R J H'
noncomputable def PI (X : Cx) (tg iter : Expr) (wi : TI) : Prop :=
  ∀ (pins : List (Addr × Obj)) (s : Shared) (σ : St) (H : Hp) (R : It → Hp → Prop), Inv X pins σ H s → wi σ H R →
    wpAny (model X.prog X.w) X.A (eval iter X.env) (fun v s1 => wpAny (model X.prog X.w) X.A (pyIter v) (PIE X pins σ tg R) X.xe s1) X.xe s

theorem go_of {M : Model} {A : Around} {E : Value → Shared → Prop} {s : Shared} {tg : Expr} {it : Addr} {u : Value} {o : Obj} {n : String} {vs : Array Value} {Q : Unit → Shared → Prop} (ho : s.heap.get? it = some o) (hc : o.cls = .type n) (hd : o.data = .fields vs)
    (hn : ["enumerate", "zip", "dict_itemiterator", "dict_reverseitemiterator", "odict_iterator", "itertools.zip_longest", "itertools.pairwise"].contains n = false) (hQ : Q () s) : wpAny M A (letOwnedTupleGo tg (.ref it) u) Q E s := by
  unfold letOwnedTupleGo
  cases tg <;> first
    | exact wpAny_pure hQ
    | (cases u <;> first
        | exact wpAny_pure hQ
        | (refine wpAny_bind (wpAny_load ho ?_)
           rw [hc, hd]
           show wpAny M A (if (["enumerate", "zip", "dict_itemiterator", "dict_reverseitemiterator", "odict_iterator", "itertools.zip_longest", "itertools.pairwise"].contains n && vs[0]? == some (rawInt _)) = true then _ else _) Q E s
           rw [if_neg (by intro h; rw [hn, Bool.false_and] at h; cases h)]
           exact wpAny_pure hQ))

noncomputable def Itl (K : PySem.W.Frag) (a : Addr) : It :=
  ⟨fun i H => ∃ xs x, SqL K H a xs ∧ xs[i]? = some x, fun i H x H' => H' = H ∧ ∀ xs, SqL K H a xs → xs[i]? = some x, fun i H => ∃ xs, SqL K H a xs ∧ xs.length ≤ i⟩
noncomputable def Itt (K : PySem.W.Frag) (a : Addr) : It :=
  ⟨fun i H => ∃ xs x, SqT K H a xs ∧ xs[i]? = some x, fun i H x H' => H' = H ∧ ∀ xs, SqT K H a xs → xs[i]? = some x, fun i H => ∃ xs, SqT K H a xs ∧ xs.length ≤ i⟩
noncomputable def Itr (lo : Int) (n : Nat) : It := ⟨fun i _ => i < n, fun i H x H' => H' = H ∧ x = .int (lo + i), fun i _ => n ≤ i⟩
theorem turn_list {P : Program} {w : World} {K : PySem.W.Frag} {tg : Expr} (a it : Addr) : Turn P w K tg (Itl K a) [it] it (fun i h => h.IsListIter it a i) where
  mem := by simp
  obj := fun i h st b hb => by
    have e : b = it := by simpa using hb
    subst e
    obtain ⟨o, e, c, d⟩ := st
    exact ⟨o, e, fun v z => by rw [d] at z; cases z⟩
  keep := fun i h h' st k => st.at fun o e => k it (by simp) o e
  item := by
    intro X hP hw hK hc i pins s σ H E I hf st hg
    subst hP hw hK
    obtain ⟨xs, x, hq, hx⟩ := hg
    obtain ⟨its, rv, p, hz⟩ := I.list hq
    obtain ⟨u, hu, ru⟩ := rv.get hx
    obtain ⟨f0, f1, f2, f3, f4, f5⟩ := hf it (by simp)
    refine wpAny_pyNext_list_item st p.isList (x := u) (by simpa using hu) fun h' st' sb => ?_
    have I1 : Inv X pins σ H { s with heap := h' } := I.turned (t' := s.toks) (fun b o hb e => (sb.2 b hb).trans e) f0 f1 f3 f4 f5
    obtain ⟨o, e, c, d⟩ := id st'
    exact ⟨u, rfl, go_of (s := { s with heap := h' }) e c d (by decide) ⟨x, H, I1, ru, ⟨rfl, fun ys hy => by rw [I.list_inj hy hq]; exact hx⟩, st', fun b hb => (hf b hb).1⟩⟩
  done := by
    intro X hP hw hK hc i pins s σ H E I hf st hg
    subst hP hw hK
    obtain ⟨xs, hq, hx⟩ := hg
    obtain ⟨its, rv, p, hz⟩ := I.list hq
    obtain ⟨f0, f1, f2, f3, f4, f5⟩ := hf it (by simp)
    have hl := rv.length
    exact wpAny_pyNext_list_end (I.ok.hd hc) st p.isList (by simp; omega) fun h' eb => ⟨rfl, I.turned (t' := s.toks) (fun b o hb e => eb b o hb e) f0 f1 f3 f4 f5⟩
  self := fun _ _ _ _ _ st h => wpAny_pyIter_listiter st h
theorem turn_tuple {P : Program} {w : World} {K : PySem.W.Frag} {tg : Expr} (a it : Addr) : Turn P w K tg (Itt K a) [it] it (fun i h => h.IsTupleIter it a i) where
  mem := by simp
  obj := fun i h st b hb => by
    have e : b = it := by simpa using hb
    subst e
    obtain ⟨o, e, c, d⟩ := st
    exact ⟨o, e, fun v z => by rw [d] at z; cases z⟩
  keep := fun i h h' st k => st.at fun o e => k it (by simp) o e
  item := by
    intro X hP hw hK hc i pins s σ H E I hf st hg
    subst hP hw hK
    obtain ⟨xs, x, hq, hx⟩ := hg
    obtain ⟨its, rv, p, hz⟩ := I.tuple hq
    obtain ⟨u, hu, ru⟩ := rv.get hx
    obtain ⟨f0, f1, f2, f3, f4, f5⟩ := hf it (by simp)
    refine wpAny_pyNext_tuple_item st (show s.heap.IsTuple a its.toArray from p) (x := u) (by simpa using hu) fun h' st' sb => ?_
    have I1 : Inv X pins σ H { s with heap := h' } := I.turned (t' := s.toks) (fun b o hb e => (sb.2 b hb).trans e) f0 f1 f3 f4 f5
    obtain ⟨o, e, c, d⟩ := id st'
    exact ⟨u, rfl, go_of (s := { s with heap := h' }) e c d (by decide) ⟨x, H, I1, ru, ⟨rfl, fun ys hy => by rw [I.tuple_inj hy hq]; exact hx⟩, st', fun b hb => (hf b hb).1⟩⟩
  done := by
    intro X hP hw hK hc i pins s σ H E I hf st hg
    subst hP hw hK
    obtain ⟨xs, hq, hx⟩ := hg
    obtain ⟨its, rv, p, hz⟩ := I.tuple hq
    obtain ⟨f0, f1, f2, f3, f4, f5⟩ := hf it (by simp)
    have hl := rv.length
    exact wpAny_pyNext_tuple_end (I.ok.hd hc) st (show s.heap.IsTuple a its.toArray from p) (by simp; omega) fun h' eb => ⟨rfl, I.turned (t' := s.toks) (fun b o hb e => eb b o hb e) f0 f1 f3 f4 f5⟩
  self := fun _ _ _ _ _ st h => wpAny_pyIter_tupleiter st h
theorem turn_range {P : Program} {w : World} {K : PySem.W.Frag} {tg : Expr} (it : Addr) (lo : Int) (n : Nat) : Turn P w K tg (Itr lo n) [it] it (fun i h => IsRangeIter h it (lo + (i : Nat) * 1) ((n : Int) - (i : Nat)) 1) where
  mem := by simp
  obj := fun i h st b hb => by
    have e : b = it := by simpa using hb
    subst e
    exact ⟨_, st, fun v z => by
      have z' : Data.fields _ = Data.cell v := z
      cases z'⟩
  keep := fun i h h' st k => k it (by simp) _ st
  item := by
    intro X hP hw hK hc i pins s σ H E I hf st hg
    subst hP hw hK
    obtain ⟨f0, f1, f2, f3, f4, f5⟩ := hf it (by simp)
    have W := Walks.range (prog := X.prog) (w := X.w) (I.ok.hd hc) it lo 1 n
    refine W.item i s _ _ hg st fun v h' tk hv st' kk => ?_
    obtain ⟨t, rfl⟩ := hv
    have I1 : Inv X pins σ H { s with heap := h', toks := tk } := I.turned (fun b o hb e => kk b o (by simpa using hb) e) f0 f1 f3 f4 f5
    refine ⟨_, rfl, go_of (s := { s with heap := h', toks := tk }) (n := "range_iterator") st' rfl rfl (by decide) ⟨.int (lo + i), H, I1, ⟨t, ?_⟩, ⟨rfl, rfl⟩, st', fun b hb => (hf b hb).1⟩⟩
    rw [Int.mul_one]
  done := by
    intro X hP hw hK hc i pins s σ H E I hf st hg
    subst hP hw hK
    obtain ⟨f0, f1, f2, f3, f4, f5⟩ := hf it (by simp)
    exact wpAny_pyNext_range_end (I.ok.hd hc) st (by have : n ≤ i := hg; omega) fun h' eb => ⟨rfl, I.turned (t' := s.toks) (fun b o hb e => eb b o hb e) f0 f1 f3 f4 f5⟩
  self := fun _ _ _ _ _ st h => wpAny_pyIter_rangeiter st h
end L2.Internal

namespace L2.Internal
open PySem PySem.Spec PyProof.Rows
section
variable {X : Cx} {tg : Expr}
noncomputable def iList (K : PySem.W.Frag) (tl : TE) : TI := fun σ H R => tl σ H fun x H1 => ∃ a, x = .ref a ∧ (∃ xs, SqL K H1 a xs) ∧ R (Itl K a) H1
noncomputable def iTup (K : PySem.W.Frag) (tl : TE) : TI := fun σ H R => tl σ H fun x H1 => ∃ a, x = .ref a ∧ (∃ xs, SqT K H1 a xs) ∧ R (Itt K a) H1
theorem pi_list {l : Expr} {tl : TE} (hl : PE X l tl) : PI X tg l (iList X.K tl) := by
  intro pins s σ H R I h
  refine thn (hl pins s σ H _ I h) fun v s1 ⟨x, H1, I1, r1, q1⟩ => ?_
  obtain ⟨a, e, ⟨xs, hq⟩, q⟩ := q1
  subst e
  cases r1
  obtain ⟨its, rv, p, hz⟩ := I1.list hq
  refine wpAny_pyIter_list p.isList ?_
  refine ⟨s1.heap.objs.size, [s1.heap.objs.size], _, _, H1, rfl, I1.kept (t' := s1.toks) fun b o e => Heap.get?_push_of_some _ e, turn_list a _, ⟨_, Heap.get?_push_size _ rfl, rfl, rfl⟩, fun b hb => ?_, q⟩
  have e : b = s1.heap.objs.size := by simpa using hb
  subst e
  exact I1.fpOk (Nat.le_refl _) (I1.hok.fresh (Nat.le_refl _))
theorem pi_tup {l : Expr} {tl : TE} (hl : PE X l tl) : PI X tg l (iTup X.K tl) := by
  intro pins s σ H R I h
  refine thn (hl pins s σ H _ I h) fun v s1 ⟨x, H1, I1, r1, q1⟩ => ?_
  obtain ⟨a, e, ⟨xs, hq⟩, q⟩ := q1
  subst e
  cases r1
  obtain ⟨its, rv, p, hz⟩ := I1.tuple hq
  refine wpAny_pyIter_tuple (show s1.heap.IsTuple a its.toArray from p) ?_
  refine ⟨s1.heap.objs.size, [s1.heap.objs.size], _, _, H1, rfl, I1.kept (t' := s1.toks) fun b o e => Heap.get?_push_of_some _ e, turn_tuple a _, ⟨_, Heap.get?_push_size _ rfl, rfl, rfl⟩, fun b hb => ?_, q⟩
  have e : b = s1.heap.objs.size := by simpa using hb
  subst e
  exact I1.fpOk (Nat.le_refl _) (I1.hok.fresh (Nat.le_refl _))
theorem range_it {pins : List (Addr × Obj)} {σ : St} {H : Hp} {s : Shared} {R : It → Hp → Prop} {E : Value → Shared → Prop} {lo hi : Int} {t u v : Tok} {tk : Nat} (I : Inv X pins σ H s) (h1 : -(2 ^ 62) ≤ lo) (h2 : lo < 2 ^ 62) (h3 : -(2 ^ 62) ≤ hi) (h4 : hi < 2 ^ 62)
    (q : R (Itr lo (hi - lo).toNat) H) : wpAny (model X.prog X.w) X.A (pyIter (.ref s.heap.objs.size)) (PIE X pins σ tg R) E { s with heap := s.heap.push { cls := .type "range", data := .fields #[.int lo t, .int hi u, .int 1 v] }, toks := tk } := by
  refine wpAny_pyIter_range (IsRange.new ..) (small_one h1 h2 h3 h4) ?_
  have I1 : Inv X pins σ H { s with heap := s.heap.push { cls := .type "range", data := .fields #[.int lo t, .int hi u, .int 1 v] }, toks := tk } := I.kept fun b o e => Heap.get?_push_of_some _ e
  refine ⟨(s.heap.push { cls := .type "range", data := .fields #[.int lo t, .int hi u, .int 1 v] }).objs.size, [(s.heap.push { cls := .type "range", data := .fields #[.int lo t, .int hi u, .int 1 v] }).objs.size], _, _, H, rfl,
    I1.kept (t' := tk) fun b o e => Heap.get?_push_of_some _ e, turn_range _ lo (hi - lo).toNat, ?_, fun b hb => ?_, q⟩
  · have e1 : lo + ((0 : Nat) : Int) * 1 = lo := by simp
    have e2 : (((hi - lo).toNat : Nat) : Int) - ((0 : Nat) : Int) = Builtin.Range.rangeSize lo hi 1 := by rw [rangeSize_one]; split <;> omega
    show IsRangeIter _ _ (lo + ((0 : Nat) : Int) * 1) ((((hi - lo).toNat : Nat) : Int) - ((0 : Nat) : Int)) 1
    rw [e1, e2]
    exact Heap.get?_push_size _ rfl
  · have e : b = (s.heap.push { cls := .type "range", data := .fields #[.int lo t, .int hi u, .int 1 v] }).objs.size := by simpa using hb
    subst e
    exact I1.fpOk (Nat.le_refl _) (I1.hok.fresh (Nat.le_refl _))
noncomputable def iRng1 (ta : TA) : TI := fun σ H R => ta σ H fun vs H1 => ∃ j : Int, vs = [.int j] ∧ -(2 ^ 62) ≤ j ∧ j < 2 ^ 62 ∧ R (Itr 0 j.toNat) H1
noncomputable def iRng2 (ta : TA) : TI := fun σ H R => ta σ H fun vs H1 => ∃ i j : Int, vs = [.int i, .int j] ∧ (-(2 ^ 62) ≤ i ∧ i < 2 ^ 62 ∧ -(2 ^ 62) ≤ j ∧ j < 2 ^ 62) ∧ R (Itr i (j - i).toNat) H1
theorem pi_range1 {a : Expr} {ta : TA} {p pos : Pos} (hg : Gl X "range") (hm : X.mg "range" = none) (ha : PA X [a] ta) (hs : autoParam (starEach [a] X.env = [(false, eval a X.env)]) L2.Internal.auR._auto_1) : PI X tg (.Call (.Name "range" p) [a] [] pos) (iRng1 ta) := by
  intro pins s σ H R I h
  refine Call_ (ld_blt I hg hm boot_range (PyProof.Rows.callWith_type1 (thn (ha pos pins s σ H _ I h) fun us s1 ⟨vs, H1, I1, r1, q1⟩ => ?_) hs rfl))
  obtain ⟨j, e, q1, q2, q⟩ := q1
  subst e
  cases r1 with
  | cons r rr =>
    cases rr
    obtain ⟨t, rfl⟩ := r
    exact call_range_1 (range_it I1 (by omega) (by omega) q1 q2 (by simpa using q))
noncomputable def tFor (wi : TI) (g : TG) (tb : TS) : TS := fun D σ H => wi σ H fun J H1 => ∃ W : Nat → Nat → St → Hp → Prop, (∃ m, W 0 m σ H1) ∧ ∀ i m σ H, W i m σ H →
  (J.stop i H ∧ D.nx σ H) ∨ (J.go i H ∧ ∃ N : St → Hp → Prop, (∀ σ' H', N σ' H' → ∃ m', m' < m ∧ W (i + 1) m' σ' H') ∧ ∀ x H', J.yld i H x H' → g x σ H' fun σ2 H2 => tb { D with nx := N, ct := N, bk := D.nx } σ2 H2)
noncomputable def pinsAt (fp : List Addr) (h : Heap) : List (Addr × Obj) := fp.filterMap fun b => (h.get? b).map fun o => (b, o)
theorem mem_pinsAt {fp : List Addr} {h : Heap} {b : Addr} {o : Obj} (hb : b ∈ fp) (e : h.get? b = some o) : (b, o) ∈ pinsAt fp h := List.mem_filterMap.mpr ⟨b, hb, by rw [e]; rfl⟩
theorem of_pinsAt {fp : List Addr} {h : Heap} {p : Addr × Obj} (hp : p ∈ pinsAt fp h) : p.1 ∈ fp ∧ h.get? p.1 = some p.2 := by
  obtain ⟨b, hb, e⟩ := List.mem_filterMap.mp hp
  cases q : h.get? b with
  | none => rw [q] at e; cases e
  | some o =>
    rw [q] at e
    have e' : (b, o) = p := Option.some.inj e
    subst e'
    exact ⟨hb, q⟩
theorem Inv.pinned {pins : List (Addr × Obj)} {σ : St} {H : Hp} {s : Shared} {fp : List Addr} (I : Inv X pins σ H s) (hf : ∀ b ∈ fp, FpOk X pins H b) (ho : ∀ b ∈ fp, ∃ o, s.heap.get? b = some o ∧ ∀ v, o.data ≠ .cell v) : Inv X (pins ++ pinsAt fp s.heap) σ H s :=
  I.pins_of fun p hp => (List.mem_append.mp hp).elim (fun z => I.pin p (List.mem_append_right _ z)) fun z => by
    obtain ⟨hb, e⟩ := of_pinsAt z
    obtain ⟨f0, f1, f2, _⟩ := hf p.1 hb
    obtain ⟨o, e', d⟩ := ho p.1 hb
    rw [e] at e'; cases e'
    exact ⟨e, f0, f1, f2, d⟩
theorem Inv.unpinned {pins pl : List (Addr × Obj)} {σ : St} {H : Hp} {s : Shared} (I : Inv X (pins ++ pl) σ H s) : Inv X pins σ H s := I.pins_of fun p hp => I.pin p (List.mem_append_right _ (List.mem_append_left _ hp))
theorem ps_for {iter : Expr} {body : List Stmt} {wi : TI} {g : TG} {tb : TS} {pos : Pos} (hp : PassesOwn (model X.prog X.w) X.A X.env X.xe) (hc : X.calm = true) (hi : PI X tg iter wi) (hg : PG X tg g) (hb : PSs X body tb)
    (hs : autoParam (∀ x, foldedSetIterable iter X.env x = pure x) L2.Internal.auI._auto_1) : PS X (.For tg iter body [] pos) (tFor wi g tb) := by
  intro pins s σ H D I h
  refine wpAny_For (thn (hi pins s σ H _ I h) fun v s1 h1 => thn h1 fun itv s2 h2 => ?_) hs
  obtain ⟨it, fp, tn, J, H2, e, I2, T, st2, f2, W, ⟨m0, w0⟩, turn⟩ := h2
  subst e
  -- what stays true of the iterator's objects through the loop
  have stat : ∀ {H' : Hp}, (∀ b ∈ fp, H' b = none) → ∀ b ∈ fp, FpOk X pins H' b := fun hn b hb => ⟨hn b hb, (f2 b hb).2⟩
  refine codeAny_forLoop_any (fun n s' => ∃ i σ' H', Inv X pins σ' H' s' ∧ tn i s'.heap ∧ (∀ b ∈ fp, H' b = none) ∧ W i n σ' H') ?_ m0 ⟨0, σ, H2, I2, st2, fun b hb => (f2 b hb).1, w0⟩
  rintro n s3 ⟨i, σ3, H3, I3, st3, fr3, w3⟩
  rcases turn i n σ3 H3 w3 with ⟨stop, qn⟩ | ⟨go, N, hN, step⟩
  · refine wpAny_passesOwn hp (thn (T.done X rfl rfl rfl hc i pins s3 σ3 H3 X.xe I3 (stat fr3) st3 stop) fun r s4 ⟨hr, I4⟩ => ?_)
    subst hr
    exact wpAny_execs_nil ⟨σ3, H3, I4, qn⟩
  · refine wpAny_passesOwn hp (thn (T.item X rfl rfl rfl hc i pins s3 σ3 H3 X.xe I3 (stat fr3) st3 go) fun r s4 ⟨u, hr, h4⟩ => ?_)
    subst hr
    refine wpAny_passesOwn hp (thn h4 fun _ s5 ⟨x, H5, I5, r5, y5, st5, fr5⟩ => ?_)
    have I5' := I5.pinned (stat fr5) (T.obj _ _ st5)
    refine wpAny_passesOwn hp (thn (hg _ s5 σ3 H5 x u _ I5' r5 (step x H5 y5)) fun _ s6 ⟨σ6, H6, I6, q6⟩ => ?_)
    refine wpAny_passesOwn hp (thn (hb _ s6 σ6 H6 _ I6 q6) fun f s7 q7 => ?_)
    have again : ∀ {σ7 : St} {H7 : Hp}, Inv X (pins ++ pinsAt fp s5.heap) σ7 H7 s7 → N σ7 H7 → ∃ m, m < n ∧ ∃ i σ' H', Inv X pins σ' H' s7 ∧ tn i s7.heap ∧ (∀ b ∈ fp, H' b = none) ∧ W i m σ' H' := fun {σ7 H7} I7 n7 => by
      obtain ⟨m', hm, w7⟩ := hN σ7 H7 n7
      refine ⟨m', hm, i + 1, σ7, H7, I7.unpinned, T.keep _ _ _ st5 fun b hb o e => (I7.pin (b, o) (List.mem_append_right _ (List.mem_append_right _ (mem_pinsAt hb e)))).1, fun b hb => ?_, w7⟩
      obtain ⟨o, e, d⟩ := T.obj _ _ st5 b hb
      exact (I7.pin (b, o) (List.mem_append_right _ (List.mem_append_right _ (mem_pinsAt hb e)))).2.1
    cases f with
    | next => obtain ⟨σ7, H7, I7, n7⟩ := q7; exact again I7 n7
    | cont => obtain ⟨σ7, H7, I7, n7⟩ := q7; exact again I7 n7
    | brk => obtain ⟨σ7, H7, I7, q7⟩ := q7; exact ⟨σ7, H7, I7.unpinned, q7⟩
    | ret v => obtain ⟨x7, σ7, H7, I7, r7, q7⟩ := q7; exact ⟨x7, σ7, H7, I7.unpinned, r7, q7⟩
end

theorem for_list {K : PySem.W.Frag} {a : Addr} {xs : List V} {g : TG} {tb : TS} {D : Ends} {σ : St} {H : Hp} (Pv : Nat → St → Hp → Prop) (h0 : Pv 0 σ H) (hl : ∀ i σ H, i ≤ xs.length → Pv i σ H → SqL K H a xs)
    (hs : ∀ i x σ H, xs[i]? = some x → Pv i σ H → g x σ H fun σ2 H2 => tb { D with nx := Pv (i + 1), ct := Pv (i + 1), bk := D.nx } σ2 H2) (hd : ∀ σ H, Pv xs.length σ H → D.nx σ H) :
    ∃ W : Nat → Nat → St → Hp → Prop, (∃ m, W 0 m σ H) ∧ ∀ i m σ H, W i m σ H →
      ((Itl K a).stop i H ∧ D.nx σ H) ∨ ((Itl K a).go i H ∧ ∃ N : St → Hp → Prop, (∀ σ' H', N σ' H' → ∃ m', m' < m ∧ W (i + 1) m' σ' H') ∧ ∀ x H', (Itl K a).yld i H x H' → g x σ H' fun σ2 H2 => tb { D with nx := N, ct := N, bk := D.nx } σ2 H2) := by
  refine ⟨fun i m σ H => m = xs.length - i ∧ i ≤ xs.length ∧ Pv i σ H, ⟨xs.length, by simp, Nat.zero_le _, h0⟩, ?_⟩
  rintro i m σ H ⟨rfl, hi, p⟩
  have q := hl i σ H hi p
  by_cases hlt : i < xs.length
  · refine .inr ⟨⟨xs, xs[i], q, by simp [hlt]⟩, Pv (i + 1), fun σ' H' p' => ⟨xs.length - (i + 1), by omega, rfl, hlt, p'⟩, fun x H' y => ?_⟩
    obtain ⟨e, y⟩ := y
    subst e
    exact hs i x σ _ (y xs q) p
  · have e : i = xs.length := by omega
    subst e
    exact .inl ⟨⟨xs, q, Nat.le_refl _⟩, hd σ H p⟩
theorem for_tup {K : PySem.W.Frag} {a : Addr} {xs : List V} {g : TG} {tb : TS} {D : Ends} {σ : St} {H : Hp} (Pv : Nat → St → Hp → Prop) (h0 : Pv 0 σ H) (hl : ∀ i σ H, i ≤ xs.length → Pv i σ H → SqT K H a xs)
    (hs : ∀ i x σ H, xs[i]? = some x → Pv i σ H → g x σ H fun σ2 H2 => tb { D with nx := Pv (i + 1), ct := Pv (i + 1), bk := D.nx } σ2 H2) (hd : ∀ σ H, Pv xs.length σ H → D.nx σ H) :
    ∃ W : Nat → Nat → St → Hp → Prop, (∃ m, W 0 m σ H) ∧ ∀ i m σ H, W i m σ H →
      ((Itt K a).stop i H ∧ D.nx σ H) ∨ ((Itt K a).go i H ∧ ∃ N : St → Hp → Prop, (∀ σ' H', N σ' H' → ∃ m', m' < m ∧ W (i + 1) m' σ' H') ∧ ∀ x H', (Itt K a).yld i H x H' → g x σ H' fun σ2 H2 => tb { D with nx := N, ct := N, bk := D.nx } σ2 H2) := by
  refine ⟨fun i m σ H => m = xs.length - i ∧ i ≤ xs.length ∧ Pv i σ H, ⟨xs.length, by simp, Nat.zero_le _, h0⟩, ?_⟩
  rintro i m σ H ⟨rfl, hi, p⟩
  have q := hl i σ H hi p
  by_cases hlt : i < xs.length
  · refine .inr ⟨⟨xs, xs[i], q, by simp [hlt]⟩, Pv (i + 1), fun σ' H' p' => ⟨xs.length - (i + 1), by omega, rfl, hlt, p'⟩, fun x H' y => ?_⟩
    obtain ⟨e, y⟩ := y
    subst e
    exact hs i x σ _ (y xs q) p
  · have e : i = xs.length := by omega
    subst e
    exact .inl ⟨⟨xs, q, Nat.le_refl _⟩, hd σ H p⟩
theorem for_range {lo : Int} {n : Nat} {g : TG} {tb : TS} {D : Ends} {σ : St} {H : Hp} (Pv : Nat → St → Hp → Prop) (h0 : Pv 0 σ H)
    (hs : ∀ i σ H, i < n → Pv i σ H → g (.int (lo + i)) σ H fun σ2 H2 => tb { D with nx := Pv (i + 1), ct := Pv (i + 1), bk := D.nx } σ2 H2) (hd : ∀ σ H, Pv n σ H → D.nx σ H) :
    ∃ W : Nat → Nat → St → Hp → Prop, (∃ m, W 0 m σ H) ∧ ∀ i m σ H, W i m σ H →
      ((Itr lo n).stop i H ∧ D.nx σ H) ∨ ((Itr lo n).go i H ∧ ∃ N : St → Hp → Prop, (∀ σ' H', N σ' H' → ∃ m', m' < m ∧ W (i + 1) m' σ' H') ∧ ∀ x H', (Itr lo n).yld i H x H' → g x σ H' fun σ2 H2 => tb { D with nx := N, ct := N, bk := D.nx } σ2 H2) := by
  refine ⟨fun i m σ H => m = n - i ∧ i ≤ n ∧ Pv i σ H, ⟨n, by simp, Nat.zero_le _, h0⟩, ?_⟩
  rintro i m σ H ⟨rfl, hi, p⟩
  by_cases hlt : i < n
  · refine .inr ⟨hlt, Pv (i + 1), fun σ' H' p' => ⟨n - (i + 1), by omega, rfl, hlt, p'⟩, fun x H' y => ?_⟩
    obtain ⟨e, y⟩ := y
    subst e y
    exact hs i σ _ hlt p
  · have e : i = n := by omega
    subst e
    exact .inl ⟨Nat.le_refl _, hd σ H p⟩
end L2.Internal

namespace L2.Internal
open PySem PySem.Spec PyProof.Rows

noncomputable abbrev R2 := V → V → Hp → VK → Prop
noncomputable def OpR (X : Cx) (f : Value → Value → Sem Value) (r : R2) : Prop :=
  ∀ (pins : List (Addr × Obj)) (s : Shared) (σ : St) (H : Hp) (x y : V) (v u : Value) (Q : VK), Inv X pins σ H s → RelV x v → RelV y u → r x y H Q →
    wpAny (model X.prog X.w) X.A (f v u) (EP X pins σ Q) X.xe s
noncomputable def UnR (X : Cx) (f : Value → Sem Value) (r : V → Hp → VK → Prop) : Prop :=
  ∀ (pins : List (Addr × Obj)) (s : Shared) (σ : St) (H : Hp) (x : V) (v : Value) (Q : VK), Inv X pins σ H s → RelV x v → r x H Q →
    wpAny (model X.prog X.w) X.A (f v) (EP X pins σ Q) X.xe s
noncomputable def CallR (X : Cx) (f : Value) (r : List V → Hp → VK → Prop) : Prop :=
  ∀ (pins : List (Addr × Obj)) (s : Shared) (σ : St) (H : Hp) (xs : List V) (us : List Value) (Q : VK), Inv X pins σ H s → Vals xs us → r xs H Q →
    wpAny (model X.prog X.w) X.A (call f us) (EP X pins σ Q) X.xe s
noncomputable def TruR (X : Cx) (r : V → Hp → (Bool → Hp → Prop) → Prop) : Prop :=
  ∀ (pins : List (Addr × Obj)) (s : Shared) (σ : St) (H : Hp) (x : V) (v : Value) (Q : Bool → Hp → Prop), Inv X pins σ H s → RelV x v → r x H Q →
    wpAny (model X.prog X.w) X.A (truthy v) (TP X pins σ Q) X.xe s

noncomputable def tOp (r : R2) (ta tb : TE) : TE := fun σ H Q => ta σ H fun x H1 => tb σ H1 fun y H2 => r x y H2 Q
noncomputable def tUn (r : V → Hp → VK → Prop) (ta : TE) : TE := fun σ H Q => ta σ H fun x H1 => r x H1 Q
noncomputable def rI (C : Int → Int → Prop) (g : Int → Int → V) : R2 := fun x y H Q => ∃ i j, x = .int i ∧ y = .int j ∧ C i j ∧ Q (g i j) H
noncomputable def rI0 (g : Int → Int → V) : R2 := fun x y H Q => ∃ i j, x = .int i ∧ y = .int j ∧ Q (g i j) H
noncomputable def rU (g : Int → V) : V → Hp → VK → Prop := fun x H Q => ∃ i, x = .int i ∧ Q (g i) H

section
variable {X : Cx} {a b c : Expr} {ta tb tc : TE} {pos : Pos}

theorem binT (ha : PE X a ta) (hb : PE X b tb) {pins : List (Addr × Obj)} {s : Shared} {σ : St} {H : Hp} {R : V → V → Hp → Prop} (I : Inv X pins σ H s)
    (h : ta σ H fun x H1 => tb σ H1 fun y H2 => R x y H2) {Q : Value → Shared → Prop} {f : Value → Value → Sem Value}
    (hf : ∀ v u s2 x y H2, Inv X pins σ H2 s2 → RelV x v → RelV y u → R x y H2 → wpAny (model X.prog X.w) X.A (f v u) Q X.xe s2) :
    wpAny (model X.prog X.w) X.A (eval a X.env) (fun v s₁ => wpAny (model X.prog X.w) X.A (eval b X.env) (fun u s₂ => wpAny (model X.prog X.w) X.A (f v u) Q X.xe s₂) X.xe s₁) X.xe s := by
  refine thn (ha pins s σ H _ I h) fun v s1 ⟨x, H1, I1, r1, q1⟩ => ?_
  refine thn (hb pins s1 σ H1 _ I1 q1) fun u s2 ⟨y, H2, I2, r2, q2⟩ => ?_
  exact hf v u s2 x y H2 I2 r1 r2 q2

theorem pe_op {op : Operator} {r : R2} (ho : OpR X (binaryOp op) r) (ha : PE X a ta) (hb : PE X b tb) : PE X (.BinOp a op b pos) (tOp r ta tb) := by
  intro pins s σ H Q I h
  exact wpAny_BinOp (binT ha hb I h fun v u s2 x y H2 I2 rx ry q => ho pins s2 σ H2 x y v u Q I2 rx ry q)
theorem opI {f : Value → Value → Sem Value} {C : Int → Int → Prop} {g : Int → Int → Int}
    (rule : ∀ (i j : Int) (t u : Tok) (s : Shared) (Q : Value → Shared → Prop) (E : Value → Shared → Prop), C i j → Q (.int (g i j) s.toks) { s with toks := s.toks + 1 } → wpAny (model X.prog X.w) X.A (f (.int i t) (.int j u)) Q E s) :
    OpR X f (rI C fun i j => .int (g i j)) := by
  intro pins s σ H x y v u Q I rx ry h
  obtain ⟨i, j, rfl, rfl, hc, q⟩ := h
  obtain ⟨t, rfl⟩ := rx
  obtain ⟨t', rfl⟩ := ry
  exact rule i j t t' s _ _ hc ⟨.int (g i j), H, I.tok _, ⟨_, rfl⟩, q⟩
theorem opI0 {f : Value → Value → Sem Value} {g : Int → Int → Int}
    (rule : ∀ (i j : Int) (t u : Tok) (s : Shared) (Q : Value → Shared → Prop) (E : Value → Shared → Prop), Q (.int (g i j) s.toks) { s with toks := s.toks + 1 } → wpAny (model X.prog X.w) X.A (f (.int i t) (.int j u)) Q E s) :
    OpR X f (rI0 fun i j => .int (g i j)) := by
  intro pins s σ H x y v u Q I rx ry h
  obtain ⟨i, j, rfl, rfl, q⟩ := h
  obtain ⟨t, rfl⟩ := rx
  obtain ⟨t', rfl⟩ := ry
  exact rule i j t t' s _ _ ⟨.int (g i j), H, I.tok _, ⟨_, rfl⟩, q⟩
theorem opB0 {f : Value → Value → Sem Value} {g : Int → Int → Bool}
    (rule : ∀ (i j : Int) (t u : Tok) (s : Shared) (Q : Value → Shared → Prop) (E : Value → Shared → Prop), Q (.bool (g i j)) s → wpAny (model X.prog X.w) X.A (f (.int i t) (.int j u)) Q E s) :
    OpR X f (rI0 fun i j => .bl (g i j)) := by
  intro pins s σ H x y v u Q I rx ry h
  obtain ⟨i, j, rfl, rfl, q⟩ := h
  obtain ⟨t, rfl⟩ := rx
  obtain ⟨t', rfl⟩ := ry
  exact rule i j t t' s _ _ ⟨.bl (g i j), H, I, rfl, q⟩

noncomputable def CDiv (i j : Int) : Prop := 0 < j ∧ j < 1073741824
noncomputable def CDivN (i j : Int) : Prop := j ≠ 0 ∧ j.natAbs < 1073741824
noncomputable def CPow (i j : Int) : Prop := 0 ≤ j ∧ j ≤ 1000000 ∧ i.natAbs < 2 ^ 64
noncomputable def CMul (i j : Int) : Prop := (-(2 ^ 64) < i ∧ i < 2 ^ 64) ∨ (-(2 ^ 64) < j ∧ j < 2 ^ 64)
theorem CMul.ok {i j : Int} (h : CMul i j) : IntMulOk i j := by
  rcases h with ⟨h1, h2⟩ | ⟨h1, h2⟩
  · exact .of_left (intBits_le_64 h1 h2)
  · exact .of_right (intBits_le_64 h1 h2)
theorem op_add : OpR X (binaryOp .Add) (rI0 fun i j => .int (i + j)) := opI0 fun _ _ _ _ _ _ _ q => add_int q
theorem op_sub : OpR X (binaryOp .Sub) (rI0 fun i j => .int (i - j)) := opI0 fun _ _ _ _ _ _ _ q => sub_int q
theorem op_mul : OpR X (binaryOp .Mult) (rI CMul fun i j => .int (i * j)) := opI fun _ _ _ _ _ _ _ hc q => mul_int q hc.ok
theorem op_fdiv : OpR X (binaryOp .FloorDiv) (rI CDiv fun i j => .int (i / j)) := opI fun i j _ _ _ _ _ hc q => by
  have h1 : (0 : Int) < j := hc.1
  have h2 : j < 1073741824 := hc.2
  exact floordiv_int (by omega) (by rw [Int.fdiv_eq_ediv_of_nonneg i (by omega)]; exact q) (.inl (PyProof.noPylong_small (by omega)))
theorem op_mod : OpR X (binaryOp .Mod) (rI (fun _ j => 0 < j) fun i j => .int (i % j)) := opI fun i j _ _ _ _ _ hc q => by
  have h1 : (0 : Int) < j := hc
  exact mod_int' (by omega) (by rw [Int.fmod_eq_emod_of_nonneg i (by omega)]; exact q)
theorem op_pow : OpR X (binaryOp .Pow) (rI CPow fun i j => .int (i ^ j.toNat)) := opI fun _ _ _ _ _ _ _ hc q => pow_int_small hc.1 hc.2.1 hc.2.2 q
end

noncomputable def scal : V → V → Bool
  | .non, .non => true | .non, .int _ => true | .int _, .non => true | .non, .bl _ => true | .bl _, .non => true | .non, .str _ => true | .str _, .non => true
  | .int _, .int _ => true | .bl _, .bl _ => true | .str _, .str _ => true | .byt _, .byt _ => true
  | .int _, .str _ => true | .str _, .int _ => true | .bl _, .str _ => true | .str _, .bl _ => true
  | _, _ => false
noncomputable def rEq : R2 := fun x y H Q => scal x y = true ∧ Q (.bl (decide (x = y))) H
noncomputable def rNe : R2 := fun x y H Q => scal x y = true ∧ Q (.bl (!decide (x = y))) H

theorem dec_int {i j : Int} : decide (V.int i = V.int j) = (i == j) := by
  rw [Bool.eq_iff_iff]
  simp
theorem dec_bl {i j : Bool} : decide (V.bl i = V.bl j) = (i == j) := by
  rw [Bool.eq_iff_iff]
  simp
theorem dec_str {i j : Str} : decide (V.str i = V.str j) = (i == j) := by
  rw [Bool.eq_iff_iff]
  simp
theorem dec_byt {i j : Array UInt8} : decide (V.byt i = V.byt j) = (i.toList == j.toList) := by
  rw [Bool.eq_iff_iff]
  cases i
  cases j
  simp

section
variable {X : Cx} {a b c : Expr} {ta tb tc : TE} {pos : Pos}
theorem fin_bl {pins : List (Addr × Obj)} {σ : St} {H : Hp} {s : Shared} {Q : VK} {k k' : Bool} (I : Inv X pins σ H s) (q : Q (.bl k) H) (e : k = k') : EP X pins σ Q (.bool k') s := by
  subst e
  exact ⟨.bl k, H, I, rfl, q⟩
theorem op_eq : OpR X (compareOp .Eq) rEq := by
  intro pins s σ H x y v u Q I rx ry h
  obtain ⟨hs, q⟩ := h
  cases x with
  | non =>
    cases rx
    cases y with
    | non => cases ry; exact PySem.EqNone.eq_none_none (fin_bl I q (by simp))
    | bl j => cases ry; exact PySem.EqNone.eq_none_bool (fin_bl I q (by simp))
    | int j => obtain ⟨t', rfl⟩ := ry; exact PySem.EqNone.eq_none_int (fin_bl I q (by simp))
    | str j => obtain ⟨t', rfl⟩ := ry; exact PySem.EqNone.eq_none_str (fin_bl I q (by simp))
    | _ => exact absurd (show false = true from hs) Bool.false_ne_true
  | bl i =>
    cases rx
    cases y with
    | non => cases ry; exact PySem.EqNone.eq_bool_none (fin_bl I q (by simp))
    | bl j => cases ry; exact eq_bool (fin_bl I q dec_bl)
    | str j => obtain ⟨t', rfl⟩ := ry; exact PySem.EqMixed.eq_bool_str (fin_bl I q (by simp))
    | _ => exact absurd (show false = true from hs) Bool.false_ne_true
  | int i =>
    obtain ⟨t, rfl⟩ := rx
    cases y with
    | non => cases ry; exact PySem.EqNone.eq_int_none (fin_bl I q (by simp))
    | int j => obtain ⟨t', rfl⟩ := ry; exact eq_int (fin_bl I q dec_int)
    | str j => obtain ⟨t', rfl⟩ := ry; exact PySem.EqMixed.eq_int_str (fin_bl I q (by simp))
    | _ => exact absurd (show false = true from hs) Bool.false_ne_true
  | str i =>
    obtain ⟨t, rfl⟩ := rx
    cases y with
    | non => cases ry; exact PySem.EqNone.eq_str_none (fin_bl I q (by simp))
    | bl j => cases ry; exact PySem.EqMixed.eq_str_bool (fin_bl I q (by simp))
    | int j => obtain ⟨t', rfl⟩ := ry; exact PySem.EqMixed.eq_str_int (fin_bl I q (by simp))
    | str j => obtain ⟨t', rfl⟩ := ry; exact eq_str (fin_bl I q dec_str)
    | _ => exact absurd (show false = true from hs) Bool.false_ne_true
  | byt i =>
    obtain ⟨t, rfl⟩ := rx
    cases y with
    | byt j => obtain ⟨t', rfl⟩ := ry; exact PySem.W.eq_bytes (fin_bl I q dec_byt)
    | _ => exact absurd (show false = true from hs) Bool.false_ne_true
  | _ => cases y <;> exact absurd (show false = true from hs) Bool.false_ne_true
theorem op_ne : OpR X (compareOp .NotEq) rNe := by
  intro pins s σ H x y v u Q I rx ry h
  obtain ⟨hs, q⟩ := h
  cases x with
  | non =>
    cases rx
    cases y with
    | non => cases ry; exact PySem.EqNone.ne_none_none (fin_bl I q (by simp))
    | bl j => cases ry; exact PySem.EqNone.ne_none_bool (fin_bl I q (by simp))
    | int j => obtain ⟨t', rfl⟩ := ry; exact PySem.EqNone.ne_none_int (fin_bl I q (by simp))
    | str j => obtain ⟨t', rfl⟩ := ry; exact PySem.EqNone.ne_none_str (fin_bl I q (by simp))
    | _ => exact absurd (show false = true from hs) Bool.false_ne_true
  | bl i =>
    cases rx
    cases y with
    | non => cases ry; exact PySem.EqNone.ne_bool_none (fin_bl I q (by simp))
    | bl j => cases ry; exact ne_bool (fin_bl I q (congrArg not dec_bl))
    | str j => obtain ⟨t', rfl⟩ := ry; exact PySem.EqMixed.ne_bool_str (fin_bl I q (by simp))
    | _ => exact absurd (show false = true from hs) Bool.false_ne_true
  | int i =>
    obtain ⟨t, rfl⟩ := rx
    cases y with
    | non => cases ry; exact PySem.EqNone.ne_int_none (fin_bl I q (by simp))
    | int j => obtain ⟨t', rfl⟩ := ry; exact ne_int (fin_bl I q (congrArg not dec_int))
    | str j => obtain ⟨t', rfl⟩ := ry; exact PySem.EqMixed.ne_int_str (fin_bl I q (by simp))
    | _ => exact absurd (show false = true from hs) Bool.false_ne_true
  | str i =>
    obtain ⟨t, rfl⟩ := rx
    cases y with
    | non => cases ry; exact PySem.EqNone.ne_str_none (fin_bl I q (by simp))
    | bl j => cases ry; exact PySem.EqMixed.ne_str_bool (fin_bl I q (by simp))
    | int j => obtain ⟨t', rfl⟩ := ry; exact PySem.EqMixed.ne_str_int (fin_bl I q (by simp))
    | str j => obtain ⟨t', rfl⟩ := ry; exact ne_str (fin_bl I q (congrArg not dec_str))
    | _ => exact absurd (show false = true from hs) Bool.false_ne_true
  | byt i =>
    obtain ⟨t, rfl⟩ := rx
    cases y with
    | byt j => obtain ⟨t', rfl⟩ := ry; exact PySem.W.ne_bytes (fin_bl I q (congrArg not dec_byt))
    | _ => exact absurd (show false = true from hs) Bool.false_ne_true
  | _ => cases y <;> exact absurd (show false = true from hs) Bool.false_ne_true

theorem op_lt : OpR X (compareOp .Lt) (rI0 fun i j => .bl (decide (i < j))) := opB0 fun _ _ _ _ _ _ _ q => lt_int q
theorem op_gt : OpR X (compareOp .Gt) (rI0 fun i j => .bl (decide (j < i))) := opB0 fun _ _ _ _ _ _ _ q => gt_int q
noncomputable def isObj : HO → Bool
  | .lst _ => true
  | .ins _ _ _ => true
  | _ => false
theorem nomark (b : Expr) {op : CmpOp} (h : autoParam (op ≠ .In) L2.Internal.auD._auto_1) (h2 : autoParam (op ≠ .NotIn) L2.Internal.auD._auto_1) : behindInMarks op b = false := by
  have e1 : (op == CmpOp.In) = false := by cases op <;> first | rfl | exact absurd rfl h
  have e2 : (op == CmpOp.NotIn) = false := by cases op <;> first | rfl | exact absurd rfl h2
  cases b <;> simp [behindInMarks, e1, e2]
theorem pe_cmpR {op : CmpOp} {r : R2} (ho : OpR X (compareOp op) r) (ha : PE X a ta) (hb : PE X b tb) (hm : behindInMarks op b = false) : PE X (.Compare a [op] [b] pos) (tOp r ta tb) := by
  intro pins s σ H Q I h
  exact wpAny_Compare1 (binT ha hb I h fun v u s2 x y H2 I2 rx ry q => ho pins s2 σ H2 x y v u Q I2 rx ry q) hm
noncomputable def tTest (t : TE) : TT := fun σ H Q => t σ H fun x H' => ∃ k, x = .bl k ∧ Q k H'
theorem pt_cmpR {op : CmpOp} {r : R2} (ho : OpR X (compareOp op) r) (ha : PE X a ta) (hb : PE X b tb) (hm : behindInMarks op b = false) : PT X (.Compare a [op] [b] pos) (tTest (tOp r ta tb)) := by
  intro pins s σ H Q I h
  refine wpAny_isTrue_Compare1 (thn (ha pins s σ H _ I h) fun v s1 ⟨x, H1, I1, r1, q1⟩ => thn (hb pins s1 σ H1 _ I1 q1) fun u s2 ⟨y, H2, I2, r2, q2⟩ =>
    thn (ho pins s2 σ H2 x y v u _ I2 r1 r2 q2) fun c s3 ⟨z, H3, I3, r3, k, e, q3⟩ => ?_) hm
  subst e
  cases r3
  exact wpAny_truthy_bool ⟨H3, I3, q3⟩
noncomputable def tChain (r r' : R2) (ta tb tc : TE) : TE := fun σ H Q => ta σ H fun x H1 => tb σ H1 fun y H2 => r x y H2 fun z H3 => ∃ k, z = .bl k ∧
  (if k = true then tc σ H3 fun w' H4 => r' y w' H4 Q else Q (.bl false) H3)
noncomputable def TruV (K : PySem.W.Frag) (x : V) (H : Hp) (k : Bool) : Prop :=
  match x with
  | .non => k = false
  | .bl b => k = b
  | .int i => k = (i != 0)
  | .str y => y.length ≤ sizeLine ∧ k = ((y.length : Int) != 0)
  | .byt y => y.size ≤ sizeLine ∧ k = ((y.size : Int) != 0)
  | .ref p => (∃ xs, SqL K H p xs ∧ k = !xs.isEmpty) ∨ (∃ xs, SqT K H p xs ∧ k = !xs.isEmpty) ∨ ∃ kvs, H p = some (.dK kvs) ∧ k = !kvs.isEmpty
  | _ => False
theorem line63 : (sizeLine : Nat) < 2 ^ 63 := by rw [sizeLine_eq]; decide
theorem op_add_str : OpR X (binaryOp .Add) (fun x y H Q => ∃ i j, x = .str i ∧ y = .str j ∧ i.length + j.length ≤ sizeLine ∧ Q (.str (i ++ j)) H) := by
  intro pins s σ H x y v u Q I rx ry h
  obtain ⟨i, j, rfl, rfl, hz, q⟩ := h
  obtain ⟨t, rfl⟩ := rx
  obtain ⟨t', rfl⟩ := ry
  exact add_str (fun t' tk => ⟨.str (i ++ j), H, I.tok _, ⟨_, rfl⟩, q⟩) hz
noncomputable def PlainIxT (b : Expr) : Prop := ∀ o i, subscripted b false o i = operate [o, i] (getItem o i)
theorem vals1 {x : V} {us : List Value} (r : Vals [x] us) : ∃ u, us = [u] ∧ RelV x u := by
  cases r with
  | cons r1 r2 => cases r2; exact ⟨_, rfl, r1⟩
theorem vals2 {x y : V} {us : List Value} (r : Vals [x, y] us) : ∃ u w', us = [u, w'] ∧ RelV x u ∧ RelV y w' := by
  cases r with
  | cons r1 r2 =>
    cases r2 with
    | cons r3 r4 => cases r4; exact ⟨_, _, rfl, r1, r3⟩
theorem call_max2 (hc : X.calm = true) : CallR X (.builtin "max") (fun xs H Q => ∃ i j, xs = [.int i, .int j] ∧ Q (.int (if j > i then j else i)) H) := by
  intro pins s σ H xs us Q I r h
  obtain ⟨i, j, rfl, q⟩ := h
  obtain ⟨u, w', rfl, ⟨t, rfl⟩, ⟨t', rfl⟩⟩ := vals2 r
  refine max_two_ints (I.ok.hd hc) fun h' tk k => ⟨_, H, I.kept k, ?_, q⟩
  by_cases hj : j > i
  · rw [if_pos hj, if_pos hj]; exact ⟨_, rfl⟩
  · rw [if_neg hj, if_neg hj]; exact ⟨_, rfl⟩
noncomputable def LenV (K : PySem.W.Frag) (x : V) (H : Hp) (n : Nat) : Prop :=
  match x with
  | .str y => y.length ≤ sizeLine ∧ n = y.length
  | .byt y => y.size ≤ sizeLine ∧ n = y.size
  | .ref p => (∃ xs, SqL K H p xs ∧ n = xs.length) ∨ ∃ xs, SqT K H p xs ∧ n = xs.length
  | _ => False
theorem call_len : CallR X (.builtin "len") (fun xs H Q => ∃ x n, xs = [x] ∧ LenV X.K x H n ∧ Q (.int n) H) := by
  intro pins s σ H xs us Q I r h
  obtain ⟨x, n, rfl, e, q⟩ := h
  obtain ⟨u, rfl, rx⟩ := vals1 r
  have hl := line63
  have hs : sizeLine = 16777216 := sizeLine_eq
  cases x with
  | str y =>
    obtain ⟨t, rfl⟩ := rx
    obtain ⟨hy, e'⟩ : y.length ≤ sizeLine ∧ n = y.length := e
    subst e'
    exact len_str (by omega) ⟨.int _, H, I.tok _, ⟨_, rfl⟩, q⟩
  | byt y =>
    obtain ⟨t, rfl⟩ := rx
    obtain ⟨hy, e'⟩ : y.size ≤ sizeLine ∧ n = y.size := e
    subst e'
    exact PySem.W.len_bytes (by omega) ⟨.int _, H, I.tok _, ⟨_, rfl⟩, q⟩
  | ref p =>
    cases rx
    have e' : (∃ xs, SqL X.K H p xs ∧ n = xs.length) ∨ ∃ xs, SqT X.K H p xs ∧ n = xs.length := e
    rcases e' with ⟨xs, hx, e'⟩ | ⟨xs, hx, e'⟩
    · subst e'
      obtain ⟨its, r', pl, hz⟩ := I.list hx
      have hlen := r'.length
      exact Calls.call_len_list pl.isList (by simp only [List.size_toArray]; omega) ⟨.int xs.length, H, I.tok _, ⟨_, by simp only [List.size_toArray]; rw [hlen]⟩, q⟩
    · subst e'
      obtain ⟨its, r', pl, hz⟩ := I.tuple hx
      have hlen := r'.length
      exact len_tuple pl (by simp only [List.size_toArray]; omega) ⟨.int xs.length, H, I.tok _, ⟨_, by simp only [List.size_toArray]; rw [hlen]⟩, q⟩
  | _ => exact (show False from e).elim
end
end L2.Internal

namespace L2.Internal
open PySem PySem.Spec PyProof.Rows

structure ObjM (h : Heap) (x dx C : Addr) (mA : Str → Option Value) : Prop where
  obj : h.get? x = some (PySem.W.instObj C dx)
  ns : h.Ns1 dx mA
  ne : dx ≠ x

theorem lookIn_ns {h : Heap} {dx : Addr} {mA : Str → Option Value} (n : h.Ns1 dx mA) : ∃ od, h.get? dx = some od ∧ ∀ name, PySem.W.lookIn name od = some (mA name) := by
  obtain ⟨o, es, ep, ho, hd, hk, _, hm⟩ := n
  refine ⟨o, ho, fun name => ?_⟩
  have e := hm name
  unfold nsFind findBy at e
  rw [← Array.find?_toList] at e
  unfold PySem.W.lookIn
  rw [hd]
  dsimp only
  split
  · rename_i y q
    rw [q] at e
    exact congrArg some e
  · rename_i q
    rw [q] at e
    have a : es.toList.any (·.refKey) = false := by
      rw [List.any_eq_false]
      intro y hy
      obtain ⟨z, t, hkey⟩ := hk y (Array.mem_toList_iff.mp hy)
      simp [DictEntry.refKey, hkey]
    have a' : ¬ es.toList.any (·.refKey) = true := by rw [a]; exact Bool.false_ne_true
    rw [if_neg a']
    exact congrArg some e

theorem ObjM.look {h : Heap} {x dx C : Addr} {mA : Str → Option Value} (I : ObjM h x dx C mA) : ∃ od, PySem.W.InstAt h x (PySem.W.instObj C dx) C (some od) ∧ ∀ name, PySem.W.lookIn name od = some (mA name) :=
  let ⟨od, ho, hl⟩ := lookIn_ns I.ns
  ⟨od, ⟨I.obj, rfl, rfl, ho⟩, hl⟩

section
variable {prog : Program} {w : World} {A : Around} {E : Value → Shared → Prop} {s : Shared} {K : PySem.W.Frag} {x dx C f : Addr} {mA : Str → Option Value} {name : Str} {v : Value}

theorem get_map {expr : Bool} {Q : Value → Shared → Prop} (X : K.In s.heap) (I : ObjM s.heap x dx C mA) (hg : PySem.W.plainGet K C name = true) (hh : PySem.W.hasDictIn K C = true)
    (ha : PySem.W.findIn K (.ref C) name = some none) (hv : mA name = some v) (hv' : PySem.W.handedIn v = true) (h : Q v { s with toks := s.toks + 1 }) :
    wpAny (model prog w) A (getAttr (.ref x) name expr) Q E s := by
  obtain ⟨od, J, hl⟩ := I.look
  exact PySem.W.get_value X J (PySem.W.plainGet_of hg).1 (PySem.W.findObj_own hh ha rfl (by rw [hl, hv])) hv' h

theorem get_meth {pl : Sem Bool} {Q : Value × List Value → Shared → Prop} (X : K.In s.heap) (I : ObjM s.heap x dx C mA) (hg : PySem.W.plainGet K C name = true)
    (hf : PySem.W.findIn K (.ref C) name = some (some (.ref f))) (ht : PySem.W.isFn K (.ref f) = true) (hv : mA name = none) (h : Q (.ref f, [.ref x]) s) :
    wpAny (model prog w) A (getMethod (.ref x) name pl) Q E s := by
  obtain ⟨od, J, hl⟩ := I.look
  exact PySem.W.method_fn X J (PySem.W.plainGet_of hg).1 (PySem.W.plainGet_of hg).2 hf (beq_iff_eq.mp ht) (by show (PySem.W.lookIn name od).map (·.isSome) = some false; rw [hl, hv]; rfl) h

theorem set_map {ns : List Str} {Q : Unit → Shared → Prop} (X : K.In s.heap) (I : ObjM s.heap x dx C mA)
    (hs : PySem.W.findIn K (.ref C) "__setattr__" = some (some (.builtin "object.__setattr__"))) (hp : PySem.W.plainOver K C = true) (ht : PySem.W.takerIn K C name = some none) (hh : PySem.W.hasDictIn K C = true)
    (hw : PySem.Within mA ns) (hsz : ns.length ≤ sizeLine)
    (h : ∀ h', ObjM h' x dx C (fun y => if y = name then some v else mA y) → Heap.SameBut dx s.heap h' → Q () { s with heap := h', toks := s.toks + 2 }) :
    wpAny (model prog w) A (setAttr (.ref x) name v) Q E s := by
  obtain ⟨od, J, hl⟩ := I.look
  refine PySem.W.set_plain X J hs (PySem.W.osa_open (s := { s with toks := s.toks + 1 }) (r := none) X J hp ht fun b => ?_)
  obtain ⟨cd, hc, hd'⟩ := PySem.W.any_some hh
  have hx : s.heap.get? x = some ⟨.ref C, some dx, .plain, #[]⟩ := I.obj
  refine wpAny_bind (wpAny_pure (wpAny_bind (wpAny_bind (wpAny_loadPart hx (wpAny_bind (PySem.W.Looks.here (s := { s with toks := s.toks + 1 }) (PySem.W.looks_clsIn X hc) ?_))))))
  rw [hd']
  refine wpAny_pure (a := some dx) (wpAny_bind (wpAny_pure (wpAny_bind ?_)))
  refine wpAny_nsSet1 (s := { s with toks := s.toks + 1 }) I.ns fun h' hn2 hs2 => ?_
  obtain ⟨oD, esD, epD, hoD, hdD, hcD⟩ := hn2.count (PySem.Within.cons name v hw)
  refine wpAny_bind (wpAny_lookBehind hoD (by rw [hdD]; exact pastItsLine_dict (Nat.le_trans hcD (by rw [List.length_cons]; omega))) ?_)
  exact wpAny_pure (h _ ⟨(hs2.2 _ (Ne.symm I.ne)).trans I.obj, hn2, I.ne⟩ hs2)

theorem make_map {R : Result → Shared → Prop} {vs : List Value} {kw : List (Str × Value)} (X : K.In s.heap) (hm : PySem.W.makesIn K C = true)
    (hi : PySem.W.findIn K (.ref C) "__init__" = some (some (.ref f))) (hf : PySem.W.typeIn K (.ref f) = some (.type "function"))
    (h : codeAny (model prog w) (A.under (.builtin "type.__call__" ⟨.ref C :: vs, kw⟩)) (.call (.ref f) ⟨.ref (s.heap.objs.size + 1) :: vs, kw⟩) (PySem.W.InitBack (s.heap.objs.size + 1) R)
      { s with heap := (s.heap.push PySem.W.emptyDict).push (PySem.W.instObj C s.heap.objs.size) }) :
    codeAny (model prog w) A (.call (.ref C) ⟨vs, kw⟩) R s := by
  obtain ⟨hh, g, d, t, os⟩ := s
  exact PySem.W.make_core (PySem.W.makes_of X hm) (PySem.W.looks_findIn X hi) (fun self => PySem.W.bind_fn X self hf) (.inl rfl) h
end

noncomputable def putF (f : Str) (v : V) : List (Str × V) → List (Str × V)
  | [] => [(f, v)]
  | (g, x) :: r => if g = f then (g, v) :: r else (g, x) :: putF f v r
theorem lookup_putF (f g : Str) (v : V) : ∀ fs : List (Str × V), (putF f v fs).lookup g = if g = f then some v else fs.lookup g
  | [] => by
    show List.lookup g [(f, v)] = _
    by_cases h : g = f
    · have hb : (g == f) = true := beq_iff_eq.mpr h
      simp only [List.lookup, hb, if_pos h]
    · have hb : (g == f) = false := beq_eq_false_iff_ne.mpr h
      simp only [List.lookup, hb, if_neg h]
  | (k, x) :: r => by
    have ih := lookup_putF f g v r
    rw [show putF f v ((k, x) :: r) = (if k = f then (k, v) :: r else (k, x) :: putF f v r) from rfl]
    by_cases hk : k = f
    · rw [if_pos hk]
      by_cases h : g = k
      · have hb : (g == k) = true := beq_iff_eq.mpr h
        simp only [List.lookup, hb, if_pos (h.trans hk)]
      · have hb : (g == k) = false := beq_eq_false_iff_ne.mpr h
        simp only [List.lookup, hb, if_neg (fun e : g = f => h (e.trans hk.symm))]
    · rw [if_neg hk]
      by_cases h : g = k
      · have hb : (g == k) = true := beq_iff_eq.mpr h
        simp only [List.lookup, hb, if_neg (fun e : g = f => hk (h.symm.trans e))]
      · have hb : (g == k) = false := beq_eq_false_iff_ne.mpr h
        simp only [List.lookup, hb]
        exact ih
theorem keys_putF (f : Str) (v : V) : ∀ fs : List (Str × V), f ∈ (putF f v fs).map (·.1) ∧ ∀ g, g ∈ fs.map (·.1) → g ∈ (putF f v fs).map (·.1)
  | [] => ⟨by simp [putF], fun g h => by simp at h⟩
  | (k, x) :: r => by
    obtain ⟨i1, i2⟩ := keys_putF f v r
    rw [show putF f v ((k, x) :: r) = (if k = f then (k, v) :: r else (k, x) :: putF f v r) from rfl]
    by_cases hk : k = f
    · rw [if_pos hk]
      subst hk
      exact ⟨by simp, fun g h => by simpa using h⟩
    · rw [if_neg hk]
      refine ⟨?_, fun g h => ?_⟩
      · rw [List.map_cons]
        exact List.mem_cons_of_mem _ i1
      · rw [List.map_cons] at h ⊢
        rcases List.mem_cons.mp h with e | e
        · exact List.mem_cons.mpr (.inl e)
        · exact List.mem_cons_of_mem _ (i2 g e)
theorem length_putF (f : Str) (v : V) : ∀ fs : List (Str × V), (putF f v fs).length ≤ fs.length + 1
  | [] => by simp [putF]
  | (k, x) :: r => by
    have ih := length_putF f v r
    rw [show putF f v ((k, x) :: r) = (if k = f then (k, v) :: r else (k, x) :: putF f v r) from rfl]
    by_cases hk : k = f
    · rw [if_pos hk, List.length_cons, List.length_cons]; omega
    · rw [if_neg hk, List.length_cons, List.length_cons]; omega

theorem RelO.some_of {v : V} {o : Option Value} (r : RelO (some v) o) : ∃ u, o = some u ∧ RelV v u := by
  cases o with
  | none => exact (show False from r).elim
  | some u => exact ⟨u, rfl, r⟩
theorem RelO.none_of {o : Option Value} (r : RelO none o) : o = none := by
  cases o with
  | none => rfl
  | some u => exact (show False from r).elim
theorem handed_of {v : V} {u : Value} (r : RelV v u) : PySem.W.handedIn u = true := by
  cases v with
  | non => cases (show u = Value.none from r); rfl
  | bl b => cases (show u = Value.bool b from r); rfl
  | int i => obtain ⟨t, e⟩ := (show ∃ t, u = Value.int i t from r); cases e; rfl
  | str x => obtain ⟨t, e⟩ := (show ∃ t, u = Value.str x t from r); cases e; rfl
  | byt b => obtain ⟨t, e⟩ := (show ∃ t, u = Value.bytes b t from r); cases e; rfl
  | flt b => obtain ⟨t, e⟩ := (show ∃ t, u = Value.float b t from r); cases e; rfl
  | ref a => cases (show u = Value.ref a from r); rfl
  | ty n => cases (show u = Value.type n from r); rfl

section
variable {P : Program} {w : World} {H H' : Hp} {h h' : Heap} {a C dx : Addr} {fs fs' : List (Str × V)}
theorem ins_get (hok : HOk P w H h) (e : H a = some (.ins C dx fs)) : ∃ mA, ObjM h a dx C mA ∧ (∀ f, RelO (fs.lookup f) (mA f)) ∧ PySem.Within mA (fs.map (·.1)) ∧ fs.length ≤ 1000 ∧ H dx = some (.own a) := by
  obtain ⟨d, z, ne, ob, mA, n, r, q⟩ := (show ObjOk P w H h a (.ins C dx fs) from hok a _ e)
  exact ⟨mA, ⟨ob, n, ne⟩, r, q, z, d⟩
end

structure Cls (K : PySem.W.Frag) (C : Addr) : Prop where
  pg : PySem.W.plainGet K C Str.empty = true
  hd : PySem.W.hasDictIn K C = true
  po : PySem.W.plainOver K C = true
  sa : PySem.W.findIn K (.ref C) "__setattr__" = some (some (.builtin "object.__setattr__"))
theorem Cls.get {K : PySem.W.Frag} {C : Addr} (c : Cls K C) (f : Str) : PySem.W.plainGet K C f = true := c.pg
noncomputable def NoAttr (K : PySem.W.Frag) (C : Addr) (f : Str) : Prop := PySem.W.findIn K (.ref C) f = some none
theorem NoAttr.taker {K : PySem.W.Frag} {C : Addr} {f : Str} (n : NoAttr K C f) : PySem.W.takerIn K C f = some none := by
  unfold PySem.W.takerIn
  rw [show PySem.W.findIn K (.ref C) f = some none from n]
  rfl
structure Con (K : PySem.W.Frag) (C : Addr) (f : Str) (v : V) (u : Value) : Prop where
  at_ : PySem.W.findIn K (.ref C) f = some (some u)
  rel : RelV v u
  get : PySem.W.specialIn K u "__get__" = some none
  cp : PySem.W.copiedNames.contains f = false
structure Meth (K : PySem.W.Frag) (C : Addr) (m : Str) (f : Addr) : Prop where
  at_ : PySem.W.findIn K (.ref C) m = some (some (.ref f))
  fn : PySem.W.isFn K (.ref f) = true
  kp : PySem.W.keepIn K (.ref f) = true

section
variable {X : Cx} {pins : List (Addr × Obj)} {σ : St} {H : Hp} {s : Shared} {a C dx : Addr} {fs : List (Str × V)} {f : Str} {v : V} {A : Around} {E : Value → Shared → Prop}

theorem getattr_ok {b : Bool} {Q : Value → Shared → Prop} (I : Inv X pins σ H s) (e : H a = some (.ins C dx fs)) (c : Cls X.K C) (n : NoAttr X.K C f) (l : fs.lookup f = some v)
    (h : ∀ u s', Inv X pins σ H s' → RelV v u → Q u s') : wpAny (model X.prog X.w) A (getAttr (.ref a) f b) Q E s := by
  obtain ⟨mA, O, r, _, _, _⟩ := ins_get I.hok e
  obtain ⟨u, hu, ru⟩ := RelO.some_of (v := v) (o := mA f) (by rw [← l]; exact r f)
  exact get_map I.kIn O (c.get f) c.hd n hu (handed_of ru) (h u _ (I.tok _) ru)

theorem getmeth_ok {m : Str} {g : Addr} {pl : Sem Bool} {Q : Value × List Value → Shared → Prop} (I : Inv X pins σ H s) (e : H a = some (.ins C dx fs)) (c : Cls X.K C) (k : Meth X.K C m g) (l : fs.lookup m = none)
    (h : Q (.ref g, [.ref a]) s) : wpAny (model X.prog X.w) A (getMethod (.ref a) m pl) Q E s := by
  obtain ⟨mA, O, r, _, _, _⟩ := ins_get I.hok e
  have hn : mA m = none := RelO.none_of (by rw [← l]; exact r m)
  exact get_meth I.kIn O (c.get m) k.at_ k.fn hn h

theorem setattr_ok {y : V} {u : Value} {Q : Unit → Shared → Prop} (I : Inv X pins σ H s) (e : H a = some (.ins C dx fs)) (c : Cls X.K C) (n : NoAttr X.K C f) (hl : fs.length < 1000) (ry : RelV y u)
    (h : ∀ s', Inv X pins σ (upd H a (.ins C dx (putF f y fs))) s' → Q () s') : wpAny (model X.prog X.w) A (setAttr (.ref a) f u) Q E s := by
  obtain ⟨mA, O, r, wi, _, ho⟩ := ins_get I.hok e
  have hz : (fs.map (·.1)).length ≤ sizeLine := by rw [List.length_map, sizeLine_eq]; omega
  refine set_map I.kIn O c.sa c.po n.taker c.hd wi hz fun h' O' sb => h _ ?_
  have hd : ∃ o, h'.get? dx = some o := let ⟨o, _, _, e', _⟩ := O'.ns; ⟨o, e'⟩
  refine I.write (x := a) (e := dx) (by rw [e]; exact True.intro) (.inr ho) (fun b q hb z => (sb.2 b hb).trans z) hd ?_
  refine ⟨by rw [upd_ne O.ne]; exact ho, ?_, O.ne, O'.obj, _, O'.ns, fun g => ?_, fun g hg => ?_⟩
  · have := length_putF f y fs; omega
  · show RelO ((putF f y fs).lookup g) (if g = f then some u else mA g)
    rw [lookup_putF]
    by_cases q : g = f
    · rw [if_pos q, if_pos q]; exact ry
    · rw [if_neg q, if_neg q]; exact r g
  · by_cases q : g = f
    · rw [q]; exact (keys_putF f y fs).1
    · refine (keys_putF f y fs).2 g (wi g fun z => hg ?_)
      show (if g = f then some u else mA g) = none
      rw [if_neg q]; exact z

theorem Inv.made (I : Inv X pins σ H s) : Inv X pins σ (upd (upd H s.heap.objs.size (.own (s.heap.objs.size + 1))) (s.heap.objs.size + 1) (.ins C s.heap.objs.size []))
    { s with heap := (s.heap.push PySem.W.emptyDict).push (PySem.W.instObj C s.heap.objs.size) } := by
  have e1 : (s.heap.push PySem.W.emptyDict).get? s.heap.objs.size = some PySem.W.emptyDict := Heap.get?_push_size s.heap rfl
  have e2 : ((s.heap.push PySem.W.emptyDict).push (PySem.W.instObj C s.heap.objs.size)).get? (s.heap.objs.size + 1) = some (PySem.W.instObj C s.heap.objs.size) := by
    have := Heap.get?_push_size (s.heap.push PySem.W.emptyDict) (o := PySem.W.instObj C s.heap.objs.size) rfl
    rwa [Heap.size_push] at this
  have e3 : (s.heap.push PySem.W.emptyDict).Ns s.heap.objs.size (fun _ => none) := ⟨PySem.W.emptyDict, #[], _, e1, rfl, (fun e he => absurd he (by simp)), fun _ => rfl⟩
  have I1 := I.laid (a := s.heap.objs.size) (o := .own (s.heap.objs.size + 1)) (h' := s.heap.push PySem.W.emptyDict) (t' := s.toks) (fun b u q => Heap.get?_push_of_some _ q) (Nat.le_refl _) ⟨_, e1⟩
  refine I1.laid (a := s.heap.objs.size + 1) (o := .ins C s.heap.objs.size []) (t' := s.toks) (fun b u q => Heap.get?_push_of_some _ q) (Nat.le_of_eq (Heap.size_push _ _)) ?_
  have ne : s.heap.objs.size ≠ s.heap.objs.size + 1 := Nat.ne_of_lt (Nat.lt_succ_self _)
  refine ⟨by rw [upd_ne ne, upd_same], Nat.zero_le _, ne, e2, fun _ => none, (Heap.Ns1.of_empty e3).at fun o q => Heap.get?_push_of_some _ q, fun _ => True.intro, fun y hy => absurd rfl hy⟩

theorem attr_of {prog : Program} {w : World} {env : Env} {e : Expr} {f : Str} {pos : Pos} {s : Shared} {Q : Value → Shared → Prop} (hb : attributeBase e f env (eval e env) = eval e env)
    (h : wpAny (model prog w) A (eval e env) (fun o s₁ => wpAny (model prog w) A (getAttr o f true) Q E s₁) E s) : wpAny (model prog w) A (eval (.Attribute e f pos) env) Q E s :=
  Attribute_any_ h (by rw [arm_eval_Attribute, hb])
end

noncomputable def tFld (K : PySem.W.Frag) (ta : TE) (f : Str) : TE := fun σ H Q => ta σ H fun x H1 => ∃ a C dx fs v, x = .ref a ∧ H1 a = some (.ins C dx fs) ∧ Cls K C ∧ NoAttr K C f ∧ fs.lookup f = some v ∧ Q v H1
noncomputable def tCon (K : PySem.W.Frag) (ta : TE) (f : Str) : TE := fun σ H Q => ta σ H fun x H1 => ∃ a C dx fs v u, x = .ref a ∧ H1 a = some (.ins C dx fs) ∧ Cls K C ∧ Con K C f v u ∧ fs.lookup f = none ∧ Q v H1
noncomputable def sFld (K : PySem.W.Frag) (ta tv : TE) (f : Str) : TS := fun D σ H => tv σ H fun y H1 => ta σ H1 fun x H2 => ∃ a C dx fs, x = .ref a ∧ H2 a = some (.ins C dx fs) ∧ Cls K C ∧ NoAttr K C f ∧ fs.length < 1000 ∧
  D.nx σ (upd H2 a (.ins C dx (putF f y fs)))
noncomputable def InOp (X : Cx) (op : Operator) (rd : V → V → Hp → VK → Prop) : Prop :=
  ∀ (pins : List (Addr × Obj)) (s : Shared) (σ : St) (H : Hp) (x y : V) (u v : Value) (Q : VK), Inv X pins σ H s → RelV x u → RelV y v → rd x y H Q → wpAny (model X.prog X.w) X.A (inplaceOp op u v) (EP X pins σ Q) X.xe s
noncomputable def sFldAug (K : PySem.W.Frag) (ta tv : TE) (rd : V → V → Hp → VK → Prop) (f : Str) : TS := fun D σ H => ta σ H fun x H1 => ∃ a C dx fs v, x = .ref a ∧ H1 a = some (.ins C dx fs) ∧ Cls K C ∧ NoAttr K C f ∧ fs.lookup f = some v ∧
  tv σ H1 fun y H2 => rd v y H2 fun z H3 => ∃ dx' fs', H3 a = some (.ins C dx' fs') ∧ fs'.length < 1000 ∧ D.nx σ (upd H3 a (.ins C dx' (putF f z fs')))

section
variable {X : Cx} {o e value : Expr} {f : Str} {pos pos' tpos : Pos} {ta tv : TE}
theorem pe_fld (he : PE X e ta) (hb : attributeBase e f X.env (eval e X.env) = eval e X.env) : PE X (.Attribute e f pos) (tFld X.K ta f) := by
  intro pins s σ H Q I h
  refine attr_of hb (thn (he pins s σ H _ I h) fun u s1 ⟨x, H1, I1, rx, a, C, dx, fs, v, ex, ea, c, n, l, q⟩ => ?_)
  subst ex
  obtain rfl : u = Value.ref a := rx
  exact getattr_ok I1 ea c n l fun u' s2 I2 ru => ⟨v, H1, I2, ru, q⟩
theorem ps_fld (ha : PE X o ta) (hv : PE X value tv) (hs : swapsWith value (some (.Attribute o f pos')) pos.line X.env = pure false) : PS X (.Assign [.Attribute o f pos'] value pos) (sFld X.K ta tv f) := by
  intro pins s σ H D I h
  refine plainObj_wpAny_Assign_Attribute (thn (hv pins s σ H _ I h) fun u s1 ⟨y, H1, I1, ry, q⟩ => thn (ha pins s1 σ H1 _ I1 q) fun ov s2 ⟨x, H2, I2, rx, a, C, dx, fs, ex, ea, c, n, l, q2⟩ => ?_) hs
  subst ex
  obtain rfl : ov = Value.ref a := rx
  exact setattr_ok I2 ea c n l ry fun s3 I3 => ⟨σ, _, I3, q2⟩
noncomputable def rAdd : V → V → Hp → VK → Prop := fun x y H Q => ∃ i j, x = .int i ∧ y = .int j ∧ Q (.int (i + j)) H
noncomputable def rSub : V → V → Hp → VK → Prop := fun x y H Q => ∃ i j, x = .int i ∧ y = .int j ∧ Q (.int (i - j)) H
end

section
variable {X : Cx} {pins : List (Addr × Obj)} {σ : St} {H : Hp} {s : Shared} {A : Around} {E : Value → Shared → Prop} {Q : Value → Shared → Prop} {c : Value} {b : Bool}
inductive TyOf (K : PySem.W.Frag) (H : Hp) : V → Value → Prop where
  | non : TyOf K H .non (.type "NoneType")
  | bl (x : Bool) : TyOf K H (.bl x) (.type "bool")
  | int (i : Int) : TyOf K H (.int i) (.type "int")
  | str (x : Str) : TyOf K H (.str x) (.type "str")
  | flt (x : UInt64) : TyOf K H (.flt x) (.type "float")
  | lst {a : Addr} {xs : List V} (e : H a = some (.lst xs)) : TyOf K H (.ref a) (.type "list")
  | frz {a : Addr} {o : Obj} {xs : List V} (e : H a = some (.frz o (.lst xs))) : TyOf K H (.ref a) (.type "list")
  | tup {a : Addr} {xs : List V} (e : H a = some (.tup xs)) : TyOf K H (.ref a) (.type "tuple")
  | dK {a : Addr} {kvs : List (Key × V)} (e : H a = some (.dK kvs)) : TyOf K H (.ref a) (.type "dict")
  | dT {a : Addr} {kvs : List (List Key × V)} (e : H a = some (.dT kvs)) : TyOf K H (.ref a) (.type "dict")
  | ins {a C dx : Addr} {fs : List (Str × V)} (e : H a = some (.ins C dx fs)) (cl : Cls K C) (ha : PySem.W.findIn K (.ref C) "__class__" = some (some (.builtin "object.__class__")))
      (hn : PySem.W.specialIn K (.builtin "object.__class__") "__get__" = some (some (.builtin "getset_descriptor.__get__"))) (htk : PySem.W.takesIn K (.builtin "object.__class__") = some true)
      (hm : PySem.W.mroIn K C (.type "object") = some true) : TyOf K H (.ref a) (.ref C)
theorem isinst_ok {x : V} {u t : Value} (I : Inv X pins σ H s) (rx : RelV x u) (ty : TyOf X.K H x t) (e : PySem.W.kitOne X.K t c = some b) (h : ∀ tk, Q (.bool b) { s with toks := tk }) :
    wpAny (model X.prog X.w) A (call (.builtin "isinstance") [u, c]) Q E s := by
  cases ty with
  | non => cases (show u = Value.none from rx); exact PySem.W.kia_one PySem.W.kitx_none I.kIn True.intro e (fun z => nomatch z) h
  | bl y => cases (show u = Value.bool y from rx); exact PySem.W.kia_one PySem.W.kitx_bool I.kIn True.intro e (fun z => nomatch z) h
  | int i => obtain ⟨t, q⟩ := (show ∃ t, u = Value.int i t from rx); cases q; exact PySem.W.kia_one PySem.W.kitx_int I.kIn True.intro e (fun z => nomatch z) h
  | str y => obtain ⟨t, q⟩ := (show ∃ t, u = Value.str y t from rx); cases q; exact PySem.W.kia_one PySem.W.kitx_str I.kIn True.intro e (fun z => nomatch z) h
  | flt y => obtain ⟨t, q⟩ := (show ∃ t, u = Value.float y t from rx); cases q; exact PySem.W.kia_one PySem.W.kitx_float I.kIn True.intro e (fun z => nomatch z) h
  | @lst a xs ea =>
    cases (show u = Value.ref a from rx)
    obtain ⟨_, _, n, _, h1⟩ := (show ObjOk X.prog X.w H s.heap a (.lst xs) from I.hok a _ ea)
    exact PySem.W.kia_one PySem.W.kitx_list I.kIn ⟨_, h1, rfl⟩ e (fun z => nomatch z) h
  | @frz a ob xs ea =>
    cases (show u = Value.ref a from rx)
    obtain ⟨_, _, _, n, _, h1⟩ := (show ObjOk X.prog X.w H s.heap a (.frz ob (.lst xs)) from I.hok a _ ea)
    exact PySem.W.kia_one PySem.W.kitx_list I.kIn ⟨_, h1, rfl⟩ e (fun z => nomatch z) h
  | @tup a xs ea =>
    cases (show u = Value.ref a from rx)
    obtain ⟨_, _, _, p⟩ := (show ObjOk X.prog X.w H s.heap a (.tup xs) from I.hok a _ ea)
    obtain ⟨o, h1, h2, _⟩ := p
    exact PySem.W.kia_one PySem.W.kitx_tuple I.kIn ⟨o, h1, h2⟩ e (fun z => nomatch z) h
  | @dK a kvs ea =>
    cases (show u = Value.ref a from rx)
    obtain ⟨_, _, vs, _, p⟩ := (show ObjOk X.prog X.w H s.heap a (.dK kvs) from I.hok a _ ea)
    obtain ⟨o, es, ep, h1, h2, _⟩ := p
    exact PySem.W.kia_one PySem.W.kitx_dict I.kIn ⟨o, h1, h2.1⟩ e (fun z => nomatch z) h
  | @dT a kvs ea =>
    cases (show u = Value.ref a from rx)
    obtain ⟨_, _, xs, _, o, es, ep, h1, h2, _⟩ := (show ObjOk X.prog X.w H s.heap a (.dT kvs) from I.hok a _ ea)
    exact PySem.W.kia_one PySem.W.kitx_dict I.kIn ⟨o, h1, h2.1⟩ e (fun z => nomatch z) h
  | @ins a C dx fs ea cl ha hn htk hm =>
    cases (show u = Value.ref a from rx)
    obtain ⟨mA, O, _⟩ := ins_get I.hok ea
    obtain ⟨od, J, _⟩ := O.look
    exact PySem.W.kia_one (PySem.W.kitx_own (cl.get _) cl.hd ha hn htk hm) I.kIn J e (fun z => nomatch z) h
end
end L2.Internal

namespace L2.Internal
open PySem PySem.Spec PyProof.Rows

structure Room (k : Nat) (A : Around) : Prop where
  hd : A.handled = none
  dp : A.depth + 3 * k + 5 < recursionLimit
  un : A.units + 16 * k + 200 < cLine
theorem Room.mono {j k : Nat} {A : Around} (r : Room k A) (h : j ≤ k) : Room j A := ⟨r.hd, by have := r.dp; omega, by have := r.un; omega⟩
theorem Room.deeper {k : Nat} {A : Around} (r : Room (k + 1) A) (env : Env) : Room k (A.deeper env) :=
  ⟨r.hd, by have := r.dp; show A.depth + 1 + 3 * k + 5 < _; omega, by have := r.un; show A.units + 3 + 16 * k + 200 < _; omega⟩
theorem make_depth {A : Around} {C : Addr} {us : List Value} {kw : List (Str × Value)} : (A.under (.builtin "type.__call__" ⟨.ref C :: us, kw⟩)).depth = A.depth + 1 := by
  first | rfl | simp [Around.under, Code.weight, Code.isCreation, Code.isGuard, Code.isCaller, Code.frames, Code.isFrame, guardIds]
theorem make_units {A : Around} {C : Addr} {us : List Value} {kw : List (Str × Value)} : (A.under (.builtin "type.__call__" ⟨.ref C :: us, kw⟩)).units = A.units + 1 := by
  first | rfl | simp [Around.under, Code.cUnits, Code.frames, Code.isFrame]
theorem Room.make {k : Nat} {A : Around} (r : Room (k + 1) A) (C : Addr) (us : List Value) (kw : List (Str × Value)) : Room k (A.under (.builtin "type.__call__" ⟨.ref C :: us, kw⟩)) :=
  ⟨r.hd, by have := r.dp; rw [make_depth]; omega, by have := r.un; rw [make_units]; omega⟩
theorem Room.depth {k : Nat} {A : Around} (r : Room k A) : A.depth < recursionLimit := by have := r.dp; omega
noncomputable def tNil : TA := fun _ H Q => Q [] H
noncomputable def tCons (ta : TE) (tr : TA) : TA := fun σ H Q => ta σ H fun x H1 => tr σ H1 fun xs H2 => Q (x :: xs) H2
section
variable {X : Cx} {e : Expr} {es : List Expr} {te : TE} {t : TA} {pos : Pos}
theorem pa_nil : PA X [] tNil := fun _ _ _ _ H Q I h => Calls.spliced_nil ⟨[], H, I, .nil, h⟩
theorem pa_cons (ha : PE X e te) (hr : PA X es t) (hs : autoParam (starEach (e :: es) X.env = (false, eval e X.env) :: starEach es X.env) L2.Internal.auR._auto_1) : PA X (e :: es) (tCons te t) := by
  intro pos pins s σ H Q I h
  rw [hs]
  show wpAny _ _ (spliced ((false, eval e X.env) :: backTo pos (starEach es X.env))) _ _ s
  refine Calls.spliced_cons (thn (ha pins s σ H _ I h) fun u s1 ⟨x, H1, I1, r1, q1⟩ => ?_)
  exact thn (hr pos pins s1 σ H1 _ I1 q1) fun us s2 ⟨xs, H2, I2, r2, q2⟩ => ⟨x :: xs, H2, I2, .cons r1 r2, q2⟩

noncomputable def tTup (t : TA) : TE := fun σ H Q => t σ H fun xs H1 => xs.length ≤ sizeLine ∧ ∀ p, H1 p = none → Q (.ref p) (upd H1 p (.tup xs))
noncomputable def tLst (t : TA) : TE := fun σ H Q => t σ H fun xs H1 => xs.length ≤ sizeLine ∧ ∀ p, H1 p = none → Q (.ref p) (upd H1 p (.lst xs))
theorem pe_tup {x1} (h : PA X es t) : PE X (.Tuple es x1 pos) (tTup t) := by
  intro pins s σ H Q I hq
  refine wpAny_Tuple_spliced (thn (h pos pins s σ H _ I hq) fun us s1 ⟨xs, H1, I1, r, z, q⟩ => ⟨by rw [← r.length]; exact z, ?_⟩)
  have hf : H1 s1.heap.objs.size = none := I1.hok.fresh (Nat.le_refl _)
  refine ⟨.ref s1.heap.objs.size, upd H1 s1.heap.objs.size (.tup xs), I1.laid (t' := s1.toks) (fun b u e => Heap.get?_push_of_some _ e) (Nat.le_refl _) ?_, rfl, q _ hf⟩
  exact ⟨z, us, r, ⟨_, Heap.get?_push_size _ rfl, rfl, _, rfl, rfl⟩⟩
theorem pe_lst (h : PA X es t) : PE X (.List es pos) (tLst t) := by
  intro pins s σ H Q I hq
  refine wpAny_List_spliced (thn (h pos pins s σ H _ I hq) fun us s1 ⟨xs, H1, I1, r, z, q⟩ => ⟨by rw [← r.length]; exact z, ?_⟩)
  have hf : H1 s1.heap.objs.size = none := I1.hok.fresh (Nat.le_refl _)
  refine ⟨.ref s1.heap.objs.size, upd H1 s1.heap.objs.size (.lst xs), I1.laid (t' := s1.toks) (fun b u e => Heap.get?_push_of_some _ e) (Nat.le_refl _) ?_, rfl, q _ hf⟩
  exact ⟨z, us, 0, r, Heap.get?_push_size _ rfl⟩
end

noncomputable abbrev Sp := List V → Hp → VK → XK → Prop
noncomputable abbrev CXT := List Env → Hp → Shared → XK → Value → Shared → Prop

structure Env0 (P : Program) (w : World) (K : PySem.W.Frag) (mg : Str → Option Value) (base : Heap) (A : Around) (outer : List Env) (s : Shared) (H : Hp) : Prop where
  frames : A.frames = some outer
  mod : Mod K mg base
  bs : ∀ b o, base.get? b = some o → s.heap.get? b = some o ∧ H b = none
  bsz : base.objs.size ≤ s.heap.objs.size
  funs : s.heap.FunFrames base outer
  frf : ∀ b ∈ frs outer, H b = none
  hok : HOk P w H s.heap
  bare : AllBare s.gens
noncomputable def CE (outer : List Env) (P : Program) (w : World) (H : Hp) (s : Shared) (Q : VK) (u : Value) (s' : Shared) : Prop :=
  ∃ v H', s'.os = s.os ∧ AllBare s'.gens ∧ Un (frs outer) [] H H' s.heap s'.heap ∧ HOk P w H' s'.heap ∧ RelV v u ∧ Q v H'
noncomputable def CR (CX : CXT) (outer : List Env) (P : Program) (w : World) (H : Hp) (s : Shared) (Q : VK) (E : XK) (r : Result) (s' : Shared) : Prop :=
  match r with
  | .ok (.ret u) => CE outer P w H s Q u s'
  | .ok _ => False
  | .error e => CX outer H s E e s'
structure FnOk (P : Program) (w : World) (K : PySem.W.Frag) (mg : Str → Option Value) (base : Heap) (CX : CXT) (k : Nat) (f : Addr) (fd : FuncData) (ps : List Str) (sp : Sp) : Prop where
  len : ∀ vs H Q E, sp vs H Q E → vs.length = ps.length
  run : ∀ (A : Around) (outer : List Env) (s : Shared) (H : Hp) (args : Args) (us : List Value) (vs : List V) (Q : VK) (E : XK), Room k A → Env0 P w K mg base A outer s H → BindsTo s fd args (ps.zip us) → Vals vs us → sp vs H Q E →
    codeAny (model P w) A (.call (.ref f) args) (CR CX outer P w H s Q E) s
theorem Env0.make {P : Program} {w : World} {K : PySem.W.Frag} {mg : Str → Option Value} {base : Heap} {A : Around} {outer : List Env} {s : Shared} {H : Hp} (e : Env0 P w K mg base A outer s H) (C : Addr) (us : List Value) (kw : List (Str × Value)) :
    Env0 P w K mg base (A.under (.builtin "type.__call__" ⟨.ref C :: us, kw⟩)) outer s H := ⟨by first | exact e.frames | (simpa [Around.under, Code.envs, Code.isFrame, pushEnvs] using e.frames), e.mod, e.bs, e.bsz, e.funs, e.frf, e.hok, e.bare⟩
section
variable {X : Cx} {pins : List (Addr × Obj)} {σ : St} {H : Hp} {s s' : Shared}
theorem Inv.env0 (I : Inv X pins σ H s) : Env0 X.prog X.w X.K X.mg X.base X.A X.stack s H :=
  ⟨I.ok.frames, I.ok.mod, I.bs, Nat.le_trans I.ok.bsz I.sz, I.stack, I.stkFree, I.hok, I.bare⟩
theorem Inv.after {Q : VK} {u : Value} (I : Inv X pins σ H s) (h : CE X.stack X.prog X.w H s Q u s') : EP X pins σ Q u s' := by
  obtain ⟨v, H', os, bare, un, hok, r, q⟩ := h
  obtain ⟨hh, g, d, t, os'⟩ := s'
  obtain rfl : os' = s.os := os
  exact ⟨v, H', I.call (h' := hh) (g' := g) (d' := d) (t' := t) (ch := []) un hok bare (fun b z => absurd z (by simp)), r, q⟩
end

noncomputable def tCall (sp : Sp) (dvs : List V) (E : XK) (t : TA) : TE := fun σ H Q => t σ H fun vs H1 => sp (vs ++ dvs) H1 Q E
noncomputable def tMeth (C : Addr) (m : Str) (sp : Sp) (dvs : List V) (E : XK) (ta : TE) (t : TA) : TE := fun σ H Q => ta σ H fun x H1 => ∃ a dx fs, x = .ref a ∧ H1 a = some (.ins C dx fs) ∧ fs.lookup m = none ∧
  t σ H1 fun vs H2 => sp (x :: (vs ++ dvs)) H2 Q E
noncomputable def tMake (C : Addr) (sp : Sp) (dvs : List V) (E : XK) (t : TA) : TE := fun σ H Q => t σ H fun vs H1 => ∀ x dx, H1 x = none → H1 dx = none → dx ≠ x →
  sp (.ref x :: (vs ++ dvs)) (upd (upd H1 dx (.own x)) x (.ins C dx [])) (fun v H2 => v = .non ∧ Q (.ref x) H2) E

noncomputable def Binds (K : PySem.W.Frag) (fd : FuncData) (ps : List Str) (ds : List Value) : Prop :=
  ∀ (s : Shared) (us : List Value), K.In s.heap → (us ++ ds).length = ps.length → BindsTo s fd ⟨us, []⟩ (ps.zip (us ++ ds))
theorem Binds.all {K : PySem.W.Frag} {fd : FuncData} {ps : List Str} (h : ∀ us : List Value, us.length = ps.length → bindArgs fd ⟨us, []⟩ = pure (ps.zip us)) : Binds K fd ps [] := fun s us _ hl => by
  rw [List.append_nil] at hl ⊢
  exact .of_eq (h us hl)

noncomputable def Passes (CX : CXT) (X : Cx) (E : XK) : Prop := ∀ (pins : List (Addr × Obj)) (σ : St) (H : Hp) (s : Shared) (e : Value) (s' : Shared), Inv X pins σ H s → CX X.stack H s E e s' → X.xe e s'

section
variable {X : Cx} {CX : CXT} {k : Nat} {f C : Addr} {fd : FuncData} {ps : List Str} {sp : Sp} {dvs : List V} {ds : List Value} {E : XK} {x m : Str} {p pos apos : Pos} {e o : Expr} {es : List Expr} {ta : TE} {t : TA}

theorem run_fn {pins : List (Addr × Obj)} {σ : St} {H : Hp} {s : Shared} {Q : VK} {us : List Value} {vs : List V} (F : FnOk X.prog X.w X.K X.mg X.base CX k f fd ps sp) (hr : Room k X.A) (hb : Binds X.K fd ps ds) (hd : Vals dvs ds) (hx : Passes CX X E)
    (I : Inv X pins σ H s) (r : Vals vs us) (h : sp (vs ++ dvs) H Q E) : wpAny (model X.prog X.w) X.A (call (.ref f) us) (EP X pins σ Q) X.xe s := by
  have r2 : Vals (vs ++ dvs) (us ++ ds) := r.append hd
  have hl : (us ++ ds).length = ps.length := by rw [← r2.length]; exact F.len _ _ _ _ h
  refine wpAny_call (codeAny_mono (F.run X.A X.stack s H ⟨us, []⟩ (us ++ ds) (vs ++ dvs) Q E hr I.env0 (hb s us I.kIn hl) r2 h) fun r s' hq => ?_)
  cases r with
  | error e => exact hx pins σ H s e s' I hq
  | ok fl =>
    cases fl with
    | ret u => exact I.after hq
    | next => exact False.elim hq
    | brk => exact False.elim hq
    | cont => exact False.elim hq

theorem pe_call (F : FnOk X.prog X.w X.K X.mg X.base CX k f fd ps sp) (hr : Room k X.A) (hg : Gl X x) (hm : X.mg x = some (.ref f)) (hk : PySem.W.keepIn X.K (.ref f) = true) (hb : Binds X.K fd ps ds) (hd : Vals dvs ds) (hx : Passes CX X E)
    (ha : PA X (e :: es) t) (hdb : autoParam ((x == ("__debug__" : Str)) = false) L2.Internal.auD._auto_1) (he : autoParam (starEach (e :: es) X.env = (false, eval e X.env) :: starEach es X.env) L2.Internal.auR._auto_1) (hpl : autoParam ((backTo pos (starEach es X.env)).any (·.1) = false) L2.Internal.auR._auto_1) :
    PE X (.Call (.Name x p) (e :: es) [] pos) (tCall sp dvs E t) := by
  intro pins s σ H Q I h
  refine wpAny_Call_Name_kw (ld_glob I hg hm ?_ hdb)
  refine PySem.W.callWith_K (h₀ := X.base) I.ok.mod.kin hk (thn (ha pos pins s σ H _ I h) fun us s1 ⟨vs, H1, I1, r, q⟩ => ⟨I1.kIn, ?_⟩) he hpl
  exact run_fn F hr hb hd hx I1 r q
theorem pe_meth {pl : Sem Bool} (he : PE X o ta) (c : Cls X.K C) (hm : Meth X.K C m f) (F : FnOk X.prog X.w X.K X.mg X.base CX k f fd ps sp) (hr : Room k X.A) (hb : Binds X.K fd ps ds) (hd : Vals dvs ds) (hx : Passes CX X E) (ha : PA X (e :: es) t)
    (hst : autoParam (starEach (e :: es) X.env = (false, eval e X.env) :: starEach es X.env) L2.Internal.auR._auto_1) (hpl : autoParam ((backTo pos (starEach es X.env)).any (·.1) = false) L2.Internal.auR._auto_1)
    (ht : eval (.Call (.Attribute o m apos) (e :: es) [] pos) X.env = (do
      let ov ← eval o X.env
      standAt apos.atName
      let (f, first) ← holding [ov] (getMethod ov m pl)
      callWith pos f first (backTo pos (starEach (e :: es) X.env)) (backToKw pos (keywordEach [] X.env))) := by rfl) :
    PE X (.Call (.Attribute o m apos) (e :: es) [] pos) (tMeth C m sp dvs E ta t) := by
  intro pins s σ H Q I h
  refine PySem.W.methodCall_KW (pl := pl) (thn (he pins s σ H _ I h) fun u s1 ⟨x, H1, I1, rx, a, dx, fs, ex, ea, l, q⟩ => ?_) ht
  subst ex
  obtain rfl : u = Value.ref a := rx
  refine getmeth_ok I1 ea c hm l ?_
  refine PySem.W.callWith_K (first := [.ref a]) (h₀ := X.base) I.ok.mod.kin hm.kp (thn (ha pos pins s1 σ H1 _ I1 q) fun us s2 ⟨vs, H2, I2, r, q2⟩ => ⟨I2.kIn, ?_⟩) hst hpl
  exact run_fn (us := .ref a :: us) (vs := .ref a :: vs) F hr hb hd hx I2 (.cons rfl r) q2
theorem pe_meth0 {pl : Sem Bool} (he : PE X o ta) (c : Cls X.K C) (hm : Meth X.K C m f) (F : FnOk X.prog X.w X.K X.mg X.base CX k f fd ps sp) (hr : Room k X.A) (hb : Binds X.K fd ps ds) (hd : Vals dvs ds) (hx : Passes CX X E)
    (ht : eval (.Call (.Attribute o m apos) [] [] pos) X.env = (do
      let ov ← eval o X.env
      standAt apos.atName
      let (f, first) ← holding [ov] (getMethod ov m pl)
      callWith pos f first (backTo pos (starEach [] X.env)) (backToKw pos (keywordEach [] X.env))) := by rfl) :
    PE X (.Call (.Attribute o m apos) [] [] pos) (tMeth C m sp dvs E ta tNil) := by
  intro pins s σ H Q I h
  refine PySem.W.methodCall_KW (pl := pl) (thn (he pins s σ H _ I h) fun u s1 ⟨x, H1, I1, rx, a, dx, fs, ex, ea, l, q⟩ => ?_) ht
  subst ex
  obtain rfl : u = Value.ref a := rx
  refine getmeth_ok I1 ea c hm l ?_
  exact PySem.W.callWith_K0 (first := [.ref a]) I1.kIn hm.kp (run_fn (us := [.ref a]) (vs := [.ref a]) F hr hb hd hx I1 (.cons rfl .nil) q)

structure Mk (K : PySem.W.Frag) (C f : Addr) : Prop where
  makes : PySem.W.makesIn K C = true
  init : PySem.W.findIn K (.ref C) "__init__" = some (some (.ref f))
  fn : PySem.W.isFn K (.ref f) = true
  kp : PySem.W.keepIn K (.ref C) = true

theorem run_make {pins : List (Addr × Obj)} {σ : St} {H : Hp} {s : Shared} {Q : VK} {us : List Value} {vs : List V} (M : Mk X.K C f) (F : FnOk X.prog X.w X.K X.mg X.base CX k f fd ps sp) (hr : Room (k + 1) X.A) (hb : Binds X.K fd ps ds) (hd : Vals dvs ds)
    (hx : Passes CX X E) (I : Inv X pins σ H s) (r : Vals vs us)
    (h : ∀ x dx, H x = none → H dx = none → dx ≠ x → sp (.ref x :: (vs ++ dvs)) (upd (upd H dx (.own x)) x (.ins C dx [])) (fun v H2 => v = .non ∧ Q (.ref x) H2) E) :
    wpAny (model X.prog X.w) X.A (call (.ref C) us) (EP X pins σ Q) X.xe s := by
  have hq := h (s.heap.objs.size + 1) s.heap.objs.size (I.hok.fresh (Nat.le_succ _)) (I.hok.fresh (Nat.le_refl _)) (Nat.ne_of_lt (Nat.lt_succ_self _))
  have I2 := Inv.made (C := C) I
  have r2 : Vals (V.ref (s.heap.objs.size + 1) :: (vs ++ dvs)) (Value.ref (s.heap.objs.size + 1) :: (us ++ ds)) := .cons rfl (r.append hd)
  have hl : (Value.ref (s.heap.objs.size + 1) :: us ++ ds).length = ps.length := by
    have e := r2.length
    rw [F.len _ _ _ _ hq] at e
    exact e.symm
  refine wpAny_call (make_map (f := f) I.kIn M.makes M.init (beq_iff_eq.mp M.fn) (codeAny_mono (F.run _ X.stack _ _ ⟨Value.ref (s.heap.objs.size + 1) :: us, []⟩ (Value.ref (s.heap.objs.size + 1) :: (us ++ ds)) _ _ E (hr.make C us [])
    (I2.env0.make C us []) (hb _ (Value.ref (s.heap.objs.size + 1) :: us) I2.kIn hl) r2 hq) fun r s' hq' => ?_))
  cases r with
  | error e => exact hx pins σ _ _ e s' I2 hq'
  | ok fl =>
    cases fl with
    | ret u =>
      obtain ⟨v, H', I3, rv, ev, q3⟩ := I2.after hq'
      subst ev
      exact ⟨rv, ⟨V.ref (s.heap.objs.size + 1), H', I3, rfl, q3⟩⟩
    | next => exact False.elim hq'
    | brk => exact False.elim hq'
    | cont => exact False.elim hq'
theorem pe_make (M : Mk X.K C f) (F : FnOk X.prog X.w X.K X.mg X.base CX k f fd ps sp) (hr : Room (k + 1) X.A) (hg : Gl X x) (hm : X.mg x = some (.ref C)) (hb : Binds X.K fd ps ds) (hd : Vals dvs ds) (hx : Passes CX X E)
    (ha : PA X (e :: es) t) (hdb : autoParam ((x == ("__debug__" : Str)) = false) L2.Internal.auD._auto_1) (he : autoParam (starEach (e :: es) X.env = (false, eval e X.env) :: starEach es X.env) L2.Internal.auR._auto_1) (hpl : autoParam ((backTo pos (starEach es X.env)).any (·.1) = false) L2.Internal.auR._auto_1) :
    PE X (.Call (.Name x p) (e :: es) [] pos) (tMake C sp dvs E t) := by
  intro pins s σ H Q I h
  refine wpAny_Call_Name_kw (ld_glob I hg hm ?_ hdb)
  refine PySem.W.callWith_K (h₀ := X.base) I.ok.mod.kin M.kp (thn (ha pos pins s σ H _ I h) fun us s1 ⟨vs, H1, I1, r, q⟩ => ⟨I1.kIn, ?_⟩) he hpl
  exact run_make M F hr hb hd hx I1 r q
theorem pe_make0 (M : Mk X.K C f) (F : FnOk X.prog X.w X.K X.mg X.base CX k f fd ps sp) (hr : Room (k + 1) X.A) (hg : Gl X x) (hm : X.mg x = some (.ref C)) (hb : Binds X.K fd ps ds) (hd : Vals dvs ds) (hx : Passes CX X E)
    (hdb : autoParam ((x == ("__debug__" : Str)) = false) L2.Internal.auD._auto_1) : PE X (.Call (.Name x p) [] [] pos) (tMake C sp dvs E tNil) := by
  intro pins s σ H Q I h
  refine wpAny_Call_Name_kw (ld_glob I hg hm ?_ hdb)
  exact PySem.W.callWith_K0 I.kIn M.kp (run_make (us := []) M F hr hb hd hx I .nil h)
end

noncomputable def PK (X : Cx) (kws : List Keyword) (t : TA) : Prop :=
  ∀ (pos : Pos) (pins : List (Addr × Obj)) (s : Shared) (σ : St) (H : Hp) (Q : List V → Hp → Prop), Inv X pins σ H s → t σ H Q → wpAny (model X.prog X.w) X.A (evalAll ((backToKw pos (keywordEach kws X.env)).map (·.2))) (AP X pins σ Q) X.xe s
section
variable {X : Cx} {CX : CXT} {k : Nat} {f C : Addr} {fd : FuncData} {ps ks : List Str} {sp : Sp} {E : XK} {x m : Str} {p pos apos kpos : Pos} {e o : Expr} {es : List Expr} {kws : List Keyword} {te ta : TE} {t tk : TA} {nm : Option Str}
structure KBinds (K : PySem.W.Frag) (fd : FuncData) (ps ks : List Str) (g : List Value → List Value → List Value) (gV : List V → List V → List V) : Prop where
  to : ∀ (s : Shared) (us ws : List Value), K.In s.heap → (g us ws).length = ps.length → BindsTo s fd ⟨us, ks.zip ws⟩ (ps.zip (g us ws))
  rel : ∀ {vs : List V} {us : List Value} {zs : List V} {ws : List Value}, Vals vs us → Vals zs ws → Vals (gV vs zs) (g us ws)
noncomputable def tCallK (sp : Sp) (gV : List V → List V → List V) (E : XK) (t tk : TA) : TE := fun σ H Q => t σ H fun vs H1 => tk σ H1 fun zs H2 => sp (gV vs zs) H2 Q E
variable {g : List Value → List Value → List Value} {gV : List V → List V → List V}
end

structure FnScope (N P : List Str) (sc : Scope) : Prop where
  kind : sc.kind = .function
  co : sc.isCoroutine = false
  gen : sc.isGenerator = false
  nd : N.Nodup
  pre : N.take P.length = P
  par : ∀ x ∈ P, sc.names.lookup x = some .local ∨ sc.names.lookup x = some .cell
  nofree : ∀ y ∈ sc.names, y.2 ≠ .free

theorem bindL_out {kindOf : Str → Option NameKind} {x : Str} : ∀ {binds : List (Str × Value)} {m : Str → Option Value}, (∀ v, (x, v) ∉ binds) → bindL kindOf binds m x = m x
  | [], _, _ => rfl
  | (n, v) :: r, m, h => by
    unfold bindL
    rw [bindL_out fun w hw => h w (List.mem_cons_of_mem _ hw)]
    split
    · have : x ≠ n := by rintro rfl; exact h v List.mem_cons_self
      simp [this]
    · rfl
theorem bindC_out {kindOf : Str → Option NameKind} {x : Str} : ∀ {binds : List (Str × Value)} {m : Str → Option Value}, (∀ v, (x, v) ∉ binds) → bindC kindOf binds m x = m x
  | [], _, _ => rfl
  | (n, v) :: r, m, h => by
    unfold bindC
    rw [bindC_out fun w hw => h w (List.mem_cons_of_mem _ hw)]
    split
    · rfl
    · have : x ≠ n := by rintro rfl; exact h v List.mem_cons_self
      simp [this]
theorem bindL_get {kindOf : Str → Option NameKind} {x : Str} {v : Value} : ∀ {P : List Str} {vs : List Value} {i : Nat} {m : Str → Option Value}, P.Nodup → P[i]? = some x → vs[i]? = some v → kindOf x = some .local →
    bindL kindOf (P.zip vs) m x = some v
  | [], _, _, _, _, h, _, _ => by simp at h
  | _ :: _, [], _, _, _, _, h, _ => by simp at h
  | p :: P, w :: vs, 0, m, nd, h1, h2, hk => by
    simp at h1 h2; subst h1; subst h2
    show bindL kindOf ((p, w) :: P.zip vs) m p = _
    unfold bindL
    rw [bindL_out fun v hv => (List.nodup_cons.mp nd).1 (List.of_mem_zip hv).1, if_pos hk]
    simp
  | p :: P, w :: vs, i + 1, m, nd, h1, h2, hk => by
    show bindL kindOf ((p, w) :: P.zip vs) m x = _
    unfold bindL
    exact bindL_get (i := i) (List.nodup_cons.mp nd).2 (by simpa using h1) (by simpa using h2) hk
theorem bindC_get {kindOf : Str → Option NameKind} {x : Str} {v : Value} : ∀ {P : List Str} {vs : List Value} {i : Nat} {m : Str → Option Value}, P.Nodup → P[i]? = some x → vs[i]? = some v → kindOf x ≠ some .local →
    bindC kindOf (P.zip vs) m x = some v
  | [], _, _, _, _, h, _, _ => by simp at h
  | _ :: _, [], _, _, _, _, h, _ => by simp at h
  | p :: P, w :: vs, 0, m, nd, h1, h2, hk => by
    simp at h1 h2; subst h1; subst h2
    show bindC kindOf ((p, w) :: P.zip vs) m p = _
    unfold bindC
    rw [bindC_out fun v hv => (List.nodup_cons.mp nd).1 (List.of_mem_zip hv).1, if_neg hk]
    simp
  | p :: P, w :: vs, i + 1, m, nd, h1, h2, hk => by
    show bindC kindOf ((p, w) :: P.zip vs) m x = _
    unfold bindC
    exact bindC_get (i := i) (List.nodup_cons.mp nd).2 (by simpa using h1) (by simpa using h2) hk

noncomputable def start (N : List Str) (vs : List V) : St := vs.map some ++ List.replicate (N.length - vs.length) none

noncomputable def cxOf (CX : CXT) (P : Program) (w : World) (K : PySem.W.Frag) (mg : Str → Option Value) (base : Heap) (N : List Str) (qual : Str) (scope : Scope) (f : Addr) (cd : Value) (A : Around) (outer : List Env) (s : Shared) (H : Hp) (E : XK) : Cx where
  prog := P
  w := w
  K := K
  mg := mg
  base := base
  A := A.deeper (envOfC qual scope s.heap.objs.size f cd)
  N := N
  s₀ := s
  H₀ := H
  env := envOfC qual scope s.heap.objs.size f cd
  outer := outer
  stack := envOfC qual scope s.heap.objs.size f cd :: outer
  ex := []
  calm := true
  fn := fun _ => true
  pn := []
  xe := fun e s' => wpAny (model P w) (A.deeper (envOfC qual scope s.heap.objs.size f cd)) (leaving (envOfC qual scope s.heap.objs.size f cd) e) (fun _ s'' => CX outer H s E e s'') (fun e' s'' => CX outer H s E e' s'') s'

theorem cell_has {sc : Scope} {n : Nat} {x : Str} (h : sc.names.lookup x = some .cell) : ∃ c, (cellsFrom n sc.names []).lookup x = some c := by
  have q := PySem.W.cellsFrom_some sc.names n [] (.inl h)
  exact Option.isSome_iff_exists.mp q

theorem inv_start {CX : CXT} {P : Program} {w : World} {K : PySem.W.Frag} {mg : Str → Option Value} {base : Heap} {N ps : List Str} {qual : Str} {scope : Scope} {f : Addr} {cd : Value} {A : Around} {outer : List Env} {s s1 : Shared} {H : Hp} {E : XK} {us : List Value} {vs : List V}
    (S : FnScope N ps scope) (hd : A.handled = none) (e0 : Env0 P w K mg base A outer s H) (hl : vs.length = ps.length) (r : Vals vs us)
    (x : InCallC s s.heap.objs.size (bindL (envOfC qual scope s.heap.objs.size f cd).kindOf (ps.zip us) fun _ => none) (cellsFrom (s.heap.objs.size + 1) scope.names []) (bindC (envOfC qual scope s.heap.objs.size f cd).kindOf (ps.zip us) fun _ => none) s1) :
    Inv (cxOf CX P w K mg base N qual scope f cd A outer s H E) [] (start N vs) H s1 := by
  have hpl : ps.length ≤ N.length := by have := congrArg List.length S.pre; rw [List.length_take] at this; omega
  obtain ⟨h1, tk, rfl, hk⟩ := x.done
  have noA : ∀ b : Addr, b ∉ (cxOf CX P w K mg base N qual scope f cd A outer s H E).ex := fun b z => absurd (show b ∈ ([] : List Addr) from z) (by simp)
  refine ⟨⟨e0.mod, S.kind, rfl, rfl, Nat.le_refl _, fun y z c h1 h2 => ?_, fun y hy => ?_, fun y c _ h => ?_, fun _ => hd, Around.frames_deeper e0.frames, .inr ⟨rfl, rfl⟩, fun b z => absurd z (noA b), e0.bs, e0.bsz, fun b _ _ => noA b, fun b z => absurd z (noA b), e0.funs, e0.frf⟩,
    rfl, e0.bare, Un.kept hk, ⟨_, x.toInCall.ns, fun i y v h1 h2 h3 => ?_⟩, fun y c h => ⟨_, x.cell y c h⟩, e0.hok.fresh (Nat.le_refl _), fun y c h => ?_, fun p hp => absurd (show p ∈ ([] : List (Addr × Obj)) from hp) (by simp), e0.hok.kept hk, ?_⟩
  · exact name_of_addr x.apart (PySem.mem_of_lookup h1) (PySem.mem_of_lookup h2)
  · have hy : scope.names.lookup y = some .cell ∨ scope.names.lookup y = some .free := hy
    rcases hy with hy | hy
    · exact cell_has hy
    · exact absurd rfl (S.nofree _ (PySem.mem_of_lookup hy))
  · exact Nat.le_of_lt (x.above y c (PySem.mem_of_lookup h))
  · have hi : i < vs.length := by
      unfold start at h2
      by_cases hi : i < vs.length
      · exact hi
      · rw [List.getElem?_append_right (by simpa using hi)] at h2
        rw [List.getElem?_replicate] at h2
        split at h2 <;> cases h2
    have ha : vs[i]? = some v := by
      unfold start at h2
      rw [List.getElem?_append_left (by simpa using hi), List.getElem?_map] at h2
      cases e : vs[i]? with
      | none => rw [e] at h2; cases h2
      | some a => rw [e] at h2; cases h2; rfl
    obtain ⟨u, hu, rv⟩ := r.get ha
    have hp : ps[i]? = some y := by
      rw [← S.pre, List.getElem?_take_of_lt (by omega)]; exact h1
    have ndP : ps.Nodup := by rw [← S.pre]; exact S.nd.sublist (List.take_sublist _ _)
    refine ⟨u, rv, ?_⟩
    rcases S.par y (List.mem_of_getElem? hp) with k | k
    · exact .inl ⟨k, bindL_get ndP hp hu k⟩
    · obtain ⟨c, e⟩ := cell_has (n := s.heap.objs.size + 1) k
      refine .inr ⟨.inl k, c, e, ?_⟩
      have q := x.cell y c e
      rw [bindC_get ndP hp hu (by show scope.names.lookup y ≠ _; rw [k]; decide)] at q
      exact q
  · exact e0.hok.fresh (Nat.le_of_lt (x.above y c (PySem.mem_of_lookup h)))
  · unfold start
    show _ = N.length
    rw [List.length_append, List.length_map, List.length_replicate]
    omega

theorem fn_of {CX : CXT} {P : Program} {w : World} {K : PySem.W.Frag} {mg : Str → Option Value} {base : Heap} {k : Nat} {f : Addr} {name qual : Str} {params : Arguments} {body : List Stmt} {scope : Scope} {dV kV doc pm cdv ct oc : Value} {an od : Option Addr}
    {osl : Array (Option Value)} {N ps : List Str} {sp : Sp} (lk : K.lookup f = some ⟨oc, od, .func (PySem.W.fnOf name qual params body scope dV kV doc pm an cdv ct), osl⟩) (hcd : PySem.W.codeIn K cdv qual = true) (S : FnScope N ps scope)
    (len : ∀ vs H Q E, sp vs H Q E → vs.length = ps.length)
    (hbody : ∀ (A : Around) (outer : List Env) (s : Shared) (H : Hp) (vs : List V) (Q : VK) (E : XK), Room k (A.deeper (envOfC qual scope s.heap.objs.size f cdv)) → sp vs H Q E →
      ∃ t, PSs (cxOf CX P w K mg base N qual scope f cdv A outer s H E) body t ∧ t { nx := fun _ H' => Q .non H', rt := Q } (start N vs) H) :
    FnOk P w K mg base CX (k + 1) f (PySem.W.fnOf name qual params body scope dV kV doc pm an cdv ct) ps sp := by
  refine ⟨len, fun A outer s H args us vs Q E hr e0 hb r hsp => ?_⟩
  have hl := len _ _ _ _ hsp
  have KX : K.In s.heap := e0.mod.kin.keeps fun b o e => (e0.bs b o e).1
  have lim : s.heap.NoLimit := e0.mod.nolimit.keeps fun b o e => (e0.bs b o e).1
  have hkind : ∀ y ∈ ps.zip us, scope.names.lookup y.1 = some .local ∨ (scope.names.lookup y.1 = some .cell ∧ ((cellsFrom (s.heap.objs.size + 1) scope.names []).lookup y.1).isSome = true) := fun ⟨n, v⟩ hy => by
    rcases S.par n (List.of_mem_zip hy).1 with q | q
    · exact .inl q
    · exact .inr ⟨q, PySem.W.cellsFrom_some _ _ _ (.inl q)⟩
  refine codeAny_call_function hr.depth (KX _ _ lk) rfl S.co S.gen rfl (PySem.W.codeRec_of KX hcd) (hb _ _ _ _ ?_)
  refine wpAny_newFunctionEnv_cells S.kind hkind fun env he s1 x => ?_
  subst he
  refine ⟨lim.keeps x.toInCall.keep, codeAny_func ?_⟩
  obtain ⟨t, ht, hq⟩ := hbody A outer s H vs Q E (hr.deeper _) hsp
  have I : Inv (cxOf CX P w K mg base N qual scope f cdv A outer s H E) [] (start N vs) H s1 := inv_start S hr.hd e0 hl r x
  refine wpAny_mono (ht [] s1 (start N vs) H _ I hq) (fun fl s' hs => ?_) fun e s' hs => hs
  have fin : ∀ {σ' : St} {H' : Hp} {v : V} {u : Value}, Inv (cxOf CX P w K mg base N qual scope f cdv A outer s H E) [] σ' H' s' → RelV v u → Q v H' → CE outer P w H s Q u s' :=
    fun {σ' H' v u} J rv q => ⟨v, H', J.os, J.bare, J.base, J.hok, rv, q⟩
  cases fl with
  | ret u =>
    obtain ⟨v, σ', H', J, rv, q⟩ := hs
    exact fin J rv q
  | next =>
    obtain ⟨σ', H', J, q⟩ := hs
    exact fin (v := V.non) (u := Value.none) J rfl q
  | brk =>
    obtain ⟨_, _, _, q⟩ := hs
    exact False.elim q
  | cont =>
    obtain ⟨_, _, _, q⟩ := hs
    exact False.elim q
end L2.Internal

namespace L2.Internal
open PySem PySem.Spec PyProof.Rows
section
variable {X : Cx} {x : Str} {p pos : Pos} {e : Expr} {es : List Expr} {t : TA} {id T : String} {r : List V → Hp → VK → Prop}

noncomputable def tCB (r : List V → Hp → VK → Prop) (t : TA) : TE := fun σ H Q => t σ H fun vs H1 => r vs H1 Q
theorem pe_callB (hc : CallR X (.builtin id) r) (hg : Gl X x) (hm : X.mg x = none) (hv : bootBuiltins x = some (.builtin id)) (ha : PA X (e :: es) t) (hn : autoParam (x ≠ "__name__") L2.Internal.auD._auto_1) (hdb : autoParam ((x == ("__debug__" : Str)) = false) L2.Internal.auD._auto_1)
    (he : autoParam (starEach (e :: es) X.env = (false, eval e X.env) :: starEach es X.env) L2.Internal.auR._auto_1) (hpl : autoParam ((backTo pos (starEach es X.env)).any (·.1) = false) L2.Internal.auR._auto_1) : PE X (.Call (.Name x p) (e :: es) [] pos) (tCB r t) := by
  intro pins s σ H Q I h
  refine wpAny_Call_Name_kw (ld_blt I hg hm hv ?_ hn hdb)
  exact PyProof.Rows.callWith_builtin1 (thn (ha pos pins s σ H _ I h) fun us s1 ⟨vs, H1, I1, r1, q1⟩ => hc pins s1 σ H1 vs us Q I1 r1 q1) he hpl
theorem pe_callTy (hc : CallR X (.type T) r) (hg : Gl X x) (hm : X.mg x = none) (hv : bootBuiltins x = some (.type T)) (ha : PA X (e :: es) t) (hn : autoParam (x ≠ "__name__") L2.Internal.auD._auto_1) (hdb : autoParam ((x == ("__debug__" : Str)) = false) L2.Internal.auD._auto_1)
    (he : autoParam (starEach (e :: es) X.env = (false, eval e X.env) :: starEach es X.env) L2.Internal.auR._auto_1) (hpl : autoParam ((backTo pos (starEach es X.env)).any (·.1) = false) L2.Internal.auR._auto_1) : PE X (.Call (.Name x p) (e :: es) [] pos) (tCB r t) := by
  intro pins s σ H Q I h
  refine wpAny_Call_Name_kw (ld_blt I hg hm hv ?_ hn hdb)
  exact PyProof.Rows.callWith_type1 (thn (ha pos pins s σ H _ I h) fun us s1 ⟨vs, H1, I1, r1, q1⟩ => hc pins s1 σ H1 vs us Q I1 r1 q1) he hpl
end
end L2.Internal

namespace L2.Internal
open PySem PySem.Spec PyProof.Rows

section
variable {κ : Type} [DecidableEq κ]
noncomputable def valV (kvs : List (κ × V)) (k : κ) : Option V := (kvs.find? fun kv => decide (kv.1 = k)).map (·.2)
noncomputable def putK (kvs : List (κ × V)) (k : κ) (v : V) : List (κ × V) :=
  if (kvs.any fun kv => decide (kv.1 = k)) = true then kvs.map (fun kv => if kv.1 = k then (kv.1, v) else kv) else kvs ++ [(k, v)]
noncomputable def dropK (kvs : List (κ × V)) (k : κ) : List (κ × V) := kvs.filter fun kv => decide (kv.1 ≠ k)

theorem valV_pos {p : κ × V} {r : List (κ × V)} {k : κ} (e : p.1 = k) : valV (p :: r) k = some p.2 := by simp [valV, List.find?_cons, e]
theorem valV_neg {p : κ × V} {r : List (κ × V)} {k : κ} (e : ¬ p.1 = k) : valV (p :: r) k = valV r k := by simp [valV, List.find?_cons, e]
theorem KV.val {kvs : List (κ × V)} {vs : List (κ × Value)} (r : KV kvs vs) (k : κ) : RelO (valV kvs k) (valueAt vs k) := by
  unfold KV at r
  induction r with
  | nil => exact True.intro
  | @cons p q ps qs h t ih =>
    obtain ⟨h1, h2⟩ := h
    by_cases e : p.1 = k
    · have e' : q.1 = k := h1.symm.trans e
      have b : valueAt (q :: qs) k = some q.2 := by simp [valueAt, List.find?_cons, e']
      rw [valV_pos e, b]; exact h2
    · have e' : ¬ q.1 = k := fun z => e (h1.trans z)
      have b : valueAt (q :: qs) k = valueAt qs k := by simp [valueAt, List.find?_cons, e']
      rw [valV_neg e, b]; exact ih
end


noncomputable abbrev KT (H : Hp) : List (List Key × V) → List (List Key × Addr × Value) → Prop := Paired fun p q => p.1 = q.1 ∧ H q.2.1 = some (.tup (p.1.map kV)) ∧ RelV p.2 q.2.2
theorem KT.val {H : Hp} {kvs : List (List Key × V)} {xs : List (List Key × Addr × Value)} (r : KT H kvs xs) (k : List Key) : RelO (valV kvs k) ((atKey xs k).map (·.2)) := by
  induction r with
  | nil => exact True.intro
  | @cons p q ps qs h t ih =>
    obtain ⟨h1, _, h2⟩ := h
    by_cases e : p.1 = k
    · have e' : q.1 = k := h1.symm.trans e
      have b : atKey (q :: qs) k = some q.2 := by simp [atKey, List.find?_cons, e']
      rw [valV_pos e, b]; exact h2
    · have e' : ¬ q.1 = k := fun z => e (h1.trans z)
      have b : atKey (q :: qs) k = atKey qs k := by simp [atKey, List.find?_cons, e']
      rw [valV_neg e, b]; exact ih
section
variable {P : Program} {w : World} {H : Hp} {h : Heap} {a : Addr}
end

noncomputable def DGet (H : Hp) (a : Addr) (y : V) (r : Option V) : Prop :=
  (∃ kvs k, Rd H a (.dK kvs) ∧ y = kV k ∧ r = valV kvs k) ∨ ∃ kvs k b, Rd H a (.dT kvs) ∧ y = .ref b ∧ H b = some (.tup (k.map kV)) ∧ r = valV kvs k
noncomputable def DPut (H : Hp) (a : Addr) (y v : V) (H' : Hp) : Prop :=
  (∃ kvs k, H a = some (.dK kvs) ∧ y = kV k ∧ kvs.length < sizeLine ∧ H' = upd H a (.dK (putK kvs k v))) ∨
  ∃ kvs k b, H a = some (.dT kvs) ∧ y = .ref b ∧ H b = some (.tup (k.map kV)) ∧ kvs.length < sizeLine ∧ H' = upd H a (.dT (putK kvs k v))
theorem DGet.k {H : Hp} {a : Addr} {kvs : List (Key × V)} {k : Key} (e : H a = some (.dK kvs)) : DGet H a (kV k) (valV kvs k) := .inl ⟨kvs, k, .inl e, rfl, rfl⟩
theorem DPut.k {H : Hp} {a : Addr} {kvs : List (Key × V)} {k : Key} {v : V} (e : H a = some (.dK kvs)) (hl : kvs.length < sizeLine) : DPut H a (kV k) v (upd H a (.dK (putK kvs k v))) := .inl ⟨kvs, k, e, rfl, hl, rfl⟩
section
variable {X : Cx} {pins : List (Addr × Obj)} {σ : St} {H : Hp} {s : Shared} {a : Addr} {y v : V} {u r : Value} {o : Option V} {A : Around} {E : Value → Shared → Prop}

end

section
variable {X : Cx} {pins : List (Addr × Obj)} {σ : St} {H : Hp} {s : Shared} {a : Addr} {kvs : List (Key × V)} {k : Key} {u : Value} {A : Around} {E : Value → Shared → Prop}
end


noncomputable def NoSl (i : Expr) : Prop := ∀ ov iv, subscripted i false ov iv = operate [ov, iv] (getItem ov iv)
noncomputable def tDGet (td ty : TE) : TE := fun σ H Q => td σ H fun x H1 => ty σ H1 fun y H2 => ∃ a v, x = .ref a ∧ DGet H2 a y (some v) ∧ Q v H2
noncomputable def tDIn (ty td : TE) : TE := fun σ H Q => ty σ H fun y H1 => td σ H1 fun x H2 => ∃ a o, x = .ref a ∧ DGet H2 a y o ∧ Q (.bl o.isSome) H2
noncomputable def tDNotIn (ty td : TE) : TE := fun σ H Q => ty σ H fun y H1 => td σ H1 fun x H2 => ∃ a o, x = .ref a ∧ DGet H2 a y o ∧ Q (.bl (!o.isSome)) H2
noncomputable def sDPut (td ty tv : TE) : TS := fun D σ H => tv σ H fun v H1 => td σ H1 fun x H2 => ty σ H2 fun y H3 => ∃ a H4, x = .ref a ∧ DPut H3 a y v H4 ∧ D.nx σ H4
noncomputable def sDAug (td ty tv : TE) (rd : V → V → Hp → VK → Prop) : TS := fun D σ H => td σ H fun x H1 => ty σ H1 fun y H2 => ∃ a v, x = .ref a ∧ DGet H2 a y (some v) ∧
  tv σ H2 fun y2 H3 => rd v y2 H3 fun z H4 => ∃ H5, DPut H4 a y z H5 ∧ D.nx σ H5
noncomputable def sDDel (td ty : TE) : TS := fun D σ H => td σ H fun x H1 => ty σ H1 fun y H2 => ∃ a kvs k, x = .ref a ∧ H2 a = some (.dK kvs) ∧ y = kV k ∧ (valV kvs k).isSome = true ∧ D.nx σ (upd H2 a (.dK (dropK kvs k)))

section
variable {X : Cx} {o i e value : Expr} {pos pos' tpos : Pos} {td ty tv : TE}
end


noncomputable def tDNewK : TE := fun _ H Q => ∀ p, H p = none → Q (.ref p) (upd H p (.dK []))
noncomputable def tDNewT : TE := fun _ H Q => ∀ p, H p = none → Q (.ref p) (upd H p (.dT []))
section
variable {X : Cx} {pos : Pos}
end

noncomputable def tPairs : List (TE × TE) → St → Hp → (List (V × V) → Hp → Prop) → Prop
  | [], _, H, Q => Q [] H
  | (tk, tv) :: r, σ, H, Q => tk σ H fun x H1 => tv σ H1 fun y H2 => tPairs r σ H2 fun ps H3 => Q ((x, y) :: ps) H3
noncomputable abbrev VV : List (V × V) → List (Value × Value) → Prop := Paired fun p q => RelV p.1 q.1 ∧ RelV p.2 q.2
noncomputable def PPs (X : Cx) (pos : Pos) (keys : List (Option Expr)) (values : List Expr) (trs : List (TE × TE)) : Prop :=
  ∀ (pins : List (Addr × Obj)) (s : Shared) (σ : St) (H : Hp) (Q : List (V × V) → Hp → Prop), Inv X pins σ H s → tPairs trs σ H Q →
    wpAny (model X.prog X.w) X.A (evalPairs (pairTrees keys values X.env pos)) (fun vs s' => ∃ ps H', Inv X pins σ H' s' ∧ VV ps vs ∧ Q ps H') X.xe s
noncomputable def mergeK (kvs more : List (Key × V)) : List (Key × V) := more.foldl (fun acc kv => putK acc kv.1 kv.2) kvs
noncomputable def tDisp (trs : List (TE × TE)) : TE := fun σ H Q => ∀ p, H p = none → tPairs trs σ (upd H p (.dK [])) fun ps H2 => H2 p = some (.dK []) ∧ ∃ kvs : List (Key × V), ps = kvs.map (fun kv => (kV kv.1, kv.2)) ∧ kvs.length ≤ 15 ∧ Q (.ref p) (upd H2 p (.dK (mergeK [] kvs)))
structure M1 (X : Cx) (o : Expr) (m : Str) (apos : Pos) (e : Expr) (cpos : Pos) : Prop where
  base : attributeBase o m X.env (eval o X.env) = eval o X.env
  few : ((backTo cpos (starEach [e] X.env)).all (fun x => !x.1) && (backToKw cpos (keywordEach [] X.env)).all (fun x => x.1.isSome)
    && decide (([e] : List Expr).length + ([] : List Keyword).length + (if ([] : List Keyword).isEmpty then 0 else 1) < 30)) = true
  line : (apos.endLine == cpos.line) = true
  trees : backTo cpos (starEach [e] X.env) = [(false, eval e X.env)]
structure M2 (X : Cx) (o : Expr) (m : Str) (apos : Pos) (e f : Expr) (cpos : Pos) : Prop where
  base : attributeBase o m X.env (eval o X.env) = eval o X.env
  few : ((backTo cpos (starEach [e, f] X.env)).all (fun x => !x.1) && (backToKw cpos (keywordEach [] X.env)).all (fun x => x.1.isSome)
    && decide (([e, f] : List Expr).length + ([] : List Keyword).length + (if ([] : List Keyword).isEmpty then 0 else 1) < 30)) = true
  line : (apos.endLine == cpos.line) = true
  trees : backTo cpos (starEach [e, f] X.env) = [(false, eval e X.env), (false, eval f X.env)]

noncomputable def IsD (H : Hp) (a : Addr) : Prop := (∃ kvs, Rd H a (.dK kvs)) ∨ ∃ kvs, Rd H a (.dT kvs)
section
variable {X : Cx} {pins : List (Addr × Obj)} {σ : St} {H : Hp} {s : Shared} {a : Addr} {y d : V} {u r : Value} {o : Option V} {A : Around} {E : Value → Shared → Prop}
end

noncomputable def tDGet1 (td ty : TE) : TE := fun σ H Q => td σ H fun x H1 => ∃ a, x = .ref a ∧ IsD H1 a ∧ ty σ H1 fun y H2 => ∃ o, DGet H2 a y o ∧ Q (o.getD .non) H2
noncomputable def tDGet2 (td ty tx : TE) : TE := fun σ H Q => td σ H fun x H1 => ∃ a, x = .ref a ∧ IsD H1 a ∧ ty σ H1 fun y H2 => tx σ H2 fun z H3 => ∃ o, DGet H3 a y o ∧ Q (o.getD z) H3
noncomputable def tDPop1 (td ty : TE) : TE := fun σ H Q => td σ H fun x H1 => ∃ a, x = .ref a ∧ IsD H1 a ∧ ty σ H1 fun y H2 => ∃ kvs k v, H2 a = some (.dK kvs) ∧ y = kV k ∧ valV kvs k = some v ∧ Q v (upd H2 a (.dK (dropK kvs k)))
noncomputable def tDPop2 (td ty tx : TE) : TE := fun σ H Q => td σ H fun x H1 => ∃ a, x = .ref a ∧ IsD H1 a ∧ ty σ H1 fun y H2 => tx σ H2 fun z H3 => ∃ kvs k, H3 a = some (.dK kvs) ∧ y = kV k ∧
  (∀ v, valV kvs k = some v → Q v (upd H3 a (.dK (dropK kvs k)))) ∧ (valV kvs k = none → Q z H3)
section
variable {X : Cx} {o e f : Expr} {apos cpos : Pos} {td ty tx : TE}
end

section
variable {X : Cx} {pins : List (Addr × Obj)} {σ : St} {H : Hp} {s : Shared} {a : Addr} {kvs : List (Key × V)} {A : Around} {E : Value → Shared → Prop}
end


section
variable {X : Cx} {pins : List (Addr × Obj)} {σ : St} {H : Hp} {s : Shared} {a : Addr} {y : V} {u : Value} {A : Around} {E : Value → Shared → Prop}
end
end L2.Internal

namespace HT.Internal
open PySem PyProof.Rows

noncomputable def lexLt : List Int → List Int → Bool
  | [], [] => false
  | [], _ :: _ => true
  | _ :: _, [] => false
  | x :: xs, y :: ys => if x = y then lexLt xs ys else decide (x < y)
section
open PySem.SeqAt
open PySem.AutoSeq1 (wpAny_loadPart')
open PySem.MeetsSeq PySem.MeetsSeq2 PySem.MeetsSeq3

end

section
variable {prog : Program} {w : World} {A : Around} {E : Value → Shared → Prop} {s : Shared}

theorem cat_tup {t b : Addr} {vs ws : List Value} {Q : Value → Shared → Prop} (ht : IsTup s.heap t vs.toArray) (hb : IsTup s.heap b ws.toArray) (hv : vs ≠ [])
    (h1 : ws = [] → Q (.ref t) s) (h2 : ws ≠ [] → Q (.ref s.heap.objs.size) { s with heap := s.heap.push { cls := .type "tuple", data := .seq (vs ++ ws).toArray } })
    (hsz : vs.length + ws.length ≤ sizeLine) : wpAny (model prog w) A (binaryOp .Add (.ref t) (.ref b)) Q E s := by
  obtain ⟨⟨cls, dd, data, sl⟩, ho, hc, n, hd⟩ := id ht
  obtain ⟨⟨cls2, dd2, data2, sl2⟩, ho2, hc2, n2, hd2⟩ := id hb
  simp only at hc hd hc2 hd2
  subst hc hd hc2 hd2
  have e : vs.toArray ++ ws.toArray = (vs ++ ws).toArray := by simp
  by_cases hw : ws = []
  · exact concat_meets ⟨_, ho, rfl⟩ ⟨_, ho2, rfl⟩ noFill_tuple_add seq_tuple_add PySem.F.slot_tuple_add PySem.F.entry_tuple_add (PySem.F.args_tuple_add_2 _ _)
      (tuple_addW1 t b vs.toArray ws.toArray n n2 dd dd2 sl sl2 (by simpa using hv) (by simp [hw])) ⟨ho, ho2, h1 hw⟩
  · refine concat_meets ⟨_, ho, rfl⟩ ⟨_, ho2, rfl⟩ noFill_tuple_add seq_tuple_add PySem.F.slot_tuple_add PySem.F.entry_tuple_add (PySem.F.args_tuple_add_2 _ _)
      (tuple_addW2 t b vs.toArray ws.toArray n n2 dd dd2 sl sl2 (by simpa using hv) (by simpa using hw) (by rw [List.size_toArray, List.size_toArray]; exact hsz)) ⟨ho, ho2, ?_⟩
    rw [e]
    exact h2 hw

noncomputable def sIx (n d : Nat) : Option Int → Nat
  | none => d
  | some v => if v < 0 then (v + (n : Int)).toNat else min v.toNat n
end
end HT.Internal

namespace L2.Internal
open PySem PySem.Spec PyProof.Rows

noncomputable abbrev TO := St → Hp → (Option Int → Hp → Prop) → Prop
noncomputable def PO (X : Cx) (e : Option Expr) (t : TO) : Prop :=
  ∀ (pins : List (Addr × Obj)) (s : Shared) (σ : St) (H : Hp) (Q : Option Int → Hp → Prop), Inv X pins σ H s → t σ H Q →
    wpAny (model X.prog X.w) X.A (evalPart e X.env) (fun u s' => ∃ o H', Inv X pins σ H' s' ∧ IsPart u o ∧ Q o H') X.xe s
noncomputable def tNoPart : TO := fun _ H Q => Q none H
noncomputable def tPart (t : TE) : TO := fun σ H Q => t σ H fun x H1 => ∃ i, x = .int i ∧ Q (some i) H1

theorem intsAre_of {ns : List Int} : ∀ {us : List Value}, Vals (ns.map V.int) us → IntsAre us ns := by
  induction ns with
  | nil => intro us r; rw [List.map_nil] at r; cases r; exact .nil
  | cons n ns ih =>
    intro us r
    rw [List.map_cons] at r
    cases r with
    | cons r1 r2 =>
      obtain ⟨t, e⟩ := r1
      subst e
      exact .cons n t (ih r2)

section
variable {X : Cx} {e : Expr} {te : TE} {lo hi : Option Expr} {tl th : TO} {pos p2 : Pos}

theorem po_none : PO X none tNoPart := by
  intro pins s σ H Q I h
  rw [evalPart_none]
  exact wpAny_pure ⟨none, H, I, .none, h⟩
theorem po_some (h : PE X e te) : PO X (some e) (tPart te) := by
  intro pins s σ H Q I hw
  rw [evalPart_some]
  refine thn (h pins s σ H _ I hw) fun u s1 ⟨x, H1, I1, r1, q1⟩ => ?_
  obtain ⟨i, rfl, q⟩ := q1
  obtain ⟨t, rfl⟩ := r1
  exact ⟨some i, H1, I1, .int i t, q⟩

noncomputable def SlR (X : Cx) (r : V → Option Int → Option Int → Hp → VK → Prop) : Prop :=
  ∀ (pins : List (Addr × Obj)) (s : Shared) (σ : St) (H : Hp) (x : V) (v vl vu : Value) (lo hi : Option Int) (sl : Addr) (Q : VK), Inv X pins σ H s → RelV x v → s.heap.IsSliceOf sl vl vu .none → IsPart vl lo → IsPart vu hi → r x lo hi H Q →
    ∃ T id, typeLookup (.type T) "__getitem__" = pure (some (.builtin id)) ∧ s.TypeIs v T ∧ wpAny (model X.prog X.w) X.A (getItem v (.ref sl)) (EP X pins σ Q) X.xe s
noncomputable def tSl (r : V → Option Int → Option Int → Hp → VK → Prop) (te : TE) (tl th : TO) : TE := fun σ H Q => te σ H fun x H1 => tl σ H1 fun l H2 => th σ H2 fun u H3 => r x l u H3 Q
theorem pe_slice {r : V → Option Int → Option Int → Hp → VK → Prop} (hr : SlR X r) (he : PE X e te) (hl : PO X lo tl) (hu : PO X hi th) : PE X (.Subscript e (.Slice lo hi none p2) pos) (tSl r te tl th) := by
  intro pins s σ H Q I h
  refine Subscript_ (thn (he pins s σ H _ I h) fun v s1 ⟨x, H1, I1, r1, q1⟩ => ?_)
  refine wpAny_Slice (thn (hl pins s1 σ H1 _ I1 q1) fun vl s2 ⟨l, H2, I2, pl, q2⟩ => thn (hu pins s2 σ H2 _ I2 q2) fun vu s3 ⟨u, H3, I3, pu, q3⟩ => ?_)
  rw [evalPart_none]
  refine wpAny_pure ?_
  have I4 : Inv X pins σ H3 { s3 with heap := s3.heap.push { cls := .type "slice", data := .fields #[vl, vu, .none] } } := I3.kept (t' := s3.toks) fun b ob q => Heap.get?_push_of_some _ q
  obtain ⟨T, id, hT, ht, hg⟩ := hr pins { s3 with heap := s3.heap.push { cls := .type "slice", data := .fields #[vl, vu, .none] } } σ H3 x v vl vu l u s3.heap.objs.size Q I4 r1 (Heap.IsSliceOf.new ..) pl pu q3
  show wpAny (model X.prog X.w) X.A (subscriptTail e (.Slice lo hi none p2) v (.ref s3.heap.objs.size)) (EP X pins σ Q) X.xe { s3 with heap := s3.heap.push { cls := .type "slice", data := .fields #[vl, vu, .none] } }
  exact tail_any (ops := [.ref s3.heap.objs.size, v]) ht hT hg (by with_unfolding_all rfl)

noncomputable def cutV (xs : List V) (lo hi : Option Int) : List V := (xs.drop (HT.Internal.sIx xs.length 0 lo)).take (HT.Internal.sIx xs.length xs.length hi - HT.Internal.sIx xs.length 0 lo)
theorem cutV_length (xs : List V) (lo hi : Option Int) : (cutV xs lo hi).length ≤ xs.length := by
  unfold cutV
  rw [List.length_take, List.length_drop]
  omega
noncomputable def rSlT (K : PySem.W.Frag) : V → Option Int → Option Int → Hp → VK → Prop := fun x lo hi H Q => ∃ a xs, x = .ref a ∧ SqT K H a xs ∧
  ¬ (HT.Internal.sIx xs.length 0 lo = 0 ∧ HT.Internal.sIx xs.length xs.length hi = xs.length) ∧ ∀ p, H p = none → Q (.ref p) (upd H p (.tup (cutV xs lo hi)))
noncomputable def rLtT (K : PySem.W.Frag) : R2 := fun x y H Q => ∃ a b ns ms, x = .ref a ∧ y = .ref b ∧ SqT K H a (ns.map V.int) ∧ SqT K H b (ms.map V.int) ∧ Q (.bl (HT.Internal.lexLt ns ms)) H
noncomputable def rCatT (K : PySem.W.Frag) : R2 := fun x y H Q => ∃ a b xs ys, x = .ref a ∧ y = .ref b ∧ SqT K H a xs ∧ SqT K H b ys ∧ xs ≠ [] ∧ xs.length + ys.length ≤ sizeLine ∧
  (ys = [] → Q (.ref a) H) ∧ (ys ≠ [] → ∀ p, H p = none → Q (.ref p) (upd H p (.tup (xs ++ ys))))
theorem Vals.nil_iff {xs : List V} {us : List Value} (r : Vals xs us) : us = [] ↔ xs = [] := by
  cases r with
  | nil => simp
  | cons _ _ => simp
theorem op_catT : OpR X (binaryOp .Add) (rCatT X.K) := by
  intro pins s σ H x y v u Q I rx ry h
  obtain ⟨a, b, xs, ys, rfl, rfl, ha, hb, hx, hz, q1, q2⟩ := h
  cases rx
  cases ry
  obtain ⟨its, r1, p1, _⟩ := I.tuple ha
  obtain ⟨its2, r2, p2, _⟩ := I.tuple hb
  refine HT.Internal.cat_tup p1 p2 (fun z => hx (r1.nil_iff.mp z)) (fun z => ⟨.ref a, H, I, rfl, q1 (r2.nil_iff.mp z)⟩) (fun z => ?_) (by rw [← r1.length, ← r2.length]; exact hz)
  refine ⟨.ref s.heap.objs.size, _, I.laid (t' := s.toks) (o := .tup (xs ++ ys)) (fun b ob q => Heap.get?_push_of_some _ q) (Nat.le_refl _) ?_, rfl, q2 (fun w => z (r2.nil_iff.mpr w)) _ (I.hok.fresh (Nat.le_refl _))⟩
  exact ⟨by rw [List.length_append]; exact hz, _, r1.append r2, Tup0.new _ _⟩
end
end L2.Internal

namespace L2.Internal
open PySem PySem.Spec PyProof.Rows

noncomputable def ixN (n : Nat) (i : Int) : Option Nat := if 0 ≤ i then (if i < n then some i.toNat else none) else if -(n : Int) ≤ i then some (i + n).toNat else none
noncomputable def atI {α : Type} (xs : List α) (i : Int) : Option α := (ixN xs.length i).bind fun j => xs[j]?
theorem ixN_seq {n : Nat} {i : Int} {j : Nat} (h : ixN n i = some j) : seqIndex? i n = some j ∧ j < n ∧ -(n : Int) ≤ i ∧ i < n := by
  unfold ixN at h
  by_cases h0 : 0 ≤ i
  · rw [if_pos h0] at h
    by_cases h1 : i < n
    · rw [if_pos h1] at h
      have e : i.toNat = j := Option.some.inj h
      exact ⟨by rw [seqIndex_of h0 h1, e], by omega, by omega, h1⟩
    · rw [if_neg h1] at h; cases h
  · rw [if_neg h0] at h
    by_cases h1 : -(n : Int) ≤ i
    · rw [if_pos h1] at h
      have e : (i + n).toNat = j := Option.some.inj h
      exact ⟨by rw [seqIndex_neg (by omega) h1, e], by omega, h1, by omega⟩
    · rw [if_neg h1] at h; cases h
theorem atI_get {α : Type} {xs : List α} {i : Int} {v : α} (h : atI xs i = some v) : ∃ j, seqIndex? i xs.length = some j ∧ xs[j]? = some v ∧ j < xs.length ∧ -(xs.length : Int) ≤ i ∧ i < xs.length := by
  unfold atI at h
  cases e : ixN xs.length i with
  | none => rw [e] at h; cases h
  | some j =>
    rw [e] at h
    obtain ⟨h1, h2, h3, h4⟩ := ixN_seq e
    exact ⟨j, h1, h, h2, h3, h4⟩
theorem atI_nat {α : Type} {xs : List α} {j : Nat} {v : α} (h : xs[j]? = some v) : atI xs (j : Int) = some v := by
  have hj : j < xs.length := (List.getElem?_eq_some_iff.mp h).1
  have e : ixN xs.length (j : Int) = some j := by
    unfold ixN
    rw [if_pos (by omega), if_pos (by omega)]; simp
  unfold atI; rw [e]; exact h
noncomputable def PlainIx (b : Expr) : Prop := ∀ o i, subscripted b false o i = operate [o, i] (getItem o i)
noncomputable def IxR (X : Cx) (r : R2) : Prop :=
  ∀ (value slice : Expr) (pins : List (Addr × Obj)) (s : Shared) (σ : St) (H : Hp) (x y : V) (v u : Value) (Q : VK), Inv X pins σ H s → RelV x v → RelV y u → r x y H Q →
    subscripted slice false v u = operate [v, u] (getItem v u) → wpAny (model X.prog X.w) X.A (subscriptTail value slice v u) (EP X pins σ Q) X.xe s
noncomputable def MtR (X : Cx) (id : String) (r : V → List V → Hp → VK → Prop) : Prop :=
  ∀ (pins : List (Addr × Obj)) (s : Shared) (σ : St) (H : Hp) (x : V) (xs : List V) (v : Value) (us : List Value) (Q : VK), Inv X pins σ H s → RelV x v → Vals xs us → r x xs H Q →
    wpAny (model X.prog X.w) X.A (call (.builtin id) (v :: us)) (EP X pins σ Q) X.xe s
section
variable {X : Cx} {a b : Expr} {ta tb : TE} {pos : Pos}
theorem pe_ix {r : R2} (hr : IxR X r) (ha : PE X a ta) (hb : PE X b tb) (hs : PlainIx b) : PE X (.Subscript a b pos) (tOp r ta tb) := by
  intro pins s σ H Q I h
  exact Subscript_ (binT ha hb I h fun v u s2 x y H2 I2 rx ry q => hr a b pins s2 σ H2 x y v u Q I2 rx ry q (hs _ _))

noncomputable def rIxL (K : PySem.W.Frag) : R2 := fun x y H Q => ∃ p xs i v, x = .ref p ∧ y = .int i ∧ SqL K H p xs ∧ atI xs i = some v ∧ Q v H
noncomputable def rIxT (K : PySem.W.Frag) : R2 := fun x y H Q => ∃ p xs i v, x = .ref p ∧ y = .int i ∧ SqT K H p xs ∧ atI xs i = some v ∧ Q v H
noncomputable def rIxS : R2 := fun x y H Q => ∃ z i c, x = .str z ∧ y = .int i ∧ z.length ≤ sizeLine ∧ atI z.cps.toList i = some c ∧ Q (.str ⟨#[c]⟩) H
theorem ix_list : IxR X (rIxL X.K) := by
  intro value slice pins s σ H x y v u Q I rx ry h hs
  obtain ⟨p, xs, i, z, rfl, rfl, hq, he, q⟩ := h
  cases rx
  obtain ⟨t, rfl⟩ := ry
  obtain ⟨its, r, pl, hz⟩ := I.list hq
  obtain ⟨j, h1, h2, h3, h4, h5⟩ := atI_get he
  obtain ⟨w, ew, rw'⟩ := r.get h2
  have hl := r.length
  have hn := line63
  have fin : EP X pins σ Q w s := ⟨z, H, I, rw', q⟩
  by_cases h0 : 0 ≤ i
  · have hj : i.toNat = j := by
      rw [seqIndex_of h0 h5] at h1
      exact Option.some.inj h1
    exact item_listR pl.isList h0 (by omega) (by rw [hj]; simpa using ew) fin hs
  · have hj : (i + (its.toArray.size : Int)).toNat = j := by
      rw [seqIndex_neg (by omega) h4] at h1
      rw [List.size_toArray, ← hl]
      exact Option.some.inj h1
    exact subscriptTail_builtinR (x := w) pl.isList.typeIs slot_list_getitem.lookup
      (wpAny_getItem_list_neg (Q := fun r s' => r = w ∧ EP X pins σ Q r s') pl.isList (by omega) (by rw [List.size_toArray] <;> omega) (by omega) (by rw [hj]; simpa using ew) ⟨rfl, fin⟩) hs
theorem ix_tup : IxR X (rIxT X.K) := by
  intro value slice pins s σ H x y v u Q I rx ry h hs
  obtain ⟨p, xs, i, z, rfl, rfl, hq, he, q⟩ := h
  cases rx
  obtain ⟨t, rfl⟩ := ry
  obtain ⟨its, r, pl, hz⟩ := I.tuple hq
  obtain ⟨j, h1, h2, h3, h4, h5⟩ := atI_get he
  obtain ⟨w, ew, rw'⟩ := r.get h2
  have hl := r.length
  have hn := line63
  have fin : EP X pins σ Q w s := ⟨z, H, I, rw', q⟩
  exact subscriptTail_builtinR (x := w) pl.typeIs slot_tuple_getitem.lookup
    (getItem_tuple (j := j) (Q := fun r s' => r = w ∧ EP X pins σ Q r s') pl (by omega) (by omega) (by rw [List.size_toArray, ← hl]; exact h1) (by simpa using ew) ⟨rfl, fin⟩) hs
theorem ix_str : IxR X rIxS := by
  intro value slice pins s σ H x y v u Q I rx ry h hs
  obtain ⟨z, i, c, rfl, rfl, hz, he, q⟩ := h
  obtain ⟨t, rfl⟩ := rx
  obtain ⟨t', rfl⟩ := ry
  obtain ⟨j, h1, h2, h3, h4, h5⟩ := atI_get he
  have hl : z.cps.toList.length = z.length := by simp [Str.length]
  rw [hl] at h1 h4 h5
  have hn := line63
  exact tail_any (typeIs_str s z t) slot_str_getitem.lookup (getItem_str (c := c) (by
    have e1 : decide (i < -(2 ^ 63 : Int)) = false := decide_eq_false (by omega)
    have e2 : decide (i ≥ 2 ^ 63) = false := decide_eq_false (by omega)
    rw [e1, e2, Bool.or_false]) (by rw [h1]; simpa using h2) ⟨.str ⟨#[c]⟩, H, I.tok _, ⟨_, rfl⟩, q⟩) hs
noncomputable def rIx (K : PySem.W.Frag) : R2 := fun x y H Q => rIxL K x y H Q ∨ rIxT K x y H Q ∨ rIxS x y H Q
noncomputable def rSetL : V → V → V → Hp → (Hp → Prop) → Prop := fun o i v H Q => ∃ p xs k j, o = .ref p ∧ i = .int k ∧ H p = some (.lst xs) ∧ ixN xs.length k = some j ∧ Q (upd H p (.lst (xs.set j v)))
theorem slice_bounds (lo hi : Option Int) (n : Nat) : (sliceBounds lo hi none n).1 = ((HT.Internal.sIx n 0 lo : Nat) : Int) ∧ (sliceBounds lo hi none n).2.1 = ((HT.Internal.sIx n n hi : Nat) : Int) ∧ (sliceBounds lo hi none n).2.2 = 1 := by
  refine ⟨?_, ?_, rfl⟩
  · cases lo with
    | none => simp [sliceBounds, HT.Internal.sIx]
    | some i =>
      simp only [sliceBounds, HT.Internal.sIx, Option.getD_none, show (1 : Int) > 0 by decide, if_true]
      by_cases h : i < 0
      · simp only [h, if_true] <;> omega
      · simp only [h, if_false] <;> omega
  · cases hi with
    | none => simp [sliceBounds, HT.Internal.sIx]
    | some i =>
      simp only [sliceBounds, HT.Internal.sIx, Option.getD_none, show (1 : Int) > 0 by decide, if_true]
      by_cases h : i < 0
      · simp only [h, if_true] <;> omega
      · simp only [h, if_false] <;> omega
theorem slicePick_cut (its : List Value) (lo hi : Option Int) : slicePick its.toArray lo hi none = ((its.drop (HT.Internal.sIx its.length 0 lo)).take (HT.Internal.sIx its.length its.length hi - HT.Internal.sIx its.length 0 lo)).toArray := by
  obtain ⟨h1, h2, h3⟩ := slice_bounds lo hi its.toArray.size
  unfold slicePick
  rw [h1, h2, h3]
  simp only [sliceRange_one, pick_run, List.size_toArray] <;> rfl
noncomputable def rSlL (K : PySem.W.Frag) : V → Option Int → Option Int → Hp → VK → Prop := fun x lo hi H Q => ∃ a xs, x = .ref a ∧ SqL K H a xs ∧ ∀ p, H p = none → Q (.ref p) (upd H p (.lst (cutV xs lo hi)))
theorem sl_list : SlR X (rSlL X.K) := by
  intro pins s σ H x v vl vu lo hi sl Q I rx hs pl pu h
  obtain ⟨a, xs, rfl, hx, q⟩ := h
  cases rx
  obtain ⟨its, r, ht, hz⟩ := I.list hx
  have hlen := r.length
  refine ⟨"list", _, slot_list_getitem.lookup, ht.isList.typeIs, ?_⟩
  refine wpAny_getItem_list_slice ht.isList hs pl pu .none (by simp) ?_ (by rw [List.size_toArray] <;> omega)
  rw [slicePick_cut, ← hlen]
  refine ⟨.ref s.heap.objs.size, _, I.laid (t' := s.toks) (o := .lst (cutV xs lo hi)) (fun b ob q => Heap.get?_push_of_some _ q) (Nat.le_refl _) ?_, rfl, q _ (I.hok.fresh (Nat.le_refl _))⟩
  exact ⟨Nat.le_trans (cutV_length xs lo hi) hz, _, 0, (r.drop (HT.Internal.sIx xs.length 0 lo)).take (HT.Internal.sIx xs.length xs.length hi - HT.Internal.sIx xs.length 0 lo), Heap.get?_push_size _ rfl⟩

noncomputable def flatV : V → Bool
  | .non => true
  | .bl _ => true
  | .int _ => true
  | .str _ => true
  | _ => false
noncomputable def eqV : V → V → Bool
  | .non, .non => true
  | .bl a, .bl b => a == b
  | .bl a, .int b => (if a then 1 else 0) == b
  | .int a, .bl b => a == (if b then 1 else 0)
  | .int a, .int b => a == b
  | .str a, .str b => a == b
  | _, _ => false
noncomputable def eqU (x : V) (u : Value) : Bool := match u with
  | .none => eqV .non x
  | .bool b => eqV (.bl b) x
  | .int i _ => eqV (.int i) x
  | .str z _ => eqV (.str z) x
  | _ => false
noncomputable def inV (x : V) (xs : List V) : Bool := xs.any fun y => eqV y x
noncomputable def rIn (K : PySem.W.Frag) (neg : Bool) : R2 := fun x y H Q => ∃ p xs, y = .ref p ∧ (SqL K H p xs ∨ SqT K H p xs) ∧ flatV x = true ∧ xs.all flatV = true ∧ Q (.bl (if neg then !inV x xs else inV x xs)) H
theorem call_len_seq : CallR X (.builtin "len") (fun xs H Q => ∃ p ys, xs = [.ref p] ∧ (SqL X.K H p ys ∨ SqT X.K H p ys) ∧ Q (.int ys.length) H) := by
  intro pins s σ H xs us Q I r h
  obtain ⟨p, ys, rfl, hq, q⟩ := h
  obtain ⟨u, rfl, rx⟩ := vals1 r
  cases rx
  have hn := line63
  rcases hq with hq | hq
  · obtain ⟨its, r', pl, hz⟩ := I.list hq
    have hlen := r'.length
    exact Calls.call_len_list pl.isList (by simp only [List.size_toArray] <;> omega) ⟨.int ys.length, H, I.tok _, ⟨s.toks + 1, by rw [List.size_toArray, hlen]⟩, q⟩
  · obtain ⟨its, r', pl, hz⟩ := I.tuple hq
    have hlen := r'.length
    exact len_tuple pl (by simp only [List.size_toArray] <;> omega) ⟨.int ys.length, H, I.tok _, ⟨s.toks + 1, by rw [List.size_toArray, hlen]⟩, q⟩
theorem call_list_of : CallR X (.type "list") (fun xs H Q => ∃ p ys, xs = [.ref p] ∧ (SqL X.K H p ys ∨ SqT X.K H p ys) ∧ ∀ l, H l = none → Q (.ref l) (upd H l (.lst ys))) := by
  intro pins s σ H xs us Q I r h
  obtain ⟨p, ys, rfl, hq, q⟩ := h
  obtain ⟨u, rfl, rx⟩ := vals1 r
  cases rx
  have fin : ∀ (its : List Value), Vals ys its → ys.length ≤ sizeLine → ∀ (h' : Heap) (c' : Nat), (∀ b o', s.heap.get? b = some o' → h'.get? b = some o') →
      h'.get? s.heap.objs.size = some { cls := .type "list", dict := none, data := .seq its.toArray c', slots := #[] } → EP X pins σ Q (.ref s.heap.objs.size) { s with heap := h' } := fun its r' hz h' c' kp e =>
    ⟨.ref s.heap.objs.size, _, I.laid (t' := s.toks) kp (Nat.le_refl _) (show ObjOk X.prog X.w _ h' _ (.lst ys) from ⟨hz, its, c', r', e⟩), rfl, q _ (I.hok.fresh (Nat.le_refl _))⟩
  rcases hq with hq | hq
  · obtain ⟨its, r', pl, hz⟩ := I.list hq
    have hlen := r'.length
    obtain ⟨o, ho, hc, n, hd⟩ := pl.isList
    exact call_list_seq p (.inl rfl) ho hc hd (fun h' c' kp e => fin its r' hz h' c' kp e) (by simp only [List.size_toArray] <;> omega)
  · obtain ⟨its, r', pl, hz⟩ := I.tuple hq
    have hlen := r'.length
    obtain ⟨o, ho, hc, n, hd⟩ := pl
    exact call_list_seq p (.inr rfl) ho hc hd (fun h' c' kp e => fin its r' hz h' c' kp e) (by simp only [List.size_toArray] <;> omega)
theorem call_tuple_of : CallR X (.type "tuple") (fun xs H Q => ∃ p ys, xs = [.ref p] ∧ ((SqL X.K H p ys ∧ ∀ l, H l = none → Q (.ref l) (upd H l (.tup ys))) ∨ (SqT X.K H p ys ∧ Q (.ref p) H))) := by
  intro pins s σ H xs us Q I r h
  obtain ⟨p, ys, rfl, h⟩ := h
  obtain ⟨u, rfl, rx⟩ := vals1 r
  cases rx
  rcases h with ⟨hq, q⟩ | ⟨hq, q⟩
  · obtain ⟨its, r', pl, hz⟩ := I.list hq
    have hlen := r'.length
    refine call_tuple_list pl.isList (fun h' kp => ?_) (by simp only [List.size_toArray] <;> omega)
    have I1 : Inv X pins σ H { s with heap := h' } := I.kept (t' := s.toks) kp
    have I2 : Inv X pins σ (upd H h'.objs.size (.tup ys)) { s with heap := h'.push { cls := .type "tuple", data := .seq its.toArray } } :=
      I1.laid (t' := s.toks) (fun b o e => Heap.get?_push_of_some _ e) (Nat.le_refl _) (show ObjOk X.prog X.w _ _ _ (.tup ys) from ⟨hz, its, r', Tup0.new _ _⟩)
    exact ⟨.ref h'.objs.size, _, I2, rfl, q _ (I1.hok.fresh (Nat.le_refl _))⟩
  · obtain ⟨its, r', pl, hz⟩ := I.tuple hq
    exact call_tuple_same pl ⟨.ref p, H, I, rfl, q⟩

noncomputable def tyV (K : PySem.W.Frag) (T : String) (x : V) (H : Hp) : Prop := match x with
  | .str _ => T = "str"
  | .int _ => T = "int"
  | .ref p => (T = "list" ∧ ∃ xs, SqL K H p xs) ∨ (T = "tuple" ∧ ∃ o, K.lookup p = some o ∧ o.cls = .type "tuple" ∧ o.dict = none) ∨
      (T = "dict" ∧ ((∃ kvs, H p = some (.dK kvs)) ∨ ∃ kvs, H p = some (.dT kvs))) ∨ (T = "set" ∧ ∃ S n, H p = some (.set S n))
  | _ => False
theorem tyV_is {pins : List (Addr × Obj)} {σ : St} {H : Hp} {s : Shared} {T : String} {x : V} {v : Value} (I : Inv X pins σ H s) (r : RelV x v) (ty : tyV X.K T x H) :
    s.TypeIs v T ∧ ∀ a, v = .ref a → ∃ ob, s.heap.get? a = some ob ∧ ob.dict = none := by
  cases x with
  | str z =>
    obtain ⟨t, rfl⟩ := r
    cases (show T = "str" from ty)
    exact ⟨typeIs_str s z t, fun _ e => nomatch e⟩
  | int i =>
    obtain ⟨t, rfl⟩ := r
    cases (show T = "int" from ty)
    exact ⟨typeIs_int s i t, fun _ e => nomatch e⟩
  | ref p =>
    cases r
    rcases ty with ⟨rfl, xs, hq⟩ | ⟨rfl, o, hk, hc, hd⟩ | ⟨rfl, hk⟩ | ⟨rfl, S, n, hk⟩
    · obtain ⟨its, _, pl, _⟩ := I.list hq
      refine ⟨pl.isList.typeIs, fun a e => ?_⟩
      cases e
      obtain ⟨o, n, e, c, hd, _⟩ := pl
      exact ⟨o, e, hd⟩
    · refine ⟨⟨o, I.kIn p o hk, hc⟩, fun a e => ?_⟩
      cases e
      exact ⟨o, I.kIn _ o hk, hd⟩
    · have z : ∃ o, s.heap.get? p = some o ∧ o.ExactDict := by
        rcases hk with ⟨kvs, hk⟩ | ⟨kvs, hk⟩
        · obtain ⟨_, _, _, _, o, _, _, e, ex, _⟩ := I.hok p _ hk
          exact ⟨o, e, ex⟩
        · obtain ⟨_, _, _, _, o, _, _, e, ex, _⟩ := I.hok p _ hk
          exact ⟨o, e, ex⟩
      obtain ⟨o, e, ex⟩ := z
      refine ⟨⟨o, e, ex.1⟩, fun a e2 => ?_⟩
      cases e2
      exact ⟨o, e, ex.2.1⟩
    · obtain ⟨o, _, _, _, e, ex, _⟩ := I.hok p _ hk
      refine ⟨⟨o, e, ex.1⟩, fun a e2 => ?_⟩
      cases e2
      exact ⟨o, e, ex.2.1⟩
  | _ => exact False.elim ty
noncomputable def tBM0 (K : PySem.W.Frag) (T : String) (r : V → List V → Hp → VK → Prop) (to : TE) : TE := fun σ H Q => to σ H fun x H1 => tyV K T x H1 ∧ r x [] H1 Q
noncomputable def tBM (K : PySem.W.Frag) (T : String) (r : V → List V → Hp → VK → Prop) (to : TE) (t : TA) : TE := fun σ H Q => to σ H fun x H1 => tyV K T x H1 ∧ t σ H1 fun xs H2 => r x xs H2 Q
variable {o e : Expr} {es : List Expr} {to : TE} {t : TA} {name : Str} {apos cpos : Pos} {T id : String} {r : V → List V → Hp → VK → Prop}
theorem pe_bm0 (pa : PlainAttrs T) (slot : Slot T name id) (hty : typeOf (.builtin id) = pure (.type "method_descriptor")) (hm : MtR X id r) (ho : PE X o to)
    (hbase : autoParam (attributeBase o name X.env (eval o X.env) = eval o X.env) L2.Internal.auR._auto_1) (hline : autoParam ((apos.endLine == cpos.line) = true) L2.Internal.auR._auto_1) : PE X (.Call (.Attribute o name apos) [] [] cpos) (tBM0 X.K T r to) := by
  intro pins s σ H Q I h
  refine wpAny_Call_method0_late hbase hline (thn (ho pins s σ H _ I h) fun v s1 ⟨x, H1, I1, r1, ty, q1⟩ => ?_)
  obtain ⟨h1, h2⟩ := tyV_is I1 r1 ty
  exact ⟨T, id, pa, slot, hty, h1, h2, Calls.callWith_builtin rfl (PySem.evalArgs_none (hm pins s1 σ H1 x [] v [] Q I1 r1 .nil q1))⟩
theorem pe_bm (pa : PlainAttrs T) (slot : Slot T name id) (hty : typeOf (.builtin id) = pure (.type "method_descriptor")) (hm : MtR X id r) (ho : PE X o to) (ha : PA X (e :: es) t)
    (hbase : autoParam (attributeBase o name X.env (eval o X.env) = eval o X.env) L2.Internal.auR._auto_1)
    (hfew : ((backTo cpos (starEach (e :: es) X.env)).all (fun x => !x.1) && (backToKw cpos (keywordEach [] X.env)).all (fun x => x.1.isSome)
      && decide ((e :: es).length + ([] : List Keyword).length + (if ([] : List Keyword).isEmpty then 0 else 1) < 30)) = true := by rfl)
    (hline : autoParam ((apos.endLine == cpos.line) = true) L2.Internal.auR._auto_1) (hs : autoParam (starEach (e :: es) X.env = (false, eval e X.env) :: starEach es X.env) L2.Internal.auR._auto_1) (hplain : autoParam ((backTo cpos (starEach es X.env)).any (·.1) = false) L2.Internal.auR._auto_1) :
    PE X (.Call (.Attribute o name apos) (e :: es) [] cpos) (tBM X.K T r to t) := by
  intro pins s σ H Q I h
  refine wpAny_Call_method_late hbase hfew hline rfl (thn (ho pins s σ H _ I h) fun v s1 ⟨x, H1, I1, r1, ty, q1⟩ => ?_)
  obtain ⟨h1, h2⟩ := tyV_is I1 r1 ty
  refine ⟨T, id, pa, slot, hty, h1, h2, ?_⟩
  have hA := ha cpos pins s1 σ H1 _ I1 q1
  rw [hs] at hA ⊢
  refine Calls.callWith_builtin (by show (false || (backTo cpos (starEach es X.env)).any (·.1)) = false; rw [hplain] <;> rfl) (Calls.evalArgs_plain ?_)
  exact thn hA fun us s2 ⟨vs, H2, I2, r2, q2⟩ => hm pins s2 σ H2 x vs v us Q I2 r1 r2 q2
/- xs.append(e), list.index on a module's tuple .. are MtR facts of 06m -/
end
end L2.Internal

namespace L2.Internal
open PySem PySem.Spec PyProof.Rows

noncomputable def MtM (X : Cx) (id : String) (r : V → List V → Hp → VK → Prop) : Prop :=
  ∀ (pins : List (Addr × Obj)) (s : Shared) (σ : St) (H : Hp) (x : V) (xs : List V) (v : Value) (us : List Value) (Q : VK), Inv X pins σ H s → RelV x v → Vals xs us → r x xs H Q →
    wpAny (model X.prog X.w) X.A (call (.builtin id) (v :: us)) (EP X pins σ Q) X.xe s

theorem Vals.one : ∀ {x : V} {us : List Value}, Vals [x] us → ∃ u, us = [u] ∧ RelV x u
  | _, _, .cons r .nil => ⟨_, rfl, r⟩
theorem Vals.zero : ∀ {us : List Value}, Vals [] us → us = []
  | _, .nil => rfl
theorem Vals.dropLast {xs : List V} {us : List Value} (h : Vals xs us) : Vals xs.dropLast us.dropLast := by
  induction h with
  | nil => exact .nil
  | cons r t ih =>
    cases t with
    | nil => exact .nil
    | cons q t' => exact .cons r ih
theorem erase_last {α : Type} (l : List α) : l.eraseIdx (l.length - 1) = l.dropLast := by
  induction l with
  | nil => rfl
  | cons a r ih =>
    cases r with
    | nil => rfl
    | cons b r =>
      have e : (a :: b :: r).length - 1 = ((b :: r).length - 1) + 1 := by
        have h1 : (a :: b :: r).length = r.length + 2 := rfl
        have h2 : (b :: r).length = r.length + 1 := rfl
        omega
      rw [e, List.eraseIdx_cons_succ, ih]
      all_goals rfl
section
variable {X : Cx} {pins : List (Addr × Obj)} {σ : St} {H : Hp} {s : Shared} {l b : Addr} {xs ys zs : List V}

theorem Inv.lset {its its' : List Value} {n : Nat} {f : Array Value → Array Value} {t' : Nat} (I : Inv X pins σ H s) (hH : H l = some (.lst xs))
    (e : s.heap.get? l = some { cls := .type "list", data := .seq its.toArray n }) (hf : f its.toArray = its'.toArray) (hv : Vals ys its') (hz : ys.length ≤ sizeLine) :
    Inv X pins σ (upd H l (.lst ys)) { s with heap := s.heap.update l (Obj.mapSeq f), toks := t' } := by
  have q := PySem.IsL.update e f
  rw [hf] at q
  refine I.write (x := l) (e := l) (by rw [hH]; exact trivial) (.inl rfl) (fun b' u hb hu => (Heap.get?_update_other s.heap (Obj.mapSeq f) (Ne.symm hb)).trans hu) ⟨_, q⟩ ?_
  exact ⟨hz, its', _, hv, q⟩
theorem Inv.lnew {its : List Value} {t' : Nat} (I : Inv X pins σ H s) (hv : Vals ys its) (hz : ys.length ≤ sizeLine) :
    Inv X pins σ (upd H s.heap.objs.size (.lst ys)) { s with heap := s.heap.push { cls := .type "list", data := .seq its.toArray }, toks := t' } :=
  I.laid (fun _ _ q => Heap.get?_push_of_some _ q) (Nat.le_refl _) ⟨hz, its, 0, hv, Heap.get?_push_size _ rfl⟩
theorem Inv.fresh (I : Inv X pins σ H s) : H s.heap.objs.size = none := I.hok.fresh (Nat.le_refl _)
theorem Inv.lstM (I : Inv X pins σ H s) (hH : H l = some (.lst xs)) : xs.length ≤ sizeLine ∧ ∃ (its : List Value) (n : Nat), Vals xs its ∧ xs.length = its.length ∧ s.heap.get? l = some { cls := .type "list", data := .seq its.toArray n } := by
  obtain ⟨z, its, n, r, e⟩ := I.hok l _ hH
  exact ⟨z, its, n, r, r.length, e⟩

end

section
variable {X : Cx}

noncomputable def rAppend : V → List V → Hp → VK → Prop := fun x vs H Q => ∃ l xs y, x = .ref l ∧ vs = [y] ∧ H l = some (.lst xs) ∧ xs.length < sizeLine ∧ Q .non (upd H l (.lst (xs ++ [y])))
theorem mt_append : MtM X "list.append" rAppend := by
  intro pins s σ H x vs v us Q I rx rv h
  obtain ⟨l, xs, y, rfl, rfl, hH, hz, q⟩ := h
  cases rx
  obtain ⟨u, rfl, ru⟩ := rv.one
  obtain ⟨z, its, n, r, hl, e⟩ := I.lstM hH
  refine call_meets F.slot_list_append ⟨_, e, rfl⟩ F.entry_list_append (F.args_list_append_2 _ _) (PySem.list_append l its.toArray n u (by rw [List.size_toArray]; omega)) ⟨e, ?_⟩
  refine ⟨.non, _, I.lset (its' := its ++ [u]) hH e (by simp) (r.append (.cons ru .nil)) ?_, rfl, q⟩
  rw [List.length_append, List.length_singleton]
  omega

noncomputable def rExtend : V → List V → Hp → VK → Prop := fun x vs H Q => ∃ l b xs zs, x = .ref l ∧ vs = [.ref b] ∧ H l = some (.lst xs) ∧ H b = some (.lst zs) ∧ xs.length + zs.length ≤ sizeLine ∧ Q .non (upd H l (.lst (xs ++ zs)))
noncomputable def rPop : V → List V → Hp → VK → Prop := fun x vs H Q => ∃ l xs y, x = .ref l ∧ vs = [] ∧ H l = some (.lst xs) ∧ xs[xs.length - 1]? = some y ∧ Q y (upd H l (.lst xs.dropLast))
theorem mt_pop : MtM X "list.pop" rPop := by
  intro pins s σ H x vs v us Q I rx rv h
  obtain ⟨l, xs, y, rfl, rfl, hH, hy, q⟩ := h
  cases rx
  have hus := rv.zero
  subst hus
  obtain ⟨z, its, n, r, hl, e⟩ := I.lstM hH
  obtain ⟨u, hu, ru⟩ := r.get hy
  have hy' : its.toArray[its.toArray.size - 1]? = some u := by
    show its.toArray[its.length - 1]? = some u
    rw [← Array.getElem?_toList, ← hl]
    exact hu
  refine call_meets F.slot_list_pop ⟨_, e, rfl⟩ F.entry_list_pop (F.args_list_pop_1 _) (MeetsSeq.list_pop_last l its.toArray n u hy' (by rw [List.size_toArray]; omega)) ⟨e, ?_⟩
  refine ⟨y, _, I.lset (its' := its.dropLast) hH e ?_ r.dropLast ?_, ru, q⟩
  · show its.toArray.eraseIdxIfInBounds (its.toArray.size - 1) = its.dropLast.toArray
    rw [List.size_toArray, List.eraseIdxIfInBounds_toArray, erase_last]
  · rw [List.length_dropLast]
    omega

noncomputable def rPopAt : V → List V → Hp → VK → Prop := fun x vs H Q => ∃ l xs i k y, x = .ref l ∧ vs = [.int i] ∧ H l = some (.lst xs) ∧ -(2 ^ 63) ≤ i ∧ i < 2 ^ 63 ∧ seqIndex? i xs.length = some k ∧ xs[k]? = some y ∧ Q y (upd H l (.lst (xs.eraseIdx k)))
noncomputable def rReverse : V → List V → Hp → VK → Prop := fun x vs H Q => ∃ l xs, x = .ref l ∧ vs = [] ∧ H l = some (.lst xs) ∧ Q .non (upd H l (.lst xs.reverse))
noncomputable def rClear : V → List V → Hp → VK → Prop := fun x vs H Q => ∃ l xs, x = .ref l ∧ vs = [] ∧ H l = some (.lst xs) ∧ Q .non (upd H l (.lst []))
noncomputable def rCat : R2 := fun x y H Q => ∃ l b xs zs, x = .ref l ∧ y = .ref b ∧ H l = some (.lst xs) ∧ H b = some (.lst zs) ∧ xs.length + zs.length ≤ sizeLine ∧ ∀ p, H p = none → Q (.ref p) (upd H p (.lst (xs ++ zs)))
theorem op_cat : OpR X (binaryOp .Add) rCat := by
  intro pins s σ H x y v u Q I rx ry h
  obtain ⟨l, b, xs, zs, rfl, rfl, hH, hB, hz, q⟩ := h
  cases rx
  cases ry
  obtain ⟨z, its, n, r, hl, e⟩ := I.lstM hH
  obtain ⟨z2, its2, n2, r2, hl2, e2⟩ := I.lstM hB
  refine PySem.P.add_list e e2 ?_ (by rw [List.size_toArray, List.size_toArray]; omega)
  have ea : its.toArray ++ its2.toArray = (its ++ its2).toArray := by simp
  rw [ea]
  exact ⟨.ref _, _, I.lnew (t' := s.toks) (r.append r2) (by rw [List.length_append]; omega), rfl, q _ I.fresh⟩
noncomputable def rRep : R2 := fun x y H Q => ∃ l k xs, x = .ref l ∧ y = .int k ∧ H l = some (.lst xs) ∧ -(2 ^ 63) ≤ k ∧ k < 2 ^ 63 ∧ xs.length * k.toNat ≤ sizeLine ∧
  ∀ p, H p = none → Q (.ref p) (upd H p (.lst (List.replicate k.toNat xs).flatten))
end

section
variable {prog : Program} {w : World} {A : Around} {E : Value → Shared → Prop} {s : Shared}
set_option maxRecDepth 100000 in
end

section
variable {X : Cx}
end
end L2.Internal

namespace Att.Internal
open PySem PySem.W PySem.Calls PyProof.Rows

theorem ints_of_wellAll {P : Params} {h : Heap} : ∀ (ns : List Int) (vs : List Value), WellAll P h vs (ns.map WData.int) → IntsAre vs ns := by
  intro ns
  induction ns with
  | nil =>
    intro vs w
    rw [List.map_nil] at w
    cases w
    exact .nil
  | cons n ns ih =>
    intro vs w
    rw [List.map_cons] at w
    cases w with
    | cons a b =>
      cases a
      exact .cons _ _ (ih _ b)

theorem script_of {l : OpenLaw} {n : Nat} (hn : l.most = some n) {P : Params} {h : Heap} {args : List WData} {vals : List Value}
    (hpre : l.row.toRowW.claim.pre args = true) (hwl : WellAll P h vals args) :
    ∃ a vs ns, vals = [Value.ref a] ∧ args = [WData.list (ns.map WData.int)] ∧ h.get? a = some { cls := .type "list", data := .seq vs.toArray } ∧ IntsAre vs ns ∧ ns.length ≤ n := by
  have hsh : WShape.hasAll [] args [.list .int] = true := (pre_splitW hpre).1
  have hc : l.pre.holds [] { args := args } = true := (pre_splitW hpre).2
  obtain ⟨d, r, rfl, h1, h2⟩ := hasAllW_cons hsh
  obtain rfl := hasAllW_nil h2
  obtain ⟨xs, rfl, h3⟩ := hasW_list h1
  obtain ⟨ns, rfl⟩ := items_int h3
  have hlen : ns.length ≤ n := by
    unfold OpenLaw.pre at hc
    have h4 : (WTm.not (.lt (.lit (.int (n : Int))) (.len (.arg 0)))).holds [] { args := [.list (ns.map .int)] } = true := by
      have h4 := (holds_andW hc).1
      rw [hn] at h4
      exact h4
    have h5 := condW_of h4 (w_not (w_lt w_lit (w_len_list (w_arg rfl))))
    rw [List.length_map] at h5
    refine Nat.le_of_not_lt fun q => ?_
    have q' : (n : Int) < ((ns.length : Nat) : Int) := by omega
    first
      | (rw [decide_eq_true q'] at h5; exact absurd h5 (by decide))
      | (simp at h5; omega)
  cases hwl with
  | cons w1 w2 =>
    cases w2
    cases w1 with
    | list ho hall => exact ⟨_, _, ns, rfl, rfl, ho, ints_of_wellAll ns _ hall, hlen⟩

theorem post_true (l : OpenLaw) (args : List WData) : l.row.toRowW.claim.post args (.bool true) args = true :=
  postW_of (r := l.row.toRowW) (X := (true == true))
    (show WShape.has [] (.bool true) .bool = true by first | rfl | decide | simp [WShape.has, WShape.arms, WShape.armsAll])
    (show (WTm.eq .res (.lit (.bool true))).value [] { args := args, res := some (.bool true), after := args } = some (.bool (true == true)) from w_eq_bool (w_res rfl) w_lit) rfl

theorem attach_call {l : OpenLaw} {n : Nat} {q : Program} {loose : List Str} {XP : (Str → Option Value) → Heap → Prop} {YP : World → Heap → Prop} {d : DefRec}
    (hn : l.most = some n) (hdf : d.params.defaults = [])
    (call : ∀ (w : World) (s₀ s₁ : Shared) (mg mb : Str → Option Value) (fa : Addr) (o : Obj) (pm cd doc : Value) (a : Addr) (vs : List Value) (ns : List Int),
      Ground q loose [] XP w s₀ mg mb s₁.heap → YP w s₁.heap →
      s₁.heap.get? fa = some o → o.data = .func (docDef d.name d.params d.body d.scope pm cd doc) → s₁.heap.CodeRec cd d.name → mg d.name = some (.ref fa) →
      s₁.heap.get? a = some { cls := .type "list", data := .seq vs.toArray } → IntsAre vs ns → ns.length ≤ n → s₁.gens = #[] →
      codeAny (model l.prog w) callerA (.call (.ref fa) ⟨[.ref a], []⟩) (fun r s' => r = .ok (.ret (.bool true)) ∧ OldK s₁.heap s'.heap ∧ s'.os = s₁.os ∧ AllBare s'.gens) s₁) :
    WalkO q loose XP YP l.row.toRowW d [] (fun f vs => PySem.call f vs) := by
  intro w s₀ s₁ mg mb G Y fa o pm cd doc dV kV ho hd hcd hD hmg hg args vals as hpre hlay hrd hwl hlo
  obtain rfl : dV = .none := Dflts.none hD hdf
  obtain rfl : kV = .none := Dflts.noKw hD
  obtain ⟨a, vs, ns, rfl, rfl, hobj, hints, hlen⟩ := script_of hn hpre hwl
  refine enter_call (codeAny_mono (call w s₀ s₁ mg mb fa o pm cd doc a vs ns G Y ho (fd_plain hd) hcd hmg hobj hints hlen hg) fun r s' hq => ?_)
  obtain ⟨rfl, h2, h3, h4⟩ := hq
  exact ⟨.inl ⟨.bool true, .bool true, [], rfl, fun _ => rfl, .bool true, post_true l _, fun _ => ⟨List.Pairwise.nil, fun _ hm => (nomatch hm)⟩⟩, h2, h3, h4⟩

section
variable {prog : Program} {w : World} {A : Around} {E : Value → Shared → Prop} {s : Shared} {K : Frag}

noncomputable def noObjs (h : Heap) : Heap := { h with objs := #[] }
noncomputable def ledger (h : Heap) (L d : Addr) : List (Addr × Obj) := (List.range h.objs.size).filterMap fun a => if a = L ∨ a = d then none else (h.get? a).map fun o => (a, o)
end
end Att.Internal

namespace L2.Internal
open PySem PySem.Spec PyProof.Rows

theorem vals_ints : ∀ {vs : List Value} {ns : List Int}, IntsAre vs ns → Vals (ns.map V.int) vs
  | _, _, .nil => .nil
  | _, _, .cons n t h => .cons ⟨t, rfl⟩ (vals_ints h)

noncomputable def Only (H : Hp) : Prop := ∀ b, H b = none ∨ ∃ o xs, H b = some (.frz o (.lst xs))

theorem law_call {P : Program} {w : World} {K : PySem.W.Frag} {mg mb : Str → Option Value} {CX : CXT} {k : Nat} {fa a : Addr} {fd : FuncData} {x : Str} {sp : Sp} {s₁ : Shared} {vs : List Value} {ns : List Int}
    (KX : K.In s₁.heap) (hns : s₁.heap.Ns mainGlobals mg) (hb : s₁.heap.Ns builtinsNs mb) (hbb : ∀ x : Str, x ≠ "__name__" → mb x = bootBuiltins x) (hlim : s₁.heap.NoLimit) (hg : s₁.gens = #[])
    (ha : s₁.heap.get? a = some { cls := .type "list", data := .seq vs.toArray }) (hi : IntsAre vs ns) (hl : ns.length ≤ sizeLine) (hr : Room k callerA)
    (F : ∀ base : Heap, K.In base → base.Ns mainGlobals mg → FnOk P w K mg base CX k fa fd [x] sp) (hbind : ∀ (s : Shared) (u : Value), BindsTo s fd ⟨[u], []⟩ [(x, u)])
    (hsp : ∀ H : Hp, Only H → SqL K H a (ns.map V.int) → sp [.ref a] H (fun v _ => v = .bl true) fun _ _ _ => False)
    (hCX : ∀ H e s', CX [] H s₁ (fun _ _ _ => False) e s' → False) :
    codeAny (model P w) callerA (.call (.ref fa) ⟨[.ref a], []⟩) (fun r s' => r = .ok (.ret (.bool true)) ∧ OldK s₁.heap s'.heap ∧ s'.os = s₁.os ∧ AllBare s'.gens) s₁ := by
  have rv := vals_ints hi
  have lenV := hi.length
  -- from an abstract heap in which nothing but the script may be tracked
  have core : ∀ H : Hp, Only H → SqL K H a (ns.map V.int) → HOk P w H s₁.heap → (∀ b, H b ≠ none → b = a) → (H a ≠ none → K.lookup a = none) →
      codeAny (model P w) callerA (.call (.ref fa) ⟨[.ref a], []⟩) (fun r s' => r = .ok (.ret (.bool true)) ∧ OldK s₁.heap s'.heap ∧ s'.os = s₁.os ∧ AllBare s'.gens) s₁ := by
    intro H hO hS hok hA hK
    have base_of : ∀ {b : Addr} {o : Obj}, s₁.heap.get? b = some o → H b = none → (hidT s₁.heap H).get? b = some o := fun e n => hidT_get e n
    have noA : ∀ {b : Addr} {o : Obj} {es : Array DictEntry} {ep : Nat}, s₁.heap.get? b = some o → o.data = .dict es ep → H b = none := fun {b o es ep} e d => by
      cases q : H b with
      | none => rfl
      | some u =>
        have e' : b = a := hA b (by rw [q]; simp)
        subst e'
        rw [ha] at e; cases e
        have d' : Data.seq vs.toArray _ = Data.dict es ep := d
        cases d'
    have nsK : ∀ {b : Addr} {m : Str → Option Value}, s₁.heap.Ns b m → (hidT s₁.heap H).Ns b m := fun {b m} ⟨o, es, ep, e, d, r⟩ => ⟨o, es, ep, base_of e (noA e d), d, r⟩
    have hKb : K.In (hidT s₁.heap H) := fun b o e => base_of (KX b o e) (by
      cases q : H b with
      | none => rfl
      | some u =>
        have e' : b = a := hA b (by rw [q]; simp)
        subst e'
        rw [hK (by rw [q]; simp)] at e; cases e)
    have hM : Mod K mg (hidT s₁.heap H) := ⟨hKb, nsK hns, ⟨mb, nsK hb, hbb⟩, let ⟨mc, h1, h2⟩ := hlim; ⟨mc, nsK h1, h2⟩⟩
    have e0 : Env0 P w K mg (hidT s₁.heap H) callerA [] s₁ H := ⟨rfl, hM, fun b o e => of_hidT e, Nat.le_of_eq (hidT_size _ _), trivial, fun b hb => absurd (show b ∈ ([] : List Addr) from hb) (by simp), hok, .of_eq hg⟩
    refine codeAny_mono ((F _ hKb (nsK hns)).run callerA [] s₁ H ⟨[.ref a], []⟩ [.ref a] [.ref a] _ _ hr e0 (hbind s₁ (.ref a)) (.cons rfl .nil) (hsp H hO hS)) fun r s' h => ?_
    cases r with
    | error e => exact (hCX H e s' h).elim
    | ok fl =>
      cases fl with
      | next => exact False.elim h
      | brk => exact False.elim h
      | cont => exact False.elim h
      | ret u =>
        obtain ⟨v, H', os, bare, un, hok', r', q⟩ := h
        have q' : v = .bl true := q
        subst q'
        obtain rfl : u = Value.bool true := r'
        refine ⟨rfl, OldK.of_keep fun b o e => ?_, os, bare⟩
        cases q : H b with
        | none => exact un.keep b o e q (by intro z; exact absurd (show b ∈ ([] : List Addr) from z) (by simp)) (by simp)
        | some u =>
          rcases hO b with z | ⟨ob, xs, z⟩
          · rw [q] at z; cases z
          · have z2 := un.frzs b ob _ z
            obtain ⟨e1, _⟩ := hok b _ z
            obtain ⟨e2, _⟩ := hok' b _ z2
            rw [e] at e1; cases e1
            exact e2
  cases hk : K.lookup a with
  | some o =>
    -- the script is one of the module's own objects
    have e := KX a o hk
    rw [ha] at e
    cases e
    refine core (fun _ => none) (fun _ => .inl rfl) (.inr ⟨_, vs.toArray, _, hk, rfl, rfl, rfl, by rw [List.size_toArray, lenV]; exact hl, by simpa using rv⟩) (fun b u z => by have z' : (none : Option HO) = some u := z; cases z') (fun b z => absurd rfl z) fun z => absurd rfl z
  | none =>
    refine core (fun b => if b = a then some (.frz { cls := .type "list", data := .seq vs.toArray } (.lst (ns.map V.int))) else none) (fun b => ?_) (.inl (.inr ⟨{ cls := .type "list", data := .seq vs.toArray }, if_pos rfl⟩)) (fun b u z => ?_) (fun b z => ?_) fun _ => hk
    · by_cases hb : b = a
      · exact .inr ⟨_, _, if_pos hb⟩
      · exact .inl (if_neg hb)
    · by_cases hb : b = a
      · have z' := (if_pos hb).symm.trans z
        cases z'
        subst hb
        exact ⟨ha, by rw [List.length_map]; exact hl, vs, _, rv, ha⟩
      · have z' := (if_neg hb).symm.trans z
        cases z'
    · by_cases hb : b = a
      · exact hb
      · exact absurd (if_neg hb) z
end L2.Internal

namespace L2.Internal
open PySem PySem.Spec PyProof.Rows

noncomputable abbrev KOf {K : PySem.W.Frag} {h : Heap} (_ : K.In h) : PySem.W.Frag := K

theorem walk_of {l : PySem.W.OpenLaw} {n k : Nat} {q : Program} {loose : List Str} {XP : (Str → Option Value) → Heap → Prop} {YP : World → Heap → Prop} {d : DefRec} {K : Params → PySem.W.Frag} {CX : World → CXT} {sp : World → Sp} {x : Str}
    (hn : l.most = some n) (hn2 : n ≤ sizeLine) (hdf : d.params.defaults = []) (hr : Room k callerA)
    (hY : ∀ (w : World) (h : Heap), YP w h → (K w.params).In h)
    (F : ∀ (w : World) (mg : Str → Option Value) (fa : Addr) (h : Heap), (K w.params).In h → h.Ns mainGlobals mg → mg d.name = some (.ref fa) →
      ∃ fd : FuncData, (∀ (s : Shared) (u : Value), BindsTo s fd ⟨[u], []⟩ [(x, u)]) ∧
        ∀ base : Heap, (K w.params).In base → base.Ns mainGlobals mg → FnOk l.prog w (K w.params) mg base (CX w) k fa fd [x] (sp w))
    (hsp : ∀ (w : World) (H : Hp) (a : Addr) (ns : List Int), ns.length ≤ n → Only H → SqL (K w.params) H a (ns.map V.int) → sp w [.ref a] H (fun v _ => v = .bl true) fun _ _ _ => False)
    (hCX : ∀ (w : World) (H : Hp) (s : Shared) (e : Value) (s' : Shared), CX w [] H s (fun _ _ _ => False) e s' → False) :
    PySem.W.WalkO q loose XP YP l.row.toRowW d [] (fun f vs => PySem.call f vs) := by
  refine Att.Internal.attach_call hn hdf fun w s₀ s₁ mg mb fa o pm cd doc a vs ns G Y ho hd hcd hmg hobj hints hlen hg => ?_
  have KX := hY w _ Y
  obtain ⟨fd, hb, hF⟩ := F w mg fa _ KX G.T.g hmg
  exact law_call KX G.T.g G.T.b G.T.builtins G.T.nolimit hg hobj hints (Nat.le_trans hlen hn2) hr hF hb (fun H hO hS => hsp w H a ns hlen hO hS) fun H e s' => hCX w H s₁ e s'
end L2.Internal

/- THE LAST THEOREM (shape; LID, My.* are yours):
   My.Adr: a structure of the addresses that your layer names (classes, functions); My.Txt K t: a structure (Prop) of the equations over K;
   My.txt_mk : {K} {implicit addresses ..} (e1 : nsIn K mainGlobals "law" = some (some (.ref f))) (e2 : K.lookup f = some ⟨oc, od, .func (fnOf "law" "law" params body scope dV kV doc pm an cdv ct), sl⟩) (e3 : codeIn K cdv "law" = true) .. : ∃ t, My.Txt K t

set_option maxRecDepth 100000 in
set_option maxHeartbeats 0 in
theorem PySem.Challenge.cw_LID_holds : PySem.Challenge.rw_LID.Holds := by
  w_on; o_law; k_head; (case hw => w_witness2)
  k_fill
  refine L2.Internal.walk_of (l := PySem.Challenge.rw_LID) (n := 63) (k := 40) (x := "script") (CX := fun w => ..) (sp := fun _ => My.sp_law) rfl (by decide) rfl ⟨rfl, by decide, by decide⟩ (fun w h Y => PySem.W.kIn_of Y) ?F ?S ?C
  case F =>
    intro w mg fa h KX G hmg
    have T : ∃ t, My.Txt (L2.Internal.KOf KX) t := by
      dsimp only [L2.Internal.KOf]                          -- K must stand as «<heap const> w.params» for k_is
      refine' My.txt_mk ?e1 ?e2 ?e3 ..
      (case e1 => PySem.W.k_is)                    -- in the order: a name -> its address -> its object -> its parts
      (case e2 => PySem.W.k_is)
      ..
    obtain ⟨t, T⟩ := T
    have e0 := hmg.symm.trans (PySem.W.mg_of KX G T.law)
    cases e0                                       -- fa is the law's own address
    exact ⟨_, fun s u => .of_eq rfl, fun base kb nb => My.law_fn T kb nb⟩     -- if «.of_eq rfl» comes too early: refine' ⟨_, ?b, fun base kb nb => My.law_fn T kb nb⟩; exact fun s u => .of_eq rfl
  case S => exact fun w H a ns hl hO hS => ..
  case C => exact ..
(the tactic k_is has no namespace: write k_is) -/

namespace L2.Internal
open PySem PySem.Spec PyProof.Rows

noncomputable def inClass (s : Stmt) (j : Nat) : Stmt := match s with
  | .ClassDef _ _ _ body _ _ _ _ _ _ _ => body.getD j (.Pass ⟨0, 0, 0, 0⟩)
  | _ => .Pass ⟨0, 0, 0, 0⟩
noncomputable def defArgs (s : Stmt) : Arguments := match s with
  | .FunctionDef _ a _ _ _ _ _ _ _ _ => a
  | _ => { posonlyargs := [], args := [], vararg := none, kwonlyargs := [], kw_defaults := [], kwarg := none, defaults := [] }
noncomputable def defBody (s : Stmt) : List Stmt := match s with
  | .FunctionDef _ _ b _ _ _ _ _ _ _ => b
  | _ => []
noncomputable def defScope (s : Stmt) : Scope := match s with
  | .FunctionDef _ _ _ _ _ _ sc _ _ _ => sc
  | _ => { kind := .function, names := [], isGenerator := false, isCoroutine := false }

noncomputable abbrev CX0 : CXT := fun _ _ _ _ _ _ => False
noncomputable abbrev E0 : XK := fun _ _ _ => False
theorem pass0 {X : Cx} : Passes CX0 X E0 := fun _ _ _ _ _ _ _ h => h.elim

structure Fun (K : PySem.W.Frag) (x qual : Str) (st : Stmt) (f : Addr) (fd : FuncData) : Prop where
  ex : ∃ (oc : Value) (od : Option Addr) (kV doc pm : Value) (an : Option Addr) (cdv ct : Value) (osl : Array (Option Value)),
    fd = PySem.W.fnOf x qual (defArgs st) (defBody st) (defScope st) .none kV doc pm an cdv ct ∧ K.lookup f = some ⟨oc, od, .func fd, osl⟩ ∧ PySem.W.codeIn K cdv qual = true
  kp : PySem.W.keepIn K (.ref f) = true
section
variable {P : Program} {w : World} {K : PySem.W.Frag} {mg : Str → Option Value} {base : Heap}
theorem Fun.ok {x qual : Str} {st : Stmt} {f : Addr} {fd : FuncData} {N ps : List Str} {k : Nat} {sp : Sp} (F : Fun K x qual st f fd) (S : FnScope N ps (defScope st)) (len : ∀ vs H Q E, sp vs H Q E → vs.length = ps.length)
    (hbody : ∀ (cdv : Value) (A : Around) (outer : List Env) (s : Shared) (H : Hp) (vs : List V) (Q : VK) (E : XK), Room k (A.deeper (envOfC qual (defScope st) s.heap.objs.size f cdv)) → sp vs H Q E →
      ∃ t, PSs (cxOf CX0 P w K mg base N qual (defScope st) f cdv A outer s H E).nox (defBody st) t ∧ t { nx := fun _ H' => Q .non H', rt := Q } (start N vs) H) : FnOk P w K mg base CX0 (k + 1) f fd ps sp := by
  obtain ⟨oc, od, kV, doc, pm, an, cdv, ct, osl, rfl, lk, hcd⟩ := F.ex
  refine fn_of lk hcd S len fun A outer s H vs Q E hr hsp => ?_
  obtain ⟨t, h, q⟩ := hbody cdv A outer s H vs Q E hr hsp
  exact ⟨t, h.nox, q⟩
theorem Fun.binds {x qual : Str} {st : Stmt} {f : Addr} {fd : FuncData} {ps : List Str} (F : Fun K x qual st f fd)
    (h : ∀ (kV doc pm : Value) (an : Option Addr) (cdv ct : Value) (us : List Value), us.length = ps.length → bindArgs (PySem.W.fnOf x qual (defArgs st) (defBody st) (defScope st) .none kV doc pm an cdv ct) ⟨us, []⟩ = pure (ps.zip us)) : Binds K fd ps [] := by
  obtain ⟨oc, od, kV, doc, pm, an, cdv, ct, osl, rfl, lk, hcd⟩ := F.ex
  exact .all (h kV doc pm an cdv ct)
theorem fun_mk {x qual : Str} {st : Stmt} {f : Addr} {oc : Value} {od an : Option Addr} {osl : Array (Option Value)} {kV doc pm cdv ct : Value} (l : K.lookup f = some ⟨oc, od, .func (PySem.W.fnOf x qual (defArgs st) (defBody st) (defScope st) .none kV doc pm an cdv ct), osl⟩)
    (c : PySem.W.codeIn K cdv qual = true) (k : PySem.W.keepIn K (.ref f) = true) : Fun K x qual st f (PySem.W.fnOf x qual (defArgs st) (defBody st) (defScope st) .none kV doc pm an cdv ct) := ⟨⟨oc, od, kV, doc, pm, an, cdv, ct, osl, rfl, l, c⟩, k⟩
end
section
variable {X : Cx}
theorem pv (i : Nat) {x : Str} {pos : Pos} (hN : autoParam (X.N[i]? = some x) L2.Internal.auR._auto_1) (hv : Vis X.env.scope x := by first | exact Or.inl rfl | exact Or.inr (Or.inl rfl) | exact Or.inr (Or.inr rfl)) (hd : autoParam ((x == ("__debug__" : Str)) = false) L2.Internal.auD._auto_1)
    (hcd : autoParam ((x == ("__classdict__" : Str)) = false) L2.Internal.auD._auto_1) : PE X (.Name x pos) (tVar i) := pe_var hN hv hd hcd
end

theorem iteF {A B : Prop} (h : B) : if false = true then A else B := by
  rw [if_neg Bool.false_ne_true]
  exact h
theorem iteT {A B : Prop} (h : A) : if true = true then A else B := by
  rw [if_pos rfl]
  exact h
theorem ite2 {c A B : Prop} [Decidable c] (h1 : c → A) (h2 : ¬ c → B) : if c then A else B := by
  by_cases h : c
  · rw [if_pos h]
    exact h1 h
  · rw [if_neg h]
    exact h2 h
noncomputable def Same (H H' : Hp) : Prop := ∀ b o, H b = some o → H' b = some o
theorem Same.refl (H : Hp) : Same H H := fun _ _ h => h
theorem Same.trans {H H1 H2 : Hp} (a : Same H H1) (b : Same H1 H2) : Same H H2 := fun c o h => b c o (a c o h)
theorem Same.free {H H' : Hp} (e : Same H H') {l : Addr} (h : H' l = Option.none) : H l = Option.none := by
  cases q : H l with
  | none => rfl
  | some o =>
    rw [e l o q] at h
    cases h
theorem Same.seq {K : PySem.W.Frag} {H H' : Hp} {a : Addr} {xs : List V} (e : Same H H') (h : SqL K H a xs) : SqL K H' a xs := by
  rcases h with (h | ⟨o, h⟩) | h
  · exact .inl (.inl (e _ _ h))
  · exact .inl (.inr ⟨o, e _ _ h⟩)
  · exact .inr h

section
variable {X : Cx}
end
section
variable {κ : Type} [DecidableEq κ]
end
end L2.Internal
namespace L2.Internal
open PySem PySem.Spec PyProof.Rows

section
variable {X : Cx}
theorem pe_gR {x : Str} {a : Addr} {pos : Pos} (hg : Gl X x) (hm : X.mg x = some (.ref a)) (hd : autoParam ((x == ("__debug__" : Str)) = false) L2.Internal.auD._auto_1) : PE X (.Name x pos) (tC (.ref a)) := pe_glob hg hm (show RelV (.ref a) _ from rfl) hd
theorem pe_bty {x : Str} {n : String} {pos : Pos} (hg : Gl X x) (hm : X.mg x = none) (hv : bootBuiltins x = some (.type n)) (hn : autoParam (x ≠ "__name__") L2.Internal.auD._auto_1) (hd : autoParam ((x == ("__debug__" : Str)) = false) L2.Internal.auD._auto_1) : PE X (.Name x pos) (tC (.ty n)) := pe_bltn hg hm hv (show RelV (.ty n) _ from rfl) hn hd
end
theorem bt_len : bootBuiltins "len" = some (.builtin "len") := by decide +kernel
theorem bt_all : bootBuiltins "all" = some (.builtin "all") := by decide +kernel
theorem bt_sum : bootBuiltins "sum" = some (.builtin "sum") := by decide +kernel
theorem bt_isinstance : bootBuiltins "isinstance" = some (.builtin "isinstance") := by decide +kernel
theorem bt_int : bootBuiltins "int" = some (.type "int") := by decide +kernel
theorem bt_str : bootBuiltins "str" = some (.type "str") := by decide +kernel
theorem bt_bool : bootBuiltins "bool" = some (.type "bool") := by decide +kernel
theorem bt_list : bootBuiltins "list" = some (.type "list") := by decide +kernel
theorem bt_tuple : bootBuiltins "tuple" = some (.type "tuple") := by decide +kernel
noncomputable def strsOf : List Expr → Option (List Str)
  | [] => some []
  | .Constant (.str x) _ _ :: r => (strsOf r).map (x :: ·)
  | _ => none
noncomputable def tStrs (xs : List Str) : TA := fun _ H Q => Q (xs.map V.str) H
noncomputable def Its (x : Str) : It := ⟨fun i _ => i < x.cps.size, fun i H v H' => H' = H ∧ ∃ c, x.cps[i]? = some c ∧ v = .str ⟨#[c]⟩, fun i _ => i = x.cps.size⟩
section
variable {X : Cx} {tg : Expr}
noncomputable def iStr (tl : TE) : TI := fun σ H R => tl σ H fun v H1 => ∃ x, v = .str x ∧ R (Its x) H1
end
noncomputable def blk (X : Cx) (N : List Str) (scope : Scope) (cl : List (Str × Addr)) (C : Addr) (s₀ : Shared) (H₀ : Hp) (ex : List Addr) (pins : List (Addr × Obj)) : Cx :=
  { X with N := N, s₀ := s₀, H₀ := H₀, env := compEnvC scope cl C X.env, outer := X.stack, stack := X.stack, ex := ex, fn := fun _ => false, pn := X.pn ++ pins, xe := fun _ _ => False }
noncomputable def PTs (X : Cx) (cs : List Expr) (t : TT) : Prop :=
  ∀ (pins : List (Addr × Obj)) (s : Shared) (σ : St) (H : Hp) (Q : Bool → Hp → Prop), Inv X pins σ H s → t σ H Q →
    wpAny (model X.prog X.w) X.A (forIn cs true fun c r => if r = true then do let ok ← isTrue c X.env (eval c X.env); pure (ForInStep.yield ok) else pure (ForInStep.yield r)) (TP X pins σ Q) X.xe s
noncomputable def tAlways : TT := fun _ H Q => Q true H
theorem pts_nil {X : Cx} : PTs X [] tAlways := fun pins s σ H Q I h => wpAny_pure ⟨H, I, h⟩
structure BlkOk (X : Cx) (N : List Str) (scope : Scope) (cl : List (Str × Addr)) (f : St → St) (i : Nat) (x : Str) : Prop where
  kind : scope.kind = .function
  cell : ∀ y ∈ scope.names, y.2 ≠ .cell
  names : ∀ y ∈ scope.names, y.2 = .local → scope.names.lookup y.1 = some .local
  clos : closureFor scope X.env = pure cl
  lk : ∀ y c, cl.lookup y = some c → X.env.cells.lookup y = some c
  has : ∀ y, ((relabel scope X.env).names.lookup y = some .cell ∨ (relabel scope X.env).names.lookup y = some .free) → ∃ c, cl.lookup y = some c
  nd : N.Nodup
  ix : N[i]? = some x
  loc : scope.names.lookup x = some .local
  len : ∀ σ, σ.length = X.N.length → (f σ).length = N.length
  val : ∀ (σ : St) (k : Nat) (y : Str) (v : V), N[k]? = some y → (f σ)[k]? = some (some v) → ∃ j : Nat, X.N[j]? = some y ∧ σ[j]? = some (some v) ∧ X.env.scope.names.lookup y = some .cell ∧ (relabel scope X.env).names.lookup y = some .cell

theorem inv_blk {X : Cx} {N : List Str} {scope : Scope} {cl : List (Str × Addr)} {f : St → St} {i : Nat} {x : Str} (B : BlkOk X N scope cl f i x) {pins : List (Addr × Obj)} {σ : St} {H : Hp} {s : Shared} {h₁ : Heap} {tk : Nat} {m : Str → Option Value} {ex : List Addr}
    (I : Inv X pins σ H s) (hex : ∀ b ∈ ex, FpOk X pins H b ∧ b < s.heap.objs.size) (keep : ∀ b o, s.heap.get? b = some o → h₁.get? b = some o) (hn : h₁.Ns s.heap.objs.size m) :
    Inv (blk X N scope cl s.heap.objs.size s H ex pins) [] (f σ) H { s with heap := h₁, toks := tk } := by
  have nst : ∀ b, b ≠ X.env.locals → b ∉ X.fs → b ∉ frs X.stack := fun b h1 h2 hb => (List.mem_cons.mp (I.stkSub b hb)).elim h1 h2
  have ltC : ∀ y c, X.env.cells.lookup y = some c → c < s.heap.objs.size := fun y c e => by
    obtain ⟨v, o, ho, _⟩ := I.cell y c e
    exact Heap.lt_size ho
  refine ⟨⟨I.ok.mod, B.kind, I.ok.glob, I.ok.blt, Nat.le_refl _, fun y z c h1 h2 => I.ok.inj y z c (B.lk y c h1) (B.lk z c h2), fun y hy => B.has y hy, fun y c h => (nomatch h), I.ok.hd, I.ok.frames, .inl rfl, fun b hb => ?_, I.bs, Nat.le_trans I.ok.bsz I.sz, fun b o e hb => ?_, fun b hb => ?_, I.stack, I.stkFree⟩,
    rfl, I.bare, Un.kept keep, ⟨m, hn, fun k y v e1 e2 e3 => ?_⟩, fun y c e => ?_, I.hok.fresh (Nat.le_refl _), fun y c e => I.freeC y c (B.lk y c e), fun p hp => ?_, I.hok.kept keep, B.len σ I.len⟩
  · obtain ⟨⟨_, _, _, _, hc, _⟩, lt⟩ := hex b hb
    exact ⟨Nat.ne_of_lt lt, fun y c e => hc y c (B.lk y c e)⟩
  · obtain ⟨⟨_, _, _, h4, _, _⟩, _⟩ := hex b hb
    rcases h4 with z | z
    · exact I.ok.noex b o e z
    · exact absurd (Nat.lt_of_lt_of_le (Heap.lt_size (I.ok.bs b o e).1) z) (Nat.lt_irrefl _)
  · obtain ⟨⟨_, h2, h3, _, _, _⟩, _⟩ := hex b hb
    exact nst b h2 h3
  · obtain ⟨j, h1, h2, h3, h4⟩ := B.val σ k y v e1 e2
    obtain ⟨m', _, hl⟩ := I.loc
    obtain ⟨u, r, l⟩ := hl j y v h1 h2 (.inr (.inl h3))
    refine ⟨u, r, ?_⟩
    rcases l with ⟨hk, _⟩ | ⟨_, c, hc, z⟩
    · have hk' : X.env.scope.names.lookup y = some .local := hk
      rw [h3] at hk'
      cases hk'
    · obtain ⟨c', hc'⟩ := B.has y (.inl h4)
      have e : c' = c := Option.some.inj ((B.lk y c' hc').symm.trans hc)
      subst e
      obtain ⟨o, ho, hd⟩ := z
      exact .inr ⟨.inl h4, c', hc', o, keep _ o ho, hd⟩
  · obtain ⟨v, o, ho, hd⟩ := I.cell y c (B.lk y c e)
    exact ⟨v, o, keep _ o ho, hd⟩
  · rw [List.append_nil] at hp
    obtain ⟨e, n, ne, nf, d⟩ := I.pin p hp
    exact ⟨keep _ _ e, n, Nat.ne_of_lt (Heap.lt_size e), nst _ ne nf, d⟩

theorem lookup_relabel {env : Env} : ∀ {names : List (Str × NameKind)} {x : Str} {k : NameKind},
    (names.map fun (n, k) => if (k == NameKind.free && env.scope.kind == .function && env.kindOf n == some .cell) then (n, NameKind.cell) else (n, k)).lookup x = some k →
    ∃ k0, names.lookup x = some k0 ∧ (k = k0 ∨ (k0 = .free ∧ k = .cell))
  | [], _, _, h => by simp at h
  | (n, k0) :: r, x, k, h => by
    have ih := @lookup_relabel env r x k
    have h : List.lookup x ((if (k0 == NameKind.free && env.scope.kind == .function && env.kindOf n == some .cell) = true then (n, NameKind.cell) else (n, k0)) :: (r.map fun (n, k) => if (k == NameKind.free && env.scope.kind == .function && env.kindOf n == some .cell) then (n, NameKind.cell) else (n, k))) = some k := h
    cases hx : x == n with
    | true =>
      by_cases hc : (k0 == NameKind.free && env.scope.kind == .function && env.kindOf n == some .cell) = true
      · rw [if_pos hc] at h
        simp only [List.lookup_cons, hx] at h ⊢
        have hf : k0 = .free := by
          have hc' := hc
          simp only [Bool.and_eq_true] at hc'
          exact eq_of_beq hc'.1.1
        exact ⟨k0, rfl, .inr ⟨hf, (Option.some.inj h).symm⟩⟩
      · rw [if_neg hc] at h
        simp only [List.lookup_cons, hx] at h ⊢
        exact ⟨k0, rfl, .inl (Option.some.inj h).symm⟩
    | false =>
      have h2 : (r.map fun (n, k) => if (k == NameKind.free && env.scope.kind == .function && env.kindOf n == some .cell) then (n, NameKind.cell) else (n, k)).lookup x = some k := by
        by_cases hc : (k0 == NameKind.free && env.scope.kind == .function && env.kindOf n == some .cell) = true
        · rw [if_pos hc] at h; simp only [List.lookup_cons, hx] at h; exact h
        · rw [if_neg hc] at h; simp only [List.lookup_cons, hx] at h; exact h
      obtain ⟨k1, e1, e2⟩ := ih h2
      exact ⟨k1, by simp only [List.lookup_cons, hx]; exact e1, e2⟩
theorem lookup_relabel_free {env : Env} (hk : env.scope.kind = .function) : ∀ {names : List (Str × NameKind)} {x : Str}, env.scope.names.lookup x = some .cell → names.lookup x = some .free →
    (names.map fun (n, k) => if (k == NameKind.free && env.scope.kind == .function && env.kindOf n == some .cell) then (n, NameKind.cell) else (n, k)).lookup x = some .cell
  | [], _, _, h => by simp at h
  | (n, k0) :: r, x, hc, h => by
    have ih := @lookup_relabel_free env hk r x hc
    show List.lookup x ((if (k0 == NameKind.free && env.scope.kind == .function && env.kindOf n == some .cell) = true then (n, NameKind.cell) else (n, k0)) :: _) = _
    cases hx : x == n with
    | true =>
      simp only [List.lookup_cons, hx] at h
      cases h
      have e : x = n := eq_of_beq hx
      have hc' : env.kindOf n = some .cell := by rw [← e]; exact hc
      simp [List.lookup_cons, hx, hk, hc']
    | false =>
      simp only [List.lookup_cons, hx] at h
      by_cases hq : (k0 == NameKind.free && env.scope.kind == .function && env.kindOf n == some .cell) = true
      · rw [if_pos hq]; simp only [List.lookup_cons, hx]; exact ih h
      · rw [if_neg hq]; simp only [List.lookup_cons, hx]; exact ih h
theorem blk0 {X : Cx} {scope : Scope} {x : Str} (hk : scope.kind = .function) (hn : ∀ p ∈ scope.names, p.2 ≠ .cell ∧ p.2 ≠ .free) (hl : ∀ y ∈ scope.names, y.2 = .local → scope.names.lookup y.1 = some .local)
    (hx : scope.names.lookup x = some .local) (hc : closureFor scope X.env = pure []) : BlkOk X [x] scope [] (fun _ => [none]) 0 x where
  kind := hk
  cell := fun y hy => (hn y hy).1
  names := hl
  clos := hc
  lk := fun y c h => by simp at h
  has := fun y h => by
    rcases h with h | h
    · obtain ⟨k0, e, z⟩ := lookup_relabel h
      have m := hn _ (PySem.mem_of_lookup e)
      rcases z with z | ⟨z, _⟩
      · exact absurd z.symm m.1
      · exact absurd z m.2
    · obtain ⟨k0, e, z⟩ := lookup_relabel h
      have m := hn _ (PySem.mem_of_lookup e)
      rcases z with z | ⟨z, _⟩
      · exact absurd z.symm m.2
      · exact absurd z m.2
  nd := by simp
  ix := rfl
  loc := hx
  len := fun _ _ => rfl
  val := fun σ k y v h1 h2 => by
    cases k with
    | zero => simp at h2
    | succ k => simp at h2
noncomputable def LcP (J : It) (i : Nat) (tt : TT) (te : TE) (Q : VK) (τ : St) (H1 : Hp) (D : Addr) : Prop :=
  ∃ W : Nat → Nat → St → Hp → Prop, (∃ m, W 0 m τ (upd H1 D (.lst []))) ∧ ∀ k m σ' H2, W k m σ' H2 →
    (J.stop k H2 ∧ Q (.ref D) H2) ∨ (J.go k H2 ∧ ∀ v H3, J.yld k H2 v H3 → tt (σ'.set i (some v)) H3 fun ok H4 => if ok = true
      then te (σ'.set i (some v)) H4 fun y H5 => ∃ xs, H5 D = some (.lst xs) ∧ xs.length < sizeLine ∧ ∃ m', m' < m ∧ W (k + 1) m' (σ'.set i (some v)) (upd H5 D (.lst (xs ++ [y])))
      else ∃ m', m' < m ∧ W (k + 1) m' (σ'.set i (some v)) H4)
noncomputable def tLC (wi : TI) (f : St → St) (i : Nat) (tt : TT) (te : TE) : TE := fun σ H Q => wi σ H fun J H1 => ∀ D, H1 D = none → LcP J i tt te Q (f σ) H1 D

theorem pe_lc {X : Cx} {elt iter : Expr} {x : Str} {px : Pos} {ifs : List Expr} {scope : Scope} {pos : Pos} {N : List Str} {cl : List (Str × Addr)} {f : St → St} {i : Nat} {wi : TI} {tt : TT} {te : TE}
    (hc : X.calm = true) (B : BlkOk X N scope cl f i x) (hi : PI X (.Name x px) iter wi)
    (htt : ∀ C s₀ H₀ ex pins, PTs (blk X N scope cl C s₀ H₀ ex pins) ifs tt) (hte : ∀ C s₀ H₀ ex pins, PE (blk X N scope cl C s₀ H₀ ex pins) elt te)
    (hs : autoParam (∀ x, foldedSetIterable iter X.env x = pure x) L2.Internal.auI._auto_1) : PE X (.ListComp elt [⟨.Name x px, iter, ifs, 0⟩] scope pos) (tLC wi f i tt te) := by
  intro pins s σ H Q I h
  rw [eval_ListComp]
  refine wpAny_comprehension_free (use := none) rfl hs B.clos B.kind B.names (thn (hi pins s σ H _ I h) fun xv s1 h1 => thn h1 fun itv s2 h2 => ?_)
  obtain ⟨it, fp, tn, J, H2, rfl, I2, T, st2, f2, q⟩ := h2
  have hD : H2 s2.heap.objs.size = none := I2.fresh
  obtain ⟨W, ⟨m0, w0⟩, turn⟩ := q _ hD
  refine wpAny_newObj_type (wpAny_newFunctionEnv B.cell (by intro y hy; simp at hy) (fun h₁ hns₁ hsb₁ => ?_) B.kind)
  have I3 : Inv X pins σ (upd H2 s2.heap.objs.size (.lst [])) { s2 with heap := s2.heap.push { cls := .type "list", data := .seq ([] : List Value).toArray } } := I2.lnew (its := []) (ys := []) (t' := s2.toks) .nil (Nat.zero_le _)
  have lt2 : ∀ b ∈ fp, b < s2.heap.objs.size := fun b hb => by
    obtain ⟨o, ho, _⟩ := T.obj _ _ st2 b hb
    exact Heap.lt_size ho
  have fp3 : ∀ b ∈ fp, FpOk X pins (upd H2 s2.heap.objs.size (.lst [])) b := fun b hb => by
    refine ⟨?_, (f2 b hb).2⟩
    rw [upd_ne (Nat.ne_of_lt (lt2 b hb))]
    exact (f2 b hb).1
  generalize hs3 : ({ s2 with heap := s2.heap.push { cls := .type "list", data := .seq ([] : List Value).toArray } } : Shared) = s3 at I3 hns₁ hsb₁ ⊢
  have eh : s2.heap.push { cls := .type "list", data := .seq ([] : List Value).toArray } = s3.heap := by rw [← hs3]
  have lt3 : ∀ b ∈ fp, b < s3.heap.objs.size := fun b hb => by
    rw [← eh, Heap.size_push]
    exact Nat.lt_succ_of_lt (lt2 b hb)
  have old : ∀ b o, s3.heap.get? b = some o → h₁.get? b = some o := fun b o e => hsb₁.extBut b o (Nat.ne_of_lt (Heap.lt_size e)) (Heap.get?_push_of_some _ e)
  have I4 := inv_blk (tk := s3.toks + ([] : List (Str × Value)).length) B I3 (ex := fp) (fun b hb => ⟨fp3 b hb, lt3 b hb⟩) old hns₁
  have st4 : tn 0 h₁ := T.keep _ _ _ st2 fun b _ o e => old b o (by rw [← eh]; exact Heap.get?_push_of_some _ e)
  -- the iterators in the block
  have fpB : ∀ {H' : Hp}, (∀ b ∈ fp, H' b = none) → ∀ b ∈ fp, FpOk (blk X N scope cl s3.heap.objs.size s3 (upd H2 s2.heap.objs.size (.lst [])) fp pins) [] H' b := fun {H'} hn b hb => by
    obtain ⟨_, g2, g3, g4, g5, g6⟩ := f2 b hb
    refine ⟨hn b hb, Nat.ne_of_lt (lt3 b hb), fun z => (List.mem_cons.mp (I3.stkSub b z)).elim g2 g3, .inl hb, fun y c e => g5 y c (B.lk y c e), fun p hp => ?_⟩
    rw [List.append_nil] at hp
    exact g6 p hp
  have loop : ∀ s4 : Shared, s4 = { s3 with heap := h₁, toks := s3.toks + ([] : List (Str × Value)).length } →
      codeAny (model X.prog X.w) X.A (.compLoop (.ListComp elt [⟨.Name x px, iter, ifs, 0⟩] scope pos) 0 (.ref it) (.ref s2.heap.objs.size) (compEnvC scope cl s3.heap.objs.size X.env))
        (compPost (model X.prog X.w) X.A X.xe none (EP X pins σ Q) (.ref s2.heap.objs.size) s3.heap.objs.size) s4 := by
    rintro s4 rfl
    refine codeAny_compLoop_tests (I := fun n s' => ∃ k σ' H', Inv (blk X N scope cl s3.heap.objs.size s3 (upd H2 s2.heap.objs.size (.lst [])) fp pins) [] σ' H' s' ∧ tn k s'.heap ∧ (∀ b ∈ fp, H' b = none) ∧ W k n σ' H') ?_ m0
      ⟨0, f σ, _, I4, st4, fun b hb => (fp3 b hb).1, w0⟩
    rintro n s5 ⟨k, σ5, H5, I5, st5, fr5, w5⟩
    rcases turn k n σ5 H5 w5 with ⟨stop, qn⟩ | ⟨go, step⟩
    · refine wpAny_mono (T.done (blk X N scope cl s3.heap.objs.size s3 (upd H2 s2.heap.objs.size (.lst [])) fp pins) rfl rfl rfl hc k [] s5 σ5 H5 _ I5 (fpB fr5) st5 stop) (fun r s6 h6 => ?_) fun _ _ z => z
      obtain ⟨hr, I6⟩ := h6
      subst hr
      obtain ⟨m6, hn6, _⟩ := id I6.loc
      refine ⟨m6, hn6, fun h' sb => ?_⟩
      have nC : ∀ b o, s3.heap.get? b = some o → b ≠ s3.heap.objs.size := fun b o e => Nat.ne_of_lt (Heap.lt_size e)
      have u6 : Un (frs X.stack) fp (upd H2 s2.heap.objs.size (.lst [])) H5 s3.heap s6.heap := I6.base
      have u7 : Un (frs X.stack) fp (upd H2 s2.heap.objs.size (.lst [])) H5 s3.heap h' :=
        ⟨fun b o e z1 z2 z3 => (sb.2 b (nC b o e)).trans (u6.keep b o e z1 z2 z3), fun b o e z1 z2 z3 => by
          obtain ⟨sl, e1⟩ := u6.slot b o e z1 z2 z3
          exact ⟨sl, (sb.2 b (nC b o e)).trans e1⟩, u6.free, fun b o e z => by
          obtain ⟨o', e1⟩ := u6.there b o e z
          exact ⟨o', (sb.2 b (nC b o e)).trans e1⟩, u6.tups, u6.frzs, u6.tbls⟩
      have hok7 : HOk X.prog X.w H5 h' := fun b o e => (I6.hok b o e).stay (fun c w' hcc e1 => (sb.2 c (fun z => by
          have fr : H5 s3.heap.objs.size = none := I6.free
          rcases hcc with y | y
          · rw [← y, z, fr] at e; cases e
          · rw [z, fr] at y; cases y)).trans e1) (fun _ z => z) fun _ _ z => z
      have I7 : Inv X pins σ H5 { s6 with heap := h' } := I3.call' (s' := { s6 with heap := h' }) (ch := fp) I6.os u7 hok7 I6.bare fun b hb => by
        obtain ⟨_, g2, g3, g4, g5, g6⟩ := f2 b hb
        exact ⟨g4, g2, g5, g6⟩
      exact ⟨.ref s2.heap.objs.size, H5, I7, rfl, qn⟩
    · refine wpAny_mono (T.item (blk X N scope cl s3.heap.objs.size s3 (upd H2 s2.heap.objs.size (.lst [])) fp pins) rfl rfl rfl hc k [] s5 σ5 H5 _ I5 (fpB fr5) st5 go) (fun r s6 h6 => ?_) fun _ _ z => z
      obtain ⟨u, hr, h6⟩ := h6
      subst hr
      show wpAny _ _ (pure () >>= fun _ => assign (.Name x px) (compEnvC scope cl s3.heap.objs.size X.env) u) _ _ s6
      refine wpAny_bind (wpAny_mono (show wpAny _ _ (pure ()) _ _ s6 from h6) (fun _ s7 h7 => ?_) fun _ _ z => z)
      obtain ⟨v, H7, I7, r7, y7, st7, fr7⟩ := h7
      have I7' := I7.pinned (fpB fr7) (T.obj _ _ st7)
      refine wpAny_assign_Name (store_ok (X := blk X N scope cl s3.heap.objs.size s3 (upd H2 s2.heap.objs.size (.lst [])) fp pins) I7' B.nd B.ix (.inl (lookup_relabel_local B.loc)) r7 (fun s8 I8 => ?_) (.inr (lookup_relabel_local B.loc)))
      have back : ∀ {σ9 : St} {H9 : Hp} {s9 : Shared}, Inv (blk X N scope cl s3.heap.objs.size s3 (upd H2 s2.heap.objs.size (.lst [])) fp pins) ([] ++ pinsAt fp s7.heap) σ9 H9 s9 → (∃ m', m' < n ∧ W (k + 1) m' σ9 H9) →
          ∃ m', m' < n ∧ ∃ k σ' H', Inv (blk X N scope cl s3.heap.objs.size s3 (upd H2 s2.heap.objs.size (.lst [])) fp pins) [] σ' H' s9 ∧ tn k s9.heap ∧ (∀ b ∈ fp, H' b = none) ∧ W k m' σ' H' := fun {σ9 H9 s9} I9 q9 => by
        obtain ⟨m', hm, w9⟩ := q9
        refine ⟨m', hm, k + 1, σ9, H9, I9.unpinned, T.keep _ _ _ st7 fun b hb o e => (I9.pin (b, o) (List.mem_append_right _ (List.mem_append_right _ (mem_pinsAt hb e)))).1, fun b hb => ?_, w9⟩
        obtain ⟨o, e, d⟩ := T.obj _ _ st7 b hb
        exact (I9.pin (b, o) (List.mem_append_right _ (List.mem_append_right _ (mem_pinsAt hb e)))).2.1
      refine wpAny_mono (htt _ _ _ _ _ _ s8 _ H7 _ I8 (step v H7 y7)) (fun ok s9 h9 => ?_) fun _ _ z => False.elim z
      obtain ⟨H9, I9, q9⟩ := h9
      cases ok with
      | false =>
        rw [if_neg Bool.false_ne_true]
        rw [if_neg Bool.false_ne_true] at q9
        exact back I9 q9
      | true =>
        rw [if_pos rfl]
        rw [if_pos rfl] at q9
        refine wpAny_mono (hte _ _ _ _ _ _ s9 _ H9 _ I9 q9) (fun y s10 h10 => ?_) fun _ _ z => False.elim z
        obtain ⟨v10, H10, I10, r10, xs, hx10, hz, q10⟩ := h10
        refine wpAny_mono (mt_append (X := blk X N scope cl s3.heap.objs.size s3 (upd H2 s2.heap.objs.size (.lst [])) fp pins) _ s10 _ H10 (.ref s2.heap.objs.size) [v10] _ [y] (fun _ H11 => H11 = upd H10 s2.heap.objs.size (.lst (xs ++ [v10]))) I10 rfl (.cons r10 .nil) ⟨_, xs, v10, rfl, rfl, hx10, hz, rfl⟩) (fun _ s11 h11 => ?_) fun _ _ z => False.elim z
        obtain ⟨_, H11, I11, _, e11⟩ := h11
        subst e11
        exact back I11 q10
  exact codeAny_compStart_list (loop _ rfl) (T.self _ 0 _ _ _ st4 (loop _ rfl))

section
variable {X : Cx}
theorem bools_of {bs : List Bool} : ∀ {us : List Value}, Vals (bs.map V.bl) us → us = bs.map Value.bool := by
  induction bs with
  | nil => intro us r; rw [List.map_nil] at r; cases r; rfl
  | cons n ns ih =>
    intro us r
    rw [List.map_cons] at r
    cases r with
    | cons r1 r2 =>
      cases (show _ = Value.bool n from r1)
      rw [ih r2]
      rfl
theorem range_all' (bs : List Bool) : ((List.range bs.length).all fun i => (bs[i]?).getD true) = bs.all id := by
  induction bs with
  | nil => rfl
  | cons b r ih =>
    rw [List.length_cons, List.range_succ_eq_map, List.all_cons, List.all_map, List.all_cons, ← ih]
    rfl
theorem kept_iter' {h h' : Heap} {o : Obj} (hk : ∀ b x, b ∉ [h.objs.size] → (h.push o).get? b = some x → h'.get? b = some x) : ∀ b x, h.get? b = some x → h'.get? b = some x :=
  fun b x e => hk b x (fun hm => by rw [List.mem_singleton.mp hm] at e; exact Nat.lt_irrefl _ (Heap.lt_size e)) (Heap.get?_push_of_some _ e)
theorem call_all (hc : X.calm = true) : CallR X (.builtin "all") (fun xs H Q => ∃ (a : Addr) (bs : List Bool), xs = [.ref a] ∧ SqL X.K H a (bs.map V.bl) ∧ Q (.bl (bs.all id)) H) := by
  intro pins s σ H xs us Q I r h
  obtain ⟨a, bs, rfl, ha, q⟩ := h
  obtain ⟨u, rfl, ru⟩ := vals1 r
  cases ru
  obtain ⟨its, rv, pl, hz⟩ := I.list ha
  have ei := bools_of rv
  subst ei
  have hl : s.heap.IsList a (bs.map Value.bool).toArray := pl.isList
  have hlt : a < s.heap.objs.size := by obtain ⟨_, e, _⟩ := hl; exact Heap.lt_size e
  refine call_all_walk (wpAny_pyIter_list hl ?_)
  refine ⟨s.heap.objs.size, [s.heap.objs.size, a], [s.heap.objs.size], (bs.map Value.bool).toArray.size, _, _, fun i => (bs[i]?).getD true, rfl, Walks.list (A := X.A.in1) (I.ok.hd hc) _ a (Nat.ne_of_lt hlt) (bs.map Value.bool).toArray,
    ⟨⟨_, Heap.get?_push_size _ rfl, rfl, rfl⟩, hl.push _⟩, fun i v s' Q' E' hP hQ => ?_, fun h' tk hk => ?_⟩
  · have hv : (bs.map Value.bool)[i]? = some v := by simpa using hP
    rw [List.getElem?_map] at hv
    cases e : bs[i]? with
    | none => rw [e] at hv; cases hv
    | some b =>
      rw [e] at hv
      have e2 : v = Value.bool b := (Option.some.inj hv).symm
      subst e2
      simp only [e, Option.getD_some] at hQ
      exact wpAny_truthy_bool hQ
  · have e : ((List.range (bs.map Value.bool).toArray.size).all fun i => (bs[i]?).getD true) = bs.all id := by
      rw [List.size_toArray, List.length_map]; exact range_all' bs
    rw [e]
    exact ⟨.bl (bs.all id), H, I.kept (kept_iter' hk), rfl, q⟩

noncomputable def rSlS : V → Option Int → Option Int → Hp → VK → Prop := fun x lo hi H Q => ∃ z, x = .str z ∧ z.length ≤ sizeLine ∧ Q (.str (Txt.slice z lo hi)) H
theorem sl_str : SlR X rSlS := by
  intro pins s σ H x v vl vu lo hi sl Q I rx hs pl pu h
  obtain ⟨z, rfl, hz, q⟩ := h
  obtain ⟨t, rfl⟩ := rx
  refine ⟨"str", _, F.slot_str_getitem.lookup, typeIs_str _ _ _, ?_⟩
  have fin : ∀ t' k, EP X pins σ Q (.str (Txt.slice z lo hi) t') { s with toks := k } := fun t' k => ⟨.str _, H, I.tok k, ⟨t', rfl⟩, q⟩
  cases pl with
  | none =>
    cases pu with
    | none => exact wpAny_getItem_str_slice (l := none) (u := none) (st := none) hs rfl (post_val_or_str ⟨Nat.le_trans (Txt.slice_le z _ _) hz, fun t' k => fin t' k⟩)
    | int j u => exact wpAny_getItem_str_slice (l := none) (u := some (j, u)) (st := none) hs rfl (post_val_or_str ⟨Nat.le_trans (Txt.slice_le z _ _) hz, fun t' k => fin t' k⟩)
  | int i u' =>
    cases pu with
    | none => exact wpAny_getItem_str_slice (l := some (i, u')) (u := none) (st := none) hs rfl (post_val_or_str ⟨Nat.le_trans (Txt.slice_le z _ _) hz, fun t' k => fin t' k⟩)
    | int j u => exact wpAny_getItem_str_slice (l := some (i, u')) (u := some (j, u)) (st := none) hs rfl (post_val_or_str ⟨Nat.le_trans (Txt.slice_le z _ _) hz, fun t' k => fin t' k⟩)

theorem call_isi : CallR X (.builtin "isinstance") (fun xs H Q => ∃ x v c t b, xs = [x, v] ∧ (∀ u, RelV v u → u = c) ∧ TyOf X.K H x t ∧ PySem.W.kitOne X.K t c = some b ∧ Q (.bl b) H) := by
  intro pins s σ H xs us Q I r h
  obtain ⟨x, v, c, t, b, rfl, hc, ht, hk, q⟩ := h
  obtain ⟨u, u', rfl, ru, ru'⟩ := vals2 r
  cases hc u' ru'
  exact isinst_ok I ru ht hk fun tk => ⟨.bl b, H, I.tok tk, rfl, q⟩
end
end L2.Internal
namespace L2.Internal
open PySem PySem.Spec PyProof.Rows
section
variable {X : Cx}
noncomputable def eqVs : List V → List V → Bool
  | [], [] => true
  | x :: xs, y :: ys => eqV x y && eqVs xs ys
  | _, _ => false
noncomputable def rEqL (K : PySem.W.Frag) (neg : Bool) : R2 := fun x y H Q => ∃ a b xs ys, x = .ref a ∧ y = .ref b ∧ SqL K H a xs ∧ SqL K H b ys ∧ xs.all flatV = true ∧ ys.all flatV = true ∧ Q (.bl (if neg then !eqVs xs ys else eqVs xs ys)) H
open Builtin Builtin.Str in
noncomputable def rSplit : V → List V → Hp → VK → Prop := fun x xs H Q => ∃ z y, x = .str z ∧ xs = [.str y] ∧ (y.length == 0) = false ∧ z.length + 2 ≤ sizeLine ∧ ∀ l, H l = none → Q (.ref l) (upd H l (.lst ((Txt.split z y).map V.str)))
noncomputable def PE1 (X : Cx) (e : Expr) (t : TE) : Prop :=
  ∀ (pins : List (Addr × Obj)) (s : Shared) (σ : St) (H : Hp) (Q : VK), Inv X pins σ H s → 1 ≤ s.toks → t σ H Q → wpAny (model X.prog X.w) X.A (eval e X.env) (fun u s' => 1 ≤ s'.toks ∧ EP X pins σ Q u s') X.xe s
theorem PE.one {e : Expr} {t : TE} (h : PE X e t) : PE1 X e t := fun pins s σ H Q I ht hw => wpAny_mono (wpAny_toks_of ht (h pins s σ H Q I hw)) (fun _ _ z => z) fun _ _ z => z.2
noncomputable def tRepl (to : TE) (y z : Str) : TE := fun σ H Q => to σ H fun v H1 => ∃ x, v = .str x ∧ x.length + (x.length + 1) * z.length ≤ 16777216 ∧ Q (.str (Txt.replace x y z)) H1
noncomputable def PSs1 (X : Cx) (st : List Stmt) (t : TS) : Prop :=
  ∀ (pins : List (Addr × Obj)) (s : Shared) (σ : St) (H : Hp) (D : Ends), Inv X pins σ H s → 1 ≤ s.toks → t D σ H → wpAny (model X.prog X.w) X.A (execs st X.env) (SP X pins D) X.xe s
end
end L2.Internal
namespace L2.Internal
open PySem PySem.Spec PyProof.Rows
section
variable {X : Cx} {st : Stmt} {rest : List Stmt} {t u : TS}
noncomputable def tMid (N : St → Hp → Prop) (t u : TS) : TS := fun D σ H => t { D with nx := N } σ H ∧ ∀ σ' H', N σ' H' → u D σ' H'
end
end L2.Internal
namespace L2.Internal
open PySem PySem.Spec PyProof.Rows
section
variable {P : Program} {w : World} {H H' : Hp} {h h' : Heap} {a : Addr} {o : HO}
end

structure Fl (P : Program) (w : World) (outer : List Env) (H : Hp) (s : Shared) (B : Heap) (H' : Hp) (s' : Shared) : Prop where
  os : s'.os = s.os
  bare : AllBare s'.gens
  un : Un (frs outer) [] H H' s.heap s'.heap
  hok : HOk P w H' s'.heap
  stay : B.StaysIn s'.heap
  trk : ∀ b u, H' b = some u → ∃ o, B.get? b = some o
  old : ∀ b o, s.heap.get? b = some o → b ∉ frs outer → ∃ o', B.get? b = some o'
noncomputable def CXE (P : Program) (w : World) : CXT := fun outer H s E e s' => ∃ (ea : Addr) (cls a0 : Value) (B : Heap) (H' : Hp), e = .ref ea ∧ Fl P w outer H s B H' s' ∧ Heap.FlyingW B outer ea cls a0 s'.heap ∧ E cls none H'

section
variable {X : Cx} {pins : List (Addr × Obj)} {σ : St} {H H' : Hp} {s s' : Shared} {B h : Heap}
theorem Inv.track {ea : Addr} {o : HO} (I : Inv X pins σ H s) (hn : H ea = none) (h0 : X.s₀.heap.get? ea = none) (hL : ea ≠ X.env.locals) (hC : ∀ x c, X.env.cells.lookup x = some c → c ≠ ea) (hP : ∀ p ∈ X.pn ++ pins, p.1 ≠ ea)
    (new : ObjOk X.prog X.w (upd H ea o) s.heap ea o) : Inv X pins σ (upd H ea o) s := by
  have ne : ∀ b u, H b = some u → b ≠ ea := fun b u e z => by rw [z, hn] at e; cases e
  refine ⟨I.ok, I.os, I.bare, ⟨I.base.keep, I.base.slot, fun b ob e n hx => ?_, I.base.there, fun b xs e => ?_, fun b ob u e => ?_, fun b ps e => ?_⟩, I.loc, I.cell, ?_, fun x c e => ?_, fun p hp => ?_, fun b u e => ?_, I.len⟩
  · rw [upd_ne (fun z => by rw [z, h0] at e; cases e)]
    exact I.base.free b ob e n hx
  · have e1 := I.base.tups b xs e
    rw [upd_ne (ne b _ e1)]
    exact e1
  · have e1 := I.base.frzs b ob u e
    rw [upd_ne (ne b _ e1)]
    exact e1
  · obtain ⟨more, e1⟩ := I.base.tbls b ps e
    exact ⟨more, by rw [upd_ne (ne b _ e1)]; exact e1⟩
  · rw [upd_ne (Ne.symm hL)]
    exact I.free
  · rw [upd_ne (hC x c e)]
    exact I.freeC x c e
  · obtain ⟨e, n, n2, nf, d⟩ := I.pin p hp
    exact ⟨e, by rw [upd_ne (hP p hp)]; exact n, n2, nf, d⟩
  · by_cases hb : b = ea
    · subst hb
      rw [upd_same] at e
      cases e
      exact new
    · rw [upd_ne hb] at e
      exact (I.hok b u e).stay (fun _ _ _ q => q) (fun c z => by rw [upd_ne (ne c _ z)]; exact z) fun c xs z => by rw [upd_ne (ne c _ z)]; exact z
end

section
variable {P : Program} {w : World} {K : PySem.W.Frag} {mg : Str → Option Value} {base : Heap} {N : List Str} {qual : Str} {scope : Scope} {f : Addr} {cd : Value} {A : Around} {outer : List Env} {s₀ : Shared} {H₀ : Hp} {E : XK}
end

noncomputable def VEbm : List Value := [.type "ValueError", .type "Exception", .type "BaseException", .type "object"]
noncomputable abbrev ExcV (K : PySem.W.Frag) (C : Addr) : Prop := PySem.W.excIn K C VEbm "ValueError.__new__" = true
section
variable {X : Cx} {C : Addr} {E : XK} {x : Str} {np cpos pos : Pos} {e : Expr} {es : List Expr} {t : TA}
noncomputable def Leaves (X : Cx) (E : XK) : Prop := ∀ (pins : List (Addr × Obj)) (σ : St) (H : Hp) (s : Shared) (h' : Heap) (ea : Addr) (cls : Value) (vs : List Value), Inv X pins σ H s → Heap.MadeExcOf s.heap h' ea cls vs → E cls none H → X.xe (.ref ea) { s with heap := h' }
noncomputable def tRaise (C : Addr) (E : XK) (t : TA) : TS := fun _ σ H => t σ H fun vs H1 => vs.length ≤ sizeLine ∧ E (.ref C) none H1
end

section
variable {P : Program} {w : World} {K : PySem.W.Frag} {mg : Str → Option Value} {base : Heap}
end

noncomputable def excO (ea : Addr) (cls : Value) : HO := .ext fun h => ∃ o, h.get? ea = some o ∧ o.cls = cls
noncomputable abbrev Cx.hand (X : Cx) (ea : Addr) : Cx := { X with A := X.A.mark (some (.ref ea)), calm := false, xe := fun _ _ => False }
section
variable {X : Cx} {pins : List (Addr × Obj)} {σ : St} {H : Hp} {s : Shared}
end
section
variable {X : Cx} {CX : CXT} {k : Nat} {f Y : Addr} {fd : FuncData} {ps : List Str} {sp : Sp} {dvs : List V} {ds : List Value} {E : XK} {x y n : Str} {p pos pos' py hpos tpos : Pos} {e : Expr} {es : List Expr} {t : TA} {b₀ : Stmt} {body : List Stmt} {tb : TS} {i : Nat}
noncomputable def tTryAs (K : PySem.W.Frag) (Y : Addr) (sp : Sp) (dvs : List V) (i : Nat) (t : TA) (tb : TS) : TS := fun D σ H => t σ H fun vs H1 => sp (vs ++ dvs) H1 (fun _ H2 => D.nx σ H2)
  (fun cls _ H2 => PySem.W.exmOne K cls (.ref Y) = some true ∧ ∀ ea, H2 ea = none → tb { nx := fun σ' H' => D.nx (σ'.set i none) H', rt := D.rt, bk := fun σ' H' => D.bk (σ'.set i none) H', ct := fun σ' H' => D.ct (σ'.set i none) H' } (σ.set i (some (.ref ea))) (upd H2 ea (excO ea cls)))
end

section
variable {X : Cx} {e : Expr} {es : List Expr} {te : TE} {pos : Pos}
noncomputable def tFV (te : TE) : TE := fun σ H Q => te σ H fun v H1 => (∃ x, v = .str x ∧ x.length ≤ sizeLine ∧ Q (.str x) H1) ∨ ∃ i : Int, v = .int i ∧ i.natAbs.log2 < 1920 ∧ Q (.str (toString i)) H1
noncomputable def tFVr (te : TE) : TE := fun σ H Q => te σ H fun v H1 => ∃ x, v = .str x ∧ (reprText x).length ≤ sizeLine ∧ Q (.str (reprText x)) H1
noncomputable def PJ (X : Cx) (es : List Expr) (t : Str → TE) : Prop :=
  ∀ (pins : List (Addr × Obj)) (s : Shared) (σ : St) (H : Hp) (Q : VK) (acc : Str), Inv X pins σ H s → t acc σ H Q → wpAny (model X.prog X.w) X.A (joinParts acc (evalEach es X.env)) (EP X pins σ Q) X.xe s
noncomputable def tJ0 : Str → TE := fun acc _ H Q => acc.length ≤ sizeLine ∧ Q (.str acc) H
noncomputable def tJ (te : TE) (t : Str → TE) : Str → TE := fun acc σ H Q => te σ H fun v H1 => ∃ y, v = .str y ∧ (acc ++ y).length ≤ sizeLine ∧ t (acc ++ y) σ H1 Q
end
end L2.Internal
namespace L2.Internal
open PySem PySem.Spec PyProof.Rows
section
variable {X : Cx}
end
inductive Dt where
  | flat (v : V)
  | tup (l : List Dt)
  | lst (l : List Dt)
mutual
inductive At (K : PySem.W.Frag) (H : Hp) : V → Dt → Prop where
  | flat {v : V} (h : flatV v = true) : At K H v (.flat v)
  | tup {a : Addr} {xs : List V} {ds : List Dt} (h : SqT K H a xs) (hs : Ats K H xs ds) : At K H (.ref a) (.tup ds)
  | lst {a : Addr} {xs : List V} {ds : List Dt} (h : SqL K H a xs) (hs : Ats K H xs ds) : At K H (.ref a) (.lst ds)
inductive Ats (K : PySem.W.Frag) (H : Hp) : List V → List Dt → Prop where
  | nil : Ats K H [] []
  | cons {x : V} {d : Dt} {xs : List V} {ds : List Dt} (h : At K H x d) (hs : Ats K H xs ds) : Ats K H (x :: xs) (d :: ds)
end
mutual
noncomputable def eqD : Dt → Dt → Bool
  | .flat a, .flat b => eqV a b
  | .tup l, .tup m => eqDs l m
  | .lst l, .lst m => eqDs l m
  | _, _ => false
noncomputable def eqDs : List Dt → List Dt → Bool
  | [], [] => true
  | x :: xs, y :: ys => eqD x y && eqDs xs ys
  | _, _ => false
end
mutual
noncomputable def cmpD : Dt → Dt → Bool
  | .flat _, .flat _ => true
  | .tup l, .tup m => cmpDs l m
  | .lst l, .lst m => if l.length = m.length then cmpDs l m else true
  | _, _ => false
noncomputable def cmpDs : List Dt → List Dt → Bool
  | x :: xs, y :: ys => cmpD x y && cmpDs xs ys
  | _, _ => true
end
mutual
noncomputable def depD : Dt → Nat
  | .flat _ => 0
  | .tup l => depDs l + 1
  | .lst l => depDs l + 1
noncomputable def depDs : List Dt → Nat
  | [] => 0
  | x :: xs => max (depD x) (depDs xs)
end
noncomputable def eqDat (l m : List Dt) (j : Nat) : Bool := match l[j]?, m[j]? with
  | some a, some b => eqD a b
  | _, _ => false
section
variable {X : Cx} {pins : List (Addr × Obj)} {σ : St} {H : Hp} {s : Shared}
noncomputable def Els (K : PySem.W.Frag) (H : Hp) (A : Around) (s : Shared) (ds es : List Dt) : Prop :=
  ∀ (j : Nat) (d1 d2 : Dt) (x y : V) (u v : Value), ds[j]? = some d1 → es[j]? = some d2 → RelV x u → RelV y v → At K H x d1 → At K H y d2 → SeqAt.EqAt A s u v (eqD d1 d2)
noncomputable def rEqD (K : PySem.W.Frag) (neg : Bool) : R2 := fun x y H Q => ∃ a b d e, x = .ref a ∧ y = .ref b ∧ At K H x d ∧ At K H y e ∧ cmpD d e = true ∧ depD d ≤ 100 ∧ Q (.bl (if neg then !eqD d e else eqD d e)) H
end
section
variable {X : Cx}
end
end L2.Internal
namespace L2.Internal
open PySem PySem.Spec PyProof.Rows
noncomputable def KDict (P : Program) (w : World) (K : PySem.W.Frag) (a : Addr) (kvs : List (Key × V)) : Prop := (a == sysModules) = false ∧ ∃ vs, KV kvs vs ∧ ∀ h : Heap, K.In h → h.DictOf (mixKind P w) a vs
noncomputable def tKNotIn (a : Addr) (kvs : List (Key × V)) (ty td : TE) : TE := fun σ H Q => ty σ H fun y H1 => td σ H1 fun x H2 => ∃ k, x = .ref a ∧ y = kV k ∧ Q (.bl (!(valV kvs k).isSome)) H2
noncomputable def tKGet (a : Addr) (kvs : List (Key × V)) (td ty : TE) : TE := fun σ H Q => td σ H fun x H1 => ty σ H1 fun y H2 => ∃ k v, x = .ref a ∧ y = kV k ∧ valV kvs k = some v ∧ Q v H2
section
variable {X : Cx} {o i : Expr} {pos : Pos} {td ty : TE} {a : Addr} {kvs : List (Key × V)}
end
end L2.Internal
namespace L2.Internal
open PySem PySem.Spec PyProof.Rows
section
variable {X : Cx}
noncomputable def repS (x : Str) (n : Nat) : Str := ⟨(List.replicate n x.cps).foldl (· ++ ·) #[]⟩
end
section
variable {X : Cx} {k : Nat} {f Y : Addr} {fd : FuncData} {ps : List Str} {sp : Sp} {dvs : List V} {ds : List Value} {x y n : Str} {p pos pos' py hpos tpos pn : Pos} {e : Expr} {es : List Expr} {t : TA} {b₀ : Stmt} {body : List Stmt} {tb : TS} {i : Nat}
noncomputable def tTrySet (K : PySem.W.Frag) (Y : Addr) (sp : Sp) (dvs : List V) (i : Nat) (t : TA) (tb : TS) : TS := fun D σ H => t σ H fun vs H1 => sp (vs ++ dvs) H1 (fun v H2 => D.nx (σ.set i (some v)) H2)
  (fun cls _ H2 => PySem.W.exmOne K cls (.ref Y) = some true ∧ tb D σ H2)
end
end L2.Internal
namespace L2.Internal
end L2.Internal
namespace L2.Internal
open PySem PySem.Spec PyProof.Rows
noncomputable def intsOf : List Expr → Option (List Int)
  | [] => some []
  | .Constant (.int x) _ _ :: r => (intsOf r).map (x :: ·)
  | _ => none
noncomputable def tInts (xs : List Int) : TA := fun _ H Q => Q (xs.map V.int) H
end L2.Internal
namespace L2.Internal
open PySem PySem.Spec PyProof.Rows

section
variable {X : Cx} {pins : List (Addr × Obj)} {σ : St} {H : Hp} {s : Shared} {h' : Heap}
theorem Inv.turnedL {t' : Nat} {ch : List Addr} (I : Inv X pins σ H s) (k : ∀ b o, b ∉ ch → s.heap.get? b = some o → h'.get? b = some o) (hf : ∀ b ∈ ch, FpOk X pins H b) : Inv X pins σ H { s with heap := h', toks := t' } := by
  have nit : ∀ b u, H b = some u → b ∉ ch := fun b u e z => by
    have q := (hf b z).1
    rw [q] at e; cases e
  refine I.step (g' := s.gens) (d' := s.drawn) (ch := ch) (fun b hb => ?_) (fun b o _ _ hc e _ => k b o hc e) (fun b o _ _ hc e _ => ⟨o.slots, k b o hc e⟩) (fun _ _ _ _ n => n)
    (fun b o hc e => ⟨o, k b o hc e⟩) (fun _ _ e => e) (fun _ _ _ e => e) (fun b ps e => ⟨#[], by rw [e]; simp⟩) (fun m hm => ?_) (fun b u e => ?_) I.bare
  · obtain ⟨_, f1, _, f3, f4, f5⟩ := hf b hb
    exact ⟨f3, f1, f4, f5⟩
  · obtain ⟨o, es, ep, ho, r⟩ := hm
    exact ⟨o, es, ep, k _ o (fun z => (hf _ z).2.1 rfl) ho, r⟩
  · refine (I.hok b u e).stay (fun c v hc q => k c v ?_ q) (fun _ q => q) fun _ _ q => q
    rcases hc with z | z
    · rw [z]; exact nit b u e
    · exact nit c _ z
theorem Inv.pairNew {T : Addr} {h : Heap} {tk : Nat} {ux uy : Value} {x y : V} (I : Inv X pins σ H s) (hT : s.heap.objs.size ≤ T) (J : Inv X pins σ H { s with heap := h, toks := tk }) (ht : Tup0 h T #[ux, uy]) (rx : RelV x ux) (ry : RelV y uy) :
    H T = none ∧ Inv X pins σ (upd H T (.tup [x, y])) { s with heap := h, toks := tk } := by
  have f := I.fpOk (H' := H) hT (I.hok.fresh hT)
  refine ⟨f.1, J.track f.1 ?_ f.2.1 f.2.2.2.2.1 f.2.2.2.2.2 ⟨by show 2 ≤ sizeLine; decide, [ux, uy], .cons rx (.cons ry .nil), ht⟩⟩
  cases q : X.s₀.heap.get? T with
  | none => rfl
  | some o => exact absurd (Nat.lt_of_lt_of_le (Heap.lt_size q) (Nat.le_trans I.sz hT)) (Nat.lt_irrefl _)
end

noncomputable def Itz (K : PySem.W.Frag) (a b : Addr) : It :=
  ⟨fun i H => ∃ xs ys x y, SqL K H a xs ∧ SqL K H b ys ∧ xs[i]? = some x ∧ ys[i]? = some y,
   fun i H v H' => ∃ T x y, v = .ref T ∧ H T = none ∧ H' = upd H T (.tup [x, y]) ∧ (∀ xs, SqL K H a xs → xs[i]? = some x) ∧ ∀ ys, SqL K H b ys → ys[i]? = some y,
   fun i H => ∃ xs ys, SqL K H a xs ∧ SqL K H b ys ∧ i = min xs.length ys.length⟩
noncomputable def ZSt (z TI TO i1 i2 a b : Addr) (i : Nat) (h : Heap) : Prop := IsZip h z TI TO .none ∧ IsPair h TI (.ref i1) (.ref i2) ∧ (∃ u v, IsPair h TO u v) ∧ h.IsListIter i1 a i ∧ h.IsListIter i2 b i
theorem turn_zip {P : Program} {w : World} {K : PySem.W.Frag} {es : List Expr} {kk : Nat} {tp : Pos} {a b z TI TO i1 i2 : Addr} (D : ZipApart z TI TO i1 i2 a b) : Turn P w K (.Tuple es kk tp) (Itz K a b) [z, TI, TO, i1, i2] z (ZSt z TI TO i1 i2 a b) where
  mem := by simp
  obj := fun i h st c hc => by
    obtain ⟨g1, g2, ⟨u, v, g3⟩, ⟨o4, g4, _, d4⟩, ⟨o5, g5, _, d5⟩⟩ := st
    simp only [List.mem_cons, List.not_mem_nil, or_false] at hc
    rcases hc with e | e | e | e | e <;> subst e
    · exact ⟨_, g1, fun v q => nomatch q⟩
    · exact ⟨_, g2, fun v q => nomatch q⟩
    · exact ⟨_, g3, fun v q => nomatch q⟩
    · exact ⟨_, g4, fun v q => by rw [d4] at q; cases q⟩
    · exact ⟨_, g5, fun v q => by rw [d5] at q; cases q⟩
  keep := fun i h h' st k => by
    obtain ⟨g1, g2, ⟨u, v, g3⟩, g4, g5⟩ := st
    exact ⟨k z (by simp) _ g1, k TI (by simp) _ g2, ⟨u, v, k TO (by simp) _ g3⟩, g4.at fun o e => k i1 (by simp) o e, g5.at fun o e => k i2 (by simp) o e⟩
  item := by
    intro X hP hw hK hc i pins s σ H E I hf st hg
    subst hP hw hK
    obtain ⟨xs, ys, x, y, qx, qy, ex, ey⟩ := hg
    obtain ⟨i1s, r1, p1, z1⟩ := I.list qx
    obtain ⟨i2s, r2, p2, z2⟩ := I.list qy
    obtain ⟨g1, g2, g3, g4, g5⟩ := st
    obtain ⟨u3, v3, g3'⟩ := g3
    obtain ⟨ux, hux, rr1⟩ := r1.get ex
    obtain ⟨uy, huy, rr2⟩ := r2.get ey
    have hw : ∀ c ∈ [z, TO, i1, i2], FpOk X pins H c := fun c hc => hf c (by simp only [List.mem_cons, List.not_mem_nil, or_false] at hc ⊢; rcases hc with h | h | h | h <;> simp [h])
    refine wpAny_pyNext_zip_item D g1 g2 g3' g4 g5 p1.isList p2.isList (x := ux) (y := uy) (by simpa using hux) (by simpa using huy) fun h1 a1 a2 a3 a4 a5 a6 hk => ?_
    have kk1 : ∀ c o, c ∉ [z, TO, i1, i2] → s.heap.get? c = some o → h1.get? c = some o := fun c o hc e => hk c o (fun q => hc (by simp [q])) (fun q => hc (by simp [q])) (fun q => hc (by simp [q])) (fun q => hc (by simp [q])) e
    have J1 : Inv X pins σ H { s with heap := h1, toks := s.toks } := I.turnedL kk1 hw
    refine ⟨.ref s.heap.objs.size, rfl, wpAny_letOwnedTupleGo_zip a1 fun h2 a1' sb => ?_⟩
    have J2 : Inv X pins σ H { s with heap := h2, toks := s.toks } := Inv.turnedL (s := { s with heap := h1, toks := s.toks }) (h' := h2) (t' := s.toks) (ch := [z]) J1 (fun c o hc e => sb.extBut _ _ (fun q => hc (by simp [q])) e) fun c hc => hf c (by simp only [List.mem_cons, List.not_mem_nil, or_false] at hc ⊢; simp [hc])
    have zlt : z < s.heap.objs.size := Heap.lt_size g1
    have ht2 : Tup0 h2 s.heap.objs.size #[ux, uy] := ⟨_, sb.extBut _ _ (Nat.ne_of_gt zlt) a5, rfl, _, rfl, rfl⟩
    obtain ⟨fT, J3⟩ := I.pairNew (Nat.le_refl _) J2 ht2 rr1 rr2
    refine ⟨.ref s.heap.objs.size, _, J3, rfl, ⟨_, x, y, rfl, fT, rfl, fun l hl => by rw [I.list_inj hl qx]; exact ex, fun l hl => by rw [I.list_inj hl qy]; exact ey⟩,
      ⟨a1', sb.extBut _ _ D.TIz (hk _ _ D.TIz D.TITO D.TIi1 D.TIi2 g2), ⟨_, _, sb.extBut _ _ D.TOz a2⟩, a3.extBut sb.extBut D.i1z, a4.extBut sb.extBut D.i2z⟩, fun c hc => ?_⟩
    rw [upd_ne (fun q => ?_)]
    · exact (hf c hc).1
    · have lt : c < s.heap.objs.size := by
        obtain ⟨o4, e4, _⟩ := g4
        obtain ⟨o5, e5, _⟩ := g5
        simp only [List.mem_cons, List.not_mem_nil, or_false] at hc
        rcases hc with e | e | e | e | e <;> subst e
        · exact Heap.lt_size g1
        · exact Heap.lt_size g2
        · exact Heap.lt_size g3'
        · exact Heap.lt_size e4
        · exact Heap.lt_size e5
      exact absurd lt (by rw [q]; exact Nat.lt_irrefl _)
  done := by
    intro X hP hw hK hc i pins s σ H E I hf st hg
    subst hP hw hK
    obtain ⟨xs, ys, qx, qy, ei⟩ := hg
    obtain ⟨i1s, r1, p1, z1⟩ := I.list qx
    obtain ⟨i2s, r2, p2, z2⟩ := I.list qy
    obtain ⟨g1, g2, g3, g4, g5⟩ := st
    have W := WalksT.zip2 (prog := X.prog) (w := X.w) (I.ok.hd hc) z TI TO i1 i2 a b D i1s.toArray i2s.toArray
    have l1 := r1.length
    have l2 := r2.length
    have e : i = min i1s.toArray.size i2s.toArray.size := by simp only [List.size_toArray]; omega
    subst e
    exact W.done s _ _ ⟨g1, g2, g3, g4, g5, p1.isList, p2.isList⟩ fun h1 tk hk => ⟨rfl, I.turnedL hk fun c hc => hf c (by simp only [List.mem_cons, List.not_mem_nil, or_false] at hc ⊢; rcases hc with h | h | h | h <;> simp [h])⟩
  self := fun _ _ _ _ _ st h => wpAny_pyIter_zip st.1 h
theorem bt_zip : bootBuiltins "zip" = some (.type "zip") := by decide +kernel
theorem bt_enumerate : bootBuiltins "enumerate" = some (.type "enumerate") := by decide +kernel
theorem SqL.old {X : Cx} {pins : List (Addr × Obj)} {σ : St} {H : Hp} {s : Shared} {a : Addr} {xs : List V} (I : Inv X pins σ H s) (h : SqL X.K H a xs) : a < s.heap.objs.size := by
  obtain ⟨its, _, p, _⟩ := I.list h
  obtain ⟨o, e, _⟩ := p.isList
  exact Heap.lt_size e
noncomputable def iZip (K : PySem.W.Frag) (ta : TA) : TI := fun σ H R => ta σ H fun vs H1 => ∃ a b, vs = [.ref a, .ref b] ∧ (∃ xs, SqL K H1 a xs) ∧ (∃ ys, SqL K H1 b ys) ∧ R (Itz K a b) H1
section
variable {X : Cx}
theorem pi_zip {es : List Expr} {kk : Nat} {tp : Pos} {a b : Expr} {ta : TA} {p pos : Pos} (hg : Gl X "zip") (hm : X.mg "zip" = none) (ha : PA X [a, b] ta) (hs : autoParam (starEach [a, b] X.env = [(false, eval a X.env), (false, eval b X.env)]) L2.Internal.auR._auto_1) (hs2 : autoParam (starEach [b] X.env = [(false, eval b X.env)]) L2.Internal.auR._auto_1) :
    PI X (.Tuple es kk tp) (.Call (.Name "zip" p) [a, b] [] pos) (iZip X.K ta) := by
  intro pins s σ H R I h
  refine Call_ (ld_blt I hg hm bt_zip (PyProof.Rows.callWith_type1 (thn (ha pos pins s σ H _ I h) fun us s1 ⟨vs, H1, I1, r1, q1⟩ => ?_) (by rw [hs, hs2]) (by rw [hs2]; rfl)))
  obtain ⟨l1, l2, e, ⟨xs, q1⟩, ⟨ys, q2⟩, q⟩ := q1
  subst e
  obtain ⟨u, v, rfl, ru, rv⟩ := vals2 r1
  cases ru
  cases rv
  obtain ⟨i1s, w1, p1, z1⟩ := I1.list q1
  obtain ⟨i2s, w2, p2, z2⟩ := I1.list q2
  have o1 : @LT.lt Nat _ l1 s1.heap.objs.size := SqL.old I1 q1
  have o2 : @LT.lt Nat _ l2 s1.heap.objs.size := SqL.old I1 q2
  refine call_zip_2 p1.isList p2.isList fun h1 hz hTI hTO hi1 hi2 hsz hk => wpAny_pyIter_zip hz ?_
  have D : ZipApart (s1.heap.objs.size + 4) (s1.heap.objs.size + 2) (s1.heap.objs.size + 3) s1.heap.objs.size (s1.heap.objs.size + 1) l1 l2 := by constructor <;> exact fun (h : @Eq Nat _ _) => by omega
  refine ⟨_, _, _, _, H1, rfl, I1.kept (t' := s1.toks) hk, turn_zip D, ⟨hz, hTI, ⟨_, _, hTO⟩, hi1, hi2⟩, fun c hc => ?_, q⟩
  have ge : s1.heap.objs.size ≤ c := by
    simp only [List.mem_cons, List.not_mem_nil, or_false] at hc
    rcases hc with h | h | h | h | h <;> rw [h] <;> first | exact Nat.le_refl _ | exact Nat.le_add_right _ _
  exact I1.fpOk ge (I1.hok.fresh ge)
end

noncomputable def Ite (K : PySem.W.Frag) (a : Addr) : It :=
  ⟨fun i H => ∃ xs x, SqL K H a xs ∧ xs[i]? = some x,
   fun i H v H' => ∃ T x, v = .ref T ∧ H T = none ∧ H' = upd H T (.tup [.int (i : Int), x]) ∧ ∀ xs, SqL K H a xs → xs[i]? = some x,
   fun i H => ∃ xs, SqL K H a xs ∧ i = xs.length⟩
noncomputable def ESt (e it a : Addr) (i : Nat) (h : Heap) : Prop := (∃ old, IsEnum h e it i old) ∧ h.IsListIter it a i
theorem turn_enum {P : Program} {w : World} {K : PySem.W.Frag} {es : List Expr} {kk : Nat} {tp : Pos} {a e it : Addr} (h1 : e ≠ it) (h2 : a ≠ e) (h3 : a ≠ it) : Turn P w K (.Tuple es kk tp) (Ite K a) [e, it] e (ESt e it a) where
  mem := by simp
  obj := fun i h st c hc => by
    obtain ⟨⟨old, g1⟩, ⟨o4, g4, _, d4⟩⟩ := st
    simp only [List.mem_cons, List.not_mem_nil, or_false] at hc
    rcases hc with q | q <;> subst q
    · exact ⟨_, g1, fun v q => nomatch q⟩
    · exact ⟨_, g4, fun v q => by rw [d4] at q; cases q⟩
  keep := fun i h h' st k => by
    obtain ⟨⟨old, g1⟩, g4⟩ := st
    exact ⟨⟨old, k e (by simp) _ g1⟩, g4.at fun o q => k it (by simp) o q⟩
  item := by
    intro X hP hw hK hc i pins s σ H E I hf st hg
    subst hP hw hK
    obtain ⟨xs, x, qx, ex⟩ := hg
    obtain ⟨i1s, r1, p1, z1⟩ := I.list qx
    obtain ⟨g1, g4⟩ := st
    obtain ⟨old, g1'⟩ := g1
    obtain ⟨ux, hux, rr1⟩ := r1.get ex
    have lte : e < s.heap.objs.size := Heap.lt_size g1'
    refine wpAny_pyNext_enum_item g1' g4 p1.isList (x := ux) (by simpa using hux) h1 fun k1 ho hit' hT hsz hk => ?_
    have kk1 : ∀ c o, c ∉ [e, it] → s.heap.get? c = some o → k1.get? c = some o := fun c o hc q => hk c o (fun z => hc (by simp [z])) (fun z => hc (by simp [z])) q
    have J1 : Inv X pins σ H { s with heap := k1, toks := s.toks + 1 } := I.turnedL kk1 hf
    refine ⟨.ref s.heap.objs.size, rfl, wpAny_letOwnedTupleGo_enum ho fun k2 he' sb => ?_⟩
    have J2 : Inv X pins σ H { s with heap := k2, toks := s.toks + 1 } := Inv.turnedL (s := { s with heap := k1, toks := s.toks + 1 }) (h' := k2) (t' := s.toks + 1) (ch := [e]) J1 (fun c o hc q => (sb.2 c (fun z => hc (by simp [z]))).trans q) fun c hc => hf c (by simp only [List.mem_cons, List.not_mem_nil, or_false] at hc ⊢; simp [hc])
    have ht2 : Tup0 k2 s.heap.objs.size #[.int i s.toks, ux] := ⟨_, (sb.2 _ (Nat.ne_of_gt lte)).trans hT, rfl, _, rfl, rfl⟩
    obtain ⟨fT, J3⟩ := I.pairNew (x := .int (i : Int)) (Nat.le_refl _) J2 ht2 ⟨s.toks, rfl⟩ rr1
    refine ⟨.ref s.heap.objs.size, _, J3, rfl, ⟨_, x, rfl, fT, rfl, fun l hl => by rw [I.list_inj hl qx]; exact ex⟩, ⟨⟨_, by simpa using he'⟩, hit'.at fun o y => (sb.2 it h1.symm).trans y⟩, fun c hc => ?_⟩
    rw [upd_ne (fun q => ?_)]
    · exact (hf c hc).1
    · have lt : c < s.heap.objs.size := by
        obtain ⟨o4, e4, _⟩ := g4
        simp only [List.mem_cons, List.not_mem_nil, or_false] at hc
        rcases hc with q | q <;> subst q
        · exact lte
        · exact Heap.lt_size e4
      exact absurd lt (by rw [q]; exact Nat.lt_irrefl _)
  done := by
    intro X hP hw hK hc i pins s σ H E I hf st hg
    subst hP hw hK
    obtain ⟨xs, qx, ei⟩ := hg
    obtain ⟨i1s, r1, p1, z1⟩ := I.list qx
    obtain ⟨g1, g4⟩ := st
    have W := WalksT.enumerate (prog := X.prog) (w := X.w) (I.ok.hd hc) e it a h1 h2 h3 i1s.toArray
    have l1 := r1.length
    have q : i = i1s.toArray.size := by simp only [List.size_toArray]; omega
    subst q
    exact W.done s _ _ ⟨g1, g4, p1.isList⟩ fun h1 tk hk => ⟨rfl, I.turnedL hk hf⟩
  self := fun _ _ _ _ _ st h => by
    obtain ⟨⟨old, g1⟩, _⟩ := st
    exact wpAny_pyIter_enum g1 h
noncomputable def iEnum (K : PySem.W.Frag) (ta : TA) : TI := fun σ H R => ta σ H fun vs H1 => ∃ a, vs = [.ref a] ∧ (∃ xs, SqL K H1 a xs) ∧ R (Ite K a) H1
section
variable {X : Cx}
theorem pi_enum {es : List Expr} {kk : Nat} {tp : Pos} {a : Expr} {ta : TA} {p pos : Pos} (hg : Gl X "enumerate") (hm : X.mg "enumerate" = none) (ha : PA X [a] ta) (hs : autoParam (starEach [a] X.env = [(false, eval a X.env)]) L2.Internal.auR._auto_1) :
    PI X (.Tuple es kk tp) (.Call (.Name "enumerate" p) [a] [] pos) (iEnum X.K ta) := by
  intro pins s σ H R I h
  refine Call_ (ld_blt I hg hm bt_enumerate (PyProof.Rows.callWith_type1 (thn (ha pos pins s σ H _ I h) fun us s1 ⟨vs, H1, I1, r1, q1⟩ => ?_) hs rfl))
  obtain ⟨l1, e, ⟨xs, q1⟩, q⟩ := q1
  subst e
  obtain ⟨u, rfl, ru⟩ := vals1 r1
  cases ru
  obtain ⟨i1s, w1, p1, z1⟩ := I1.list q1
  have o1 : @LT.lt Nat _ l1 s1.heap.objs.size := SqL.old I1 q1
  refine call_enumerate_list p1.isList fun h1 hE hi1 hsz hk => wpAny_pyIter_enum hE ?_
  refine ⟨_, _, _, _, H1, rfl, I1.kept (t' := s1.toks) hk, turn_enum (fun (h : @Eq Nat _ _) => by omega) (fun (h : @Eq Nat _ _) => by omega) (fun (h : @Eq Nat _ _) => by omega), ⟨⟨_, hE⟩, hi1⟩, fun c hc => ?_, q⟩
  have ge : s1.heap.objs.size ≤ c := by
    simp only [List.mem_cons, List.not_mem_nil, or_false] at hc
    rcases hc with h | h <;> rw [h] <;> first | exact Nat.le_refl _ | exact Nat.le_add_right _ _
  exact I1.fpOk ge (I1.hok.fresh ge)
end

noncomputable def LcG (J : It) (g : TG) (te : TE) (Q : VK) (τ : St) (H1 : Hp) (D : Addr) : Prop :=
  ∃ W : Nat → Nat → St → Hp → Prop, (∃ m, W 0 m τ (upd H1 D (.lst []))) ∧ ∀ k m σ' H2, W k m σ' H2 →
    (J.stop k H2 ∧ Q (.ref D) H2) ∨ (J.go k H2 ∧ ∀ v H3, J.yld k H2 v H3 → g v σ' H3 fun σ4 H4 => te σ4 H4 fun y H5 => ∃ xs, H5 D = some (.lst xs) ∧ xs.length < sizeLine ∧ ∃ m', m' < m ∧ W (k + 1) m' σ4 (upd H5 D (.lst (xs ++ [y]))))
noncomputable def tLG (wi : TI) (f : St → St) (g : TG) (te : TE) : TE := fun σ H Q => wi σ H fun J H1 => ∀ D, H1 D = none → LcG J g te Q (f σ) H1 D
theorem pe_lcP {X : Cx} {elt iter : Expr} {es : List Expr} {kk : Nat} {tp : Pos} {x : Str} {scope : Scope} {pos : Pos} {N : List Str} {cl : List (Str × Addr)} {f : St → St} {i : Nat} {wi : TI} {g : TG} {te : TE}
    (hc : X.calm = true) (B : BlkOk X N scope cl f i x) (hi : PI X (.Tuple es kk tp) iter wi)
    (hg : ∀ C s₀ H₀ ex pins, PG (blk X N scope cl C s₀ H₀ ex pins) (.Tuple es kk tp) g) (hte : ∀ C s₀ H₀ ex pins, PE (blk X N scope cl C s₀ H₀ ex pins) elt te)
    (hs : autoParam (∀ x, foldedSetIterable iter X.env x = pure x) L2.Internal.auI._auto_1) : PE X (.ListComp elt [⟨.Tuple es kk tp, iter, [], 0⟩] scope pos) (tLG wi f g te) := by
  intro pins s σ H Q I h
  rw [eval_ListComp]
  refine wpAny_comprehension_free (use := none) rfl hs B.clos B.kind B.names (thn (hi pins s σ H _ I h) fun xv s1 h1 => thn h1 fun itv s2 h2 => ?_)
  obtain ⟨it, fp, tn, J, H2, rfl, I2, T, st2, f2, q⟩ := h2
  have hD : H2 s2.heap.objs.size = none := I2.fresh
  obtain ⟨W, ⟨m0, w0⟩, turn⟩ := q _ hD
  refine wpAny_newObj_type (wpAny_newFunctionEnv B.cell (by intro y hy; simp at hy) (fun h₁ hns₁ hsb₁ => ?_) B.kind)
  have I3 : Inv X pins σ (upd H2 s2.heap.objs.size (.lst [])) { s2 with heap := s2.heap.push { cls := .type "list", data := .seq ([] : List Value).toArray } } := I2.lnew (its := []) (ys := []) (t' := s2.toks) .nil (Nat.zero_le _)
  have lt2 : ∀ b ∈ fp, b < s2.heap.objs.size := fun b hb => by
    obtain ⟨o, ho, _⟩ := T.obj _ _ st2 b hb
    exact Heap.lt_size ho
  have fp3 : ∀ b ∈ fp, FpOk X pins (upd H2 s2.heap.objs.size (.lst [])) b := fun b hb => by
    refine ⟨?_, (f2 b hb).2⟩
    rw [upd_ne (Nat.ne_of_lt (lt2 b hb))]
    exact (f2 b hb).1
  generalize hs3 : ({ s2 with heap := s2.heap.push { cls := .type "list", data := .seq ([] : List Value).toArray } } : Shared) = s3 at I3 hns₁ hsb₁ ⊢
  have eh : s2.heap.push { cls := .type "list", data := .seq ([] : List Value).toArray } = s3.heap := by rw [← hs3]
  have lt3 : ∀ b ∈ fp, b < s3.heap.objs.size := fun b hb => by
    rw [← eh, Heap.size_push]
    exact Nat.lt_succ_of_lt (lt2 b hb)
  have old : ∀ b o, s3.heap.get? b = some o → h₁.get? b = some o := fun b o e => hsb₁.extBut b o (Nat.ne_of_lt (Heap.lt_size e)) (Heap.get?_push_of_some _ e)
  have I4 := inv_blk (tk := s3.toks + ([] : List (Str × Value)).length) B I3 (ex := fp) (fun b hb => ⟨fp3 b hb, lt3 b hb⟩) old hns₁
  have st4 : tn 0 h₁ := T.keep _ _ _ st2 fun b _ o e => old b o (by rw [← eh]; exact Heap.get?_push_of_some _ e)
  have fpB : ∀ {H' : Hp}, (∀ b ∈ fp, H' b = none) → ∀ b ∈ fp, FpOk (blk X N scope cl s3.heap.objs.size s3 (upd H2 s2.heap.objs.size (.lst [])) fp pins) [] H' b := fun {H'} hn b hb => by
    obtain ⟨_, g2, g3, g4, g5, g6⟩ := f2 b hb
    refine ⟨hn b hb, Nat.ne_of_lt (lt3 b hb), fun z => (List.mem_cons.mp (I3.stkSub b z)).elim g2 g3, .inl hb, fun y c e => g5 y c (B.lk y c e), fun p hp => ?_⟩
    rw [List.append_nil] at hp
    exact g6 p hp
  have loop : ∀ s4 : Shared, s4 = { s3 with heap := h₁, toks := s3.toks + ([] : List (Str × Value)).length } →
      codeAny (model X.prog X.w) X.A (.compLoop (.ListComp elt [⟨.Tuple es kk tp, iter, [], 0⟩] scope pos) 0 (.ref it) (.ref s2.heap.objs.size) (compEnvC scope cl s3.heap.objs.size X.env))
        (compPost (model X.prog X.w) X.A X.xe none (EP X pins σ Q) (.ref s2.heap.objs.size) s3.heap.objs.size) s4 := by
    rintro s4 rfl
    refine PyProof.Rows.LCp.codeAny_compLoop_pair (I := fun n s' => ∃ k σ' H', Inv (blk X N scope cl s3.heap.objs.size s3 (upd H2 s2.heap.objs.size (.lst [])) fp pins) [] σ' H' s' ∧ tn k s'.heap ∧ (∀ b ∈ fp, H' b = none) ∧ W k n σ' H') ?_ m0
      ⟨0, f σ, _, I4, st4, fun b hb => (fp3 b hb).1, w0⟩
    rintro n s5 ⟨k, σ5, H5, I5, st5, fr5, w5⟩
    rcases turn k n σ5 H5 w5 with ⟨stop, qn⟩ | ⟨go, step⟩
    · refine wpAny_mono (T.done (blk X N scope cl s3.heap.objs.size s3 (upd H2 s2.heap.objs.size (.lst [])) fp pins) rfl rfl rfl hc k [] s5 σ5 H5 _ I5 (fpB fr5) st5 stop) (fun r s6 h6 => ?_) fun _ _ z => z
      obtain ⟨hr, I6⟩ := h6
      subst hr
      obtain ⟨m6, hn6, _⟩ := id I6.loc
      refine ⟨m6, hn6, fun h' sb => ?_⟩
      have nC : ∀ b o, s3.heap.get? b = some o → b ≠ s3.heap.objs.size := fun b o e => Nat.ne_of_lt (Heap.lt_size e)
      have u6 : Un (frs X.stack) fp (upd H2 s2.heap.objs.size (.lst [])) H5 s3.heap s6.heap := I6.base
      have u7 : Un (frs X.stack) fp (upd H2 s2.heap.objs.size (.lst [])) H5 s3.heap h' :=
        ⟨fun b o e z1 z2 z3 => (sb.2 b (nC b o e)).trans (u6.keep b o e z1 z2 z3), fun b o e z1 z2 z3 => by
          obtain ⟨sl, e1⟩ := u6.slot b o e z1 z2 z3
          exact ⟨sl, (sb.2 b (nC b o e)).trans e1⟩, u6.free, fun b o e z => by
          obtain ⟨o', e1⟩ := u6.there b o e z
          exact ⟨o', (sb.2 b (nC b o e)).trans e1⟩, u6.tups, u6.frzs, u6.tbls⟩
      have hok7 : HOk X.prog X.w H5 h' := fun b o e => (I6.hok b o e).stay (fun c w' hcc e1 => (sb.2 c (fun z => by
          have fr : H5 s3.heap.objs.size = none := I6.free
          rcases hcc with y | y
          · rw [← y, z, fr] at e; cases e
          · rw [z, fr] at y; cases y)).trans e1) (fun _ z => z) fun _ _ z => z
      have I7 : Inv X pins σ H5 { s6 with heap := h' } := I3.call' (s' := { s6 with heap := h' }) (ch := fp) I6.os u7 hok7 I6.bare fun b hb => by
        obtain ⟨_, g2, g3, g4, g5, g6⟩ := f2 b hb
        exact ⟨g4, g2, g5, g6⟩
      exact ⟨.ref s2.heap.objs.size, H5, I7, rfl, qn⟩
    · refine wpAny_mono (T.item (blk X N scope cl s3.heap.objs.size s3 (upd H2 s2.heap.objs.size (.lst [])) fp pins) rfl rfl rfl hc k [] s5 σ5 H5 _ I5 (fpB fr5) st5 go) (fun r s6 h6 => ?_) fun _ _ z => z
      obtain ⟨u, hr, h6⟩ := h6
      subst hr
      refine wpAny_mono h6 (fun _ s7 h7 => ?_) fun _ _ z => z
      obtain ⟨v, H7, I7, r7, y7, st7, fr7⟩ := h7
      have I7' := I7.pinned (fpB fr7) (T.obj _ _ st7)
      have back : ∀ {σ9 : St} {H9 : Hp} {s9 : Shared}, Inv (blk X N scope cl s3.heap.objs.size s3 (upd H2 s2.heap.objs.size (.lst [])) fp pins) ([] ++ pinsAt fp s7.heap) σ9 H9 s9 → (∃ m', m' < n ∧ W (k + 1) m' σ9 H9) →
          ∃ m', m' < n ∧ ∃ k σ' H', Inv (blk X N scope cl s3.heap.objs.size s3 (upd H2 s2.heap.objs.size (.lst [])) fp pins) [] σ' H' s9 ∧ tn k s9.heap ∧ (∀ b ∈ fp, H' b = none) ∧ W k m' σ' H' := fun {σ9 H9 s9} I9 q9 => by
        obtain ⟨m', hm, w9⟩ := q9
        refine ⟨m', hm, k + 1, σ9, H9, I9.unpinned, T.keep _ _ _ st7 fun b hb o e => (I9.pin (b, o) (List.mem_append_right _ (List.mem_append_right _ (mem_pinsAt hb e)))).1, fun b hb => ?_, w9⟩
        obtain ⟨o, e, d⟩ := T.obj _ _ st7 b hb
        exact (I9.pin (b, o) (List.mem_append_right _ (List.mem_append_right _ (mem_pinsAt hb e)))).2.1
      refine wpAny_mono (hg s3.heap.objs.size s3 (upd H2 s2.heap.objs.size (.lst [])) fp pins _ s7 σ5 H7 v u _ I7' r7 (step v H7 y7)) (fun _ s8 h8 => ?_) fun _ _ z => False.elim z
      obtain ⟨σ8, H8, I8, q8⟩ := h8
      refine wpAny_mono (hte _ _ _ _ _ _ s8 _ H8 _ I8 q8) (fun y s10 h10 => ?_) fun _ _ z => False.elim z
      obtain ⟨v10, H10, I10, r10, xs, hx10, hz, q10⟩ := h10
      refine wpAny_mono (mt_append (X := blk X N scope cl s3.heap.objs.size s3 (upd H2 s2.heap.objs.size (.lst [])) fp pins) _ s10 _ H10 (.ref s2.heap.objs.size) [v10] _ [y] (fun _ H11 => H11 = upd H10 s2.heap.objs.size (.lst (xs ++ [v10]))) I10 rfl (.cons r10 .nil) ⟨_, xs, v10, rfl, rfl, hx10, hz, rfl⟩) (fun _ s11 h11 => ?_) fun _ _ z => False.elim z
      obtain ⟨_, H11, I11, _, e11⟩ := h11
      subst e11
      exact back I11 q10
  exact codeAny_compStart_list (loop _ rfl) (T.self _ 0 _ _ _ st4 (loop _ rfl))
theorem blk02 {X : Cx} {scope : Scope} {x y : Str} (hk : scope.kind = .function) (hn : ∀ p ∈ scope.names, p.2 ≠ .cell ∧ p.2 ≠ .free) (hl : ∀ y ∈ scope.names, y.2 = .local → scope.names.lookup y.1 = some .local)
    (hx : scope.names.lookup x = some .local) (hxy : [x, y].Nodup) (hc : closureFor scope X.env = pure []) : BlkOk X [x, y] scope [] (fun _ => [none, none]) 0 x where
  kind := hk
  cell := fun y hy => (hn y hy).1
  names := hl
  clos := hc
  lk := fun y c h => by simp at h
  has := fun y h => by
    rcases h with h | h
    · obtain ⟨k0, e, z⟩ := lookup_relabel h
      have m := hn _ (PySem.mem_of_lookup e)
      rcases z with z | ⟨z, _⟩
      · exact absurd z.symm m.1
      · exact absurd z m.2
    · obtain ⟨k0, e, z⟩ := lookup_relabel h
      have m := hn _ (PySem.mem_of_lookup e)
      rcases z with z | ⟨z, _⟩
      · exact absurd z.symm m.2
      · exact absurd z m.2
  nd := hxy
  ix := rfl
  loc := hx
  len := fun _ _ => rfl
  val := fun σ k y v h1 h2 => by
    match k with
    | 0 => simp at h2
    | 1 => simp at h2
    | k + 2 => simp at h2

theorem lookup_cap {z : Str} : ∀ {cap : List (Str × Nat × Addr)}, z ∈ cap.map (·.1) → ∃ c, (cap.map fun p => (p.1, p.2.2)).lookup z = some c
  | [], h => by simp at h
  | p :: r, h => by
    cases e : z == p.1 with
    | true => exact ⟨p.2.2, by simp only [List.map_cons, List.lookup_cons, e]⟩
    | false =>
      have q : z ∈ r.map (·.1) := by
        rcases List.mem_cons.mp h with y | y
        · rw [y] at e; simp at e
        · exact y
      obtain ⟨c, hc⟩ := lookup_cap q
      exact ⟨c, by simp only [List.map_cons, List.lookup_cons, e]; exact hc⟩
theorem blkC {X : Cx} {scope : Scope} {x : Str} (ns : List Str) (cap : List (Str × Nat × Addr)) (hns : cap.map (·.1) = ns) (hk : scope.kind = .function) (hn : ∀ p ∈ scope.names, p.2 ≠ .cell ∧ (p.2 = .free → p.1 ∈ ns)) (hl : ∀ y ∈ scope.names, y.2 = .local → scope.names.lookup y.1 = some .local)
    (hx : scope.names.lookup x = some .local) (hnd : (x :: ns).Nodup) (hc : closureFor scope X.env = pure (cap.map fun p => (p.1, p.2.2))) (hok : X.env.scope.kind = .function)
    (h : ∀ p ∈ cap, scope.names.lookup p.1 = some .free ∧ X.env.cells.lookup p.1 = some p.2.2 ∧ X.env.scope.names.lookup p.1 = some .cell ∧ X.N[p.2.1]? = some p.1) :
    BlkOk X (x :: ns) scope (cap.map fun p => (p.1, p.2.2)) (fun σ => none :: cap.map fun p => σ.getD p.2.1 none) 0 x where
  kind := hk
  cell := fun y hy => (hn y hy).1
  names := hl
  clos := hc
  lk := fun z c q => by
    have m := PySem.mem_of_lookup q
    obtain ⟨p, hp, e⟩ := List.mem_map.mp m
    cases e
    exact (h p hp).2.1
  has := fun z q => by
    refine lookup_cap ?_
    rw [hns]
    rcases q with q | q
    · obtain ⟨k0, e, q⟩ := lookup_relabel q
      have m := hn _ (PySem.mem_of_lookup e)
      rcases q with q | ⟨q, _⟩
      · exact absurd q.symm m.1
      · exact m.2 q
    · obtain ⟨k0, e, q⟩ := lookup_relabel q
      have m := hn _ (PySem.mem_of_lookup e)
      rcases q with q | ⟨q, _⟩
      · exact m.2 q.symm
      · exact m.2 q
  nd := hnd
  ix := rfl
  loc := hx
  len := fun _ _ => by simp [← hns]
  val := fun σ k z v h1 h2 => by
    cases k with
    | zero => simp at h2
    | succ k =>
      rw [← hns, List.getElem?_cons_succ, List.getElem?_map] at h1
      rw [List.getElem?_cons_succ, List.getElem?_map] at h2
      cases e : cap[k]? with
      | none => rw [e] at h1; cases h1
      | some p =>
        rw [e] at h1 h2
        have ez : p.1 = z := Option.some.inj h1
        have ev : σ.getD p.2.1 none = some v := Option.some.inj h2
        subst ez
        obtain ⟨a1, a2, a3, a4⟩ := h p (List.mem_of_getElem? e)
        rw [List.getD_eq_getElem?_getD] at ev
        refine ⟨p.2.1, a4, ?_, a3, lookup_relabel_free hok a3 a1⟩
        cases q : σ[p.2.1]? with
        | none => rw [q] at ev; cases ev
        | some o => rw [q] at ev; exact congrArg some ev

theorem tys_of : ∀ {cs : List String} {us : List Value}, Vals (cs.map V.ty) us → us = cs.map Value.type
  | [], _, .nil => rfl
  | c :: cs, _, .cons h r => by
    cases (show _ = Value.type c from h)
    rw [tys_of r]; rfl
section
variable {X : Cx}
theorem call_isiT : CallR X (.builtin "isinstance") (fun xs H Q => ∃ (x : V) (tp : Addr) (cs : List String) (t : Value) (b : Bool), xs = [x, .ref tp] ∧ H tp = some (.tup (cs.map V.ty)) ∧ TyOf X.K H x t ∧ PySem.W.kitAny X.K t (cs.map Value.type) = some b ∧ Q (.bl b) H) := by
  intro pins s σ H xs us Q I r h
  obtain ⟨x, tp, cs, t, b, rfl, htp, ty, e, q⟩ := h
  obtain ⟨u, u', rfl, rx, ru'⟩ := vals2 r
  cases ru'
  obtain ⟨_, its, rv, o, ho, hc, n, hd, _⟩ := (show ObjOk X.prog X.w H s.heap tp (.tup (cs.map V.ty)) from I.hok tp _ htp)
  cases tys_of rv
  obtain ⟨oc, od, odt, osl⟩ := o
  cases (show oc = _ from hc)
  cases (show odt = _ from hd)
  have fin : ∀ tk, EP X pins σ Q (.bool b) { s with toks := tk } := fun tk => ⟨.bl b, H, I.tok tk, rfl, q⟩
  cases ty with
  | non => cases (show u = Value.none from rx); exact PySem.W.kia_tup PySem.W.kitx_none I.kIn True.intro ho e (fun z => nomatch z) fin
  | bl y => cases (show u = Value.bool y from rx); exact PySem.W.kia_tup PySem.W.kitx_bool I.kIn True.intro ho e (fun z => nomatch z) fin
  | int i => obtain ⟨t, q⟩ := (show ∃ t, u = Value.int i t from rx); cases q; exact PySem.W.kia_tup PySem.W.kitx_int I.kIn True.intro ho e (fun z => nomatch z) fin
  | str y => obtain ⟨t, q⟩ := (show ∃ t, u = Value.str y t from rx); cases q; exact PySem.W.kia_tup PySem.W.kitx_str I.kIn True.intro ho e (fun z => nomatch z) fin
  | flt y => obtain ⟨t, q⟩ := (show ∃ t, u = Value.float y t from rx); cases q; exact PySem.W.kia_tup PySem.W.kitx_float I.kIn True.intro ho e (fun z => nomatch z) fin
  | @lst a xs ea =>
    cases (show u = Value.ref a from rx)
    obtain ⟨_, _, n, _, h1⟩ := (show ObjOk X.prog X.w H s.heap a (.lst xs) from I.hok a _ ea)
    exact PySem.W.kia_tup PySem.W.kitx_list I.kIn ⟨_, h1, rfl⟩ ho e (fun z => nomatch z) fin
  | @frz a ob xs ea =>
    cases (show u = Value.ref a from rx)
    obtain ⟨_, _, _, n, _, h1⟩ := (show ObjOk X.prog X.w H s.heap a (.frz ob (.lst xs)) from I.hok a _ ea)
    exact PySem.W.kia_tup PySem.W.kitx_list I.kIn ⟨_, h1, rfl⟩ ho e (fun z => nomatch z) fin
  | @tup a xs ea =>
    cases (show u = Value.ref a from rx)
    obtain ⟨_, _, _, p⟩ := (show ObjOk X.prog X.w H s.heap a (.tup xs) from I.hok a _ ea)
    obtain ⟨o, h1, h2, _⟩ := p
    exact PySem.W.kia_tup PySem.W.kitx_tuple I.kIn ⟨o, h1, h2⟩ ho e (fun z => nomatch z) fin
  | @dK a kvs ea =>
    cases (show u = Value.ref a from rx)
    obtain ⟨_, _, vs, _, p⟩ := (show ObjOk X.prog X.w H s.heap a (.dK kvs) from I.hok a _ ea)
    obtain ⟨o, es, ep, h1, h2, _⟩ := p
    exact PySem.W.kia_tup PySem.W.kitx_dict I.kIn ⟨o, h1, h2.1⟩ ho e (fun z => nomatch z) fin
  | @dT a kvs ea =>
    cases (show u = Value.ref a from rx)
    obtain ⟨_, _, xs, _, o, es, ep, h1, h2, _⟩ := (show ObjOk X.prog X.w H s.heap a (.dT kvs) from I.hok a _ ea)
    exact PySem.W.kia_tup PySem.W.kitx_dict I.kIn ⟨o, h1, h2.1⟩ ho e (fun z => nomatch z) fin
  | @ins a C dx fs ea cl ha hn htk hm =>
    cases (show u = Value.ref a from rx)
    obtain ⟨mA, O, _⟩ := ins_get I.hok ea
    obtain ⟨od, J, _⟩ := O.look
    exact PySem.W.kia_tup (PySem.W.kitx_own (cl.get _) cl.hd ha hn htk hm) I.kIn J ho e (fun z => nomatch z) fin
end

structure ClsM (K : PySem.W.Frag) (C : Addr) (m : Str) (f : Addr) : Prop where
  ga : PySem.W.specialIn K (.ref C) "__getattribute__" = some (some (.builtin "type.__getattribute__"))
  rd : ∃ mc, PySem.W.readsIn K C mc = true ∧ PySem.W.findCls K (.ref C) mc m = some (.val (.ref f))
  kp : PySem.W.keepIn K (.ref f) = true
section
variable {X : Cx} {CX : CXT} {k : Nat} {f C : Addr} {fd : FuncData} {ps : List Str} {sp : Sp} {dvs : List V} {ds : List Value} {E : XK} {m : Str} {pos apos : Pos} {e o : Expr} {es : List Expr} {t : TA}
theorem pe_clsm {pl : Sem Bool} (he : PE X o (tC (.ref C))) (c : ClsM X.K C m f) (F : FnOk X.prog X.w X.K X.mg X.base CX k f fd ps sp) (hr : Room k X.A) (hb : Binds X.K fd ps ds) (hd : Vals dvs ds) (hx : Passes CX X E) (ha : PA X (e :: es) t)
    (hst : autoParam (starEach (e :: es) X.env = (false, eval e X.env) :: starEach es X.env) L2.Internal.auR._auto_1) (hpl : autoParam ((backTo pos (starEach es X.env)).any (·.1) = false) L2.Internal.auR._auto_1)
    (ht : eval (.Call (.Attribute o m apos) (e :: es) [] pos) X.env = (do
      let ov ← eval o X.env
      standAt apos.atName
      let (f, first) ← holding [ov] (getMethod ov m pl)
      callWith pos f first (backTo pos (starEach (e :: es) X.env)) (backToKw pos (keywordEach [] X.env))) := by rfl) :
    PE X (.Call (.Attribute o m apos) (e :: es) [] pos) (tCall sp dvs E t) := by
  intro pins s σ H Q I h
  refine PySem.W.methodCall_KW (pl := pl) (thn (he pins s σ H (fun v H1 => v = .ref C ∧ tCall sp dvs E t σ H1 Q) I ⟨rfl, h⟩) fun u s1 ⟨x, H1, I1, rx, ex, q⟩ => ?_) ht
  subst ex
  obtain rfl : u = Value.ref C := rx
  obtain ⟨mc, hr1, hf⟩ := c.rd
  refine PySem.W.method_cls I1.kIn c.ga (PySem.W.cls_value I1.kIn hr1 hf rfl ?_)
  refine PySem.W.callWith_K (first := []) (h₀ := X.base) I.ok.mod.kin c.kp (thn (ha pos pins _ σ H1 _ (I1.tok (s1.toks + 1)) q) fun us s2 ⟨vs, H2, I2, r, q2⟩ => ⟨I2.kIn, ?_⟩) hst hpl
  exact run_fn (us := us) (vs := vs) F hr hb hd hx I2 r q2
theorem PE.or {X : Cx} {e : Expr} {t u : TE} (h : PE X e t) (h' : PE X e u) : PE X e (fun σ H Q => t σ H Q ∨ u σ H Q) := fun pins s σ H Q I hw => hw.elim (h pins s σ H Q I) (h' pins s σ H Q I)
theorem PI.or {X : Cx} {tg e : Expr} {t u : TI} (h : PI X tg e t) (h' : PI X tg e u) : PI X tg e (fun σ H R => t σ H R ∨ u σ H R) := fun pins s σ H R I hw => hw.elim (h pins s σ H R I) (h' pins s σ H R I)
end

section
variable {X : Cx}
theorem bt_max : bootBuiltins "max" = some (.builtin "max") := by decide +kernel
theorem call_sumA (hc : X.calm = true) : CallR X (.builtin "sum") (fun xs H Q => ∃ (a : Addr) (ns : List Int), xs = [.ref a] ∧ SqL X.K H a (ns.map V.int) ∧ ∀ n, Q (.int n) H) := by
  intro pins s σ H xs us Q I r h
  obtain ⟨a, ns, rfl, hq, q⟩ := h
  obtain ⟨u, rfl, ru⟩ := vals1 r
  cases ru
  obtain ⟨its, rv, p, hz⟩ := I.list hq
  obtain ⟨zs, e⟩ := (intsAre_of rv).allInts.items
  have l := p.isList
  rw [e] at l
  exact sum_intListG (I.ok.hd hc) l fun h' tk t' hk => ⟨.int _, H, I.kept (t' := tk) hk, ⟨_, rfl⟩, q _⟩
end

theorem ps_setLC {X : Cx} {elt iter : Expr} {x y : Str} {j : Nat} {py spos : Pos} {px : Pos} {ifs : List Expr} {scope : Scope} {pos : Pos} {N : List Str} {cl : List (Str × Addr)} {f : St → St} {i : Nat} {wi : TI} {tt : TT} {te : TE}
    (hc : X.calm = true) (B : BlkOk X N scope cl f i x) (hi : PI X (.Name x px) iter wi)
    (htt : ∀ C s₀ H₀ ex pins, PTs (blk X N scope cl C s₀ H₀ ex pins) ifs tt) (hte : ∀ C s₀ H₀ ex pins, PE (blk X N scope cl C s₀ H₀ ex pins) elt te)
    (hN : X.N.Nodup) (hj : X.N[j]? = some y) (hy : Loc X.env.scope y) (hsw : autoParam (swapsWith (.ListComp elt [⟨.Name x px, iter, ifs, 0⟩] scope pos) (some (.Name y py)) spos.line X.env = pure true) L2.Internal.auR._auto_1) (hs : autoParam (∀ x, foldedSetIterable iter X.env x = pure x) L2.Internal.auI._auto_1)
    (hf : autoParam (X.fn y = true ∨ X.env.scope.names.lookup y = some .local) L2.Internal.auL._auto_1) : PS X (.Assign [.Name y py] (.ListComp elt [⟨.Name x px, iter, ifs, 0⟩] scope pos) spos) (tAsg (tLC wi f i tt te) (gName j)) := by
  intro pins s σ H En I h
  rw [exec_Assign_Name_used _ _ _ _ hsw]
  refine wpAny_bind (wpAny_standAt (wpAny_bind ?_))
  show wpAny _ X.A (do let _ ← comprehension (.ListComp elt [⟨.Name x px, iter, ifs, 0⟩] scope pos) scope X.env _ (newList []) false (eval iter X.env) (some (assign (.Name y py) X.env))) _ _ s
  refine wpAny_bind (wpAny_mono (wpAny_comprehension_free (use := some (assign (.Name y py) X.env)) (Q := fun _ s' => SP X pins En .next s') rfl hs B.clos B.kind B.names (thn (hi pins s σ H _ I h) fun xv s1 h1 => thn h1 fun itv s2 h2 => ?_)) (fun _ s' hq => wpAny_pure (wpAny_pure hq)) fun _ _ e => e)
  obtain ⟨it, fp, tn, J, H2, rfl, I2, T, st2, f2, q⟩ := h2
  have hD : H2 s2.heap.objs.size = none := I2.fresh
  obtain ⟨W, ⟨m0, w0⟩, turn⟩ := q _ hD
  refine wpAny_newObj_type (wpAny_newFunctionEnv B.cell (by intro y hy; simp at hy) (fun h₁ hns₁ hsb₁ => ?_) B.kind)
  have I3 : Inv X pins σ (upd H2 s2.heap.objs.size (.lst [])) { s2 with heap := s2.heap.push { cls := .type "list", data := .seq ([] : List Value).toArray } } := I2.lnew (its := []) (ys := []) (t' := s2.toks) .nil (Nat.zero_le _)
  have lt2 : ∀ b ∈ fp, b < s2.heap.objs.size := fun b hb => by
    obtain ⟨o, ho, _⟩ := T.obj _ _ st2 b hb
    exact Heap.lt_size ho
  have fp3 : ∀ b ∈ fp, FpOk X pins (upd H2 s2.heap.objs.size (.lst [])) b := fun b hb => by
    refine ⟨?_, (f2 b hb).2⟩
    rw [upd_ne (Nat.ne_of_lt (lt2 b hb))]
    exact (f2 b hb).1
  generalize hs3 : ({ s2 with heap := s2.heap.push { cls := .type "list", data := .seq ([] : List Value).toArray } } : Shared) = s3 at I3 hns₁ hsb₁ ⊢
  have eh : s2.heap.push { cls := .type "list", data := .seq ([] : List Value).toArray } = s3.heap := by rw [← hs3]
  have lt3 : ∀ b ∈ fp, b < s3.heap.objs.size := fun b hb => by
    rw [← eh, Heap.size_push]
    exact Nat.lt_succ_of_lt (lt2 b hb)
  have old : ∀ b o, s3.heap.get? b = some o → h₁.get? b = some o := fun b o e => hsb₁.extBut b o (Nat.ne_of_lt (Heap.lt_size e)) (Heap.get?_push_of_some _ e)
  have I4 := inv_blk (tk := s3.toks + ([] : List (Str × Value)).length) B I3 (ex := fp) (fun b hb => ⟨fp3 b hb, lt3 b hb⟩) old hns₁
  have st4 : tn 0 h₁ := T.keep _ _ _ st2 fun b _ o e => old b o (by rw [← eh]; exact Heap.get?_push_of_some _ e)
  -- the iterators in the block
  have fpB : ∀ {H' : Hp}, (∀ b ∈ fp, H' b = none) → ∀ b ∈ fp, FpOk (blk X N scope cl s3.heap.objs.size s3 (upd H2 s2.heap.objs.size (.lst [])) fp pins) [] H' b := fun {H'} hn b hb => by
    obtain ⟨_, g2, g3, g4, g5, g6⟩ := f2 b hb
    refine ⟨hn b hb, Nat.ne_of_lt (lt3 b hb), fun z => (List.mem_cons.mp (I3.stkSub b z)).elim g2 g3, .inl hb, fun y c e => g5 y c (B.lk y c e), fun p hp => ?_⟩
    rw [List.append_nil] at hp
    exact g6 p hp
  have loop : ∀ s4 : Shared, s4 = { s3 with heap := h₁, toks := s3.toks + ([] : List (Str × Value)).length } →
      codeAny (model X.prog X.w) X.A (.compLoop (.ListComp elt [⟨.Name x px, iter, ifs, 0⟩] scope pos) 0 (.ref it) (.ref s2.heap.objs.size) (compEnvC scope cl s3.heap.objs.size X.env))
        (compPost (model X.prog X.w) X.A X.xe (some (assign (.Name y py) X.env)) (fun _ s' => SP X pins En .next s') (.ref s2.heap.objs.size) s3.heap.objs.size) s4 := by
    rintro s4 rfl
    refine codeAny_compLoop_tests (I := fun n s' => ∃ k σ' H', Inv (blk X N scope cl s3.heap.objs.size s3 (upd H2 s2.heap.objs.size (.lst [])) fp pins) [] σ' H' s' ∧ tn k s'.heap ∧ (∀ b ∈ fp, H' b = none) ∧ W k n σ' H') ?_ m0
      ⟨0, f σ, _, I4, st4, fun b hb => (fp3 b hb).1, w0⟩
    rintro n s5 ⟨k, σ5, H5, I5, st5, fr5, w5⟩
    rcases turn k n σ5 H5 w5 with ⟨stop, qn⟩ | ⟨go, step⟩
    · refine wpAny_mono (T.done (blk X N scope cl s3.heap.objs.size s3 (upd H2 s2.heap.objs.size (.lst [])) fp pins) rfl rfl rfl hc k [] s5 σ5 H5 _ I5 (fpB fr5) st5 stop) (fun r s6 h6 => ?_) fun _ _ z => z
      obtain ⟨hr, I6⟩ := h6
      subst hr
      obtain ⟨m6, hn6, _⟩ := id I6.loc
      have I7 : Inv X pins σ H5 s6 := I3.call' (s' := s6) (ch := fp) I6.os I6.base I6.hok I6.bare fun b hb => by
        obtain ⟨_, g2, g3, g4, g5, g6⟩ := f2 b hb
        exact ⟨g4, g2, g5, g6⟩
      obtain ⟨oC, es, ep, hoC, hdC, hkC⟩ := id hn6
      have hCL : s3.heap.objs.size ≠ X.env.locals := Nat.ne_of_gt I3.lt
      have I8 : Inv X (pins ++ [(s3.heap.objs.size, oC)]) σ H5 s6 := I7.pins_of fun p hp => (List.mem_append.mp hp).elim (fun z => I7.pin p (List.mem_append_right _ z)) fun z => by
        have ez : p = (s3.heap.objs.size, oC) := by simpa using z
        subst ez
        exact ⟨hoC, I6.free, hCL, I3.nofs (Nat.le_refl _), fun v q => by rw [hdC] at q; cases q⟩
      show wpAny _ X.A (assign (.Name y py) X.env (.ref s2.heap.objs.size)) _ _ s6
      refine wpAny_assign_Name (store_ok (X := X) I8 hN hj hy (v := .ref s2.heap.objs.size) rfl (fun s7 I9 => ?_) hf)
      have pC := I9.pin (s3.heap.objs.size, oC) (List.mem_append_right _ (List.mem_append_right _ (by simp)))
      refine ⟨m6, ⟨oC, es, ep, pC.1, hdC, hkC⟩, fun h' sb => ?_⟩
      refine ⟨σ.set j (some (.ref s2.heap.objs.size)), H5, ?_, qn⟩
      exact Inv.turned (h' := h') (t' := s7.toks) (it := s3.heap.objs.size) I9.unpinned (fun b o hb e => (sb.2 b hb).trans e) pC.2.1 hCL (.inr I3.sz) (fun z c e q => by
        obtain ⟨v, q2⟩ := I3.cell z c e
        exact absurd (q ▸ q2.lt) (Nat.lt_irrefl _)) fun p hp q => absurd (q ▸ Heap.lt_size (I3.pin p hp).1) (Nat.lt_irrefl _)
    · refine wpAny_mono (T.item (blk X N scope cl s3.heap.objs.size s3 (upd H2 s2.heap.objs.size (.lst [])) fp pins) rfl rfl rfl hc k [] s5 σ5 H5 _ I5 (fpB fr5) st5 go) (fun r s6 h6 => ?_) fun _ _ z => z
      obtain ⟨u, hr, h6⟩ := h6
      subst hr
      show wpAny _ _ (pure () >>= fun _ => assign (.Name x px) (compEnvC scope cl s3.heap.objs.size X.env) u) _ _ s6
      refine wpAny_bind (wpAny_mono (show wpAny _ _ (pure ()) _ _ s6 from h6) (fun _ s7 h7 => ?_) fun _ _ z => z)
      obtain ⟨v, H7, I7, r7, y7, st7, fr7⟩ := h7
      have I7' := I7.pinned (fpB fr7) (T.obj _ _ st7)
      refine wpAny_assign_Name (store_ok (X := blk X N scope cl s3.heap.objs.size s3 (upd H2 s2.heap.objs.size (.lst [])) fp pins) I7' B.nd B.ix (.inl (lookup_relabel_local B.loc)) r7 (fun s8 I8 => ?_) (.inr (lookup_relabel_local B.loc)))
      have back : ∀ {σ9 : St} {H9 : Hp} {s9 : Shared}, Inv (blk X N scope cl s3.heap.objs.size s3 (upd H2 s2.heap.objs.size (.lst [])) fp pins) ([] ++ pinsAt fp s7.heap) σ9 H9 s9 → (∃ m', m' < n ∧ W (k + 1) m' σ9 H9) →
          ∃ m', m' < n ∧ ∃ k σ' H', Inv (blk X N scope cl s3.heap.objs.size s3 (upd H2 s2.heap.objs.size (.lst [])) fp pins) [] σ' H' s9 ∧ tn k s9.heap ∧ (∀ b ∈ fp, H' b = none) ∧ W k m' σ' H' := fun {σ9 H9 s9} I9 q9 => by
        obtain ⟨m', hm, w9⟩ := q9
        refine ⟨m', hm, k + 1, σ9, H9, I9.unpinned, T.keep _ _ _ st7 fun b hb o e => (I9.pin (b, o) (List.mem_append_right _ (List.mem_append_right _ (mem_pinsAt hb e)))).1, fun b hb => ?_, w9⟩
        obtain ⟨o, e, d⟩ := T.obj _ _ st7 b hb
        exact (I9.pin (b, o) (List.mem_append_right _ (List.mem_append_right _ (mem_pinsAt hb e)))).2.1
      refine wpAny_mono (htt _ _ _ _ _ _ s8 _ H7 _ I8 (step v H7 y7)) (fun ok s9 h9 => ?_) fun _ _ z => False.elim z
      obtain ⟨H9, I9, q9⟩ := h9
      cases ok with
      | false =>
        rw [if_neg Bool.false_ne_true]
        rw [if_neg Bool.false_ne_true] at q9
        exact back I9 q9
      | true =>
        rw [if_pos rfl]
        rw [if_pos rfl] at q9
        refine wpAny_mono (hte _ _ _ _ _ _ s9 _ H9 _ I9 q9) (fun y s10 h10 => ?_) fun _ _ z => False.elim z
        obtain ⟨v10, H10, I10, r10, xs, hx10, hz, q10⟩ := h10
        refine wpAny_mono (mt_append (X := blk X N scope cl s3.heap.objs.size s3 (upd H2 s2.heap.objs.size (.lst [])) fp pins) _ s10 _ H10 (.ref s2.heap.objs.size) [v10] _ [y] (fun _ H11 => H11 = upd H10 s2.heap.objs.size (.lst (xs ++ [v10]))) I10 rfl (.cons r10 .nil) ⟨_, xs, v10, rfl, rfl, hx10, hz, rfl⟩) (fun _ s11 h11 => ?_) fun _ _ z => False.elim z
        obtain ⟨_, H11, I11, _, e11⟩ := h11
        subst e11
        exact back I11 q10
  exact codeAny_compStart_list (loop _ rfl) (T.self _ 0 _ _ _ st4 (loop _ rfl))

end L2.Internal
namespace L2.Internal
open PySem PySem.Spec PyProof.Rows

section
variable {prog : Program} {w : World} {A : Around} {E : Value → Shared → Prop} {s : Shared}
theorem nx_tup {j t : Addr} {i : Nat} {its} {x : Value} {Q : Value → Shared → Prop} (g : s.heap.IsTupleIter j t i) (d : s.heap.IsTuple t its) (e : its[i]? = some x)
    (k : ∀ h', h'.IsTupleIter j t (i + 1) → Heap.SameBut j s.heap h' → Q x { s with heap := h' }) : wpAny (model prog w) A (Builtin.SmallTypes.nextOf (.ref j)) Q E s := by
  obtain ⟨og, gg, gc, gd⟩ := id g
  obtain ⟨od, dd, _, dn, de⟩ := d
  unfold Builtin.SmallTypes.nextOf
  refine wpAny_bind (wpAny_callSpecial?_slot (name := Str.ofString "__next__") g.typeIs F.slot_tuple_iterator_next (wpAny_call_entry F.slot_tuple_iterator_next g.typeIs F.entry_tuple_iterator_next ?_ (F.args_tuple_iterator_next_1 _)))
  show wpAny _ _ (field (.ref j) 0 >>= _) _ _ s
  refine wpAny_bind (wpAny_field gg gd (x := .ref t) rfl ?_)
  show wpAny _ _ (if (Value.ref t == Value.none) = true then _ else _) _ _ s
  rw [if_neg (show ¬ ((Value.ref t == Value.none) = true) from fun q => nomatch q)]
  show wpAny _ _ (field (.ref j) 1 >>= _) _ _ s
  refine wpAny_bind (wpAny_field gg gd (x := .int i 0) rfl ?_)
  refine wpAny_bind (wpAny_seqItems dd de ?_)
  simp only [Int.toNat_natCast, e]
  refine wpAny_bind (wpAny_setField gg gd (by simp) (wpAny_pure ⟨x, rfl, wpAny_pure (k _ ?_ (Heap.SameBut.update ..))⟩))
  exact ⟨_, Heap.get?_update_self _ gg (Obj.isFreed_of_fields (Obj.data_mapFields gd _)), (Obj.cls_mapFields ..).trans gc, by rw [Obj.data_mapFields gd]; simp [rawInt]⟩
theorem nx_tup_end {j t : Addr} {i : Nat} {its} {Q : Value → Shared → Prop} (hh : A.handled = none) (g : s.heap.IsTupleIter j t i) (d : s.heap.IsTuple t its) (e : its[i]? = none)
    (k : ∀ h' x, Heap.ExtBut j s.heap h' → (∃ o, h'.get? x = some o ∧ o.cls = .type "StopIteration") → E (.ref x) { s with heap := h' }) : wpAny (model prog w) A (Builtin.SmallTypes.nextOf (.ref j)) Q E s := by
  obtain ⟨og, gg, gc, gd⟩ := id g
  obtain ⟨od, dd, _, dn, de⟩ := d
  unfold Builtin.SmallTypes.nextOf
  refine wpAny_bind (wpAny_callSpecial?_slot (name := Str.ofString "__next__") g.typeIs F.slot_tuple_iterator_next (wpAny_call_entry F.slot_tuple_iterator_next g.typeIs F.entry_tuple_iterator_next ?_ (F.args_tuple_iterator_next_1 _)))
  show wpAny _ _ (field (.ref j) 0 >>= _) _ _ s
  refine wpAny_bind (wpAny_field gg gd (x := .ref t) rfl ?_)
  show wpAny _ _ (if (Value.ref t == Value.none) = true then _ else _) _ _ s
  rw [if_neg (show ¬ ((Value.ref t == Value.none) = true) from fun q => nomatch q)]
  show wpAny _ _ (field (.ref j) 1 >>= _) _ _ s
  refine wpAny_bind (wpAny_field gg gd (x := .int i 0) rfl ?_)
  refine wpAny_bind (wpAny_seqItems dd de ?_)
  simp only [Int.toNat_natCast, e]
  refine wpAny_bind (wpAny_rule (wpAny_bind (wpAny_setField gg gd (by simp) ?_)))
  show wpAny _ _ (newExc (.type "StopIteration") [] >>= _) _ _ _
  refine wpAny_bind ?_
  simp only [newExc, newTuple]
  refine wpAny_bind (wpAny_newObj_type ?_ (by size_fits))
  refine wpAny_bind (m := firstArgMember _ _) (wpAny_of_eq (a := Value.none) (by first | rfl | (unfold firstArgMember; rfl)) ?_)
  refine wpAny_newObj_type ?_ (by size_fits)
  simp only [raiseNew]
  refine wpAny_bind (wpAny_handled ?_)
  first | rw [hh] | rw [show A.in1.handled = none from hh]
  exact wpAny_bind (wpAny_pure (wpAny_throw (k _ _ (((Heap.SameBut.update ..).extBut.push _).push _) ⟨_, Heap.get?_push_size _ rfl, rfl⟩)))

theorem zt_next {z TI TO j1 j2 t1 t2 : Addr} {k1 k2 : Nat} {xs ys : Array Value} {x y a b : Value} {Q : Value → Shared → Prop} (D : ZipApart z TI TO j1 j2 t1 t2)
    (gz : IsZip s.heap z TI TO .none) (gI : IsPair s.heap TI (.ref j1) (.ref j2)) (gO : IsPair s.heap TO a b)
    (g1 : s.heap.IsTupleIter j1 t1 k1) (g2 : s.heap.IsTupleIter j2 t2 k2) (d1 : s.heap.IsTuple t1 xs) (d2 : s.heap.IsTuple t2 ys) (ex : xs[k1]? = some x) (ey : ys[k2]? = some y)
    (k : ∀ h', IsZip h' z TI TO (rawInt s.heap.objs.size) → IsPair h' TO x y → h'.IsTupleIter j1 t1 (k1 + 1) → h'.IsTupleIter j2 t2 (k2 + 1) → IsPair h' s.heap.objs.size x y → h'.objs.size = s.heap.objs.size + 1 →
      (∀ c o, c ≠ z → c ≠ TO → c ≠ j1 → c ≠ j2 → s.heap.get? c = some o → h'.get? c = some o) → Q (.ref s.heap.objs.size) { s with heap := h' }) :
    wpAny (model prog w) A (Builtin.«zip.__next__» ⟨[.ref z], []⟩) (fun fin s' => ∃ v, fin = .done (.ret v) ∧ Q v s') E s := by
  show wpAny _ _ (field (.ref z) 2 >>= _) _ _ _
  refine wpAny_bind (wpAny_field gz rfl (x := .bool false) rfl ?_)
  show wpAny _ _ (field (.ref z) 3 >>= _) _ _ _
  refine wpAny_bind (wpAny_field gz rfl (x := .ref TI) rfl ?_)
  refine wpAny_bind (wpAny_seqItems gI rfl ?_)
  show wpAny _ _ (Builtin.SmallTypes.ownedTupleIsFree (.ref z) >>= _) _ _ _
  refine wpAny_bind ?_
  unfold Builtin.SmallTypes.ownedTupleIsFree
  refine wpAny_bind (wpAny_field gz rfl (x := .none) rfl (wpAny_pure ?_))
  simp only [if_true]
  refine wpAny_bind (wpAny_rule (wpAny_bind (wpAny_field gz rfl (x := .ref TO) rfl ?_)))
  refine wpAny_bind (wpAny_setField_rec gz (by simp) fun q1 gz1 b1 => ?_)
  replace gz1 : IsZip q1 z TI TO .ellipsis := gz1
  refine wpAny_bind ?_
  simp only [List.zipIdx_cons, List.zipIdx_nil, List.forIn_cons, List.forIn_nil]
  refine wpAny_bind (wpAny_bind (wpAny_onRaise ?_))
  show wpAny _ _ (Builtin.SmallTypes.nextOf (.ref j1) >>= _) _ _ _
  refine wpAny_bind (nx_tup (g1.extBut b1.extBut D.i1z) (d1.extBut b1.extBut D.l1z) ex fun q2 g12 b2 => wpAny_pure ?_)
  have gO2 : IsPair q2 TO a b := b2.extBut _ _ D.TOi1 (b1.extBut _ _ D.TOz gO)
  refine wpAny_bind (wpAny_seqItems gO2 rfl (wpAny_bind (wpAny_updateSeq_pair gO2 fun q3 gO3 b3 => ?_)))
  replace gO3 : IsPair q3 TO x b := gO3
  refine wpAny_bind (wpAny_letGo (wpAny_pure (wpAny_bind (wpAny_bind (wpAny_onRaise ?_)))))
  show wpAny _ _ (Builtin.SmallTypes.nextOf (.ref j2) >>= _) _ _ _
  refine wpAny_bind (nx_tup (((g2.extBut b1.extBut D.i2z).extBut b2.extBut D.i12.symm).extBut b3.extBut D.TOi2.symm) (((d2.extBut b1.extBut D.l2z).extBut b2.extBut D.l2i1).extBut b3.extBut D.l2TO) ey fun q4 g24 b4 => wpAny_pure ?_)
  have gO4 : IsPair q4 TO x b := b4.extBut _ _ D.TOi2 gO3
  refine wpAny_bind (wpAny_seqItems gO4 rfl (wpAny_bind (wpAny_updateSeq_pair gO4 fun q5 gO5 b5 => ?_)))
  replace gO5 : IsPair q5 TO x y := gO5
  refine wpAny_bind (wpAny_letGo (wpAny_pure (wpAny_pure (wpAny_bind (wpAny_seqItems gO5 rfl (wpAny_bind (wpAny_newTuple ?_)))))))
  have sz : q5.objs.size = s.heap.objs.size := by rw [b5.1, b4.1, b3.1, b2.1, b1.1]
  have gz5 : IsZip q5 z TI TO .ellipsis := b5.extBut _ _ D.TOz.symm (b4.extBut _ _ D.i2z.symm (b3.extBut _ _ D.TOz.symm (b2.extBut _ _ D.i1z.symm gz1)))
  have kp5 : ∀ c o, c ≠ z → c ≠ TO → c ≠ j1 → c ≠ j2 → s.heap.get? c = some o → q5.get? c = some o := fun c o n1 n2 n3 n4 e =>
    b5.extBut _ _ n2 (b4.extBut _ _ n4 (b3.extBut _ _ n2 (b2.extBut _ _ n3 (b1.extBut _ _ n1 e))))
  have g15 : q5.IsTupleIter j1 t1 (k1 + 1) := ((g12.extBut b3.extBut D.TOi1.symm).extBut b4.extBut D.i12).extBut b5.extBut D.TOi1.symm
  have g25 : q5.IsTupleIter j2 t2 (k2 + 1) := g24.extBut b5.extBut D.TOi2.symm
  have zlt : z < q5.objs.size := Heap.lt_size gz5
  show wpAny _ _ (Builtin.SmallTypes.ownedTupleHandOut (.ref z) (.ref q5.objs.size) >>= _) _ _ _
  refine wpAny_bind ?_
  unfold Builtin.SmallTypes.ownedTupleHandOut
  have gz6 : IsZip (q5.push { cls := .type "tuple", data := .seq #[x, y] }) z TI TO .ellipsis := Heap.get?_push_of_some _ gz5
  refine wpAny_bind (wpAny_setField_rec gz6 (by simp) fun q7 gz7 b7 => ?_)
  replace gz7 : IsZip q7 z TI TO (rawInt q5.objs.size) := gz7
  refine wpAny_setField_rec gz7 (by simp) fun q8 gz8 b8 => ?_
  replace gz8 : IsZip q8 z TI TO (rawInt q5.objs.size) := gz8
  have up : ∀ c o, c ≠ z → q5.get? c = some o → q8.get? c = some o := fun c o n1 e => b8.extBut _ _ n1 (b7.extBut _ _ n1 (Heap.get?_push_of_some _ e))
  have gT8 : IsPair q8 q5.objs.size x y := b8.extBut _ _ (Nat.ne_of_gt zlt) (b7.extBut _ _ (Nat.ne_of_gt zlt) (Heap.get?_push_size _ rfl))
  have sz8 : q8.objs.size = q5.objs.size + 1 := by rw [b8.1, b7.1, Heap.size_push]
  rw [sz] at gz8 gT8 sz8
  refine wpAny_pure ⟨_, rfl, ?_⟩
  show Q (.ref q5.objs.size) _
  rw [sz]
  refine k q8 gz8 (up _ _ D.TOz gO5) ?_ ?_ gT8 sz8 fun c o n1 n2 n3 n4 e => up c o n1 (kp5 c o n1 n2 n3 n4 e)
  · obtain ⟨o, e, r⟩ := g15; exact ⟨o, up _ o D.i1z e, r⟩
  · obtain ⟨o, e, r⟩ := g25; exact ⟨o, up _ o D.i2z e, r⟩
theorem zt_end {z TI TO j1 j2 t1 t2 : Addr} {k1 k2 : Nat} {xs ys : Array Value} {a b : Value} {Q : Fin → Shared → Prop} (hh : A.handled = none) (D : ZipApart z TI TO j1 j2 t1 t2)
    (gz : IsZip s.heap z TI TO .none) (gI : IsPair s.heap TI (.ref j1) (.ref j2)) (gO : IsPair s.heap TO a b)
    (g1 : s.heap.IsTupleIter j1 t1 k1) (g2 : s.heap.IsTupleIter j2 t2 k2) (d1 : s.heap.IsTuple t1 xs) (d2 : s.heap.IsTuple t2 ys) (hend : xs[k1]? = none ∨ ys[k2]? = none)
    (k : ∀ h' e, (∀ c o, c ≠ z → c ≠ TO → c ≠ j1 → c ≠ j2 → s.heap.get? c = some o → h'.get? c = some o) → (∃ o, h'.get? e = some o ∧ o.cls = .type "StopIteration") → E (.ref e) { s with heap := h' }) :
    wpAny (model prog w) A (Builtin.«zip.__next__» ⟨[.ref z], []⟩) Q E s := by
  show wpAny _ _ (field (.ref z) 2 >>= _) _ _ _
  refine wpAny_bind (wpAny_field gz rfl (x := .bool false) rfl ?_)
  show wpAny _ _ (field (.ref z) 3 >>= _) _ _ _
  refine wpAny_bind (wpAny_field gz rfl (x := .ref TI) rfl ?_)
  refine wpAny_bind (wpAny_seqItems gI rfl ?_)
  show wpAny _ _ (Builtin.SmallTypes.ownedTupleIsFree (.ref z) >>= _) _ _ _
  refine wpAny_bind ?_
  unfold Builtin.SmallTypes.ownedTupleIsFree
  refine wpAny_bind (wpAny_field gz rfl (x := .none) rfl (wpAny_pure ?_))
  simp only [if_true]
  refine wpAny_bind (wpAny_rule (wpAny_bind (wpAny_field gz rfl (x := .ref TO) rfl ?_)))
  refine wpAny_bind (wpAny_setField_rec gz (by simp) fun q1 gz1 b1 => ?_)
  replace gz1 : IsZip q1 z TI TO .ellipsis := gz1
  refine wpAny_bind ?_
  simp only [List.zipIdx_cons, List.zipIdx_nil, List.forIn_cons, List.forIn_nil]
  refine wpAny_bind (wpAny_bind (wpAny_onRaise ?_))
  show wpAny _ _ (Builtin.SmallTypes.nextOf (.ref j1) >>= _) _ _ _
  cases ex : xs[k1]? with
  | none =>
    refine wpAny_bind (nx_tup_end hh (g1.extBut b1.extBut D.i1z) (d1.extBut b1.extBut D.l1z) ex fun q2 e b2 he => ?_)
    obtain ⟨oe, hoe, hce⟩ := he
    have gz2 : IsZip q2 z TI TO .ellipsis := b2 _ _ D.i1z.symm gz1
    have nz : e ≠ z := fun q => by subst q; rw [gz2] at hoe; cases hoe; simp at hce
    refine wpAny_setField_rec gz2 (by simp) fun q3 _ b3 => k q3 e (fun c o n1 _ n3 _ q => b3.extBut _ _ n1 (b2 _ _ n3 (b1.extBut _ _ n1 q))) ⟨oe, b3.extBut _ _ nz hoe, hce⟩
  | some x =>
    have ey : ys[k2]? = none := hend.elim (fun q => by rw [ex] at q; cases q) id
    refine wpAny_bind (nx_tup (g1.extBut b1.extBut D.i1z) (d1.extBut b1.extBut D.l1z) ex fun q2 g12 b2 => wpAny_pure ?_)
    have gO2 : IsPair q2 TO a b := b2.extBut _ _ D.TOi1 (b1.extBut _ _ D.TOz gO)
    refine wpAny_bind (wpAny_seqItems gO2 rfl (wpAny_bind (wpAny_updateSeq_pair gO2 fun q3 gO3 b3 => ?_)))
    refine wpAny_bind (wpAny_letGo (wpAny_pure (wpAny_bind (wpAny_bind (wpAny_onRaise ?_)))))
    show wpAny _ _ (Builtin.SmallTypes.nextOf (.ref j2) >>= _) _ _ _
    refine wpAny_bind (nx_tup_end hh (((g2.extBut b1.extBut D.i2z).extBut b2.extBut D.i12.symm).extBut b3.extBut D.TOi2.symm) (((d2.extBut b1.extBut D.l2z).extBut b2.extBut D.l2i1).extBut b3.extBut D.l2TO) ey fun q4 e b4 he => ?_)
    obtain ⟨oe, hoe, hce⟩ := he
    have gz4 : IsZip q4 z TI TO .ellipsis := b4 _ _ D.i2z.symm (b3.extBut _ _ D.TOz.symm (b2.extBut _ _ D.i1z.symm gz1))
    have nz : e ≠ z := fun q => by subst q; rw [gz4] at hoe; cases hoe; simp at hce
    refine wpAny_setField_rec gz4 (by simp) fun q5 _ b5 => k q5 e (fun c o n1 n2 n3 n4 q => b5.extBut _ _ n1 (b4 _ _ n4 (b3.extBut _ _ n2 (b2.extBut _ _ n3 (b1.extBut _ _ n1 q))))) ⟨oe, b5.extBut _ _ nz hoe, hce⟩
theorem zt_pyNext {z TI TO j1 j2 t1 t2 : Addr} {k1 k2 : Nat} {xs ys : Array Value} {x y a b : Value} {Q : Option Value → Shared → Prop} (D : ZipApart z TI TO j1 j2 t1 t2)
    (gz : IsZip s.heap z TI TO .none) (gI : IsPair s.heap TI (.ref j1) (.ref j2)) (gO : IsPair s.heap TO a b)
    (g1 : s.heap.IsTupleIter j1 t1 k1) (g2 : s.heap.IsTupleIter j2 t2 k2) (d1 : s.heap.IsTuple t1 xs) (d2 : s.heap.IsTuple t2 ys) (ex : xs[k1]? = some x) (ey : ys[k2]? = some y)
    (k : ∀ h', IsZip h' z TI TO (rawInt s.heap.objs.size) → IsPair h' TO x y → h'.IsTupleIter j1 t1 (k1 + 1) → h'.IsTupleIter j2 t2 (k2 + 1) → IsPair h' s.heap.objs.size x y → h'.objs.size = s.heap.objs.size + 1 →
      (∀ c o, c ≠ z → c ≠ TO → c ≠ j1 → c ≠ j2 → s.heap.get? c = some o → h'.get? c = some o) → Q (some (.ref s.heap.objs.size)) { s with heap := h' }) :
    wpAny (model prog w) A (pyNext (.ref z)) Q E s := by
  have tz : s.TypeIs (.ref z) "zip" := ⟨_, gz, rfl⟩
  unfold pyNext
  exact wpAny_bind (wpAny_attempt (wpAny_callSpecial?_slot (name := Str.ofString "__next__") tz F.slot_zip_next (wpAny_call_entry F.slot_zip_next tz F.entry_zip_next
      (zt_next D gz gI gO g1 g2 d1 d2 ex ey fun h' a1 a2 a3 a4 a5 a6 a7 => wpAny_pure (k h' a1 a2 a3 a4 a5 a6 a7)) (F.args_zip_next_1 _))))
theorem zt_pyNext_end {z TI TO j1 j2 t1 t2 : Addr} {k1 k2 : Nat} {xs ys : Array Value} {a b : Value} {Q : Option Value → Shared → Prop} (hh : A.handled = none) (D : ZipApart z TI TO j1 j2 t1 t2)
    (gz : IsZip s.heap z TI TO .none) (gI : IsPair s.heap TI (.ref j1) (.ref j2)) (gO : IsPair s.heap TO a b)
    (g1 : s.heap.IsTupleIter j1 t1 k1) (g2 : s.heap.IsTupleIter j2 t2 k2) (d1 : s.heap.IsTuple t1 xs) (d2 : s.heap.IsTuple t2 ys) (hend : xs[k1]? = none ∨ ys[k2]? = none)
    (k : ∀ h', (∀ c o, c ≠ z → c ≠ TO → c ≠ j1 → c ≠ j2 → s.heap.get? c = some o → h'.get? c = some o) → Q none { s with heap := h' }) : wpAny (model prog w) A (pyNext (.ref z)) Q E s := by
  have tz : s.TypeIs (.ref z) "zip" := ⟨_, gz, rfl⟩
  unfold pyNext
  refine wpAny_bind (wpAny_attempt (wpAny_callSpecial?_slot (name := Str.ofString "__next__") tz F.slot_zip_next (wpAny_call_entry F.slot_zip_next tz F.entry_zip_next (zt_end hh D gz gI gO g1 g2 d1 d2 hend fun h' e kp he => ?_) (F.args_zip_next_1 _))))
  obtain ⟨o, ho, hc⟩ := he
  exact wpAny_bind (wpAny_isInstance (T := "StopIteration") (b := true) ⟨o, ho, hc⟩ isSubtype_stop (wpAny_pure (k _ kp)))
end

noncomputable abbrev zt1 (h : Heap) (t1 : Addr) : Heap := h.push { cls := .type "tuple_iterator", data := .fields #[.ref t1, .int 0 0] }
noncomputable abbrev zt2 (h : Heap) (t1 t2 : Addr) : Heap := (zt1 h t1).push { cls := .type "tuple_iterator", data := .fields #[.ref t2, .int 0 0] }
noncomputable abbrev zt3 (h : Heap) (t1 t2 : Addr) : Heap := (zt2 h t1 t2).push { cls := .type "tuple", data := .seq #[.ref h.objs.size, .ref (zt1 h t1).objs.size] }
noncomputable abbrev zt4 (h : Heap) (t1 t2 : Addr) : Heap := (zt3 h t1 t2).push { cls := .type "tuple", data := .seq #[.none, .none] }
noncomputable abbrev zt5 (h : Heap) (t1 t2 : Addr) : Heap := (zt4 h t1 t2).push { cls := .type "zip", data := .fields #[.none, .bool false, .bool false, .ref (zt2 h t1 t2).objs.size, .ref (zt3 h t1 t2).objs.size] }
theorem zt_new (t1 t2 : Addr) (xs ys : Array Value) : Meets (Builtin.«zip.__new__» ⟨[.type "zip", .ref t1, .ref t2], []⟩) (fun _ R s => s.heap.IsTuple t1 xs ∧ s.heap.IsTuple t2 ys ∧ R (.ok (.ret (.ref (zt4 s.heap t1 t2).objs.size))) { s with heap := zt5 s.heap t1 t2 }) :=
  .of_wp fun prog w A R s h => by
    obtain ⟨hp, g, d, tk, os⟩ := s; obtain ⟨d1, d2, h⟩ := h
    have hsub := sub_zip
    have dd1 : Heap.IsTuple (Shared.heap ⟨hp, g, d, tk, os⟩) t1 xs := d1
    have dd2 : Heap.IsTuple (Shared.heap ⟨hp.push { cls := .type "tuple_iterator", data := .fields #[.ref t1, .int 0 0] }, g, d, tk, os⟩) t2 ys := Heap.IsTuple.push d2 _
    wp_walk using wpAny_pyIter_tuple dd1, wpAny_pyIter_tuple dd2
    exact ⟨_, rfl, h⟩
section
variable {prog : Program} {w : World} {A : Around} {E : Value → Shared → Prop} {s : Shared}
theorem call_zipT {t1 t2 : Addr} {xs ys : Array Value} {Q : Value → Shared → Prop} (d1 : s.heap.IsTuple t1 xs) (d2 : s.heap.IsTuple t2 ys)
    (k : ∀ h', IsZip h' (s.heap.objs.size + 4) (s.heap.objs.size + 2) (s.heap.objs.size + 3) .none → IsPair h' (s.heap.objs.size + 2) (.ref s.heap.objs.size) (.ref (s.heap.objs.size + 1)) →
      IsPair h' (s.heap.objs.size + 3) .none .none → h'.IsTupleIter s.heap.objs.size t1 0 → h'.IsTupleIter (s.heap.objs.size + 1) t2 0 → (∀ c o, s.heap.get? c = some o → h'.get? c = some o) → Q (.ref (s.heap.objs.size + 4)) { s with heap := h' }) :
    wpAny (model prog w) A (call (.type "zip") [.ref t1, .ref t2]) Q E s := by
  refine callType_new F.called_zip (by decide) (F.typeCall_zip_2 _ _) (F.newCall_zip_2 _ _) (fun obj => F.args_object_init_3 obj _ _) F.entry_zip_new (zt_new t1 t2 xs ys) ⟨d1, d2, ?_⟩
  have z1 : (zt1 s.heap t1).objs.size = s.heap.objs.size + 1 := Heap.size_push ..
  have z2 : (zt2 s.heap t1 t2).objs.size = s.heap.objs.size + 2 := by rw [Heap.size_push, z1]
  have z3 : (zt3 s.heap t1 t2).objs.size = s.heap.objs.size + 3 := by rw [Heap.size_push, z2]
  have z4 : (zt4 s.heap t1 t2).objs.size = s.heap.objs.size + 4 := by rw [Heap.size_push, z3]
  have m5 : (zt5 s.heap t1 t2).get? (zt4 s.heap t1 t2).objs.size = some _ := Heap.get?_push_size _ rfl
  have m4 : (zt5 s.heap t1 t2).get? (zt3 s.heap t1 t2).objs.size = some _ := Heap.get?_push_of_some _ (Heap.get?_push_size _ rfl)
  have m3 : (zt5 s.heap t1 t2).get? (zt2 s.heap t1 t2).objs.size = some _ := Heap.get?_push_of_some _ (Heap.get?_push_of_some _ (Heap.get?_push_size _ rfl))
  have m2 : (zt5 s.heap t1 t2).get? (zt1 s.heap t1).objs.size = some _ := Heap.get?_push_of_some _ (Heap.get?_push_of_some _ (Heap.get?_push_of_some _ (Heap.get?_push_size _ rfl)))
  have m1 : (zt5 s.heap t1 t2).get? s.heap.objs.size = some _ := Heap.get?_push_of_some _ (Heap.get?_push_of_some _ (Heap.get?_push_of_some _ (Heap.get?_push_of_some _ (Heap.get?_push_size _ rfl))))
  show _ ∧ _
  rw [z2, z3, z4] at m5
  rw [z1, z2] at m3
  rw [z3] at m4
  rw [z1] at m2
  rw [z4]
  exact ⟨⟨_, m5, rfl⟩, k _ m5 m3 m4 ⟨_, m1, rfl, rfl⟩ ⟨_, m2, rfl, rfl⟩ fun c o q => Heap.get?_push_of_some _ (Heap.get?_push_of_some _ (Heap.get?_push_of_some _ (Heap.get?_push_of_some _ (Heap.get?_push_of_some _ q))))⟩
end

noncomputable def Itzt (K : PySem.W.Frag) (a b : Addr) : It :=
  ⟨fun i H => ∃ xs ys x y, SqT K H a xs ∧ SqT K H b ys ∧ xs[i]? = some x ∧ ys[i]? = some y,
   fun i H v H' => ∃ T x y, v = .ref T ∧ H T = none ∧ H' = upd H T (.tup [x, y]) ∧ (∀ xs, SqT K H a xs → xs[i]? = some x) ∧ ∀ ys, SqT K H b ys → ys[i]? = some y,
   fun i H => ∃ xs ys, SqT K H a xs ∧ SqT K H b ys ∧ i = min xs.length ys.length⟩
noncomputable def ZTSt (z TI TO i1 i2 a b : Addr) (i : Nat) (h : Heap) : Prop := IsZip h z TI TO .none ∧ IsPair h TI (.ref i1) (.ref i2) ∧ (∃ u v, IsPair h TO u v) ∧ h.IsTupleIter i1 a i ∧ h.IsTupleIter i2 b i
theorem turn_zipT {P : Program} {w : World} {K : PySem.W.Frag} {es : List Expr} {kk : Nat} {tp : Pos} {a b z TI TO i1 i2 : Addr} (D : ZipApart z TI TO i1 i2 a b) : Turn P w K (.Tuple es kk tp) (Itzt K a b) [z, TI, TO, i1, i2] z (ZTSt z TI TO i1 i2 a b) where
  mem := by simp
  obj := fun i h st c hc => by
    obtain ⟨g1, g2, ⟨u, v, g3⟩, ⟨o4, g4, _, d4⟩, ⟨o5, g5, _, d5⟩⟩ := st
    simp only [List.mem_cons, List.not_mem_nil, or_false] at hc
    rcases hc with e | e | e | e | e <;> subst e
    · exact ⟨_, g1, fun v q => nomatch q⟩
    · exact ⟨_, g2, fun v q => nomatch q⟩
    · exact ⟨_, g3, fun v q => nomatch q⟩
    · exact ⟨_, g4, fun v q => by rw [d4] at q; cases q⟩
    · exact ⟨_, g5, fun v q => by rw [d5] at q; cases q⟩
  keep := fun i h h' st k => by
    obtain ⟨g1, g2, ⟨u, v, g3⟩, ⟨o4, g4, r4⟩, ⟨o5, g5, r5⟩⟩ := st
    exact ⟨k z (by simp) _ g1, k TI (by simp) _ g2, ⟨u, v, k TO (by simp) _ g3⟩, ⟨o4, k i1 (by simp) o4 g4, r4⟩, ⟨o5, k i2 (by simp) o5 g5, r5⟩⟩
  item := by
    intro X hP hw hK hc i pins s σ H E I hf st hg
    subst hP hw hK
    obtain ⟨xs, ys, x, y, qx, qy, ex, ey⟩ := hg
    obtain ⟨i1s, r1, p1, z1⟩ := I.tuple qx
    obtain ⟨i2s, r2, p2, z2⟩ := I.tuple qy
    obtain ⟨g1, g2, ⟨u, v, g3⟩, g4, g5⟩ := st
    obtain ⟨ux, hux, rr1⟩ := r1.get ex
    obtain ⟨uy, huy, rr2⟩ := r2.get ey
    have hw : ∀ c ∈ [z, TO, i1, i2], FpOk X pins H c := fun c hc => hf c (by simp only [List.mem_cons, List.not_mem_nil, or_false] at hc ⊢; first | (rcases hc with h | h | h | h <;> simp [h]) | simp [hc])
    refine zt_pyNext D g1 g2 g3 g4 g5 (show s.heap.IsTuple a i1s.toArray from p1) (show s.heap.IsTuple b i2s.toArray from p2) (x := ux) (y := uy) (by simpa using hux) (by simpa using huy) fun h1 a1 a2 a3 a4 a5 a6 hk => ?_
    have kk1 : ∀ c o, c ∉ [z, TO, i1, i2] → s.heap.get? c = some o → h1.get? c = some o := fun c o hc e => hk c o (fun q => hc (by simp [q])) (fun q => hc (by simp [q])) (fun q => hc (by simp [q])) (fun q => hc (by simp [q])) e
    have J1 : Inv X pins σ H { s with heap := h1, toks := s.toks } := I.turnedL kk1 hw
    refine ⟨.ref s.heap.objs.size, rfl, wpAny_letOwnedTupleGo_zip a1 fun h2 a1' sb => ?_⟩
    have J2 : Inv X pins σ H { s with heap := h2, toks := s.toks } := Inv.turnedL (s := { s with heap := h1, toks := s.toks }) (h' := h2) (t' := s.toks) (ch := [z]) J1 (fun c o hc e => sb.extBut _ _ (fun q => hc (by simp [q])) e) fun c hc => hf c (by simp only [List.mem_cons, List.not_mem_nil, or_false] at hc ⊢; first | (rcases hc with h | h | h | h <;> simp [h]) | simp [hc])
    have zlt : z < s.heap.objs.size := Heap.lt_size g1
    have ht2 : Tup0 h2 s.heap.objs.size #[ux, uy] := ⟨_, sb.extBut _ _ (Nat.ne_of_gt zlt) a5, rfl, _, rfl, rfl⟩
    obtain ⟨fT, J3⟩ := I.pairNew (Nat.le_refl _) J2 ht2 rr1 rr2
    refine ⟨.ref s.heap.objs.size, _, J3, rfl, ⟨_, x, y, rfl, fT, rfl, fun l hl => by rw [I.tuple_inj hl qx]; exact ex, fun l hl => by rw [I.tuple_inj hl qy]; exact ey⟩,
      ⟨a1', sb.extBut _ _ D.TIz (hk _ _ D.TIz D.TITO D.TIi1 D.TIi2 g2), ⟨_, _, sb.extBut _ _ D.TOz a2⟩, a3.extBut sb.extBut D.i1z, a4.extBut sb.extBut D.i2z⟩, fun c hc => ?_⟩
    rw [upd_ne (fun q => ?_)]
    · exact (hf c hc).1
    · have lt : c < s.heap.objs.size := by
        obtain ⟨o4, e4, _⟩ := g4
        obtain ⟨o5, e5, _⟩ := g5
        simp only [List.mem_cons, List.not_mem_nil, or_false] at hc
        rcases hc with e | e | e | e | e <;> subst e
        · exact Heap.lt_size g1
        · exact Heap.lt_size g2
        · exact Heap.lt_size g3
        · exact Heap.lt_size e4
        · exact Heap.lt_size e5
      exact absurd lt (by rw [q]; exact Nat.lt_irrefl _)
  done := by
    intro X hP hw hK hc i pins s σ H E I hf st hg
    subst hP hw hK
    obtain ⟨xs, ys, qx, qy, ei⟩ := hg
    obtain ⟨i1s, r1, p1, z1⟩ := I.tuple qx
    obtain ⟨i2s, r2, p2, z2⟩ := I.tuple qy
    obtain ⟨g1, g2, ⟨u, v, g3⟩, g4, g5⟩ := st
    have l1 := r1.length
    have l2 := r2.length
    refine zt_pyNext_end (I.ok.hd hc) D g1 g2 g3 g4 g5 (show s.heap.IsTuple a i1s.toArray from p1) (show s.heap.IsTuple b i2s.toArray from p2) ?_ fun h1 hk => ⟨rfl, I.turnedL (t' := s.toks) (ch := [z, TO, i1, i2]) (fun c o hc e => hk c o (fun q => hc (by simp [q])) (fun q => hc (by simp [q])) (fun q => hc (by simp [q])) (fun q => hc (by simp [q])) e) fun c hc => hf c (by simp only [List.mem_cons, List.not_mem_nil, or_false] at hc ⊢; first | (rcases hc with h | h | h | h <;> simp [h]) | simp [hc])⟩
    simp only [List.getElem?_toArray, List.getElem?_eq_none_iff]
    omega
  self := fun _ _ _ _ _ st h => wpAny_pyIter_zip st.1 h
theorem SqT.old {X : Cx} {pins : List (Addr × Obj)} {σ : St} {H : Hp} {s : Shared} {a : Addr} {xs : List V} (I : Inv X pins σ H s) (h : SqT X.K H a xs) : a < s.heap.objs.size := by
  obtain ⟨its, _, p, _⟩ := I.tuple h
  obtain ⟨o, e, _⟩ := p
  exact Heap.lt_size e
noncomputable def iZipT (K : PySem.W.Frag) (ta : TA) : TI := fun σ H R => ta σ H fun vs H1 => ∃ a b, vs = [.ref a, .ref b] ∧ (∃ xs, SqT K H1 a xs) ∧ (∃ ys, SqT K H1 b ys) ∧ R (Itzt K a b) H1
section
variable {X : Cx}
theorem pi_zipT {es : List Expr} {kk : Nat} {tp : Pos} {a b : Expr} {ta : TA} {p pos : Pos} (hg : Gl X "zip") (hm : X.mg "zip" = none) (ha : PA X [a, b] ta) (hs : autoParam (starEach [a, b] X.env = [(false, eval a X.env), (false, eval b X.env)]) L2.Internal.auR._auto_1) (hs2 : autoParam (starEach [b] X.env = [(false, eval b X.env)]) L2.Internal.auR._auto_1) :
    PI X (.Tuple es kk tp) (.Call (.Name "zip" p) [a, b] [] pos) (iZipT X.K ta) := by
  intro pins s σ H R I h
  refine Call_ (ld_blt I hg hm bt_zip (PyProof.Rows.callWith_type1 (thn (ha pos pins s σ H _ I h) fun us s1 ⟨vs, H1, I1, r1, q1⟩ => ?_) (by rw [hs, hs2]) (by rw [hs2]; rfl)))
  obtain ⟨l1, l2, e, ⟨xs, q1⟩, ⟨ys, q2⟩, q⟩ := q1
  subst e
  obtain ⟨u, v, rfl, ru, rv⟩ := vals2 r1
  cases ru
  cases rv
  obtain ⟨i1s, w1, p1, z1⟩ := I1.tuple q1
  obtain ⟨i2s, w2, p2, z2⟩ := I1.tuple q2
  have o1 : @LT.lt Nat _ l1 s1.heap.objs.size := SqT.old I1 q1
  have o2 : @LT.lt Nat _ l2 s1.heap.objs.size := SqT.old I1 q2
  refine call_zipT (show s1.heap.IsTuple l1 i1s.toArray from p1) (show s1.heap.IsTuple l2 i2s.toArray from p2) fun h1 hz hTI hTO hi1 hi2 hk => wpAny_pyIter_zip hz ?_
  have D : ZipApart (s1.heap.objs.size + 4) (s1.heap.objs.size + 2) (s1.heap.objs.size + 3) s1.heap.objs.size (s1.heap.objs.size + 1) l1 l2 := by constructor <;> exact fun (h : @Eq Nat _ _) => by omega
  refine ⟨_, _, _, _, H1, rfl, I1.kept (t' := s1.toks) hk, turn_zipT D, ⟨hz, hTI, ⟨_, _, hTO⟩, hi1, hi2⟩, fun c hc => ?_, q⟩
  have ge : s1.heap.objs.size ≤ c := by
    simp only [List.mem_cons, List.not_mem_nil, or_false] at hc
    rcases hc with h | h | h | h | h <;> rw [h] <;> first | exact Nat.le_refl _ | exact Nat.le_add_right _ _
  exact I1.fpOk ge (I1.hok.fresh ge)
end
end L2.Internal
namespace L2.Internal
open PySem PySem.Spec PyProof.Rows
section
variable {prog : Program} {w : World} {A : Around} {E : Value → Shared → Prop} {s : Shared}
end

inductive Prs (H : Hp) : List V → List (Str × V) → Prop
  | nil : Prs H [] []
  | cons {a : Addr} {p : Str × V} {l : List V} {m : List (Str × V)} : H a = some (.tup [.str p.1, p.2]) → Prs H l m → Prs H (.ref a :: l) (p :: m)
noncomputable def kf (p : Str × V) : Key × V := (Sum.inr p.1, p.2)
section
variable {X : Cx} {pins : List (Addr × Obj)} {σ : St} {H : Hp} {d it t : Addr} {vs : List V} {A : Around} {R : Result → Shared → Prop}
end
section
variable {X : Cx}
end
end L2.Internal
namespace BO.Internal
open PySem L2.Internal
noncomputable def rIsi (K : PySem.W.Frag) : List V → Hp → VK → Prop := fun xs H Q => ∃ x v c t b, xs = [x, v] ∧ (∀ u, RelV v u → u = c) ∧ TyOf K H x t ∧ PySem.W.kitOne K t c = some b ∧ Q (.bl b) H
theorem sz {n : Nat} (h : n ≤ 100000) : n ≤ sizeLine := Nat.le_trans h (by decide)
theorem same_new {H : Hp} {p : Addr} (h : H p = none) (o : HO) : Same H (upd H p o) := fun b u q => by rw [upd_ne (ne_of_none q h)]; exact q
theorem atI_lt {α : Type} (l : List α) (i : Int) (h0 : 0 ≤ i) (h1 : i < (l.length : Int)) : ∃ c, atI l i = some c ∧ c ∈ l := by
  have e : i = ((i.toNat : Nat) : Int) := by omega
  have hi : i.toNat < l.length := by omega
  refine ⟨l[i.toNat], ?_, List.getElem_mem hi⟩
  have z : atI l ((i.toNat : Nat) : Int) = some l[i.toNat] := atI_nat (List.getElem?_eq_getElem hi)
  rw [← e] at z
  exact z
noncomputable def flN : V → Bool
  | .non => true
  | .int _ => true
  | .str _ => true
  | _ => false
mutual
inductive Im (H : Hp) : V → Dt → Prop where
  | flat {v : V} (h : flN v = true) : Im H v (.flat v)
  | tup {a : Addr} {xs : List V} {ds : List Dt} (h : H a = some (.tup xs)) (hs : Ims H xs ds) : Im H (.ref a) (.tup ds)
inductive Ims (H : Hp) : List V → List Dt → Prop where
  | nil : Ims H [] []
  | cons {x : V} {d : Dt} {xs : List V} {ds : List Dt} (h : Im H x d) (hs : Ims H xs ds) : Ims H (x :: xs) (d :: ds)
end
mutual
inductive Dta (H : Hp) : V → Dt → Prop where
  | flat {v : V} (h : flN v = true) : Dta H v (.flat v)
  | tup {a : Addr} {xs : List V} {ds : List Dt} (h : H a = some (.tup xs)) (hs : Dtas H xs ds) : Dta H (.ref a) (.tup ds)
  | lst {a : Addr} {xs : List V} {ds : List Dt} (h : H a = some (.lst xs)) (hs : Dtas H xs ds) : Dta H (.ref a) (.lst ds)
inductive Dtas (H : Hp) : List V → List Dt → Prop where
  | nil : Dtas H [] []
  | cons {x : V} {d : Dt} {xs : List V} {ds : List Dt} (h : Dta H x d) (hs : Dtas H xs ds) : Dtas H (x :: xs) (d :: ds)
end
noncomputable def TK (H H' : Hp) : Prop := ∀ a xs, H a = some (.tup xs) → H' a = some (.tup xs)
theorem Same.tk {H H' : Hp} (s : Same H H') : TK H H' := fun a xs e => s a _ e
mutual
theorem Im.mono {H H' : Hp} (k : TK H H') : ∀ {v : V} {d : Dt}, Im H v d → Im H' v d
  | _, _, .flat h => .flat h
  | _, _, .tup h hs => .tup (k _ _ h) (Ims.mono k hs)
theorem Ims.mono {H H' : Hp} (k : TK H H') : ∀ {v : List V} {d : List Dt}, Ims H v d → Ims H' v d
  | _, _, .nil => .nil
  | _, _, .cons h hs => .cons (Im.mono k h) (Ims.mono k hs)
end
mutual
theorem Im.da {H : Hp} : ∀ {v : V} {d : Dt}, Im H v d → Dta H v d
  | _, _, .flat h => .flat h
  | _, _, .tup h hs => .tup h (Ims.das hs)
theorem Ims.das {H : Hp} : ∀ {v : List V} {d : List Dt}, Ims H v d → Dtas H v d
  | _, _, .nil => .nil
  | _, _, .cons h hs => .cons (Im.da h) (Ims.das hs)
end
mutual
theorem Dta.same {H H' : Hp} (k : Same H H') : ∀ {v : V} {d : Dt}, Dta H v d → Dta H' v d
  | _, _, .flat h => .flat h
  | _, _, .tup h hs => .tup (k _ _ h) (Dtas.same k hs)
  | _, _, .lst h hs => .lst (k _ _ h) (Dtas.same k hs)
theorem Dtas.same {H H' : Hp} (k : Same H H') : ∀ {v : List V} {d : List Dt}, Dtas H v d → Dtas H' v d
  | _, _, .nil => .nil
  | _, _, .cons h hs => .cons (Dta.same k h) (Dtas.same k hs)
end
theorem Dtas.length {H : Hp} : ∀ {xs : List V} {ds : List Dt}, Dtas H xs ds → xs.length = ds.length
  | _, _, .nil => rfl
  | _, _, .cons _ t => by rw [List.length_cons, List.length_cons, Dtas.length t]
theorem Ims.length {H : Hp} : ∀ {xs : List V} {ds : List Dt}, Ims H xs ds → xs.length = ds.length
  | _, _, .nil => rfl
  | _, _, .cons _ t => by rw [List.length_cons, List.length_cons, Ims.length t]
theorem Dtas.get {H : Hp} : ∀ {xs : List V} {ds : List Dt} {j : Nat} {x : V}, Dtas H xs ds → xs[j]? = some x → ∃ d, ds[j]? = some d ∧ Dta H x d
  | _, _, 0, _, .cons h _, e => ⟨_, rfl, by cases e; exact h⟩
  | _, _, j + 1, _, .cons _ t, e => by
    rw [List.getElem?_cons_succ] at e
    obtain ⟨d, e1, e2⟩ := Dtas.get t e
    exact ⟨d, by rw [List.getElem?_cons_succ]; exact e1, e2⟩
theorem depDs_get : ∀ {l : List Dt} {j : Nat} {a : Dt}, l[j]? = some a → depD a ≤ depDs l
  | x :: xs, 0, a, h => by
    cases h
    exact Nat.le_max_left _ _
  | x :: xs, j + 1, a, h => by
    rw [List.getElem?_cons_succ] at h
    exact Nat.le_trans (depDs_get h) (Nat.le_max_right _ _)
theorem Ims.app {H : Hp} : ∀ {xs ys : List V} {ds es : List Dt}, Ims H xs ds → Ims H ys es → Ims H (xs ++ ys) (ds ++ es)
  | _, _, _, _, .nil, h => h
  | _, _, _, _, .cons a b, h => .cons a (Ims.app b h)
inductive All2 {α β : Type} (F : α → β → Prop) : List α → List β → Prop
  | nil : All2 F [] []
  | cons {a : α} {b : β} {l : List α} {m : List β} : F a b → All2 F l m → All2 F (a :: l) (b :: m)
theorem All2.imp {α β : Type} {F G : α → β → Prop} (f : ∀ a b, F a b → G a b) : ∀ {l : List α} {m : List β}, All2 F l m → All2 G l m
  | _, _, .nil => .nil
  | _, _, .cons h t => .cons (f _ _ h) (All2.imp f t)
theorem All2.snoc {α β : Type} {F : α → β → Prop} {a : α} {b : β} (h : F a b) : ∀ {l : List α} {m : List β}, All2 F l m → All2 F (l ++ [a]) (m ++ [b])
  | _, _, .nil => .cons h .nil
  | _, _, .cons x t => .cons x (All2.snoc h t)
theorem All2.length {α β : Type} {F : α → β → Prop} : ∀ {l : List α} {m : List β}, All2 F l m → l.length = m.length
  | _, _, .nil => rfl
  | _, _, .cons _ t => by rw [List.length_cons, List.length_cons, All2.length t]
theorem All2.get {α β : Type} {F : α → β → Prop} : ∀ {l : List α} {m : List β} {j : Nat} {x : α}, All2 F l m → l[j]? = some x → ∃ y, m[j]? = some y ∧ F x y
  | _, _, 0, _, .cons h _, e => ⟨_, rfl, by cases e; exact h⟩
  | _, _, j + 1, _, .cons _ t, e => by
    rw [List.getElem?_cons_succ] at e
    obtain ⟨d, e1, e2⟩ := All2.get t e
    exact ⟨d, by rw [List.getElem?_cons_succ]; exact e1, e2⟩

mutual
noncomputable def okD : Dt → Prop
  | .flat _ => True
  | .tup l => l.length ≤ 100000 ∧ okDs l
  | .lst l => l.length ≤ 100000 ∧ okDs l
noncomputable def okDs : List Dt → Prop
  | [] => True
  | x :: xs => okD x ∧ okDs xs
end
theorem okDs_get : ∀ {l : List Dt} {j : Nat} {a : Dt}, okDs l → l[j]? = some a → okD a
  | x :: xs, 0, a, o, h => by
    cases h
    exact o.1
  | x :: xs, j + 1, a, o, h => by
    rw [List.getElem?_cons_succ] at h
    exact okDs_get o.2 h
theorem okDs_map {α : Type} {f : α → Dt} : ∀ {l : List α}, (∀ x ∈ l, okD (f x)) → okDs (l.map f)
  | [], _ => trivial
  | x :: xs, h => ⟨h x (by simp), okDs_map fun y hy => h y (by simp [hy])⟩
theorem depDs_map {α : Type} {f : α → Dt} {n : Nat} : ∀ {l : List α}, (∀ x ∈ l, depD (f x) ≤ n) → depDs (l.map f) ≤ n
  | [], _ => Nat.zero_le _
  | x :: xs, h => Nat.max_le.mpr ⟨h x (by simp), depDs_map fun y hy => h y (by simp [hy])⟩

noncomputable def prL (p : Str × Int) : Dt := .tup [.flat (.str p.1), .flat (.int p.2)]
noncomputable def prD (l : List (Str × Int)) : Dt := .tup (l.map prL)
inductive Us where
  | num (a p s : Int)
  | call (a p s x y : Int)
  | take (a p s : Int) (l : List (Str × Int))
  | case (a p s : Int) (l : List (Str × Int))
  | row (a p s x : Int)
noncomputable def hdD (n : Str) (a p s : Int) : List Dt := [.flat (.str n), .flat (.int a), .flat (.int p), .flat (.int s)]
noncomputable def Us.d : Us → Dt
  | .num a p s => .tup (hdD "num" a p s)
  | .call a p s x y => .tup (hdD "call" a p s ++ [.flat (.int x), .flat (.int y)])
  | .take a p s l => .tup (hdD "take" a p s ++ [prD l])
  | .case a p s l => .tup (hdD "case" a p s ++ [prD l])
  | .row a p s x => .tup (hdD "row" a p s ++ [.flat (.int x)])
noncomputable def Us.ok : Us → Prop
  | .take _ _ _ l => l.length ≤ 10
  | .case _ _ _ l => l.length ≤ 10
  | _ => True
structure Mkg where
  s : Str
  f : Dt
  a : Int
  p : Int
noncomputable def Mkg.d (m : Mkg) : Dt := .tup [.flat (.str m.s), m.f, .flat (.int m.a), .flat (.int m.p)]
theorem prD_dep (l : List (Str × Int)) : depD (prD l) ≤ 2 := by
  have h : ∀ l : List (Str × Int), depDs (l.map prL) ≤ 1 := by
    intro l
    induction l with
    | nil => exact Nat.zero_le _
    | cons x t ih => exact Nat.max_le.mpr ⟨by simp [prL, depD, depDs], ih⟩
  exact Nat.succ_le_succ (h l)
theorem Us.dep (u : Us) : depD u.d ≤ 3 := by
  cases u with
  | num a p s => simp [Us.d, hdD, depD, depDs]
  | call a p s x y => simp [Us.d, hdD, depD, depDs]
  | take a p s l => have := prD_dep l; simp [Us.d, hdD, depD, depDs]; omega
  | case a p s l => have := prD_dep l; simp [Us.d, hdD, depD, depDs]; omega
  | row a p s x => simp [Us.d, hdD, depD, depDs]

theorem prD_ok {l : List (Str × Int)} (h : l.length ≤ 10) : okD (prD l) := ⟨by rw [List.length_map]; omega, okDs_map fun x _ => ⟨by show 2 ≤ 100000; decide, trivial, trivial, trivial⟩⟩
theorem Us.okd {u : Us} (h : u.ok) : okD u.d := by
  cases u with
  | num a p s => exact ⟨by show 4 ≤ 100000; decide, trivial, trivial, trivial, trivial, trivial⟩
  | call a p s x y => exact ⟨by show 6 ≤ 100000; decide, trivial, trivial, trivial, trivial, trivial, trivial, trivial⟩
  | take a p s l => exact ⟨by show 5 ≤ 100000; decide, trivial, trivial, trivial, trivial, prD_ok h, trivial⟩
  | case a p s l => exact ⟨by show 5 ≤ 100000; decide, trivial, trivial, trivial, trivial, prD_ok h, trivial⟩
  | row a p s x => exact ⟨by show 5 ≤ 100000; decide, trivial, trivial, trivial, trivial, trivial, trivial⟩

noncomputable def fU (a p s : V) : List (Str × V) := [("at", a), ("place", p), ("slot", s)]
noncomputable def fU1 (n : Str) (a p s x : V) : List (Str × V) := [("at", a), ("place", p), ("slot", s), (n, x)]
noncomputable def fU2 (a p s x y : V) : List (Str × V) := [("at", a), ("place", p), ("slot", s), ("arg", x), ("out", y)]
noncomputable def fM (s f a p : V) : List (Str × V) := [("shape", s), ("parts", f), ("at", a), ("place", p)]
noncomputable def fB (p0 p1 p2 p3 : Addr) (r : V) : List (Str × V) := [("points", .ref p0), ("makes", .ref p1), ("uses", .ref p2), ("flows", .ref p3), ("root", r)]
structure Cs where
  M : Addr
  N : Addr
  C : Addr
  T : Addr
  K : Addr
  R : Addr
  B : Addr
noncomputable def UsAt (c : Cs) (H : Hp) (v : V) : Us → Prop
  | .num a p s => ∃ x dx, v = .ref x ∧ H x = some (.ins c.N dx (fU (.int a) (.int p) (.int s)))
  | .call a p s y z => ∃ x dx, v = .ref x ∧ H x = some (.ins c.C dx (fU2 (.int a) (.int p) (.int s) (.int y) (.int z)))
  | .take a p s l => ∃ x dx f, v = .ref x ∧ H x = some (.ins c.T dx (fU1 "fields" (.int a) (.int p) (.int s) f)) ∧ Im H f (prD l) ∧ l.length ≤ 10
  | .case a p s l => ∃ x dx f, v = .ref x ∧ H x = some (.ins c.K dx (fU1 "arms" (.int a) (.int p) (.int s) f)) ∧ Im H f (prD l) ∧ l.length ≤ 10
  | .row a p s y => ∃ x dx, v = .ref x ∧ H x = some (.ins c.R dx (fU1 "out" (.int a) (.int p) (.int s) (.int y)))
noncomputable def MkAt (c : Cs) (H : Hp) (v : V) (m : Mkg) : Prop := ∃ x dx f, v = .ref x ∧ H x = some (.ins c.M dx (fM (.str m.s) f (.int m.a) (.int m.p))) ∧ Im H f m.f ∧ depD m.f ≤ 2 ∧ okD m.f
noncomputable def Fz : HO → Prop
  | .tup _ => True
  | .ins _ _ fs => fs.length ≠ 5 ∨ ∃ v r, fs = (("at" : Str), v) :: r
  | _ => False
noncomputable def FK (H H' : Hp) : Prop := ∀ a o, H a = some o → Fz o → H' a = some o
theorem FK.tk {H H' : Hp} (k : FK H H') : TK H H' := fun a xs e => k a _ e trivial
theorem Same.fk {H H' : Hp} (s : Same H H') : FK H H' := fun a o e _ => s a o e
theorem FK.trans {H H1 H2 : Hp} (a : FK H H1) (b : FK H1 H2) : FK H H2 := fun c o e f => b c o (a c o e f) f
theorem UsAt.mono {c : Cs} {H H' : Hp} {v : V} (k : FK H H') : ∀ {u : Us}, UsAt c H v u → UsAt c H' v u
  | .num _ _ _, ⟨x, dx, e, h⟩ => ⟨x, dx, e, k _ _ h (.inr ⟨_, _, rfl⟩)⟩
  | .call _ _ _ _ _, ⟨x, dx, e, h⟩ => ⟨x, dx, e, k _ _ h (.inr ⟨_, _, rfl⟩)⟩
  | .take _ _ _ _, ⟨x, dx, f, e, h, i, n⟩ => ⟨x, dx, f, e, k _ _ h (.inr ⟨_, _, rfl⟩), i.mono k.tk, n⟩
  | .case _ _ _ _, ⟨x, dx, f, e, h, i, n⟩ => ⟨x, dx, f, e, k _ _ h (.inr ⟨_, _, rfl⟩), i.mono k.tk, n⟩
  | .row _ _ _ _, ⟨x, dx, e, h⟩ => ⟨x, dx, e, k _ _ h (.inr ⟨_, _, rfl⟩)⟩
theorem UsAt.ok {c : Cs} {H : Hp} {v : V} : ∀ {u : Us}, UsAt c H v u → u.ok
  | .num _ _ _, _ => trivial
  | .call _ _ _ _ _, _ => trivial
  | .take _ _ _ _, ⟨_, _, _, _, _, _, n⟩ => n
  | .case _ _ _ _, ⟨_, _, _, _, _, _, n⟩ => n
  | .row _ _ _ _, _ => trivial
theorem MkAt.mono {c : Cs} {H H' : Hp} {v : V} {m : Mkg} (k : FK H H') : MkAt c H v m → MkAt c H' v m
  | ⟨x, dx, f, e, h, i, d⟩ => ⟨x, dx, f, e, k _ _ h (.inl (by show 4 ≠ 5; decide)), i.mono k.tk, d⟩

theorem lc_gen {J : It} {i : Nat} {te : TE} {Q : VK} {τ : St} {H1 : Hp} {D : Addr} (n : Nat) (hn : n < sizeLine) (R : List V → Hp → Prop) (hR : ∀ xs H H', R xs H → TK H H' → R xs H') (hD : H1 D = none) (hτ : τ.set i none = τ)
    (hgo : ∀ k H, Same H1 H → k < n → J.go k H) (hst : ∀ H, Same H1 H → J.stop n H) (h0 : R [] H1)
    (step : ∀ k H v H3 xs (Z : VK), Same H1 H → k < n → J.yld k H v H3 → R xs H → xs.length = k → (∀ y H5, Same H H5 → R (xs ++ [y]) H5 → Z y H5) → te (τ.set i (some v)) H3 Z)
    (hq : ∀ H' xs, Same H1 H' → R xs H' → xs.length = n → H' D = some (.lst xs) → Q (.ref D) H') : LcP J i tAlways te Q τ H1 D := by
  have nd : ∀ (H5 : Hp) (xs ys : List V), H5 D = some (.lst xs) → TK H5 (upd H5 D (.lst ys)) := fun H5 xs ys e a zs q => by rw [upd_ne (ne_of q e (fun z => nomatch z))]; exact q
  have up : ∀ {H : Hp} (o : HO), Same H1 H → Same H1 (upd H D o) := fun {H} o S b u e => by rw [upd_ne (ne_of_none e hD)]; exact S b u e
  refine ⟨fun k m σ' H2 => m = n - k ∧ k ≤ n ∧ (∃ o, σ' = τ.set i o) ∧ Same H1 H2 ∧ ∃ xs, H2 D = some (.lst xs) ∧ xs.length = k ∧ R xs H2, ⟨n, by simp, Nat.zero_le _, ⟨none, hτ.symm⟩, same_new hD _, [], upd_same, rfl, hR _ _ _ h0 (Same.tk (same_new hD _))⟩, ?_⟩
  rintro k m σ' H2 ⟨rfl, hk, ⟨o, rfl⟩, S, xs, e, hl, hr⟩
  by_cases hlt : k < n
  · refine .inr ⟨hgo k H2 S hlt, fun v H3 y => ?_⟩
    rw [List.set_set]
    refine step k H2 v H3 xs _ S hlt y hr hl fun y H5 S5 r5 => ?_
    refine ⟨xs, S5 D _ e, by omega, n - (k + 1), by omega, rfl, hlt, ⟨some v, rfl⟩, up _ (S.trans S5), xs ++ [y], upd_same, by rw [List.length_append, hl]; rfl, hR _ _ _ r5 (nd H5 _ _ (S5 D _ e))⟩
  · have e1 : k = n := by omega
    subst e1
    exact .inl ⟨hst H2 S, hq H2 xs S hr hl e⟩
theorem go_lst {K : PySem.W.Frag} {a : Addr} {xs : List V} {k : Nat} {H1 H : Hp} (e : H1 a = some (.lst xs)) (S : Same H1 H) (h : k < xs.length) : (Itl K a).go k H := ⟨xs, xs[k], SqL.of (S a _ e), List.getElem?_eq_getElem h⟩
theorem st_lst {K : PySem.W.Frag} {a : Addr} {xs : List V} {H1 H : Hp} (e : H1 a = some (.lst xs)) (S : Same H1 H) : (Itl K a).stop xs.length H := ⟨xs, SqL.of (S a _ e), Nat.le_refl _⟩
theorem go_tup {K : PySem.W.Frag} {a : Addr} {xs : List V} {k : Nat} {H1 H : Hp} (e : H1 a = some (.tup xs)) (S : Same H1 H) (h : k < xs.length) : (Itt K a).go k H := ⟨xs, xs[k], SqT.of (S a _ e), List.getElem?_eq_getElem h⟩
theorem st_tup {K : PySem.W.Frag} {a : Addr} {xs : List V} {H1 H : Hp} (e : H1 a = some (.tup xs)) (S : Same H1 H) : (Itt K a).stop xs.length H := ⟨xs, SqT.of (S a _ e), Nat.le_refl _⟩
inductive Ls (H : Hp) : List Addr → List (List V) → Prop
  | nil : Ls H [] []
  | cons {a : Addr} {c : List V} {l : List Addr} {m : List (List V)} : H a = some (.lst c) → Ls H l m → Ls H (a :: l) (c :: m)
theorem Ls.frame {H H' : Hp} {M : List Addr} (k : ∀ a o, H a = some o → a ∉ M → H' a = some o) : ∀ {l : List Addr} {m : List (List V)}, Ls H l m → (∀ a ∈ l, a ∉ M) → Ls H' l m
  | _, _, .nil, _ => .nil
  | _, _, .cons (a := a) h t, n => .cons (k _ _ h (n a (by simp))) (Ls.frame k t fun b hb => n b (by simp [hb]))
theorem Ls.get {H : Hp} : ∀ {l : List Addr} {m : List (List V)} {i : Nat} {a : Addr}, Ls H l m → l[i]? = some a → ∃ c, m[i]? = some c ∧ H a = some (.lst c)
  | _, _, 0, _, .cons h _, e => ⟨_, rfl, by cases e; exact h⟩
  | _, _, j + 1, _, .cons _ t, e => by
    rw [List.getElem?_cons_succ] at e
    obtain ⟨d, e1, e2⟩ := Ls.get t e
    exact ⟨d, by rw [List.getElem?_cons_succ]; exact e1, e2⟩
structure Sd where
  b : Addr
  dx : Addr
  p0 : Addr
  p1 : Addr
  p2 : Addr
  p3 : Addr
  d : Addr
  q0 : Addr
  q1 : Addr
  q2 : Addr
  q3 : Addr
noncomputable def Sd.ls (S : Sd) : List Addr := [S.p0, S.p1, S.p2, S.p3, S.d, S.q0, S.q1, S.q2, S.q3]
structure Bd where
  pts : List Int
  mks : List Mkg
  uss : List Us
  fls : List (Int × Int)
  root : Int
noncomputable def flD (p : Int × Int) : Dt := .tup [.flat (.int p.1), .flat (.int p.2)]
structure BSx (c : Cs) (H : Hp) (S : Sd) (E D : Bd) : Prop where
  nd : S.ls.Nodup
  ob : H S.b = some (.ins c.B S.dx (fB S.p0 S.p1 S.p2 S.p3 (.int D.root)))
  st : ∃ mv uv fv mv' uv' fv' : List V, Ls H S.ls [D.pts.map V.int, mv, uv, fv, [.ref S.q0, .ref S.q1, .ref S.q2, .ref S.q3, .int E.root], E.pts.map V.int, mv', uv', fv'] ∧
    All2 (MkAt c H) mv D.mks ∧ All2 (UsAt c H) uv D.uss ∧ Ims H fv (D.fls.map flD) ∧ Ims H mv' (E.mks.map Mkg.d) ∧ Ims H uv' (E.uss.map Us.d) ∧ Ims H fv' (E.fls.map flD)
theorem Ls.at {H : Hp} {l : List Addr} {m : List (List V)} (L : Ls H l m) {i : Nat} {a : Addr} {c : List V} (h1 : l[i]? = some a) (h2 : m[i]? = some c) : H a = some (.lst c) := by
  obtain ⟨d, e1, e2⟩ := L.get h1
  rw [h2] at e1
  cases e1
  exact e2
theorem fk_lst {H : Hp} {a : Addr} {xs : List V} {o : HO} (h : H a = some (.lst xs)) : FK H (upd H a o) := fun b u e f => by
  rw [upd_ne (ne_of e h (fun z => by rw [z] at f; exact f))]
  exact e
theorem fk_board {H : Hp} {a C dx p0 p1 p2 p3 : Addr} {r : V} {o : HO} (h : H a = some (.ins C dx (fB p0 p1 p2 p3 r))) : FK H (upd H a o) := fun b u e f => by
  rw [upd_ne (ne_of e h (fun z => by
    rw [z] at f
    rcases f with f | ⟨v, r, f⟩
    · exact f rfl
    · injection f with f _
      injection f with f _
      exact absurd f (by decide +kernel)))]
  exact e
section
variable {c : Cs} {H H' : Hp} {S : Sd} {E D : Bd}
theorem BSx.frame {M : List Addr} (B : BSx c H S E D) (k : ∀ a o, H a = some o → a ∉ M → H' a = some o) (hb : S.b ∉ M) (hl : ∀ a ∈ S.ls, a ∉ M) (fk : FK H H') : BSx c H' S E D := by
  obtain ⟨nd, ob, mv, uv, fv, mv', uv', fv', L, h1, h2, h3, h4, h5, h6⟩ := B
  exact ⟨nd, k _ _ ob hb, mv, uv, fv, mv', uv', fv', L.frame k hl, h1.imp fun _ _ => MkAt.mono fk, h2.imp fun _ _ => UsAt.mono fk, h3.mono fk.tk, h4.mono fk.tk, h5.mono fk.tk, h6.mono fk.tk⟩
end
theorem BSx.hl {c : Cs} {H : Hp} {S : Sd} {E D : Bd} {l : Addr} {xs : List V} {o : HO} (B : BSx c H S E D) (hn : l ∉ S.ls) (e : H l = some (.lst xs)) : BSx c (upd H l o) S E D := by
  refine B.frame (M := [l]) (fun a u q n => ?_) (fun z => ?_) (fun a ha z => ?_) (fk_lst e)
  · rw [upd_ne (fun z => n (by simp [z]))]; exact q
  · have z' : S.b = l := by simpa using z
    have q := B.ob
    rw [z', e] at q
    cases q
  · have z' : a = l := by simpa using z
    rw [z'] at ha
    exact hn ha
noncomputable def Bd.sm (D : Bd) (n : Nat) : Prop := D.pts.length ≤ n ∧ D.mks.length ≤ n ∧ D.uss.length ≤ n ∧ D.fls.length ≤ n
noncomputable def Hld (c : Cs) (H : Hp) (l : Addr) : Prop := H l = some (.lst []) ∨ ∃ x t u, H l = some (.lst [x, t]) ∧ UsAt c H x u ∧ Im H t (Us.d u)
noncomputable def Frm (M : List Addr) (H H' : Hp) : Prop := ∀ a o, H a = some o → a ∉ M → H' a = some o
theorem Frm.trans {M : List Addr} {H H1 H2 : Hp} (a : Frm M H H1) (b : Frm M H1 H2) : Frm M H H2 := fun c o e n => b c o (a c o e n) n
theorem Frm.same {M : List Addr} {H H' : Hp} (s : Same H H') : Frm M H H' := fun a o e _ => s a o e
theorem Frm.upd {M : List Addr} {H : Hp} {a : Addr} {o : HO} (h : a ∈ M) : Frm M H (upd H a o) := fun b u e n => by rw [upd_ne (fun z => n (by rw [z]; exact h))]; exact e
noncomputable def bdD (D : Bd) : Dt := .lst [.lst (D.pts.map fun i => .flat (.int i)), .lst (D.mks.map Mkg.d), .lst (D.uss.map Us.d), .lst (D.fls.map flD), .flat (.int D.root)]
theorem dtas_ints (H : Hp) : ∀ l : List Int, Dtas H (l.map V.int) (l.map fun i => .flat (.int i))
  | [] => .nil
  | _ :: t => .cons (.flat rfl) (dtas_ints H t)
theorem All2.right {α β : Type} {F : α → β → Prop} : ∀ {l : List α} {m : List β}, All2 F l m → ∀ y ∈ m, ∃ x, F x y
  | _, _, .nil, y, h => by simp at h
  | _, _, .cons f t, y, h => by
    rcases List.mem_cons.mp h with z | z
    · rw [z]; exact ⟨_, f⟩
    · exact All2.right t y z
end BO.Internal
namespace BO.Internal
open PySem L2.Internal
noncomputable def lk : List (Str × Int) → Str → Option Int
  | [], _ => none
  | p :: t, w => if p.1 = w then some p.2 else lk t w
noncomputable def pI (p : Str × Int) : Str × V := (p.1, .int p.2)
noncomputable def Dist (l : List (Str × Int)) : Prop := (l.map Prod.fst).Nodup
inductive Mf where
  | num
  | fn (x y : Int)
  | rcd (l : List (Str × Int))
  | tag (w : Str) (x : Int)
  | row (x : Int)
  | any
noncomputable def Mf.s : Mf → Str
  | .num => "num"
  | .fn _ _ => "fn"
  | .rcd _ => "rec"
  | .tag _ _ => "tag"
  | .row _ => "row"
  | .any => "any"
noncomputable def Mf.f : Mf → Dt
  | .num => .tup []
  | .fn x y => .tup [.flat (.int x), .flat (.int y)]
  | .rcd l => prD l
  | .tag w x => .tup [.flat (.str w), .flat (.int x)]
  | .row x => .tup [.flat (.int x)]
  | .any => .tup []
noncomputable def Mf.ok : Mf → Prop
  | .rcd l => l.length ≤ 10 ∧ Dist l
  | _ => True
noncomputable def mkg (m : Mf) (a p : Int) : Mkg := ⟨m.s, m.f, a, p⟩
noncomputable def Us.dist : Us → Prop
  | .take _ _ _ l => Dist l
  | .case _ _ _ l => Dist l
  | _ => True
noncomputable def fnd (m : List (Str × Int)) (p : Str × Int) : Option (Int × Int) := (lk m p.1).map fun x => (x, p.2)
noncomputable def taken (l m : List (Str × Int)) : Option (List (Int × Int)) := if (l.filterMap (fnd m)).length = l.length then some (l.filterMap (fnd m)) else none
noncomputable def meet : Us → Mf → Option (List (Int × Int))
  | .num _ _ _, .num => some []
  | .call _ _ _ x y, .fn a b => some [(x, a), (b, y)]
  | .take _ _ _ l, .rcd m => taken l m
  | .case _ _ _ l, .tag w x => (lk l w).map fun y => [(x, y)]
  | .row _ _ _ y, .row x => some [(x, y)]
  | _, _ => none
noncomputable def mtD : Option (List (Int × Int)) → Dt
  | none => .flat .non
  | some l => .lst (l.map flD)
end BO.Internal
namespace L2.Internal
open PySem PySem.Spec PyProof.Rows
section
variable {X : Cx} {e a b o f : Expr} {st : Stmt} {ta tb td ty tx to : TE} {pos apos cpos : Pos}
theorem PE.weak {t t' : TE} (h : PE X e t) (m : ∀ σ H Q, t' σ H Q → t σ H Q) : PE X e t' := fun pins s σ H Q I q => h pins s σ H Q I (m σ H Q q)
theorem PT.weak {t t' : TT} (h : PT X e t) (m : ∀ σ H Q, t' σ H Q → t σ H Q) : PT X e t' := fun pins s σ H Q I q => h pins s σ H Q I (m σ H Q q)
theorem OpR.weak {g : Value → Value → Sem Value} {r r' : R2} (h : OpR X g r) (m : ∀ x y H Q, r' x y H Q → r x y H Q) : OpR X g r' := fun pins s σ H x y v u Q I rx ry q => h pins s σ H x y v u Q I rx ry (m x y H Q q)
theorem IxR.weak {r r' : R2} (h : IxR X r) (m : ∀ x y H Q, r' x y H Q → r x y H Q) : IxR X r' := fun value slice pins s σ H x y v u Q I rx ry q hs => h value slice pins s σ H x y v u Q I rx ry (m x y H Q q) hs
noncomputable def mT (t : TE) : TE := fun σ H Q => ∃ Q0 : VK, t σ H Q0 ∧ ∀ x H1, Q0 x H1 → Q x H1
theorem PE.mono {t : TE} (h : PE X e t) : PE X e (mT t) := fun pins s σ H Q I ⟨Q0, h0, m⟩ => thn (h pins s σ H Q0 I h0) fun v s1 ⟨x, H1, I1, r1, q1⟩ => ⟨x, H1, I1, r1, m x H1 q1⟩
noncomputable def mR (r : R2) : R2 := fun x y H Q => ∃ Q0 : VK, r x y H Q0 ∧ ∀ x H1, Q0 x H1 → Q x H1
theorem OpR.mono {g : Value → Value → Sem Value} {r : R2} (h : OpR X g r) : OpR X g (mR r) := fun pins s σ H x y v u Q I rx ry ⟨Q0, h0, m⟩ => thn (h pins s σ H x y v u Q0 I rx ry h0) fun v s1 ⟨x, H1, I1, r1, q1⟩ => ⟨x, H1, I1, r1, m x H1 q1⟩
noncomputable def onV : Option (Option V) → (V → Prop) → Prop
  | some (some v), k => k v
  | _, _ => False
noncomputable def onS {α : Type} : Option α → (α → Prop) → Prop
  | some v, k => k v
  | none, _ => False
theorem onS_of {α : Type} {x : Option α} {v : α} {k : α → Prop} (h : x = some v) (q : k v) : onS x k := by rw [h]; exact q
theorem onS_ex {α : Type} {x : Option α} {k : α → Prop} (h : onS x k) : ∃ v, x = some v ∧ k v := by
  cases x with
  | none => exact h.elim
  | some v => exact ⟨v, rfl, h⟩
noncomputable def cV (i : Nat) : TE := fun σ H Q => onV σ[i]? fun v => Q v H
theorem cv (i : Nat) {x : Str} {pos : Pos} (hN : autoParam (X.N[i]? = some x) L2.Internal.auR._auto_1) (hv : Vis X.env.scope x := by first | exact Or.inl rfl | exact Or.inr (Or.inl rfl) | exact Or.inr (Or.inr rfl)) (hd : autoParam ((x == ("__debug__" : Str)) = false) L2.Internal.auD._auto_1)
    (hcd : autoParam ((x == ("__classdict__" : Str)) = false) L2.Internal.auD._auto_1) : PE X (.Name x pos) (cV i) := (pv i hN hv hd hcd).weak fun σ H Q h => by
  unfold cV at h
  cases q : σ[i]? with
  | none => rw [q] at h; exact h.elim
  | some o =>
    rw [q] at h
    cases o with
    | none => exact h.elim
    | some v => exact ⟨v, q, h⟩
noncomputable def cI0 (g : Int → Int → V) : R2 := fun x y H Q => match x, y with
  | .int i, .int j => Q (g i j) H
  | _, _ => False
noncomputable def cI (C : Int → Int → Prop) (g : Int → Int → V) : R2 := fun x y H Q => match x, y with
  | .int i, .int j => C i j ∧ Q (g i j) H
  | _, _ => False
theorem cI0_of {g : Int → Int → V} : ∀ x y H Q, cI0 g x y H Q → rI0 g x y H Q := fun x y H Q h => by
  unfold cI0 at h
  split at h
  · exact ⟨_, _, rfl, rfl, h⟩
  · exact h.elim
theorem cI_of {C : Int → Int → Prop} {g : Int → Int → V} : ∀ x y H Q, cI C g x y H Q → rI C g x y H Q := fun x y H Q h => by
  unfold cI at h
  split at h
  · exact ⟨_, _, rfl, rfl, h.1, h.2⟩
  · exact h.elim
theorem oc_add : OpR X (binaryOp .Add) (cI0 fun i j => .int (i + j)) := op_add.weak cI0_of
theorem oc_sub : OpR X (binaryOp .Sub) (cI0 fun i j => .int (i - j)) := op_sub.weak cI0_of
theorem oc_mul : OpR X (binaryOp .Mult) (cI CMul fun i j => .int (i * j)) := op_mul.weak cI_of
theorem oc_fdiv : OpR X (binaryOp .FloorDiv) (cI CDiv fun i j => .int (i / j)) := op_fdiv.weak cI_of
theorem oc_mod : OpR X (binaryOp .Mod) (cI (fun _ j => 0 < j) fun i j => .int (i % j)) := op_mod.weak cI_of
theorem oc_pow : OpR X (binaryOp .Pow) (cI CPow fun i j => .int (i ^ j.toNat)) := op_pow.weak cI_of
theorem oc_lt : OpR X (compareOp .Lt) (cI0 fun i j => .bl (decide (i < j))) := op_lt.weak cI0_of
theorem oc_gt : OpR X (compareOp .Gt) (cI0 fun i j => .bl (decide (j < i))) := op_gt.weak cI0_of
noncomputable def cEq (n : Bool) : R2 := fun x y H Q => match x, y with
  | .int i, .int j => Q (.bl (xor n (decide (i = j)))) H
  | .str i, .str j => Q (.bl (xor n (decide (i = j)))) H
  | _, _ => False
theorem decS {i j : Str} : decide (V.str i = V.str j) = decide (i = j) := by
  rw [Bool.eq_iff_iff]
  simp
theorem decI {i j : Int} : decide (V.int i = V.int j) = decide (i = j) := by
  rw [Bool.eq_iff_iff]
  simp
theorem oc_eq : OpR X (compareOp .Eq) (cEq false) := op_eq.weak fun x y H Q h => by
  unfold cEq at h
  split at h
  · refine ⟨rfl, ?_⟩; rw [decI]; rw [Bool.false_xor] at h; exact h
  · refine ⟨rfl, ?_⟩; rw [decS]; rw [Bool.false_xor] at h; exact h
  · exact h.elim
theorem oc_ne : OpR X (compareOp .NotEq) (cEq true) := op_ne.weak fun x y H Q h => by
  unfold cEq at h
  split at h
  · refine ⟨rfl, ?_⟩; rw [decI]; rw [Bool.true_xor] at h; exact h
  · refine ⟨rfl, ?_⟩; rw [decS]; rw [Bool.true_xor] at h; exact h
  · exact h.elim
noncomputable def onB : V → (Bool → Prop) → Prop
  | .bl k, q => q k
  | _, _ => False
theorem onB_ex {x : V} {k : Bool → Prop} (h : onB x k) : ∃ c, x = .bl c ∧ k c := by
  cases x <;> first | exact ⟨_, rfl, h⟩ | exact h.elim
noncomputable def cT (t : TE) : TT := fun σ H Q => t σ H fun x H' => onB x fun k => Q k H'
theorem ptc_cmpR {op : CmpOp} {r : R2} (ho : OpR X (compareOp op) r) (ha : PE X a ta) (hb : PE X b tb) (hm : behindInMarks op b = false) : PT X (.Compare a [op] [b] pos) (cT (tOp r ta tb)) :=
  (pt_cmpR ho.mono ha.mono hb.mono hm).weak fun σ H Q h => ⟨_, h, fun x H1 h1 => ⟨_, h1, fun y H2 h2 => ⟨_, h2, fun z H' h3 => onB_ex h3⟩⟩⟩
noncomputable def cIxL : R2 := fun x y H Q => match x, y with
  | .ref p, .int i => ∃ xs, H p = some (.lst xs) ∧ onS (atI xs i) fun v => Q v H
  | _, _ => False
noncomputable def cIxT : R2 := fun x y H Q => match x, y with
  | .ref p, .int i => ∃ xs, H p = some (.tup xs) ∧ onS (atI xs i) fun v => Q v H
  | _, _ => False
noncomputable def cIxS : R2 := fun x y H Q => match x, y with
  | .str z, .int i => z.length ≤ sizeLine ∧ onS (atI z.cps.toList i) fun c => Q (.str ⟨#[c]⟩) H
  | _, _ => False
theorem xc_list : IxR X cIxL := ix_list.weak fun x y H Q h => by
  unfold cIxL at h
  split at h
  · obtain ⟨xs, e, h⟩ := h
    obtain ⟨v, ev, h⟩ := onS_ex h
    exact ⟨_, xs, _, v, rfl, rfl, SqL.of e, ev, h⟩
  · exact h.elim
theorem xc_tup : IxR X cIxT := ix_tup.weak fun x y H Q h => by
  unfold cIxT at h
  split at h
  · obtain ⟨xs, e, h⟩ := h
    obtain ⟨v, ev, h⟩ := onS_ex h
    exact ⟨_, xs, _, v, rfl, rfl, SqT.of e, ev, h⟩
  · exact h.elim
noncomputable def Fd (H : Hp) (a C : Addr) (f : Str) (v : V) : Prop := ∃ dx fs, H a = some (.ins C dx fs) ∧ fs.lookup f = some v
noncomputable def Nf (H : Hp) (a C : Addr) (m : Str) : Prop := ∃ dx fs, H a = some (.ins C dx fs) ∧ fs.lookup m = none
noncomputable def cFld (C : Addr) (f : Str) (ta : TE) : TE := fun σ H Q => ta σ H fun x H1 => match x with
  | .ref a => ∃ v, Fd H1 a C f v ∧ Q v H1
  | _ => False
theorem pec_fld {C : Addr} {f : Str} (c : Cls X.K C) (n : NoAttr X.K C f) (he : PE X e ta) (hb : autoParam (attributeBase e f X.env (eval e X.env) = eval e X.env) L2.Internal.auR._auto_1) : PE X (.Attribute e f pos) (cFld C f ta) :=
  (pe_fld he.mono hb).weak fun σ H Q h => ⟨_, h, fun x H1 h1 => by
    cases x with
    | ref a =>
      obtain ⟨v, ⟨dx, fs, ea, ev⟩, q⟩ := h1
      exact ⟨a, C, dx, fs, v, rfl, ea, c, n, ev, q⟩
    | _ => exact h1.elim⟩
noncomputable def cMeth (C : Addr) (m : Str) (sp : Sp) (dvs : List V) (E : XK) (ta : TE) (t : TA) : TE := fun σ H Q => ta σ H fun x H1 => match x with
  | .ref a => Nf H1 a C m ∧ t σ H1 fun vs H2 => sp (.ref a :: (vs ++ dvs)) H2 Q E
  | _ => False
theorem pec_meth {C : Addr} {m : Str} {sp : Sp} {dvs : List V} {E : XK} {t : TA} (h : PE X e (tMeth C m sp dvs E (mT ta) t)) : PE X e (cMeth C m sp dvs E ta t) := h.weak fun σ H Q h => ⟨_, h, fun x H1 h1 => by
    cases x with
    | ref a =>
      obtain ⟨⟨dx, fs, ea, l⟩, q⟩ := h1
      exact ⟨a, dx, fs, rfl, ea, l, q⟩
    | _ => exact h1.elim⟩
noncomputable def csFld (C : Addr) (f : Str) (ta tv : TE) : TS := fun D σ H => tv σ H fun y H1 => ta σ H1 fun x H2 => match x with
  | .ref a => ∃ dx fs, H2 a = some (.ins C dx fs) ∧ fs.length < 1000 ∧ D.nx σ (upd H2 a (.ins C dx (putF f y fs)))
  | _ => False
noncomputable def cS : R2 := fun x y H Q => match x, y with
  | .str i, .str j => i.length + j.length ≤ sizeLine ∧ Q (.str (i ++ j)) H
  | _, _ => False
noncomputable def tDSet (td ty tx : TE) : TE := fun σ H Q => td σ H fun x H1 => ∃ a, x = .ref a ∧ IsD H1 a ∧ ty σ H1 fun y H2 => tx σ H2 fun z H3 => ∃ kvs k, H3 a = some (.dK kvs) ∧ y = kV k ∧ kvs.length < sizeLine ∧
  (∀ v, valV kvs k = some v → Q v H3) ∧ (valV kvs k = none → Q z (upd H3 a (.dK (putK kvs k z))))
noncomputable def cApp (to ta : TE) : TE := fun σ H Q => to σ H fun x H1 => match x with
  | .ref l => (∃ xs, H1 l = some (.lst xs)) ∧ ta σ H1 fun y H2 => ∃ xs, H2 l = some (.lst xs) ∧ xs.length < sizeLine ∧ Q .non (upd H2 l (.lst (xs ++ [y])))
  | _ => False
theorem pec_app (h : PE X e (tBM X.K "list" rAppend (mT to) (tCons (mT ta) tNil))) : PE X e (cApp to ta) := h.weak fun σ H Q h => ⟨_, h, fun x H1 h1 => by
    cases x with
    | ref l =>
      obtain ⟨⟨xs, e⟩, q⟩ := h1
      exact ⟨.inl ⟨rfl, xs, SqL.of e⟩, _, q, fun y H2 ⟨xs, e, hl, q2⟩ => ⟨l, xs, y, rfl, rfl, e, hl, q2⟩⟩
    | _ => exact h1.elim⟩
end
end L2.Internal
namespace BO.Internal
open PySem L2.Internal
noncomputable def wd : Bool → Str
  | true => "goes"
  | false => "here"
structure Rw where
  w : Bool
  a : Int
  b : Int
  y : Option (Int × Int)
noncomputable def Rw.k (r : Rw) : List Key := [.inr (wd r.w), .inl r.a, .inl r.b]
noncomputable def whyD : Option (Int × Int) → Dt
  | none => .flat .non
  | some p => flD p
noncomputable def Rw.d (r : Rw) : Dt := .tup [.flat (.str (wd r.w)), .flat (.int r.a), .flat (.int r.b), whyD r.y]
noncomputable def Rw.ok (N M : Int) (r : Rw) : Prop := 0 ≤ r.a ∧ (r.a < match r.w with | true => N | false => M) ∧ 0 ≤ r.b ∧ r.b < N
noncomputable def Rw.c (r : Rw) : Nat := (match r.w with | true => 0 | false => 4096) + r.a.toNat * 64 + r.b.toNat
noncomputable def ixn (A : Nat → Option Int) (p : Int) (n : Nat) : List Int := ((List.range n).filter fun j => decide (A j = some p)).map fun j => ((j : Nat) : Int)
noncomputable def bdn (A : Nat → Option Int) (q : Int → Bool) (p k : Int) (n : Nat) : List (Int × Int) := ((ixn A p n).filter q).map fun j => (k, j)
noncomputable def dueN (f : Rw → Int → List (Int × Int)) (R : List Rw) : Nat → List (Int × Int)
  | 0 => []
  | n + 1 => dueN f R n ++ match R[n]? with
    | some r => f r n
    | none => []
structure DL (H : Hp) (d : Addr) (L : List Addr) (f : Int → List V) (k : Nat) : Prop where
  ex : ∃ kvs : List (Key × V), H d = some (.dK kvs) ∧ kvs.length ≤ k ∧ (∀ p, valV kvs (.inl p) = none → f p = []) ∧
    (∀ p v, valV kvs (.inl p) = some v → ∃ l, l ∈ L ∧ v = .ref l ∧ H l = some (.lst (f p))) ∧ (∀ p q v, valV kvs (.inl p) = some v → valV kvs (.inl q) = some v → p = q)
noncomputable def putf (f : Int → List V) (p : Int) (x : V) : Int → List V := fun q => if q = p then f p ++ [x] else f q
structure Sda (H : Hp) (d : Addr) (L : List Addr) (f : Int → List V) (k : Nat) (p : Int) (l : Addr) (H1 : Hp) : Prop where
  here : H1 l = some (.lst (f p))
  fin : ∀ H2 x, Same H1 H2 → ∃ L', (∀ a ∈ L', a ∈ L ∨ a = l) ∧ DL (upd H2 l (.lst (f p ++ [x]))) d L' (putf f p x) (k + 1)
  fr : ∀ a o, H a = some o → a ≠ d → H1 a = some o
  own : l ∈ L ∨ H l = none
end BO.Internal
namespace BO.Internal
open PySem L2.Internal
open Classical in
noncomputable def putR (R : List Rw) (ρ : Rw) : List Rw := if ρ.k ∈ R.map Rw.k then R else R ++ [ρ]
noncomputable def putsR (R l : List Rw) : List Rw := l.foldl putR R
noncomputable def gosF (p : Int) (r : Rw) (n : Int) : List (Int × Int) := if r.w = true ∧ r.a = p then [(n, r.b)] else []
noncomputable def herF (p : Int) (r : Rw) (n : Int) : List (Int × Int) := if r.w = false ∧ r.b = p then [(n, r.a)] else []
end BO.Internal
namespace L2.Internal
open PySem PySem.Spec PyProof.Rows
section
variable {X : Cx}
noncomputable def rInD (K : PySem.W.Frag) : R2 := fun x y H Q => ∃ p xs ds d, y = .ref p ∧ SqL K H p xs ∧ Ats K H xs ds ∧ At K H x d ∧ (∀ e ∈ ds, cmpD e d = true ∧ depD e ≤ 100) ∧ (∃ (j : Nat) (e : Dt), ds[j]? = some e ∧ eqD e d = true) ∧ Q (.bl true) H
end
end L2.Internal
namespace L2.Internal
open PySem PySem.Spec PyProof.Rows
section
variable {X : Cx}
theorem bt_sorted : bootBuiltins "sorted" = some (.builtin "sorted") := by decide +kernel
theorem strs_to : ∀ {ss : List Str} {us : List Value}, Vals (ss.map V.str) us → StrsAre us ss
  | [], _, .nil => .nil
  | x :: ss, _, .cons h r => by
    obtain ⟨t, e⟩ := h
    cases e
    exact .cons x t (strs_to r)
theorem strs_from : ∀ {ss : List Str} {us : List Value}, StrsAre us ss → Vals (ss.map V.str) us
  | _, _, .nil => .nil
  | _, _, .cons y t r => .cons ⟨t, rfl⟩ (strs_from r)
theorem call_sortedS : CallR X (.builtin "sorted") (fun xs H Q => ∃ (a : Addr) (ss : List Str), xs = [.ref a] ∧ SqL X.K H a (ss.map V.str) ∧ ss.length < 64 ∧ ∀ (l : Addr) (ss' : List Str), H l = none → ss'.Perm ss → sortedS ss' = true → Q (.ref l) (upd H l (.lst (ss'.map V.str)))) := by
  intro pins s σ H xs us Q I r h
  obtain ⟨a, ss, rfl, hq, hlen, q⟩ := h
  obtain ⟨u, rfl, ru⟩ := vals1 r
  cases ru
  obtain ⟨its, rv, p, hz⟩ := I.list hq
  have l1 := rv.length
  rw [List.length_map] at l1
  refine sorted_strs p.isList (strs_to rv) (by omega) fun out ss' a1 a2 a3 => ?_
  obtain ⟨e, he⟩ := sortedAll_at s.heap its out
  have l2 := a2.length_eq
  have v2 := strs_from a1
  refine ⟨.ref (s.heap.objs.size + 1), _, I.laid (t' := s.toks) (a := s.heap.objs.size + 1) (o := .lst (ss'.map V.str)) (fun _ _ => sortedAll_old) (Nat.le_succ _) ⟨?_, out.toList, e, v2, he⟩, rfl, q _ ss' (I.hok.fresh (Nat.le_succ _)) a2 a3⟩
  rw [List.length_map] at hz ⊢
  omega
theorem blkC2 {scope : Scope} {x y : Str} (ns : List Str) (cap : List (Str × Nat × Addr)) (hns : cap.map (·.1) = ns) (hk : scope.kind = .function) (hn : ∀ p ∈ scope.names, p.2 ≠ .cell ∧ (p.2 = .free → p.1 ∈ ns)) (hl : ∀ y ∈ scope.names, y.2 = .local → scope.names.lookup y.1 = some .local)
    (hx : scope.names.lookup x = some .local) (hnd : (x :: y :: ns).Nodup) (hc : closureFor scope X.env = pure (cap.map fun p => (p.1, p.2.2))) (hok : X.env.scope.kind = .function)
    (h : ∀ p ∈ cap, scope.names.lookup p.1 = some .free ∧ X.env.cells.lookup p.1 = some p.2.2 ∧ X.env.scope.names.lookup p.1 = some .cell ∧ X.N[p.2.1]? = some p.1) :
    BlkOk X (x :: y :: ns) scope (cap.map fun p => (p.1, p.2.2)) (fun σ => none :: none :: cap.map fun p => σ.getD p.2.1 none) 0 x where
  kind := hk
  cell := fun y hy => (hn y hy).1
  names := hl
  clos := hc
  lk := fun z c q => by
    obtain ⟨p, hp, e⟩ := List.mem_map.mp (PySem.mem_of_lookup q)
    cases e
    exact (h p hp).2.1
  has := fun z q => by
    refine lookup_cap ?_
    rw [hns]
    rcases q with q | q
    · obtain ⟨k0, e, q⟩ := lookup_relabel q
      have m := hn _ (PySem.mem_of_lookup e)
      rcases q with q | ⟨q, _⟩
      · exact absurd q.symm m.1
      · exact m.2 q
    · obtain ⟨k0, e, q⟩ := lookup_relabel q
      have m := hn _ (PySem.mem_of_lookup e)
      rcases q with q | ⟨q, _⟩
      · exact m.2 q.symm
      · exact m.2 q
  nd := hnd
  ix := rfl
  loc := hx
  len := fun _ _ => by simp [← hns]
  val := fun σ k z v h1 h2 => by
    match k with
    | 0 => simp at h2
    | 1 => simp at h2
    | k + 2 =>
      rw [← hns, List.getElem?_cons_succ, List.getElem?_cons_succ, List.getElem?_map] at h1
      rw [List.getElem?_cons_succ, List.getElem?_cons_succ, List.getElem?_map] at h2
      cases e : cap[k]? with
      | none => rw [e] at h1; cases h1
      | some p =>
        rw [e] at h1 h2
        have ez : p.1 = z := Option.some.inj h1
        have ev : σ.getD p.2.1 none = some v := Option.some.inj h2
        subst ez
        obtain ⟨a1, a2, a3, a4⟩ := h p (List.mem_of_getElem? e)
        rw [List.getD_eq_getElem?_getD] at ev
        refine ⟨p.2.1, a4, ?_, a3, lookup_relabel_free hok a3 a1⟩
        cases q : σ[p.2.1]? with
        | none => rw [q] at ev; cases ev
        | some o => rw [q] at ev; exact congrArg some ev
end
section
variable {X : Cx} {pins : List (Addr × Obj)} {σ : St} {H : Hp} {s : Shared}
noncomputable def rEqE (K : PySem.W.Frag) (neg : Bool) : R2 := fun x y H Q => ∃ a b l m, x = .ref a ∧ y = .ref b ∧ At K H x (.tup l) ∧ At K H y (.tup m) ∧ cmpDs l m = true ∧ depDs l ≤ 200 ∧ Q (.bl (if neg then !eqDs l m else eqDs l m)) H
end
theorem args_maxD (a v : Value) : argsOk "max" ⟨[a], [(Str.ofString "default", v)]⟩ := by unfold argsOk; kernel_rfl
section
variable {prog : Program} {w : World} {A : Around} {R : Result → Shared → Prop} {I : Addr} {fp wr : List Addr} {n : Nat} {P : Nat → Value → Prop} {St : Nat → Heap → Prop}
theorem maxD_loop (W : Walks prog w A.in1 I fp wr n P St) (bt : Nat → Nat → Bool) (hcmp : CmpOf prog w A.in1 .Gt P bt) (B : Addr) (hBf : B ∉ fp) (nm : Str) (d : Value) :
    ∀ (k j : Nat) (t : Shared) (old : Array Value) (c : Nat), n - j = k → j ≤ n → St j t.heap → (old = #[] ∨ ∃ i v, P i v ∧ old = #[v, v]) →
    t.heap.get? B = some { cls := .type "list", dict := none, data := .seq old c, slots := #[] } →
    (∀ v h2 tk, (v = d ∨ ∃ i, P i v) → (∀ b o, b ∉ wr → b ≠ B → t.heap.get? b = some o → h2.get? b = some o) → R (.ok (.ret v)) { t with heap := h2, toks := tk }) →
    codeAny (model prog w) A (.builtin "max.loop" ⟨[.ref I, .none, .ref B], [(nm, d)]⟩) R t := by
  have hBw : B ∉ wr := fun h => hBf (W.sub _ h)
  have hnm : (toString "max" ++ toString ".loop" : String) = "max.loop" := by decide
  intro k
  induction k with
  | zero =>
    intro j t old c hk hj st ho gB q
    have e0 : j = n := by omega
    refine codeAny_builtin F.entry_max_loop ?_
    rw [Around.under_plainId F.plain_max_loop _]
    show wpAny _ A.in1 (seqItems? (.ref B) >>= _) _ _ t
    refine wpAny_bind (wpAny_seqItems gB rfl ?_)
    show wpAny _ A.in1 (tryCatch (pyNext (.ref I)) _ >>= _) _ _ t
    refine wpAny_bind (wpAny_tryCatch (W.done t _ _ (e0 ▸ st) fun h2 tk kp => ?_))
    rcases ho with rfl | ⟨i, v, hP, rfl⟩
    · show wpAny _ A.in1 (rule _ >>= _) _ _ _
      refine wpAny_bind (wpAny_rule (wpAny_pure ?_))
      exact q d h2 tk (.inl rfl) fun b o hb _ e => kp b o hb e
    · have gB2 := kp B _ hBw gB
      show wpAny _ A.in1 (updateSeq B (fun _ => #[]) >>= _) _ _ _
      refine wpAny_bind (wpAny_updateSeq gB2 rfl (wpAny_bind (wpAny_letGo (wpAny_pure ?_))))
      exact q v _ tk (.inr ⟨i, hP⟩) fun b o hb hn e => (Heap.get?_update_other _ _ (Ne.symm hn)).trans (kp b o hb e)
  | succ k ih =>
    intro j t old c hk hj st ho gB q
    have hlt : j < n := by omega
    refine codeAny_builtin F.entry_max_loop ?_
    rw [Around.under_plainId F.plain_max_loop _]
    show wpAny _ A.in1 (seqItems? (.ref B) >>= _) _ _ t
    refine wpAny_bind (wpAny_seqItems gB rfl ?_)
    show wpAny _ A.in1 (tryCatch (pyNext (.ref I)) _ >>= _) _ _ t
    refine wpAny_bind (wpAny_tryCatch (W.item j t _ _ hlt st fun x h2 tk hP st2 kp => ?_))
    have gB2 := kp B _ hBw gB
    have oth : ∀ {b : Addr}, b ∈ fp → B ≠ b := fun hb e => hBf (by rw [e]; exact hb)
    rcases ho with rfl | ⟨i, v, hPv, rfl⟩
    · show wpAny _ A.in1 (updateSeq B (fun _ => #[x, x]) >>= _) _ _ _
      refine wpAny_bind (wpAny_updateSeq gB2 rfl ?_)
      rw [hnm]
      refine wpAny_pure ⟨plainId_quiet F.plain_max_loop _, ih (j + 1) _ #[x, x] _ (by omega) hlt (W.frame _ _ _ st2 fun b hb o e => (Heap.get?_update_other _ _ (oth hb)).trans e) (.inr ⟨j, x, hP, rfl⟩) (Heap.get?_update_self _ gB2 rfl) fun v2 h3 tk3 hv kp3 => ?_⟩
      exact q v2 h3 tk3 hv fun b o hb hn e => kp3 b o hb hn ((Heap.get?_update_other _ _ (Ne.symm hn)).trans (kp b o hb e))
    · show wpAny _ A.in1 (tryCatch (holding [x, x] (richCompare .Gt x v >>= _)) _ >>= _) _ _ _
      refine wpAny_bind (wpAny_tryCatch (wpAny_holding (wpAny_bind (hcmp j i x v _ _ _ hP hPv ?_))))
      refine wpAny_bind (wpAny_holding (wpAny_truthy_bool ?_))
      refine wpAny_bind (wpAny_letGo (wpAny_pure ?_))
      cases hb : bt j i with
      | true =>
        simp only [if_true]
        refine wpAny_bind (wpAny_updateSeq gB2 rfl (wpAny_bind (wpAny_letGo ?_)))
        rw [hnm]
        refine wpAny_pure ⟨plainId_quiet F.plain_max_loop _, ih (j + 1) _ #[x, x] _ (by omega) hlt (W.frame _ _ _ st2 fun b hb o e => (Heap.get?_update_other _ _ (oth hb)).trans e) (.inr ⟨j, x, hP, rfl⟩) (Heap.get?_update_self _ gB2 rfl) fun v2 h3 tk3 hv kp3 => ?_⟩
        exact q v2 h3 tk3 hv fun b o hb hn e => kp3 b o hb hn ((Heap.get?_update_other _ _ (Ne.symm hn)).trans (kp b o hb e))
      | false =>
        simp only [Bool.false_eq_true, if_false]
        refine wpAny_bind (wpAny_letGo ?_)
        rw [hnm]
        refine wpAny_pure ⟨plainId_quiet F.plain_max_loop _, ih (j + 1) _ #[v, v] c (by omega) hlt st2 (.inr ⟨i, v, hPv, rfl⟩) gB2 fun v2 h3 tk3 hv kp3 => ?_⟩
        exact q v2 h3 tk3 hv fun b o hb hn e => kp3 b o hb hn (kp b o hb e)
end
section
variable {prog : Program} {w : World} {A : Around} {E : Value → Shared → Prop} {s : Shared} {l : Addr} {xs : Array (Int × Tok)}
theorem maxD_ints {d : Value} {Q : Value → Shared → Prop} (hh : A.handled = none) (hl : s.heap.IsList l (intItems xs))
    (h : ∀ v h2 tk, (v = d ∨ ∃ (i : Int) (t : Tok), v = .int i t) → (∀ b o, s.heap.get? b = some o → h2.get? b = some o) → Q v { s with heap := h2, toks := tk }) :
    wpAny (model prog w) A (call (.builtin "max") [.ref l] [(Str.ofString "default", d)]) Q E s := by
  have hnm : (toString "max" ++ toString ".loop" : String) = "max.loop" := by decide
  refine PyProof.Rows.kmk_tree F.kind_max F.plain_max F.entry_max (args_maxD _ _) ?_
  show wpAny _ A.in1 (Builtin.Builtins.bindParams "max" ["key", "default"] 0 ⟨[], [(Str.ofString "default", d)]⟩ >>= _) _ _ s
  refine wpAny_bind (wpAny_of_eq (show Builtin.Builtins.bindParams "max" ["key", "default"] 0 ⟨[], [(Str.ofString "default", d)]⟩ = pure [none, some d] from rfl) ?_)
  refine wpAny_bind (wpAny_pure ?_)
  refine wpAny_bind (iter_intList hl fun s2 e st hfp hlI => ?_)
  subst e
  refine wpAny_bind (wpAny_newObj_type ?_)
  rw [hnm]
  have W := Walks.list (prog := prog) (w := w) (A := A.in1) hh s.heap.objs.size l hlI (intItems xs)
  refine wpAny_pure ⟨plainId_quiet F.plain_max_loop _, maxD_loop W _ (CmpOf.ints_gt (numAt xs) (fun _ _ => intItems_at)) _ (fun hm => Nat.lt_irrefl _ (hfp _ hm)) _ d _ 0 _ #[] 0 rfl (Nat.zero_le _) (W.frame _ _ _ st fun b _ o e => Heap.get?_push_of_some _ e) (.inl rfl) (Heap.get?_push_size _ rfl) fun v h2 tk hv kp => ?_⟩
  refine h v h2 tk ?_ (old_kept fun b o hb e => kp b o hb (Nat.ne_of_lt (Heap.lt_size e)) (Heap.get?_push_of_some _ e))
  rcases hv with hv | ⟨i, hv⟩
  · exact .inl hv
  · obtain ⟨t, rfl⟩ := intItems_at hv
    exact .inr ⟨_, t, rfl⟩
end
section
variable {X : Cx}
noncomputable def tMaxD (K : PySem.W.Frag) (ta : TA) (td : TE) : TE := fun σ H Q => ta σ H fun vs H1 => td σ H1 fun x H2 => ∃ (a : Addr) (ns : List Int) (i : Int), vs = [.ref a] ∧ x = .int i ∧ SqL K H2 a (ns.map V.int) ∧ ∀ n, Q (.int n) H2
theorem pe_maxD {e d : Expr} {p kp pos : Pos} {ta : TA} {td : TE} (hc : X.calm = true) (hg : Gl X "max") (hm : X.mg "max" = none) (ha : PA X [e] ta) (hd : PE X d td) (he : autoParam (backTo pos (starEach [e] X.env) = (false, eval e X.env) :: backTo pos (starEach [] X.env)) L2.Internal.auR._auto_1) :
    PE X (.Call (.Name "max" p) [e] [⟨some "default", d, kp⟩] pos) (tMaxD X.K ta td) := by
  intro pins s σ H Q I h
  refine wpAny_Call_Name_kw (ld_blt I hg hm bt_max ?_ (by decide) (by decide))
  refine callWith_kw (thn (ha pos pins s σ H _ I h) fun us s1 ⟨vs, H1, I1, r1, q1⟩ => ?_) he (by rw [he]; rfl)
  refine kws_cons (thn (hd pins s1 σ H1 _ I1 q1) fun u s2 ⟨x, H2, I2, rx, a, ns, i, e1, e2, hq, q2⟩ => ?_)
  subst e1 e2
  refine kws_nil ?_
  obtain ⟨v0, rfl, rv0⟩ := vals1 r1
  cases rv0
  obtain ⟨its, rv, pl, hz⟩ := I2.list hq
  obtain ⟨zs, ez⟩ := (intsAre_of rv).allInts.items
  have il := pl.isList
  rw [ez] at il
  obtain ⟨t, rfl⟩ := rx
  refine maxD_ints (I2.ok.hd hc) il fun v h2 tk hv hk => ?_
  rcases hv with rfl | ⟨j, t2, rfl⟩
  · exact ⟨.int i, H2, I2.kept (t' := tk) hk, ⟨t, rfl⟩, q2 i⟩
  · exact ⟨.int j, H2, I2.kept (t' := tk) hk, ⟨t2, rfl⟩, q2 j⟩
end
end L2.Internal
namespace L2.Internal
open PySem PySem.Spec PyProof.Rows
section
variable {X : Cx}
theorem call_sumX (hc : X.calm = true) : CallR X (.builtin "sum") (fun xs H Q => ∃ (a : Addr) (ns : List Int), xs = [.ref a] ∧ SqL X.K H a (ns.map V.int) ∧ ns.length ≤ 100 ∧ (∀ n ∈ ns, 0 ≤ n ∧ n ≤ 1000) ∧ Q (.int ns.sum) H) := by
  intro pins s σ H xs us Q I r h
  obtain ⟨a, ns, rfl, hq, hl, hb, q⟩ := h
  obtain ⟨u, rfl, ru⟩ := vals1 r
  cases ru
  obtain ⟨its, rv, p, hz⟩ := I.list hq
  obtain ⟨zs, e⟩ := (intsAre_of rv).allInts.items
  have l := p.isList
  rw [e] at l
  have hn : ∀ j, numAt zs j = ns.getD j 0 := fun j => by
    have h1 : its.toArray[j]? = (intItems zs)[j]? := by rw [e]
    by_cases hj : j < ns.length
    · obtain ⟨v, hv, rv'⟩ := rv.get (show (ns.map V.int)[j]? = some (.int ns[j]) by rw [List.getElem?_map, List.getElem?_eq_getElem hj]; rfl)
      obtain ⟨t, rfl⟩ := rv'
      rw [List.getElem?_toArray, hv] at h1
      obtain ⟨t2, e2⟩ := intItems_at h1.symm
      injection e2 with e2 _
      rw [← e2, List.getD_eq_getElem?_getD, List.getElem?_eq_getElem hj]
      rfl
    · have hlen := rv.length
      rw [List.length_map] at hlen
      rw [List.getElem?_toArray, List.getElem?_eq_none (by omega)] at h1
      have h2 : zs[j]? = none := by
        simp only [intItems, Array.getElem?_map] at h1
        cases h3 : zs[j]? with
        | none => rfl
        | some z => rw [h3] at h1; cases h1
      rw [List.getD_eq_getElem?_getD, List.getElem?_eq_none (by omega)]
      simp [numAt, h2]
  have hsz : zs.size = ns.length := by
    have h1 := congrArg Array.size e
    simp only [intItems, List.size_toArray, Array.size_map] at h1
    have hlen := rv.length
    rw [List.length_map] at hlen
    omega
  have pre : ∀ j, j ≤ ns.length → preSum (numAt zs) j = (ns.take j).sum := fun j => by
    induction j with
    | zero => intro _; simp [preSum]
    | succ j ih =>
      intro hj
      rw [preSum, ih (by omega), hn, List.take_add_one, List.getElem?_eq_getElem (show j < ns.length by omega), List.sum_append, List.getD_eq_getElem?_getD, List.getElem?_eq_getElem (show j < ns.length by omega)]
      simp
  have bnd : ∀ l : List Int, (∀ n ∈ l, 0 ≤ n ∧ n ≤ 1000) → 0 ≤ l.sum ∧ l.sum ≤ 1000 * (l.length : Int) := fun l => by
    induction l with
    | nil => intro _; simp
    | cons x l ih =>
      intro h
      have h1 := h x (by simp)
      have h2 := ih fun n hn => h n (by simp [hn])
      rw [List.sum_cons, List.length_cons]
      omega
  refine sum_intList (I.ok.hd hc) l (fun j hj => ?_) fun h2 tk t2 hk => ⟨.int ns.sum, H, I.kept (t' := tk) hk, ⟨t2, ?_⟩, q⟩
  · rw [hsz] at hj
    have b1 := hb (ns.getD j 0) (by rw [List.getD_eq_getElem?_getD, List.getElem?_eq_getElem hj]; exact List.getElem_mem hj)
    have b2 := bnd (ns.take (j + 1)) fun n hm => hb n (List.mem_of_mem_take hm)
    have b3 : (ns.take (j + 1)).length ≤ 100 := by rw [List.length_take]; omega
    rw [hn, pre (j + 1) hj]
    constructor <;> constructor <;> omega
  · rw [hsz, pre ns.length (Nat.le_refl _), List.take_length]
end
end L2.Internal
set_option maxHeartbeats 1000000
namespace KK.Internal
open PySem L2.Internal BO.Internal
mutual
inductive Kd where
  | any
  | num
  | fn (a b : Kd)
  | rcd (l : Kds)
  | ch (l : Kds)
  | row (a : Kd)
inductive Kds where
  | nil
  | cons (w : Str) (k : Kd) (t : Kds)
end
noncomputable def sD (s : Str) : Dt := .flat (.str s)
mutual
noncomputable def Kd.d : Kd → Dt
  | .any => .tup [sD "any"]
  | .num => .tup [sD "num"]
  | .fn a b => .tup [sD "fn", a.d, b.d]
  | .rcd l => .tup [sD "rec", .tup l.ds]
  | .ch l => .tup [sD "choice", .tup l.ds]
  | .row a => .tup [sD "row", a.d]
noncomputable def Kds.ds : Kds → List Dt
  | .nil => []
  | .cons w k t => .tup [sD w, k.d] :: t.ds
end
mutual
noncomputable def Kd.sz : Kd → Nat
  | .any => 1
  | .num => 1
  | .fn a b => a.sz + b.sz + 1
  | .rcd l => l.sz + 1
  | .ch l => l.sz + 1
  | .row a => a.sz + 1
noncomputable def Kds.sz : Kds → Nat
  | .nil => 0
  | .cons _ k t => k.sz + t.sz
end
noncomputable def Kds.toL : Kds → List (Str × Kd)
  | .nil => []
  | .cons w k t => (w, k) :: t.toL
mutual
noncomputable def Kd.ok : Kd → Prop
  | .any => True
  | .num => True
  | .fn a b => a.ok ∧ b.ok
  | .rcd l => l.ok ∧ (l.toL.map Prod.fst).Nodup ∧ l.toL.length ≤ 10
  | .ch l => l.ok ∧ (l.toL.map Prod.fst).Nodup ∧ l.toL.length ≤ 10
  | .row a => a.ok
noncomputable def Kds.ok : Kds → Prop
  | .nil => True
  | .cons _ k t => k.ok ∧ t.ok
end
noncomputable def ofL : List (Str × Kd) → Kds
  | [] => .nil
  | p :: t => .cons p.1 p.2 (ofL t)
theorem toL_ofL : ∀ l, (ofL l).toL = l
  | [] => rfl
  | p :: t => by rw [ofL, Kds.toL, toL_ofL t]
noncomputable def fD (p : Str × Kd) : Dt := .tup [sD p.1, p.2.d]
theorem ds_toL : ∀ l : Kds, l.ds = l.toL.map fD
  | .nil => by rw [Kds.ds, Kds.toL]; rfl
  | .cons w k t => by rw [Kds.ds, Kds.toL, List.map_cons, ds_toL t]; rfl
noncomputable def szL : List (Str × Kd) → Nat
  | [] => 0
  | p :: t => p.2.sz + szL t
theorem sz_toL : ∀ l : Kds, l.sz = szL l.toL
  | .nil => by rw [Kds.sz, Kds.toL, szL]
  | .cons w k t => by rw [Kds.sz, Kds.toL, szL, sz_toL t]
theorem ok_toL : ∀ l : Kds, l.ok ↔ ∀ p ∈ l.toL, p.2.ok
  | .nil => by simp [Kds.ok, Kds.toL]
  | .cons w k t => by simp [Kds.ok, Kds.toL, ok_toL t]
theorem sz_pos : ∀ a : Kd, 0 < a.sz := fun a => by cases a <;> simp only [Kd.sz] <;> omega
noncomputable def Kd.tag : Kd → Str
  | .any => "any"
  | .num => "num"
  | .fn _ _ => "fn"
  | .rcd _ => "rec"
  | .ch _ => "choice"
  | .row _ => "row"
noncomputable def Kd.rest : Kd → List Dt
  | .any => []
  | .num => []
  | .fn a b => [a.d, b.d]
  | .rcd l => [.tup l.ds]
  | .ch l => [.tup l.ds]
  | .row a => [a.d]
theorem d_eq (a : Kd) : a.d = .tup (sD a.tag :: a.rest) := by cases a <;> rw [Kd.d] <;> rfl
noncomputable def isAny : Kd → Bool
  | .any => true
  | _ => false
noncomputable def isNo : Kd → Bool
  | .ch .nil => true
  | _ => false
noncomputable def noD : Dt := .tup [sD "choice", .tup []]
noncomputable def lkK : List (Str × Kd) → Str → Option Kd
  | [], _ => none
  | p :: t, x => if p.1 = x then some p.2 else lkK t x
noncomputable def fz (l : List (Str × Kd)) (x : Str) : Nat := match lkK l x with
  | some k => k.sz
  | none => 0
noncomputable def sumN : List Nat → Nat
  | [] => 0
  | n :: t => n + sumN t
noncomputable def pbw (l m : List (Str × Kd)) : List (Str × Kd) → Option (List (Kd × Kd))
  | [] => some []
  | p :: t => match lkK l p.1, lkK m p.1 with
    | some a, some b => (pbw l m t).map ((a, b) :: ·)
    | _, _ => none
noncomputable def szp : List (Kd × Kd) → Nat
  | [] => 0
  | p :: t => p.1.sz + p.2.sz + szp t
noncomputable def pw2 : Kd → Kd → Option (List (Kd × Kd))
  | .num, .num => some []
  | .fn a b, .fn c d => some [(c, a), (b, d)]
  | .rcd l, .rcd m => pbw l.toL m.toL m.toL
  | .ch l, .ch m => pbw l.toL m.toL l.toL
  | .row a, .row b => some [(a, b)]
  | _, _ => none
noncomputable def pw (a b : Kd) : Option (List (Kd × Kd)) := if (isAny b || isNo a) = true then some [] else pw2 a b
noncomputable def G (a : Kd) : Prop := a.ok ∧ a.sz ≤ 20
noncomputable def undF : Nat → List (Kd × Kd) → Bool
  | 0, _ => true
  | _ + 1, [] => true
  | f + 1, p :: st => match pw p.1 p.2 with
    | none => false
    | some l => undF f (l.reverse ++ st)
noncomputable def und (a b : Kd) : Bool := undF (a.sz + b.sz) [(a, b)]
noncomputable def pD (p : Kd × Kd) : Dt := .tup [p.1.d, p.2.d]
noncomputable def lkP : List (Str × V) → Str → Option V
  | [], _ => none
  | p :: t, x => if p.1 = x then some p.2 else lkP t x
theorem fld {H : Hp} {v : V} {p : Str × Kd} (h : Im H v (fD p)) : ∃ t x, v = .ref t ∧ H t = some (.tup [.str p.1, x]) ∧ Im H x p.2.d := by
  unfold fD at h
  cases h with
  | tup e hs =>
    cases hs with
    | cons h1 hs =>
      cases h1
      cases hs with
      | cons h2 hs =>
        cases hs
        exact ⟨_, _, rfl, e, h2⟩
noncomputable def DKd (H : Hp) (d : Addr) (l : List (Str × Kd)) : Prop := ∃ kvs, H d = some (.dK kvs) ∧ ∀ w, match lkK l w with
    | some k => ∃ v, valV kvs (Sum.inr w) = some v ∧ Im H v k.d
    | none => valV kvs (Sum.inr w) = none
theorem DKd.some {H : Hp} {d : Addr} {l : List (Str × Kd)} {w : Str} {k : Kd} (h : DKd H d l) (e : lkK l w = some k) : ∃ v, DGet H d (.str w) (some v) ∧ Im H v k.d := by
  obtain ⟨kvs, e1, f⟩ := h
  have := f w
  rw [e] at this
  obtain ⟨v, h1, h2⟩ := this
  exact ⟨v, by rw [← h1]; exact DGet.k (k := (Sum.inr w : Key)) e1, h2⟩
theorem DKd.none {H : Hp} {d : Addr} {l : List (Str × Kd)} {w : Str} (h : DKd H d l) (e : lkK l w = none) : DGet H d (.str w) none := by
  obtain ⟨kvs, e1, f⟩ := h
  have := f w
  rw [e] at this
  rw [← this]
  exact DGet.k (k := (Sum.inr w : Key)) e1
noncomputable def PwV (H0 H : Hp) (v : V) : Option (List (Kd × Kd)) → Prop
  | none => v = .non
  | some r => ∃ t xs, v = .ref t ∧ H0 t = none ∧ H t = some (.lst xs) ∧ Ims H xs (r.map pD)
theorem Ims.atK {H : Hp} : ∀ {xs : List V} {ds : List Dt} {k : Nat} {v : V}, Ims H xs ds → xs[k]? = some v → ∃ d, ds[k]? = some d ∧ Im H v d
  | _, _, 0, _, .cons h _, e => by cases e; exact ⟨_, rfl, h⟩
  | _, _, k + 1, _, .cons _ t, e => Ims.atK (k := k) t e
theorem fld_at {H : Hp} {xs : List V} {l : List (Str × Kd)} {k : Nat} {v : V} (h : Ims H xs (l.map fD)) (e : xs[k]? = some v) : ∃ p t x, l[k]? = some p ∧ v = .ref t ∧ H t = some (.tup [.str p.1, x]) ∧ Im H x p.2.d := by
  obtain ⟨d, ed, hd⟩ := Ims.atK h e
  rw [List.getElem?_map] at ed
  cases ep : l[k]? with
  | none => rw [ep] at ed; cases ed
  | some p =>
    rw [ep] at ed
    cases ed
    obtain ⟨t, x, h1, h2, h3⟩ := fld hd
    exact ⟨p, t, x, rfl, h1, h2, h3⟩
theorem im_newK {H : Hp} {t : Addr} {xs : List V} {ds : List Dt} (h : H t = none) (i : Ims H xs ds) : Im (upd H t (.tup xs)) (.ref t) (.tup ds) := .tup upd_same (i.mono (Same.tk (same_new h _)))
theorem same_updK {H H2 : Hp} {l : Addr} (s : Same H H2) (h : H l = none) (o : HO) : Same H (upd H2 l o) := fun b u e => by rw [upd_ne (ne_of_none e h)]; exact s b u e
noncomputable def rTupOf (K : PySem.W.Frag) : List V → Hp → VK → Prop := fun xs H Q => ∃ p ys, xs = [.ref p] ∧ ((SqL K H p ys ∧ ∀ l, H l = none → Q (.ref l) (upd H l (.tup ys))) ∨ (SqT K H p ys ∧ Q (.ref p) H))
end KK.Internal
set_option maxHeartbeats 1000000
namespace KK.Internal
open PySem L2.Internal BO.Internal
noncomputable def iD (n : Int) : Dt := .flat (.int n)
noncomputable def ptB (D : Bd) : Bd := { D with pts := D.pts ++ [0] }
noncomputable def mkB (D : Bd) (s : Str) (f : Dt) (a : Int) : Bd := { D with mks := D.mks ++ [⟨s, f, a, 0⟩] }
noncomputable def usB (D : Bd) (u : Us) : Bd := { D with uss := D.uss ++ [u] }
mutual
noncomputable def low : Kd → Bd → Bd
  | .any, D => mkB (ptB D) "any" (.tup []) D.pts.length
  | .num, D => mkB (ptB D) "num" (.tup []) D.pts.length
  | .fn a b, D => mkB (low b (upp a (ptB D))) "fn" (.tup [iD (ptB D).pts.length, iD (upp a (ptB D)).pts.length]) D.pts.length
  | .rcd l, D => mkB (lowF l (ptB D)).1 "rec" (prD (lowF l (ptB D)).2) D.pts.length
  | .ch l, D => lowA l D.pts.length (ptB D)
  | .row a, D => mkB (low a (ptB D)) "row" (.tup [iD (ptB D).pts.length]) D.pts.length
noncomputable def upp : Kd → Bd → Bd
  | .any, D => ptB D
  | .num, D => usB (ptB D) (.num D.pts.length 0 0)
  | .fn a b, D => usB (upp b (low a (ptB D))) (.call D.pts.length 0 0 (ptB D).pts.length (low a (ptB D)).pts.length)
  | .rcd l, D => usB (uppF l (ptB D)).1 (.take D.pts.length 0 0 (uppF l (ptB D)).2)
  | .ch l, D => usB (uppF l (ptB D)).1 (.case D.pts.length 0 0 (uppF l (ptB D)).2)
  | .row a, D => usB (upp a (ptB D)) (.row D.pts.length 0 0 (ptB D).pts.length)
noncomputable def lowF : Kds → Bd → Bd × List (Str × Int)
  | .nil, D => (D, [])
  | .cons w k t, D => ((lowF t (low k D)).1, (w, (D.pts.length : Int)) :: (lowF t (low k D)).2)
noncomputable def uppF : Kds → Bd → Bd × List (Str × Int)
  | .nil, D => (D, [])
  | .cons w k t, D => ((uppF t (upp k D)).1, (w, (D.pts.length : Int)) :: (uppF t (upp k D)).2)
noncomputable def lowA : Kds → Int → Bd → Bd
  | .nil, _, D => D
  | .cons w k t, a, D => lowA t a (mkB (low k D) "tag" (.tup [sD w, iD D.pts.length]) a)
end
noncomputable def lowL : List (Str × Kd) → Bd → Bd × List (Str × Int)
  | [], D => (D, [])
  | p :: t, D => ((lowL t (low p.2 D)).1, (p.1, (D.pts.length : Int)) :: (lowL t (low p.2 D)).2)
noncomputable def uppL : List (Str × Kd) → Bd → Bd × List (Str × Int)
  | [], D => (D, [])
  | p :: t, D => ((uppL t (upp p.2 D)).1, (p.1, (D.pts.length : Int)) :: (uppL t (upp p.2 D)).2)
noncomputable def armL : List (Str × Kd) → Int → Bd → Bd
  | [], _, D => D
  | p :: t, a, D => armL t a (mkB (low p.2 D) "tag" (.tup [sD p.1, iD D.pts.length]) a)
theorem lowF_L : ∀ (l : Kds) (D : Bd), lowF l D = lowL l.toL D
  | .nil, D => by rw [lowF, Kds.toL, lowL]
  | .cons w k t, D => by rw [lowF, Kds.toL, lowL, lowF_L t]
theorem uppF_L : ∀ (l : Kds) (D : Bd), uppF l D = uppL l.toL D
  | .nil, D => by rw [uppF, Kds.toL, uppL]
  | .cons w k t, D => by rw [uppF, Kds.toL, uppL, uppF_L t]
theorem lowA_L : ∀ (l : Kds) (a : Int) (D : Bd), lowA l a D = armL l.toL a D
  | .nil, a, D => by rw [lowA, Kds.toL, armL]
  | .cons w k t, a, D => by rw [lowA, Kds.toL, armL, lowA_L t]
theorem lowL_snoc : ∀ (l : List (Str × Kd)) (p : Str × Kd) (D : Bd), lowL (l ++ [p]) D = (low p.2 (lowL l D).1, (lowL l D).2 ++ [(p.1, ((lowL l D).1.pts.length : Int))])
  | [], p, D => rfl
  | q :: t, p, D => by rw [List.cons_append, lowL, lowL_snoc t p, lowL]; rfl
theorem uppL_snoc : ∀ (l : List (Str × Kd)) (p : Str × Kd) (D : Bd), uppL (l ++ [p]) D = (upp p.2 (uppL l D).1, (uppL l D).2 ++ [(p.1, ((uppL l D).1.pts.length : Int))])
  | [], p, D => rfl
  | q :: t, p, D => by rw [List.cons_append, uppL, uppL_snoc t p, uppL]; rfl
theorem armL_snoc : ∀ (l : List (Str × Kd)) (p : Str × Kd) (a : Int) (D : Bd), armL (l ++ [p]) a D = mkB (low p.2 (armL l a D)) "tag" (.tup [sD p.1, iD (armL l a D).pts.length]) a
  | [], p, a, D => rfl
  | q :: t, p, a, D => by rw [List.cons_append, armL, armL_snoc t p a, armL]
theorem lowL_len : ∀ (l : List (Str × Kd)) (D : Bd), (lowL l D).2.length = l.length
  | [], D => rfl
  | p :: t, D => by rw [lowL, List.length_cons, List.length_cons, lowL_len t]
theorem uppL_len : ∀ (l : List (Str × Kd)) (D : Bd), (uppL l D).2.length = l.length
  | [], D => rfl
  | p :: t, D => by rw [uppL, List.length_cons, List.length_cons, uppL_len t]
noncomputable def Sm (D : Bd) (n : Nat) : Prop := D.pts.length ≤ n ∧ D.mks.length ≤ n ∧ D.uss.length ≤ n
theorem Sm.pt {D : Bd} {n : Nat} (h : Sm D n) : Sm (ptB D) (n + 1) := by
  obtain ⟨h1, h2, h3⟩ := h
  refine ⟨?_, Nat.le_succ_of_le h2, Nat.le_succ_of_le h3⟩
  show (D.pts ++ [0]).length ≤ n + 1
  rw [List.length_append]
  exact Nat.succ_le_succ h1
theorem Sm.mono {D : Bd} {n m : Nat} (h : Sm D n) (hn : n ≤ m) : Sm D m := ⟨Nat.le_trans h.1 hn, Nat.le_trans h.2.1 hn, Nat.le_trans h.2.2 hn⟩
mutual
theorem sm_low : ∀ (k : Kd) (D : Bd) (n : Nat), Sm D n → Sm (low k D) (n + (3 * k.sz - 1))
  | .any, D, n, h => by
    have h1 := h.pt
    rw [low, Kd.sz]
    exact ⟨by show (ptB D).pts.length ≤ _; have := h1.1; omega, by show ((ptB D).mks ++ [_]).length ≤ _; rw [List.length_append, List.length_singleton]; have := h.2.1; show D.mks.length + 1 ≤ _; omega, by show D.uss.length ≤ _; have := h.2.2; omega⟩
  | .num, D, n, h => by
    have h1 := h.pt
    rw [low, Kd.sz]
    exact ⟨by show (ptB D).pts.length ≤ _; have := h1.1; omega, by show ((ptB D).mks ++ [_]).length ≤ _; rw [List.length_append, List.length_singleton]; have := h.2.1; show D.mks.length + 1 ≤ _; omega, by show D.uss.length ≤ _; have := h.2.2; omega⟩
  | .fn a b, D, n, h => by
    have h1 := sm_upp a _ _ h.pt
    have h2 := sm_low b _ _ h1
    have pa := sz_pos a
    have pb := sz_pos b
    rw [low, Kd.sz]
    exact ⟨by show (low b (upp a (ptB D))).pts.length ≤ _; have := h2.1; omega, by show ((low b (upp a (ptB D))).mks ++ [_]).length ≤ _; rw [List.length_append, List.length_singleton]; have := h2.2.1; omega, by show (low b (upp a (ptB D))).uss.length ≤ _; have := h2.2.2; omega⟩
  | .rcd l, D, n, h => by
    have h2 := sm_lowF l _ _ h.pt
    rw [low, Kd.sz]
    exact ⟨by show (lowF l (ptB D)).1.pts.length ≤ _; have := h2.1; omega, by show ((lowF l (ptB D)).1.mks ++ [_]).length ≤ _; rw [List.length_append, List.length_singleton]; have := h2.2.1; omega, by show (lowF l (ptB D)).1.uss.length ≤ _; have := h2.2.2; omega⟩
  | .ch l, D, n, h => by
    rw [low, Kd.sz]
    exact (sm_lowA l D.pts.length _ _ h.pt).mono (by omega)
  | .row a, D, n, h => by
    have h2 := sm_low a _ _ h.pt
    have pa := sz_pos a
    rw [low, Kd.sz]
    exact ⟨by show (low a (ptB D)).pts.length ≤ _; have := h2.1; omega, by show ((low a (ptB D)).mks ++ [_]).length ≤ _; rw [List.length_append, List.length_singleton]; have := h2.2.1; omega, by show (low a (ptB D)).uss.length ≤ _; have := h2.2.2; omega⟩
theorem sm_upp : ∀ (k : Kd) (D : Bd) (n : Nat), Sm D n → Sm (upp k D) (n + (3 * k.sz - 1))
  | .any, D, n, h => by rw [upp, Kd.sz]; exact h.pt.mono (by omega)
  | .num, D, n, h => by
    have h1 := h.pt
    rw [upp, Kd.sz]
    exact ⟨by show (ptB D).pts.length ≤ _; have := h1.1; omega, by show D.mks.length ≤ _; have := h.2.1; omega, by show (D.uss ++ [_]).length ≤ _; rw [List.length_append, List.length_singleton]; have := h.2.2; omega⟩
  | .fn a b, D, n, h => by
    have h1 := sm_low a _ _ h.pt
    have h2 := sm_upp b _ _ h1
    have pa := sz_pos a
    have pb := sz_pos b
    rw [upp, Kd.sz]
    exact ⟨by show (upp b (low a (ptB D))).pts.length ≤ _; have := h2.1; omega, by show (upp b (low a (ptB D))).mks.length ≤ _; have := h2.2.1; omega, by show ((upp b (low a (ptB D))).uss ++ [_]).length ≤ _; rw [List.length_append, List.length_singleton]; have := h2.2.2; omega⟩
  | .rcd l, D, n, h => by
    have h2 := sm_uppF l _ _ h.pt
    rw [upp, Kd.sz]
    exact ⟨by show (uppF l (ptB D)).1.pts.length ≤ _; have := h2.1; omega, by show (uppF l (ptB D)).1.mks.length ≤ _; have := h2.2.1; omega, by show ((uppF l (ptB D)).1.uss ++ [_]).length ≤ _; rw [List.length_append, List.length_singleton]; have := h2.2.2; omega⟩
  | .ch l, D, n, h => by
    have h2 := sm_uppF l _ _ h.pt
    rw [upp, Kd.sz]
    exact ⟨by show (uppF l (ptB D)).1.pts.length ≤ _; have := h2.1; omega, by show (uppF l (ptB D)).1.mks.length ≤ _; have := h2.2.1; omega, by show ((uppF l (ptB D)).1.uss ++ [_]).length ≤ _; rw [List.length_append, List.length_singleton]; have := h2.2.2; omega⟩
  | .row a, D, n, h => by
    have h2 := sm_upp a _ _ h.pt
    have pa := sz_pos a
    rw [upp, Kd.sz]
    exact ⟨by show (upp a (ptB D)).pts.length ≤ _; have := h2.1; omega, by show (upp a (ptB D)).mks.length ≤ _; have := h2.2.1; omega, by show ((upp a (ptB D)).uss ++ [_]).length ≤ _; rw [List.length_append, List.length_singleton]; have := h2.2.2; omega⟩
theorem sm_lowF : ∀ (l : Kds) (D : Bd) (n : Nat), Sm D n → Sm (lowF l D).1 (n + 3 * l.sz)
  | .nil, D, n, h => by rw [lowF, Kds.sz]; exact h.mono (by omega)
  | .cons w k t, D, n, h => by
    have pk := sz_pos k
    rw [lowF, Kds.sz]
    exact (sm_lowF t _ _ (sm_low k _ _ h)).mono (by omega)
theorem sm_uppF : ∀ (l : Kds) (D : Bd) (n : Nat), Sm D n → Sm (uppF l D).1 (n + 3 * l.sz)
  | .nil, D, n, h => by rw [uppF, Kds.sz]; exact h.mono (by omega)
  | .cons w k t, D, n, h => by
    have pk := sz_pos k
    rw [uppF, Kds.sz]
    exact (sm_uppF t _ _ (sm_upp k _ _ h)).mono (by omega)
theorem sm_lowA : ∀ (l : Kds) (a : Int) (D : Bd) (n : Nat), Sm D n → Sm (lowA l a D) (n + 3 * l.sz)
  | .nil, a, D, n, h => by rw [lowA, Kds.sz]; exact h.mono (by omega)
  | .cons w k t, a, D, n, h => by
    have h2 := sm_low k D n h
    have hp := sz_pos k
    rw [lowA, Kds.sz]
    have h3 : Sm (mkB (low k D) "tag" (.tup [sD w, iD D.pts.length]) a) (n + 3 * k.sz) := by
      refine ⟨by show (low k D).pts.length ≤ _; have := h2.1; omega, ?_, by show (low k D).uss.length ≤ _; have := h2.2.2; omega⟩
      show ((low k D).mks ++ [_]).length ≤ _
      rw [List.length_append, List.length_singleton]
      have := h2.2.1
      omega
    exact (sm_lowA t a _ _ h3).mono (by omega)
end
theorem sm_lowL : ∀ (l : List (Str × Kd)) (D : Bd) (n : Nat), Sm D n → Sm (lowL l D).1 (n + 3 * szL l)
  | [], D, n, h => by rw [lowL, szL]; exact h.mono (by omega)
  | p :: t, D, n, h => by
    have pk := sz_pos p.2
    rw [lowL, szL]
    exact (sm_lowL t _ _ (sm_low p.2 _ _ h)).mono (by omega)
theorem sm_uppL : ∀ (l : List (Str × Kd)) (D : Bd) (n : Nat), Sm D n → Sm (uppL l D).1 (n + 3 * szL l)
  | [], D, n, h => by rw [uppL, szL]; exact h.mono (by omega)
  | p :: t, D, n, h => by
    have pk := sz_pos p.2
    rw [uppL, szL]
    exact (sm_uppL t _ _ (sm_upp p.2 _ _ h)).mono (by omega)
theorem sm_armL : ∀ (l : List (Str × Kd)) (a : Int) (D : Bd) (n : Nat), Sm D n → Sm (armL l a D) (n + 3 * szL l)
  | [], a, D, n, h => by rw [armL, szL]; exact h.mono (by omega)
  | p :: t, a, D, n, h => by
    have h2 := sm_low p.2 D n h
    have hp := sz_pos p.2
    rw [armL, szL]
    have h3 : Sm (mkB (low p.2 D) "tag" (.tup [sD p.1, iD D.pts.length]) a) (n + 3 * p.2.sz) := by
      refine ⟨by show (low p.2 D).pts.length ≤ _; have := h2.1; omega, ?_, by show (low p.2 D).uss.length ≤ _; have := h2.2.2; omega⟩
      show ((low p.2 D).mks ++ [_]).length ≤ _
      rw [List.length_append, List.length_singleton]
      have := h2.2.1
      omega
    exact (sm_armL t a _ _ h3).mono (by omega)
theorem szL_at : ∀ {l : List (Str × Kd)} {i : Nat} {p : Str × Kd}, l[i]? = some p → szL (l.take i) + p.2.sz ≤ szL l
  | [], i, p, h => by simp at h
  | q :: t, 0, p, h => by cases h; rw [List.take_zero, szL, szL]; omega
  | q :: t, i + 1, p, h => by
    have := szL_at (l := t) (i := i) h
    rw [List.take_succ_cons, szL, szL]
    omega
structure Ad where
  b : Addr
  bx : Addr
  p0 : Addr
  p1 : Addr
  p2 : Addr
  p3 : Addr
noncomputable def Ad.ls (A : Ad) : List Addr := [A.p0, A.p1, A.p2, A.p3]
structure Bq (c : Cs) (H : Hp) (A : Ad) (r : V) (D : Bd) : Prop where
  b : H A.b = some (.ins c.B A.bx (fB A.p0 A.p1 A.p2 A.p3 r))
  e0 : H A.p0 = some (.lst (D.pts.map V.int))
  e1 : ∃ mv, H A.p1 = some (.lst mv) ∧ All2 (MkAt c H) mv D.mks
  e2 : ∃ uv, H A.p2 = some (.lst uv) ∧ All2 (UsAt c H) uv D.uss
  e3 : H A.p3 = some (.lst [])
  nd : A.ls.Nodup
structure Dq (H : Hp) (A : Ad) (D : Bd) : Prop where
  b : H A.b = some (.lst [.ref A.p0, .ref A.p1, .ref A.p2, .ref A.p3])
  nb : A.b ∉ A.ls
  e0 : H A.p0 = some (.lst (D.pts.map V.int))
  e1 : ∃ mv, H A.p1 = some (.lst mv) ∧ Ims H mv (D.mks.map Mkg.d)
  e2 : ∃ uv, H A.p2 = some (.lst uv) ∧ Ims H uv (D.uss.map Us.d)
  e3 : H A.p3 = some (.lst [])
  nd : A.ls.Nodup
noncomputable def FB (A : Ad) (H H' : Hp) : Prop := (∀ a o, H a = some o → a ∉ A.ls → H' a = some o) ∧ FK H H'
theorem FB.same {A : Ad} {H H' : Hp} (s : Same H H') : FB A H H' := ⟨fun a o e _ => s a o e, Same.fk s⟩
theorem FB.trans {A : Ad} {H H1 H2 : Hp} (a : FB A H H1) (b : FB A H1 H2) : FB A H H2 := ⟨fun c o e n => b.1 c o (a.1 c o e n) n, a.2.trans b.2⟩
theorem FB.upd {A : Ad} {H : Hp} {a : Addr} {xs ys : List V} (h : a ∈ A.ls) (e : H a = some (.lst xs)) : FB A H (upd H a (.lst ys)) := ⟨fun b o q n => by rw [upd_ne (fun z => n (by rw [z]; exact h))]; exact q, fk_lst e⟩
theorem Ad.ne {A : Ad} (h : A.ls.Nodup) : A.p0 ≠ A.p1 ∧ A.p0 ≠ A.p2 ∧ A.p0 ≠ A.p3 ∧ A.p1 ≠ A.p2 ∧ A.p1 ≠ A.p3 ∧ A.p2 ≠ A.p3 := by
  simp only [Ad.ls, List.nodup_cons, List.mem_cons, List.not_mem_nil, or_false, not_or] at h
  exact ⟨h.1.1, h.1.2.1, h.1.2.2, h.2.1.1, h.2.1.2, h.2.2.1⟩
section
variable {c : Cs} {H H' : Hp} {A : Ad} {r : V} {D : Bd}
theorem Bq.same (B : Bq c H A r D) (s : Same H H') : Bq c H' A r D := by
  obtain ⟨b, e0, ⟨mv, m1, m2⟩, ⟨uv, u1, u2⟩, e3, nd⟩ := B
  exact ⟨s _ _ b, s _ _ e0, ⟨mv, s _ _ m1, m2.imp fun _ _ => MkAt.mono (Same.fk s)⟩, ⟨uv, s _ _ u1, u2.imp fun _ _ => UsAt.mono (Same.fk s)⟩, s _ _ e3, nd⟩
theorem Bq.other (B : Bq c H A r D) {a : Addr} {xs ys : List V} (e : H a = some (.lst xs)) (n : a ∉ A.ls) : Bq c (upd H a (.lst ys)) A r D := by
  obtain ⟨b, e0, ⟨mv, m1, m2⟩, ⟨uv, u1, u2⟩, e3, nd⟩ := B
  have k := fk_lst (o := .lst ys) e
  simp only [Ad.ls, List.mem_cons, List.not_mem_nil, or_false, not_or] at n
  exact ⟨by rw [upd_ne (ne_of b e (fun h => nomatch h))]; exact b, by rw [upd_ne (Ne.symm n.1)]; exact e0, ⟨mv, by rw [upd_ne (Ne.symm n.2.1)]; exact m1, m2.imp fun _ _ => MkAt.mono k⟩, ⟨uv, by rw [upd_ne (Ne.symm n.2.2.1)]; exact u1, u2.imp fun _ _ => UsAt.mono k⟩, by rw [upd_ne (Ne.symm n.2.2.2)]; exact e3, nd⟩
theorem Bq.pt (B : Bq c H A r D) (v : Int) : Bq c (upd H A.p0 (.lst (D.pts.map V.int ++ [.int v]))) A r { D with pts := D.pts ++ [v] } := by
  obtain ⟨b, e0, ⟨mv, m1, m2⟩, ⟨uv, u1, u2⟩, e3, nd⟩ := B
  have k := fk_lst (o := .lst (D.pts.map V.int ++ [.int v])) e0
  obtain ⟨n1, n2, n3, _⟩ := Ad.ne nd
  exact ⟨by rw [upd_ne (ne_of b e0 (fun h => nomatch h))]; exact b, by rw [upd_same, List.map_append]; rfl, ⟨mv, by rw [upd_ne (Ne.symm n1)]; exact m1, m2.imp fun _ _ => MkAt.mono k⟩, ⟨uv, by rw [upd_ne (Ne.symm n2)]; exact u1, u2.imp fun _ _ => UsAt.mono k⟩, by rw [upd_ne (Ne.symm n3)]; exact e3, nd⟩
theorem Bq.addM (B : Bq c H A r D) {mv : List V} {x : V} {m : Mkg} (e : H A.p1 = some (.lst mv)) (hx : MkAt c H x m) : Bq c (upd H A.p1 (.lst (mv ++ [x]))) A r { D with mks := D.mks ++ [m] } := by
  obtain ⟨b, e0, ⟨mv', m1, m2⟩, ⟨uv, u1, u2⟩, e3, nd⟩ := B
  rw [e] at m1
  cases m1
  have k := fk_lst (o := .lst (mv ++ [x])) e
  obtain ⟨n1, _, _, n4, n5, _⟩ := Ad.ne nd
  exact ⟨by rw [upd_ne (ne_of b e (fun h => nomatch h))]; exact b, by rw [upd_ne n1]; exact e0, ⟨_, upd_same, .snoc (hx.mono k) (m2.imp fun _ _ => MkAt.mono k)⟩, ⟨uv, by rw [upd_ne (Ne.symm n4)]; exact u1, u2.imp fun _ _ => UsAt.mono k⟩, by rw [upd_ne (Ne.symm n5)]; exact e3, nd⟩
theorem Bq.us (B : Bq c H A r D) {uv : List V} {x : V} {u : Us} (e : H A.p2 = some (.lst uv)) (hx : UsAt c H x u) : Bq c (upd H A.p2 (.lst (uv ++ [x]))) A r { D with uss := D.uss ++ [u] } := by
  obtain ⟨b, e0, ⟨mv, m1, m2⟩, ⟨uv', u1, u2⟩, e3, nd⟩ := B
  rw [e] at u1
  cases u1
  have k := fk_lst (o := .lst (uv ++ [x])) e
  obtain ⟨_, n2, _, n4, _, n6⟩ := Ad.ne nd
  exact ⟨by rw [upd_ne (ne_of b e (fun h => nomatch h))]; exact b, by rw [upd_ne n2]; exact e0, ⟨mv, by rw [upd_ne n4]; exact m1, m2.imp fun _ _ => MkAt.mono k⟩, ⟨_, upd_same, .snoc (hx.mono k) (u2.imp fun _ _ => UsAt.mono k)⟩, by rw [upd_ne (Ne.symm n6)]; exact e3, nd⟩
theorem Bq.root (B : Bq c H A r D) (v : V) : Bq c (upd H A.b (.ins c.B A.bx (fB A.p0 A.p1 A.p2 A.p3 v))) A v D := by
  obtain ⟨b, e0, ⟨mv, m1, m2⟩, ⟨uv, u1, u2⟩, e3, nd⟩ := B
  have k := fk_board (o := .ins c.B A.bx (fB A.p0 A.p1 A.p2 A.p3 v)) b
  have ne : ∀ {a : Addr} {xs : List V}, H a = some (.lst xs) → a ≠ A.b := fun e => ne_of e b (fun h => nomatch h)
  exact ⟨upd_same, by rw [upd_ne (ne e0)]; exact e0, ⟨mv, by rw [upd_ne (ne m1)]; exact m1, m2.imp fun _ _ => MkAt.mono k⟩, ⟨uv, by rw [upd_ne (ne u1)]; exact u1, u2.imp fun _ _ => UsAt.mono k⟩, by rw [upd_ne (ne e3)]; exact e3, nd⟩
theorem Dq.same (B : Dq H A D) (s : Same H H') : Dq H' A D := by
  obtain ⟨b, nb, e0, ⟨mv, m1, m2⟩, ⟨uv, u1, u2⟩, e3, nd⟩ := B
  exact ⟨s _ _ b, nb, s _ _ e0, ⟨mv, s _ _ m1, m2.mono (Same.tk s)⟩, ⟨uv, s _ _ u1, u2.mono (Same.tk s)⟩, s _ _ e3, nd⟩
theorem Dq.fb {M : Ad} (B : Dq H A D) (F : FB M H H') (hb : A.b ∉ M.ls) (hl : ∀ a ∈ A.ls, a ∉ M.ls) : Dq H' A D := by
  obtain ⟨b, nb, e0, ⟨mv, m1, m2⟩, ⟨uv, u1, u2⟩, e3, nd⟩ := B
  exact ⟨F.1 _ _ b hb, nb, F.1 _ _ e0 (hl _ (by simp [Ad.ls])), ⟨mv, F.1 _ _ m1 (hl _ (by simp [Ad.ls])), m2.mono F.2.tk⟩, ⟨uv, F.1 _ _ u1 (hl _ (by simp [Ad.ls])), u2.mono F.2.tk⟩, F.1 _ _ e3 (hl _ (by simp [Ad.ls])), nd⟩
theorem Bq.fb {M : Ad} (B : Bq c H A r D) (F : FB M H H') (hb : A.b ∉ M.ls) (hl : ∀ a ∈ A.ls, a ∉ M.ls) : Bq c H' A r D := by
  obtain ⟨b, e0, ⟨mv, m1, m2⟩, ⟨uv, u1, u2⟩, e3, nd⟩ := B
  exact ⟨F.1 _ _ b hb, F.1 _ _ e0 (hl _ (by simp [Ad.ls])), ⟨mv, F.1 _ _ m1 (hl _ (by simp [Ad.ls])), m2.imp fun _ _ => MkAt.mono F.2⟩, ⟨uv, F.1 _ _ u1 (hl _ (by simp [Ad.ls])), u2.imp fun _ _ => UsAt.mono F.2⟩, F.1 _ _ e3 (hl _ (by simp [Ad.ls])), nd⟩
theorem Dq.other (B : Dq H A D) {a : Addr} {xs ys : List V} (e : H a = some (.lst xs)) (n : a ∉ A.ls) (nb' : a ≠ A.b) : Dq (upd H a (.lst ys)) A D := by
  obtain ⟨b, nb, e0, ⟨mv, m1, m2⟩, ⟨uv, u1, u2⟩, e3, nd⟩ := B
  have k := (fk_lst (o := .lst ys) e).tk
  simp only [Ad.ls, List.mem_cons, List.not_mem_nil, or_false, not_or] at n
  exact ⟨by rw [upd_ne (Ne.symm nb')]; exact b, nb, by rw [upd_ne (Ne.symm n.1)]; exact e0, ⟨mv, by rw [upd_ne (Ne.symm n.2.1)]; exact m1, m2.mono k⟩, ⟨uv, by rw [upd_ne (Ne.symm n.2.2.1)]; exact u1, u2.mono k⟩, by rw [upd_ne (Ne.symm n.2.2.2)]; exact e3, nd⟩
theorem Dq.nbs (B : Dq H A D) : A.b ≠ A.p0 ∧ A.b ≠ A.p1 ∧ A.b ≠ A.p2 := by
  have n := B.nb
  simp only [Ad.ls, List.mem_cons, List.not_mem_nil, or_false, not_or] at n
  exact ⟨n.1, n.2.1, n.2.2.1⟩
theorem Dq.pt (B : Dq H A D) (v : Int) : Dq (upd H A.p0 (.lst (D.pts.map V.int ++ [.int v]))) A { D with pts := D.pts ++ [v] } := by
  obtain ⟨nb0, _, _⟩ := B.nbs
  obtain ⟨b, nb, e0, ⟨mv, m1, m2⟩, ⟨uv, u1, u2⟩, e3, nd⟩ := B
  have k := (fk_lst (o := .lst (D.pts.map V.int ++ [.int v])) e0).tk
  obtain ⟨n1, n2, n3, _⟩ := Ad.ne nd
  exact ⟨by rw [upd_ne nb0]; exact b, nb, by rw [upd_same, List.map_append]; rfl, ⟨mv, by rw [upd_ne (Ne.symm n1)]; exact m1, m2.mono k⟩, ⟨uv, by rw [upd_ne (Ne.symm n2)]; exact u1, u2.mono k⟩, by rw [upd_ne (Ne.symm n3)]; exact e3, nd⟩
theorem Dq.addM (B : Dq H A D) {mv : List V} {x : V} {m : Mkg} (e : H A.p1 = some (.lst mv)) (hx : Im H x m.d) : Dq (upd H A.p1 (.lst (mv ++ [x]))) A { D with mks := D.mks ++ [m] } := by
  obtain ⟨_, nb1, _⟩ := B.nbs
  obtain ⟨b, nb, e0, ⟨mv', m1, m2⟩, ⟨uv, u1, u2⟩, e3, nd⟩ := B
  rw [e] at m1
  cases m1
  have k := (fk_lst (o := .lst (mv ++ [x])) e).tk
  obtain ⟨n1, _, _, n4, n5, _⟩ := Ad.ne nd
  exact ⟨by rw [upd_ne nb1]; exact b, nb, by rw [upd_ne n1]; exact e0, ⟨_, upd_same, by rw [List.map_append]; exact (m2.mono k).app (.cons (hx.mono k) .nil)⟩, ⟨uv, by rw [upd_ne (Ne.symm n4)]; exact u1, u2.mono k⟩, by rw [upd_ne (Ne.symm n5)]; exact e3, nd⟩
theorem Dq.us (B : Dq H A D) {uv : List V} {x : V} {u : Us} (e : H A.p2 = some (.lst uv)) (hx : Im H x u.d) : Dq (upd H A.p2 (.lst (uv ++ [x]))) A { D with uss := D.uss ++ [u] } := by
  obtain ⟨_, _, nb2⟩ := B.nbs
  obtain ⟨b, nb, e0, ⟨mv, m1, m2⟩, ⟨uv', u1, u2⟩, e3, nd⟩ := B
  rw [e] at u1
  cases u1
  have k := (fk_lst (o := .lst (uv ++ [x])) e).tk
  obtain ⟨_, n2, _, n4, _, n6⟩ := Ad.ne nd
  exact ⟨by rw [upd_ne nb2]; exact b, nb, by rw [upd_ne n2]; exact e0, ⟨mv, by rw [upd_ne n4]; exact m1, m2.mono k⟩, ⟨_, upd_same, by rw [List.map_append]; exact (u2.mono k).app (.cons (hx.mono k) .nil)⟩, by rw [upd_ne (Ne.symm n6)]; exact e3, nd⟩
end
theorem lcm_fld {K : PySem.W.Frag} {a : Addr} {te : TE} {Q : VK} {H1 : Hp} {D : Addr} {xs : List V} {l : List (Str × Kd)} {rest : St} (e : H1 a = some (.tup xs)) (I : Ims H1 xs (l.map fD)) (hn : xs.length < sizeLine)
    (R : Nat → List V → Hp → Prop) (hT : ∀ k zs H, R k zs H → TK H1 H) (hR : ∀ k zs H ys ys', R k zs H → H D = some (.lst ys) → R k zs (upd H D (.lst ys'))) (h0 : R 0 [] (upd H1 D (.lst [])))
    (step : ∀ k H p t x zs (Z : VK), R k zs H → H D = some (.lst zs) → l[k]? = some p → H t = some (.tup [.str p.1, x]) → Im H x p.2.d → (∀ y H5, H5 D = some (.lst zs) → R (k + 1) (zs ++ [y]) H5 → Z y H5) → te (some (.ref t) :: rest) H Z)
    (hq : ∀ H' zs, R l.length zs H' → zs.length = l.length → H' D = some (.lst zs) → Q (.ref D) H') : LcP (Itt K a) 0 tAlways te Q (none :: rest) H1 D := by
  have lx := I.length
  rw [List.length_map] at lx
  refine ⟨fun k m σ' H2 => m = xs.length - k ∧ k ≤ xs.length ∧ (∃ u, σ' = u :: rest) ∧ ∃ zs, H2 D = some (.lst zs) ∧ zs.length = k ∧ R k zs H2, ⟨xs.length, by simp, Nat.zero_le _, ⟨_, rfl⟩, [], upd_same, rfl, h0⟩, ?_⟩
  rintro k m σ' H2 ⟨rfl, hk, ⟨u, rfl⟩, zs, ez, lz, hz⟩
  have ea := hT _ _ _ hz _ _ e
  by_cases hlt : k < xs.length
  · refine .inr ⟨⟨xs, xs[k], SqT.of ea, List.getElem?_eq_getElem hlt⟩, ?_⟩
    rintro y H3 ⟨rfl, hy⟩
    obtain ⟨p, t, x, hp, rfl, et, hx⟩ := fld_at (I.mono (hT _ _ _ hz)) (hy xs (SqT.of ea))
    show te (some (.ref t) :: rest) _ _
    refine step k _ p t x zs _ hz ez hp et hx fun y H5 e5 r5 => ?_
    exact ⟨zs, e5, by omega, xs.length - (k + 1), by omega, rfl, hlt, ⟨_, rfl⟩, zs ++ [y], upd_same, by rw [List.length_append, lz]; rfl, hR _ _ _ _ _ r5 e5⟩
  · have e1 : k = xs.length := by omega
    subst e1
    exact .inl ⟨⟨xs, SqT.of ea, Nat.le_refl _⟩, hq H2 zs (by rw [← lx]; exact hz) (by omega) ez⟩
theorem lcm_flds {K : PySem.W.Frag} {a : Addr} {te : TE} {Q : VK} {H1 : Hp} {D : Addr} {xs : List V} {l : List (Str × Kd)} {u0 u1 : Option V} {rest : St} (e : H1 a = some (.tup xs)) (I : Ims H1 xs (l.map fD)) (hn : xs.length < sizeLine)
    (R : Nat → List V → Hp → Prop) (hT : ∀ k zs H, R k zs H → TK H1 H) (hR : ∀ k zs H ys ys', R k zs H → H D = some (.lst ys) → R k zs (upd H D (.lst ys'))) (h0 : R 0 [] (upd H1 D (.lst [])))
    (step : ∀ k H p x zs (Z : VK), R k zs H → H D = some (.lst zs) → l[k]? = some p → Im H x p.2.d → (∀ y H5, H5 D = some (.lst zs) → R (k + 1) (zs ++ [y]) H5 → Z y H5) → te (some (.str p.1) :: some x :: rest) H Z)
    (hq : ∀ H' zs, R l.length zs H' → zs.length = l.length → H' D = some (.lst zs) → Q (.ref D) H') : LcG (Itt K a) (gTup K 2 (gCons (gName 0) (gCons (gName 1) gNil))) te Q (u0 :: u1 :: rest) H1 D := by
  have lx := I.length
  rw [List.length_map] at lx
  refine ⟨fun k m σ' H2 => m = xs.length - k ∧ k ≤ xs.length ∧ (∃ u v, σ' = u :: v :: rest) ∧ ∃ zs, H2 D = some (.lst zs) ∧ zs.length = k ∧ R k zs H2, ⟨xs.length, by simp, Nat.zero_le _, ⟨_, _, rfl⟩, [], upd_same, rfl, h0⟩, ?_⟩
  rintro k m σ' H2 ⟨rfl, hk, ⟨u, v, rfl⟩, zs, ez, lz, hz⟩
  have ea := hT _ _ _ hz _ _ e
  by_cases hlt : k < xs.length
  · refine .inr ⟨⟨xs, xs[k], SqT.of ea, List.getElem?_eq_getElem hlt⟩, ?_⟩
    rintro y H3 ⟨rfl, hy⟩
    obtain ⟨p, t, x, hp, rfl, et, hx⟩ := fld_at (I.mono (hT _ _ _ hz)) (hy xs (SqT.of ea))
    refine ⟨t, _, rfl, SqT.of et, rfl, _, _, rfl, _, _, rfl, rfl, ?_⟩
    refine step k _ p x zs _ hz ez hp hx fun y H5 e5 r5 => ?_
    exact ⟨zs, e5, by omega, xs.length - (k + 1), by omega, rfl, hlt, ⟨_, _, rfl⟩, zs ++ [y], upd_same, by rw [List.length_append, lz]; rfl, hR _ _ _ _ _ r5 e5⟩
  · have e1 : k = xs.length := by omega
    subst e1
    exact .inl ⟨⟨xs, SqT.of ea, Nat.le_refl _⟩, hq H2 zs (by rw [← lx]; exact hz) (by omega) ez⟩
end KK.Internal
namespace K53.Internal
open PySem L2.Internal
theorem l0 {P : List Value → Prop} (h : P []) : ∀ us : List Value, us.length = 0 → P us := fun us e => by rw [List.eq_nil_of_length_eq_zero e]; exact h
theorem lS {n : Nat} {P : List Value → Prop} (h : ∀ a, ∀ us : List Value, us.length = n → P (a :: us)) : ∀ us : List Value, us.length = n + 1 → P us := fun us e => by
  cases us with
  | nil => cases e
  | cons a t => exact h a t (Nat.succ.inj e)
noncomputable def top (i : Nat) : Stmt := PySem.Challenge.pw_flowkinds_k53_lower_and_upper.main.body.getD i (.Pass ⟨0, 0, 0, 0⟩)
noncomputable abbrev s__wall : Stmt := top 0
noncomputable abbrev s_lower : Stmt := top 11
noncomputable abbrev s_upper : Stmt := top 12
noncomputable abbrev s_uppers : Stmt := top 13
noncomputable abbrev s__law_stem : Stmt := top 15
noncomputable abbrev s__law_words : Stmt := top 16
noncomputable abbrev s__law_alike : Stmt := top 17
noncomputable abbrev s__law_mix : Stmt := top 18
noncomputable abbrev s__law_leaf : Stmt := top 19
noncomputable abbrev s__law_pop : Stmt := top 20
noncomputable abbrev s__law_fields : Stmt := top 21
noncomputable abbrev s__law_knit : Stmt := top 22
noncomputable abbrev s__law_triples : Stmt := top 23
noncomputable abbrev s__law_told : Stmt := top 24
noncomputable abbrev s__law_use_due : Stmt := top 25
noncomputable abbrev s__law_stand : Stmt := top 26
noncomputable abbrev s_law : Stmt := top 27
noncomputable abbrev s_Make___init__ : Stmt := inClass (top 2) 0
noncomputable abbrev s_Make_told : Stmt := inClass (top 2) 1
noncomputable abbrev s_Use___init__ : Stmt := inClass (top 3) 0
noncomputable abbrev s_NumUse_met : Stmt := inClass (top 4) 0
noncomputable abbrev s_NumUse_told : Stmt := inClass (top 4) 1
noncomputable abbrev s_CallUse___init__ : Stmt := inClass (top 5) 0
noncomputable abbrev s_CallUse_met : Stmt := inClass (top 5) 1
noncomputable abbrev s_CallUse_told : Stmt := inClass (top 5) 2
noncomputable abbrev s_TakeUse___init__ : Stmt := inClass (top 6) 0
noncomputable abbrev s_TakeUse_met : Stmt := inClass (top 6) 1
noncomputable abbrev s_TakeUse_told : Stmt := inClass (top 6) 2
noncomputable abbrev s_CaseUse___init__ : Stmt := inClass (top 7) 0
noncomputable abbrev s_CaseUse_met : Stmt := inClass (top 7) 1
noncomputable abbrev s_CaseUse_told : Stmt := inClass (top 7) 2
noncomputable abbrev s_RowUse___init__ : Stmt := inClass (top 8) 0
noncomputable abbrev s_RowUse_met : Stmt := inClass (top 8) 1
noncomputable abbrev s_RowUse_told : Stmt := inClass (top 8) 2
noncomputable abbrev s_Board___init__ : Stmt := inClass (top 9) 0
noncomputable abbrev s_Board_point : Stmt := inClass (top 9) 1
noncomputable abbrev s_Board_make : Stmt := inClass (top 9) 2
noncomputable abbrev s_Board_use : Stmt := inClass (top 9) 3
noncomputable abbrev s_Board_flow : Stmt := inClass (top 9) 4
noncomputable abbrev s_Board_rooted : Stmt := inClass (top 9) 5
set_option genInjectivity false in
set_option genSizeOf false in
structure Txt (K : PySem.W.Frag) (mg : Str → Option Value) where
  a_lower : Addr
  fd_lower : FuncData
  F_lower : Fun K "lower" "lower" s_lower a_lower fd_lower
  b_lower : Binds K fd_lower ["board", "kind"] []
  m_lower : mg "lower" = some (.ref a_lower)
  k_lower : PySem.W.keepIn K (.ref a_lower) = true
  a_upper : Addr
  fd_upper : FuncData
  F_upper : Fun K "upper" "upper" s_upper a_upper fd_upper
  b_upper : Binds K fd_upper ["board", "kind"] []
  m_upper : mg "upper" = some (.ref a_upper)
  k_upper : PySem.W.keepIn K (.ref a_upper) = true
  a_uppers : Addr
  fd_uppers : FuncData
  F_uppers : Fun K "uppers" "uppers" s_uppers a_uppers fd_uppers
  b_uppers : Binds K fd_uppers ["board", "members"] []
  m_uppers : mg "uppers" = some (.ref a_uppers)
  k_uppers : PySem.W.keepIn K (.ref a_uppers) = true
  a__law_stem : Addr
  fd__law_stem : FuncData
  F__law_stem : Fun K "_law_stem" "_law_stem" s__law_stem a__law_stem fd__law_stem
  b__law_stem : Binds K fd__law_stem ["_law_cell", "_law_size"] []
  m__law_stem : mg "_law_stem" = some (.ref a__law_stem)
  k__law_stem : PySem.W.keepIn K (.ref a__law_stem) = true
  a__law_words : Addr
  fd__law_words : FuncData
  F__law_words : Fun K "_law_words" "_law_words" s__law_words a__law_words fd__law_words
  b__law_words : Binds K fd__law_words ["_law_cell"] []
  m__law_words : mg "_law_words" = some (.ref a__law_words)
  k__law_words : PySem.W.keepIn K (.ref a__law_words) = true
  a__law_alike : Addr
  fd__law_alike : FuncData
  F__law_alike : Fun K "_law_alike" "_law_alike" s__law_alike a__law_alike fd__law_alike
  b__law_alike : Binds K fd__law_alike ["_law_found", "_law_due"] []
  m__law_alike : mg "_law_alike" = some (.ref a__law_alike)
  k__law_alike : PySem.W.keepIn K (.ref a__law_alike) = true
  a__law_mix : Addr
  fd__law_mix : FuncData
  F__law_mix : Fun K "_law_mix" "_law_mix" s__law_mix a__law_mix fd__law_mix
  b__law_mix : Binds K fd__law_mix ["_law_cell", "_law_k"] []
  m__law_mix : mg "_law_mix" = some (.ref a__law_mix)
  k__law_mix : PySem.W.keepIn K (.ref a__law_mix) = true
  a__law_leaf : Addr
  fd__law_leaf : FuncData
  F__law_leaf : Fun K "_law_leaf" "_law_leaf" s__law_leaf a__law_leaf fd__law_leaf
  b__law_leaf : Binds K fd__law_leaf ["_law_c"] []
  m__law_leaf : mg "_law_leaf" = some (.ref a__law_leaf)
  k__law_leaf : PySem.W.keepIn K (.ref a__law_leaf) = true
  a__law_pop : Addr
  fd__law_pop : FuncData
  F__law_pop : Fun K "_law_pop" "_law_pop" s__law_pop a__law_pop fd__law_pop
  b__law_pop : Binds K fd__law_pop ["_law_stack"] []
  m__law_pop : mg "_law_pop" = some (.ref a__law_pop)
  k__law_pop : PySem.W.keepIn K (.ref a__law_pop) = true
  a__law_fields : Addr
  fd__law_fields : FuncData
  F__law_fields : Fun K "_law_fields" "_law_fields" s__law_fields a__law_fields fd__law_fields
  b__law_fields : Binds K fd__law_fields ["_law_words_here", "_law_stack", "_law_shape", "_law_c"] []
  m__law_fields : mg "_law_fields" = some (.ref a__law_fields)
  k__law_fields : PySem.W.keepIn K (.ref a__law_fields) = true
  a__law_knit : Addr
  fd__law_knit : FuncData
  F__law_knit : Fun K "_law_knit" "_law_knit" s__law_knit a__law_knit fd__law_knit
  b__law_knit : Binds K fd__law_knit ["_law_words_here", "_law_stack", "_law_c"] []
  m__law_knit : mg "_law_knit" = some (.ref a__law_knit)
  k__law_knit : PySem.W.keepIn K (.ref a__law_knit) = true
  a__law_triples : Addr
  fd__law_triples : FuncData
  F__law_triples : Fun K "_law_triples" "_law_triples" s__law_triples a__law_triples fd__law_triples
  b__law_triples : Binds K fd__law_triples ["_law_words_here", "_law_cells", "_law_nest", "_law_size"] []
  m__law_triples : mg "_law_triples" = some (.ref a__law_triples)
  k__law_triples : PySem.W.keepIn K (.ref a__law_triples) = true
  a__law_told : Addr
  fd__law_told : FuncData
  F__law_told : Fun K "_law_told" "_law_told" s__law_told a__law_told fd__law_told
  b__law_told : Binds K fd__law_told ["_law_board"] []
  m__law_told : mg "_law_told" = some (.ref a__law_told)
  k__law_told : PySem.W.keepIn K (.ref a__law_told) = true
  a__law_use_due : Addr
  fd__law_use_due : FuncData
  F__law_use_due : Fun K "_law_use_due" "_law_use_due" s__law_use_due a__law_use_due fd__law_use_due
  b__law_use_due : Binds K fd__law_use_due ["_law_kind", "_law_parts", "_law_at"] []
  m__law_use_due : mg "_law_use_due" = some (.ref a__law_use_due)
  k__law_use_due : PySem.W.keepIn K (.ref a__law_use_due) = true
  a__law_stand : Addr
  fd__law_stand : FuncData
  F__law_stand : Fun K "_law_stand" "_law_stand" s__law_stand a__law_stand fd__law_stand
  b__law_stand : Binds K fd__law_stand ["_law_told_here", "_law_kind", "_law_low"] []
  m__law_stand : mg "_law_stand" = some (.ref a__law_stand)
  k__law_stand : PySem.W.keepIn K (.ref a__law_stand) = true
  a_Make : Addr
  m_Make : mg "Make" = some (.ref a_Make)
  cl_Make : Cls K a_Make
  ty_Make : ∀ (H : Hp) (a dx : Addr) (fs : List (Str × V)), H a = some (.ins a_Make dx fs) → TyOf K H (.ref a) (.ref a_Make)
  n_Make_shape : NoAttr K a_Make "shape"
  n_Make_parts : NoAttr K a_Make "parts"
  n_Make_at : NoAttr K a_Make "at"
  n_Make_place : NoAttr K a_Make "place"
  a_Make___init__ : Addr
  fd_Make___init__ : FuncData
  F_Make___init__ : Fun K "__init__" "Make.__init__" s_Make___init__ a_Make___init__ fd_Make___init__
  b_Make___init__ : Binds K fd_Make___init__ ["self", "shape", "parts", "at", "place"] []
  mk_Make : Mk K a_Make a_Make___init__
  a_Make_told : Addr
  fd_Make_told : FuncData
  F_Make_told : Fun K "told" "Make.told" s_Make_told a_Make_told fd_Make_told
  b_Make_told : Binds K fd_Make_told ["self"] []
  me_Make_told : Meth K a_Make "told" a_Make_told
  a_Use : Addr
  m_Use : mg "Use" = some (.ref a_Use)
  cl_Use : Cls K a_Use
  ty_Use : ∀ (H : Hp) (a dx : Addr) (fs : List (Str × V)), H a = some (.ins a_Use dx fs) → TyOf K H (.ref a) (.ref a_Use)
  n_Use_at : NoAttr K a_Use "at"
  n_Use_place : NoAttr K a_Use "place"
  n_Use_slot : NoAttr K a_Use "slot"
  a_Use___init__ : Addr
  fd_Use___init__ : FuncData
  F_Use___init__ : Fun K "__init__" "Use.__init__" s_Use___init__ a_Use___init__ fd_Use___init__
  b_Use___init__ : Binds K fd_Use___init__ ["self", "at", "place", "slot"] []
  cm_Use___init__ : ClsM K a_Use "__init__" a_Use___init__
  mk_Use : Mk K a_Use a_Use___init__
  a_NumUse : Addr
  m_NumUse : mg "NumUse" = some (.ref a_NumUse)
  cl_NumUse : Cls K a_NumUse
  ty_NumUse : ∀ (H : Hp) (a dx : Addr) (fs : List (Str × V)), H a = some (.ins a_NumUse dx fs) → TyOf K H (.ref a) (.ref a_NumUse)
  n_NumUse_at : NoAttr K a_NumUse "at"
  n_NumUse_place : NoAttr K a_NumUse "place"
  n_NumUse_slot : NoAttr K a_NumUse "slot"
  a_NumUse_told : Addr
  fd_NumUse_told : FuncData
  F_NumUse_told : Fun K "told" "NumUse.told" s_NumUse_told a_NumUse_told fd_NumUse_told
  b_NumUse_told : Binds K fd_NumUse_told ["self"] []
  me_NumUse_told : Meth K a_NumUse "told" a_NumUse_told
  mk_NumUse : Mk K a_NumUse a_Use___init__
  a_CallUse : Addr
  m_CallUse : mg "CallUse" = some (.ref a_CallUse)
  cl_CallUse : Cls K a_CallUse
  ty_CallUse : ∀ (H : Hp) (a dx : Addr) (fs : List (Str × V)), H a = some (.ins a_CallUse dx fs) → TyOf K H (.ref a) (.ref a_CallUse)
  n_CallUse_arg : NoAttr K a_CallUse "arg"
  n_CallUse_out : NoAttr K a_CallUse "out"
  n_CallUse_at : NoAttr K a_CallUse "at"
  n_CallUse_place : NoAttr K a_CallUse "place"
  n_CallUse_slot : NoAttr K a_CallUse "slot"
  a_CallUse___init__ : Addr
  fd_CallUse___init__ : FuncData
  F_CallUse___init__ : Fun K "__init__" "CallUse.__init__" s_CallUse___init__ a_CallUse___init__ fd_CallUse___init__
  b_CallUse___init__ : Binds K fd_CallUse___init__ ["self", "at", "place", "slot", "arg", "out"] []
  mk_CallUse : Mk K a_CallUse a_CallUse___init__
  a_CallUse_told : Addr
  fd_CallUse_told : FuncData
  F_CallUse_told : Fun K "told" "CallUse.told" s_CallUse_told a_CallUse_told fd_CallUse_told
  b_CallUse_told : Binds K fd_CallUse_told ["self"] []
  me_CallUse_told : Meth K a_CallUse "told" a_CallUse_told
  a_TakeUse : Addr
  m_TakeUse : mg "TakeUse" = some (.ref a_TakeUse)
  cl_TakeUse : Cls K a_TakeUse
  ty_TakeUse : ∀ (H : Hp) (a dx : Addr) (fs : List (Str × V)), H a = some (.ins a_TakeUse dx fs) → TyOf K H (.ref a) (.ref a_TakeUse)
  n_TakeUse_fields : NoAttr K a_TakeUse "fields"
  n_TakeUse_at : NoAttr K a_TakeUse "at"
  n_TakeUse_place : NoAttr K a_TakeUse "place"
  n_TakeUse_slot : NoAttr K a_TakeUse "slot"
  a_TakeUse___init__ : Addr
  fd_TakeUse___init__ : FuncData
  F_TakeUse___init__ : Fun K "__init__" "TakeUse.__init__" s_TakeUse___init__ a_TakeUse___init__ fd_TakeUse___init__
  b_TakeUse___init__ : Binds K fd_TakeUse___init__ ["self", "at", "place", "slot", "fields"] []
  mk_TakeUse : Mk K a_TakeUse a_TakeUse___init__
  a_TakeUse_told : Addr
  fd_TakeUse_told : FuncData
  F_TakeUse_told : Fun K "told" "TakeUse.told" s_TakeUse_told a_TakeUse_told fd_TakeUse_told
  b_TakeUse_told : Binds K fd_TakeUse_told ["self"] []
  me_TakeUse_told : Meth K a_TakeUse "told" a_TakeUse_told
  a_CaseUse : Addr
  m_CaseUse : mg "CaseUse" = some (.ref a_CaseUse)
  cl_CaseUse : Cls K a_CaseUse
  ty_CaseUse : ∀ (H : Hp) (a dx : Addr) (fs : List (Str × V)), H a = some (.ins a_CaseUse dx fs) → TyOf K H (.ref a) (.ref a_CaseUse)
  n_CaseUse_arms : NoAttr K a_CaseUse "arms"
  n_CaseUse_at : NoAttr K a_CaseUse "at"
  n_CaseUse_place : NoAttr K a_CaseUse "place"
  n_CaseUse_slot : NoAttr K a_CaseUse "slot"
  a_CaseUse___init__ : Addr
  fd_CaseUse___init__ : FuncData
  F_CaseUse___init__ : Fun K "__init__" "CaseUse.__init__" s_CaseUse___init__ a_CaseUse___init__ fd_CaseUse___init__
  b_CaseUse___init__ : Binds K fd_CaseUse___init__ ["self", "at", "place", "slot", "arms"] []
  mk_CaseUse : Mk K a_CaseUse a_CaseUse___init__
  a_CaseUse_told : Addr
  fd_CaseUse_told : FuncData
  F_CaseUse_told : Fun K "told" "CaseUse.told" s_CaseUse_told a_CaseUse_told fd_CaseUse_told
  b_CaseUse_told : Binds K fd_CaseUse_told ["self"] []
  me_CaseUse_told : Meth K a_CaseUse "told" a_CaseUse_told
  a_RowUse : Addr
  m_RowUse : mg "RowUse" = some (.ref a_RowUse)
  cl_RowUse : Cls K a_RowUse
  ty_RowUse : ∀ (H : Hp) (a dx : Addr) (fs : List (Str × V)), H a = some (.ins a_RowUse dx fs) → TyOf K H (.ref a) (.ref a_RowUse)
  n_RowUse_out : NoAttr K a_RowUse "out"
  n_RowUse_at : NoAttr K a_RowUse "at"
  n_RowUse_place : NoAttr K a_RowUse "place"
  n_RowUse_slot : NoAttr K a_RowUse "slot"
  a_RowUse___init__ : Addr
  fd_RowUse___init__ : FuncData
  F_RowUse___init__ : Fun K "__init__" "RowUse.__init__" s_RowUse___init__ a_RowUse___init__ fd_RowUse___init__
  b_RowUse___init__ : Binds K fd_RowUse___init__ ["self", "at", "place", "slot", "out"] []
  mk_RowUse : Mk K a_RowUse a_RowUse___init__
  a_RowUse_told : Addr
  fd_RowUse_told : FuncData
  F_RowUse_told : Fun K "told" "RowUse.told" s_RowUse_told a_RowUse_told fd_RowUse_told
  b_RowUse_told : Binds K fd_RowUse_told ["self"] []
  me_RowUse_told : Meth K a_RowUse "told" a_RowUse_told
  a_Board : Addr
  m_Board : mg "Board" = some (.ref a_Board)
  cl_Board : Cls K a_Board
  ty_Board : ∀ (H : Hp) (a dx : Addr) (fs : List (Str × V)), H a = some (.ins a_Board dx fs) → TyOf K H (.ref a) (.ref a_Board)
  n_Board_points : NoAttr K a_Board "points"
  n_Board_makes : NoAttr K a_Board "makes"
  n_Board_uses : NoAttr K a_Board "uses"
  n_Board_flows : NoAttr K a_Board "flows"
  n_Board_root : NoAttr K a_Board "root"
  a_Board___init__ : Addr
  fd_Board___init__ : FuncData
  F_Board___init__ : Fun K "__init__" "Board.__init__" s_Board___init__ a_Board___init__ fd_Board___init__
  b_Board___init__ : Binds K fd_Board___init__ ["self"] []
  mk_Board : Mk K a_Board a_Board___init__
  a_Board_point : Addr
  fd_Board_point : FuncData
  F_Board_point : Fun K "point" "Board.point" s_Board_point a_Board_point fd_Board_point
  b_Board_point : Binds K fd_Board_point ["self", "place"] []
  me_Board_point : Meth K a_Board "point" a_Board_point
  a_Board_make : Addr
  fd_Board_make : FuncData
  F_Board_make : Fun K "make" "Board.make" s_Board_make a_Board_make fd_Board_make
  b_Board_make : Binds K fd_Board_make ["self", "shape", "parts", "at", "place"] []
  me_Board_make : Meth K a_Board "make" a_Board_make
  a_Board_use : Addr
  fd_Board_use : FuncData
  F_Board_use : Fun K "use" "Board.use" s_Board_use a_Board_use fd_Board_use
  b_Board_use : Binds K fd_Board_use ["self", "one"] []
  me_Board_use : Meth K a_Board "use" a_Board_use
  a_Board_rooted : Addr
  fd_Board_rooted : FuncData
  F_Board_rooted : Fun K "rooted" "Board.rooted" s_Board_rooted a_Board_rooted fd_Board_rooted
  b_Board_rooted : Binds K fd_Board_rooted ["self", "p"] []
  me_Board_rooted : Meth K a_Board "rooted" a_Board_rooted
  z_all : mg "all" = none
  z_bool : mg "bool" = none
  z_enumerate : mg "enumerate" = none
  z_int : mg "int" = none
  z_isinstance : mg "isinstance" = none
  z_len : mg "len" = none
  z_list : mg "list" = none
  z_max : mg "max" = none
  z_range : mg "range" = none
  z_sorted : mg "sorted" = none
  z_str : mg "str" = none
  z_sum : mg "sum" = none
  z_tuple : mg "tuple" = none
  z_zip : mg "zip" = none
theorem sc_lower : FnScope ["board", "kind", "at", "arg", "arm"] ["board", "kind"] (defScope s_lower) := ⟨rfl, rfl, rfl, by decide +kernel, rfl, by decide +kernel, by decide +kernel⟩
theorem sc_upper : FnScope ["board", "kind", "at", "arg"] ["board", "kind"] (defScope s_upper) := ⟨rfl, rfl, rfl, by decide +kernel, rfl, by decide +kernel, by decide +kernel⟩
theorem sc_uppers : FnScope ["board", "members"] ["board", "members"] (defScope s_uppers) := ⟨rfl, rfl, rfl, by decide +kernel, rfl, by decide +kernel, by decide +kernel⟩
theorem sc__law_stem : FnScope ["_law_cell", "_law_size", "_law_signs", "_law_stem_here", "_law_k", "_law_many"] ["_law_cell", "_law_size"] (defScope s__law_stem) := ⟨rfl, rfl, rfl, by decide +kernel, rfl, by decide +kernel, by decide +kernel⟩
theorem sc__law_words : FnScope ["_law_cell", "_law_size", "_law_words_here", "_law_stem_here", "_law_at", "_law_k", "_law_word", "_law_part"] ["_law_cell"] (defScope s__law_words) := ⟨rfl, rfl, rfl, by decide +kernel, rfl, by decide +kernel, by decide +kernel⟩
theorem sc__law_alike : FnScope ["_law_found", "_law_due"] ["_law_found", "_law_due"] (defScope s__law_alike) := ⟨rfl, rfl, rfl, by decide +kernel, rfl, by decide +kernel, by decide +kernel⟩
theorem sc__law_mix : FnScope ["_law_cell", "_law_k"] ["_law_cell", "_law_k"] (defScope s__law_mix) := ⟨rfl, rfl, rfl, by decide +kernel, rfl, by decide +kernel, by decide +kernel⟩
theorem sc__law_leaf : FnScope ["_law_c", "_law_least", "_law_rows"] ["_law_c"] (defScope s__law_leaf) := ⟨rfl, rfl, rfl, by decide +kernel, rfl, by decide +kernel, by decide +kernel⟩
theorem sc__law_pop : FnScope ["_law_stack"] ["_law_stack"] (defScope s__law_pop) := ⟨rfl, rfl, rfl, by decide +kernel, rfl, by decide +kernel, by decide +kernel⟩
theorem sc__law_fields : FnScope ["_law_words_here", "_law_stack", "_law_shape", "_law_c", "_law_chosen", "_law_parts", "_law_rows", "_law_k", "_law_word", "_law_level", "_law_j", "_law_side", "_law_nest"] ["_law_words_here", "_law_stack", "_law_shape", "_law_c"] (defScope s__law_fields) := ⟨rfl, rfl, rfl, by decide +kernel, rfl, by decide +kernel, by decide +kernel⟩
theorem sc__law_knit : FnScope ["_law_words_here", "_law_stack", "_law_c", "_law_op", "_law_one", "_law_other", "_law_kinds", "_law_part"] ["_law_words_here", "_law_stack", "_law_c"] (defScope s__law_knit) := ⟨rfl, rfl, rfl, by decide +kernel, rfl, by decide +kernel, by decide +kernel⟩
theorem sc__law_triples : FnScope ["_law_words_here", "_law_cells", "_law_nest", "_law_size", "_law_stack", "_law_cell", "_law_c", "_law_new"] ["_law_words_here", "_law_cells", "_law_nest", "_law_size"] (defScope s__law_triples) := ⟨rfl, rfl, rfl, by decide +kernel, rfl, by decide +kernel, by decide +kernel⟩
theorem sc__law_told : FnScope ["_law_board", "_law_makes", "_law_uses"] ["_law_board"] (defScope s__law_told) := ⟨rfl, rfl, rfl, by decide +kernel, rfl, by decide +kernel, by decide +kernel⟩
theorem sc__law_use_due : FnScope ["_law_kind", "_law_parts", "_law_at"] ["_law_kind", "_law_parts", "_law_at"] (defScope s__law_use_due) := ⟨rfl, rfl, rfl, by decide +kernel, rfl, by decide +kernel, by decide +kernel⟩
theorem sc__law_stand : FnScope ["_law_told_here", "_law_kind", "_law_low", "_law_at", "_law_word", "_law_part", "_law_parts"] ["_law_told_here", "_law_kind", "_law_low"] (defScope s__law_stand) := ⟨rfl, rfl, rfl, by decide +kernel, rfl, by decide +kernel, by decide +kernel⟩
theorem sc_law : FnScope ["_law_script", "_law_first", "_law_words_here", "_law_board", "_law_due", "_law_k", "_law_root", "_law_item", "_law_kind", "_law_low", "_law_at", "_law_told_here"] ["_law_script"] (defScope s_law) := ⟨rfl, rfl, rfl, by decide +kernel, rfl, by decide +kernel, by decide +kernel⟩
theorem sc_Make___init__ : FnScope ["self", "shape", "parts", "at", "place"] ["self", "shape", "parts", "at", "place"] (defScope s_Make___init__) := ⟨rfl, rfl, rfl, by decide +kernel, rfl, by decide +kernel, by decide +kernel⟩
theorem sc_Make_told : FnScope ["self"] ["self"] (defScope s_Make_told) := ⟨rfl, rfl, rfl, by decide +kernel, rfl, by decide +kernel, by decide +kernel⟩
theorem sc_Use___init__ : FnScope ["self", "at", "place", "slot"] ["self", "at", "place", "slot"] (defScope s_Use___init__) := ⟨rfl, rfl, rfl, by decide +kernel, rfl, by decide +kernel, by decide +kernel⟩
theorem sc_NumUse_told : FnScope ["self"] ["self"] (defScope s_NumUse_told) := ⟨rfl, rfl, rfl, by decide +kernel, rfl, by decide +kernel, by decide +kernel⟩
theorem sc_CallUse___init__ : FnScope ["self", "at", "place", "slot", "arg", "out"] ["self", "at", "place", "slot", "arg", "out"] (defScope s_CallUse___init__) := ⟨rfl, rfl, rfl, by decide +kernel, rfl, by decide +kernel, by decide +kernel⟩
theorem sc_CallUse_told : FnScope ["self"] ["self"] (defScope s_CallUse_told) := ⟨rfl, rfl, rfl, by decide +kernel, rfl, by decide +kernel, by decide +kernel⟩
theorem sc_TakeUse___init__ : FnScope ["self", "at", "place", "slot", "fields"] ["self", "at", "place", "slot", "fields"] (defScope s_TakeUse___init__) := ⟨rfl, rfl, rfl, by decide +kernel, rfl, by decide +kernel, by decide +kernel⟩
theorem sc_TakeUse_told : FnScope ["self"] ["self"] (defScope s_TakeUse_told) := ⟨rfl, rfl, rfl, by decide +kernel, rfl, by decide +kernel, by decide +kernel⟩
theorem sc_CaseUse___init__ : FnScope ["self", "at", "place", "slot", "arms"] ["self", "at", "place", "slot", "arms"] (defScope s_CaseUse___init__) := ⟨rfl, rfl, rfl, by decide +kernel, rfl, by decide +kernel, by decide +kernel⟩
theorem sc_CaseUse_told : FnScope ["self"] ["self"] (defScope s_CaseUse_told) := ⟨rfl, rfl, rfl, by decide +kernel, rfl, by decide +kernel, by decide +kernel⟩
theorem sc_RowUse___init__ : FnScope ["self", "at", "place", "slot", "out"] ["self", "at", "place", "slot", "out"] (defScope s_RowUse___init__) := ⟨rfl, rfl, rfl, by decide +kernel, rfl, by decide +kernel, by decide +kernel⟩
theorem sc_RowUse_told : FnScope ["self"] ["self"] (defScope s_RowUse_told) := ⟨rfl, rfl, rfl, by decide +kernel, rfl, by decide +kernel, by decide +kernel⟩
theorem sc_Board___init__ : FnScope ["self"] ["self"] (defScope s_Board___init__) := ⟨rfl, rfl, rfl, by decide +kernel, rfl, by decide +kernel, by decide +kernel⟩
theorem sc_Board_point : FnScope ["self", "place"] ["self", "place"] (defScope s_Board_point) := ⟨rfl, rfl, rfl, by decide +kernel, rfl, by decide +kernel, by decide +kernel⟩
theorem sc_Board_make : FnScope ["self", "shape", "parts", "at", "place"] ["self", "shape", "parts", "at", "place"] (defScope s_Board_make) := ⟨rfl, rfl, rfl, by decide +kernel, rfl, by decide +kernel, by decide +kernel⟩
theorem sc_Board_use : FnScope ["self", "one"] ["self", "one"] (defScope s_Board_use) := ⟨rfl, rfl, rfl, by decide +kernel, rfl, by decide +kernel, by decide +kernel⟩
theorem sc_Board_rooted : FnScope ["self", "p"] ["self", "p"] (defScope s_Board_rooted) := ⟨rfl, rfl, rfl, by decide +kernel, rfl, by decide +kernel, by decide +kernel⟩
noncomputable def sp_law (K : PySem.W.Frag) : Sp := fun vs H Q _ => ∃ (a : Addr) (ns : List Int), vs = [.ref a] ∧ SqL K H a (ns.map V.int) ∧ ns.length ≤ 63 ∧ ∀ H', Q (.bl true) H'
end K53.Internal
namespace K53.Internal
open PySem L2.Internal BO.Internal KK.Internal
seal L2.Internal.PE L2.Internal.PA L2.Internal.PS L2.Internal.PSs L2.Internal.PT L2.Internal.PI
theorem same_upd {H H2 : Hp} {l : Addr} (s : Same H H2) (h : H l = none) (o : HO) : Same H (upd H2 l o) := fun b u e => by rw [upd_ne (ne_of_none e h)]; exact s b u e
theorem fU_mk (a p s : V) : putF "slot" s (putF "place" p (putF "at" a [])) = fU a p s := by
  have h1 : ¬ ("at" : Str) = "place" := by decide +kernel
  have h2 : ¬ ("at" : Str) = "slot" := by decide +kernel
  have h3 : ¬ ("place" : Str) = "slot" := by decide +kernel
  simp only [putF, if_neg h1, if_neg h2, if_neg h3, fU]
theorem fU1_mk (n : Str) (a p s x : V) (h1 : ¬ ("at" : Str) = n) (h2 : ¬ ("place" : Str) = n) (h3 : ¬ ("slot" : Str) = n) : putF n x (fU a p s) = fU1 n a p s x := by
  simp only [putF, fU, if_neg h1, if_neg h2, if_neg h3, fU1]
theorem fU2_mk (a p s x y : V) : putF "out" y (putF "arg" x (fU a p s)) = fU2 a p s x y := by
  have h1 : ¬ ("at" : Str) = "arg" := by decide +kernel
  have h2 : ¬ ("place" : Str) = "arg" := by decide +kernel
  have h3 : ¬ ("slot" : Str) = "arg" := by decide +kernel
  have h4 : ¬ ("at" : Str) = "out" := by decide +kernel
  have h5 : ¬ ("place" : Str) = "out" := by decide +kernel
  have h6 : ¬ ("slot" : Str) = "out" := by decide +kernel
  have h7 : ¬ ("arg" : Str) = "out" := by decide +kernel
  simp only [putF, fU, if_neg h1, if_neg h2, if_neg h3, if_neg h4, if_neg h5, if_neg h6, if_neg h7, fU2]
theorem fM_mk (s f a p : V) : putF "place" p (putF "at" a (putF "parts" f (putF "shape" s []))) = fM s f a p := by
  have h1 : ¬ ("shape" : Str) = "parts" := by decide +kernel
  have h2 : ¬ ("shape" : Str) = "at" := by decide +kernel
  have h3 : ¬ ("shape" : Str) = "place" := by decide +kernel
  have h4 : ¬ ("parts" : Str) = "at" := by decide +kernel
  have h5 : ¬ ("parts" : Str) = "place" := by decide +kernel
  have h6 : ¬ ("at" : Str) = "place" := by decide +kernel
  simp only [putF, if_neg h1, if_neg h2, if_neg h3, if_neg h4, if_neg h5, if_neg h6, fM]
theorem len_put {f : Str} {v : V} {fs : List (Str × V)} {n : Nat} (h : fs.length < n) : (putF f v fs).length < n + 1 := Nat.lt_of_le_of_lt (length_putF f v fs) (Nat.succ_lt_succ h)
theorem fU_at (a p s : V) : (fU a p s).lookup ("at" : Str) = some (a) := by
  unfold fU
  rw [List.lookup_cons, show (("at" : Str) == "at") = true by decide +kernel]
theorem fU_place (a p s : V) : (fU a p s).lookup ("place" : Str) = some (p) := by
  unfold fU
  rw [List.lookup_cons, show (("place" : Str) == "at") = false by decide +kernel, List.lookup_cons, show (("place" : Str) == "place") = true by decide +kernel]
theorem fU_slot (a p s : V) : (fU a p s).lookup ("slot" : Str) = some (s) := by
  unfold fU
  rw [List.lookup_cons, show (("slot" : Str) == "at") = false by decide +kernel, List.lookup_cons, show (("slot" : Str) == "place") = false by decide +kernel, List.lookup_cons, show (("slot" : Str) == "slot") = true by decide +kernel]
theorem fU_no_told (a p s : V) : (fU a p s).lookup ("told" : Str) = none := by
  unfold fU
  rw [List.lookup_cons, show (("told" : Str) == "at") = false by decide +kernel, List.lookup_cons, show (("told" : Str) == "place") = false by decide +kernel, List.lookup_cons, show (("told" : Str) == "slot") = false by decide +kernel]
  rfl
theorem fU2_at (a p s x y : V) : (fU2 a p s x y).lookup ("at" : Str) = some (a) := by
  unfold fU2
  rw [List.lookup_cons, show (("at" : Str) == "at") = true by decide +kernel]
theorem fU2_place (a p s x y : V) : (fU2 a p s x y).lookup ("place" : Str) = some (p) := by
  unfold fU2
  rw [List.lookup_cons, show (("place" : Str) == "at") = false by decide +kernel, List.lookup_cons, show (("place" : Str) == "place") = true by decide +kernel]
theorem fU2_slot (a p s x y : V) : (fU2 a p s x y).lookup ("slot" : Str) = some (s) := by
  unfold fU2
  rw [List.lookup_cons, show (("slot" : Str) == "at") = false by decide +kernel, List.lookup_cons, show (("slot" : Str) == "place") = false by decide +kernel, List.lookup_cons, show (("slot" : Str) == "slot") = true by decide +kernel]
theorem fU2_arg (a p s x y : V) : (fU2 a p s x y).lookup ("arg" : Str) = some (x) := by
  unfold fU2
  rw [List.lookup_cons, show (("arg" : Str) == "at") = false by decide +kernel, List.lookup_cons, show (("arg" : Str) == "place") = false by decide +kernel, List.lookup_cons, show (("arg" : Str) == "slot") = false by decide +kernel, List.lookup_cons, show (("arg" : Str) == "arg") = true by decide +kernel]
theorem fU2_out (a p s x y : V) : (fU2 a p s x y).lookup ("out" : Str) = some (y) := by
  unfold fU2
  rw [List.lookup_cons, show (("out" : Str) == "at") = false by decide +kernel, List.lookup_cons, show (("out" : Str) == "place") = false by decide +kernel, List.lookup_cons, show (("out" : Str) == "slot") = false by decide +kernel, List.lookup_cons, show (("out" : Str) == "arg") = false by decide +kernel, List.lookup_cons, show (("out" : Str) == "out") = true by decide +kernel]
theorem fU2_no_told (a p s x y : V) : (fU2 a p s x y).lookup ("told" : Str) = none := by
  unfold fU2
  rw [List.lookup_cons, show (("told" : Str) == "at") = false by decide +kernel, List.lookup_cons, show (("told" : Str) == "place") = false by decide +kernel, List.lookup_cons, show (("told" : Str) == "slot") = false by decide +kernel, List.lookup_cons, show (("told" : Str) == "arg") = false by decide +kernel, List.lookup_cons, show (("told" : Str) == "out") = false by decide +kernel]
  rfl
theorem fM_shape (s f a p : V) : (fM s f a p).lookup ("shape" : Str) = some (s) := by
  unfold fM
  rw [List.lookup_cons, show (("shape" : Str) == "shape") = true by decide +kernel]
theorem fM_parts (s f a p : V) : (fM s f a p).lookup ("parts" : Str) = some (f) := by
  unfold fM
  rw [List.lookup_cons, show (("parts" : Str) == "shape") = false by decide +kernel, List.lookup_cons, show (("parts" : Str) == "parts") = true by decide +kernel]
theorem fM_at (s f a p : V) : (fM s f a p).lookup ("at" : Str) = some (a) := by
  unfold fM
  rw [List.lookup_cons, show (("at" : Str) == "shape") = false by decide +kernel, List.lookup_cons, show (("at" : Str) == "parts") = false by decide +kernel, List.lookup_cons, show (("at" : Str) == "at") = true by decide +kernel]
theorem fM_place (s f a p : V) : (fM s f a p).lookup ("place" : Str) = some (p) := by
  unfold fM
  rw [List.lookup_cons, show (("place" : Str) == "shape") = false by decide +kernel, List.lookup_cons, show (("place" : Str) == "parts") = false by decide +kernel, List.lookup_cons, show (("place" : Str) == "at") = false by decide +kernel, List.lookup_cons, show (("place" : Str) == "place") = true by decide +kernel]
theorem fM_no_told (s f a p : V) : (fM s f a p).lookup ("told" : Str) = none := by
  unfold fM
  rw [List.lookup_cons, show (("told" : Str) == "shape") = false by decide +kernel, List.lookup_cons, show (("told" : Str) == "parts") = false by decide +kernel, List.lookup_cons, show (("told" : Str) == "at") = false by decide +kernel, List.lookup_cons, show (("told" : Str) == "place") = false by decide +kernel]
  rfl
theorem fB_points (p0 p1 p2 p3 : Addr) (r : V) : (fB p0 p1 p2 p3 r).lookup ("points" : Str) = some (.ref p0) := by
  unfold fB
  rw [List.lookup_cons, show (("points" : Str) == "points") = true by decide +kernel]
theorem fB_makes (p0 p1 p2 p3 : Addr) (r : V) : (fB p0 p1 p2 p3 r).lookup ("makes" : Str) = some (.ref p1) := by
  unfold fB
  rw [List.lookup_cons, show (("makes" : Str) == "points") = false by decide +kernel, List.lookup_cons, show (("makes" : Str) == "makes") = true by decide +kernel]
theorem fB_uses (p0 p1 p2 p3 : Addr) (r : V) : (fB p0 p1 p2 p3 r).lookup ("uses" : Str) = some (.ref p2) := by
  unfold fB
  rw [List.lookup_cons, show (("uses" : Str) == "points") = false by decide +kernel, List.lookup_cons, show (("uses" : Str) == "makes") = false by decide +kernel, List.lookup_cons, show (("uses" : Str) == "uses") = true by decide +kernel]
theorem fB_flows (p0 p1 p2 p3 : Addr) (r : V) : (fB p0 p1 p2 p3 r).lookup ("flows" : Str) = some (.ref p3) := by
  unfold fB
  rw [List.lookup_cons, show (("flows" : Str) == "points") = false by decide +kernel, List.lookup_cons, show (("flows" : Str) == "makes") = false by decide +kernel, List.lookup_cons, show (("flows" : Str) == "uses") = false by decide +kernel, List.lookup_cons, show (("flows" : Str) == "flows") = true by decide +kernel]
theorem fB_root (p0 p1 p2 p3 : Addr) (r : V) : (fB p0 p1 p2 p3 r).lookup ("root" : Str) = some (r) := by
  unfold fB
  rw [List.lookup_cons, show (("root" : Str) == "points") = false by decide +kernel, List.lookup_cons, show (("root" : Str) == "makes") = false by decide +kernel, List.lookup_cons, show (("root" : Str) == "uses") = false by decide +kernel, List.lookup_cons, show (("root" : Str) == "flows") = false by decide +kernel, List.lookup_cons, show (("root" : Str) == "root") = true by decide +kernel]
theorem fB_no_point (p0 p1 p2 p3 : Addr) (r : V) : (fB p0 p1 p2 p3 r).lookup ("point" : Str) = none := by
  unfold fB
  rw [List.lookup_cons, show (("point" : Str) == "points") = false by decide +kernel, List.lookup_cons, show (("point" : Str) == "makes") = false by decide +kernel, List.lookup_cons, show (("point" : Str) == "uses") = false by decide +kernel, List.lookup_cons, show (("point" : Str) == "flows") = false by decide +kernel, List.lookup_cons, show (("point" : Str) == "root") = false by decide +kernel]
  rfl
theorem fB_no_make (p0 p1 p2 p3 : Addr) (r : V) : (fB p0 p1 p2 p3 r).lookup ("make" : Str) = none := by
  unfold fB
  rw [List.lookup_cons, show (("make" : Str) == "points") = false by decide +kernel, List.lookup_cons, show (("make" : Str) == "makes") = false by decide +kernel, List.lookup_cons, show (("make" : Str) == "uses") = false by decide +kernel, List.lookup_cons, show (("make" : Str) == "flows") = false by decide +kernel, List.lookup_cons, show (("make" : Str) == "root") = false by decide +kernel]
  rfl
theorem fB_no_use (p0 p1 p2 p3 : Addr) (r : V) : (fB p0 p1 p2 p3 r).lookup ("use" : Str) = none := by
  unfold fB
  rw [List.lookup_cons, show (("use" : Str) == "points") = false by decide +kernel, List.lookup_cons, show (("use" : Str) == "makes") = false by decide +kernel, List.lookup_cons, show (("use" : Str) == "uses") = false by decide +kernel, List.lookup_cons, show (("use" : Str) == "flows") = false by decide +kernel, List.lookup_cons, show (("use" : Str) == "root") = false by decide +kernel]
  rfl
theorem fB_no_rooted (p0 p1 p2 p3 : Addr) (r : V) : (fB p0 p1 p2 p3 r).lookup ("rooted" : Str) = none := by
  unfold fB
  rw [List.lookup_cons, show (("rooted" : Str) == "points") = false by decide +kernel, List.lookup_cons, show (("rooted" : Str) == "makes") = false by decide +kernel, List.lookup_cons, show (("rooted" : Str) == "uses") = false by decide +kernel, List.lookup_cons, show (("rooted" : Str) == "flows") = false by decide +kernel, List.lookup_cons, show (("rooted" : Str) == "root") = false by decide +kernel]
  rfl
theorem fU1F_at (a p s x : V) : (fU1 "fields" a p s x).lookup ("at" : Str) = some (a) := by
  unfold fU1
  rw [List.lookup_cons, show (("at" : Str) == "at") = true by decide +kernel]
theorem fU1F_place (a p s x : V) : (fU1 "fields" a p s x).lookup ("place" : Str) = some (p) := by
  unfold fU1
  rw [List.lookup_cons, show (("place" : Str) == "at") = false by decide +kernel, List.lookup_cons, show (("place" : Str) == "place") = true by decide +kernel]
theorem fU1F_slot (a p s x : V) : (fU1 "fields" a p s x).lookup ("slot" : Str) = some (s) := by
  unfold fU1
  rw [List.lookup_cons, show (("slot" : Str) == "at") = false by decide +kernel, List.lookup_cons, show (("slot" : Str) == "place") = false by decide +kernel, List.lookup_cons, show (("slot" : Str) == "slot") = true by decide +kernel]
theorem fU1F_fields (a p s x : V) : (fU1 "fields" a p s x).lookup ("fields" : Str) = some (x) := by
  unfold fU1
  rw [List.lookup_cons, show (("fields" : Str) == "at") = false by decide +kernel, List.lookup_cons, show (("fields" : Str) == "place") = false by decide +kernel, List.lookup_cons, show (("fields" : Str) == "slot") = false by decide +kernel, List.lookup_cons, show (("fields" : Str) == "fields") = true by decide +kernel]
theorem fU1F_no_told (a p s x : V) : (fU1 "fields" a p s x).lookup ("told" : Str) = none := by
  unfold fU1
  rw [List.lookup_cons, show (("told" : Str) == "at") = false by decide +kernel, List.lookup_cons, show (("told" : Str) == "place") = false by decide +kernel, List.lookup_cons, show (("told" : Str) == "slot") = false by decide +kernel, List.lookup_cons, show (("told" : Str) == "fields") = false by decide +kernel]
  rfl
theorem fU1A_at (a p s x : V) : (fU1 "arms" a p s x).lookup ("at" : Str) = some (a) := by
  unfold fU1
  rw [List.lookup_cons, show (("at" : Str) == "at") = true by decide +kernel]
theorem fU1A_place (a p s x : V) : (fU1 "arms" a p s x).lookup ("place" : Str) = some (p) := by
  unfold fU1
  rw [List.lookup_cons, show (("place" : Str) == "at") = false by decide +kernel, List.lookup_cons, show (("place" : Str) == "place") = true by decide +kernel]
theorem fU1A_slot (a p s x : V) : (fU1 "arms" a p s x).lookup ("slot" : Str) = some (s) := by
  unfold fU1
  rw [List.lookup_cons, show (("slot" : Str) == "at") = false by decide +kernel, List.lookup_cons, show (("slot" : Str) == "place") = false by decide +kernel, List.lookup_cons, show (("slot" : Str) == "slot") = true by decide +kernel]
theorem fU1A_arms (a p s x : V) : (fU1 "arms" a p s x).lookup ("arms" : Str) = some (x) := by
  unfold fU1
  rw [List.lookup_cons, show (("arms" : Str) == "at") = false by decide +kernel, List.lookup_cons, show (("arms" : Str) == "place") = false by decide +kernel, List.lookup_cons, show (("arms" : Str) == "slot") = false by decide +kernel, List.lookup_cons, show (("arms" : Str) == "arms") = true by decide +kernel]
theorem fU1A_no_told (a p s x : V) : (fU1 "arms" a p s x).lookup ("told" : Str) = none := by
  unfold fU1
  rw [List.lookup_cons, show (("told" : Str) == "at") = false by decide +kernel, List.lookup_cons, show (("told" : Str) == "place") = false by decide +kernel, List.lookup_cons, show (("told" : Str) == "slot") = false by decide +kernel, List.lookup_cons, show (("told" : Str) == "arms") = false by decide +kernel]
  rfl
theorem fU1O_at (a p s x : V) : (fU1 "out" a p s x).lookup ("at" : Str) = some (a) := by
  unfold fU1
  rw [List.lookup_cons, show (("at" : Str) == "at") = true by decide +kernel]
theorem fU1O_place (a p s x : V) : (fU1 "out" a p s x).lookup ("place" : Str) = some (p) := by
  unfold fU1
  rw [List.lookup_cons, show (("place" : Str) == "at") = false by decide +kernel, List.lookup_cons, show (("place" : Str) == "place") = true by decide +kernel]
theorem fU1O_slot (a p s x : V) : (fU1 "out" a p s x).lookup ("slot" : Str) = some (s) := by
  unfold fU1
  rw [List.lookup_cons, show (("slot" : Str) == "at") = false by decide +kernel, List.lookup_cons, show (("slot" : Str) == "place") = false by decide +kernel, List.lookup_cons, show (("slot" : Str) == "slot") = true by decide +kernel]
theorem fU1O_out (a p s x : V) : (fU1 "out" a p s x).lookup ("out" : Str) = some (x) := by
  unfold fU1
  rw [List.lookup_cons, show (("out" : Str) == "at") = false by decide +kernel, List.lookup_cons, show (("out" : Str) == "place") = false by decide +kernel, List.lookup_cons, show (("out" : Str) == "slot") = false by decide +kernel, List.lookup_cons, show (("out" : Str) == "out") = true by decide +kernel]
theorem fU1O_no_told (a p s x : V) : (fU1 "out" a p s x).lookup ("told" : Str) = none := by
  unfold fU1
  rw [List.lookup_cons, show (("told" : Str) == "at") = false by decide +kernel, List.lookup_cons, show (("told" : Str) == "place") = false by decide +kernel, List.lookup_cons, show (("told" : Str) == "slot") = false by decide +kernel, List.lookup_cons, show (("told" : Str) == "out") = false by decide +kernel]
  rfl
section
variable {P : Program} {w : World} {K : PySem.W.Frag} {mg : Str → Option Value} {base : Heap}
noncomputable def sp_Use___init__ (K : PySem.W.Frag) : Sp := fun vs H Q _ => ∃ (x C dx : Addr) (a p s : V), vs = [.ref x, a, p, s] ∧ H x = some (.ins C dx []) ∧ Cls K C ∧ NoAttr K C "at" ∧ NoAttr K C "place" ∧ NoAttr K C "slot" ∧ Q .non (upd H x (.ins C dx (fU a p s)))
theorem ok_Use___init__ (T : Txt K mg) : FnOk P w K mg base CX0 1 T.a_Use___init__ T.fd_Use___init__ ["self", "at", "place", "slot"] (sp_Use___init__ K) := by
  refine T.F_Use___init__.ok sc_Use___init__ (fun vs H Q E h => ?_) (fun cdv A outer s H vs Q E hr h => ?_)
  · obtain ⟨x, C, dx, a, p, s, rfl, _⟩ := h
    rfl
  obtain ⟨x, C, dx, a, p, sl, rfl, hx, cl, n1, n2, n3, q⟩ := h
  refine ⟨_, (pss_cons (ps_fld (pv 0) (pv 1) rfl)
    (pss_cons (ps_fld (pv 0) (pv 2) rfl)
    (pss_one (ps_fld (pv 0) (pv 3) rfl)))), ?_⟩
  refine ⟨_, rfl, _, rfl, x, C, dx, [], rfl, hx, cl, n1, (by show 0 < 1000; decide), ?_⟩
  refine ⟨_, rfl, _, rfl, x, C, dx, _, rfl, upd_same, cl, n2, (by show 1 < 1000; decide), ?_⟩
  refine ⟨_, rfl, _, rfl, x, C, dx, _, rfl, upd_same, cl, n3, len_put (len_put (by show 0 < 998; decide)), ?_⟩
  rw [upd_upd, upd_upd, fU_mk]
  exact q
noncomputable def sp_CallUse___init__ (C : Addr) : Sp := fun vs H Q _ => ∃ (x dx : Addr) (a p s y z : V), vs = [.ref x, a, p, s, y, z] ∧ H x = some (.ins C dx []) ∧ Q .non (upd H x (.ins C dx (fU2 a p s y z)))
theorem ok_CallUse___init__ (T : Txt K mg) : FnOk P w K mg base CX0 2 T.a_CallUse___init__ T.fd_CallUse___init__ ["self", "at", "place", "slot", "arg", "out"] (sp_CallUse___init__ T.a_CallUse) := by
  have G_Use___init__ := ok_Use___init__ (P := P) (w := w) (base := base) T
  refine T.F_CallUse___init__.ok sc_CallUse___init__ (fun vs H Q E h => ?_) (fun cdv A outer s H vs Q E hr h => ?_)
  · obtain ⟨x, dx, a, p, s, y, z, rfl, _⟩ := h
    rfl
  obtain ⟨x, dx, a, p, sl, y, z, rfl, hx, q⟩ := h
  refine ⟨_, (pss_cons (ps_expr (pe_clsm (pe_gR rfl T.m_Use) T.cm_Use___init__ G_Use___init__ (hr.mono (by decide)) T.b_Use___init__ .nil pass0 (pa_cons (pv 0) (pa_cons (pv 1) (pa_cons (pv 2) (pa_cons (pv 3) pa_nil))))))
    (pss_cons (ps_fld (pv 0) (pv 4) rfl)
    (pss_one (ps_fld (pv 0) (pv 5) rfl)))), ?_⟩
  refine ⟨_, rfl, _, rfl, _, rfl, _, rfl, x, _, dx, a, p, sl, rfl, hx, T.cl_CallUse, T.n_CallUse_at, T.n_CallUse_place, T.n_CallUse_slot, ?_⟩
  refine ⟨_, rfl, _, rfl, x, _, dx, _, rfl, upd_same, T.cl_CallUse, T.n_CallUse_arg, (by show 3 < 1000; decide), ?_⟩
  refine ⟨_, rfl, _, rfl, x, _, dx, _, rfl, upd_same, T.cl_CallUse, T.n_CallUse_out, len_put (by show 3 < 999; decide), ?_⟩
  rw [upd_upd, upd_upd, fU2_mk]
  exact q
noncomputable def sp_U1 (C : Addr) (n : Str) : Sp := fun vs H Q _ => ∃ (x dx : Addr) (a p s y : V), vs = [.ref x, a, p, s, y] ∧ H x = some (.ins C dx []) ∧ Q .non (upd H x (.ins C dx (fU1 n a p s y)))
theorem ok_TakeUse___init__ (T : Txt K mg) : FnOk P w K mg base CX0 2 T.a_TakeUse___init__ T.fd_TakeUse___init__ ["self", "at", "place", "slot", "fields"] (sp_U1 T.a_TakeUse "fields") := by
  have G_Use___init__ := ok_Use___init__ (P := P) (w := w) (base := base) T
  refine T.F_TakeUse___init__.ok sc_TakeUse___init__ (fun vs H Q E h => ?_) (fun cdv A outer s H vs Q E hr h => ?_)
  · obtain ⟨x, dx, a, p, s, y, rfl, _⟩ := h
    rfl
  obtain ⟨x, dx, a, p, sl, y, rfl, hx, q⟩ := h
  refine ⟨_, (pss_cons (ps_expr (pe_clsm (pe_gR rfl T.m_Use) T.cm_Use___init__ G_Use___init__ (hr.mono (by decide)) T.b_Use___init__ .nil pass0 (pa_cons (pv 0) (pa_cons (pv 1) (pa_cons (pv 2) (pa_cons (pv 3) pa_nil))))))
    (pss_one (ps_fld (pv 0) (pv 4) rfl))), ?_⟩
  refine ⟨_, rfl, _, rfl, _, rfl, _, rfl, x, _, dx, a, p, sl, rfl, hx, T.cl_TakeUse, T.n_TakeUse_at, T.n_TakeUse_place, T.n_TakeUse_slot, ?_⟩
  refine ⟨_, rfl, _, rfl, x, _, dx, _, rfl, upd_same, T.cl_TakeUse, T.n_TakeUse_fields, (by show 3 < 1000; decide), ?_⟩
  rw [upd_upd, fU1_mk "fields" a p sl y (by decide +kernel) (by decide +kernel) (by decide +kernel)]
  exact q
theorem ok_CaseUse___init__ (T : Txt K mg) : FnOk P w K mg base CX0 2 T.a_CaseUse___init__ T.fd_CaseUse___init__ ["self", "at", "place", "slot", "arms"] (sp_U1 T.a_CaseUse "arms") := by
  have G_Use___init__ := ok_Use___init__ (P := P) (w := w) (base := base) T
  refine T.F_CaseUse___init__.ok sc_CaseUse___init__ (fun vs H Q E h => ?_) (fun cdv A outer s H vs Q E hr h => ?_)
  · obtain ⟨x, dx, a, p, s, y, rfl, _⟩ := h
    rfl
  obtain ⟨x, dx, a, p, sl, y, rfl, hx, q⟩ := h
  refine ⟨_, (pss_cons (ps_expr (pe_clsm (pe_gR rfl T.m_Use) T.cm_Use___init__ G_Use___init__ (hr.mono (by decide)) T.b_Use___init__ .nil pass0 (pa_cons (pv 0) (pa_cons (pv 1) (pa_cons (pv 2) (pa_cons (pv 3) pa_nil))))))
    (pss_one (ps_fld (pv 0) (pv 4) rfl))), ?_⟩
  refine ⟨_, rfl, _, rfl, _, rfl, _, rfl, x, _, dx, a, p, sl, rfl, hx, T.cl_CaseUse, T.n_CaseUse_at, T.n_CaseUse_place, T.n_CaseUse_slot, ?_⟩
  refine ⟨_, rfl, _, rfl, x, _, dx, _, rfl, upd_same, T.cl_CaseUse, T.n_CaseUse_arms, (by show 3 < 1000; decide), ?_⟩
  rw [upd_upd, fU1_mk "arms" a p sl y (by decide +kernel) (by decide +kernel) (by decide +kernel)]
  exact q
theorem ok_RowUse___init__ (T : Txt K mg) : FnOk P w K mg base CX0 2 T.a_RowUse___init__ T.fd_RowUse___init__ ["self", "at", "place", "slot", "out"] (sp_U1 T.a_RowUse "out") := by
  have G_Use___init__ := ok_Use___init__ (P := P) (w := w) (base := base) T
  refine T.F_RowUse___init__.ok sc_RowUse___init__ (fun vs H Q E h => ?_) (fun cdv A outer s H vs Q E hr h => ?_)
  · obtain ⟨x, dx, a, p, s, y, rfl, _⟩ := h
    rfl
  obtain ⟨x, dx, a, p, sl, y, rfl, hx, q⟩ := h
  refine ⟨_, (pss_cons (ps_expr (pe_clsm (pe_gR rfl T.m_Use) T.cm_Use___init__ G_Use___init__ (hr.mono (by decide)) T.b_Use___init__ .nil pass0 (pa_cons (pv 0) (pa_cons (pv 1) (pa_cons (pv 2) (pa_cons (pv 3) pa_nil))))))
    (pss_one (ps_fld (pv 0) (pv 4) rfl))), ?_⟩
  refine ⟨_, rfl, _, rfl, _, rfl, _, rfl, x, _, dx, a, p, sl, rfl, hx, T.cl_RowUse, T.n_RowUse_at, T.n_RowUse_place, T.n_RowUse_slot, ?_⟩
  refine ⟨_, rfl, _, rfl, x, _, dx, _, rfl, upd_same, T.cl_RowUse, T.n_RowUse_out, (by show 3 < 1000; decide), ?_⟩
  rw [upd_upd, fU1_mk "out" a p sl y (by decide +kernel) (by decide +kernel) (by decide +kernel)]
  exact q
noncomputable def sp_Make___init__ (C : Addr) : Sp := fun vs H Q _ => ∃ (x dx : Addr) (s f a p : V), vs = [.ref x, s, f, a, p] ∧ H x = some (.ins C dx []) ∧ Q .non (upd H x (.ins C dx (fM s f a p)))
theorem ok_Make___init__ (T : Txt K mg) : FnOk P w K mg base CX0 1 T.a_Make___init__ T.fd_Make___init__ ["self", "shape", "parts", "at", "place"] (sp_Make___init__ T.a_Make) := by
  refine T.F_Make___init__.ok sc_Make___init__ (fun vs H Q E h => ?_) (fun cdv A outer s H vs Q E hr h => ?_)
  · obtain ⟨x, dx, s, f, a, p, rfl, _⟩ := h
    rfl
  obtain ⟨x, dx, sh, f, a, p, rfl, hx, q⟩ := h
  refine ⟨_, (pss_cons (ps_fld (pv 0) (pv 1) rfl)
    (pss_cons (ps_fld (pv 0) (pv 2) rfl)
    (pss_cons (ps_fld (pv 0) (pv 3) rfl)
    (pss_one (ps_fld (pv 0) (pv 4) rfl))))), ?_⟩
  refine ⟨_, rfl, _, rfl, x, _, dx, [], rfl, hx, T.cl_Make, T.n_Make_shape, (by show 0 < 1000; decide), ?_⟩
  refine ⟨_, rfl, _, rfl, x, _, dx, _, rfl, upd_same, T.cl_Make, T.n_Make_parts, (by show 1 < 1000; decide), ?_⟩
  refine ⟨_, rfl, _, rfl, x, _, dx, _, rfl, upd_same, T.cl_Make, T.n_Make_at, len_put (len_put (by show 0 < 998; decide)), ?_⟩
  refine ⟨_, rfl, _, rfl, x, _, dx, _, rfl, upd_same, T.cl_Make, T.n_Make_place, len_put (len_put (len_put (by show 0 < 997; decide))), ?_⟩
  rw [upd_upd, upd_upd, upd_upd, fM_mk]
  exact q
noncomputable def sp_Make_told (C : Addr) : Sp := fun vs H Q _ => ∃ (x dx : Addr) (s1 f1 a1 p1 : V), vs = [.ref x] ∧ H x = some (.ins C dx (fM s1 f1 a1 p1)) ∧ ∀ t, H t = none → Q (.ref t) (upd H t (.tup [s1, f1, a1, p1]))
theorem ok_Make_told (T : Txt K mg) : FnOk P w K mg base CX0 1 T.a_Make_told T.fd_Make_told ["self"] (sp_Make_told T.a_Make) := by
  refine T.F_Make_told.ok sc_Make_told (fun vs H Q E h => ?_) (fun cdv A outer s H vs Q E hr h => ?_)
  · obtain ⟨x, dx, s1, f1, a1, p1, rfl, _⟩ := h
    rfl
  obtain ⟨x, dx, s1, f1, a1, p1, rfl, hx, q⟩ := h
  refine ⟨_, (pss_one (ps_ret (pe_tup (pa_cons (pe_fld (pv 0) rfl) (pa_cons (pe_fld (pv 0) rfl) (pa_cons (pe_fld (pv 0) rfl) (pa_cons (pe_fld (pv 0) rfl) pa_nil))))))), ?_⟩
  exact ⟨_, rfl, x, _, dx, _, _, rfl, hx, T.cl_Make, T.n_Make_shape, fM_shape _ _ _ _, _, rfl, x, _, dx, _, _, rfl, hx, T.cl_Make, T.n_Make_parts, fM_parts _ _ _ _, _, rfl, x, _, dx, _, _, rfl, hx, T.cl_Make, T.n_Make_at, fM_at _ _ _ _, _, rfl, x, _, dx, _, _, rfl, hx, T.cl_Make, T.n_Make_place, fM_place _ _ _ _, (by show 4 ≤ sizeLine; decide), fun t ht => q t ht⟩
noncomputable def sp_NumUse_told (C : Addr) : Sp := fun vs H Q _ => ∃ (x dx : Addr) (a1 p1 s1 : V), vs = [.ref x] ∧ H x = some (.ins C dx (fU a1 p1 s1)) ∧ ∀ t, H t = none → Q (.ref t) (upd H t (.tup [.str "num", a1, p1, s1]))
theorem ok_NumUse_told (T : Txt K mg) : FnOk P w K mg base CX0 1 T.a_NumUse_told T.fd_NumUse_told ["self"] (sp_NumUse_told T.a_NumUse) := by
  refine T.F_NumUse_told.ok sc_NumUse_told (fun vs H Q E h => ?_) (fun cdv A outer s H vs Q E hr h => ?_)
  · obtain ⟨x, dx, a1, p1, s1, rfl, _⟩ := h
    rfl
  obtain ⟨x, dx, a1, p1, s1, rfl, hx, q⟩ := h
  refine ⟨_, (pss_one (ps_ret (pe_tup (pa_cons pe_str (pa_cons (pe_fld (pv 0) rfl) (pa_cons (pe_fld (pv 0) rfl) (pa_cons (pe_fld (pv 0) rfl) pa_nil))))))), ?_⟩
  exact ⟨_, rfl, x, _, dx, _, _, rfl, hx, T.cl_NumUse, T.n_NumUse_at, fU_at _ _ _, _, rfl, x, _, dx, _, _, rfl, hx, T.cl_NumUse, T.n_NumUse_place, fU_place _ _ _, _, rfl, x, _, dx, _, _, rfl, hx, T.cl_NumUse, T.n_NumUse_slot, fU_slot _ _ _, (by show 4 ≤ sizeLine; decide), fun t ht => q t ht⟩
noncomputable def sp_CallUse_told (C : Addr) : Sp := fun vs H Q _ => ∃ (x dx : Addr) (a1 p1 s1 x1 y1 : V), vs = [.ref x] ∧ H x = some (.ins C dx (fU2 a1 p1 s1 x1 y1)) ∧ ∀ t, H t = none → Q (.ref t) (upd H t (.tup [.str "call", a1, p1, s1, x1, y1]))
theorem ok_CallUse_told (T : Txt K mg) : FnOk P w K mg base CX0 1 T.a_CallUse_told T.fd_CallUse_told ["self"] (sp_CallUse_told T.a_CallUse) := by
  refine T.F_CallUse_told.ok sc_CallUse_told (fun vs H Q E h => ?_) (fun cdv A outer s H vs Q E hr h => ?_)
  · obtain ⟨x, dx, a1, p1, s1, x1, y1, rfl, _⟩ := h
    rfl
  obtain ⟨x, dx, a1, p1, s1, x1, y1, rfl, hx, q⟩ := h
  refine ⟨_, (pss_one (ps_ret (pe_tup (pa_cons pe_str (pa_cons (pe_fld (pv 0) rfl) (pa_cons (pe_fld (pv 0) rfl) (pa_cons (pe_fld (pv 0) rfl) (pa_cons (pe_fld (pv 0) rfl) (pa_cons (pe_fld (pv 0) rfl) pa_nil))))))))), ?_⟩
  exact ⟨_, rfl, x, _, dx, _, _, rfl, hx, T.cl_CallUse, T.n_CallUse_at, fU2_at _ _ _ _ _, _, rfl, x, _, dx, _, _, rfl, hx, T.cl_CallUse, T.n_CallUse_place, fU2_place _ _ _ _ _, _, rfl, x, _, dx, _, _, rfl, hx, T.cl_CallUse, T.n_CallUse_slot, fU2_slot _ _ _ _ _, _, rfl, x, _, dx, _, _, rfl, hx, T.cl_CallUse, T.n_CallUse_arg, fU2_arg _ _ _ _ _, _, rfl, x, _, dx, _, _, rfl, hx, T.cl_CallUse, T.n_CallUse_out, fU2_out _ _ _ _ _, (by show 6 ≤ sizeLine; decide), fun t ht => q t ht⟩
noncomputable def sp_TakeUse_told (C : Addr) : Sp := fun vs H Q _ => ∃ (x dx : Addr) (a1 p1 s1 x1 : V), vs = [.ref x] ∧ H x = some (.ins C dx (fU1 "fields" a1 p1 s1 x1)) ∧ ∀ t, H t = none → Q (.ref t) (upd H t (.tup [.str "take", a1, p1, s1, x1]))
theorem ok_TakeUse_told (T : Txt K mg) : FnOk P w K mg base CX0 1 T.a_TakeUse_told T.fd_TakeUse_told ["self"] (sp_TakeUse_told T.a_TakeUse) := by
  refine T.F_TakeUse_told.ok sc_TakeUse_told (fun vs H Q E h => ?_) (fun cdv A outer s H vs Q E hr h => ?_)
  · obtain ⟨x, dx, a1, p1, s1, x1, rfl, _⟩ := h
    rfl
  obtain ⟨x, dx, a1, p1, s1, x1, rfl, hx, q⟩ := h
  refine ⟨_, (pss_one (ps_ret (pe_tup (pa_cons pe_str (pa_cons (pe_fld (pv 0) rfl) (pa_cons (pe_fld (pv 0) rfl) (pa_cons (pe_fld (pv 0) rfl) (pa_cons (pe_fld (pv 0) rfl) pa_nil)))))))), ?_⟩
  exact ⟨_, rfl, x, _, dx, _, _, rfl, hx, T.cl_TakeUse, T.n_TakeUse_at, fU1F_at _ _ _ _, _, rfl, x, _, dx, _, _, rfl, hx, T.cl_TakeUse, T.n_TakeUse_place, fU1F_place _ _ _ _, _, rfl, x, _, dx, _, _, rfl, hx, T.cl_TakeUse, T.n_TakeUse_slot, fU1F_slot _ _ _ _, _, rfl, x, _, dx, _, _, rfl, hx, T.cl_TakeUse, T.n_TakeUse_fields, fU1F_fields _ _ _ _, (by show 5 ≤ sizeLine; decide), fun t ht => q t ht⟩
noncomputable def sp_CaseUse_told (C : Addr) : Sp := fun vs H Q _ => ∃ (x dx : Addr) (a1 p1 s1 x1 : V), vs = [.ref x] ∧ H x = some (.ins C dx (fU1 "arms" a1 p1 s1 x1)) ∧ ∀ t, H t = none → Q (.ref t) (upd H t (.tup [.str "case", a1, p1, s1, x1]))
theorem ok_CaseUse_told (T : Txt K mg) : FnOk P w K mg base CX0 1 T.a_CaseUse_told T.fd_CaseUse_told ["self"] (sp_CaseUse_told T.a_CaseUse) := by
  refine T.F_CaseUse_told.ok sc_CaseUse_told (fun vs H Q E h => ?_) (fun cdv A outer s H vs Q E hr h => ?_)
  · obtain ⟨x, dx, a1, p1, s1, x1, rfl, _⟩ := h
    rfl
  obtain ⟨x, dx, a1, p1, s1, x1, rfl, hx, q⟩ := h
  refine ⟨_, (pss_one (ps_ret (pe_tup (pa_cons pe_str (pa_cons (pe_fld (pv 0) rfl) (pa_cons (pe_fld (pv 0) rfl) (pa_cons (pe_fld (pv 0) rfl) (pa_cons (pe_fld (pv 0) rfl) pa_nil)))))))), ?_⟩
  exact ⟨_, rfl, x, _, dx, _, _, rfl, hx, T.cl_CaseUse, T.n_CaseUse_at, fU1A_at _ _ _ _, _, rfl, x, _, dx, _, _, rfl, hx, T.cl_CaseUse, T.n_CaseUse_place, fU1A_place _ _ _ _, _, rfl, x, _, dx, _, _, rfl, hx, T.cl_CaseUse, T.n_CaseUse_slot, fU1A_slot _ _ _ _, _, rfl, x, _, dx, _, _, rfl, hx, T.cl_CaseUse, T.n_CaseUse_arms, fU1A_arms _ _ _ _, (by show 5 ≤ sizeLine; decide), fun t ht => q t ht⟩
noncomputable def sp_RowUse_told (C : Addr) : Sp := fun vs H Q _ => ∃ (x dx : Addr) (a1 p1 s1 x1 : V), vs = [.ref x] ∧ H x = some (.ins C dx (fU1 "out" a1 p1 s1 x1)) ∧ ∀ t, H t = none → Q (.ref t) (upd H t (.tup [.str "row", a1, p1, s1, x1]))
theorem ok_RowUse_told (T : Txt K mg) : FnOk P w K mg base CX0 1 T.a_RowUse_told T.fd_RowUse_told ["self"] (sp_RowUse_told T.a_RowUse) := by
  refine T.F_RowUse_told.ok sc_RowUse_told (fun vs H Q E h => ?_) (fun cdv A outer s H vs Q E hr h => ?_)
  · obtain ⟨x, dx, a1, p1, s1, x1, rfl, _⟩ := h
    rfl
  obtain ⟨x, dx, a1, p1, s1, x1, rfl, hx, q⟩ := h
  refine ⟨_, (pss_one (ps_ret (pe_tup (pa_cons pe_str (pa_cons (pe_fld (pv 0) rfl) (pa_cons (pe_fld (pv 0) rfl) (pa_cons (pe_fld (pv 0) rfl) (pa_cons (pe_fld (pv 0) rfl) pa_nil)))))))), ?_⟩
  exact ⟨_, rfl, x, _, dx, _, _, rfl, hx, T.cl_RowUse, T.n_RowUse_at, fU1O_at _ _ _ _, _, rfl, x, _, dx, _, _, rfl, hx, T.cl_RowUse, T.n_RowUse_place, fU1O_place _ _ _ _, _, rfl, x, _, dx, _, _, rfl, hx, T.cl_RowUse, T.n_RowUse_slot, fU1O_slot _ _ _ _, _, rfl, x, _, dx, _, _, rfl, hx, T.cl_RowUse, T.n_RowUse_out, fU1O_out _ _ _ _, (by show 5 ≤ sizeLine; decide), fun t ht => q t ht⟩
end
end K53.Internal
namespace K53.Internal
open PySem L2.Internal BO.Internal KK.Internal
seal L2.Internal.PE L2.Internal.PA L2.Internal.PS L2.Internal.PSs L2.Internal.PT L2.Internal.PI
section
variable {P : Program} {w : World} {K : PySem.W.Frag} {mg : Str → Option Value} {base : Heap}
noncomputable def sp__law_mix : Sp := fun vs H Q _ => ∃ c k : Int, vs = [.int c, .int k] ∧ 0 ≤ k ∧ k ≤ 100 ∧ ∀ n : Int, 0 ≤ n → n < 2147483647 → Q (.int n) H
theorem ok__law_mix (T : Txt K mg) : FnOk P w K mg base CX0 1 T.a__law_mix T.fd__law_mix ["_law_cell", "_law_k"] sp__law_mix := by
  refine T.F__law_mix.ok sc__law_mix (fun vs H Q E h => ?_) (fun cdv A outer s H vs Q E hr h => ?_)
  · obtain ⟨c, k, rfl, _⟩ := h
    rfl
  obtain ⟨c, k, rfl, h0, h1, q⟩ := h
  refine ⟨_, (pss_one (ps_ret (pe_op op_mod (pe_op op_mul (pe_op op_mod (pv 0) (pe_op op_add (pe_op op_pow pe_int pe_int) pe_int)) (pe_op op_add pe_int (pe_op op_mul (pe_op op_mul pe_int (pv 1)) (pv 1)))) pe_int))), ?_⟩
  have hp : (0 : Int) < 10 ^ (18 : Int).toNat + 9 := by decide +kernel
  have hs : (10 ^ (18 : Int).toNat + 9 : Int) < 2 ^ 64 := by decide +kernel
  have c0 := Int.emod_nonneg c (Int.ne_of_gt hp)
  have c1 := Int.emod_lt_of_pos c hp
  have z : -(2 ^ 64 : Int) < 0 := by decide
  refine ⟨_, rfl, _, _, rfl, rfl, ⟨by decide, by decide, by decide⟩, _, _, rfl, rfl, _, _, rfl, rfl, hp, _, rfl, _, _, rfl, rfl, .inl ⟨by decide, by decide⟩, _, rfl, _, _, rfl, rfl, .inl ⟨by omega, by omega⟩, _, _, rfl, rfl, _, _, rfl, rfl, .inl ⟨Int.lt_of_lt_of_le z c0, Int.lt_trans c1 hs⟩, _, _, rfl, rfl, (by show (0 : Int) < 2147483647; decide), ?_⟩
  exact q _ (Int.emod_nonneg _ (by decide)) (Int.emod_lt_of_pos _ (by decide))
noncomputable def sp__law_stem : Sp := fun vs H Q _ => ∃ c m : Int, vs = [.int c, .int m] ∧ 0 ≤ m ∧ m ≤ 100 ∧ ∀ x : Str, x.length ≤ 100 → Q (.str x) H
theorem sg36 : ("abcdefghijklmnopqrstuvwxyz0123456789" : Str).cps.toList.length = 36 := by decide +kernel
theorem one_len (c : Nat) : (⟨#[c]⟩ : Str).length = 1 := rfl
theorem ok__law_stem (T : Txt K mg) : FnOk P w K mg base CX0 1 T.a__law_stem T.fd__law_stem ["_law_cell", "_law_size"] sp__law_stem := by
  refine T.F__law_stem.ok sc__law_stem (fun vs H Q E h => ?_) (fun cdv A outer s H vs Q E hr h => ?_)
  · obtain ⟨c, m, rfl, _⟩ := h
    rfl
  obtain ⟨c, m, rfl, h0, h1, q⟩ := h
  refine ⟨_, (pss_cons (ps_set (i := 2) sc__law_stem.nd rfl (Or.inl rfl) pe_str)
    (pss_cons (ps_set (i := 3) sc__law_stem.nd rfl (Or.inl rfl) pe_str)
    (pss_cons (ps_for PassesOwn.never rfl (pi_range1 rfl T.z_range (pa_cons (pv 1) pa_nil)) (pg_name (i := 4) sc__law_stem.nd rfl (Or.inl rfl))
      (pss_cons (ps_set (i := 5) sc__law_stem.nd rfl (Or.inl rfl) pe_int)
      (pss_cons (ps_if (pt_cmpR op_eq (pv 4) pe_int (nomark _))
        (pss_one (ps_set (i := 5) sc__law_stem.nd rfl (Or.inl rfl) pe_int))
        pss_nil)
      (pss_cons (ps_set (i := 3) sc__law_stem.nd rfl (Or.inl rfl) (pe_op op_add_str (pv 3) (pe_ix ix_str (pv 2) (pe_op op_mod (pv 0) (pv 5)) (fun _ _ => rfl))))
      (pss_one (ps_set (i := 0) sc__law_stem.nd rfl (Or.inl rfl) (pe_op op_fdiv (pv 0) pe_int)))))))
    (pss_one (ps_ret (pv 3)))))), ?_⟩
  have sl : sizeLine = 16777216 := sizeLine_eq
  refine ⟨_, rfl, _, rfl, by omega, by omega, for_range (fun i σ H2 => ∃ (y : Str) (c : Int) (o o2 : Option V), σ = [some (.int c), some (.int m), some (.str "abcdefghijklmnopqrstuvwxyz0123456789"), some (.str y), o, o2] ∧ H2 = H ∧ y.length ≤ i)
    ⟨"", c, none, none, rfl, rfl, Nat.le_refl _⟩ ?_ ?_⟩
  · rintro i σ H2 hi ⟨y, c, o, o2, rfl, rfl, hy⟩
    have step : ∀ n : Int, (n = 26 ∨ n = 36) → ∃ ch : Nat, atI ("abcdefghijklmnopqrstuvwxyz0123456789" : Str).cps.toList (c % n) = some ch := fun n hn => by
      have hp : (0 : Int) < n := by omega
      have a0 := Int.emod_nonneg c (Int.ne_of_gt hp)
      have a1 := Int.emod_lt_of_pos c hp
      obtain ⟨ch, e, _⟩ := atI_lt ("abcdefghijklmnopqrstuvwxyz0123456789" : Str).cps.toList (c % n) a0 (by rw [sg36]; omega)
      exact ⟨ch, e⟩
    refine ⟨_, rfl, rfl, _, rfl, ite2 (fun _ => ?_) (fun _ => ?_)⟩
    · obtain ⟨ch, e⟩ := step 26 (.inl rfl)
      refine ⟨_, rfl, _, rfl, _, rfl, _, rfl, _, _, rfl, rfl, (by show (0 : Int) < 26; decide), _, _, _, rfl, rfl, sz (by decide +kernel), e, _, _, rfl, rfl, by rw [one_len]; omega, ?_⟩
      refine ⟨_, rfl, _, _, rfl, rfl, ⟨by decide, by decide⟩, ?_⟩
      exact ⟨_, _, _, _, rfl, rfl, by rw [Str.length_append, one_len]; omega⟩
    · obtain ⟨ch, e⟩ := step 36 (.inr rfl)
      refine ⟨_, rfl, _, rfl, _, rfl, _, rfl, _, _, rfl, rfl, (by show (0 : Int) < 36; decide), _, _, _, rfl, rfl, sz (by decide +kernel), e, _, _, rfl, rfl, by rw [one_len]; omega, ?_⟩
      refine ⟨_, rfl, _, _, rfl, rfl, ⟨by decide, by decide⟩, ?_⟩
      exact ⟨_, _, _, _, rfl, rfl, by rw [Str.length_append, one_len]; omega⟩
  · rintro σ H2 ⟨y, c, o, o2, rfl, rfl, hy⟩
    exact ⟨_, rfl, q y (by omega)⟩
noncomputable def sgn (k : Nat) : Nat := ("abcdefghijklmnop" : Str).cps.toList.getD k 0
noncomputable def w1 (A B : Str) (k : Nat) : Str := A ++ ⟨#[sgn k]⟩ ++ B
noncomputable def t7 (z : Int) : Nat := (atI ("t7" : Str).cps.toList z).getD 0
noncomputable def part (j : Nat) : Int := ([8, 4, 2, 1] : List Int).getD j 1
noncomputable def bit (k j : Nat) : Nat := t7 ((0 + (k : Int)) / part j % 2)
noncomputable def w2 (x : Str) (k : Nat) : Nat → Str
  | 0 => x
  | j + 1 => w2 x k j ++ ⟨#[bit k j]⟩
theorem at_getD {l : List Nat} {i : Nat} (h : i < l.length) : atI l (0 + (i : Int)) = some (l.getD i 0) := by
  rw [Int.zero_add, List.getD_eq_getElem?_getD, List.getElem?_eq_getElem h]
  exact atI_nat (List.getElem?_eq_getElem h)
theorem app_list (a b : Str) : (a ++ b).cps.toList = a.cps.toList ++ b.cps.toList := Array.toList_append
theorem map_nodup {f : Nat → Str} (h : ∀ a, a < 16 → ∀ b, b < 16 → a ≠ b → f a ≠ f b) : ((List.range 16).map f).Nodup := by
  rw [List.Nodup, List.pairwise_map]
  refine List.Pairwise.imp_of_mem (fun {a b} ha hb hlt => ?_) List.pairwise_lt_range
  exact h a (List.mem_range.mp ha) b (List.mem_range.mp hb) (Nat.ne_of_lt hlt)
theorem sgn_ne : ∀ a, a < 16 → ∀ b, b < 16 → a ≠ b → sgn a ≠ sgn b := by decide +kernel
theorem bit_ne : ∀ a, a < 16 → ∀ b, b < 16 → a ≠ b → [bit a 0, bit a 1, bit a 2, bit a 3] ≠ [bit b 0, bit b 1, bit b 2, bit b 3] := by decide +kernel
theorem w1_nodup (A B : Str) : ((List.range 16).map (w1 A B)).Nodup := map_nodup fun a ha b hb hn e => by
  have h := congrArg (fun z : Str => z.cps.toList) e
  simp only [w1, app_list] at h
  have h2 := List.append_cancel_left (List.append_cancel_right h)
  injection h2 with h3 _
  exact sgn_ne a ha b hb hn h3
theorem w2_nodup (x : Str) : ((List.range 16).map fun k => w2 x k 4).Nodup := map_nodup fun a ha b hb hn e => by
  have h := congrArg (fun z : Str => z.cps.toList) e
  simp only [w2, app_list, List.append_assoc] at h
  have h2 := List.append_cancel_left h
  exact bit_ne a ha b hb hn h2
theorem range_snoc {f : Nat → Str} (i : Nat) : (List.range (i + 1)).map f = (List.range i).map f ++ [f i] := by
  rw [List.range_succ, List.map_append]
  rfl
theorem w2_len (x : Str) (k : Nat) : ∀ j, (w2 x k j).length = x.length + j
  | 0 => rfl
  | j + 1 => by rw [w2, Str.length_append, one_len, w2_len x k j]; omega
noncomputable def Wd (H : Hp) (l : Addr) : Prop := ∃ ws : List Str, H l = some (.lst (ws.map V.str)) ∧ ws.length = 16 ∧ ws.Nodup ∧ ∀ x ∈ ws, x.length ≤ 300
noncomputable def sp__law_words : Sp := fun vs H Q _ => ∃ c : Int, vs = [.int c] ∧ ∀ l H', Same H H' → H l = none → Wd H' l → Q (.ref l) H'
theorem ok__law_words (T : Txt K mg) : FnOk P w K mg base CX0 2 T.a__law_words T.fd__law_words ["_law_cell"] sp__law_words := by
  have G__law_stem := ok__law_stem (P := P) (w := w) (base := base) T
  refine T.F__law_words.ok sc__law_words (fun vs H Q E h => ?_) (fun cdv A outer s H vs Q E hr h => ?_)
  · obtain ⟨c, rfl, _⟩ := h
    rfl
  obtain ⟨c, rfl, q⟩ := h
  refine ⟨_, (pss_cons (ps_set (i := 0) sc__law_words.nd rfl (Or.inl rfl) (pe_op op_mod (pv 0) (pe_op op_pow pe_int pe_int)))
    (pss_cons (ps_set (i := 1) sc__law_words.nd rfl (Or.inl rfl) (pe_op op_add (pe_op op_mod (pv 0) pe_int) pe_int))
    (pss_cons (ps_set (i := 2) sc__law_words.nd rfl (Or.inl rfl) (pe_lst pa_nil))
    (pss_cons (ps_if (pt_cmpR op_eq (pe_op op_mod (pe_op op_fdiv (pv 0) pe_int) pe_int) pe_int (nomark _))
      (pss_cons (ps_set (i := 3) sc__law_words.nd rfl (Or.inl rfl) (pe_call G__law_stem (hr.mono (by decide)) rfl T.m__law_stem T.k__law_stem T.b__law_stem .nil pass0 (pa_cons (pe_op op_fdiv (pv 0) pe_int) (pa_cons (pe_op op_add (pv 1) pe_int) pa_nil))))
      (pss_cons (ps_set (i := 4) sc__law_words.nd rfl (Or.inl rfl) (pe_op op_mod (pe_op op_fdiv (pv 0) pe_int) (pe_op op_add (pv 1) pe_int)))
      (pss_cons (ps_for PassesOwn.never rfl (pi_range1 rfl T.z_range (pa_cons pe_int pa_nil)) (pg_name (i := 5) sc__law_words.nd rfl (Or.inl rfl))
        (pss_one (ps_expr (pe_bm PySem.F.plainAttrs_list PySem.F.slot_list_append PySem.F.type_list_append mt_append (pv 2) (pa_cons (pe_op op_add_str (pe_op op_add_str (pe_slice sl_str (pv 3) po_none (po_some (pv 4))) (pe_ix ix_str pe_str (pv 5) (fun _ _ => rfl))) (pe_slice sl_str (pv 3) (po_some (pv 4)) po_none)) pa_nil)))))
      (pss_one (ps_ret (pv 2))))))
      pss_nil)
    (pss_cons (ps_set (i := 3) sc__law_words.nd rfl (Or.inl rfl) (pe_call G__law_stem (hr.mono (by decide)) rfl T.m__law_stem T.k__law_stem T.b__law_stem .nil pass0 (pa_cons (pe_op op_fdiv (pv 0) pe_int) (pa_cons (pv 1) pa_nil))))
    (pss_cons (ps_for PassesOwn.never rfl (pi_range1 rfl T.z_range (pa_cons pe_int pa_nil)) (pg_name (i := 5) sc__law_words.nd rfl (Or.inl rfl))
      (pss_cons (ps_set (i := 6) sc__law_words.nd rfl (Or.inl rfl) (pv 3))
      (pss_cons (ps_for PassesOwn.never rfl (pi_list (pe_lst (pa_cons pe_int (pa_cons pe_int (pa_cons pe_int (pa_cons pe_int pa_nil)))))) (pg_name (i := 7) sc__law_words.nd rfl (Or.inl rfl))
        (pss_one (ps_set (i := 6) sc__law_words.nd rfl (Or.inl rfl) (pe_op op_add_str (pv 6) (pe_ix ix_str pe_str (pe_op op_mod (pe_op op_fdiv (pv 5) (pv 7)) pe_int) (fun _ _ => rfl))))))
      (pss_one (ps_expr (pe_bm PySem.F.plainAttrs_list PySem.F.slot_list_append PySem.F.type_list_append mt_append (pv 2) (pa_cons (pv 6) pa_nil)))))))
    (pss_one (ps_ret (pv 2))))))))), ?_⟩
  have sl : sizeLine = 16777216 := sizeLine_eq
  refine ⟨_, rfl, _, _, rfl, rfl, ⟨by decide, by decide, by decide⟩, _, _, rfl, rfl, (by show (0 : Int) < 10 ^ (24 : Int).toNat; decide +kernel), ?_⟩
  dsimp only
  generalize c % 10 ^ (24 : Int).toNat = c
  refine ⟨_, rfl, _, _, rfl, rfl, (by show (0 : Int) < 8; decide), _, _, rfl, rfl, ?_⟩
  have s0 := Int.emod_nonneg c (show (8 : Int) ≠ 0 by decide)
  have s1 := Int.emod_lt_of_pos c (show (0 : Int) < 8 by decide)
  refine ⟨(by show 0 ≤ sizeLine; decide), fun l hl => ?_⟩
  have fin : ∀ (f : Nat → Str) (H2 : Hp), Same H H2 → H2 l = some (.lst (((List.range 16).map f).map V.str)) → ((List.range 16).map f).Nodup → (∀ k, (f k).length ≤ 300) → Q (.ref l) H2 := fun f H2 S e hw hn => q l H2 S hl ⟨_, e, by rw [List.length_map, List.length_range], hw, fun x hx => by obtain ⟨k, _, rfl⟩ := List.mem_map.mp hx; exact hn k⟩
  have S1 : Same H (upd H l (.lst [])) := same_new hl _
  refine ⟨_, rfl, _, _, rfl, rfl, ⟨by decide, by decide⟩, _, _, rfl, rfl, (by show (0 : Int) < 2; decide), rfl, _, rfl, ite2 (fun _ => ?_) (fun _ => ?_)⟩
  · refine ⟨_, rfl, _, _, rfl, rfl, ⟨by decide, by decide⟩, _, rfl, _, _, rfl, rfl, _, _, rfl, by omega, by omega, fun x hx => ?_⟩
    refine ⟨_, rfl, _, _, rfl, rfl, ⟨by decide, by decide⟩, _, rfl, _, _, rfl, rfl, _, _, rfl, rfl, (by show (0 : Int) < c % 8 + 1 + 4; omega), ?_⟩
    dsimp only
    generalize c / 16 % (c % 8 + 1 + 4) = at_
    refine ⟨16, rfl, by decide, by decide, for_range (fun i σ H2 => ∃ (o : Option V), σ = [some (.int c), some (.int (c % 8 + 1)), some (.ref l), some (.str x), some (.int at_), o, none, none] ∧ Same H H2 ∧ H2 l = some (.lst (((List.range i).map (w1 (Txt.slice x none (some at_)) (Txt.slice x (some at_) none))).map V.str)))
      ⟨none, rfl, S1, upd_same⟩ ?_ ?_⟩
    · rintro i σ H2 hi ⟨o, rfl, S, e⟩
      have hi16 : i < 16 := hi
      have e1 := at_getD (l := ("abcdefghijklmnop" : Str).cps.toList) (i := i) (by rw [show ("abcdefghijklmnop" : Str).cps.toList.length = 16 by decide +kernel]; omega)
      have la := Txt.slice_le x none (some at_)
      have lb := Txt.slice_le x (some at_) none
      refine ⟨_, rfl, .inl ⟨rfl, _, SqL.of e⟩, _, rfl, _, rfl, _, rfl, _, rfl, by omega, _, rfl, _, _, _, rfl, rfl, sz (by decide +kernel), e1, _, _, rfl, rfl, by rw [one_len]; omega, _, rfl, _, rfl, _, rfl, _, rfl, by omega, _, _, rfl, rfl, by rw [Str.length_append, one_len]; omega, l, _, _, rfl, rfl, e, by rw [List.length_map, List.length_map, List.length_range]; omega, ?_⟩
      refine ⟨_, rfl, same_upd S hl _, ?_⟩
      rw [upd_same, range_snoc, List.map_append]
      rfl
    · rintro σ H2 ⟨o, rfl, S, e⟩
      have la := Txt.slice_le x none (some at_)
      have lb := Txt.slice_le x (some at_) none
      exact ⟨_, rfl, fin _ H2 S e (w1_nodup _ _) fun k => by rw [w1, Str.length_append, Str.length_append, one_len]; omega⟩
  · refine ⟨_, rfl, _, _, rfl, rfl, ⟨by decide, by decide⟩, _, rfl, _, _, rfl, by omega, by omega, fun x hx => ?_⟩
    refine ⟨16, rfl, by decide, by decide, for_range (fun i σ H2 => ∃ (o o2 o3 : Option V), σ = [some (.int c), some (.int (c % 8 + 1)), some (.ref l), some (.str x), none, o, o2, o3] ∧ Same H H2 ∧ H2 l = some (.lst (((List.range i).map fun k => w2 x k 4).map V.str)))
      ⟨none, none, none, rfl, S1, upd_same⟩ ?_ ?_⟩
    · rintro i σ H2 hi ⟨o, o2, o3, rfl, S, e⟩
      have hi16 : i < 16 := hi
      refine ⟨_, rfl, (by show 4 ≤ sizeLine; decide), fun p hp => ⟨p, rfl, ⟨_, SqL.of upd_same⟩, ?_⟩⟩
      have S2 : Same H (upd H2 p (.lst [V.int 8, V.int 4, V.int 2, V.int 1])) := S.trans (same_new hp _)
      have nlp : l ≠ p := ne_of_none e hp
      refine for_list (xs := [V.int 8, V.int 4, V.int 2, V.int 1]) (fun j σ H3 => ∃ (o3 : Option V), σ = [some (.int c), some (.int (c % 8 + 1)), some (.ref l), some (.str x), none, some (.int (0 + (i : Int))), some (.str (w2 x i j)), o3] ∧ H3 = upd H2 p (.lst [V.int 8, V.int 4, V.int 2, V.int 1]) ∧ (w2 x i j).length ≤ 100 + j)
        ⟨o3, rfl, rfl, hx⟩ (fun j σ H3 _ ⟨o4, _, e3, _⟩ => by rw [e3]; exact SqL.of upd_same) ?_ ?_
      · rintro j v σ H3 hv ⟨o4, rfl, rfl, hy⟩
        have hj : j < 4 := (List.getElem?_eq_some_iff.mp hv).1
        have hn : v = .int (part j) ∧ 0 < part j ∧ part j < 1073741824 := by
          match j, hj, hv with
          | 0, _, hv => cases hv; exact ⟨rfl, by decide, by decide⟩
          | 1, _, hv => cases hv; exact ⟨rfl, by decide, by decide⟩
          | 2, _, hv => cases hv; exact ⟨rfl, by decide, by decide⟩
          | 3, _, hv => cases hv; exact ⟨rfl, by decide, by decide⟩
        obtain ⟨rfl, n0, n1⟩ := hn
        obtain ⟨ch, e1, _⟩ := atI_lt ("t7" : Str).cps.toList ((0 + (i : Int)) / part j % 2) (Int.emod_nonneg _ (by decide)) (by rw [show ("t7" : Str).cps.toList.length = 2 by decide +kernel]; exact Int.emod_lt_of_pos _ (by decide))
        have ech : ch = bit i j := by rw [bit, t7, e1]; rfl
        subst ech
        refine ⟨_, rfl, _, rfl, _, rfl, _, _, rfl, rfl, ⟨n0, n1⟩, _, _, rfl, rfl, (by show (0 : Int) < 2; decide), _, _, _, rfl, rfl, sz (by decide +kernel), e1, _, _, rfl, rfl, by rw [one_len]; omega, ?_⟩
        exact ⟨_, rfl, rfl, by rw [w2, Str.length_append, one_len]; omega⟩
      · rintro σ H3 ⟨o4, rfl, rfl, hy⟩
        have e4 : (upd H2 p (.lst [V.int 8, V.int 4, V.int 2, V.int 1])) l = some (.lst (((List.range i).map fun k => w2 x k 4).map V.str)) := by rw [upd_ne nlp]; exact e
        refine ⟨_, rfl, .inl ⟨rfl, _, SqL.of e4⟩, _, rfl, l, _, _, rfl, rfl, e4, by rw [List.length_map, List.length_map, List.length_range]; omega, ?_⟩
        refine ⟨_, _, _, rfl, same_upd S2 hl _, ?_⟩
        rw [upd_same, range_snoc, List.map_append]
        rfl
    · rintro σ H2 ⟨o, o2, o3, rfl, S, e⟩
      exact ⟨_, rfl, fin _ H2 S e (w2_nodup x) fun k => by have := w2_len x k 4; omega⟩
end
end K53.Internal
namespace K53.Internal
open PySem L2.Internal BO.Internal KK.Internal
seal L2.Internal.PE L2.Internal.PA L2.Internal.PS L2.Internal.PSs L2.Internal.PT L2.Internal.PI
section
variable {P : Program} {w : World} {K : PySem.W.Frag} {mg : Str → Option Value} {base : Heap}
noncomputable def sp_alike : Nat → Sp
  | 0 => fun _ _ _ _ => False
  | n + 1 => fun vs H Q _ => ∃ (x y : V) (d : Dt), vs = [x, y] ∧ Dta H x d ∧ Dta H y d ∧ depD d ≤ n ∧ okD d ∧ ∀ H', Same H H' → Q (.bl true) H'
theorem len_tup {K : PySem.W.Frag} {H : Hp} {a : Addr} {xs : List V} (h : H a = some (.tup xs)) : LenV K (.ref a) H xs.length := .inr ⟨xs, SqT.of h, rfl⟩
theorem len_lst {K : PySem.W.Frag} {H : Hp} {a : Addr} {xs : List V} (h : H a = some (.lst xs)) : LenV K (.ref a) H xs.length := .inl ⟨xs, SqL.of h, rfl⟩
theorem all_true (n : Nat) : (List.replicate n true).all id = true := by
  rw [List.all_eq_true]
  intro b hb
  exact (List.mem_replicate.mp hb).2
theorem lc_true {J : It} {g : TG} {te : TE} {Q : VK} {τ : St} {H1 : Hp} {D : Addr} (n : Nat) (hn : n < sizeLine) (hD : H1 D = none)
    (hgo : ∀ k H, Same H1 H → k < n → J.go k H) (hst : ∀ H, Same H1 H → J.stop n H)
    (step : ∀ (k : Nat) (H : Hp) (v : V) (H3 : Hp) (R : St → V → Hp → Prop), Same H1 H → k < n → J.yld k H v H3 → ∀ σ' : St, σ'.length = τ.length → (∀ (σ4 : St) (H5 : Hp), σ4.length = τ.length → Same H H5 → R σ4 (.bl true) H5) → g v σ' H3 fun σ4 H4 => te σ4 H4 (R σ4))
    (hq : ∀ H', Same H1 H' → H' D = some (.lst ((List.replicate n true).map V.bl)) → Q (.ref D) H') : LcG J g te Q τ H1 D := by
  refine ⟨fun k m σ' H2 => m = n - k ∧ k ≤ n ∧ σ'.length = τ.length ∧ Same H1 H2 ∧ H2 D = some (.lst ((List.replicate k true).map V.bl)), ⟨n, by simp, Nat.zero_le _, rfl, same_new hD _, upd_same⟩, ?_⟩
  rintro k m σ' H2 ⟨rfl, hk, hl, S, e⟩
  by_cases hlt : k < n
  · refine .inr ⟨hgo k H2 S hlt, fun v H3 y => step k H2 v H3 (fun (σ4 : St) (x : V) (H5 : Hp) => ∃ xs, H5 D = some (.lst xs) ∧ xs.length < sizeLine ∧ ∃ m', m' < n - k ∧ m' = n - (k + 1) ∧ k + 1 ≤ n ∧ σ4.length = τ.length ∧ Same H1 (upd H5 D (.lst (xs ++ [x]))) ∧ (upd H5 D (.lst (xs ++ [x]))) D = some (.lst ((List.replicate (k + 1) true).map V.bl))) S hlt y σ' hl fun σ4 H5 h4 S5 => ?_⟩
    refine ⟨_, S5 D _ e, by rw [List.length_map, List.length_replicate]; omega, n - (k + 1), by omega, rfl, hlt, h4, same_upd (S.trans S5) hD _, ?_⟩
    rw [upd_same, List.replicate_succ', List.map_append]
    rfl
  · have e1 : k = n := by omega
    subst e1
    exact .inl ⟨hst H2 S, hq H2 S e⟩
theorem ok__law_alike (T : Txt K mg) : ∀ n, FnOk P w K mg base CX0 (n + 1) T.a__law_alike T.fd__law_alike ["_law_found", "_law_due"] (sp_alike n)
  | 0 => T.F__law_alike.ok sc__law_alike (fun vs H Q E h => h.elim) (fun cdv A outer s H vs Q E hr h => h.elim)
  | n + 1 => by
    have G__law_alike := ok__law_alike T n
    refine T.F__law_alike.ok sc__law_alike (fun vs H Q E h => ?_) (fun cdv A outer s H vs Q E hr h => ?_)
    · obtain ⟨x, y, d, rfl, _⟩ := h
      rfl
    obtain ⟨x, y, d, rfl, hx, hy, hd, ho, q⟩ := h
    refine ⟨_, (pss_cons (ps_if (pt_val (pe_callB call_isiT rfl T.z_isinstance bt_isinstance (pa_cons (pv 1) (pa_cons (pe_tup (pa_cons (pe_bty rfl T.z_list bt_list) (pa_cons (pe_bty rfl T.z_tuple bt_tuple) pa_nil))) pa_nil))))
      (pss_cons (ps_if (PW.pt (pw_or (pt_not (pt_val (pe_callB call_isiT rfl T.z_isinstance bt_isinstance (pa_cons (pv 0) (pa_cons (pe_tup (pa_cons (pe_bty rfl T.z_list bt_list) (pa_cons (pe_bty rfl T.z_tuple bt_tuple) pa_nil))) pa_nil))))) (pw_or1 (pt_cmpR op_ne (pe_callB call_isi rfl T.z_isinstance bt_isinstance (pa_cons (pv 0) (pa_cons (pe_bty rfl T.z_list bt_list) pa_nil))) (pe_callB call_isi rfl T.z_isinstance bt_isinstance (pa_cons (pv 1) (pa_cons (pe_bty rfl T.z_list bt_list) pa_nil))) (nomark _)))))
        (pss_one (ps_ret pe_bl))
        pss_nil)
      (pss_one (ps_ret (pe_and (pe_cmpR op_eq (pe_callB call_len rfl T.z_len bt_len (pa_cons (pv 0) pa_nil)) (pe_callB call_len rfl T.z_len bt_len (pa_cons (pv 1) pa_nil)) (nomark _)) (pe_one (pe_callB (call_all rfl) rfl T.z_all bt_all (pa_cons (pe_lcP (g := gTup K 2 (gCons (gName 0) (gCons (gName 1) gNil))) rfl (blk02 (x := "_law_one") (y := "_law_other") rfl (by decide +kernel) (by decide +kernel) rfl (by decide) rfl) (PI.or (pi_zip rfl T.z_zip (pa_cons (pv 0) (pa_cons (pv 1) pa_nil))) (pi_zipT rfl T.z_zip (pa_cons (pv 0) (pa_cons (pv 1) pa_nil)))) (fun c1 c2 c3 c4 c5 => pg_tup (n := 2) (X := blk _ ["_law_one", "_law_other"] _ _ c1 c2 c3 c4 c5) rfl (pgs_cons (pg_name (X := blk _ ["_law_one", "_law_other"] _ _ c1 c2 c3 c4 c5) (i := 0) (show (["_law_one", "_law_other"] : List Str).Nodup by decide +kernel) rfl (.inl (lookup_relabel_local rfl)) (.inr (lookup_relabel_local rfl))) (pgs_cons (pg_name (X := blk _ ["_law_one", "_law_other"] _ _ c1 c2 c3 c4 c5) (i := 1) (show (["_law_one", "_law_other"] : List Str).Nodup by decide +kernel) rfl (.inl (lookup_relabel_local rfl)) (.inr (lookup_relabel_local rfl))) pgs_nil))) (fun _ _ _ _ _ => (pe_call G__law_alike (hr.mono (by omega)) rfl T.m__law_alike T.k__law_alike T.b__law_alike .nil pass0 (pa_cons (pv 0) (pa_cons (pv 1) pa_nil))))) pa_nil)))))))
      pss_nil)
    (pss_cons (ps_if (pt_val (pe_callB call_isi rfl T.z_isinstance bt_isinstance (pa_cons (pv 1) (pa_cons (pe_bty rfl T.z_str bt_str) pa_nil))))
      (pss_one (ps_ret (pe_and (pe_callB call_isi rfl T.z_isinstance bt_isinstance (pa_cons (pv 0) (pa_cons (pe_bty rfl T.z_str bt_str) pa_nil))) (pe_one (pe_cmpR op_eq (pv 0) (pv 1) (nomark _))))))
      pss_nil)
    (pss_cons (ps_if (pt_cmp (pc_isN (pv 1)))
      (pss_one (ps_ret (pe_cmp (pc_isN (pv 0)))))
      pss_nil)
    (pss_one (ps_ret (pe_and (pe_callB call_isi rfl T.z_isinstance bt_isinstance (pa_cons (pv 0) (pa_cons (pe_bty rfl T.z_int bt_int) pa_nil))) (pe_and (pe_not (pe_callB call_isi rfl T.z_isinstance bt_isinstance (pa_cons (pv 0) (pa_cons (pe_bty rfl T.z_bool bt_bool) pa_nil)))) (pe_one (pe_cmpR op_eq (pv 0) (pv 1) (nomark _)))))))))), ?_⟩
    have sl : sizeLine = 16777216 := sizeLine_eq
    cases hy with
    | flat h =>
      cases hx
      cases x with
      | non =>
        refine ⟨_, rfl, (by show 2 ≤ sizeLine; decide), fun t ht => ⟨_, t, ["list", "tuple"], _, false, rfl, upd_same, .non, rfl, _, rfl, iteF ?_⟩⟩
        refine ⟨_, rfl, _, _, _, _, false, rfl, fun _ r => r, .non, rfl, _, rfl, iteF ?_⟩
        refine ⟨_, rfl, _, rfl, ?_⟩
        rw [decide_eq_true rfl]
        refine iteT ⟨_, rfl, ?_⟩
        dsimp only
        rw [decide_eq_true rfl]
        exact q _ (same_new ht _)
      | int i =>
        refine ⟨_, rfl, (by show 2 ≤ sizeLine; decide), fun t ht => ⟨_, t, ["list", "tuple"], _, false, rfl, upd_same, .int i, rfl, _, rfl, iteF ?_⟩⟩
        refine ⟨_, rfl, _, _, _, _, false, rfl, fun _ r => r, .int i, rfl, _, rfl, iteF ?_⟩
        refine ⟨_, rfl, _, rfl, ?_⟩
        rw [decide_eq_false (fun z => nomatch z)]
        refine iteF ⟨_, rfl, _, _, _, _, true, rfl, fun _ r => r, .int i, rfl, _, rfl, iteT ⟨_, rfl, _, _, _, _, false, rfl, fun _ r => r, .int i, rfl, _, rfl, _, rfl, iteT ⟨_, rfl, _, rfl, rfl, ?_⟩⟩⟩
        dsimp only
        rw [decide_eq_true rfl]
        exact q _ (same_new ht _)
      | str z =>
        refine ⟨_, rfl, (by show 2 ≤ sizeLine; decide), fun t ht => ⟨_, t, ["list", "tuple"], _, false, rfl, upd_same, .str z, rfl, _, rfl, iteF ?_⟩⟩
        refine ⟨_, rfl, _, _, _, _, true, rfl, fun _ r => r, .str z, rfl, _, rfl, iteT ?_⟩
        refine ⟨_, rfl, _, _, _, _, true, rfl, fun _ r => r, .str z, rfl, _, rfl, iteT ⟨_, rfl, _, rfl, rfl, ?_⟩⟩
        dsimp only
        rw [decide_eq_true rfl]
        exact q _ (same_new ht _)
      | bl b => cases h
      | byt b => cases h
      | flt b => cases h
      | ref a => cases h
      | ty n => cases h
    | @tup b ys ds hb hys =>
      cases hx with
      | @tup a xs _ ha hxs =>
      have lx := hxs.length
      have ly := hys.length
      have dd : depDs ds + 1 ≤ n := hd
      refine ⟨_, rfl, (by show 2 ≤ sizeLine; decide), fun t ht => ⟨_, t, ["list", "tuple"], _, true, rfl, upd_same, .tup (same_new ht _ _ _ hb), rfl, _, rfl, iteT ?_⟩⟩
      have S1 : Same H (upd H t (.tup [V.ty "list", V.ty "tuple"])) := same_new ht _
      generalize upd H t (.tup [V.ty "list", V.ty "tuple"]) = H1 at S1 ⊢
      refine ⟨_, rfl, (by show 2 ≤ sizeLine; decide), fun t2 ht2 => ⟨_, t2, ["list", "tuple"], _, true, rfl, upd_same, .tup (same_new ht2 _ _ _ (S1 _ _ ha)), rfl, _, rfl, ?_⟩⟩
      have S2 : Same H (upd H1 t2 (.tup [V.ty "list", V.ty "tuple"])) := S1.trans (same_new ht2 _)
      generalize upd H1 t2 (.tup [V.ty "list", V.ty "tuple"]) = H2 at S2 ⊢
      refine iteF ⟨_, rfl, _, _, _, _, false, rfl, fun _ r => r, .tup (S2 _ _ ha), rfl, _, rfl, _, _, _, _, false, rfl, fun _ r => r, .tup (S2 _ _ hb), rfl, rfl, _, rfl, iteF ?_⟩
      refine ⟨_, rfl, _, xs.length, rfl, len_tup (S2 _ _ ha), _, rfl, _, ys.length, rfl, len_tup (S2 _ _ hb), rfl, _, rfl, ?_⟩
      rw [decide_eq_true (show V.int (xs.length : Int) = V.int (ys.length : Int) by rw [lx, ly])]
      cases n with
      | zero => omega
      | succ m =>
      refine iteT (.inr ⟨_, rfl, _, rfl, a, b, rfl, ⟨_, SqT.of (S2 _ _ ha)⟩, ⟨_, SqT.of (S2 _ _ hb)⟩, fun D hD => ?_⟩)
      refine lc_true xs.length (by have := ho.1; omega) hD (fun k H3 S3 hk => ⟨xs, ys, xs[k], ys[k]'(by omega), SqT.of (S3 _ _ (S2 _ _ ha)), SqT.of (S3 _ _ (S2 _ _ hb)), List.getElem?_eq_getElem hk, List.getElem?_eq_getElem (by omega)⟩)
        (fun H3 S3 => ⟨xs, ys, SqT.of (S3 _ _ (S2 _ _ ha)), SqT.of (S3 _ _ (S2 _ _ hb)), by omega⟩) ?_ ?_
      · rintro k H3 v H4 R S3 hk ⟨p, x1, y1, rfl, hp, rfl, e1, e2⟩ σ' hl r
        obtain ⟨u1, u2, rfl⟩ : ∃ u1 u2, σ' = [u1, u2] := by
          match σ', hl with
          | [u1, u2], _ => exact ⟨u1, u2, rfl⟩
        have S4 : Same H (upd H3 p (.tup [x1, y1])) := (S2.trans S3).trans (same_new hp _)
        obtain ⟨d1, f1, g1⟩ := hxs.get (e1 xs (SqT.of (S3 _ _ (S2 _ _ ha))))
        obtain ⟨d2, f2, g2⟩ := hys.get (e2 ys (SqT.of (S3 _ _ (S2 _ _ hb))))
        have ed : d2 = d1 := by rw [f1] at f2; exact (Option.some.inj f2).symm
        subst ed
        have dp := BO.Internal.depDs_get f1
        refine ⟨p, [x1, y1], rfl, SqT.of upd_same, rfl, x1, [y1], rfl, y1, [], rfl, rfl, _, rfl, _, rfl, x1, y1, d2, rfl, g1.same S4, g2.same S4, by omega, okDs_get ho.2 f1, fun H5 S5 => ?_⟩
        exact r _ _ rfl ((same_new hp _).trans S5)
      · intro H3 S3 hD3
        refine ⟨D, List.replicate xs.length true, rfl, SqL.of hD3, ?_⟩
        rw [all_true]
        exact q _ (S2.trans S3)
    | @lst b ys ds hb hys =>
      cases hx with
      | @lst a xs _ ha hxs =>
      have lx := hxs.length
      have ly := hys.length
      have dd : depDs ds + 1 ≤ n := hd
      refine ⟨_, rfl, (by show 2 ≤ sizeLine; decide), fun t ht => ⟨_, t, ["list", "tuple"], _, true, rfl, upd_same, .lst (same_new ht _ _ _ hb), rfl, _, rfl, iteT ?_⟩⟩
      have S1 : Same H (upd H t (.tup [V.ty "list", V.ty "tuple"])) := same_new ht _
      generalize upd H t (.tup [V.ty "list", V.ty "tuple"]) = H1 at S1 ⊢
      refine ⟨_, rfl, (by show 2 ≤ sizeLine; decide), fun t2 ht2 => ⟨_, t2, ["list", "tuple"], _, true, rfl, upd_same, .lst (same_new ht2 _ _ _ (S1 _ _ ha)), rfl, _, rfl, ?_⟩⟩
      have S2 : Same H (upd H1 t2 (.tup [V.ty "list", V.ty "tuple"])) := S1.trans (same_new ht2 _)
      generalize upd H1 t2 (.tup [V.ty "list", V.ty "tuple"]) = H2 at S2 ⊢
      refine iteF ⟨_, rfl, _, _, _, _, true, rfl, fun _ r => r, .lst (S2 _ _ ha), rfl, _, rfl, _, _, _, _, true, rfl, fun _ r => r, .lst (S2 _ _ hb), rfl, rfl, _, rfl, iteF ?_⟩
      refine ⟨_, rfl, _, xs.length, rfl, len_lst (S2 _ _ ha), _, rfl, _, ys.length, rfl, len_lst (S2 _ _ hb), rfl, _, rfl, ?_⟩
      rw [decide_eq_true (show V.int (xs.length : Int) = V.int (ys.length : Int) by rw [lx, ly])]
      cases n with
      | zero => omega
      | succ m =>
      refine iteT (.inl ⟨_, rfl, _, rfl, a, b, rfl, ⟨_, SqL.of (S2 _ _ ha)⟩, ⟨_, SqL.of (S2 _ _ hb)⟩, fun D hD => ?_⟩)
      refine lc_true xs.length (by have := ho.1; omega) hD (fun k H3 S3 hk => ⟨xs, ys, xs[k], ys[k]'(by omega), SqL.of (S3 _ _ (S2 _ _ ha)), SqL.of (S3 _ _ (S2 _ _ hb)), List.getElem?_eq_getElem hk, List.getElem?_eq_getElem (by omega)⟩)
        (fun H3 S3 => ⟨xs, ys, SqL.of (S3 _ _ (S2 _ _ ha)), SqL.of (S3 _ _ (S2 _ _ hb)), by omega⟩) ?_ ?_
      · rintro k H3 v H4 R S3 hk ⟨p, x1, y1, rfl, hp, rfl, e1, e2⟩ σ' hl r
        obtain ⟨u1, u2, rfl⟩ : ∃ u1 u2, σ' = [u1, u2] := by
          match σ', hl with
          | [u1, u2], _ => exact ⟨u1, u2, rfl⟩
        have S4 : Same H (upd H3 p (.tup [x1, y1])) := (S2.trans S3).trans (same_new hp _)
        obtain ⟨d1, f1, g1⟩ := hxs.get (e1 xs (SqL.of (S3 _ _ (S2 _ _ ha))))
        obtain ⟨d2, f2, g2⟩ := hys.get (e2 ys (SqL.of (S3 _ _ (S2 _ _ hb))))
        have ed : d2 = d1 := by rw [f1] at f2; exact (Option.some.inj f2).symm
        subst ed
        have dp := BO.Internal.depDs_get f1
        refine ⟨p, [x1, y1], rfl, SqT.of upd_same, rfl, x1, [y1], rfl, y1, [], rfl, rfl, _, rfl, _, rfl, x1, y1, d2, rfl, g1.same S4, g2.same S4, by omega, okDs_get ho.2 f1, fun H5 S5 => ?_⟩
        exact r _ _ rfl ((same_new hp _).trans S5)
      · intro H3 S3 hD3
        refine ⟨D, List.replicate xs.length true, rfl, SqL.of hD3, ?_⟩
        rw [all_true]
        exact q _ (S2.trans S3)
end
end K53.Internal
namespace K53.Internal
open PySem L2.Internal BO.Internal KK.Internal
seal L2.Internal.PE L2.Internal.PA L2.Internal.PS L2.Internal.PSs L2.Internal.PT L2.Internal.PI
theorem same_make {H : Hp} {x dx : Addr} {o : HO} (hx : H x = none) (hd : H dx = none) : Same H (upd (upd H dx (.own x)) x o) := fun b u e => by
  rw [upd_ne (ne_of_none e hx), upd_ne (ne_of_none e hd)]; exact e
theorem fB_root' (p0 p1 p2 p3 : Addr) (r v : V) : putF "root" v (fB p0 p1 p2 p3 r) = fB p0 p1 p2 p3 v := by
  have h1 : ¬ ("points" : Str) = "root" := by decide +kernel
  have h2 : ¬ ("makes" : Str) = "root" := by decide +kernel
  have h3 : ¬ ("uses" : Str) = "root" := by decide +kernel
  have h4 : ¬ ("flows" : Str) = "root" := by decide +kernel
  simp only [putF, fB, if_neg h1, if_neg h2, if_neg h3, if_neg h4, if_pos]
theorem fB_mk (p0 p1 p2 p3 : Addr) (r : V) : putF "root" r (putF "flows" (.ref p3) (putF "uses" (.ref p2) (putF "makes" (.ref p1) (putF "points" (.ref p0) [])))) = fB p0 p1 p2 p3 r := by
  have h1 : ¬ ("points" : Str) = "root" := by decide +kernel
  have h2 : ¬ ("makes" : Str) = "root" := by decide +kernel
  have h3 : ¬ ("uses" : Str) = "root" := by decide +kernel
  have h4 : ¬ ("flows" : Str) = "root" := by decide +kernel
  have h5 : ¬ ("points" : Str) = "flows" := by decide +kernel
  have h6 : ¬ ("makes" : Str) = "flows" := by decide +kernel
  have h7 : ¬ ("uses" : Str) = "flows" := by decide +kernel
  have h8 : ¬ ("points" : Str) = "uses" := by decide +kernel
  have h9 : ¬ ("makes" : Str) = "uses" := by decide +kernel
  have h10 : ¬ ("points" : Str) = "makes" := by decide +kernel
  simp only [putF, fB, if_neg h1, if_neg h2, if_neg h3, if_neg h4, if_neg h5, if_neg h6, if_neg h7, if_neg h8, if_neg h9, if_neg h10]
section
variable {P : Program} {w : World} {K : PySem.W.Frag} {mg : Str → Option Value} {base : Heap}
noncomputable def sp_Board___init__ (C : Addr) : Sp := fun vs H Q _ => ∃ (x dx : Addr), vs = [.ref x] ∧ H x = some (.ins C dx []) ∧ ∀ (p0 p1 p2 p3 : Addr) (H' : Hp), (∀ a ∈ [p0, p1, p2, p3], H a = none) → [p0, p1, p2, p3].Nodup → H' x = some (.ins C dx (fB p0 p1 p2 p3 (.int 0))) → Ls H' [p0, p1, p2, p3] [[], [], [], []] → (∀ b o, H b = some o → b ≠ x → H' b = some o) → Q .non H'
theorem ok_Board___init__ (T : Txt K mg) : FnOk P w K mg base CX0 1 T.a_Board___init__ T.fd_Board___init__ ["self"] (sp_Board___init__ T.a_Board) := by
  refine T.F_Board___init__.ok sc_Board___init__ (fun vs H Q E h => ?_) (fun cdv A outer s H vs Q E hr h => ?_)
  · obtain ⟨x, dx, rfl, _⟩ := h
    rfl
  obtain ⟨x, dx, rfl, hx, q⟩ := h
  refine ⟨_, (pss_cons (ps_fld (pv 0) (pe_lst pa_nil) rfl)
    (pss_cons (ps_fld (pv 0) (pe_lst pa_nil) rfl)
    (pss_cons (ps_fld (pv 0) (pe_lst pa_nil) rfl)
    (pss_cons (ps_fld (pv 0) (pe_lst pa_nil) rfl)
    (pss_one (ps_fld (pv 0) pe_int rfl)))))), ?_⟩
  have z0 : (0 : Nat) ≤ sizeLine := by decide
  refine ⟨z0, fun p0 h0 => ⟨_, rfl, x, _, dx, _, rfl, (by rw [upd_ne (ne_of_none hx h0)]; exact hx), T.cl_Board, T.n_Board_points, (by show 0 < 1000; decide), ?_⟩⟩
  refine ⟨z0, fun p1 h1 => ⟨_, rfl, x, _, dx, _, rfl, (by rw [upd_ne (ne_of_none upd_same h1)]; exact upd_same), T.cl_Board, T.n_Board_makes, (by show 1 < 1000; decide), ?_⟩⟩
  refine ⟨z0, fun p2 h2 => ⟨_, rfl, x, _, dx, _, rfl, (by rw [upd_ne (ne_of_none upd_same h2)]; exact upd_same), T.cl_Board, T.n_Board_uses, len_put (len_put (by show 0 < 998; decide)), ?_⟩⟩
  refine ⟨z0, fun p3 h3 => ⟨_, rfl, x, _, dx, _, rfl, (by rw [upd_ne (ne_of_none upd_same h3)]; exact upd_same), T.cl_Board, T.n_Board_flows, len_put (len_put (len_put (by show 0 < 997; decide))), ?_⟩⟩
  refine ⟨_, rfl, x, _, dx, _, rfl, upd_same, T.cl_Board, T.n_Board_root, len_put (len_put (len_put (len_put (by show 0 < 996; decide)))), ?_⟩
  have n0 : x ≠ p0 := ne_of_none hx h0
  have n1 : x ≠ p1 := ne_of_none upd_same h1
  have n2 : x ≠ p2 := ne_of_none upd_same h2
  have n3 : x ≠ p3 := ne_of_none upd_same h3
  have d10 : p0 ≠ p1 := ne_of_none (by rw [upd_ne (Ne.symm n0)]; exact upd_same) h1
  have d20 : p0 ≠ p2 := ne_of_none (by rw [upd_ne (Ne.symm n0), upd_ne d10, upd_ne (Ne.symm n0)]; exact upd_same) h2
  have d21 : p1 ≠ p2 := ne_of_none (by rw [upd_ne (Ne.symm n1)]; exact upd_same) h2
  have d30 : p0 ≠ p3 := ne_of_none (by rw [upd_ne (Ne.symm n0), upd_ne d20, upd_ne (Ne.symm n0), upd_ne d10, upd_ne (Ne.symm n0)]; exact upd_same) h3
  have d31 : p1 ≠ p3 := ne_of_none (by rw [upd_ne (Ne.symm n1), upd_ne d21, upd_ne (Ne.symm n1)]; exact upd_same) h3
  have d32 : p2 ≠ p3 := ne_of_none (by rw [upd_ne (Ne.symm n2)]; exact upd_same) h3
  rw [upd_ne (Ne.symm n1), upd_ne (Ne.symm d10)] at h1
  rw [upd_ne (Ne.symm n2), upd_ne (Ne.symm d21), upd_ne (Ne.symm n2), upd_ne (Ne.symm d20)] at h2
  rw [upd_ne (Ne.symm n3), upd_ne (Ne.symm d32), upd_ne (Ne.symm n3), upd_ne (Ne.symm d31), upd_ne (Ne.symm n3), upd_ne (Ne.symm d30)] at h3
  refine q p0 p1 p2 p3 _ ?_ ?_ ?_ ?_ ?_
  · intro a ha
    simp only [List.mem_cons, List.not_mem_nil, or_false] at ha
    rcases ha with e | e | e | e <;> rw [e] <;> assumption
  · simp only [List.nodup_cons, List.mem_cons, List.not_mem_nil, or_false, not_or]
    exact ⟨⟨d10, d20, d30⟩, ⟨d21, d31⟩, d32, fun z => z, List.nodup_nil⟩
  · rw [upd_same, fB_mk]
  · refine .cons ?_ (.cons ?_ (.cons ?_ (.cons ?_ .nil)))
    · rw [upd_ne (Ne.symm n0), upd_ne (Ne.symm n0), upd_ne d30, upd_ne (Ne.symm n0), upd_ne d20, upd_ne (Ne.symm n0), upd_ne d10, upd_ne (Ne.symm n0)]; exact upd_same
    · rw [upd_ne (Ne.symm n1), upd_ne (Ne.symm n1), upd_ne d31, upd_ne (Ne.symm n1), upd_ne d21, upd_ne (Ne.symm n1)]; exact upd_same
    · rw [upd_ne (Ne.symm n2), upd_ne (Ne.symm n2), upd_ne d32, upd_ne (Ne.symm n2)]; exact upd_same
    · rw [upd_ne (Ne.symm n3), upd_ne (Ne.symm n3)]; exact upd_same
  · intro b o e hb
    rw [upd_ne hb, upd_ne hb, upd_ne (ne_of_none e h3), upd_ne hb, upd_ne (ne_of_none e h2), upd_ne hb, upd_ne (ne_of_none e h1), upd_ne hb, upd_ne (ne_of_none e h0)]
    exact e
noncomputable def sp_Board_point (C : Addr) : Sp := fun vs H Q _ => ∃ (x dx p0 p1 p2 p3 : Addr) (r v : V) (xs : List V), vs = [.ref x, v] ∧ H x = some (.ins C dx (fB p0 p1 p2 p3 r)) ∧ H p0 = some (.lst xs) ∧ xs.length < sizeLine ∧ Q (.int xs.length) (upd H p0 (.lst (xs ++ [v])))
theorem ok_Board_point (T : Txt K mg) : FnOk P w K mg base CX0 1 T.a_Board_point T.fd_Board_point ["self", "place"] (sp_Board_point T.a_Board) := by
  refine T.F_Board_point.ok sc_Board_point (fun vs H Q E h => ?_) (fun cdv A outer s H vs Q E hr h => ?_)
  · obtain ⟨x, dx, p0, p1, p2, p3, r, v, xs, rfl, _⟩ := h
    rfl
  obtain ⟨x, dx, p0, p1, p2, p3, r, v, xs, rfl, hx, h0, hl, q⟩ := h
  refine ⟨_, (pss_cons (ps_expr (pe_bm PySem.F.plainAttrs_list PySem.F.slot_list_append PySem.F.type_list_append mt_append (pe_fld (pv 0) rfl) (pa_cons (pv 1) pa_nil)))
    (pss_one (ps_ret (pe_op op_sub (pe_callB call_len_seq rfl T.z_len bt_len (pa_cons (pe_fld (pv 0) rfl) pa_nil)) pe_int)))), ?_⟩
  refine ⟨_, rfl, x, _, dx, _, _, rfl, hx, T.cl_Board, T.n_Board_points, fB_points _ _ _ _ _, .inl ⟨rfl, _, SqL.of h0⟩, _, rfl, p0, _, _, rfl, rfl, h0, hl, ?_⟩
  have hx2 : (upd H p0 (.lst (xs ++ [v]))) x = some (.ins T.a_Board dx (fB p0 p1 p2 p3 r)) := by rw [upd_ne (ne_of hx h0 (fun z => nomatch z))]; exact hx
  refine ⟨_, rfl, x, _, dx, _, _, rfl, hx2, T.cl_Board, T.n_Board_points, fB_points _ _ _ _ _, p0, _, rfl, .inl (SqL.of upd_same), _, _, rfl, rfl, ?_⟩
  show Q (V.int (((xs ++ [v]).length : Int) - 1)) _
  rw [List.length_append, show (((xs.length + [v].length : Nat) : Int) - 1) = (xs.length : Int) by simp]
  exact q
noncomputable def sp_Board_make (C M : Addr) : Sp := fun vs H Q _ => ∃ (x dx p0 p1 p2 p3 : Addr) (r s f a p : V) (xs : List V), vs = [.ref x, s, f, a, p] ∧ H x = some (.ins C dx (fB p0 p1 p2 p3 r)) ∧ H p1 = some (.lst xs) ∧ xs.length < sizeLine ∧ ∀ m dm, H m = none → H dm = none → Q .non (upd (upd (upd H dm (.own m)) m (.ins M dm (fM s f a p))) p1 (.lst (xs ++ [.ref m])))
theorem ok_Board_make (T : Txt K mg) : FnOk P w K mg base CX0 3 T.a_Board_make T.fd_Board_make ["self", "shape", "parts", "at", "place"] (sp_Board_make T.a_Board T.a_Make) := by
  have G_Make___init__ := ok_Make___init__ (P := P) (w := w) (base := base) T
  refine T.F_Board_make.ok sc_Board_make (fun vs H Q E h => ?_) (fun cdv A outer s H vs Q E hr h => ?_)
  · obtain ⟨x, dx, p0, p1, p2, p3, r, s, f, a, p, xs, rfl, _⟩ := h
    rfl
  obtain ⟨x, dx, p0, p1, p2, p3, r, sh, f, a, p, xs, rfl, hx, h0, hl, q⟩ := h
  refine ⟨_, (pss_one (ps_expr (pe_bm PySem.F.plainAttrs_list PySem.F.slot_list_append PySem.F.type_list_append mt_append (pe_fld (pv 0) rfl) (pa_cons (pe_make T.mk_Make G_Make___init__ (hr.mono (by decide)) rfl T.m_Make T.b_Make___init__ .nil pass0 (pa_cons (pv 1) (pa_cons (pv 2) (pa_cons (pv 3) (pa_cons (pv 4) pa_nil))))) pa_nil)))), ?_⟩
  refine ⟨_, rfl, x, _, dx, _, _, rfl, hx, T.cl_Board, T.n_Board_makes, fB_makes _ _ _ _ _, .inl ⟨rfl, _, SqL.of h0⟩, _, rfl, _, rfl, _, rfl, _, rfl, fun m dm hm hdm nm => ?_⟩
  refine ⟨m, dm, _, _, _, _, rfl, upd_same, rfl, ?_⟩
  rw [upd_upd]
  have h1 : (upd (upd H dm (.own m)) m (.ins T.a_Make dm (fM sh f a p))) p1 = some (.lst xs) := same_make hm hdm _ _ h0
  exact ⟨p1, _, _, rfl, rfl, h1, hl, q m dm hm hdm⟩
noncomputable def sp_Board_use (C : Addr) : Sp := fun vs H Q _ => ∃ (x dx p0 p1 p2 p3 : Addr) (r v : V) (xs : List V), vs = [.ref x, v] ∧ H x = some (.ins C dx (fB p0 p1 p2 p3 r)) ∧ H p2 = some (.lst xs) ∧ xs.length < sizeLine ∧ Q .non (upd H p2 (.lst (xs ++ [v])))
theorem ok_Board_use (T : Txt K mg) : FnOk P w K mg base CX0 1 T.a_Board_use T.fd_Board_use ["self", "one"] (sp_Board_use T.a_Board) := by
  refine T.F_Board_use.ok sc_Board_use (fun vs H Q E h => ?_) (fun cdv A outer s H vs Q E hr h => ?_)
  · obtain ⟨x, dx, p0, p1, p2, p3, r, v, xs, rfl, _⟩ := h
    rfl
  obtain ⟨x, dx, p0, p1, p2, p3, r, v, xs, rfl, hx, h0, hl, q⟩ := h
  refine ⟨_, (pss_one (ps_expr (pe_bm PySem.F.plainAttrs_list PySem.F.slot_list_append PySem.F.type_list_append mt_append (pe_fld (pv 0) rfl) (pa_cons (pv 1) pa_nil)))), ?_⟩
  exact ⟨_, rfl, x, _, dx, _, _, rfl, hx, T.cl_Board, T.n_Board_uses, fB_uses _ _ _ _ _, .inl ⟨rfl, _, SqL.of h0⟩, _, rfl, p2, _, _, rfl, rfl, h0, hl, q⟩
noncomputable def sp_Board_rooted (C : Addr) : Sp := fun vs H Q _ => ∃ (x dx p0 p1 p2 p3 : Addr) (r v : V), vs = [.ref x, v] ∧ H x = some (.ins C dx (fB p0 p1 p2 p3 r)) ∧ Q .non (upd H x (.ins C dx (fB p0 p1 p2 p3 v)))
theorem ok_Board_rooted (T : Txt K mg) : FnOk P w K mg base CX0 1 T.a_Board_rooted T.fd_Board_rooted ["self", "p"] (sp_Board_rooted T.a_Board) := by
  refine T.F_Board_rooted.ok sc_Board_rooted (fun vs H Q E h => ?_) (fun cdv A outer s H vs Q E hr h => ?_)
  · obtain ⟨x, dx, p0, p1, p2, p3, r, v, rfl, _⟩ := h
    rfl
  obtain ⟨x, dx, p0, p1, p2, p3, r, v, rfl, hx, q⟩ := h
  refine ⟨_, (pss_one (ps_fld (pv 0) (pv 1) rfl)), ?_⟩
  refine ⟨_, rfl, _, rfl, x, _, dx, _, rfl, hx, T.cl_Board, T.n_Board_root, (by show 5 < 1000; decide), ?_⟩
  rw [fB_root']
  exact q
end
end K53.Internal
namespace K53.Internal
open PySem L2.Internal BO.Internal KK.Internal
seal L2.Internal.PE L2.Internal.PA L2.Internal.PS L2.Internal.PSs L2.Internal.PT L2.Internal.PI
theorem ims1 {H : Hp} {xs : List V} {d : Dt} (h : Ims H xs [d]) : ∃ x, xs = [x] ∧ Im H x d := by
  cases h with
  | cons h hs => cases hs; exact ⟨_, rfl, h⟩
theorem ims2K {H : Hp} {xs : List V} {d e : Dt} (h : Ims H xs [d, e]) : ∃ x y, xs = [x, y] ∧ Im H x d ∧ Im H y e := by
  cases h with
  | cons h hs =>
    obtain ⟨y, rfl, hy⟩ := ims1 hs
    exact ⟨_, y, rfl, h, hy⟩
section
variable {i : Nat} {s w : Str} {t u : TS} {D : Ends} {σ : St} {H : Hp}
theorem tsh_no {a : Addr} {r : List V} (hv : σ[i]? = some (some (.ref a))) (ha : H a = some (.tup (.str s :: r))) (h : s ≠ w) (q : u D σ H) : tIfS (cT (tOp (cEq false) (tOp cIxT (cV i) (tC (.int 0))) (tC (.str w)))) t u D σ H := by
  show onV σ[i]? _
  rw [hv]
  refine ⟨_, ha, onS_of (atI_nat (j := 0) rfl) ?_⟩
  show if (false ^^ decide (s = w)) = true then t D σ H else u D σ H
  rw [decide_eq_false h]
  exact q
theorem tsh_yes {a : Addr} {r : List V} (hv : σ[i]? = some (some (.ref a))) (ha : H a = some (.tup (.str s :: r))) (h : s = w) (q : t D σ H) : tIfS (cT (tOp (cEq false) (tOp cIxT (cV i) (tC (.int 0))) (tC (.str w)))) t u D σ H := by
  show onV σ[i]? _
  rw [hv]
  refine ⟨_, ha, onS_of (atI_nat (j := 0) rfl) ?_⟩
  show if (false ^^ decide (s = w)) = true then t D σ H else u D σ H
  rw [decide_eq_true h]
  exact q
theorem sq_no {u' : TS} {a : Addr} {r : List V} (hv : σ[i]? = some (some (.ref a))) (ha : H a = some (.tup (.str s :: r))) (h : s ≠ w) (q : u { D with nx := u' D } σ H) : tSeq (tIfS (cT (tOp (cEq false) (tOp cIxT (cV i) (tC (.int 0))) (tC (.str w)))) t u) u' D σ H := tsh_no (D := { D with nx := u' D }) hv ha h q
theorem sq_yes {u' : TS} {a : Addr} {r : List V} (hv : σ[i]? = some (some (.ref a))) (ha : H a = some (.tup (.str s :: r))) (h : s = w) (q : t { D with nx := u' D } σ H) : tSeq (tIfS (cT (tOp (cEq false) (tOp cIxT (cV i) (tC (.int 0))) (tC (.str w)))) t u) u' D σ H := tsh_yes (D := { D with nx := u' D }) hv ha h q
end
section
variable {K : PySem.W.Frag} {mg : Str → Option Value}
noncomputable def cs (T : Txt K mg) : Cs := ⟨T.a_Make, T.a_NumUse, T.a_CallUse, T.a_TakeUse, T.a_CaseUse, T.a_RowUse, T.a_Board⟩
end
theorem kd_at {H : Hp} {x : V} {k : Kd} (h : Im H x k.d) : ∃ t r, x = .ref t ∧ H t = some (.tup (.str k.tag :: r)) ∧ Ims H r k.rest := by
  rw [d_eq] at h
  cases h with
  | tup e hs =>
    cases hs with
    | cons h1 hs =>
      unfold sD at h1
      cases h1
      exact ⟨_, _, rfl, e, hs⟩
theorem fl_of {H : Hp} {r : List V} {l : Kds} (h : Ims H r [.tup l.ds]) : ∃ t xs, r = [.ref t] ∧ H t = some (.tup xs) ∧ Ims H xs (l.toL.map fD) := by
  obtain ⟨x, rfl, hx⟩ := ims1 h
  cases hx with
  | tup e hs =>
    rw [ds_toL] at hs
    exact ⟨_, _, rfl, e, hs⟩
theorem im_int {H : Hp} (n : Int) : Im H (.int n) (iD n) := .flat rfl
theorem im_str {H : Hp} (s : Str) : Im H (.str s) (sD s) := .flat rfl
theorem _root_.KK.Internal.FB.new {A : Ad} {H H' : Hp} (F : FB A H H') {a : Addr} (h : H a = none) (o : HO) : FB A H (upd H' a o) := ⟨fun b u e n => by rw [upd_ne (ne_of_none e h)]; exact F.1 b u e n, fun b u e f => by rw [upd_ne (ne_of_none e h)]; exact F.2 b u e f⟩
theorem _root_.KK.Internal.FB.then {A : Ad} {H H1 H2 : Hp} (F : FB A H H1) (S : Same H1 H2) : FB A H H2 := F.trans (FB.same S)
theorem _root_.KK.Internal.Bq.out {c : Cs} {H : Hp} {A : Ad} {r : V} {D : Bd} (B : Bq c H A r D) {a : Addr} (h : H a = none) : a ∉ A.ls := fun m => by
  obtain ⟨b, e0, ⟨mv, m1, m2⟩, ⟨uv, u1, u2⟩, e3, nd⟩ := B
  simp only [Ad.ls, List.mem_cons, List.not_mem_nil, or_false] at m
  rcases m with rfl | rfl | rfl | rfl
  · rw [h] at e0; cases e0
  · rw [h] at m1; cases m1
  · rw [h] at u1; cases u1
  · rw [h] at e3; cases e3
theorem _root_.KK.Internal.Dq.out {H : Hp} {A : Ad} {D : Bd} (B : Dq H A D) {a : Addr} (h : H a = none) : a ∉ A.ls := fun m => by
  obtain ⟨b, nb, e0, ⟨mv, m1, m2⟩, ⟨uv, u1, u2⟩, e3, nd⟩ := B
  simp only [Ad.ls, List.mem_cons, List.not_mem_nil, or_false] at m
  rcases m with rfl | rfl | rfl | rfl
  · rw [h] at e0; cases e0
  · rw [h] at m1; cases m1
  · rw [h] at u1; cases u1
  · rw [h] at e3; cases e3
theorem _root_.KK.Internal.Bq.made {c : Cs} {H : Hp} {A : Ad} {r : V} {D : Bd} (B : Bq c H A r D) {x dx : Addr} {mv : List V} {f : V} (hx : H x = none) (hdx : H dx = none) (e : H A.p1 = some (.lst mv)) {s : Str} {d : Dt} {a : Int} (hf : Im H f d) (hd : depD d ≤ 2) (ho : okD d) :
    Bq c (upd (upd (upd H dx (.own x)) x (.ins c.M dx (fM (.str s) f (.int a) (.int 0)))) A.p1 (.lst (mv ++ [.ref x]))) A r (mkB D s d a) ∧ FB A H (upd (upd (upd H dx (.own x)) x (.ins c.M dx (fM (.str s) f (.int a) (.int 0)))) A.p1 (.lst (mv ++ [.ref x]))) := by
  have S := same_make (o := .ins c.M dx (fM (.str s) f (.int a) (.int 0))) hx hdx
  have M : MkAt c (upd (upd H dx (.own x)) x (.ins c.M dx (fM (.str s) f (.int a) (.int 0)))) (.ref x) ⟨s, d, a, 0⟩ := ⟨x, dx, f, rfl, upd_same, hf.mono (Same.tk S), hd, ho⟩
  exact ⟨(B.same S).addM (S _ _ e) M, (FB.same S).trans (FB.upd (by simp [Ad.ls]) (S _ _ e))⟩
theorem _root_.KK.Internal.Bq.used {c : Cs} {H : Hp} {A : Ad} {r : V} {D : Bd} (B : Bq c H A r D) {x : V} {u : Us} (hx : UsAt c H x u) : ∃ uv, H A.p2 = some (.lst uv) ∧ uv.length = D.uss.length ∧ Bq c (upd H A.p2 (.lst (uv ++ [x]))) A r (usB D u) ∧ FB A H (upd H A.p2 (.lst (uv ++ [x]))) := by
  obtain ⟨uv, u1, u2⟩ := B.e2
  exact ⟨uv, u1, u2.length, B.us u1 hx, FB.upd (by simp [Ad.ls]) u1⟩
theorem take_snocK {α : Type} {l : List α} {i : Nat} {a : α} (h : l[i]? = some a) : l.take (i + 1) = l.take i ++ [a] := by
  rw [List.take_add_one, h]
  rfl
end K53.Internal
namespace K53.Internal
open PySem L2.Internal BO.Internal KK.Internal
seal L2.Internal.PE L2.Internal.PA L2.Internal.PS L2.Internal.PSs L2.Internal.PT L2.Internal.PI
noncomputable def TrA (H : Hp) (t : Addr) (B : Int) : Prop := ∃ (xs : List V) (ks : List Kd) (i j : Int), H t = some (.lst (xs ++ [.int i, .int j])) ∧ Ims H xs (ks.map Kd.d) ∧ ks.length = 3 ∧ (∀ k ∈ ks, k.ok ∧ (k.sz : Int) ≤ j) ∧ 1 ≤ j ∧ j ≤ B
noncomputable def Fk (N : List Addr) (H H' : Hp) : Prop := Frm N H H' ∧ TK H H'
theorem Fk.same {N : List Addr} {H H' : Hp} (s : Same H H') : Fk N H H' := ⟨Frm.same s, Same.tk s⟩
theorem Fk.trans {N : List Addr} {H H1 H2 : Hp} (a : Fk N H H1) (b : Fk N H1 H2) : Fk N H H2 := ⟨a.1.trans b.1, fun c xs e => b.2 c xs (a.2 c xs e)⟩
theorem Fk.upd {N : List Addr} {H : Hp} {a : Addr} {xs ys : List V} (h : a ∈ N) (e : H a = some (.lst xs)) : Fk N H (upd H a (.lst ys)) := ⟨Frm.upd h, (fk_lst e).tk⟩
theorem TrA.fk {N : List Addr} {H H' : Hp} {t : Addr} {B : Int} (h : TrA H t B) (n : t ∉ N) (k : Fk N H H') : TrA H' t B := by
  obtain ⟨xs, ks, i, j, e, h1, h2⟩ := h
  exact ⟨xs, ks, i, j, k.1 _ _ e n, h1.mono k.2, h2⟩
theorem TrA.same {H H' : Hp} {t : Addr} {B : Int} (h : TrA H t B) (s : Same H H') : TrA H' t B := h.fk (N := []) (by simp) (Fk.same s)
theorem TrA.ex {H : Hp} {t : Addr} {B : Int} (h : TrA H t B) : ∃ o, H t = some o := by
  obtain ⟨xs, ks, i, j, e, _⟩ := h
  exact ⟨_, e⟩
theorem TrA.at {H : Hp} {t : Addr} {B : Int} (h : TrA H t B) : ∃ (xs : List V) (ks : List Kd) (i j : Int), H t = some (.lst (xs ++ [.int i, .int j])) ∧ Ims H xs (ks.map Kd.d) ∧ ks.length = 3 ∧ (∀ k ∈ ks, k.ok ∧ (k.sz : Int) ≤ j) ∧ 1 ≤ j ∧ j ≤ B ∧ atI (xs ++ [.int i, .int j]) 3 = some (.int i) ∧ atI (xs ++ [.int i, .int j]) 4 = some (.int j) ∧ ∀ n : Nat, n < 3 → ∃ v k, atI (xs ++ [.int i, .int j]) (n : Int) = some v ∧ Im H v k.d ∧ k ∈ ks ∧ ks[n]? = some k := by
  obtain ⟨xs, ks, i, j, e, h1, h2, h3, h4, h5⟩ := h
  have lx := h1.length
  rw [List.length_map, h2] at lx
  refine ⟨xs, ks, i, j, e, h1, h2, h3, h4, h5, ?_, ?_, fun n hn => ?_⟩
  · exact atI_nat (j := 3) (by rw [List.getElem?_append_right (by omega), lx]; rfl)
  · exact atI_nat (j := 4) (by rw [List.getElem?_append_right (by omega), lx]; rfl)
  · obtain ⟨v, hv⟩ : ∃ v, xs[n]? = some v := ⟨_, List.getElem?_eq_getElem (by omega)⟩
    obtain ⟨d, hd, im⟩ := KK.Internal.Ims.atK h1 hv
    rw [List.getElem?_map] at hd
    cases ek : ks[n]? with
    | none => rw [ek] at hd; cases hd
    | some k =>
      rw [ek] at hd
      cases hd
      exact ⟨v, k, atI_nat (by rw [List.getElem?_append_left (by omega)]; exact hv), im, List.mem_of_getElem? ek, rfl⟩
noncomputable def lsK : List Kd := [.any, .num, .rcd .nil, .ch .nil]
theorem lsK_ok : ∀ k ∈ lsK, k.ok ∧ k.sz = 1 := by
  intro k hk
  simp only [lsK, List.mem_cons, List.not_mem_nil, or_false] at hk
  rcases hk with rfl | rfl | rfl | rfl <;> simp [Kd.ok, Kds.ok, Kds.toL, Kd.sz, Kds.sz]
theorem least_new {H : Hp} {t1 t2 t3 t4 t5 t6 l0 : Addr} (h1 : H t1 = none) (h2 : (upd H t1 (.tup [.str "any"])) t2 = none) (h3 : (upd (upd H t1 (.tup [.str "any"])) t2 (.tup [.str "num"])) t3 = none)
    (h4 : (upd (upd (upd H t1 (.tup [.str "any"])) t2 (.tup [.str "num"])) t3 (.tup [])) t4 = none) (h5 : (upd (upd (upd (upd H t1 (.tup [.str "any"])) t2 (.tup [.str "num"])) t3 (.tup [])) t4 (.tup [.str "rec", .ref t3])) t5 = none)
    (h6 : (upd (upd (upd (upd (upd H t1 (.tup [.str "any"])) t2 (.tup [.str "num"])) t3 (.tup [])) t4 (.tup [.str "rec", .ref t3])) t5 (.tup [])) t6 = none)
    (h0 : (upd (upd (upd (upd (upd (upd H t1 (.tup [.str "any"])) t2 (.tup [.str "num"])) t3 (.tup [])) t4 (.tup [.str "rec", .ref t3])) t5 (.tup [])) t6 (.tup [.str "choice", .ref t5])) l0 = none) :
    Same H (upd (upd (upd (upd (upd (upd (upd H t1 (.tup [.str "any"])) t2 (.tup [.str "num"])) t3 (.tup [])) t4 (.tup [.str "rec", .ref t3])) t5 (.tup [])) t6 (.tup [.str "choice", .ref t5])) l0 (.lst [.ref t1, .ref t2, .ref t4, .ref t6])) ∧
    Ims (upd (upd (upd (upd (upd (upd (upd H t1 (.tup [.str "any"])) t2 (.tup [.str "num"])) t3 (.tup [])) t4 (.tup [.str "rec", .ref t3])) t5 (.tup [])) t6 (.tup [.str "choice", .ref t5])) l0 (.lst [.ref t1, .ref t2, .ref t4, .ref t6])) [.ref t1, .ref t2, .ref t4, .ref t6] (lsK.map Kd.d) := by
  have i1 := im_newK (ds := [sD "any"]) h1 (.cons (.flat rfl) .nil)
  have S1 := same_new h1 (.tup [.str "any"])
  generalize upd H t1 (.tup [.str "any"]) = H1 at *
  have i2 := im_newK (ds := [sD "num"]) h2 (.cons (.flat rfl) .nil)
  have S2 := same_new h2 (.tup [.str "num"])
  generalize upd H1 t2 (.tup [.str "num"]) = H2 at *
  have i3 := im_newK (ds := []) h3 .nil
  have S3 := same_new h3 (.tup [])
  generalize upd H2 t3 (.tup []) = H3 at *
  have i4 := im_newK (ds := [sD "rec", .tup []]) h4 (.cons (.flat rfl) (.cons i3 .nil))
  have S4 := same_new h4 (.tup [.str "rec", .ref t3])
  generalize upd H3 t4 (.tup [.str "rec", .ref t3]) = H4 at *
  have i5 := im_newK (ds := []) h5 .nil
  have S5 := same_new h5 (.tup [])
  generalize upd H4 t5 (.tup []) = H5 at *
  have i6 := im_newK (ds := [sD "choice", .tup []]) h6 (.cons (.flat rfl) (.cons i5 .nil))
  have S6 := same_new h6 (.tup [.str "choice", .ref t5])
  generalize upd H5 t6 (.tup [.str "choice", .ref t5]) = H6 at *
  have S7 := same_new h0 (.lst [.ref t1, .ref t2, .ref t4, .ref t6])
  have A := ((((S2.trans S3).trans S4).trans S5).trans S6).trans S7
  refine ⟨S1.trans A, ?_⟩
  rw [show lsK.map Kd.d = [.tup [sD "any"], .tup [sD "num"], .tup [sD "rec", .tup []], .tup [sD "choice", .tup []]] by simp [lsK, Kd.d, Kds.ds]]
  exact .cons (i1.mono (Same.tk A)) (.cons (i2.mono (Same.tk ((((S3.trans S4).trans S5).trans S6).trans S7))) (.cons (i4.mono (Same.tk ((S5.trans S6).trans S7))) (.cons (i6.mono (Same.tk S7)) .nil)))
noncomputable def Pr (H : Hp) (v : V) : Prop := ∃ (t : Addr) (ns : List Nat), v = .ref t ∧ H t = some (.tup (ns.map fun n : Nat => V.int (n : Int))) ∧ ns.length = 3 ∧ ∀ n ∈ ns, n < 4
theorem Pr.same {H H' : Hp} {v : V} (h : Pr H v) (s : Same H H') : Pr H' v := by
  obtain ⟨t, ns, e, h1, h2⟩ := h
  exact ⟨t, ns, e, s _ _ h1, h2⟩
theorem pr_new {H : Hp} {t : Addr} (a b c : Nat) (hb : a < 4 ∧ b < 4 ∧ c < 4) : Pr (upd H t (.tup [.int (a : Int), .int (b : Int), .int (c : Int)])) (.ref t) := ⟨t, [a, b, c], rfl, upd_same, rfl, fun n hn => by
  simp only [List.mem_cons, List.not_mem_nil, or_false] at hn
  rcases hn with rfl | rfl | rfl <;> omega⟩
section
variable {P : Program} {w : World} {K : PySem.W.Frag} {mg : Str → Option Value} {base : Heap}
noncomputable def sp_leaf : Sp := fun vs H Q _ => ∃ c : Int, vs = [.int c] ∧ ∀ t H', Same H H' → H t = none → TrA H' t 1 → Q (.ref t) H'
theorem ok__law_leaf (T : Txt K mg) : FnOk P w K mg base CX0 1 T.a__law_leaf T.fd__law_leaf ["_law_c"] sp_leaf := by
  refine T.F__law_leaf.ok sc__law_leaf (fun vs H Q E h => ?_) (fun cdv A outer s H vs Q E hr h => ?_)
  · obtain ⟨c, rfl, _⟩ := h
    rfl
  obtain ⟨c, rfl, q⟩ := h
  refine ⟨_, (pss_cons (ps_set (i := 1) sc__law_leaf.nd rfl (Or.inr rfl) (pe_lst (pa_cons (pe_tup (pa_cons pe_str pa_nil)) (pa_cons (pe_tup (pa_cons pe_str pa_nil)) (pa_cons (pe_tup (pa_cons pe_str (pa_cons (pe_tup pa_nil) pa_nil))) (pa_cons (pe_tup (pa_cons pe_str (pa_cons (pe_tup pa_nil) pa_nil))) pa_nil))))))
    (pss_cons (ps_set (i := 2) sc__law_leaf.nd rfl (Or.inl rfl) (pe_lst (pa_cons (pe_tup (pa_cons pe_int (pa_cons pe_int (pa_cons pe_int pa_nil)))) (pa_cons (pe_tup (pa_cons pe_int (pa_cons pe_int (pa_cons pe_int pa_nil)))) (pa_cons (pe_tup (pa_cons pe_int (pa_cons pe_int (pa_cons pe_int pa_nil)))) (pa_cons (pe_tup (pa_cons pe_int (pa_cons pe_int (pa_cons pe_int pa_nil)))) (pa_cons (pe_tup (pa_cons pe_int (pa_cons pe_int (pa_cons pe_int pa_nil)))) (pa_cons (pe_tup (pa_cons pe_int (pa_cons pe_int (pa_cons pe_int pa_nil)))) (pa_cons (pe_tup (pa_cons pe_int (pa_cons pe_int (pa_cons pe_int pa_nil)))) (pa_cons (pe_tup (pa_cons pe_int (pa_cons pe_int (pa_cons pe_int pa_nil)))) (pa_cons (pe_tup (pa_cons pe_int (pa_cons pe_int (pa_cons pe_int pa_nil)))) pa_nil)))))))))))
    (pss_one (ps_ret (pe_op op_cat (pe_lc rfl (blkC (x := "_law_k") ["_law_least"] [("_law_least", 1, s.heap.objs.size + 1)] rfl rfl (by decide +kernel) (by decide +kernel) rfl (by decide +kernel) rfl rfl (by intro p hp; simp only [List.mem_cons, List.not_mem_nil, or_false] at hp; rcases hp with rfl <;> exact ⟨rfl, rfl, rfl, rfl⟩)) (pi_tup (pe_ix xc_list (cv 2) (pe_op oc_mod (cv 0) pe_int) (fun _ _ => rfl))) (fun _ _ _ _ _ => pts_nil) (fun _ _ _ _ _ => (pe_ix xc_list (cv 1) (cv 0) (fun _ _ => rfl)))) (pe_lst (pa_cons pe_int (pa_cons pe_int pa_nil)))))))), ?_⟩
  have sl : sizeLine = 16777216 := sizeLine_eq
  refine ⟨(by show 1 ≤ sizeLine; decide), fun t1 h1 => ⟨(by show 1 ≤ sizeLine; decide), fun t2 h2 => ⟨(by show 0 ≤ sizeLine; decide), fun t3 h3 => ⟨(by show 2 ≤ sizeLine; decide), fun t4 h4 => ⟨(by show 0 ≤ sizeLine; decide), fun t5 h5 => ⟨(by show 2 ≤ sizeLine; decide), fun t6 h6 => ⟨(by show 4 ≤ sizeLine; decide), fun l0 h0 => ?_⟩⟩⟩⟩⟩⟩⟩
  obtain ⟨S0, I0⟩ := least_new h1 h2 h3 h4 h5 h6 h0
  have e0 := upd_same (H := (upd (upd (upd (upd (upd (upd H t1 (.tup [.str "any"])) t2 (.tup [.str "num"])) t3 (.tup [])) t4 (.tup [.str "rec", .ref t3])) t5 (.tup [])) t6 (.tup [.str "choice", .ref t5]))) (a := l0) (o := .lst [.ref t1, .ref t2, .ref t4, .ref t6])
  generalize upd (upd (upd (upd (upd (upd (upd H t1 (.tup [.str "any"])) t2 (.tup [.str "num"])) t3 (.tup [])) t4 (.tup [.str "rec", .ref t3])) t5 (.tup [])) t6 (.tup [.str "choice", .ref t5])) l0 (.lst [.ref t1, .ref t2, .ref t4, .ref t6]) = H0 at S0 I0 e0 ⊢
  generalize [V.ref t1, .ref t2, .ref t4, .ref t6] = xs0 at I0 e0 ⊢
  have x4 : xs0.length = 4 := I0.length
  clear h1 h2 h3 h4 h5 h6 h0
  dsimp only [gName]
  refine ⟨(by show 3 ≤ sizeLine; decide), fun r1 g1 => ⟨(by show 3 ≤ sizeLine; decide), fun r2 g2 => ⟨(by show 3 ≤ sizeLine; decide), fun r3 g3 => ⟨(by show 3 ≤ sizeLine; decide), fun r4 g4 => ⟨(by show 3 ≤ sizeLine; decide), fun r5 g5 => ⟨(by show 3 ≤ sizeLine; decide), fun r6 g6 => ⟨(by show 3 ≤ sizeLine; decide), fun r7 g7 => ⟨(by show 3 ≤ sizeLine; decide), fun r8 g8 => ⟨(by show 3 ≤ sizeLine; decide), fun r9 g9 => ⟨(by show 9 ≤ sizeLine; decide), fun rl grl => ?_⟩⟩⟩⟩⟩⟩⟩⟩⟩⟩
  have k1 := same_new g1 (.tup [.int 1, .int 1, .int 1])
  have p1 : Pr (upd H0 r1 (.tup [.int 1, .int 1, .int 1])) (.ref r1) := pr_new 1 1 1 (by decide)
  generalize upd H0 r1 (.tup [.int 1, .int 1, .int 1]) = M1 at *
  have k2 := same_new g2 (.tup [.int 2, .int 2, .int 2])
  have p2 : Pr (upd M1 r2 (.tup [.int 2, .int 2, .int 2])) (.ref r2) := pr_new 2 2 2 (by decide)
  generalize upd M1 r2 (.tup [.int 2, .int 2, .int 2]) = M2 at *
  have k3 := same_new g3 (.tup [.int 3, .int 1, .int 0])
  have p3 : Pr (upd M2 r3 (.tup [.int 3, .int 1, .int 0])) (.ref r3) := pr_new 3 1 0 (by decide)
  generalize upd M2 r3 (.tup [.int 3, .int 1, .int 0]) = M3 at *
  have k4 := same_new g4 (.tup [.int 3, .int 3, .int 2])
  have p4 : Pr (upd M3 r4 (.tup [.int 3, .int 3, .int 2])) (.ref r4) := pr_new 3 3 2 (by decide)
  generalize upd M3 r4 (.tup [.int 3, .int 3, .int 2]) = M4 at *
  have k5 := same_new g5 (.tup [.int 1, .int 1, .int 0])
  have p5 : Pr (upd M4 r5 (.tup [.int 1, .int 1, .int 0])) (.ref r5) := pr_new 1 1 0 (by decide)
  generalize upd M4 r5 (.tup [.int 1, .int 1, .int 0]) = M5 at *
  have k6 := same_new g6 (.tup [.int 0, .int 0, .int 0])
  have p6 : Pr (upd M5 r6 (.tup [.int 0, .int 0, .int 0])) (.ref r6) := pr_new 0 0 0 (by decide)
  generalize upd M5 r6 (.tup [.int 0, .int 0, .int 0]) = M6 at *
  have k7 := same_new g7 (.tup [.int 3, .int 3, .int 3])
  have p7 : Pr (upd M6 r7 (.tup [.int 3, .int 3, .int 3])) (.ref r7) := pr_new 3 3 3 (by decide)
  generalize upd M6 r7 (.tup [.int 3, .int 3, .int 3]) = M7 at *
  have k8 := same_new g8 (.tup [.int 3, .int 2, .int 0])
  have p8 : Pr (upd M7 r8 (.tup [.int 3, .int 2, .int 0])) (.ref r8) := pr_new 3 2 0 (by decide)
  generalize upd M7 r8 (.tup [.int 3, .int 2, .int 0]) = M8 at *
  have k9 := same_new g9 (.tup [.int 1, .int 2, .int 3])
  have p9 : Pr (upd M8 r9 (.tup [.int 1, .int 2, .int 3])) (.ref r9) := pr_new 1 2 3 (by decide)
  generalize upd M8 r9 (.tup [.int 1, .int 2, .int 3]) = M9 at *
  have k10 := same_new grl (.lst [.ref r1, .ref r2, .ref r3, .ref r4, .ref r5, .ref r6, .ref r7, .ref r8, .ref r9])
  have erl : (upd M9 rl (.lst [.ref r1, .ref r2, .ref r3, .ref r4, .ref r5, .ref r6, .ref r7, .ref r8, .ref r9])) rl = some (.lst [.ref r1, .ref r2, .ref r3, .ref r4, .ref r5, .ref r6, .ref r7, .ref r8, .ref r9]) := upd_same
  generalize upd M9 rl (.lst [.ref r1, .ref r2, .ref r3, .ref r4, .ref r5, .ref r6, .ref r7, .ref r8, .ref r9]) = M10 at *
  have z8 := k9.trans k10
  have z7 := k8.trans z8
  have z6 := k7.trans z7
  have z5 := k6.trans z6
  have z4 := k5.trans z5
  have z3 := k4.trans z4
  have z2 := k3.trans z3
  have z1 := k2.trans z2
  have S1 : Same H0 M10 := k1.trans z1
  have hp : ∀ v ∈ ([V.ref r1, V.ref r2, V.ref r3, V.ref r4, V.ref r5, V.ref r6, V.ref r7, V.ref r8, V.ref r9] : List V), Pr M10 v := fun v hv => by
    simp only [List.mem_cons, List.not_mem_nil, or_false] at hv
    rcases hv with rfl | rfl | rfl | rfl | rfl | rfl | rfl | rfl | rfl
    · exact p1.same z1
    · exact p2.same z2
    · exact p3.same z3
    · exact p4.same z4
    · exact p5.same z5
    · exact p6.same z6
    · exact p7.same z7
    · exact p8.same z8
    · exact p9.same k10
  clear p1 p2 p3 p4 p5 p6 p7 p8 p9 g1 g2 g3 g4 g5 g6 g7 g8 g9 grl z1 z2 z3 z4 z5 z6 z7 z8 k1 k2 k3 k4 k5 k6 k7 k8 k9 k10
  refine ⟨(by show (0 : Int) < 9; decide), _, erl, ?_⟩
  obtain ⟨v, av, mv⟩ := atI_lt ([V.ref r1, V.ref r2, V.ref r3, V.ref r4, V.ref r5, V.ref r6, V.ref r7, V.ref r8, V.ref r9] : List V) (c % 9) (Int.emod_nonneg _ (by decide)) (Int.emod_lt_of_pos _ (by decide))
  obtain ⟨t, ns, rfl, et, ln, hn⟩ := hp v mv
  refine onS_of av ⟨t, rfl, ⟨_, SqT.of et⟩, fun D hD => ?_⟩
  have I1 := I0.mono (Same.tk S1)
  have e1 := S1 _ _ e0
  refine lc_gen (ns.map fun n : Nat => V.int (n : Int)).length (by rw [List.length_map]; omega) (fun xs H => ∃ ks : List Kd, Ims H xs (ks.map Kd.d) ∧ ∀ k ∈ ks, k ∈ lsK) (fun xs H H' ⟨ks, h1, h2⟩ k => ⟨ks, h1.mono k, h2⟩) hD rfl (fun k H S hk => go_tup et S hk) (fun H S => st_tup et S) ⟨[], .nil, fun k hk => by simp at hk⟩ ?_ ?_
  · rintro k H2 v H3 xs Z S2 hk ⟨rfl, hv⟩ ⟨ks, h1, h2⟩ hl z
    have hv2 := hv _ (SqT.of (S2 _ _ et))
    rw [List.getElem?_map] at hv2
    cases e : ns[k]? with
    | none => rw [e] at hv2; cases hv2
    | some m =>
      rw [e] at hv2
      cases hv2
      have hm := hn m (List.mem_of_getElem? e)
      obtain ⟨x, hx⟩ : ∃ x, xs0[m]? = some x := ⟨_, List.getElem?_eq_getElem (by omega)⟩
      obtain ⟨d, hd, im⟩ := KK.Internal.Ims.atK (I1.mono (Same.tk S2)) hx
      rw [List.getElem?_map] at hd
      cases ek : lsK[m]? with
      | none => rw [ek] at hd; cases hd
      | some kk =>
        rw [ek] at hd
        cases hd
        refine ⟨_, S2 _ _ e1, onS_of (atI_nat hx) (z _ _ (Same.refl _) ⟨ks ++ [kk], ?_, fun y hy => ?_⟩)⟩
        · rw [List.map_append]
          exact h1.app (.cons im .nil)
        · rcases List.mem_append.mp hy with hy | hy
          · exact h2 y hy
          · rw [List.mem_singleton.mp hy]
            exact List.mem_of_getElem? ek
  · rintro H2 xs S2 ⟨ks, h1, h2⟩ hl eD
    rw [List.length_map] at hl
    have lk := h1.length
    rw [List.length_map] at lk
    refine ⟨(by show 2 ≤ sizeLine; decide), fun p hp2 => ?_⟩
    have s3 := same_new hp2 (.lst [.int 1, .int 1])
    refine ⟨D, p, xs, _, rfl, rfl, s3 _ _ eD, upd_same, (by show xs.length + 2 ≤ sizeLine; omega), fun f hf => ?_⟩
    have s4 := same_new hf (.lst (xs ++ [.int 1, .int 1]))
    refine q f _ (((S0.trans S1).trans S2).trans (s3.trans s4)) (((S0.trans S1).trans (S2.trans s3)).free hf) ⟨xs, ks, 1, 1, upd_same, h1.mono (Same.tk (s3.trans s4)), by omega, fun k hk => ?_, by decide, by decide⟩
    obtain ⟨o, z⟩ := lsK_ok k (h2 k hk)
    exact ⟨o, by rw [z]; decide⟩
noncomputable def Stk (H : Hp) (st : Addr) (N : List Addr) (n : Nat) : Prop := ∃ xs, H st = some (.lst xs) ∧ xs.length ≤ n ∧ ∀ v ∈ xs, ∃ t, v = .ref t ∧ t ∉ N ∧ TrA H t 20
theorem Stk.same {H H' : Hp} {st : Addr} {N : List Addr} {n : Nat} (h : Stk H st N n) (s : Same H H') : Stk H' st N n := by
  obtain ⟨xs, e, l, f⟩ := h
  exact ⟨xs, s _ _ e, l, fun v hv => let ⟨t, h1, h2, h3⟩ := f v hv; ⟨t, h1, h2, h3.same s⟩⟩
theorem Stk.more {H : Hp} {st a : Addr} {N : List Addr} {n : Nat} (h : Stk H st N n) (ha : H a = none) : Stk H st (a :: N) n := by
  obtain ⟨xs, e, l, f⟩ := h
  refine ⟨xs, e, l, fun v hv => ?_⟩
  obtain ⟨t, h1, h2, h3⟩ := f v hv
  obtain ⟨o, eo⟩ := h3.ex
  exact ⟨t, h1, fun z => (List.mem_cons.mp z).elim (ne_of_none eo ha) h2, h3⟩
theorem Stk.less {H : Hp} {st : Addr} {N M : List Addr} {n : Nat} (h : Stk H st N n) (s : ∀ a ∈ M, a ∈ N) : Stk H st M n := by
  obtain ⟨xs, e, l, f⟩ := h
  exact ⟨xs, e, l, fun v hv => let ⟨t, h1, h2, h3⟩ := f v hv; ⟨t, h1, fun z => h2 (s t z), h3⟩⟩
theorem Stk.put {H : Hp} {st a : Addr} {N : List Addr} {n : Nat} {xs ys : List V} (h : Stk H st N n) (ha : a ∈ N) (e : H a = some (.lst xs)) (ns : st ≠ a) : Stk (upd H a (.lst ys)) st N n := by
  obtain ⟨zs, e2, l, f⟩ := h
  exact ⟨zs, by rw [upd_ne ns]; exact e2, l, fun v hv => let ⟨t, h1, h2, h3⟩ := f v hv; ⟨t, h1, h2, h3.fk h2 (Fk.upd ha e)⟩⟩
noncomputable def sp_pop : Sp := fun vs H Q _ => ∃ (st : Addr) (N : List Addr) (n : Nat), vs = [.ref st] ∧ Stk H st N n ∧ st ∈ N ∧ (∀ a ∈ N, ∃ o, H a = some o) ∧ ∀ t H', Fk [st] H H' → Stk H' st N n → t ∉ N → TrA H' t 20 → Q (.ref t) H'
theorem ok__law_pop (T : Txt K mg) : FnOk P w K mg base CX0 2 T.a__law_pop T.fd__law_pop ["_law_stack"] sp_pop := by
  have G__law_leaf := ok__law_leaf (P := P) (w := w) (base := base) T
  refine T.F__law_pop.ok sc__law_pop (fun vs H Q E h => ?_) (fun cdv A outer s H vs Q E hr h => ?_)
  · obtain ⟨st, N, n, rfl, _⟩ := h
    rfl
  obtain ⟨st, N, n, rfl, hs, hm, hN, q⟩ := h
  refine ⟨_, (pss_cons (ps_if (ptc_cmpR oc_eq (pe_callB call_len_seq rfl T.z_len bt_len (pa_cons (cv 0) pa_nil)) pe_int (nomark _))
      (pss_one (ps_ret (pe_call G__law_leaf (hr.mono (by decide)) rfl T.m__law_leaf T.k__law_leaf T.b__law_leaf .nil pass0 (pa_cons pe_int pa_nil))))
      pss_nil)
    (pss_one (ps_ret (pe_bm0 PySem.F.plainAttrs_list PySem.F.slot_list_pop PySem.F.type_list_pop mt_pop (cv 0))))), ?_⟩
  obtain ⟨xs, e, l, f⟩ := id hs
  refine ⟨st, _, rfl, .inl (SqL.of e), ?_⟩
  dsimp only [tC, cEq, onB]
  by_cases h0 : xs.length = 0
  · rw [show (false ^^ decide (((xs.length : Nat) : Int) = 0)) = true from by rw [decide_eq_true (by omega)]; rfl]
    refine iteT ⟨0, rfl, fun t H' S ht tr => ?_⟩
    refine q t H' (Fk.same S) (hs.same S) (fun hN' => ?_) ?_
    · obtain ⟨o, eo⟩ := hN t hN'
      rw [ht] at eo
      cases eo
    · obtain ⟨a, b, c, d, h1, h2, h3, h4, h5, h6⟩ := tr
      exact ⟨a, b, c, d, h1, h2, h3, h4, h5, by omega⟩
  · rw [show (false ^^ decide (((xs.length : Nat) : Int) = 0)) = false from by rw [decide_eq_false (by omega)]; rfl]
    obtain ⟨v, hv⟩ : ∃ v, xs[xs.length - 1]? = some v := ⟨_, List.getElem?_eq_getElem (by omega)⟩
    refine iteF ⟨.inl ⟨rfl, _, SqL.of e⟩, st, xs, v, rfl, rfl, e, hv, ?_⟩
    obtain ⟨t, rfl, nt, tr⟩ := f v (List.mem_of_getElem? hv)
    have k := Fk.upd (N := [st]) (ys := xs.dropLast) (List.mem_singleton.mpr rfl) e
    have out : ∀ {t : Addr}, t ∉ N → t ∉ [st] := fun h z => h (by rw [List.mem_singleton.mp z]; exact hm)
    refine q t _ k ⟨xs.dropLast, upd_same, by rw [List.length_dropLast]; omega, fun v hv => ?_⟩ nt (tr.fk (out nt) k)
    obtain ⟨t', h1, h2, h3⟩ := f v (List.dropLast_subset _ hv)
    exact ⟨t', h1, h2, h3.fk (out h2) k⟩
end
end K53.Internal
namespace K53.Internal
open PySem L2.Internal BO.Internal KK.Internal
seal L2.Internal.PE L2.Internal.PA L2.Internal.PS L2.Internal.PSs L2.Internal.PT L2.Internal.PI
theorem for_enum {K : PySem.W.Frag} {a : Addr} {xs : List V} {g : TG} {tb : TS} {D : Ends} {σ : St} {H : Hp} (Pv : Nat → St → Hp → Prop) (h0 : Pv 0 σ H) (hl : ∀ i σ H, i ≤ xs.length → Pv i σ H → SqL K H a xs)
    (hs : ∀ (i : Nat) (x : V) (σ : St) (H : Hp) (T : Addr), xs[i]? = some x → Pv i σ H → H T = none → g (.ref T) σ (upd H T (.tup [.int (i : Int), x])) fun σ2 H2 => tb { D with nx := Pv (i + 1), ct := Pv (i + 1), bk := D.nx } σ2 H2) (hd : ∀ σ H, Pv xs.length σ H → D.nx σ H) :
    ∃ W : Nat → Nat → St → Hp → Prop, (∃ m, W 0 m σ H) ∧ ∀ i m σ H, W i m σ H →
      ((Ite K a).stop i H ∧ D.nx σ H) ∨ ((Ite K a).go i H ∧ ∃ N : St → Hp → Prop, (∀ σ' H', N σ' H' → ∃ m', m' < m ∧ W (i + 1) m' σ' H') ∧ ∀ x H', (Ite K a).yld i H x H' → g x σ H' fun σ2 H2 => tb { D with nx := N, ct := N, bk := D.nx } σ2 H2) := by
  refine ⟨fun i m σ H => m = xs.length - i ∧ i ≤ xs.length ∧ Pv i σ H, ⟨xs.length, by simp, Nat.zero_le _, h0⟩, ?_⟩
  rintro i m σ H ⟨rfl, hi, p⟩
  have q := hl i σ H hi p
  by_cases hlt : i < xs.length
  · refine .inr ⟨⟨xs, xs[i], q, by simp [hlt]⟩, Pv (i + 1), fun σ' H' p' => ⟨xs.length - (i + 1), by omega, rfl, hlt, p'⟩, fun v H' y => ?_⟩
    obtain ⟨T, x, rfl, hT, rfl, hx⟩ := y
    exact hs i x σ H T (hx xs q) p hT
  · have e : i = xs.length := by omega
    subst e
    exact .inl ⟨⟨xs, q, rfl⟩, hd σ H p⟩
theorem Wd.same {H H' : Hp} {l : Addr} (h : Wd H l) (S : Same H H') : Wd H' l := by
  obtain ⟨ws, e, n⟩ := h
  exact ⟨ws, S l _ e, n⟩
noncomputable def wat (ws : List Str) (i : Int) : Str := ws.getD (i % 16).toNat ""
theorem wat_at {ws : List Str} (n : ws.length = 16) (i : Int) : atI (ws.map V.str) (i % 16) = some (.str (wat ws i)) := by
  have h0 := Int.emod_nonneg i (show (16 : Int) ≠ 0 by decide)
  have h1 := Int.emod_lt_of_pos i (show (0 : Int) < 16 by decide)
  obtain ⟨r, er⟩ : ∃ r : Nat, i % 16 = (r : Int) := ⟨_, (Int.toNat_of_nonneg h0).symm⟩
  rw [wat, er, Int.toNat_natCast]
  refine atI_nat (j := r) ?_
  have hr : r < ws.length := by omega
  rw [List.getElem?_map, List.getD_eq_getElem?_getD, List.getElem?_eq_getElem hr]
  rfl
theorem wat_ne {ws : List Str} (n : ws.length = 16) (nd : ws.Nodup) {i j : Int} (h : i % 16 ≠ j % 16) : wat ws i ≠ wat ws j := by
  have h0 := Int.emod_nonneg i (show (16 : Int) ≠ 0 by decide)
  have h1 := Int.emod_lt_of_pos i (show (0 : Int) < 16 by decide)
  have g0 := Int.emod_nonneg j (show (16 : Int) ≠ 0 by decide)
  have g1 := Int.emod_lt_of_pos j (show (0 : Int) < 16 by decide)
  have hi : (i % 16).toNat < ws.length := by omega
  have hj : (j % 16).toNat < ws.length := by omega
  rw [wat, wat, List.getD_eq_getElem?_getD, List.getD_eq_getElem?_getD, List.getElem?_eq_getElem hi, List.getElem?_eq_getElem hj]
  have key := List.pairwise_iff_getElem.mp nd
  rcases Nat.lt_or_gt_of_ne (show (i % 16).toNat ≠ (j % 16).toNat by omega) with z | z
  · exact key _ _ hi hj z
  · exact (key _ _ hj hi z).symm
noncomputable def kys (ws : List Str) (a b : Int) (n : Nat) : List Str := (List.range n).map fun (k : Nat) => wat ws (a + b * (0 + (k : Int)))
theorem kys_nodup {ws : List Str} (n : ws.length = 16) (nd : ws.Nodup) {a b : Int} (hb : b = 1 ∨ b = 3 ∨ b = 5) {m : Nat} (hm : m ≤ 7) : (kys ws a b m).Nodup := by
  rw [kys, List.Nodup, List.pairwise_map]
  refine List.Pairwise.imp_of_mem (fun {x y} hx hy hlt => wat_ne n nd ?_) List.pairwise_lt_range
  have h1 := List.mem_range.mp hx
  have h2 := List.mem_range.mp hy
  rcases hb with z | z | z <;> subst z <;> omega
theorem kys_snoc (ws : List Str) (a b : Int) (n : Nat) : kys ws a b (n + 1) = kys ws a b n ++ [wat ws (a + b * (0 + (n : Int)))] := by
  rw [kys, kys, List.range_succ, List.map_append]
  rfl

noncomputable def TrJ (H : Hp) (t : Addr) (j : Int) : Prop := ∃ (xs : List V) (ks : List Kd) (i : Int), H t = some (.lst (xs ++ [.int i, .int j])) ∧ Ims H xs (ks.map Kd.d) ∧ ks.length = 3 ∧ (∀ k ∈ ks, k.ok ∧ (k.sz : Int) ≤ j) ∧ 1 ≤ j
theorem TrA.j {H : Hp} {t : Addr} {B : Int} (h : TrA H t B) : ∃ j, TrJ H t j ∧ 1 ≤ j ∧ j ≤ B := by
  obtain ⟨xs, ks, i, j, h1, h2, h3, h4, h5, h6⟩ := h
  exact ⟨j, ⟨xs, ks, i, h1, h2, h3, h4, h5⟩, h5, h6⟩
theorem TrJ.a {H : Hp} {t : Addr} {j : Int} (h : TrJ H t j) : TrA H t j := by
  obtain ⟨xs, ks, i, h1, h2, h3, h4, h5⟩ := h
  exact ⟨xs, ks, i, j, h1, h2, h3, h4, h5, Int.le_refl _⟩
theorem TrJ.fk {N : List Addr} {H H' : Hp} {t : Addr} {j : Int} (h : TrJ H t j) (n : t ∉ N) (k : Fk N H H') : TrJ H' t j := by
  obtain ⟨xs, ks, i, e, h1, h2⟩ := h
  exact ⟨xs, ks, i, k.1 _ _ e n, h1.mono k.2, h2⟩
theorem TrJ.at {H : Hp} {t : Addr} {j : Int} (h : TrJ H t j) : ∃ (l : List V) (i : Int), H t = some (.lst l) ∧ atI l 3 = some (.int i) ∧ atI l 4 = some (.int j) ∧ ∀ n : Nat, n < 3 → ∃ (v : V) (k : Kd), atI l (n : Int) = some v ∧ Im H v k.d ∧ k.ok ∧ (k.sz : Int) ≤ j := by
  obtain ⟨xs, ks, i, e, h1, h2, h3, h4⟩ := h
  have lx := h1.length
  rw [List.length_map, h2] at lx
  refine ⟨_, i, e, ?_, ?_, fun n hn => ?_⟩
  · exact atI_nat (j := 3) (by rw [List.getElem?_append_right (by omega), lx]; rfl)
  · exact atI_nat (j := 4) (by rw [List.getElem?_append_right (by omega), lx]; rfl)
  · obtain ⟨v, hv⟩ : ∃ v, xs[n]? = some v := ⟨_, List.getElem?_eq_getElem (by omega)⟩
    obtain ⟨d, hd, im⟩ := KK.Internal.Ims.atK h1 hv
    rw [List.getElem?_map] at hd
    cases ek : ks[n]? with
    | none => rw [ek] at hd; cases hd
    | some k =>
      rw [ek] at hd
      cases hd
      have := h3 k (List.mem_of_getElem? ek)
      exact ⟨v, k, atI_nat (by rw [List.getElem?_append_left (by omega)]; exact hv), im, this.1, this.2⟩
noncomputable def Rowf (H : Hp) (r : Addr) (ss : List Str) (S : Int) : Prop := ∃ (ys : List V) (l : List (Str × Kd)), H r = some (.lst ys) ∧ Ims H ys (l.map fD) ∧ (l.map Prod.fst).Sublist ss ∧ (∀ p ∈ l, p.2.ok) ∧ (szL l : Int) ≤ S
theorem Rowf.more {H : Hp} {r : Addr} {ss ss' : List Str} {S S' : Int} (h : Rowf H r ss S) (h1 : ss.Sublist ss') (h2 : S ≤ S') : Rowf H r ss' S' := by
  obtain ⟨ys, l, a, b, c, d, e⟩ := h
  exact ⟨ys, l, a, b, c.trans h1, d, Int.le_trans e h2⟩
theorem Rowf.same {H H' : Hp} {r : Addr} {ss : List Str} {S : Int} (h : Rowf H r ss S) (s : Same H H') : Rowf H' r ss S := by
  obtain ⟨ys, l, a, b, c⟩ := h
  exact ⟨ys, l, s _ _ a, b.mono (Same.tk s), c⟩
theorem Rowf.other {H : Hp} {r a : Addr} {ss : List Str} {S : Int} {xs zs : List V} (h : Rowf H r ss S) (e : H a = some (.lst xs)) (n : r ≠ a) : Rowf (upd H a (.lst zs)) r ss S := by
  obtain ⟨ys, l, h1, h2, h3⟩ := h
  exact ⟨ys, l, by rw [upd_ne n]; exact h1, h2.mono (fk_lst e).tk, h3⟩
theorem szL_app : ∀ l m : List (Str × Kd), szL (l ++ m) = szL l + szL m
  | [], m => by rw [List.nil_append, szL]; omega
  | p :: t, m => by rw [List.cons_append, szL, szL, szL_app t m]; omega
theorem Rowf.add {H : Hp} {r : Addr} {ss : List Str} {S J : Int} {ys : List V} {v : V} {x : Str} {k : Kd} (h : Rowf H r ss S) (e : H r = some (.lst ys)) (iv : Im H v (fD (x, k))) (ok : k.ok) (hJ : (k.sz : Int) ≤ J) : Rowf (upd H r (.lst (ys ++ [v]))) r (ss ++ [x]) (S + J) := by
  obtain ⟨ys', l, h1, h2, h3, h4, h5⟩ := h
  rw [e] at h1
  cases h1
  have tk := (fk_lst (o := .lst (ys ++ [v])) e).tk
  refine ⟨_, l ++ [(x, k)], upd_same, ?_, ?_, ?_, ?_⟩
  · rw [List.map_append]
    exact (h2.mono tk).app (.cons (iv.mono tk) .nil)
  · rw [List.map_append]
    exact h3.append (List.Sublist.refl _)
  · intro p hp
    rcases List.mem_append.mp hp with hp | hp
    · exact h4 p hp
    · rw [List.mem_singleton.mp hp]; exact ok
  · rw [szL_app]
    simp only [szL]
    omega
theorem sum_take {js : List Int} {i : Nat} {j : Int} (h : js[i]? = some j) : (js.take (i + 1)).sum = (js.take i).sum + j := by
  rw [List.take_add_one, h, List.sum_append]
  simp
theorem ss_take {ss : List Str} {i : Nat} {x : Str} (h : ss[i]? = some x) : ss.take (i + 1) = ss.take i ++ [x] := by
  rw [List.take_add_one, h]
  rfl
theorem sum_bound : ∀ l : List Int, (∀ n ∈ l, 1 ≤ n ∧ n ≤ 20) → 0 ≤ l.sum ∧ l.sum ≤ 20 * (l.length : Int)
  | [], _ => by simp
  | x :: l, h => by
    have h1 := h x (by simp)
    have h2 := sum_bound l fun n hn => h n (by simp [hn])
    rw [List.sum_cons, List.length_cons]
    omega
theorem Stk.fk {H H' : Hp} {st : Addr} {N M : List Addr} {n : Nat} (h : Stk H st N n) (k : Fk M H H') (hM : ∀ a ∈ M, a ∈ N) (hs : st ∉ M) : Stk H' st N n := by
  obtain ⟨xs, e, l, f⟩ := h
  exact ⟨xs, k.1 _ _ e hs, l, fun v hv => let ⟨t, h1, h2, h3⟩ := f v hv; ⟨t, h1, h2, h3.fk (fun z => h2 (hM t z)) k⟩⟩
theorem _root_.BO.Internal.All2.trj {M : List Addr} {H H' : Hp} {l : List Addr} {m : List Int} (h : All2 (TrJ H) l m) (hl : ∀ t ∈ l, t ∉ M) (k : Fk M H H') : All2 (TrJ H') l m := by
  induction h with
  | nil => exact .nil
  | cons h1 _ ih => exact .cons (h1.fk (hl _ (by simp)) k) (ih fun t ht => hl t (by simp [ht]))
theorem take_le {js : List Int} (h : ∀ j ∈ js, 1 ≤ j ∧ j ≤ 20) (i : Nat) : (js.take i).sum ≤ (js.take (i + 1)).sum := by
  rw [List.take_add_one, List.sum_append]
  cases e : js[i]? with
  | none => simp
  | some j =>
    have := h j (List.mem_of_getElem? e)
    simp
    omega
section
variable {P : Program} {w : World} {K : PySem.W.Frag} {mg : Str → Option Value} {base : Heap}
noncomputable def sp_fields : Sp := fun vs H Q _ => ∃ (wl st : Addr) (N : List Addr) (n : Nat) (sh : Str) (c : Int), vs = [.ref wl, .ref st, .str sh, .int c] ∧ Wd H wl ∧ wl ≠ st ∧ Stk H st N n ∧ st ∈ N ∧ (∀ a ∈ N, ∃ o, H a = some o) ∧ (sh = "rec" ∨ sh = "choice") ∧ ∀ t H', Fk [st] H H' → Stk H' st N n → t ∉ N → TrA H' t 200 → Q (.ref t) H'
theorem ok__law_fields (T : Txt K mg) : FnOk P w K mg base CX0 3 T.a__law_fields T.fd__law_fields ["_law_words_here", "_law_stack", "_law_shape", "_law_c"] sp_fields := by
  have G__law_pop := ok__law_pop (P := P) (w := w) (base := base) T
  have G__law_mix := ok__law_mix (P := P) (w := w) (base := base) T
  refine T.F__law_fields.ok sc__law_fields (fun vs H Q E h => ?_) (fun cdv A outer s H vs Q E hr h => ?_)
  · obtain ⟨wl, st, N, n, sh, c, rfl, _⟩ := h
    rfl
  obtain ⟨wl, st, N, n, sh, c, rfl, hw, nws, hs, hm, hN, hsh, q⟩ := h
  refine ⟨_, (pss_cons (ps_set (i := 4) sc__law_fields.nd rfl (Or.inl rfl) (pe_callB call_sortedS rfl T.z_sorted bt_sorted (pa_cons (pe_lc rfl (blkC (x := "_law_k") ["_law_words_here", "_law_c"] [("_law_words_here", 0, s.heap.objs.size + 1), ("_law_c", 3, s.heap.objs.size + 4)] rfl rfl (by decide +kernel) (by decide +kernel) rfl (by decide +kernel) rfl rfl (by intro p hp; simp only [List.mem_cons, List.not_mem_nil, or_false] at hp; rcases hp with rfl | rfl <;> exact ⟨rfl, rfl, rfl, rfl⟩)) (pi_range1 rfl T.z_range (pa_cons (pe_op oc_mod (cv 3) pe_int) pa_nil)) (fun _ _ _ _ _ => pts_nil) (fun _ _ _ _ _ => (pe_ix xc_list (cv 1) (pe_op oc_mod (pe_op oc_add (pe_op oc_fdiv (cv 2) pe_int) (pe_op oc_mul pe_int (cv 0))) pe_int) (fun _ _ => rfl)))) pa_nil)))
    (pss_cons (ps_setLC (j := 5) rfl (blkC (x := "_law_word") ["_law_stack"] [("_law_stack", 1, s.heap.objs.size + 2)] rfl rfl (by decide +kernel) (by decide +kernel) rfl (by decide +kernel) rfl rfl (by intro p hp; simp only [List.mem_cons, List.not_mem_nil, or_false] at hp; rcases hp with rfl <;> exact ⟨rfl, rfl, rfl, rfl⟩)) (pi_list (cv 4)) (fun _ _ _ _ _ => pts_nil) (fun _ _ _ _ _ => (pe_call G__law_pop (hr.mono (by decide)) rfl T.m__law_pop T.k__law_pop T.b__law_pop .nil pass0 (pa_cons (cv 1) pa_nil))) sc__law_fields.nd rfl (Or.inl rfl))
    (pss_cons (ps_set (i := 6) sc__law_fields.nd rfl (Or.inl rfl) (pe_lst (pa_cons (pe_lst pa_nil) (pa_cons (pe_lst pa_nil) (pa_cons (pe_lst pa_nil) pa_nil)))))
    (pss_cons (ps_for PassesOwn.never rfl (pi_enum rfl T.z_enumerate (pa_cons (cv 4) pa_nil)) (pg_tup rfl (pgs_cons (pg_name (i := 7) sc__law_fields.nd rfl (Or.inl rfl)) (pgs_cons (pg_name (i := 8) sc__law_fields.nd rfl (Or.inl rfl)) pgs_nil)))
      (pss_cons (ps_set (i := 9) sc__law_fields.nd rfl (Or.inl rfl) (pe_op oc_mod (pe_call G__law_mix (hr.mono (by decide)) rfl T.m__law_mix T.k__law_mix T.b__law_mix .nil pass0 (pa_cons (cv 3) (pa_cons (cv 7) pa_nil))) pe_int))
      (pss_one (ps_for PassesOwn.never rfl (pi_range1 rfl T.z_range (pa_cons pe_int pa_nil)) (pg_name (i := 10) sc__law_fields.nd rfl (Or.inl rfl))
        (pss_cons (ps_set (i := 11) sc__law_fields.nd rfl (Or.inl rfl) (pe_ifExp (ptc_cmpR oc_eq (cv 2) pe_str (nomark _)) (cv 10) (pe_op oc_sub pe_int (cv 10))))
        (pss_one (ps_if (PW.pt (pw_or (ptc_cmpR oc_eq (pe_op oc_mod (cv 9) pe_int) pe_int (nomark _)) (pw_or1 (ptc_cmpR oc_lt (cv 11) (pe_op oc_sub pe_int (cv 9)) (nomark _)))))
          (pss_one (ps_expr (pec_app (pe_bm PySem.F.plainAttrs_list PySem.F.slot_list_append PySem.F.type_list_append mt_append (PE.mono (pe_ix xc_list (cv 6) (cv 10) (fun _ _ => rfl))) (pa_cons (PE.mono (pe_tup (pa_cons (cv 8) (pa_cons (pe_ix xc_list (pe_ix xc_list (cv 5) (cv 7) (fun _ _ => rfl)) (cv 10) (fun _ _ => rfl)) pa_nil)))) pa_nil)))))
          pss_nil)))))))
    (pss_cons (ps_set (i := 12) sc__law_fields.nd rfl (Or.inl rfl) (pe_op oc_add pe_int (pe_maxD rfl rfl T.z_max (pa_cons (pe_lc rfl (blk0 (x := "_law_part") rfl (by decide +kernel) (by decide +kernel) rfl rfl) (pi_list (cv 5)) (fun _ _ _ _ _ => pts_nil) (fun _ _ _ _ _ => (pe_ix xc_list (cv 0) pe_int (fun _ _ => rfl)))) pa_nil) pe_int)))
    (pss_one (ps_ret (pe_op op_cat (pe_lc rfl (blkC (x := "_law_row") ["_law_shape"] [("_law_shape", 2, s.heap.objs.size + 3)] rfl rfl (by decide +kernel) (by decide +kernel) rfl (by decide +kernel) rfl rfl (by intro p hp; simp only [List.mem_cons, List.not_mem_nil, or_false] at hp; rcases hp with rfl <;> exact ⟨rfl, rfl, rfl, rfl⟩)) (pi_list (cv 6)) (fun _ _ _ _ _ => pts_nil) (fun _ _ _ _ _ => (pe_tup (pa_cons (cv 1) (pa_cons (pe_callTy (r := rTupOf K) call_tuple_of rfl T.z_tuple bt_tuple (pa_cons (cv 0) pa_nil)) pa_nil))))) (pe_lst (pa_cons (cv 12) (pa_cons (pe_op oc_add pe_int (pe_callB (call_sumX rfl) rfl T.z_sum bt_sum (pa_cons (pe_lc rfl (blk0 (x := "_law_part") rfl (by decide +kernel) (by decide +kernel) rfl rfl) (pi_list (cv 5)) (fun _ _ _ _ _ => pts_nil) (fun _ _ _ _ _ => (pe_ix xc_list (cv 0) pe_int (fun _ _ => rfl)))) pa_nil))) pa_nil))))))))))), ?_⟩
  have sl : sizeLine = 16777216 := sizeLine_eq
  obtain ⟨ws, ew, wn, wd, _⟩ := id hw
  -- the words
  refine ⟨(by show (0 : Int) < 7; decide), ?_⟩
  have r0 := Int.emod_nonneg c (show (7 : Int) ≠ 0 by decide)
  have r1 := Int.emod_lt_of_pos c (show (0 : Int) < 7 by decide)
  refine ⟨_, rfl, by omega, by omega, fun D0 hD0 => ?_⟩
  obtain ⟨r, er⟩ : ∃ r : Nat, c % 7 = (r : Int) := ⟨_, (Int.toNat_of_nonneg r0).symm⟩
  rw [er] at r1 ⊢
  rw [Int.toNat_natCast]
  refine lc_gen r (by omega) (fun xs _ => xs = (kys ws (c / 7) 3 xs.length).map V.str) (fun xs _ _ h _ => h) hD0 rfl (fun k H _ hk => hk) (fun H _ => Nat.le_refl _) rfl ?_ ?_
  · rintro k H2 v H3 xs Z S2 hk ⟨rfl, rfl⟩ hxs hl z
    refine ⟨⟨by decide, by decide⟩, .inl ⟨by decide, by decide⟩, (by show (0 : Int) < 16; decide), _, S2 _ _ ew, onS_of (wat_at wn _) (z _ _ (Same.refl _) ?_)⟩
    rw [List.length_append, List.length_singleton, kys_snoc, List.map_append, ← hxs, hl]
    rfl
  rintro H0 xs S0 hxs hl eD0
  have hkn : (kys ws (c / 7) 3 xs.length).Nodup := kys_nodup wn wd (.inr (.inl rfl)) (by omega)
  have hkl : (kys ws (c / 7) 3 xs.length).length = xs.length := by rw [kys, List.length_map, List.length_range]
  refine ⟨D0, kys ws (c / 7) 3 xs.length, rfl, SqL.of (by rw [← hxs]; exact eD0), by omega, fun cl ss hcl hperm _ => ?_⟩
  have hnd : ss.Nodup := hperm.nodup_iff.mpr hkn
  have hsl : ss.length = r := by rw [hperm.length_eq, hkl, hl]
  have S1 := S0.trans (same_new hcl (.lst (ss.map V.str)))
  have ecl : (upd H0 cl (.lst (ss.map V.str))) cl = some (.lst (ss.map V.str)) := upd_same
  dsimp only [gName]
  generalize upd H0 cl (.lst (ss.map V.str)) = H1 at S1 ecl ⊢
  clear hxs hkn hkl hperm eD0
  have hs1 := hs.same S1
  obtain ⟨sx, esx, _⟩ := id hs1
  have ncs : cl ≠ st := fun z => by
    obtain ⟨o, eo⟩ := hN st hm
    have := S0 _ _ eo
    rw [← z, hcl] at this
    cases this
  -- the parts
  refine ⟨cl, rfl, ⟨_, SqL.of ecl⟩, fun D hD => ?_⟩
  have nDs : D ≠ st := Ne.symm (ne_of_none esx hD)
  have hN1 : ∀ a ∈ N, ∃ o, H1 a = some o := fun a ha => let ⟨o, e⟩ := hN a ha; ⟨o, S1 _ _ e⟩
  have base1 : Stk (upd H1 D (.lst [])) st (D :: N) n := (hs1.more hD).same (same_new hD _)
  refine ⟨fun k m σ' H2 => m = r - k ∧ k ≤ r ∧ (∃ o, σ' = [o, some (.ref st)]) ∧ Fk [st] H1 H2 ∧ Stk H2 st (D :: N) n ∧ (∀ a ∈ D :: N, ∃ o, H2 a = some o) ∧ ∃ (ts : List Addr) (js : List Int), H2 D = some (.lst (ts.map V.ref)) ∧ ts.length = k ∧ All2 (TrJ H2) ts js ∧ (∀ t ∈ ts, t ∉ D :: N) ∧ ∀ j ∈ js, 1 ≤ j ∧ j ≤ 20,
    ⟨r, by simp, Nat.zero_le _, ⟨none, rfl⟩, Fk.same (same_new hD _), base1, fun a ha => by
      rcases List.mem_cons.mp ha with rfl | ha
      · exact ⟨_, upd_same⟩
      · obtain ⟨o, e⟩ := hN1 a ha
        exact ⟨o, same_new hD _ _ _ e⟩, [], [], upd_same, rfl, .nil, fun t ht => by simp at ht, fun j hj => by simp at hj⟩, ?_⟩
  rintro k m σ' H2 ⟨rfl, hk, ⟨o, rfl⟩, F2, st2, ex2, ts, js, eD2, lts, tr2, nts, bjs⟩
  by_cases hlt : k < r
  · refine .inr ⟨⟨ss.map V.str, _, SqL.of (F2.1 _ _ ecl (by simpa using ncs)), List.getElem?_eq_getElem (by rw [List.length_map]; omega)⟩, ?_⟩
    rintro v H3 ⟨rfl, hv⟩
    refine ⟨st, D :: N, n, rfl, st2, List.mem_cons_of_mem _ hm, ex2, fun t H4 F4 st4 nt tr => ?_⟩
    have e4 := F4.1 _ _ eD2 (by simpa using nDs)
    have out : ∀ {t : Addr}, t ∉ D :: N → t ∉ [st] := fun h z => h (List.mem_cons_of_mem _ (by rw [List.mem_singleton.mp z]; exact hm))
    have outD : ∀ {t : Addr}, t ∉ D :: N → t ∉ [D] := fun h z => h (by rw [List.mem_singleton.mp z]; exact List.mem_cons_self)
    obtain ⟨j, hj, bj1, bj2⟩ := tr.j
    have uD := Fk.upd (N := [D]) (ys := ts.map V.ref ++ [.ref t]) (List.mem_singleton.mpr rfl) e4
    refine ⟨_, e4, by rw [List.length_map]; omega, r - (k + 1), by omega, rfl, hlt, ⟨_, rfl⟩, ?_, st4.put List.mem_cons_self e4 (Ne.symm nDs), fun a ha => ?_, ts ++ [t], js ++ [j], ?_, ?_, ?_, ?_, ?_⟩
    · have F14 := F2.trans F4
      refine ⟨fun a o e na => ?_, fun a xs e => uD.2 _ _ (F14.2 _ _ e)⟩
      rw [upd_ne (ne_of_none e hD)]
      exact F14.1 a o e na
    · by_cases ea : a = D
      · rw [ea]; exact ⟨_, upd_same⟩
      · rw [upd_ne ea]
        by_cases eb : a = st
        · rw [eb]
          obtain ⟨zs, ez, _⟩ := st4
          exact ⟨_, ez⟩
        · obtain ⟨o, eo⟩ := ex2 a ha
          exact ⟨o, F4.1 _ _ eo (by simpa using eb)⟩
    · rw [upd_same, List.map_append]
      rfl
    · rw [List.length_append, lts]; rfl
    · refine .snoc (hj.fk (outD nt) uD) ?_
      have go : ∀ {l : List Addr} {m : List Int}, (∀ t ∈ l, t ∉ D :: N) → All2 (TrJ H3) l m → All2 (TrJ (upd H4 D (.lst (ts.map V.ref ++ [.ref t])))) l m := fun {l m} hl h => by
        induction h with
        | nil => exact .nil
        | cons h1 _ ih => exact .cons ((h1.fk (out (hl _ (by simp))) F4).fk (outD (hl _ (by simp))) uD) (ih fun t ht => hl t (by simp [ht]))
      exact go nts tr2
    · intro x hx
      rcases List.mem_append.mp hx with hx | hx
      · exact nts x hx
      · rw [List.mem_singleton.mp hx]; exact nt
    · intro x hx
      rcases List.mem_append.mp hx with hx | hx
      · exact bjs x hx
      · rw [List.mem_singleton.mp hx]; exact ⟨bj1, bj2⟩
  have ek : k = r := by omega
  subst ek
  refine .inl ⟨⟨ss.map V.str, SqL.of (F2.1 _ _ ecl (by simpa using ncs)), by rw [List.length_map]; omega⟩, ?_⟩
  have ecl2 := F2.1 _ _ ecl (by simpa using ncs)
  have lj := tr2.length
  have z0 : (0 : Nat) ≤ sizeLine := by decide
  dsimp only [gName]
  -- the rows
  refine ⟨z0, fun a0 h0 => ⟨z0, fun a1 h1 => ⟨z0, fun a2 h2 => ⟨(by show 3 ≤ sizeLine; decide), fun rl hrl => ?_⟩⟩⟩⟩
  have n01 : a0 ≠ a1 := ne_of_none (upd_same (H := H2) (a := a0) (o := .lst [])) h1
  have n02 : a0 ≠ a2 := ne_of_none (same_new h1 (.lst []) _ _ (upd_same (H := H2) (a := a0) (o := .lst []))) h2
  have n12 : a1 ≠ a2 := ne_of_none (upd_same (H := upd H2 a0 (.lst [])) (a := a1) (o := .lst [])) h2
  have q1 := same_new h0 (.lst [])
  have q2 := same_new h1 (.lst [])
  have q3 := same_new h2 (.lst [])
  have q4 := same_new hrl (.lst [.ref a0, .ref a1, .ref a2])
  have f1 := q1.free h1
  have f2 := (q1.trans q2).free h2
  have S5 : Same H2 _ := ((q1.trans q2).trans q3).trans q4
  have ea0 : (upd (upd (upd (upd H2 a0 (.lst [])) a1 (.lst [])) a2 (.lst [])) rl (.lst [.ref a0, .ref a1, .ref a2])) a0 = some (.lst []) := ((q2.trans q3).trans q4) _ _ upd_same
  have ea1 : (upd (upd (upd (upd H2 a0 (.lst [])) a1 (.lst [])) a2 (.lst [])) rl (.lst [.ref a0, .ref a1, .ref a2])) a1 = some (.lst []) := (q3.trans q4) _ _ upd_same
  have ea2 : (upd (upd (upd (upd H2 a0 (.lst [])) a1 (.lst [])) a2 (.lst [])) rl (.lst [.ref a0, .ref a1, .ref a2])) a2 = some (.lst []) := q4 _ _ upd_same
  have erl : (upd (upd (upd (upd H2 a0 (.lst [])) a1 (.lst [])) a2 (.lst [])) rl (.lst [.ref a0, .ref a1, .ref a2])) rl = some (.lst [.ref a0, .ref a1, .ref a2]) := upd_same
  have nrl : rl ∉ [a0, a1, a2] := by
    simp only [List.mem_cons, List.not_mem_nil, or_false, not_or]
    exact ⟨Ne.symm (ne_of_none ((q2.trans q3) _ _ (upd_same (H := H2) (a := a0) (o := .lst []))) hrl), Ne.symm (ne_of_none (q3 _ _ (upd_same (H := upd H2 a0 (.lst [])) (a := a1) (o := .lst []))) hrl), Ne.symm (ne_of_none (upd_same (H := upd (upd H2 a0 (.lst [])) a1 (.lst [])) (a := a2) (o := .lst [])) hrl)⟩
  have old : ∀ {a : Addr} {o : HO}, H2 a = some o → a ∉ [a0, a1, a2] := fun {a o} e => by
    simp only [List.mem_cons, List.not_mem_nil, or_false, not_or]
    exact ⟨ne_of_none e h0, ne_of_none e f1, ne_of_none e f2⟩
  dsimp only [gName]
  generalize upd (upd (upd (upd H2 a0 (.lst [])) a1 (.lst [])) a2 (.lst [])) rl (.lst [.ref a0, .ref a1, .ref a2]) = H5 at S5 ea0 ea1 ea2 erl ⊢
  have tr5 : All2 (TrJ H5) ts js := tr2.trj (M := []) (fun t _ => by simp) (Fk.same S5)
  have tsR : ∀ t ∈ ts, t ∉ [a0, a1, a2] := fun t ht => by
    obtain ⟨i', hi'⟩ := List.mem_iff_getElem?.mp ht
    obtain ⟨j, _, hj⟩ := tr2.get hi'
    obtain ⟨o, eo⟩ := hj.a.ex
    exact old eo
  have eD5 := S5 _ _ eD2
  have ecl5 := S5 _ _ ecl2
  have row0 : ∀ (idx : Nat) (a : Addr), [a0, a1, a2][idx]? = some a → Rowf H5 a [] 0 := fun idx a h => by
    have mk : ∀ {a : Addr}, H5 a = some (.lst []) → Rowf H5 a [] 0 := fun e => ⟨[], [], e, .nil, List.Sublist.refl _, fun p hp => by simp at hp, by simp [szL]⟩
    match idx, h with
    | 0, h => cases h; exact mk ea0
    | 1, h => cases h; exact mk ea1
    | 2, h => cases h; exact mk ea2
  have R3 : ∀ {idx : Nat} {a : Addr}, [a0, a1, a2][idx]? = some a → idx < 3 := fun {idx a} h => (List.getElem?_eq_some_iff.mp h).1
  have Rne : ∀ {i' j' : Nat} {a b : Addr}, [a0, a1, a2][i']? = some a → [a0, a1, a2][j']? = some b → i' ≠ j' → a ≠ b := fun {i' j' a b} h1 h2 hne => by
    have := R3 h1
    have := R3 h2
    match i', j', h1, h2 with
    | 0, 1, h1, h2 => cases h1; cases h2; exact n01
    | 0, 2, h1, h2 => cases h1; cases h2; exact n02
    | 1, 0, h1, h2 => cases h1; cases h2; exact Ne.symm n01
    | 1, 2, h1, h2 => cases h1; cases h2; exact n12
    | 2, 0, h1, h2 => cases h1; cases h2; exact Ne.symm n02
    | 2, 1, h1, h2 => cases h1; cases h2; exact Ne.symm n12
    | 0, 0, _, _ => exact absurd rfl hne
    | 1, 1, _, _ => exact absurd rfl hne
    | 2, 2, _, _ => exact absurd rfl hne
  refine ⟨cl, rfl, ⟨_, SqL.of ecl5⟩, for_enum (xs := ss.map V.str) (fun i σ H6 => ∃ (o7 o8 o9 o10 o11 : Option V), σ = [some (.ref wl), some (.ref st), some (.str sh), some (.int c), some (.ref cl), some (.ref D), some (.ref rl), o7, o8, o9, o10, o11, none] ∧ Fk [a0, a1, a2] H5 H6 ∧ ∀ (idx : Nat) (a : Addr), [a0, a1, a2][idx]? = some a → Rowf H6 a (ss.take i) (js.take i).sum)
    ⟨none, none, none, none, none, rfl, Fk.same (Same.refl _), fun idx a h => by rw [List.take_zero, List.take_zero]; exact row0 idx a h⟩ (fun i σ H6 _ ⟨_, _, _, _, _, _, F, _⟩ => SqL.of (F.1 _ _ ecl5 (old ecl2))) ?_ ?_⟩
  · rintro i v σ H6 tt hv ⟨o7, o8, o9, o10, o11, rfl, F6, hrow⟩ htt
    obtain ⟨x, hx, rfl⟩ : ∃ x, ss[i]? = some x ∧ v = .str x := by
      rw [List.getElem?_map] at hv
      cases e : ss[i]? with
      | none => rw [e] at hv; cases hv
      | some x => rw [e] at hv; cases hv; exact ⟨x, rfl, rfl⟩
    have hi := (List.getElem?_eq_some_iff.mp hx).1
    have sT := same_new htt (.tup [.int (i : Int), .str x])
    refine ⟨tt, _, rfl, SqT.of upd_same, rfl, _, _, rfl, _, _, rfl, rfl, ?_⟩
    have F7 := F6.trans (Fk.same sT)
    have hrow7 : ∀ (idx : Nat) (a : Addr), [a0, a1, a2][idx]? = some a → Rowf (upd H6 tt (.tup [.int (i : Int), .str x])) a (ss.take i) (js.take i).sum := fun idx a h => (hrow idx a h).same sT
    generalize upd H6 tt (.tup [.int (i : Int), .str x]) = H7 at F7 hrow7 ⊢
    obtain ⟨t, ht⟩ : ∃ t, ts[i]? = some t := ⟨_, List.getElem?_eq_getElem (by omega)⟩
    obtain ⟨j, hj, trj⟩ := tr5.get ht
    have ntR := tsR t (List.mem_of_getElem? ht)
    refine ⟨c, (i : Int), rfl, by omega, by omega, fun lv0 _ _ => ⟨(by show (0 : Int) < 4; decide), ?_⟩⟩
    dsimp only [gName]
    generalize lv0 % 4 = lv
    refine ⟨3, rfl, by decide, by decide, for_range (fun jj σ H8 => ∃ (o10 o11 : Option V), σ = [some (.ref wl), some (.ref st), some (.str sh), some (.int c), some (.ref cl), some (.ref D), some (.ref rl), some (.int (i : Int)), some (.str x), some (.int lv), o10, o11, none] ∧ Fk [a0, a1, a2] H5 H8 ∧ ∀ (idx : Nat) (a : Addr), [a0, a1, a2][idx]? = some a → Rowf H8 a (if idx < jj then ss.take (i + 1) else ss.take i) (if idx < jj then (js.take (i + 1)).sum else (js.take i).sum))
      ⟨_, _, rfl, F7, fun idx a h => by rw [if_neg (Nat.not_lt_zero _), if_neg (Nat.not_lt_zero _)]; exact hrow7 idx a h⟩ ?_ ?_⟩
    · rintro jj σ H8 hjj ⟨o10, o11, rfl, F8, hrow8⟩
      have hjj3 : jj < 3 := hjj
      obtain ⟨a, ha⟩ : ∃ a, [a0, a1, a2][jj]? = some a := ⟨_, List.getElem?_eq_getElem hjj3⟩
      have harl : atI [V.ref a0, .ref a1, .ref a2] (0 + (jj : Int)) = some (.ref a) := by
        rw [Int.zero_add]
        refine atI_nat ?_
        have := congrArg (Option.map V.ref) ha
        rw [← List.getElem?_map] at this
        exact this
      have erl8 := F8.1 _ _ erl nrl
      have eD8 := F8.1 _ _ eD5 (old eD2)
      obtain ⟨tl, ti, et, _, _, hat⟩ := (trj.fk ntR F8).at
      obtain ⟨pv, pk, hpv, ipv, okp, szp'⟩ := hat jj hjj3
      have hra := hrow8 jj a ha
      rw [if_neg (Nat.lt_irrefl _), if_neg (Nat.lt_irrefl _)] at hra
      obtain ⟨ys, ll, ey, iy, sub, _, _⟩ := id hra
      have lys : ys.length ≤ 6 := by
        have h7 := iy.length
        rw [List.length_map] at h7
        have h8 := sub.length_le
        rw [List.length_map, List.length_take] at h8
        omega
      have nxt0 : Fk [a0, a1, a2] H5 H8 ∧ ∀ (idx : Nat) (a : Addr), [a0, a1, a2][idx]? = some a → Rowf H8 a (if idx < jj + 1 then ss.take (i + 1) else ss.take i) (if idx < jj + 1 then (js.take (i + 1)).sum else (js.take i).sum) := by
        refine ⟨F8, fun idx a' h => ?_⟩
        have h9 := hrow8 idx a' h
        by_cases e : idx = jj
        · rw [e] at h9 ⊢
          rw [if_neg (Nat.lt_irrefl _), if_neg (Nat.lt_irrefl _)] at h9
          rw [if_pos (Nat.lt_succ_self _), if_pos (Nat.lt_succ_self _)]
          exact h9.more (by rw [ss_take hx]; exact List.sublist_append_left _ _) (take_le bjs i)
        · by_cases e2 : idx < jj
          · rw [if_pos e2, if_pos e2] at h9
            rw [if_pos (by omega), if_pos (by omega)]
            exact h9
          · rw [if_neg e2, if_neg e2] at h9
            rw [if_neg (by omega), if_neg (by omega)]
            exact h9
      have nxt1 : ∀ t2, H8 t2 = none → Fk [a0, a1, a2] H5 (upd (upd H8 t2 (.tup [.str x, pv])) a (.lst (ys ++ [.ref t2]))) ∧ ∀ (idx : Nat) (a' : Addr), [a0, a1, a2][idx]? = some a' → Rowf (upd (upd H8 t2 (.tup [.str x, pv])) a (.lst (ys ++ [.ref t2]))) a' (if idx < jj + 1 then ss.take (i + 1) else ss.take i) (if idx < jj + 1 then (js.take (i + 1)).sum else (js.take i).sum) := fun t2 h2' => by
        have s9 := same_new h2' (.tup [.str x, pv])
        have i9 := im_newK (ds := [sD x, pk.d]) h2' (.cons (.flat rfl) (.cons ipv .nil))
        have ey9 := s9 _ _ ey
        refine ⟨(F8.trans (Fk.same s9)).trans (Fk.upd (List.mem_of_getElem? ha) ey9), fun idx a' h => ?_⟩
        by_cases e : idx = jj
        · subst e
          rw [ha] at h
          cases h
          rw [if_pos (Nat.lt_succ_self _), if_pos (Nat.lt_succ_self _), ss_take hx, sum_take hj]
          exact (hra.same s9).add (x := x) (k := pk) ey9 i9 okp szp'
        · have h9 := ((hrow8 idx a' h).same s9).other (zs := ys ++ [.ref t2]) ey9 (Rne h ha e)
          by_cases e2 : idx < jj
          · rw [if_pos e2, if_pos e2] at h9
            rw [if_pos (by omega), if_pos (by omega)]
            exact h9
          · rw [if_neg e2, if_neg e2] at h9
            rw [if_neg (by omega), if_neg (by omega)]
            exact h9
      have hati : atI (ts.map V.ref) (i : Int) = some (.ref t) := atI_nat (by rw [List.getElem?_map, ht]; rfl)
      have hpv' : atI tl (0 + (jj : Int)) = some pv := by rw [Int.zero_add]; exact hpv
      dsimp only [tC, cEq, onB]
      refine ite2 (fun _ => ?_) (fun _ => ?_)
      · refine ⟨(by show (0 : Int) < 3; decide), ite2 (fun _ => iteT ?_) (fun _ => ite2 (fun _ => ?_) (fun _ => ?_))⟩
        · refine ⟨_, erl8, onS_of harl ⟨⟨_, ey⟩, _, eD8, onS_of hati ⟨_, et, onS_of hpv' ⟨(by show 2 ≤ sizeLine; decide), fun t2 h2' => ⟨ys, same_new h2' _ _ _ ey, by omega, _, _, rfl, nxt1 t2 h2'⟩⟩⟩⟩⟩
        · refine ⟨_, erl8, onS_of harl ⟨⟨_, ey⟩, _, eD8, onS_of hati ⟨_, et, onS_of hpv' ⟨(by show 2 ≤ sizeLine; decide), fun t2 h2' => ⟨ys, same_new h2' _ _ _ ey, by omega, _, _, rfl, nxt1 t2 h2'⟩⟩⟩⟩⟩
        · exact ⟨_, _, rfl, nxt0⟩
      · refine ⟨(by show (0 : Int) < 3; decide), ite2 (fun _ => iteT ?_) (fun _ => ite2 (fun _ => ?_) (fun _ => ?_))⟩
        · refine ⟨_, erl8, onS_of harl ⟨⟨_, ey⟩, _, eD8, onS_of hati ⟨_, et, onS_of hpv' ⟨(by show 2 ≤ sizeLine; decide), fun t2 h2' => ⟨ys, same_new h2' _ _ _ ey, by omega, _, _, rfl, nxt1 t2 h2'⟩⟩⟩⟩⟩
        · refine ⟨_, erl8, onS_of harl ⟨⟨_, ey⟩, _, eD8, onS_of hati ⟨_, et, onS_of hpv' ⟨(by show 2 ≤ sizeLine; decide), fun t2 h2' => ⟨ys, same_new h2' _ _ _ ey, by omega, _, _, rfl, nxt1 t2 h2'⟩⟩⟩⟩⟩
        · exact ⟨_, _, rfl, nxt0⟩
    · rintro σ H8 ⟨o10', o11', rfl, F8, hrow8⟩
      refine ⟨_, _, _, _, _, rfl, F8, fun idx a h => ?_⟩
      have h9 := hrow8 idx a h
      rw [if_pos (show idx < (3 : Int).toNat from R3 h), if_pos (show idx < (3 : Int).toNat from R3 h)] at h9
      exact h9
  rintro σ H6 ⟨o7, o8, o9, o10, o11, rfl, F6, hrow⟩
  rw [List.length_map, List.take_length] at hrow
  have ljs : js.take ss.length = js := List.take_of_length_le (by omega)
  rw [ljs] at hrow
  have eD6 := F6.1 _ _ eD5 (old eD2)
  have erl6 := F6.1 _ _ erl nrl
  have tr6 := tr5.trj tsR F6
  have hsum := sum_bound js bjs
  dsimp only [tNext]
  -- the nest
  refine ⟨D, rfl, ⟨_, SqL.of eD6⟩, fun D3 hD3 => ?_⟩
  refine lc_gen (ts.map V.ref).length (by rw [List.length_map]; omega) (fun xs _ => ∃ is : List Int, xs = is.map V.int) (fun xs _ _ h _ => h) hD3 rfl (fun k H S hk => go_lst eD6 S hk) (fun H S => st_lst eD6 S) ⟨[], rfl⟩ ?_ ?_
  · rintro k' H7 v H8 xs Z S7 hk' ⟨rfl, hv⟩ ⟨is, rfl⟩ hl' z
    have hv2 := hv _ (SqL.of (S7 _ _ eD6))
    rw [List.getElem?_map] at hv2
    cases e : ts[k']? with
    | none => rw [e] at hv2; cases hv2
    | some t =>
      rw [e] at hv2
      cases hv2
      obtain ⟨j, _, trj⟩ := tr6.get e
      obtain ⟨tl, ti, et, h3, _, _⟩ := (trj.fk (N := []) (by simp) (Fk.same S7)).at
      exact ⟨_, et, onS_of h3 (z _ _ (Same.refl _) ⟨is ++ [ti], by rw [List.map_append]; rfl⟩)⟩
  rintro H7 xs7 S7 ⟨is, rfl⟩ _ eD3
  refine ⟨D3, is, 0, rfl, rfl, SqL.of eD3, fun nst => ?_⟩
  dsimp only [gName]
  -- the answer
  have hrow7 : ∀ (idx : Nat) (a : Addr), [a0, a1, a2][idx]? = some a → Rowf H7 a ss js.sum := fun idx a h => (hrow idx a h).same S7
  have erl7 := S7 _ _ erl6
  refine ⟨rl, rfl, ⟨_, SqL.of erl7⟩, fun D4 hD4 => ?_⟩
  refine lc_gen [V.ref a0, .ref a1, .ref a2].length (by show 3 < sizeLine; decide) (fun xs H => ∃ ks : List Kd, Ims H xs (ks.map Kd.d) ∧ ∀ k ∈ ks, k.ok ∧ (k.sz : Int) ≤ 1 + js.sum) (fun xs H H' ⟨ks, h1, h2⟩ k => ⟨ks, h1.mono k, h2⟩) hD4 rfl (fun k H S hk => go_lst erl7 S hk) (fun H S => st_lst erl7 S) ⟨[], .nil, fun k hk => by simp at hk⟩ ?_ ?_
  · rintro k' H8 v H9 xs Z S8 hk' ⟨rfl, hv⟩ ⟨ks, h1', h2'⟩ hl' z
    have hv2 := hv _ (SqL.of (S8 _ _ erl7))
    obtain ⟨a, ha, rfl⟩ : ∃ a, [a0, a1, a2][k']? = some a ∧ v = .ref a := by
      match k', hv2 with
      | 0, h => cases h; exact ⟨_, rfl, rfl⟩
      | 1, h => cases h; exact ⟨_, rfl, rfl⟩
      | 2, h => cases h; exact ⟨_, rfl, rfl⟩
    obtain ⟨ys, ll, ey, iy, sub, okl, szl⟩ := (hrow7 k' a ha).same S8
    have ndl : (ll.map Prod.fst).Nodup := sub.nodup hnd
    have lll : ll.length ≤ 10 := by
      have h7 := sub.length_le
      rw [List.length_map] at h7
      omega
    refine ⟨a, ys, rfl, .inl ⟨SqL.of ey, fun tp htp => ⟨(by show 2 ≤ sizeLine; decide), fun t2 h2 => ?_⟩⟩⟩
    have i1 : Im (upd H9 tp (.tup ys)) (.ref tp) (.tup (ll.map fD)) := im_newK htp iy
    have i2 : Im (upd (upd H9 tp (.tup ys)) t2 (.tup [.str sh, .ref tp])) (.ref t2) (.tup [sD sh, .tup (ll.map fD)]) := im_newK h2 (.cons (.flat rfl) (.cons i1 .nil))
    have s9 := (same_new htp (.tup ys)).trans (same_new h2 (.tup [.str sh, .ref tp]))
    have dl : (ofL ll).ds = ll.map fD := by rw [ds_toL, toL_ofL]
    have okL : (ofL ll).ok := (ok_toL _).mpr (by rw [toL_ofL]; exact okl)
    have szL' : (ofL ll).sz = szL ll := by rw [sz_toL, toL_ofL]
    rcases hsh with rfl | rfl
    · refine z _ _ s9 ⟨ks ++ [.rcd (ofL ll)], ?_, fun y hy => ?_⟩
      · rw [List.map_append]
        refine (h1'.mono (Same.tk s9)).app (.cons ?_ .nil)
        rw [Kd.d, dl]
        exact i2
      · rcases List.mem_append.mp hy with hy | hy
        · exact h2' y hy
        · rw [List.mem_singleton.mp hy, Kd.ok, Kd.sz, szL']
          exact ⟨⟨okL, by rw [toL_ofL]; exact ndl, by rw [toL_ofL]; exact lll⟩, by omega⟩
    · refine z _ _ s9 ⟨ks ++ [.ch (ofL ll)], ?_, fun y hy => ?_⟩
      · rw [List.map_append]
        refine (h1'.mono (Same.tk s9)).app (.cons ?_ .nil)
        rw [Kd.d, dl]
        exact i2
      · rcases List.mem_append.mp hy with hy | hy
        · exact h2' y hy
        · rw [List.mem_singleton.mp hy, Kd.ok, Kd.sz, szL']
          exact ⟨⟨okL, by rw [toL_ofL]; exact ndl, by rw [toL_ofL]; exact lll⟩, by omega⟩
  rintro H8 xs8 S8 ⟨ks, ik, hks⟩ hl8 eD4
  have S68 := S7.trans S8
  have eD8 := S68 _ _ eD6
  refine ⟨D, rfl, ⟨_, SqL.of eD8⟩, fun D5 hD5 => ?_⟩
  refine lc_gen (ts.map V.ref).length (by rw [List.length_map]; omega) (fun xs _ => xs = (js.take xs.length).map V.int) (fun xs _ _ h _ => h) hD5 rfl (fun k H S hk => go_lst eD8 S hk) (fun H S => st_lst eD8 S) rfl ?_ ?_
  · rintro k' H9 v H10 xs Z S9 hk' ⟨rfl, hv⟩ hxs hl' z
    have hv2 := hv _ (SqL.of (S9 _ _ eD8))
    rw [List.getElem?_map] at hv2
    cases e : ts[k']? with
    | none => rw [e] at hv2; cases hv2
    | some t =>
      rw [e] at hv2
      cases hv2
      obtain ⟨j, hj, trj⟩ := tr6.get e
      obtain ⟨tl, ti, et, _, h4, _⟩ := (trj.fk (N := []) (by simp) (Fk.same (S68.trans S9))).at
      refine ⟨_, et, onS_of h4 (z _ _ (Same.refl _) ?_)⟩
      rw [List.length_append, List.length_singleton, hl', List.take_add_one, hj, List.map_append]
      rw [hl'] at hxs
      rw [hxs]
      rfl
  rintro H9 xs9 S9 hxs9 hl9 eD5
  rw [hl9, List.length_map, List.take_of_length_le (by omega)] at hxs9
  subst hxs9
  have hjs6 : js.length ≤ 6 := by omega
  refine ⟨D5, js, rfl, SqL.of eD5, by omega, fun n hn => by have := bjs n hn; omega, ?_⟩
  refine ⟨(by show 2 ≤ sizeLine; decide), fun p hp => ?_⟩
  have s10 := same_new hp (.lst [.int (1 + nst), .int (1 + js.sum)])
  have lk8 := ik.length
  rw [List.length_map] at lk8
  refine ⟨D4, p, xs8, _, rfl, rfl, s10 _ _ (S9 _ _ eD4), upd_same, (by show xs8.length + 2 ≤ sizeLine; rw [hl8]; show 3 + 2 ≤ sizeLine; decide), fun f hf => ?_⟩
  have s11 := same_new hf (.lst (xs8 ++ [.int (1 + nst), .int (1 + js.sum)]))
  have S6f : Same H6 _ := ((S68.trans S9).trans s10).trans s11
  have F16 : Fk [st] H1 H6 := ⟨fun a o e na => F6.1 a o (S5 _ _ (F2.1 a o e na)) (old (F2.1 a o e na)), fun a xs e => F6.2 _ _ (Same.tk S5 _ _ (F2.2 _ _ e))⟩
  have Ff : Fk [st] H _ := ((Fk.same S1).trans F16).trans (Fk.same S6f)
  have stk6 : Stk H6 st N n := by
    have g1 : Stk H5 st (a0 :: a1 :: a2 :: (D :: N)) n := (((st2.more f2).more f1).more h0).same S5
    refine (g1.fk F6 (fun a ha => ?_) ?_).less (fun a ha => ?_)
    · simp only [List.mem_cons, List.not_mem_nil, or_false] at ha ⊢
      rcases ha with h | h | h
      · exact .inl h
      · exact .inr (.inl h)
      · exact .inr (.inr (.inl h))
    · obtain ⟨zs, ez, _⟩ := st2
      exact old ez
    · simp [ha]
  refine q f _ Ff (stk6.same S6f) (fun hfN => ?_) ⟨xs8, ks, 1 + nst, 1 + js.sum, upd_same, ik.mono (Same.tk ((S9.trans s10).trans s11)), by rw [← lk8, hl8]; rfl, hks, by omega, by omega⟩
  obtain ⟨o, eo⟩ := ex2 f (List.mem_cons_of_mem _ hfN)
  have e6 : ∃ o, H6 f = some o := by
    exact ⟨o, F6.1 _ _ (S5 _ _ eo) (old eo)⟩
  obtain ⟨o', e6⟩ := e6
  have := ((S68.trans S9).trans s10) _ _ e6
  rw [hf] at this
  cases this
end
end K53.Internal
namespace K53.Internal
open PySem L2.Internal BO.Internal KK.Internal
seal L2.Internal.PE L2.Internal.PA L2.Internal.PS L2.Internal.PSs L2.Internal.PT L2.Internal.PI
theorem TrA.weak {H : Hp} {t : Addr} {B C : Int} (h : TrA H t B) (hb : B ≤ C) : TrA H t C := by
  obtain ⟨a, b, c, d, h1, h2, h3, h4, h5, h6⟩ := h
  exact ⟨a, b, c, d, h1, h2, h3, h4, h5, by omega⟩
theorem ex_fk {H H' : Hp} {st : Addr} {N M : List Addr} {n : Nat} (hN : ∀ a ∈ N, ∃ o, H a = some o) (F : Fk [st] H H') (s : Stk H' st M n) : ∀ a ∈ N, ∃ o, H' a = some o := fun a ha => by
  by_cases e : a = st
  · rw [e]
    obtain ⟨xs, ex, _⟩ := s
    exact ⟨_, ex⟩
  · obtain ⟨o, eo⟩ := hN a ha
    exact ⟨o, F.1 _ _ eo (by simpa using e)⟩
theorem out_fresh {H H' : Hp} {N : List Addr} {t : Addr} (hN : ∀ a ∈ N, ∃ o, H a = some o) (S : Same H H') (h : H' t = none) : t ∉ N := fun hn => by
  obtain ⟨o, eo⟩ := hN t hn
  rw [S _ _ eo] at h
  cases h
section
variable {P : Program} {w : World} {K : PySem.W.Frag} {mg : Str → Option Value} {base : Heap}
noncomputable def sp_knit : Sp := fun vs H Q _ => ∃ (wl st : Addr) (N : List Addr) (n : Nat) (c : Int), vs = [.ref wl, .ref st, .int c] ∧ Wd H wl ∧ wl ≠ st ∧ Stk H st N n ∧ st ∈ N ∧ (∀ a ∈ N, ∃ o, H a = some o) ∧ ∀ t H', Fk [st] H H' → Stk H' st N n → t ∉ N → TrA H' t 200 → Q (.ref t) H'
theorem ok__law_knit (T : Txt K mg) : FnOk P w K mg base CX0 4 T.a__law_knit T.fd__law_knit ["_law_words_here", "_law_stack", "_law_c"] sp_knit := by
  have G__law_leaf := ok__law_leaf (P := P) (w := w) (base := base) T
  have G__law_pop := ok__law_pop (P := P) (w := w) (base := base) T
  have G__law_fields := ok__law_fields (P := P) (w := w) (base := base) T
  refine T.F__law_knit.ok sc__law_knit (fun vs H Q E h => ?_) (fun cdv A outer s H vs Q E hr h => ?_)
  · obtain ⟨wl, st, N, n, c, rfl, _⟩ := h
    rfl
  obtain ⟨wl, st, N, n, c, rfl, hw, nws, hs, hm, hN, q⟩ := h
  refine ⟨_, (pss_cons (ps_set (i := 3) sc__law_knit.nd rfl (Or.inl rfl) (pe_op oc_mod (cv 2) pe_int))
    (pss_cons (ps_if (ptc_cmpR oc_lt (cv 3) pe_int (nomark _))
      (pss_one (ps_ret (pe_call G__law_leaf (hr.mono (by decide)) rfl T.m__law_leaf T.k__law_leaf T.b__law_leaf .nil pass0 (pa_cons (pe_op oc_fdiv (cv 2) pe_int) pa_nil))))
      pss_nil)
    (pss_cons (ps_if (ptc_cmpR oc_lt (cv 3) pe_int (nomark _))
      (pss_cons (ps_set (i := 4) sc__law_knit.nd rfl (Or.inr rfl) (pe_call G__law_pop (hr.mono (by decide)) rfl T.m__law_pop T.k__law_pop T.b__law_pop .nil pass0 (pa_cons (cv 1) pa_nil)))
      (pss_cons (ps_set (i := 5) sc__law_knit.nd rfl (Or.inr rfl) (pe_call G__law_pop (hr.mono (by decide)) rfl T.m__law_pop T.k__law_pop T.b__law_pop .nil pass0 (pa_cons (cv 1) pa_nil)))
      (pss_cons (ps_setLC (j := 6) rfl (blkC (x := "_law_k") ["_law_other", "_law_one"] [("_law_other", 5, s.heap.objs.size + 2), ("_law_one", 4, s.heap.objs.size + 1)] rfl rfl (by decide +kernel) (by decide +kernel) rfl (by decide +kernel) rfl rfl (by intro p hp; simp only [List.mem_cons, List.not_mem_nil, or_false] at hp; rcases hp with rfl | rfl <;> exact ⟨rfl, rfl, rfl, rfl⟩)) (pi_range1 rfl T.z_range (pa_cons pe_int pa_nil)) (fun _ _ _ _ _ => pts_nil) (fun _ _ _ _ _ => (pe_tup (pa_cons pe_str (pa_cons (pe_ix xc_list (cv 2) (pe_op oc_sub pe_int (cv 0)) (fun _ _ => rfl)) (pa_cons (pe_ix xc_list (cv 1) (cv 0) (fun _ _ => rfl)) pa_nil))))) sc__law_knit.nd rfl (Or.inl rfl))
      (pss_one (ps_ret (pe_op op_cat (cv 6) (pe_lst (pa_cons (pe_op oc_add pe_int (pe_callB (call_max2 rfl) rfl T.z_max bt_max (pa_cons (pe_ix xc_list (cv 4) pe_int (fun _ _ => rfl)) (pa_cons (pe_ix xc_list (cv 5) pe_int (fun _ _ => rfl)) pa_nil)))) (pa_cons (pe_op oc_add (pe_op oc_add pe_int (pe_ix xc_list (cv 4) pe_int (fun _ _ => rfl))) (pe_ix xc_list (cv 5) pe_int (fun _ _ => rfl))) pa_nil)))))))))
      pss_nil)
    (pss_cons (ps_if (ptc_cmpR oc_eq (cv 3) pe_int (nomark _))
      (pss_cons (ps_set (i := 7) sc__law_knit.nd rfl (Or.inr rfl) (pe_call G__law_pop (hr.mono (by decide)) rfl T.m__law_pop T.k__law_pop T.b__law_pop .nil pass0 (pa_cons (cv 1) pa_nil)))
      (pss_one (ps_ret (pe_op op_cat (pe_lc rfl (blkC (x := "_law_k") ["_law_part"] [("_law_part", 7, s.heap.objs.size + 3)] rfl rfl (by decide +kernel) (by decide +kernel) rfl (by decide +kernel) rfl rfl (by intro p hp; simp only [List.mem_cons, List.not_mem_nil, or_false] at hp; rcases hp with rfl <;> exact ⟨rfl, rfl, rfl, rfl⟩)) (pi_range1 rfl T.z_range (pa_cons pe_int pa_nil)) (fun _ _ _ _ _ => pts_nil) (fun _ _ _ _ _ => (pe_tup (pa_cons pe_str (pa_cons (pe_ix xc_list (cv 1) (cv 0) (fun _ _ => rfl)) pa_nil))))) (pe_lst (pa_cons (pe_op oc_add pe_int (pe_ix xc_list (cv 7) pe_int (fun _ _ => rfl))) (pa_cons (pe_op oc_add pe_int (pe_ix xc_list (cv 7) pe_int (fun _ _ => rfl))) pa_nil)))))))
      pss_nil)
    (pss_one (ps_ret (pe_call G__law_fields (hr.mono (by decide)) rfl T.m__law_fields T.k__law_fields T.b__law_fields .nil pass0 (pa_cons (cv 0) (pa_cons (cv 1) (pa_cons (pe_ix xc_list (pe_lst (pa_cons pe_str (pa_cons pe_str pa_nil))) (pe_op oc_sub (cv 3) pe_int) (fun _ _ => rfl)) (pa_cons (pe_op oc_fdiv (cv 2) pe_int) pa_nil))))))))))), ?_⟩
  have sl : sizeLine = 16777216 := sizeLine_eq
  have c0 := Int.emod_nonneg c (show (8 : Int) ≠ 0 by decide)
  have c1 := Int.emod_lt_of_pos c (show (0 : Int) < 8 by decide)
  have out : ∀ {t : Addr}, t ∉ N → t ∉ [st] := fun h z => h (by rw [List.mem_singleton.mp z]; exact hm)
  refine ⟨(by show (0 : Int) < 8; decide), ?_⟩
  dsimp only [gName, tC, cI0, onB]
  refine ite2 (fun _ => ?_) (fun hn3 => ?_)
  · exact ⟨⟨by decide, by decide⟩, c / 8, rfl, fun t H' S ht tr => q t H' (Fk.same S) (hs.same S) (out_fresh hN (Same.refl _) ht) (tr.weak (by decide))⟩
  refine ite2 (fun _ => ?_) (fun hn5 => ?_)
  · refine ⟨st, N, n, rfl, hs, hm, hN, fun t1 H1 F1 st1 nt1 tr1 => ⟨st, N, n, rfl, st1, hm, ex_fk hN F1 st1, fun t2 H2 F2 st2 nt2 tr2 => ?_⟩⟩
    have hN2 := ex_fk (ex_fk hN F1 st1) F2 st2
    obtain ⟨j1, tj1, a1, b1⟩ := (tr1.fk (out nt1) F2).j
    obtain ⟨j2, tj2, a2, b2⟩ := tr2.j
    dsimp only [gName]
    refine ⟨3, rfl, by decide, by decide, fun D hD => ?_⟩
    refine lc_gen 3 (by omega) (fun xs H => ∃ ks : List Kd, Ims H xs (ks.map Kd.d) ∧ ∀ k ∈ ks, k.ok ∧ (k.sz : Int) ≤ 1 + j1 + j2) (fun xs H H' ⟨ks, h1, h2⟩ k => ⟨ks, h1.mono k, h2⟩) hD rfl (fun k H _ hk => hk) (fun H _ => Nat.le_refl _) ⟨[], .nil, fun k hk => by simp at hk⟩ ?_ ?_
    · rintro k H3 v H4 xs Z S3 hk ⟨rfl, rfl⟩ ⟨ks, h1, h2⟩ hl z
      obtain ⟨l1, i1, e1, _, _, at1⟩ := (tj1.fk (N := []) (by simp) (Fk.same S3)).at
      obtain ⟨l2, i2, e2, _, _, at2⟩ := (tj2.fk (N := []) (by simp) (Fk.same S3)).at
      obtain ⟨v1, k1, g1, m1, o1, z1⟩ := at1 (2 - k) (by omega)
      obtain ⟨v2, k2, g2, m2, o2, z2⟩ := at2 k hk
      refine ⟨_, e1, onS_of (v := v1) (by rw [show (2 - (0 + (k : Int))) = ((2 - k : Nat) : Int) by omega]; exact g1) ⟨_, e2, onS_of (v := v2) (by rw [Int.zero_add]; exact g2) ⟨(by show 3 ≤ sizeLine; decide), fun t ht => z _ _ (same_new ht _) ⟨ks ++ [.fn k1 k2], ?_, fun y hy => ?_⟩⟩⟩⟩
      · rw [List.map_append]
        refine (h1.mono (Same.tk (same_new ht _))).app (.cons ?_ .nil)
        rw [Kd.d]
        exact im_newK ht (.cons (.flat rfl) (.cons m1 (.cons m2 .nil)))
      · rcases List.mem_append.mp hy with hy | hy
        · exact h2 y hy
        · rw [List.mem_singleton.mp hy, Kd.ok, Kd.sz]
          exact ⟨⟨o1, o2⟩, by omega⟩
    rintro H3 xs S3 ⟨ks, ik, hk⟩ hl eD
    have lk := ik.length
    rw [List.length_map] at lk
    obtain ⟨l1, i1, e1, r1, s1, _⟩ := (tj1.fk (N := []) (by simp) (Fk.same S3)).at
    obtain ⟨l2, i2, e2, r2, s2, _⟩ := (tj2.fk (N := []) (by simp) (Fk.same S3)).at
    refine ⟨_, e1, onS_of r1 ⟨_, e2, onS_of r2 ⟨i1, i2, rfl, _, e1, onS_of s1 ⟨_, e2, onS_of s2 ⟨(by show 2 ≤ sizeLine; decide), fun p hp => ?_⟩⟩⟩⟩⟩
    have s4 := same_new hp (.lst [.int (1 + (if i2 > i1 then i2 else i1)), .int (1 + j1 + j2)])
    refine ⟨D, p, xs, _, rfl, rfl, s4 _ _ eD, upd_same, (by show xs.length + 2 ≤ sizeLine; omega), fun f hf => ?_⟩
    have s5 := same_new hf (.lst (xs ++ [.int (1 + (if i2 > i1 then i2 else i1)), .int (1 + j1 + j2)]))
    have Sf := (S3.trans s4).trans s5
    exact q f _ ((F1.trans F2).trans (Fk.same Sf)) (st2.same Sf) (out_fresh hN2 (S3.trans s4) hf) ⟨xs, ks, _, _, upd_same, ik.mono (Same.tk (s4.trans s5)), by omega, hk, by omega, by omega⟩
  dsimp only [gName, tC, cEq, onB]
  refine ite2 (fun _ => ?_) (fun hn6 => ?_)
  · refine ⟨st, N, n, rfl, hs, hm, hN, fun t1 H1 F1 st1 nt1 tr1 => ?_⟩
    have hN1 := ex_fk hN F1 st1
    obtain ⟨j1, tj1, a1, b1⟩ := tr1.j
    dsimp only [gName]
    refine ⟨3, rfl, by decide, by decide, fun D hD => ?_⟩
    refine lc_gen 3 (by omega) (fun xs H => ∃ ks : List Kd, Ims H xs (ks.map Kd.d) ∧ ∀ k ∈ ks, k.ok ∧ (k.sz : Int) ≤ 1 + j1) (fun xs H H' ⟨ks, h1, h2⟩ k => ⟨ks, h1.mono k, h2⟩) hD rfl (fun k H _ hk => hk) (fun H _ => Nat.le_refl _) ⟨[], .nil, fun k hk => by simp at hk⟩ ?_ ?_
    · rintro k H3 v H4 xs Z S3 hk ⟨rfl, rfl⟩ ⟨ks, h1, h2⟩ hl z
      obtain ⟨l1, i1, e1, _, _, at1⟩ := (tj1.fk (N := []) (by simp) (Fk.same S3)).at
      obtain ⟨v1, k1, g1, m1, o1, z1⟩ := at1 k hk
      refine ⟨_, e1, onS_of (v := v1) (by rw [Int.zero_add]; exact g1) ⟨(by show 2 ≤ sizeLine; decide), fun t ht => z _ _ (same_new ht _) ⟨ks ++ [.row k1], ?_, fun y hy => ?_⟩⟩⟩
      · rw [List.map_append]
        refine (h1.mono (Same.tk (same_new ht _))).app (.cons ?_ .nil)
        rw [Kd.d]
        exact im_newK ht (.cons (.flat rfl) (.cons m1 .nil))
      · rcases List.mem_append.mp hy with hy | hy
        · exact h2 y hy
        · rw [List.mem_singleton.mp hy, Kd.ok, Kd.sz]
          exact ⟨o1, by omega⟩
    rintro H3 xs S3 ⟨ks, ik, hk⟩ hl eD
    have lk := ik.length
    rw [List.length_map] at lk
    obtain ⟨l1, i1, e1, r1, s1, _⟩ := (tj1.fk (N := []) (by simp) (Fk.same S3)).at
    refine ⟨_, e1, onS_of r1 ⟨_, e1, onS_of s1 ⟨(by show 2 ≤ sizeLine; decide), fun p hp => ?_⟩⟩⟩
    have s4 := same_new hp (.lst [.int (1 + i1), .int (1 + j1)])
    refine ⟨D, p, xs, _, rfl, rfl, s4 _ _ eD, upd_same, (by show xs.length + 2 ≤ sizeLine; omega), fun f hf => ?_⟩
    have s5 := same_new hf (.lst (xs ++ [.int (1 + i1), .int (1 + j1)]))
    have Sf := (S3.trans s4).trans s5
    exact q f _ (F1.trans (Fk.same Sf)) (st1.same Sf) (out_fresh hN1 (S3.trans s4) hf) ⟨xs, ks, _, _, upd_same, ik.mono (Same.tk (s4.trans s5)), by omega, hk, by omega, by omega⟩
  · refine ⟨(by show 2 ≤ sizeLine; decide), fun p hp => ⟨_, upd_same, ?_⟩⟩
    have s1 := same_new hp (.lst [.str "rec", .str "choice"])
    have h67 : c % 8 = 6 ∨ c % 8 = 7 := by
      have h1 : ¬ c % 8 < 3 := fun z => hn3 (decide_eq_true z)
      have h2 : ¬ c % 8 < 5 := fun z => hn5 (decide_eq_true z)
      have h3 : ¬ c % 8 = 5 := fun z => hn6 (by rw [decide_eq_true z]; rfl)
      omega
    obtain ⟨sh, hat, hsh⟩ : ∃ sh : Str, atI [V.str "rec", V.str "choice"] (c % 8 - 6) = some (.str sh) ∧ (sh = "rec" ∨ sh = "choice") := by
      rcases h67 with h | h
      · rw [h]; exact ⟨"rec", atI_nat (j := 0) rfl, .inl rfl⟩
      · rw [h]; exact ⟨"choice", atI_nat (j := 1) rfl, .inr rfl⟩
    refine onS_of hat ⟨⟨by decide, by decide⟩, wl, st, N, n, sh, _, rfl, hw.same s1, nws, hs.same s1, hm, fun a ha => let ⟨o, eo⟩ := hN a ha; ⟨o, s1 _ _ eo⟩, hsh, fun t H' F2 st2 nt tr => q t H' ((Fk.same s1).trans F2) st2 nt tr⟩
noncomputable def sp_triples : Sp := fun vs H Q _ => ∃ (wl cl : Addr) (ns : List Int) (ne : Int), vs = [.ref wl, .ref cl, .int ne, .int 20] ∧ Wd H wl ∧ H cl = some (.lst (ns.map V.int)) ∧ ns.length ≤ 63 ∧ ∀ st H', Same H H' → H st = none → Stk H' st [st] 63 → Q (.ref st) H'
theorem ok__law_triples (T : Txt K mg) : FnOk P w K mg base CX0 5 T.a__law_triples T.fd__law_triples ["_law_words_here", "_law_cells", "_law_nest", "_law_size"] sp_triples := by
  have G__law_leaf := ok__law_leaf (P := P) (w := w) (base := base) T
  have G__law_knit := ok__law_knit (P := P) (w := w) (base := base) T
  refine T.F__law_triples.ok sc__law_triples (fun vs H Q E h => ?_) (fun cdv A outer s H vs Q E hr h => ?_)
  · obtain ⟨wl, cl, ns, ne, rfl, _⟩ := h
    rfl
  obtain ⟨wl, cl, ns, ne, rfl, hw, ecl, ln, q⟩ := h
  refine ⟨_, (pss_cons (ps_set (i := 4) sc__law_triples.nd rfl (Or.inl rfl) (pe_lst pa_nil))
    (pss_cons (ps_for PassesOwn.never rfl (pi_list (cv 1)) (pg_name (i := 5) sc__law_triples.nd rfl (Or.inl rfl))
      (pss_cons (ps_set (i := 6) sc__law_triples.nd rfl (Or.inl rfl) (pe_op oc_mod (cv 5) (pe_op oc_pow pe_int pe_int)))
      (pss_cons (ps_set (i := 7) sc__law_triples.nd rfl (Or.inl rfl) (pe_call G__law_knit (hr.mono (by decide)) rfl T.m__law_knit T.k__law_knit T.b__law_knit .nil pass0 (pa_cons (cv 0) (pa_cons (cv 4) (pa_cons (cv 6) pa_nil)))))
      (pss_cons (ps_if (PW.pt (pw_or (ptc_cmpR oc_gt (pe_ix xc_list (cv 7) pe_int (fun _ _ => rfl)) (cv 2) (nomark _)) (pw_or1 (ptc_cmpR oc_gt (pe_ix xc_list (cv 7) pe_int (fun _ _ => rfl)) (cv 3) (nomark _)))))
        (pss_one (ps_set (i := 7) sc__law_triples.nd rfl (Or.inl rfl) (pe_call G__law_leaf (hr.mono (by decide)) rfl T.m__law_leaf T.k__law_leaf T.b__law_leaf .nil pass0 (pa_cons (pe_op oc_fdiv (cv 6) pe_int) pa_nil))))
        pss_nil)
      (pss_one (ps_expr (pec_app (pe_bm PySem.F.plainAttrs_list PySem.F.slot_list_append PySem.F.type_list_append mt_append (PE.mono (cv 4)) (pa_cons (PE.mono (cv 7)) pa_nil)))))))))
    (pss_one (ps_ret (cv 4))))), ?_⟩
  have sl : sizeLine = 16777216 := sizeLine_eq
  obtain ⟨ws, ew, _⟩ := id hw
  refine ⟨(by show 0 ≤ sizeLine; decide), fun st hst => ?_⟩
  have s0 := same_new hst (.lst [])
  have nwst : wl ≠ st := ne_of_none ew hst
  have e0 : (upd H st (.lst [])) st = some (.lst []) := upd_same
  dsimp only [gName]
  generalize upd H st (.lst []) = H0 at s0 e0 ⊢
  refine ⟨cl, rfl, ⟨_, SqL.of (s0 _ _ ecl)⟩, for_list (xs := ns.map V.int) (fun i σ H2 => ∃ (o5 o6 o7 : Option V), σ = [some (.ref wl), some (.ref cl), some (.int ne), some (.int 20), some (.ref st), o5, o6, o7] ∧ Same H H2 ∧ Stk H2 st [st] i)
    ⟨none, none, none, rfl, s0, [], e0, Nat.le_refl _, fun v hv => by simp at hv⟩ (fun i σ H2 _ ⟨_, _, _, _, S, _⟩ => SqL.of (S _ _ ecl)) ?_ ?_⟩
  · rintro i v σ H2 hv ⟨o5, o6, o7, rfl, S2, st2⟩
    have hi := (List.getElem?_eq_some_iff.mp hv).1
    rw [List.length_map] at hi
    obtain ⟨x, rfl⟩ : ∃ x : Int, v = .int x := by
      rw [List.getElem?_map] at hv
      cases e : ns[i]? with
      | none => rw [e] at hv; cases hv
      | some m => rw [e] at hv; exact ⟨m, (Option.some.inj hv).symm⟩
    refine ⟨⟨by decide, by decide, by decide⟩, (by show (0 : Int) < 10 ^ (40 : Int).toNat; decide +kernel), ?_⟩
    dsimp only [gName]
    generalize x % 10 ^ (40 : Int).toNat = c
    have hN : ∀ a ∈ [st], ∃ o, H2 a = some o := fun a ha => by
      rw [List.mem_singleton.mp ha]
      obtain ⟨xs, e, _⟩ := st2
      exact ⟨_, e⟩
    refine ⟨wl, st, [st], i, c, rfl, hw.same S2, nwst, st2, List.mem_singleton.mpr rfl, hN, fun t H4 F4 st4 nt tr => ?_⟩
    have S4 : Same H H4 := fun a o e => F4.1 a o (S2 _ _ e) (by simpa using ne_of_none e hst)
    obtain ⟨xs3, ks, ti, tj, et, ik, lk, hk, t1, t2, r3, r4, _⟩ := tr.at
    dsimp only [gName]
    -- what is put upon the stack
    have fin : ∀ (t : Addr) (H5 : Hp) (o5 o6 o7 : Option V), Same H4 H5 → t ∉ [st] → TrA H5 t 20 → ∃ xs, H5 st = some (.lst xs) ∧ xs.length < sizeLine ∧ Same H (upd H5 st (.lst (xs ++ [.ref t]))) ∧ Stk (upd H5 st (.lst (xs ++ [.ref t]))) st [st] (i + 1) := fun t H5 o5 o6 o7 S5 nt tr => by
      obtain ⟨xs, e, l, f⟩ := st4.same S5
      have k := Fk.upd (N := [st]) (ys := xs ++ [.ref t]) (List.mem_singleton.mpr rfl) e
      refine ⟨xs, e, by omega, same_updK (S4.trans S5) hst _, xs ++ [.ref t], upd_same, by rw [List.length_append, List.length_singleton]; omega, fun v hv => ?_⟩
      rcases List.mem_append.mp hv with hv | hv
      · obtain ⟨t', h1, h2, h3⟩ := f v hv
        exact ⟨t', h1, h2, h3.fk h2 k⟩
      · rw [List.mem_singleton.mp hv]
        exact ⟨t, rfl, nt, tr.fk nt k⟩
    have hst4 : ∀ {H5 : Hp}, Same H4 H5 → ∃ xs, H5 st = some (.lst xs) := fun S5 => by
      obtain ⟨xs, e, _⟩ := st4
      exact ⟨xs, S5 _ _ e⟩
    have nst : ∀ {t' : Addr}, H4 t' = none → t' ∉ [st] := fun {t'} ht z => by
      obtain ⟨xs, e⟩ := hst4 (Same.refl _)
      rw [← List.mem_singleton.mp z, ht] at e
      cases e
    refine ⟨_, et, onS_of r3 ?_⟩
    dsimp only [cI0, onB]
    refine ite2 (fun _ => iteT ?_) (fun _ => ?_)
    · refine ⟨⟨by decide, by decide⟩, c / 8, rfl, fun t H5 S5 ht tr => ?_⟩
      obtain ⟨xs, e, hl, S6, st6⟩ := fin t H5 none none none S5 (nst ht) (tr.weak (by decide))
      exact ⟨⟨_, e⟩, xs, e, hl, _, _, _, rfl, S6, st6⟩
    · refine ⟨_, et, onS_of r4 ?_⟩
      dsimp only [cI0, onB]
      refine ite2 (fun _ => ?_) (fun hj => ?_)
      · refine ⟨⟨by decide, by decide⟩, c / 8, rfl, fun t H5 S5 ht tr => ?_⟩
        obtain ⟨xs, e, hl, S6, st6⟩ := fin t H5 none none none S5 (nst ht) (tr.weak (by decide))
        exact ⟨⟨_, e⟩, xs, e, hl, _, _, _, rfl, S6, st6⟩
      · have hj2 : tj ≤ 20 := by
          have h1 : ¬ (20 : Int) < tj := fun z => hj (decide_eq_true z)
          omega
        obtain ⟨xs, e, hl, S6, st6⟩ := fin t H4 none none none (Same.refl _) nt ⟨xs3, ks, ti, tj, et, ik, lk, hk, t1, hj2⟩
        exact ⟨⟨_, e⟩, xs, e, hl, _, _, _, rfl, S6, st6⟩
  · rintro σ H2 ⟨o5, o6, o7, rfl, S2, st2⟩
    rw [List.length_map] at st2
    obtain ⟨xs, e, l, f⟩ := st2
    exact q st H2 S2 hst ⟨xs, e, by omega, f⟩
end
end K53.Internal
namespace K53.Internal
open PySem L2.Internal BO.Internal KK.Internal
seal L2.Internal.PE L2.Internal.PA L2.Internal.PS L2.Internal.PSs L2.Internal.PT L2.Internal.PI
section
variable {P : Program} {w : World} {K : PySem.W.Frag} {mg : Str → Option Value} {base : Heap}
noncomputable def sp_low (c : Cs) (n : Nat) : Sp := fun vs H Q _ => ∃ (A : Ad) (r : V) (D : Bd) (x : V) (k : Kd) (m : Nat), vs = [.ref A.b, x] ∧ Bq c H A r D ∧ Im H x k.d ∧ k.ok ∧ k.sz ≤ n ∧ Sm D m ∧ m + 3 * k.sz ≤ 90000 ∧ ∀ H', FB A H H' → Bq c H' A r (low k D) → Q (.int D.pts.length) H'
noncomputable def sp_upp (c : Cs) (n : Nat) : Sp := fun vs H Q _ => ∃ (A : Ad) (r : V) (D : Bd) (x : V) (k : Kd) (m : Nat), vs = [.ref A.b, x] ∧ Bq c H A r D ∧ Im H x k.d ∧ k.ok ∧ k.sz ≤ n ∧ Sm D m ∧ m + 3 * k.sz ≤ 90000 ∧ ∀ H', FB A H H' → Bq c H' A r (upp k D) → Q (.int D.pts.length) H'
noncomputable def sp_upps (c : Cs) (n : Nat) : Sp := fun vs H Q _ => ∃ (A : Ad) (r : V) (D : Bd) (t : Addr) (xs : List V) (l : List (Str × Kd)) (m : Nat), vs = [.ref A.b, .ref t] ∧ Bq c H A r D ∧ H t = some (.tup xs) ∧ Ims H xs (l.map fD) ∧ (∀ p ∈ l, p.2.ok) ∧ l.length ≤ 10 ∧ szL l ≤ n ∧ Sm D m ∧ m + 3 * szL l ≤ 90000 ∧ ∀ v H', FB A H H' → Bq c H' A r (uppL l D).1 → Im H' v (prD (uppL l D).2) → Q v H'
theorem ok_uppers (T : Txt K mg) (n : Nat) (G_upper : FnOk P w K mg base CX0 (2 * n + 4) T.a_upper T.fd_upper ["board", "kind"] (sp_upp (cs T) n)) : FnOk P w K mg base CX0 (2 * n + 5) T.a_uppers T.fd_uppers ["board", "members"] (sp_upps (cs T) n) := by
  refine T.F_uppers.ok sc_uppers (fun vs H Q E h => ?_) (fun cdv A0 outer s H vs Q E hr h => ?_)
  · obtain ⟨A, r, D, t, xs, l, m, rfl, _⟩ := h
    rfl
  obtain ⟨A, r, D, t, xs, l, m, rfl, B, et, il, ok, ln, sz, sm, bd, q⟩ := h
  refine ⟨_, (pss_one (ps_ret (pe_callTy call_tuple_of rfl T.z_tuple bt_tuple (pa_cons (pe_lc rfl (blkC (x := "member") ["board"] [("board", 0, s.heap.objs.size + 1)] rfl rfl (by decide +kernel) (by decide +kernel) rfl (by decide +kernel) rfl rfl (by intro p hp; simp only [List.mem_cons, List.not_mem_nil, or_false] at hp; rcases hp with rfl <;> exact ⟨rfl, rfl, rfl, rfl⟩)) (pi_tup (cv 1)) (fun _ _ _ _ _ => pts_nil) (fun _ _ _ _ _ => (pe_tup (pa_cons (pe_ix xc_tup (cv 0) pe_int (fun _ _ => rfl)) (pa_cons (pe_call G_upper (hr.mono (by omega)) rfl T.m_upper T.k_upper T.b_upper .nil pass0 (pa_cons (cv 1) (pa_cons (pe_ix xc_tup (cv 0) pe_int (fun _ _ => rfl)) pa_nil))) pa_nil))))) pa_nil)))), ?_⟩
  have sl : sizeLine = 16777216 := sizeLine_eq
  have lx := il.length
  rw [List.length_map] at lx
  refine ⟨t, rfl, ⟨_, SqT.of et⟩, fun d hd => ?_⟩
  have nd := B.out hd
  refine lcm_fld et il (by omega) (fun k zs H2 => Bq (cs T) H2 A r (uppL (l.take k) D).1 ∧ FB A H H2 ∧ Ims H2 zs ((uppL (l.take k) D).2.map prL)) (fun k zs H2 h => h.2.1.2.tk) (fun k zs H2 ys ys' h e => ⟨h.1.other e nd, h.2.1.new hd _, h.2.2.mono (fk_lst e).tk⟩) ⟨B.same (same_new hd _), FB.same (same_new hd _), .nil⟩ ?_ ?_
  · rintro k H2 p t' x zs Z ⟨B2, F2, I2⟩ ez hp et' hx z
    have sz2 := szL_at hp
    refine ⟨_, et', onS_of (atI_nat (j := 0) rfl) ⟨_, et', onS_of (atI_nat (j := 1) rfl) ⟨A, r, _, x, p.2, m + 3 * szL (l.take k), rfl, B2, hx, ok p (List.mem_of_getElem? hp), by omega, sm_uppL _ _ _ sm, by omega, fun H3 F3 B3 => ⟨(by show 2 ≤ sizeLine; decide), fun t2 h2 => ?_⟩⟩⟩⟩
    have S4 := same_new h2 (.tup [.str p.1, .int (uppL (l.take k) D).1.pts.length])
    have F4 := (F2.trans F3).then S4
    refine z _ _ (S4 _ _ (F3.1 _ _ ez nd)) ⟨?_, F4, ?_⟩
    · rw [take_snocK hp, uppL_snoc]
      exact B3.same S4
    · rw [take_snocK hp, uppL_snoc, List.map_append]
      exact ((I2.mono F3.2.tk).mono (Same.tk S4)).app (.cons (im_newK h2 (.cons (im_str _) (.cons (im_int _) .nil))) .nil)
  · rintro H2 zs ⟨B2, F2, I2⟩ lz ez
    rw [List.take_length] at B2 I2
    refine ⟨d, zs, rfl, .inl ⟨SqL.of ez, fun tp htp => ?_⟩⟩
    exact q _ _ (F2.then (same_new htp _)) (B2.same (same_new htp _)) (im_newK htp I2)
theorem ok_lower1 (T : Txt K mg) (n : Nat) (G_lower : FnOk P w K mg base CX0 (2 * n + 4) T.a_lower T.fd_lower ["board", "kind"] (sp_low (cs T) n)) (G_upper : FnOk P w K mg base CX0 (2 * n + 4) T.a_upper T.fd_upper ["board", "kind"] (sp_upp (cs T) n)) :
    FnOk P w K mg base CX0 (2 * (n + 1) + 4) T.a_lower T.fd_lower ["board", "kind"] (sp_low (cs T) (n + 1)) := by
  have G_Board_point := ok_Board_point (P := P) (w := w) (base := base) T
  have G_Board_make := ok_Board_make (P := P) (w := w) (base := base) T
  refine T.F_lower.ok sc_lower (fun vs H Q E h => ?_) (fun cdv A0 outer s H vs Q E hr h => ?_)
  · obtain ⟨A, r, D, x, k, m, rfl, _⟩ := h
    rfl
  obtain ⟨A, r, D, x, k, m, rfl, B, ix, ok, sz, sm, bd, q⟩ := h
  refine ⟨_, (pss_cons (ps_set (i := 2) sc_lower.nd rfl (Or.inl rfl) (pec_meth (pe_meth (PE.mono (cv 0)) T.cl_Board T.me_Board_point G_Board_point (hr.mono (by omega)) T.b_Board_point .nil pass0 (pa_cons pe_int pa_nil))))
    (pss_cons (ps_if (ptc_cmpR oc_eq (pe_ix xc_tup (cv 1) pe_int (fun _ _ => rfl)) pe_str (nomark _))
      (pss_cons (ps_set (i := 3) sc_lower.nd rfl (Or.inl rfl) (pe_call G_upper (hr.mono (by omega)) rfl T.m_upper T.k_upper T.b_upper .nil pass0 (pa_cons (cv 0) (pa_cons (pe_ix xc_tup (cv 1) pe_int (fun _ _ => rfl)) pa_nil))))
      (pss_one (ps_expr (pec_meth (pe_meth (PE.mono (cv 0)) T.cl_Board T.me_Board_make G_Board_make (hr.mono (by omega)) T.b_Board_make .nil pass0 (pa_cons pe_str (pa_cons (pe_tup (pa_cons (cv 3) (pa_cons (pe_call G_lower (hr.mono (by omega)) rfl T.m_lower T.k_lower T.b_lower .nil pass0 (pa_cons (cv 0) (pa_cons (pe_ix xc_tup (cv 1) pe_int (fun _ _ => rfl)) pa_nil))) pa_nil))) (pa_cons (cv 2) (pa_cons pe_int pa_nil)))))))))
      (pss_one (ps_if (ptc_cmpR oc_eq (pe_ix xc_tup (cv 1) pe_int (fun _ _ => rfl)) pe_str (nomark _))
        (pss_one (ps_expr (pec_meth (pe_meth (PE.mono (cv 0)) T.cl_Board T.me_Board_make G_Board_make (hr.mono (by omega)) T.b_Board_make .nil pass0 (pa_cons pe_str (pa_cons (pe_callTy call_tuple_of rfl T.z_tuple bt_tuple (pa_cons (pe_lc rfl (blkC (x := "field") ["board"] [("board", 0, s.heap.objs.size + 1)] rfl rfl (by decide +kernel) (by decide +kernel) rfl (by decide +kernel) rfl rfl (by intro p hp; simp only [List.mem_cons, List.not_mem_nil, or_false] at hp; rcases hp with rfl <;> exact ⟨rfl, rfl, rfl, rfl⟩)) (pi_tup (pe_ix xc_tup (cv 1) pe_int (fun _ _ => rfl))) (fun _ _ _ _ _ => pts_nil) (fun _ _ _ _ _ => (pe_tup (pa_cons (pe_ix xc_tup (cv 0) pe_int (fun _ _ => rfl)) (pa_cons (pe_call G_lower (hr.mono (by omega)) rfl T.m_lower T.k_lower T.b_lower .nil pass0 (pa_cons (cv 1) (pa_cons (pe_ix xc_tup (cv 0) pe_int (fun _ _ => rfl)) pa_nil))) pa_nil))))) pa_nil)) (pa_cons (cv 2) (pa_cons pe_int pa_nil))))))))
        (pss_one (ps_if (ptc_cmpR oc_eq (pe_ix xc_tup (cv 1) pe_int (fun _ _ => rfl)) pe_str (nomark _))
          (pss_one (ps_for PassesOwn.never rfl (pi_tup (pe_ix xc_tup (cv 1) pe_int (fun _ _ => rfl))) (pg_name (i := 4) sc_lower.nd rfl (Or.inl rfl))
            (pss_one (ps_expr (pec_meth (pe_meth (PE.mono (cv 0)) T.cl_Board T.me_Board_make G_Board_make (hr.mono (by omega)) T.b_Board_make .nil pass0 (pa_cons pe_str (pa_cons (pe_tup (pa_cons (pe_ix xc_tup (cv 4) pe_int (fun _ _ => rfl)) (pa_cons (pe_call G_lower (hr.mono (by omega)) rfl T.m_lower T.k_lower T.b_lower .nil pass0 (pa_cons (cv 0) (pa_cons (pe_ix xc_tup (cv 4) pe_int (fun _ _ => rfl)) pa_nil))) pa_nil))) (pa_cons (cv 2) (pa_cons pe_int pa_nil))))))))))
          (pss_one (ps_if (ptc_cmpR oc_eq (pe_ix xc_tup (cv 1) pe_int (fun _ _ => rfl)) pe_str (nomark _))
            (pss_one (ps_expr (pec_meth (pe_meth (PE.mono (cv 0)) T.cl_Board T.me_Board_make G_Board_make (hr.mono (by omega)) T.b_Board_make .nil pass0 (pa_cons pe_str (pa_cons (pe_tup (pa_cons (pe_call G_lower (hr.mono (by omega)) rfl T.m_lower T.k_lower T.b_lower .nil pass0 (pa_cons (cv 0) (pa_cons (pe_ix xc_tup (cv 1) pe_int (fun _ _ => rfl)) pa_nil))) pa_nil)) (pa_cons (cv 2) (pa_cons pe_int pa_nil))))))))
            (pss_one (ps_expr (pec_meth (pe_meth (PE.mono (cv 0)) T.cl_Board T.me_Board_make G_Board_make (hr.mono (by omega)) T.b_Board_make .nil pass0 (pa_cons (pe_ix xc_tup (cv 1) pe_int (fun _ _ => rfl)) (pa_cons (pe_tup pa_nil) (pa_cons (cv 2) (pa_cons pe_int pa_nil)))))))))))))))
    (pss_one (ps_ret (cv 2))))), ?_⟩
  have sl : sizeLine = 16777216 := sizeLine_eq
  have s1 := sm.1
  refine ⟨⟨_, _, B.b, fB_no_point _ _ _ _ _⟩, A.b, A.bx, A.p0, A.p1, A.p2, A.p3, r, .int 0, _, rfl, B.b, B.e0, by rw [List.length_map]; omega, ?_⟩
  have B1 : Bq (cs T) (upd H A.p0 (.lst (D.pts.map V.int ++ [.int 0]))) A r (ptB D) := B.pt 0
  have F1 := FB.upd (A := A) (ys := D.pts.map V.int ++ [.int 0]) (by simp [Ad.ls]) B.e0
  dsimp only [gName]
  rw [List.length_map]
  generalize upd H A.p0 (.lst (D.pts.map V.int ++ [.int 0])) = H1 at B1 F1 ⊢
  have i1 := ix.mono F1.2.tk
  have m1 := sm.pt
  clear ix B
  obtain ⟨t, rs, rfl, e, hs⟩ := kd_at i1
  have fin : ∀ (H2 : Hp) (D2 : Bd) (s2 : Str) (d2 : Dt) (f : V) (E' : XK), Bq (cs T) H2 A r D2 → FB A H1 H2 → Im H2 f d2 → depD d2 ≤ 2 → okD d2 → D2.mks.length ≤ 100000 → low k D = mkB D2 s2 d2 D.pts.length → sp_Board_make T.a_Board T.a_Make [.ref A.b, .str s2, f, .int D.pts.length, .int 0] H2 (fun _ H' => Q (.int D.pts.length) H') E' := by
    intro H2 D2 s2 d2 f E' B2 F2 hf hd ho hl hlow
    obtain ⟨mv, em, am⟩ := B2.e1
    have lm := am.length
    refine ⟨A.b, A.bx, A.p0, A.p1, A.p2, A.p3, r, _, _, _, _, mv, rfl, B2.b, em, by omega, fun x dx hx hdx => ?_⟩
    obtain ⟨B3, F3⟩ := B2.made (s := s2) (a := D.pts.length) hx hdx em hf hd ho
    rw [← hlow] at B3
    exact q _ ((F1.trans F2).trans F3) B3
  cases k with
  | any =>
    replace e : H1 t = some (.tup (.str "any" :: rs)) := e
    refine sq_no rfl e (by decide +kernel) (tsh_no rfl e (by decide +kernel) (tsh_no rfl e (by decide +kernel) (tsh_no rfl e (by decide +kernel) ?_)))
    refine ⟨⟨_, _, B1.b, fB_no_make _ _ _ _ _⟩, _, e, onS_of (atI_nat (j := 0) rfl) ⟨(by show 0 ≤ sizeLine; decide), fun t0 h0 => ?_⟩⟩
    have S4 := same_new h0 (.tup [])
    exact fin _ (ptB D) "any" (.tup []) _ E (B1.same S4) (FB.same S4) (im_newK h0 .nil) (by simp [depD, depDs]) (by simp [okD, okDs]) (by have := m1.2.1; omega) (by rw [low])
  | num =>
    replace e : H1 t = some (.tup (.str "num" :: rs)) := e
    refine sq_no rfl e (by decide +kernel) (tsh_no rfl e (by decide +kernel) (tsh_no rfl e (by decide +kernel) (tsh_no rfl e (by decide +kernel) ?_)))
    refine ⟨⟨_, _, B1.b, fB_no_make _ _ _ _ _⟩, _, e, onS_of (atI_nat (j := 0) rfl) ⟨(by show 0 ≤ sizeLine; decide), fun t0 h0 => ?_⟩⟩
    have S4 := same_new h0 (.tup [])
    exact fin _ (ptB D) "num" (.tup []) _ E (B1.same S4) (FB.same S4) (im_newK h0 .nil) (by simp [depD, depDs]) (by simp [okD, okDs]) (by have := m1.2.1; omega) (by rw [low])
  | fn a b =>
    replace e : H1 t = some (.tup (.str "fn" :: rs)) := e
    obtain ⟨y1, y2, rfl, j1, j2⟩ := ims2K (show Ims H1 rs [a.d, b.d] from hs)
    rw [Kd.ok] at ok
    rw [Kd.sz] at sz bd
    have pa := sz_pos a
    have pb := sz_pos b
    refine sq_yes rfl e rfl ?_
    refine ⟨_, e, onS_of (atI_nat (j := 1) rfl) ⟨A, r, ptB D, y1, a, m + 1, rfl, B1, j1, ok.1, by omega, m1, by omega, fun H2 F2 B2 => ?_⟩⟩
    dsimp only [gName]
    have e2 := F2.2.tk _ _ e
    have m2 := sm_upp a _ _ m1
    have m3 := sm_low b _ _ m2
    refine ⟨⟨_, _, B2.b, fB_no_make _ _ _ _ _⟩, _, e2, onS_of (atI_nat (j := 2) rfl) ⟨A, r, _, y2, b, _, rfl, B2, j2.mono F2.2.tk, ok.2, by omega, m2, by omega, fun H3 F3 B3 => ⟨(by show 2 ≤ sizeLine; decide), fun t2 h2 => ?_⟩⟩⟩
    have S4 := same_new h2 (.tup [.int (ptB D).pts.length, .int (upp a (ptB D)).pts.length])
    exact fin _ _ "fn" (.tup [iD (ptB D).pts.length, iD (upp a (ptB D)).pts.length]) _ E (B3.same S4) ((F2.trans F3).then S4) (im_newK h2 (.cons (im_int _) (.cons (im_int _) .nil))) (by simp [iD, depD, depDs]) (by simp [iD, okD, okDs]) (by have := m3.2.1; omega) (by rw [low])
  | rcd l =>
    replace e : H1 t = some (.tup (.str "rec" :: rs)) := e
    obtain ⟨tl, xs, rfl, el, il⟩ := fl_of (show Ims H1 rs [.tup l.ds] from hs)
    rw [Kd.ok, ok_toL] at ok
    rw [Kd.sz, sz_toL] at sz bd
    have lx := il.length
    rw [List.length_map] at lx
    refine sq_no rfl e (by decide +kernel) (tsh_yes rfl e rfl ?_)
    refine ⟨⟨_, _, B1.b, fB_no_make _ _ _ _ _⟩, _, e, onS_of (atI_nat (j := 1) rfl) ⟨tl, rfl, ⟨_, SqT.of el⟩, fun d hd => ?_⟩⟩
    have nd := B1.out hd
    refine lcm_fld el il (by have := ok.2.2; omega) (fun k zs H2 => Bq (cs T) H2 A r (lowL (l.toL.take k) (ptB D)).1 ∧ FB A H1 H2 ∧ Ims H2 zs ((lowL (l.toL.take k) (ptB D)).2.map prL)) (fun k zs H2 h => h.2.1.2.tk) (fun k zs H2 ys ys' h e => ⟨h.1.other e nd, h.2.1.new hd _, h.2.2.mono (fk_lst e).tk⟩) ⟨B1.same (same_new hd _), FB.same (same_new hd _), .nil⟩ ?_ ?_
    · rintro k H2 p t' x zs Z ⟨B2, F2, I2⟩ ez hp et' hx z
      have sz2 := szL_at hp
      refine ⟨_, et', onS_of (atI_nat (j := 0) rfl) ⟨_, et', onS_of (atI_nat (j := 1) rfl) ⟨A, r, _, x, p.2, m + 1 + 3 * szL (l.toL.take k), rfl, B2, hx, ok.1 p (List.mem_of_getElem? hp), by omega, sm_lowL _ _ _ m1, by omega, fun H3 F3 B3 => ⟨(by show 2 ≤ sizeLine; decide), fun t2 h2 => ?_⟩⟩⟩⟩
      have S4 := same_new h2 (.tup [.str p.1, .int (lowL (l.toL.take k) (ptB D)).1.pts.length])
      have F4 := (F2.trans F3).then S4
      refine z _ _ (S4 _ _ (F3.1 _ _ ez nd)) ⟨?_, F4, ?_⟩
      · rw [take_snocK hp, lowL_snoc]
        exact B3.same S4
      · rw [take_snocK hp, lowL_snoc, List.map_append]
        exact ((I2.mono F3.2.tk).mono (Same.tk S4)).app (.cons (im_newK h2 (.cons (im_str _) (.cons (im_int _) .nil))) .nil)
    · rintro H2 zs ⟨B2, F2, I2⟩ lz ez
      rw [List.take_length] at B2 I2
      refine ⟨d, zs, rfl, .inl ⟨SqL.of ez, fun tp htp => ?_⟩⟩
      have S3 := same_new htp (.tup zs)
      exact fin _ _ "rec" (prD (lowL l.toL (ptB D)).2) _ E (B2.same S3) (F2.then S3) (im_newK htp I2) (prD_dep _) (prD_ok (by rw [lowL_len]; exact ok.2.2)) (by have := (sm_lowL l.toL _ _ m1).2.1; omega) (by rw [low, lowF_L])
  | ch l =>
    replace e : H1 t = some (.tup (.str "choice" :: rs)) := e
    obtain ⟨tl, xs, rfl, el, il⟩ := fl_of (show Ims H1 rs [.tup l.ds] from hs)
    rw [Kd.ok, ok_toL] at ok
    rw [Kd.sz, sz_toL] at sz bd
    have lx := il.length
    rw [List.length_map] at lx
    refine sq_no rfl e (by decide +kernel) (tsh_no rfl e (by decide +kernel) (tsh_yes rfl e rfl ?_))
    refine ⟨_, e, onS_of (atI_nat (j := 1) rfl) ⟨tl, rfl, ⟨_, SqT.of el⟩, for_tup (xs := xs) (fun i σ H2 => ∃ o4 : Option V, σ = [some (.ref A.b), some (.ref t), some (.int D.pts.length), none, o4] ∧ Bq (cs T) H2 A r (armL (l.toL.take i) D.pts.length (ptB D)) ∧ FB A H1 H2)
      ⟨none, rfl, B1, FB.same (Same.refl _)⟩ (fun i σ H2 _ ⟨_, _, _, F⟩ => SqT.of (F.2.tk _ _ el)) ?_ ?_⟩⟩
    · rintro i v σ H2 hv ⟨o4, rfl, B2, F2⟩
      obtain ⟨p, t', x, hp, rfl, et', hx⟩ := fld_at (il.mono F2.2.tk) hv
      have sz2 := szL_at hp
      have m2 := sm_armL (l.toL.take i) D.pts.length _ _ m1
      have m3 := sm_low p.2 _ _ m2
      dsimp only [gName]
      refine ⟨⟨_, _, B2.b, fB_no_make _ _ _ _ _⟩, _, et', onS_of (atI_nat (j := 0) rfl) ⟨_, et', onS_of (atI_nat (j := 1) rfl) ⟨A, r, _, x, p.2, _, rfl, B2, hx, ok.1 p (List.mem_of_getElem? hp), by omega, m2, by omega, fun H3 F3 B3 => ⟨(by show 2 ≤ sizeLine; decide), fun t2 h2 => ?_⟩⟩⟩⟩
      have S4 := same_new h2 (.tup [.str p.1, .int (armL (l.toL.take i) D.pts.length (ptB D)).pts.length])
      have B4 := B3.same S4
      obtain ⟨mv, em, am⟩ := B4.e1
      have lm := am.length
      have := m3.2.1
      refine ⟨A.b, A.bx, A.p0, A.p1, A.p2, A.p3, r, _, _, _, _, mv, rfl, B4.b, em, by omega, fun y dy hy hdy => ?_⟩
      obtain ⟨B5, F5⟩ := B4.made (s := "tag") (a := D.pts.length) (d := .tup [sD p.1, iD (armL (l.toL.take i) D.pts.length (ptB D)).pts.length]) hy hdy em (im_newK h2 (.cons (im_str _) (.cons (im_int _) .nil))) (by simp [sD, iD, depD, depDs]) (by simp [sD, iD, okD, okDs])
      refine ⟨_, rfl, ?_, ((F2.trans F3).then S4).trans F5⟩
      rw [take_snocK hp, armL_snoc]
      exact B5
    · rintro σ H2 ⟨o4, rfl, B2, F2⟩
      rw [lx, List.take_length] at B2
      exact q _ (F1.trans F2) (by rw [low, lowA_L]; exact B2)
  | row a =>
    replace e : H1 t = some (.tup (.str "row" :: rs)) := e
    obtain ⟨y1, rfl, j1⟩ := ims1 (show Ims H1 rs [a.d] from hs)
    rw [Kd.ok] at ok
    rw [Kd.sz] at sz bd
    have pa := sz_pos a
    have m2 := sm_low a _ _ m1
    refine sq_no rfl e (by decide +kernel) (tsh_no rfl e (by decide +kernel) (tsh_no rfl e (by decide +kernel) (tsh_yes rfl e rfl ?_)))
    refine ⟨⟨_, _, B1.b, fB_no_make _ _ _ _ _⟩, _, e, onS_of (atI_nat (j := 1) rfl) ⟨A, r, ptB D, y1, a, m + 1, rfl, B1, j1, ok, by omega, m1, by omega, fun H3 F3 B3 => ⟨(by show 1 ≤ sizeLine; decide), fun t2 h2 => ?_⟩⟩⟩
    have S4 := same_new h2 (.tup [.int (ptB D).pts.length])
    exact fin _ _ "row" (.tup [iD (ptB D).pts.length]) _ E (B3.same S4) (F3.then S4) (im_newK h2 (.cons (im_int _) .nil)) (by simp [iD, depD, depDs]) (by simp [iD, okD, okDs]) (by have := m2.2.1; omega) (by rw [low])
end
end K53.Internal
namespace K53.Internal
open PySem L2.Internal BO.Internal KK.Internal
seal L2.Internal.PE L2.Internal.PA L2.Internal.PS L2.Internal.PSs L2.Internal.PT L2.Internal.PI
section
variable {P : Program} {w : World} {K : PySem.W.Frag} {mg : Str → Option Value} {base : Heap}
theorem ok_upper1 (T : Txt K mg) (n : Nat) (G_lower : FnOk P w K mg base CX0 (2 * n + 4) T.a_lower T.fd_lower ["board", "kind"] (sp_low (cs T) n)) (G_upper : FnOk P w K mg base CX0 (2 * n + 4) T.a_upper T.fd_upper ["board", "kind"] (sp_upp (cs T) n)) :
    FnOk P w K mg base CX0 (2 * (n + 1) + 4) T.a_upper T.fd_upper ["board", "kind"] (sp_upp (cs T) (n + 1)) := by
  have G_Board_point := ok_Board_point (P := P) (w := w) (base := base) T
  have G_Board_use := ok_Board_use (P := P) (w := w) (base := base) T
  have G_Use___init__ := ok_Use___init__ (P := P) (w := w) (base := base) T
  have G_CallUse___init__ := ok_CallUse___init__ (P := P) (w := w) (base := base) T
  have G_TakeUse___init__ := ok_TakeUse___init__ (P := P) (w := w) (base := base) T
  have G_CaseUse___init__ := ok_CaseUse___init__ (P := P) (w := w) (base := base) T
  have G_RowUse___init__ := ok_RowUse___init__ (P := P) (w := w) (base := base) T
  have G_uppers := ok_uppers (P := P) (w := w) (base := base) T n G_upper
  refine T.F_upper.ok sc_upper (fun vs H Q E h => ?_) (fun cdv A0 outer s H vs Q E hr h => ?_)
  · obtain ⟨A, r, D, x, k, m, rfl, _⟩ := h
    rfl
  obtain ⟨A, r, D, x, k, m, rfl, B, ix, ok, sz, sm, bd, q⟩ := h
  refine ⟨_, (pss_cons (ps_set (i := 2) sc_upper.nd rfl (Or.inl rfl) (pec_meth (pe_meth (PE.mono (cv 0)) T.cl_Board T.me_Board_point G_Board_point (hr.mono (by omega)) T.b_Board_point .nil pass0 (pa_cons pe_int pa_nil))))
    (pss_cons (ps_if (ptc_cmpR oc_eq (pe_ix xc_tup (cv 1) pe_int (fun _ _ => rfl)) pe_str (nomark _))
      (pss_one (ps_expr (pec_meth (pe_meth (PE.mono (cv 0)) T.cl_Board T.me_Board_use G_Board_use (hr.mono (by omega)) T.b_Board_use .nil pass0 (pa_cons (pe_make T.mk_NumUse G_Use___init__ (hr.mono (by omega)) rfl T.m_NumUse T.b_Use___init__ .nil pass0 (pa_cons (cv 2) (pa_cons pe_int (pa_cons pe_int pa_nil)))) pa_nil)))))
      (pss_one (ps_if (ptc_cmpR oc_eq (pe_ix xc_tup (cv 1) pe_int (fun _ _ => rfl)) pe_str (nomark _))
        (pss_cons (ps_set (i := 3) sc_upper.nd rfl (Or.inl rfl) (pe_call G_lower (hr.mono (by omega)) rfl T.m_lower T.k_lower T.b_lower .nil pass0 (pa_cons (cv 0) (pa_cons (pe_ix xc_tup (cv 1) pe_int (fun _ _ => rfl)) pa_nil))))
        (pss_one (ps_expr (pec_meth (pe_meth (PE.mono (cv 0)) T.cl_Board T.me_Board_use G_Board_use (hr.mono (by omega)) T.b_Board_use .nil pass0 (pa_cons (pe_make T.mk_CallUse G_CallUse___init__ (hr.mono (by omega)) rfl T.m_CallUse T.b_CallUse___init__ .nil pass0 (pa_cons (cv 2) (pa_cons pe_int (pa_cons pe_int (pa_cons (cv 3) (pa_cons (pe_call G_upper (hr.mono (by omega)) rfl T.m_upper T.k_upper T.b_upper .nil pass0 (pa_cons (cv 0) (pa_cons (pe_ix xc_tup (cv 1) pe_int (fun _ _ => rfl)) pa_nil))) pa_nil)))))) pa_nil))))))
        (pss_one (ps_if (ptc_cmpR oc_eq (pe_ix xc_tup (cv 1) pe_int (fun _ _ => rfl)) pe_str (nomark _))
          (pss_one (ps_expr (pec_meth (pe_meth (PE.mono (cv 0)) T.cl_Board T.me_Board_use G_Board_use (hr.mono (by omega)) T.b_Board_use .nil pass0 (pa_cons (pe_make T.mk_TakeUse G_TakeUse___init__ (hr.mono (by omega)) rfl T.m_TakeUse T.b_TakeUse___init__ .nil pass0 (pa_cons (cv 2) (pa_cons pe_int (pa_cons pe_int (pa_cons (pe_call G_uppers (hr.mono (by omega)) rfl T.m_uppers T.k_uppers T.b_uppers .nil pass0 (pa_cons (cv 0) (pa_cons (pe_ix xc_tup (cv 1) pe_int (fun _ _ => rfl)) pa_nil))) pa_nil))))) pa_nil)))))
          (pss_one (ps_if (ptc_cmpR oc_eq (pe_ix xc_tup (cv 1) pe_int (fun _ _ => rfl)) pe_str (nomark _))
            (pss_one (ps_expr (pec_meth (pe_meth (PE.mono (cv 0)) T.cl_Board T.me_Board_use G_Board_use (hr.mono (by omega)) T.b_Board_use .nil pass0 (pa_cons (pe_make T.mk_CaseUse G_CaseUse___init__ (hr.mono (by omega)) rfl T.m_CaseUse T.b_CaseUse___init__ .nil pass0 (pa_cons (cv 2) (pa_cons pe_int (pa_cons pe_int (pa_cons (pe_call G_uppers (hr.mono (by omega)) rfl T.m_uppers T.k_uppers T.b_uppers .nil pass0 (pa_cons (cv 0) (pa_cons (pe_ix xc_tup (cv 1) pe_int (fun _ _ => rfl)) pa_nil))) pa_nil))))) pa_nil)))))
            (pss_one (ps_if (ptc_cmpR oc_eq (pe_ix xc_tup (cv 1) pe_int (fun _ _ => rfl)) pe_str (nomark _))
              (pss_one (ps_expr (pec_meth (pe_meth (PE.mono (cv 0)) T.cl_Board T.me_Board_use G_Board_use (hr.mono (by omega)) T.b_Board_use .nil pass0 (pa_cons (pe_make T.mk_RowUse G_RowUse___init__ (hr.mono (by omega)) rfl T.m_RowUse T.b_RowUse___init__ .nil pass0 (pa_cons (cv 2) (pa_cons pe_int (pa_cons pe_int (pa_cons (pe_call G_upper (hr.mono (by omega)) rfl T.m_upper T.k_upper T.b_upper .nil pass0 (pa_cons (cv 0) (pa_cons (pe_ix xc_tup (cv 1) pe_int (fun _ _ => rfl)) pa_nil))) pa_nil))))) pa_nil)))))
              pss_nil)))))))))
    (pss_one (ps_ret (cv 2))))), ?_⟩
  have sl : sizeLine = 16777216 := sizeLine_eq
  have s1 := sm.1
  refine ⟨⟨_, _, B.b, fB_no_point _ _ _ _ _⟩, A.b, A.bx, A.p0, A.p1, A.p2, A.p3, r, .int 0, _, rfl, B.b, B.e0, by rw [List.length_map]; omega, ?_⟩
  have B1 : Bq (cs T) (upd H A.p0 (.lst (D.pts.map V.int ++ [.int 0]))) A r (ptB D) := B.pt 0
  have F1 := FB.upd (A := A) (ys := D.pts.map V.int ++ [.int 0]) (by simp [Ad.ls]) B.e0
  dsimp only [gName]
  rw [List.length_map]
  generalize upd H A.p0 (.lst (D.pts.map V.int ++ [.int 0])) = H1 at B1 F1 ⊢
  have i1 := ix.mono F1.2.tk
  have m1 := sm.pt
  clear ix B
  obtain ⟨t, rs, rfl, e, hs⟩ := kd_at i1
  have fin : ∀ (H2 : Hp) (D2 : Bd) (u : Us) (x : V) (E' : XK), Bq (cs T) H2 A r D2 → FB A H1 H2 → UsAt (cs T) H2 x u → D2.uss.length ≤ 100000 → upp k D = usB D2 u → sp_Board_use T.a_Board [.ref A.b, x] H2 (fun _ H' => Q (.int D.pts.length) H') E' := by
    intro H2 D2 u x E' B2 F2 hx hl hlow
    obtain ⟨uv, eu, lu, B3, F3⟩ := B2.used hx
    refine ⟨A.b, A.bx, A.p0, A.p1, A.p2, A.p3, r, _, uv, rfl, B2.b, eu, by omega, ?_⟩
    rw [← hlow] at B3
    exact q _ ((F1.trans F2).trans F3) B3
  cases k with
  | any =>
    replace e : H1 t = some (.tup (.str "any" :: rs)) := e
    refine sq_no rfl e (by decide +kernel) (tsh_no rfl e (by decide +kernel) (tsh_no rfl e (by decide +kernel) (tsh_no rfl e (by decide +kernel) (tsh_no rfl e (by decide +kernel) ?_))))
    exact q _ F1 (by rw [upp]; exact B1)
  | num =>
    replace e : H1 t = some (.tup (.str "num" :: rs)) := e
    refine sq_yes rfl e rfl ?_
    refine ⟨⟨_, _, B1.b, fB_no_use _ _ _ _ _⟩, fun x dx hx hdx nx => ⟨x, _, dx, _, _, _, rfl, upd_same, T.cl_NumUse, T.n_NumUse_at, T.n_NumUse_place, T.n_NumUse_slot, rfl, ?_⟩⟩
    rw [upd_upd]
    exact fin _ _ (.num D.pts.length 0 0) _ E (B1.same (same_make hx hdx)) (FB.same (same_make hx hdx)) ⟨x, dx, rfl, upd_same⟩ (by have := m1.2.2; omega) (by rw [upp])
  | fn a b =>
    replace e : H1 t = some (.tup (.str "fn" :: rs)) := e
    obtain ⟨y1, y2, rfl, j1, j2⟩ := ims2K (show Ims H1 rs [a.d, b.d] from hs)
    rw [Kd.ok] at ok
    rw [Kd.sz] at sz bd
    have pa := sz_pos a
    have pb := sz_pos b
    refine sq_no rfl e (by decide +kernel) (tsh_yes rfl e rfl ?_)
    refine ⟨_, e, onS_of (atI_nat (j := 1) rfl) ⟨A, r, ptB D, y1, a, m + 1, rfl, B1, j1, ok.1, by omega, m1, by omega, fun H2 F2 B2 => ?_⟩⟩
    dsimp only [gName]
    have e2 := F2.2.tk _ _ e
    have m2 := sm_low a _ _ m1
    have m3 := sm_upp b _ _ m2
    refine ⟨⟨_, _, B2.b, fB_no_use _ _ _ _ _⟩, _, e2, onS_of (atI_nat (j := 2) rfl) ⟨A, r, _, y2, b, _, rfl, B2, j2.mono F2.2.tk, ok.2, by omega, m2, by omega, fun H3 F3 B3 x dx hx hdx nx => ⟨x, dx, _, _, _, _, _, rfl, upd_same, rfl, ?_⟩⟩⟩
    rw [upd_upd]
    exact fin _ _ (.call D.pts.length 0 0 (ptB D).pts.length (low a (ptB D)).pts.length) _ E (B3.same (same_make hx hdx)) ((F2.trans F3).then (same_make hx hdx)) ⟨x, dx, rfl, upd_same⟩ (by have := m3.2.2; omega) (by rw [upp])
  | rcd l =>
    replace e : H1 t = some (.tup (.str "rec" :: rs)) := e
    obtain ⟨tl, xs, rfl, el, il⟩ := fl_of (show Ims H1 rs [.tup l.ds] from hs)
    rw [Kd.ok, ok_toL] at ok
    rw [Kd.sz, sz_toL] at sz bd
    refine sq_no rfl e (by decide +kernel) (tsh_no rfl e (by decide +kernel) (tsh_yes rfl e rfl ?_))
    refine ⟨⟨_, _, B1.b, fB_no_use _ _ _ _ _⟩, _, e, onS_of (atI_nat (j := 1) rfl) ⟨A, r, ptB D, tl, xs, l.toL, m + 1, rfl, B1, el, il, ok.1, ok.2.2, by omega, m1, by omega, fun v H3 F3 B3 I3 x dx hx hdx nx => ⟨x, dx, _, _, _, _, rfl, upd_same, rfl, ?_⟩⟩⟩
    rw [upd_upd]
    exact fin _ _ (.take D.pts.length 0 0 (uppL l.toL (ptB D)).2) _ E (B3.same (same_make hx hdx)) (F3.then (same_make hx hdx)) ⟨x, dx, v, rfl, upd_same, I3.mono (Same.tk (same_make hx hdx)), by rw [uppL_len]; exact ok.2.2⟩ (by have := (sm_uppL l.toL _ _ m1).2.2; omega) (by rw [upp, uppF_L])
  | ch l =>
    replace e : H1 t = some (.tup (.str "choice" :: rs)) := e
    obtain ⟨tl, xs, rfl, el, il⟩ := fl_of (show Ims H1 rs [.tup l.ds] from hs)
    rw [Kd.ok, ok_toL] at ok
    rw [Kd.sz, sz_toL] at sz bd
    refine sq_no rfl e (by decide +kernel) (tsh_no rfl e (by decide +kernel) (tsh_no rfl e (by decide +kernel) (tsh_yes rfl e rfl ?_)))
    refine ⟨⟨_, _, B1.b, fB_no_use _ _ _ _ _⟩, _, e, onS_of (atI_nat (j := 1) rfl) ⟨A, r, ptB D, tl, xs, l.toL, m + 1, rfl, B1, el, il, ok.1, ok.2.2, by omega, m1, by omega, fun v H3 F3 B3 I3 x dx hx hdx nx => ⟨x, dx, _, _, _, _, rfl, upd_same, rfl, ?_⟩⟩⟩
    rw [upd_upd]
    exact fin _ _ (.case D.pts.length 0 0 (uppL l.toL (ptB D)).2) _ E (B3.same (same_make hx hdx)) (F3.then (same_make hx hdx)) ⟨x, dx, v, rfl, upd_same, I3.mono (Same.tk (same_make hx hdx)), by rw [uppL_len]; exact ok.2.2⟩ (by have := (sm_uppL l.toL _ _ m1).2.2; omega) (by rw [upp, uppF_L])
  | row a =>
    replace e : H1 t = some (.tup (.str "row" :: rs)) := e
    obtain ⟨y1, rfl, j1⟩ := ims1 (show Ims H1 rs [a.d] from hs)
    rw [Kd.ok] at ok
    rw [Kd.sz] at sz bd
    have pa := sz_pos a
    have m2 := sm_upp a _ _ m1
    refine sq_no rfl e (by decide +kernel) (tsh_no rfl e (by decide +kernel) (tsh_no rfl e (by decide +kernel) (tsh_no rfl e (by decide +kernel) (tsh_yes rfl e rfl ?_))))
    refine ⟨⟨_, _, B1.b, fB_no_use _ _ _ _ _⟩, _, e, onS_of (atI_nat (j := 1) rfl) ⟨A, r, ptB D, y1, a, m + 1, rfl, B1, j1, ok, by omega, m1, by omega, fun H3 F3 B3 x dx hx hdx nx => ⟨x, dx, _, _, _, _, rfl, upd_same, rfl, ?_⟩⟩⟩
    rw [upd_upd]
    exact fin _ _ (.row D.pts.length 0 0 (ptB D).pts.length) _ E (B3.same (same_make hx hdx)) (F3.then (same_make hx hdx)) ⟨x, dx, rfl, upd_same⟩ (by have := m2.2.2; omega) (by rw [upp])
theorem ok_lu (T : Txt K mg) : ∀ n, FnOk P w K mg base CX0 (2 * n + 4) T.a_lower T.fd_lower ["board", "kind"] (sp_low (cs T) n) ∧ FnOk P w K mg base CX0 (2 * n + 4) T.a_upper T.fd_upper ["board", "kind"] (sp_upp (cs T) n)
  | 0 => by
    refine ⟨T.F_lower.ok sc_lower (fun vs H Q E h => ?_) (fun cdv A0 outer s H vs Q E hr h => ?_), T.F_upper.ok sc_upper (fun vs H Q E h => ?_) (fun cdv A0 outer s H vs Q E hr h => ?_)⟩
    · obtain ⟨A, r, D, x, k, m, rfl, _⟩ := h
      rfl
    · obtain ⟨A, r, D, x, k, m, _, _, _, _, sz, _⟩ := h
      have := sz_pos k
      omega
    · obtain ⟨A, r, D, x, k, m, rfl, _⟩ := h
      rfl
    · obtain ⟨A, r, D, x, k, m, _, _, _, _, sz, _⟩ := h
      have := sz_pos k
      omega
  | n + 1 => ⟨ok_lower1 T n (ok_lu T n).1 (ok_lu T n).2, ok_upper1 T n (ok_lu T n).1 (ok_lu T n).2⟩
end
end K53.Internal
namespace K53.Internal
open PySem L2.Internal BO.Internal KK.Internal
seal L2.Internal.PE L2.Internal.PA L2.Internal.PS L2.Internal.PSs L2.Internal.PT L2.Internal.PI
section
variable {i : Nat} {s w w2 : Str} {tt : TT} {t u u' : TS} {D : Ends} {σ : St} {H : Hp} {a : Addr} {r : List V}
theorem shq_no (hv : σ[i]? = some (some (.ref a))) (ha : H a = some (.tup (.str s :: r))) (h : s ≠ w) (q : u' D σ H) : tSeq (tIfS (cT (tOp (cEq false) (tOp cIxT (cV i) (tC (.int 0))) (tC (.str w)))) t tNext) u' D σ H := tsh_no (u := tNext) (D := { D with nx := u' D }) hv ha h q
theorem shq_yes (hv : σ[i]? = some (some (.ref a))) (ha : H a = some (.tup (.str s :: r))) (h : s = w) (q : t { D with nx := u' D } σ H) : tSeq (tIfS (cT (tOp (cEq false) (tOp cIxT (cV i) (tC (.int 0))) (tC (.str w)))) t tNext) u' D σ H := tsh_yes (u := tNext) (D := { D with nx := u' D }) hv ha h q
theorem and_no (hv : σ[i]? = some (some (.ref a))) (ha : H a = some (.tup (.str s :: r))) (h : s ≠ w) (q : u { D with nx := u' D } σ H) : tSeq (tIfS (tAnd (cT (tOp (cEq false) (tOp cIxT (cV i) (tC (.int 0))) (tC (.str w)))) tt) t u) u' D σ H := by
  show onV σ[i]? _
  rw [hv]
  refine ⟨_, ha, onS_of (atI_nat (j := 0) rfl) ?_⟩
  show if (false ^^ decide (s = w)) = true then _ else _
  rw [decide_eq_false h]
  exact q
theorem and_yes (hv : σ[i]? = some (some (.ref a))) (ha : H a = some (.tup (.str s :: r))) (h : s = w) (q : tt σ H fun c H1 => if c = true then t { D with nx := u' D } σ H1 else u { D with nx := u' D } σ H1) : tSeq (tIfS (tAnd (cT (tOp (cEq false) (tOp cIxT (cV i) (tC (.int 0))) (tC (.str w)))) tt) t u) u' D σ H := by
  show onV σ[i]? _
  rw [hv]
  refine ⟨_, ha, onS_of (atI_nat (j := 0) rfl) ?_⟩
  show if (false ^^ decide (s = w)) = true then _ else _
  rw [decide_eq_true h]
  exact q
theorem or_no (hv : σ[i]? = some (some (.ref a))) (ha : H a = some (.tup (.str s :: r))) (h : s ≠ w) (h2 : s ≠ w2) (q : u D σ H) : tIfS (tOr (cT (tOp (cEq false) (tOp cIxT (cV i) (tC (.int 0))) (tC (.str w)))) (cT (tOp (cEq false) (tOp cIxT (cV i) (tC (.int 0))) (tC (.str w2))))) t u D σ H := by
  show onV σ[i]? _
  rw [hv]
  refine ⟨_, ha, onS_of (atI_nat (j := 0) rfl) ?_⟩
  show if (false ^^ decide (s = w)) = true then _ else onV σ[i]? _
  rw [decide_eq_false h, hv]
  refine iteF ⟨_, ha, onS_of (atI_nat (j := 0) rfl) ?_⟩
  show if (false ^^ decide (s = w2)) = true then _ else _
  rw [decide_eq_false h2]
  exact q
theorem or_yes1 (hv : σ[i]? = some (some (.ref a))) (ha : H a = some (.tup (.str s :: r))) (h : s = w) (q : t D σ H) : tIfS (tOr (cT (tOp (cEq false) (tOp cIxT (cV i) (tC (.int 0))) (tC (.str w)))) tt) t u D σ H := by
  show onV σ[i]? _
  rw [hv]
  refine ⟨_, ha, onS_of (atI_nat (j := 0) rfl) ?_⟩
  show if (false ^^ decide (s = w)) = true then _ else _
  rw [decide_eq_true h]
  exact q
theorem or_yes2 (hv : σ[i]? = some (some (.ref a))) (ha : H a = some (.tup (.str s :: r))) (h : s ≠ w) (h2 : s = w2) (q : t D σ H) : tIfS (tOr (cT (tOp (cEq false) (tOp cIxT (cV i) (tC (.int 0))) (tC (.str w)))) (cT (tOp (cEq false) (tOp cIxT (cV i) (tC (.int 0))) (tC (.str w2))))) t u D σ H := by
  show onV σ[i]? _
  rw [hv]
  refine ⟨_, ha, onS_of (atI_nat (j := 0) rfl) ?_⟩
  show if (false ^^ decide (s = w)) = true then _ else onV σ[i]? _
  rw [decide_eq_false h, hv]
  refine iteF ⟨_, ha, onS_of (atI_nat (j := 0) rfl) ?_⟩
  show if (false ^^ decide (s = w2)) = true then _ else _
  rw [decide_eq_true h2]
  exact q
end
noncomputable def stB : Bool → Kd → Bd → Bd
  | true, k, D => low k D
  | false, k, D => upp k D
noncomputable def stL : Bool → List (Str × Kd) → Bd → Bd × List (Str × Int)
  | true, l, D => lowL l D
  | false, l, D => uppL l D
theorem stL_snoc (lo : Bool) (l : List (Str × Kd)) (p : Str × Kd) (D : Bd) : stL lo (l ++ [p]) D = (stB lo p.2 (stL lo l D).1, (stL lo l D).2 ++ [(p.1, ((stL lo l D).1.pts.length : Int))]) := by
  cases lo
  · exact uppL_snoc l p D
  · exact lowL_snoc l p D
theorem stL_nil (lo : Bool) (D : Bd) : stL lo [] D = (D, []) := by cases lo <;> rfl
theorem sm_stB (lo : Bool) (k : Kd) (D : Bd) (n : Nat) (h : Sm D n) : Sm (stB lo k D) (n + (3 * k.sz - 1)) := by
  cases lo
  · exact sm_upp k D n h
  · exact sm_low k D n h
theorem sm_stL (lo : Bool) (l : List (Str × Kd)) (D : Bd) (n : Nat) (h : Sm D n) : Sm (stL lo l D).1 (n + 3 * szL l) := by
  cases lo
  · exact sm_uppL l D n h
  · exact sm_lowL l D n h
noncomputable def UD (H : Hp) (v : V) (n : Int) : Kd → Us → Prop
  | .any, _ => False
  | .num, u => u = .num n 0 0
  | .fn _ _, u => ∃ p x y, v = .ref p ∧ H p = some (.tup [.int x, .int y]) ∧ u = .call n 0 0 x y
  | .rcd _, u => ∃ l, Im H v (prD l) ∧ u = .take n 0 0 l
  | .ch _, u => ∃ l, Im H v (prD l) ∧ u = .case n 0 0 l
  | .row _, u => ∃ p x, v = .ref p ∧ H p = some (.tup [.int x]) ∧ u = .row n 0 0 x
section
variable {P : Program} {w : World} {K : PySem.W.Frag} {mg : Str → Option Value} {base : Heap}
noncomputable def sp_ud : Sp := fun vs H Q _ => ∃ (x v : V) (n : Int) (k : Kd) (u : Us), vs = [x, v, .int n] ∧ Im H x k.d ∧ UD H v n k u ∧ ∀ y H', Same H H' → Im H' y u.d → Q y H'
theorem ok__law_use_due (T : Txt K mg) : FnOk P w K mg base CX0 1 T.a__law_use_due T.fd__law_use_due ["_law_kind", "_law_parts", "_law_at"] sp_ud := by
  refine T.F__law_use_due.ok sc__law_use_due (fun vs H Q E h => ?_) (fun cdv A0 outer s H vs Q E hr h => ?_)
  · obtain ⟨x, v, n, k, u, rfl, _⟩ := h
    rfl
  obtain ⟨x, v, n, k, u, rfl, ix, hu, q⟩ := h
  refine ⟨_, (pss_cons (ps_if (ptc_cmpR oc_eq (pe_ix xc_tup (cv 0) pe_int (fun _ _ => rfl)) pe_str (nomark _))
      (pss_one (ps_ret (pe_tup (pa_cons pe_str (pa_cons (cv 2) (pa_cons pe_int (pa_cons pe_int pa_nil)))))))
      pss_nil)
    (pss_cons (ps_if (ptc_cmpR oc_eq (pe_ix xc_tup (cv 0) pe_int (fun _ _ => rfl)) pe_str (nomark _))
      (pss_one (ps_ret (pe_op op_catT (pe_tup (pa_cons pe_str (pa_cons (cv 2) (pa_cons pe_int (pa_cons pe_int pa_nil))))) (cv 1))))
      pss_nil)
    (pss_cons (ps_if (ptc_cmpR oc_eq (pe_ix xc_tup (cv 0) pe_int (fun _ _ => rfl)) pe_str (nomark _))
      (pss_one (ps_ret (pe_op op_catT (pe_tup (pa_cons pe_str (pa_cons (cv 2) (pa_cons pe_int (pa_cons pe_int pa_nil))))) (cv 1))))
      pss_nil)
    (pss_cons (ps_if (ptc_cmpR oc_eq (pe_ix xc_tup (cv 0) pe_int (fun _ _ => rfl)) pe_str (nomark _))
      (pss_one (ps_ret (pe_tup (pa_cons pe_str (pa_cons (cv 2) (pa_cons pe_int (pa_cons pe_int (pa_cons (cv 1) pa_nil))))))))
      pss_nil)
    (pss_one (ps_ret (pe_tup (pa_cons pe_str (pa_cons (cv 2) (pa_cons pe_int (pa_cons pe_int (pa_cons (cv 1) pa_nil)))))))))))), ?_⟩
  obtain ⟨t, rs, rfl, e, hs⟩ := kd_at ix
  have h4 : ∀ {H2 : Hp} (s : Str), Ims H2 [.str s, .int n, .int 0, .int 0] [sD s, iD n, iD 0, iD 0] := fun s => .cons (im_str _) (.cons (im_int _) (.cons (im_int _) (.cons (im_int _) .nil)))
  cases k with
  | any => exact hu.elim
  | num =>
    replace e : H t = some (.tup (.str "num" :: rs)) := e
    have hu : u = .num n 0 0 := hu
    subst hu
    exact shq_yes rfl e rfl ⟨(by show 4 ≤ sizeLine; decide), fun t2 h2 => q _ _ (same_new h2 _) (im_newK h2 (h4 "num"))⟩
  | fn a b =>
    replace e : H t = some (.tup (.str "fn" :: rs)) := e
    obtain ⟨p, x, y, rfl, ep, rfl⟩ := hu
    refine shq_no rfl e (by decide +kernel) (shq_yes rfl e rfl ⟨(by show 4 ≤ sizeLine; decide), fun t2 h2 => ?_⟩)
    have S := same_new h2 (.tup [.str "call", .int n, .int 0, .int 0])
    refine ⟨t2, p, _, _, rfl, rfl, SqT.of upd_same, SqT.of (S _ _ ep), (fun z => nomatch z), (by show 4 + 2 ≤ sizeLine; decide), (fun z => nomatch z), fun _ t3 h3 => ?_⟩
    exact q _ _ (S.trans (same_new h3 _)) (im_newK h3 ((h4 "call").app (.cons (im_int _) (.cons (im_int _) .nil))))
  | rcd l =>
    replace e : H t = some (.tup (.str "rec" :: rs)) := e
    obtain ⟨l, il, rfl⟩ := hu
    exact shq_no rfl e (by decide +kernel) (shq_no rfl e (by decide +kernel) (shq_no rfl e (by decide +kernel) (shq_yes rfl e rfl ⟨(by show 5 ≤ sizeLine; decide), fun t2 h2 => q _ _ (same_new h2 _) (im_newK h2 ((h4 "take").app (.cons il .nil)))⟩)))
  | ch l =>
    replace e : H t = some (.tup (.str "choice" :: rs)) := e
    obtain ⟨l, il, rfl⟩ := hu
    exact shq_no rfl e (by decide +kernel) (shq_no rfl e (by decide +kernel) (shq_no rfl e (by decide +kernel) (shq_no rfl e (by decide +kernel) ⟨(by show 5 ≤ sizeLine; decide), fun t2 h2 => q _ _ (same_new h2 _) (im_newK h2 ((h4 "case").app (.cons il .nil)))⟩)))
  | row a =>
    replace e : H t = some (.tup (.str "row" :: rs)) := e
    obtain ⟨p, x, rfl, ep, rfl⟩ := hu
    refine shq_no rfl e (by decide +kernel) (shq_no rfl e (by decide +kernel) (shq_yes rfl e rfl ⟨(by show 4 ≤ sizeLine; decide), fun t2 h2 => ?_⟩))
    have S := same_new h2 (.tup [.str "row", .int n, .int 0, .int 0])
    refine ⟨t2, p, _, _, rfl, rfl, SqT.of upd_same, SqT.of (S _ _ ep), (fun z => nomatch z), (by show 4 + 1 ≤ sizeLine; decide), (fun z => nomatch z), fun _ t3 h3 => ?_⟩
    exact q _ _ (S.trans (same_new h3 _)) (im_newK h3 ((h4 "row").app (.cons (im_int _) .nil)))
noncomputable def stEnd : TS := tSeq (tIfS (tB (cV 2)) (tDrop (cApp (tOp cIxL (cV 0) (tC (.int 1))) (tTup (tCons (tOp cIxT (cV 1) (tC (.int 0))) (tCons (cV 6) (tCons (cV 3) (tCons (tC (.int 0)) tNil))))))) (tIfS (cT (tOp (cEq true) (tOp cIxT (cV 1) (tC (.int 0))) (tC (.str "any")))) (tDrop (cApp (tOp cIxL (cV 0) (tC (.int 2))) (tCall sp_ud [] E0 (tCons (cV 1) (tCons (cV 6) (tCons (cV 3) tNil)))))) tNext)) (tRet (cV 3))
theorem ud_tag {H : Hp} {v : V} {n : Int} {k : Kd} {u : Us} (h : UD H v n k u) : (true ^^ decide (k.tag = ("any" : Str))) = true := by
  cases k with
  | any => exact h.elim
  | num => show (true ^^ decide (("num" : Str) = "any")) = true; decide +kernel
  | fn a b => show (true ^^ decide (("fn" : Str) = "any")) = true; decide +kernel
  | rcd l => show (true ^^ decide (("rec" : Str) = "any")) = true; decide +kernel
  | ch l => show (true ^^ decide (("choice" : Str) = "any")) = true; decide +kernel
  | row a => show (true ^^ decide (("row" : Str) = "any")) = true; decide +kernel
theorem st_end {D : Ends} {H2 : Hp} {A : Ad} {D2 D3 : Bd} {t : Addr} {r : List V} {lo : Bool} {n : Int} {v : V} {d : Dt} {o4 o5 : Option V} {k : Kd} (B : Dq H2 A D2) (e : H2 t = some (.tup (.str k.tag :: r))) (ix : Im H2 (.ref t) k.d) (hl : D2.mks.length ≤ 100000) (hu : D2.uss.length ≤ 100000)
    (c1 : lo = true → Im H2 v d ∧ D3 = mkB D2 k.tag d n) (c2 : lo = false → (k = .any ∧ D3 = D2) ∨ ∃ u, UD H2 v n k u ∧ D3 = usB D2 u)
    (q : ∀ H', FB A H2 H' → Dq H' A D3 → tRet (cV 3) D [some (.ref A.b), some (.ref t), some (.bl lo), some (.int n), o4, o5, some v] H') : stEnd D [some (.ref A.b), some (.ref t), some (.bl lo), some (.int n), o4, o5, some v] H2 := by
  have sl : sizeLine = 16777216 := sizeLine_eq
  cases lo with
  | true =>
    obtain ⟨iv, rfl⟩ := c1 rfl
    obtain ⟨mv, em, am⟩ := B.e1
    have lm := am.length
    rw [List.length_map] at lm
    refine ⟨true, rfl, iteT ?_⟩
    refine ⟨_, B.b, onS_of (atI_nat (j := 1) rfl) ⟨⟨_, em⟩, _, e, onS_of (atI_nat (j := 0) rfl) ⟨(by show 4 ≤ sizeLine; decide), fun p hp => ⟨mv, same_new hp _ _ _ em, by omega, ?_⟩⟩⟩⟩
    have S := same_new hp (.tup [.str k.tag, v, .int n, .int 0])
    exact q _ ((FB.same S).trans (FB.upd (by simp [Ad.ls]) (S _ _ em))) ((B.same S).addM (m := ⟨k.tag, d, n, 0⟩) (S _ _ em) (im_newK hp (.cons (im_str _) (.cons iv (.cons (im_int _) (.cons (im_int _) .nil))))))
  | false =>
    refine ⟨false, rfl, iteF ⟨_, e, onS_of (atI_nat (j := 0) rfl) ?_⟩⟩
    dsimp only [tC, cEq, onB]
    rcases c2 rfl with ⟨rfl, rfl⟩ | ⟨u, hud, rfl⟩
    · rw [show (true ^^ decide (Kd.any.tag = ("any" : Str))) = false by decide +kernel]
      exact iteF (q _ (FB.same (Same.refl _)) B)
    · rw [ud_tag hud]
      obtain ⟨uv, eu, au⟩ := B.e2
      have lu := au.length
      rw [List.length_map] at lu
      refine iteT ⟨_, B.b, onS_of (atI_nat (j := 2) rfl) ⟨⟨_, eu⟩, .ref t, v, n, k, u, rfl, ix, hud, fun y H3 S I => ⟨uv, S _ _ eu, by omega, ?_⟩⟩⟩
      exact q _ ((FB.same S).trans (FB.upd (by simp [Ad.ls]) (S _ _ eu))) ((B.same S).us (S _ _ eu) I)
end
end K53.Internal
namespace K53.Internal
open PySem L2.Internal BO.Internal KK.Internal
seal L2.Internal.PE L2.Internal.PA L2.Internal.PS L2.Internal.PSs L2.Internal.PT L2.Internal.PI
section
variable {P : Program} {w : World} {K : PySem.W.Frag} {mg : Str → Option Value} {base : Heap}
noncomputable def sp_stand (n : Nat) : Sp := fun vs H Q _ => ∃ (A : Ad) (D : Bd) (x : V) (k : Kd) (lo : Bool) (m : Nat), vs = [.ref A.b, x, .bl lo] ∧ Dq H A D ∧ Im H x k.d ∧ k.ok ∧ k.sz ≤ n ∧ Sm D m ∧ m + 3 * k.sz ≤ 90000 ∧ ∀ H', FB A H H' → Dq H' A (stB lo k D) → Q (.int D.pts.length) H'
theorem ok_stand1 (T : Txt K mg) (n : Nat) (G__law_stand : FnOk P w K mg base CX0 (n + 3) T.a__law_stand T.fd__law_stand ["_law_told_here", "_law_kind", "_law_low"] (sp_stand n)) :
    FnOk P w K mg base CX0 (n + 1 + 3) T.a__law_stand T.fd__law_stand ["_law_told_here", "_law_kind", "_law_low"] (sp_stand (n + 1)) := by
  have G__law_use_due := ok__law_use_due (P := P) (w := w) (base := base) T
  refine T.F__law_stand.ok sc__law_stand (fun vs H Q E h => ?_) (fun cdv A0 outer s H vs Q E hr h => ?_)
  · obtain ⟨A, D, x, k, lo, m, rfl, _⟩ := h
    rfl
  obtain ⟨A, D, x, k, lo, m, rfl, B, ix, ok, sz, sm, bd, q⟩ := h
  refine ⟨_, (pss_cons (ps_set (i := 3) sc__law_stand.nd rfl (Or.inl rfl) (pe_callB call_len_seq rfl T.z_len bt_len (pa_cons (pe_ix xc_list (cv 0) pe_int (fun _ _ => rfl)) pa_nil)))
    (pss_cons (ps_expr (pec_app (pe_bm PySem.F.plainAttrs_list PySem.F.slot_list_append PySem.F.type_list_append mt_append (PE.mono (pe_ix xc_list (cv 0) pe_int (fun _ _ => rfl))) (pa_cons (PE.mono pe_int) pa_nil))))
    (pss_cons (ps_if (PW.pt (pw_and (ptc_cmpR oc_eq (pe_ix xc_tup (cv 1) pe_int (fun _ _ => rfl)) pe_str (nomark _)) (pw_and1 (pt_val (cv 2)))))
      (pss_cons (ps_for PassesOwn.never rfl (pi_tup (pe_ix xc_tup (cv 1) pe_int (fun _ _ => rfl))) (pg_tup rfl (pgs_cons (pg_name (i := 4) sc__law_stand.nd rfl (Or.inl rfl)) (pgs_cons (pg_name (i := 5) sc__law_stand.nd rfl (Or.inl rfl)) pgs_nil)))
        (pss_one (ps_expr (pec_app (pe_bm PySem.F.plainAttrs_list PySem.F.slot_list_append PySem.F.type_list_append mt_append (PE.mono (pe_ix xc_list (cv 0) pe_int (fun _ _ => rfl))) (pa_cons (PE.mono (pe_tup (pa_cons pe_str (pa_cons (pe_tup (pa_cons (cv 4) (pa_cons (pe_call G__law_stand (hr.mono (by omega)) rfl T.m__law_stand T.k__law_stand T.b__law_stand .nil pass0 (pa_cons (cv 0) (pa_cons (cv 5) (pa_cons pe_bl pa_nil)))) pa_nil))) (pa_cons (cv 3) (pa_cons pe_int pa_nil)))))) pa_nil))))))
      (pss_one (ps_ret (cv 3))))
      pss_nil)
    (pss_cons (ps_set (i := 6) sc__law_stand.nd rfl (Or.inl rfl) (pe_tup pa_nil))
    (pss_cons (ps_if (ptc_cmpR oc_eq (pe_ix xc_tup (cv 1) pe_int (fun _ _ => rfl)) pe_str (nomark _))
      (pss_one (ps_set (i := 6) sc__law_stand.nd rfl (Or.inl rfl) (pe_tup (pa_cons (pe_call G__law_stand (hr.mono (by omega)) rfl T.m__law_stand T.k__law_stand T.b__law_stand .nil pass0 (pa_cons (cv 0) (pa_cons (pe_ix xc_tup (cv 1) pe_int (fun _ _ => rfl)) (pa_cons (pe_not (cv 2)) pa_nil)))) (pa_cons (pe_call G__law_stand (hr.mono (by omega)) rfl T.m__law_stand T.k__law_stand T.b__law_stand .nil pass0 (pa_cons (cv 0) (pa_cons (pe_ix xc_tup (cv 1) pe_int (fun _ _ => rfl)) (pa_cons (cv 2) pa_nil)))) pa_nil)))))
      (pss_one (ps_if (ptc_cmpR oc_eq (pe_ix xc_tup (cv 1) pe_int (fun _ _ => rfl)) pe_str (nomark _))
        (pss_one (ps_set (i := 6) sc__law_stand.nd rfl (Or.inl rfl) (pe_tup (pa_cons (pe_call G__law_stand (hr.mono (by omega)) rfl T.m__law_stand T.k__law_stand T.b__law_stand .nil pass0 (pa_cons (cv 0) (pa_cons (pe_ix xc_tup (cv 1) pe_int (fun _ _ => rfl)) (pa_cons (cv 2) pa_nil)))) pa_nil))))
        (pss_one (ps_if (PW.pt (pw_or (ptc_cmpR oc_eq (pe_ix xc_tup (cv 1) pe_int (fun _ _ => rfl)) pe_str (nomark _)) (pw_or1 (ptc_cmpR oc_eq (pe_ix xc_tup (cv 1) pe_int (fun _ _ => rfl)) pe_str (nomark _)))))
          (pss_one (ps_set (i := 6) sc__law_stand.nd rfl (Or.inl rfl) (pe_callTy call_tuple_of rfl T.z_tuple bt_tuple (pa_cons (pe_lcP (g := gTup K 2 (gCons (gName 0) (gCons (gName 1) gNil))) rfl (blkC2 (x := "_law_word") (y := "_law_part") ["_law_told_here", "_law_low"] [("_law_told_here", 0, s.heap.objs.size + 1), ("_law_low", 2, s.heap.objs.size + 2)] rfl rfl (by decide +kernel) (by decide +kernel) rfl (by decide +kernel) rfl rfl (by intro p hp; simp only [List.mem_cons, List.not_mem_nil, or_false] at hp; rcases hp with rfl | rfl <;> exact ⟨rfl, rfl, rfl, rfl⟩)) (pi_tup (pe_ix xc_tup (cv 1) pe_int (fun _ _ => rfl))) (fun c1 c2 c3 c4 c5 => pg_tup (n := 2) (X := blk _ ["_law_word", "_law_part", "_law_told_here", "_law_low"] _ _ c1 c2 c3 c4 c5) rfl (pgs_cons (pg_name (X := blk _ ["_law_word", "_law_part", "_law_told_here", "_law_low"] _ _ c1 c2 c3 c4 c5) (i := 0) (show (["_law_word", "_law_part", "_law_told_here", "_law_low"] : List Str).Nodup by decide +kernel) rfl (.inl (lookup_relabel_local rfl)) (.inr (lookup_relabel_local rfl))) (pgs_cons (pg_name (X := blk _ ["_law_word", "_law_part", "_law_told_here", "_law_low"] _ _ c1 c2 c3 c4 c5) (i := 1) (show (["_law_word", "_law_part", "_law_told_here", "_law_low"] : List Str).Nodup by decide +kernel) rfl (.inl (lookup_relabel_local rfl)) (.inr (lookup_relabel_local rfl))) pgs_nil))) (fun _ _ _ _ _ => (pe_tup (pa_cons (cv 0) (pa_cons (pe_call G__law_stand (hr.mono (by omega)) rfl T.m__law_stand T.k__law_stand T.b__law_stand .nil pass0 (pa_cons (cv 2) (pa_cons (cv 1) (pa_cons (cv 3) pa_nil)))) pa_nil))))) pa_nil))))
          pss_nil)))))
    (pss_cons (ps_if (pt_val (cv 2))
      (pss_one (ps_expr (pec_app (pe_bm PySem.F.plainAttrs_list PySem.F.slot_list_append PySem.F.type_list_append mt_append (PE.mono (pe_ix xc_list (cv 0) pe_int (fun _ _ => rfl))) (pa_cons (PE.mono (pe_tup (pa_cons (pe_ix xc_tup (cv 1) pe_int (fun _ _ => rfl)) (pa_cons (cv 6) (pa_cons (cv 3) (pa_cons pe_int pa_nil)))))) pa_nil)))))
      (pss_one (ps_if (ptc_cmpR oc_ne (pe_ix xc_tup (cv 1) pe_int (fun _ _ => rfl)) pe_str (nomark _))
        (pss_one (ps_expr (pec_app (pe_bm PySem.F.plainAttrs_list PySem.F.slot_list_append PySem.F.type_list_append mt_append (PE.mono (pe_ix xc_list (cv 0) pe_int (fun _ _ => rfl))) (pa_cons (PE.mono (pe_call G__law_use_due (hr.mono (by omega)) rfl T.m__law_use_due T.k__law_use_due T.b__law_use_due .nil pass0 (pa_cons (cv 1) (pa_cons (cv 6) (pa_cons (cv 3) pa_nil))))) pa_nil)))))
        pss_nil)))
    (pss_one (ps_ret (cv 3))))))))), ?_⟩
  have sl : sizeLine = 16777216 := sizeLine_eq
  have s1 := sm.1
  refine ⟨_, B.b, onS_of (atI_nat (j := 0) rfl) ⟨A.p0, _, rfl, .inl (SqL.of B.e0), ?_⟩⟩
  dsimp only [gName]
  refine ⟨_, B.b, onS_of (atI_nat (j := 0) rfl) ⟨⟨_, B.e0⟩, _, B.e0, by rw [List.length_map]; omega, ?_⟩⟩
  have B1 : Dq (upd H A.p0 (.lst (D.pts.map V.int ++ [.int 0]))) A (ptB D) := B.pt 0
  have F1 := FB.upd (A := A) (ys := D.pts.map V.int ++ [.int 0]) (by simp [Ad.ls]) B.e0
  dsimp only [gName]
  rw [List.length_map]
  generalize upd H A.p0 (.lst (D.pts.map V.int ++ [.int 0])) = H1 at B1 F1 ⊢
  have i1 := ix.mono F1.2.tk
  have m1 := sm.pt
  clear ix B
  obtain ⟨t, rs, rfl, e, hs⟩ := kd_at i1
  have qq : ∀ H' H2, FB A H1 H2 → FB A H2 H' → Dq H' A (stB lo k D) → Q (.int D.pts.length) H' := fun H' H2 F F2 => q H' ((F1.trans F).trans F2)
  cases k with
  | any =>
    replace e : H1 t = some (.tup (.str "any" :: rs)) := e
    refine and_no rfl e (by decide +kernel) ?_
    refine ⟨(by show 0 ≤ sizeLine; decide), fun t0 h0 => ?_⟩
    have S := same_new h0 (.tup [])
    have e2 := S _ _ e
    dsimp only [gName]
    refine sq_no rfl e2 (by decide +kernel) (tsh_no rfl e2 (by decide +kernel) (or_no rfl e2 (by decide +kernel) (by decide +kernel) ?_))
    exact st_end (k := .any) (d := .tup []) (D3 := stB lo .any D) (B1.same S) e2 (i1.mono (Same.tk S)) (by have := m1.2.1; omega) (by have := m1.2.2; omega)
      (fun h => by subst h; exact ⟨im_newK h0 .nil, by show low .any D = _; rw [low]; rfl⟩) (fun h => by subst h; exact .inl ⟨rfl, by show upp .any D = _; rw [upp]⟩) (fun H' F B' => qq H' _ (FB.same S) F B')
  | num =>
    replace e : H1 t = some (.tup (.str "num" :: rs)) := e
    refine and_no rfl e (by decide +kernel) ?_
    refine ⟨(by show 0 ≤ sizeLine; decide), fun t0 h0 => ?_⟩
    have S := same_new h0 (.tup [])
    have e2 := S _ _ e
    dsimp only [gName]
    refine sq_no rfl e2 (by decide +kernel) (tsh_no rfl e2 (by decide +kernel) (or_no rfl e2 (by decide +kernel) (by decide +kernel) ?_))
    exact st_end (k := .num) (d := .tup []) (D3 := stB lo .num D) (B1.same S) e2 (i1.mono (Same.tk S)) (by have := m1.2.1; omega) (by have := m1.2.2; omega)
      (fun h => by subst h; exact ⟨im_newK h0 .nil, by show low .num D = _; rw [low]; rfl⟩) (fun h => by subst h; exact .inr ⟨_, rfl, by show upp .num D = _; rw [upp]⟩) (fun H' F B' => qq H' _ (FB.same S) F B')
  | fn a b =>
    replace e : H1 t = some (.tup (.str "fn" :: rs)) := e
    obtain ⟨y1, y2, rfl, j1, j2⟩ := ims2K (show Ims H1 rs [a.d, b.d] from hs)
    rw [Kd.ok] at ok
    rw [Kd.sz] at sz bd
    have pa := sz_pos a
    have pb := sz_pos b
    refine and_no rfl e (by decide +kernel) ?_
    refine ⟨(by show 0 ≤ sizeLine; decide), fun t0 h0 => ?_⟩
    have S := same_new h0 (.tup [])
    have e2 := S _ _ e
    have m2 := sm_stB (!lo) a _ _ m1
    have m3 := sm_stB lo b _ _ m2
    dsimp only [gName]
    refine sq_yes rfl e2 rfl ?_
    refine ⟨_, e2, onS_of (atI_nat (j := 1) rfl) ⟨lo, rfl, A, ptB D, y1, a, !lo, m + 1, rfl, B1.same S, j1.mono (Same.tk S), ok.1, by omega, m1, by omega, fun H3 F3 B3 => ?_⟩⟩
    have e3 := F3.2.tk _ _ e2
    refine ⟨_, e3, onS_of (atI_nat (j := 2) rfl) ⟨A, _, y2, b, lo, _, rfl, B3, (j2.mono (Same.tk S)).mono F3.2.tk, ok.2, by omega, m2, by omega, fun H4 F4 B4 => ⟨(by show 2 ≤ sizeLine; decide), fun t2 h2 => ?_⟩⟩⟩
    have S5 := same_new h2 (.tup [.int (ptB D).pts.length, .int (stB (!lo) a (ptB D)).pts.length])
    have F5 := ((F3.trans F4).then S5)
    exact st_end (k := .fn a b) (d := .tup [iD (ptB D).pts.length, iD (stB (!lo) a (ptB D)).pts.length]) (D3 := stB lo (.fn a b) D) (B4.same S5) (F5.2.tk _ _ e2) ((i1.mono (Same.tk S)).mono F5.2.tk) (by have := m3.2.1; omega) (by have := m3.2.2; omega)
      (fun h => by subst h; exact ⟨im_newK h2 (.cons (im_int _) (.cons (im_int _) .nil)), by show low (.fn a b) D = _; rw [low]; rfl⟩) (fun h => by subst h; exact .inr ⟨_, ⟨t2, _, _, rfl, upd_same, rfl⟩, by show upp (.fn a b) D = _; rw [upp]; rfl⟩) (fun H' F B' => qq H' _ ((FB.same S).trans F5) F B')
  | rcd l =>
    replace e : H1 t = some (.tup (.str "rec" :: rs)) := e
    obtain ⟨tl, xs, rfl, el, il⟩ := fl_of (show Ims H1 rs [.tup l.ds] from hs)
    rw [Kd.ok, ok_toL] at ok
    rw [Kd.sz, sz_toL] at sz bd
    have lx := il.length
    rw [List.length_map] at lx
    refine and_no rfl e (by decide +kernel) ?_
    refine ⟨(by show 0 ≤ sizeLine; decide), fun t0 h0 => ?_⟩
    have S := same_new h0 (.tup [])
    have e2 := S _ _ e
    have B2 := B1.same S
    have el2 := S _ _ el
    have il2 := il.mono (Same.tk S)
    have i2 := i1.mono (Same.tk S)
    dsimp only [gName]
    generalize upd H1 t0 (.tup []) = H2 at S e2 B2 el2 il2 i2 ⊢
    refine sq_no rfl e2 (by decide +kernel) (tsh_no rfl e2 (by decide +kernel) (or_yes1 rfl e2 rfl ?_))
    refine ⟨_, e2, onS_of (atI_nat (j := 1) rfl) ⟨tl, rfl, ⟨_, SqT.of el2⟩, fun d hd => ?_⟩⟩
    have nd := B2.out hd
    have nb : d ≠ A.b := Ne.symm (ne_of_none B2.b hd)
    refine lcm_flds el2 il2 (by have := ok.2.2; omega) (fun k zs H3 => Dq H3 A (stL lo (l.toL.take k) (ptB D)).1 ∧ FB A H2 H3 ∧ Ims H3 zs ((stL lo (l.toL.take k) (ptB D)).2.map prL)) (fun k zs H3 h => h.2.1.2.tk) (fun k zs H3 ys ys' h e => ⟨h.1.other e nd nb, h.2.1.new hd _, h.2.2.mono (fk_lst e).tk⟩) ⟨by rw [List.take_zero, stL_nil]; exact B2.same (same_new hd _), FB.same (same_new hd _), by rw [List.take_zero, stL_nil]; exact .nil⟩ ?_ ?_
    · rintro k H3 p x zs Z ⟨B3, F3, I3⟩ ez hp hx z
      have sz2 := szL_at hp
      refine ⟨A, _, x, p.2, lo, m + 1 + 3 * szL (l.toL.take k), rfl, B3, hx, ok.1 p (List.mem_of_getElem? hp), by omega, sm_stL _ _ _ _ m1, by omega, fun H4 F4 B4 => ⟨(by show 2 ≤ sizeLine; decide), fun t2 h2 => ?_⟩⟩
      have S5 := same_new h2 (.tup [.str p.1, .int (stL lo (l.toL.take k) (ptB D)).1.pts.length])
      refine z _ _ (S5 _ _ (F4.1 _ _ ez nd)) ⟨?_, (F3.trans F4).then S5, ?_⟩
      · rw [take_snocK hp, stL_snoc]
        exact B4.same S5
      · rw [take_snocK hp, stL_snoc, List.map_append]
        exact ((I3.mono F4.2.tk).mono (Same.tk S5)).app (.cons (im_newK h2 (.cons (im_str _) (.cons (im_int _) .nil))) .nil)
    · rintro H3 zs ⟨B3, F3, I3⟩ lz ez
      rw [List.take_length] at B3 I3
      refine ⟨d, zs, rfl, .inl ⟨SqL.of ez, fun tp htp => ?_⟩⟩
      have S4 := same_new htp (.tup zs)
      have F4 := F3.then S4
      have m2 := sm_stL lo l.toL _ _ m1
      exact st_end (k := .rcd l) (d := prD (stL lo l.toL (ptB D)).2) (D3 := stB lo (.rcd l) D) (B3.same S4) (F4.2.tk _ _ e2) (i2.mono F4.2.tk) (by have := m2.2.1; omega) (by have := m2.2.2; omega)
        (fun h => by subst h; exact ⟨im_newK htp I3, by show low (.rcd l) D = _; rw [low, lowF_L]; rfl⟩) (fun h => by subst h; exact .inr ⟨_, ⟨_, im_newK htp I3, rfl⟩, by show upp (.rcd l) D = _; rw [upp, uppF_L]; rfl⟩) (fun H' F B' => qq H' _ ((FB.same S).trans F4) F B')
  | ch l =>
    replace e : H1 t = some (.tup (.str "choice" :: rs)) := e
    obtain ⟨tl, xs, rfl, el, il⟩ := fl_of (show Ims H1 rs [.tup l.ds] from hs)
    rw [Kd.ok, ok_toL] at ok
    rw [Kd.sz, sz_toL] at sz bd
    have lx := il.length
    rw [List.length_map] at lx
    refine and_yes rfl e rfl ⟨lo, rfl, ?_⟩
    cases lo with
    | true =>
      refine iteT ?_
      refine ⟨_, e, onS_of (atI_nat (j := 1) rfl) ⟨tl, rfl, ⟨_, SqT.of el⟩, for_tup (xs := xs) (fun i σ H2 => ∃ o4 o5 : Option V, σ = [some (.ref A.b), some (.ref t), some (.bl true), some (.int D.pts.length), o4, o5, none] ∧ Dq H2 A (armL (l.toL.take i) D.pts.length (ptB D)) ∧ FB A H1 H2)
        ⟨none, none, rfl, B1, FB.same (Same.refl _)⟩ (fun i σ H2 _ ⟨_, _, _, _, F⟩ => SqT.of (F.2.tk _ _ el)) ?_ ?_⟩⟩
      · rintro i v σ H2 hv ⟨o4, o5, rfl, B2, F2⟩
        obtain ⟨p, t', x, hp, rfl, et', hx⟩ := fld_at (il.mono F2.2.tk) hv
        have sz2 := szL_at hp
        have m2 := sm_armL (l.toL.take i) D.pts.length _ _ m1
        have m3 := sm_low p.2 _ _ m2
        obtain ⟨mv, em, am⟩ := B2.e1
        refine ⟨t', _, rfl, SqT.of et', rfl, _, _, rfl, _, _, rfl, rfl, ?_⟩
        refine ⟨_, B2.b, onS_of (atI_nat (j := 1) rfl) ⟨⟨_, em⟩, A, _, x, p.2, true, _, rfl, B2, hx, ok.1 p (List.mem_of_getElem? hp), by omega, m2, by omega, fun H3 F3 B3 => ⟨(by show 2 ≤ sizeLine; decide), fun t2 h2 => ⟨(by show 4 ≤ sizeLine; decide), fun t3 h3 => ?_⟩⟩⟩⟩
        have S4 := same_new h2 (.tup [.str p.1, .int (armL (l.toL.take i) D.pts.length (ptB D)).pts.length])
        have S5 := same_new h3 (.tup [.str "tag", .ref t2, .int D.pts.length, .int 0])
        have B5 := B3.same (S4.trans S5)
        obtain ⟨mv, em, am⟩ := B5.e1
        have lm := am.length
        rw [List.length_map] at lm
        have m4 : (low p.2 (armL (l.toL.take i) D.pts.length (ptB D))).mks.length ≤ _ := m3.2.1
        have lm2 : mv.length = (low p.2 (armL (l.toL.take i) D.pts.length (ptB D))).mks.length := lm
        refine ⟨mv, em, by omega, _, _, rfl, ?_, (((F2.trans F3).then S4).then S5).trans (FB.upd (by simp [Ad.ls]) em)⟩
        rw [take_snocK hp, armL_snoc]
        exact B5.addM (m := ⟨"tag", .tup [sD p.1, iD (armL (l.toL.take i) D.pts.length (ptB D)).pts.length], D.pts.length, 0⟩) em (im_newK h3 (.cons (im_str _) (.cons (im_newK h2 (.cons (im_str _) (.cons (im_int _) .nil))) (.cons (im_int _) (.cons (im_int _) .nil)))))
      · rintro σ H2 ⟨o4, o5, rfl, B2, F2⟩
        rw [lx, List.take_length] at B2
        exact qq _ _ F2 (FB.same (Same.refl _)) (by show Dq H2 A (low (.ch l) D); rw [low, lowA_L]; exact B2)
    | false =>
      refine iteF ?_
      refine ⟨(by show 0 ≤ sizeLine; decide), fun t0 h0 => ?_⟩
      have S := same_new h0 (.tup [])
      have e2 := S _ _ e
      have B2 := B1.same S
      have el2 := S _ _ el
      have il2 := il.mono (Same.tk S)
      have i2 := i1.mono (Same.tk S)
      dsimp only [gName]
      generalize upd H1 t0 (.tup []) = H2 at S e2 B2 el2 il2 i2 ⊢
      refine sq_no rfl e2 (by decide +kernel) (tsh_no rfl e2 (by decide +kernel) (or_yes2 rfl e2 (by decide +kernel) rfl ?_))
      refine ⟨_, e2, onS_of (atI_nat (j := 1) rfl) ⟨tl, rfl, ⟨_, SqT.of el2⟩, fun d hd => ?_⟩⟩
      have nd := B2.out hd
      have nb : d ≠ A.b := Ne.symm (ne_of_none B2.b hd)
      refine lcm_flds el2 il2 (by have := ok.2.2; omega) (fun k zs H3 => Dq H3 A (uppL (l.toL.take k) (ptB D)).1 ∧ FB A H2 H3 ∧ Ims H3 zs ((uppL (l.toL.take k) (ptB D)).2.map prL)) (fun k zs H3 h => h.2.1.2.tk) (fun k zs H3 ys ys' h e => ⟨h.1.other e nd nb, h.2.1.new hd _, h.2.2.mono (fk_lst e).tk⟩) ⟨B2.same (same_new hd _), FB.same (same_new hd _), .nil⟩ ?_ ?_
      · rintro k H3 p x zs Z ⟨B3, F3, I3⟩ ez hp hx z
        have sz2 := szL_at hp
        refine ⟨A, _, x, p.2, false, m + 1 + 3 * szL (l.toL.take k), rfl, B3, hx, ok.1 p (List.mem_of_getElem? hp), by omega, sm_uppL _ _ _ m1, by omega, fun H4 F4 B4 => ⟨(by show 2 ≤ sizeLine; decide), fun t2 h2 => ?_⟩⟩
        have S5 := same_new h2 (.tup [.str p.1, .int (uppL (l.toL.take k) (ptB D)).1.pts.length])
        refine z _ _ (S5 _ _ (F4.1 _ _ ez nd)) ⟨?_, (F3.trans F4).then S5, ?_⟩
        · rw [take_snocK hp, uppL_snoc]
          exact B4.same S5
        · rw [take_snocK hp, uppL_snoc, List.map_append]
          exact ((I3.mono F4.2.tk).mono (Same.tk S5)).app (.cons (im_newK h2 (.cons (im_str _) (.cons (im_int _) .nil))) .nil)
      · rintro H3 zs ⟨B3, F3, I3⟩ lz ez
        rw [List.take_length] at B3 I3
        refine ⟨d, zs, rfl, .inl ⟨SqL.of ez, fun tp htp => ?_⟩⟩
        have S4 := same_new htp (.tup zs)
        have F4 := F3.then S4
        have m2 := sm_uppL l.toL _ _ m1
        exact st_end (k := .ch l) (d := .tup []) (D3 := stB false (.ch l) D) (B3.same S4) (F4.2.tk _ _ e2) (i2.mono F4.2.tk) (by have := m2.2.1; omega) (by have := m2.2.2; omega)
          (fun h => nomatch h) (fun _ => .inr ⟨_, ⟨_, im_newK htp I3, rfl⟩, by show upp (.ch l) D = _; rw [upp, uppF_L]⟩) (fun H' F B' => qq H' _ ((FB.same S).trans F4) F B')
  | row a =>
    replace e : H1 t = some (.tup (.str "row" :: rs)) := e
    obtain ⟨y1, rfl, j1⟩ := ims1 (show Ims H1 rs [a.d] from hs)
    rw [Kd.ok] at ok
    rw [Kd.sz] at sz bd
    have pa := sz_pos a
    refine and_no rfl e (by decide +kernel) ?_
    refine ⟨(by show 0 ≤ sizeLine; decide), fun t0 h0 => ?_⟩
    have S := same_new h0 (.tup [])
    have e2 := S _ _ e
    have m2 := sm_stB lo a _ _ m1
    dsimp only [gName]
    refine sq_no rfl e2 (by decide +kernel) (tsh_yes rfl e2 rfl ?_)
    refine ⟨_, e2, onS_of (atI_nat (j := 1) rfl) ⟨A, ptB D, y1, a, lo, m + 1, rfl, B1.same S, j1.mono (Same.tk S), ok, by omega, m1, by omega, fun H4 F4 B4 => ⟨(by show 1 ≤ sizeLine; decide), fun t2 h2 => ?_⟩⟩⟩
    have S5 := same_new h2 (.tup [.int (ptB D).pts.length])
    have F5 := F4.then S5
    exact st_end (k := .row a) (d := .tup [iD (ptB D).pts.length]) (D3 := stB lo (.row a) D) (B4.same S5) (F5.2.tk _ _ e2) ((i1.mono (Same.tk S)).mono F5.2.tk) (by have := m2.2.1; omega) (by have := m2.2.2; omega)
      (fun h => by subst h; exact ⟨im_newK h2 (.cons (im_int _) .nil), by show low (.row a) D = _; rw [low]; rfl⟩) (fun h => by subst h; exact .inr ⟨_, ⟨t2, _, rfl, upd_same, rfl⟩, by show upp (.row a) D = _; rw [upp]; rfl⟩) (fun H' F B' => qq H' _ ((FB.same S).trans F5) F B')
theorem ok__law_stand (T : Txt K mg) : ∀ n, FnOk P w K mg base CX0 (n + 3) T.a__law_stand T.fd__law_stand ["_law_told_here", "_law_kind", "_law_low"] (sp_stand n)
  | 0 => by
    refine T.F__law_stand.ok sc__law_stand (fun vs H Q E h => ?_) (fun cdv A0 outer s H vs Q E hr h => ?_)
    · obtain ⟨A, D, x, k, lo, m, rfl, _⟩ := h
      rfl
    · obtain ⟨A, D, x, k, lo, m, _, _, _, _, sz, _⟩ := h
      have := sz_pos k
      omega
  | n + 1 => ok_stand1 T n (ok__law_stand T n)
end
end K53.Internal
namespace K53.Internal
open PySem L2.Internal BO.Internal KK.Internal
seal L2.Internal.PE L2.Internal.PA L2.Internal.PS L2.Internal.PSs L2.Internal.PT L2.Internal.PI
noncomputable def bdQ (D : Bd) : Dt := .lst [.lst (D.pts.map fun i => .flat (.int i)), .lst (D.mks.map Mkg.d), .lst (D.uss.map Us.d), .lst []]
theorem bq_good {c : Cs} {H : Hp} {A : Ad} {r : V} {D : Bd} (B : Bq c H A r D) {n : Nat} (h : Sm D n) (hn : n ≤ 90000) : depD (bdQ D) ≤ 6 ∧ okD (bdQ D) := by
  obtain ⟨b, e0, ⟨mv, e1, h1⟩, ⟨uv, e2, h2⟩, e3, nd⟩ := B
  obtain ⟨a0, a1, a2⟩ := h
  have m1 : ∀ m ∈ D.mks, depD m.f ≤ 2 ∧ okD m.f := fun m hm => by
    obtain ⟨x, _, _, _, _, _, _, d, o⟩ := h1.right m hm
    exact ⟨d, o⟩
  have m2 : ∀ u ∈ D.uss, u.ok := fun u hu => by
    obtain ⟨x, q⟩ := h2.right u hu
    exact q.ok
  have d0 : depDs (D.pts.map fun i => Dt.flat (.int i)) ≤ 3 := depDs_map fun x _ => Nat.zero_le _
  have d1 : depDs (D.mks.map Mkg.d) ≤ 3 := depDs_map fun m hm => by
    have := (m1 m hm).1
    simp [Mkg.d, depD, depDs]
    omega
  have d2 : depDs (D.uss.map Us.d) ≤ 3 := depDs_map fun u _ => u.dep
  refine ⟨?_, (by show 4 ≤ 100000; decide), ⟨by rw [List.length_map]; omega, okDs_map fun _ _ => trivial⟩, ⟨by rw [List.length_map]; omega, okDs_map fun m hm => ⟨by show 4 ≤ 100000; decide, trivial, (m1 m hm).2, trivial, trivial, trivial⟩⟩, ⟨by rw [List.length_map]; omega, okDs_map fun u hu => Us.okd (m2 u hu)⟩, ⟨by show 0 ≤ 100000; decide, trivial⟩, trivial⟩
  simp only [bdQ, depD, depDs]
  omega
theorem dq_data {H : Hp} {A : Ad} {D : Bd} (B : Dq H A D) : Dta H (.ref A.b) (bdQ D) := by
  obtain ⟨mv, m1, m2⟩ := B.e1
  obtain ⟨uv, u1, u2⟩ := B.e2
  exact .lst B.b (.cons (.lst B.e0 (dtas_ints _ _)) (.cons (.lst m1 m2.das) (.cons (.lst u1 u2.das) (.cons (.lst B.e3 .nil) .nil))))
section
variable {P : Program} {w : World} {K : PySem.W.Frag} {mg : Str → Option Value} {base : Heap}
noncomputable def sp_told (c : Cs) : Sp := fun vs H Q _ => ∃ (A : Ad) (r : V) (D : Bd) (n : Nat), vs = [.ref A.b] ∧ Bq c H A r D ∧ Sm D n ∧ n ≤ 90000 ∧ ∀ v H', Same H H' → Dta H' v (bdQ D) → Q v H'
theorem ok__law_told (T : Txt K mg) : FnOk P w K mg base CX0 2 T.a__law_told T.fd__law_told ["_law_board"] (sp_told (cs T)) := by
  have G_Make_told := ok_Make_told (P := P) (w := w) (base := base) T
  have G_NumUse_told := ok_NumUse_told (P := P) (w := w) (base := base) T
  have G_CallUse_told := ok_CallUse_told (P := P) (w := w) (base := base) T
  have G_TakeUse_told := ok_TakeUse_told (P := P) (w := w) (base := base) T
  have G_CaseUse_told := ok_CaseUse_told (P := P) (w := w) (base := base) T
  have G_RowUse_told := ok_RowUse_told (P := P) (w := w) (base := base) T
  refine T.F__law_told.ok sc__law_told (fun vs H Q E h => ?_) (fun cdv A0 outer s H vs Q E hr h => ?_)
  · obtain ⟨A, r, D, n, rfl, _⟩ := h
    rfl
  obtain ⟨A, r, D, n, rfl, B, sm, hn, q⟩ := h
  refine ⟨_, (pss_cons (ps_setLC (j := 1) rfl (blk0 (x := "_law_one") rfl (by decide +kernel) (by decide +kernel) rfl rfl) (pi_list (pec_fld T.cl_Board T.n_Board_makes (cv 0))) (fun _ _ _ _ _ => pts_nil) (fun _ _ _ _ _ => (pec_meth (pe_meth0 (PE.mono (cv 0)) T.cl_Make T.me_Make_told G_Make_told (hr.mono (by decide)) T.b_Make_told .nil pass0))) sc__law_told.nd rfl (Or.inl rfl))
    (pss_cons (ps_setLC (j := 2) rfl (blk0 (x := "_law_one") rfl (by decide +kernel) (by decide +kernel) rfl rfl) (pi_list (pec_fld T.cl_Board T.n_Board_uses (cv 0))) (fun _ _ _ _ _ => pts_nil) (fun _ _ _ _ _ => (PE.or (pec_meth (pe_meth0 (PE.mono (cv 0)) T.cl_NumUse T.me_NumUse_told G_NumUse_told (hr.mono (by decide)) T.b_NumUse_told .nil pass0)) (PE.or (pec_meth (pe_meth0 (PE.mono (cv 0)) T.cl_CallUse T.me_CallUse_told G_CallUse_told (hr.mono (by decide)) T.b_CallUse_told .nil pass0)) (PE.or (pec_meth (pe_meth0 (PE.mono (cv 0)) T.cl_TakeUse T.me_TakeUse_told G_TakeUse_told (hr.mono (by decide)) T.b_TakeUse_told .nil pass0)) (PE.or (pec_meth (pe_meth0 (PE.mono (cv 0)) T.cl_CaseUse T.me_CaseUse_told G_CaseUse_told (hr.mono (by decide)) T.b_CaseUse_told .nil pass0)) (pec_meth (pe_meth0 (PE.mono (cv 0)) T.cl_RowUse T.me_RowUse_told G_RowUse_told (hr.mono (by decide)) T.b_RowUse_told .nil pass0))))))) sc__law_told.nd rfl (Or.inl rfl))
    (pss_one (ps_ret (pe_lst (pa_cons (pe_callTy call_list_of rfl T.z_list bt_list (pa_cons (pec_fld T.cl_Board T.n_Board_points (cv 0)) pa_nil)) (pa_cons (cv 1) (pa_cons (cv 2) (pa_cons (pe_callTy call_list_of rfl T.z_list bt_list (pa_cons (pec_fld T.cl_Board T.n_Board_flows (cv 0)) pa_nil)) pa_nil))))))))), ?_⟩
  have sl : sizeLine = 16777216 := sizeLine_eq
  obtain ⟨mv, em, am⟩ := B.e1
  obtain ⟨uv, eu, au⟩ := B.e2
  have lm := am.length
  have lu := au.length
  have s1 := sm.2.1
  have s2 := sm.2.2
  refine ⟨_, ⟨_, _, B.b, fB_makes _ _ _ _ _⟩, A.p1, rfl, ⟨_, SqL.of em⟩, fun d hd => ?_⟩
  refine lc_gen mv.length (by omega) (fun xs H => Ims H xs ((D.mks.take xs.length).map Mkg.d)) (fun xs H H' h k => h.mono k) hd rfl (fun k H S hk => go_lst em S hk) (fun H S => st_lst em S) .nil ?_ ?_
  · rintro k H2 v H3 xs Z S2 hk ⟨rfl, hv⟩ I2 hl z
    obtain ⟨m, hm, x, dx, f, rfl, ex, hf, _⟩ := am.get (hv _ (SqL.of (S2 _ _ em)))
    have ex2 := S2 _ _ ex
    refine ⟨⟨_, _, ex2, fM_no_told _ _ _ _⟩, x, dx, _, _, _, _, rfl, ex2, fun t ht => z _ _ (same_new ht _) ?_⟩
    show Ims _ (xs ++ [V.ref t]) ((D.mks.take (xs ++ [V.ref t]).length).map Mkg.d)
    rw [List.length_append, List.length_singleton, take_snocK (by rw [hl]; exact hm), List.map_append]
    exact (Ims.mono (Same.tk (same_new ht _)) I2).app (.cons (im_newK ht (.cons (im_str _) (.cons (hf.mono (Same.tk S2)) (.cons (im_int _) (.cons (im_int _) .nil))))) .nil)
  rintro H2 xs S2 I2 hl eD
  have I2' : Ims H2 xs ((D.mks.take xs.length).map Mkg.d) := I2
  rw [hl, lm, List.take_length] at I2'
  have B2 := B.same S2
  have eu2 := S2 _ _ eu
  refine ⟨_, ⟨_, _, B2.b, fB_uses _ _ _ _ _⟩, A.p2, rfl, ⟨_, SqL.of eu2⟩, fun d2 hd2 => ?_⟩
  refine lc_gen uv.length (by omega) (fun xs H => Ims H xs ((D.uss.take xs.length).map Us.d)) (fun xs H H' h k => h.mono k) hd2 rfl (fun k H S hk => go_lst eu2 S hk) (fun H S => st_lst eu2 S) .nil ?_ ?_
  · rintro k H3 v H4 ys Z S3 hk ⟨rfl, hv⟩ I3 hl3 z
    obtain ⟨u, hu, ua⟩ := au.get (hv _ (SqL.of (S3 _ _ eu2)))
    have S := S2.trans S3
    have fin : ∀ {t : Addr} {ts : List V} {ds : List Dt}, H4 t = none → Ims H4 ts ds → Us.d u = .tup ds → Z (.ref t) (upd H4 t (.tup ts)) := fun {t ts ds} ht i e => z _ _ (same_new ht _) (by
      show Ims _ (ys ++ [V.ref t]) ((D.uss.take (ys ++ [V.ref t]).length).map Us.d)
      rw [List.length_append, List.length_singleton, take_snocK (by rw [hl3]; exact hu), List.map_append]
      refine (Ims.mono (Same.tk (same_new ht _)) I3).app (.cons ?_ .nil)
      rw [e]
      exact im_newK ht i)
    have h4 : ∀ (s : Str) (a p sl : Int), Ims H4 [.str s, .int a, .int p, .int sl] (hdD s a p sl) := fun s a p sl => .cons (im_str _) (.cons (im_int _) (.cons (im_int _) (.cons (im_int _) .nil)))
    cases u with
    | num a p sl =>
      obtain ⟨x, dx, rfl, ex⟩ := ua
      have ex2 := S _ _ ex
      exact .inl ⟨⟨_, _, ex2, fU_no_told _ _ _⟩, x, dx, _, _, _, rfl, ex2, fun t ht => fin ht (h4 "num" a p sl) rfl⟩
    | call a p sl y1 y2 =>
      obtain ⟨x, dx, rfl, ex⟩ := ua
      have ex2 := S _ _ ex
      exact .inr (.inl ⟨⟨_, _, ex2, fU2_no_told _ _ _ _ _⟩, x, dx, _, _, _, _, _, rfl, ex2, fun t ht => fin ht ((h4 "call" a p sl).app (.cons (im_int y1) (.cons (im_int y2) .nil))) rfl⟩)
    | take a p sl l =>
      obtain ⟨x, dx, f, rfl, ex, hf, _⟩ := ua
      have ex2 := S _ _ ex
      exact .inr (.inr (.inl ⟨⟨_, _, ex2, fU1F_no_told _ _ _ _⟩, x, dx, _, _, _, _, rfl, ex2, fun t ht => fin ht ((h4 "take" a p sl).app (.cons (hf.mono (Same.tk S)) .nil)) rfl⟩))
    | case a p sl l =>
      obtain ⟨x, dx, f, rfl, ex, hf, _⟩ := ua
      have ex2 := S _ _ ex
      exact .inr (.inr (.inr (.inl ⟨⟨_, _, ex2, fU1A_no_told _ _ _ _⟩, x, dx, _, _, _, _, rfl, ex2, fun t ht => fin ht ((h4 "case" a p sl).app (.cons (hf.mono (Same.tk S)) .nil)) rfl⟩)))
    | row a p sl y1 =>
      obtain ⟨x, dx, rfl, ex⟩ := ua
      have ex2 := S _ _ ex
      exact .inr (.inr (.inr (.inr ⟨⟨_, _, ex2, fU1O_no_told _ _ _ _⟩, x, dx, _, _, _, _, rfl, ex2, fun t ht => fin ht ((h4 "row" a p sl).app (.cons (im_int y1) .nil)) rfl⟩)))
  rintro H3 ys S3 I3 hl3 eD2
  have I3' : Ims H3 ys ((D.uss.take ys.length).map Us.d) := I3
  rw [hl3, lu, List.take_length] at I3'
  have S := S2.trans S3
  have B3 := B.same S
  refine ⟨_, ⟨_, _, B3.b, fB_points _ _ _ _ _⟩, A.p0, _, rfl, .inl (SqL.of B3.e0), fun l0 h0 => ?_⟩
  have S4 := same_new h0 (.lst (D.pts.map V.int))
  refine ⟨_, ⟨_, _, S4 _ _ B3.b, fB_flows _ _ _ _ _⟩, A.p3, _, rfl, .inl (SqL.of (S4 _ _ B3.e3)), fun l3 h3 => ⟨(by show 4 ≤ sizeLine; decide), fun l hl => ?_⟩⟩
  have S5 := same_new h3 (.lst [])
  have S6 := same_new hl (.lst [.ref l0, .ref d, .ref d2, .ref l3])
  have S46 := S4.trans (S5.trans S6)
  refine q _ _ (S.trans S46) ?_
  exact .lst upd_same (.cons (.lst ((S5.trans S6) _ _ upd_same) (dtas_ints _ _)) (.cons (.lst ((S3.trans S46) _ _ eD) (I2'.mono (Same.tk (S3.trans S46))).das) (.cons (.lst (S46 _ _ eD2) (I3'.mono (Same.tk S46)).das) (.cons (.lst (S6 _ _ upd_same) .nil) .nil))))
end
end K53.Internal
namespace K53.Internal
open PySem L2.Internal BO.Internal KK.Internal
seal L2.Internal.PE L2.Internal.PA L2.Internal.PS L2.Internal.PSs L2.Internal.PT L2.Internal.PI
theorem cut_ints (ns : List Int) (lo hi : Option Int) : ∃ ms : List Int, cutV (ns.map V.int) lo hi = ms.map V.int ∧ ms.length ≤ ns.length := by
  refine ⟨(ns.drop (HT.Internal.sIx (ns.map V.int).length 0 lo)).take (HT.Internal.sIx (ns.map V.int).length (ns.map V.int).length hi - HT.Internal.sIx (ns.map V.int).length 0 lo), ?_, ?_⟩
  · unfold cutV
    rw [← List.map_drop, ← List.map_take]
  · rw [List.length_take, List.length_drop]
    omega
theorem TrA.g {H : Hp} {t : Addr} (h : TrA H t 20) : ∃ l : List V, H t = some (.lst l) ∧ ∀ n : Nat, n < 3 → ∃ (v : V) (k : Kd), atI l (n : Int) = some v ∧ Im H v k.d ∧ G k := by
  obtain ⟨j, tj, _, b⟩ := h.j
  obtain ⟨l, i, e, _, _, f⟩ := tj.at
  refine ⟨l, e, fun n hn => ?_⟩
  obtain ⟨v, k, h1, h2, h3, h4⟩ := f n hn
  exact ⟨v, k, h1, h2, h3, by omega⟩
theorem tr_ne {H : Hp} {t a : Addr} {B : Int} {ns : List Int} (h : TrA H t B) (e : H a = some (.lst (ns.map V.int))) : t ≠ a := by
  rintro rfl
  obtain ⟨xs, ks, i, j, el, I, l3, _⟩ := h
  rw [e] at el
  cases ks with
  | nil => cases l3
  | cons k ks =>
    cases I with
    | cons h1 hs =>
      injection el with el
      injection el with el
      cases ns with
      | nil => simp at el
      | cons n ns =>
        simp only [List.map_cons, List.cons_append] at el
        injection el with e1 e2
        subst e1
        obtain ⟨_, _, z, _⟩ := kd_at h1
        cases z
noncomputable def D0 : Bd := ⟨[], [], [], [], 0⟩
noncomputable def Dp (pts : List Int) : Bd := ⟨pts, [], [], [], 0⟩
theorem due_new {H : Hp} {q0 q1 q2 q3 dd : Addr} (h0 : H q0 = none) (h1 : (upd H q0 (.lst [])) q1 = none) (h2 : (upd (upd H q0 (.lst [])) q1 (.lst [])) q2 = none) (h3 : (upd (upd (upd H q0 (.lst [])) q1 (.lst [])) q2 (.lst [])) q3 = none)
    (h4 : (upd (upd (upd (upd H q0 (.lst [])) q1 (.lst [])) q2 (.lst [])) q3 (.lst [])) dd = none) :
    Same H (upd (upd (upd (upd (upd H q0 (.lst [])) q1 (.lst [])) q2 (.lst [])) q3 (.lst [])) dd (.lst [.ref q0, .ref q1, .ref q2, .ref q3])) ∧
    Dq (upd (upd (upd (upd (upd H q0 (.lst [])) q1 (.lst [])) q2 (.lst [])) q3 (.lst [])) dd (.lst [.ref q0, .ref q1, .ref q2, .ref q3])) ⟨dd, dd, q0, q1, q2, q3⟩ (Dp []) ∧ H dd = none ∧ ∀ a ∈ [q0, q1, q2, q3], H a = none := by
  have S1 := same_new h0 (.lst [])
  have e0 : (upd H q0 (.lst [])) q0 = some (.lst []) := upd_same
  generalize upd H q0 (.lst []) = H1 at *
  have S2 := same_new h1 (.lst [])
  have e1 : (upd H1 q1 (.lst [])) q1 = some (.lst []) := upd_same
  have n01 := ne_of_none e0 h1
  generalize upd H1 q1 (.lst []) = H2 at *
  have S3 := same_new h2 (.lst [])
  have e2 : (upd H2 q2 (.lst [])) q2 = some (.lst []) := upd_same
  have n02 := ne_of_none (S2 _ _ e0) h2
  have n12 := ne_of_none e1 h2
  generalize upd H2 q2 (.lst []) = H3 at *
  have S4 := same_new h3 (.lst [])
  have e3 : (upd H3 q3 (.lst [])) q3 = some (.lst []) := upd_same
  have n03 := ne_of_none (S3 _ _ (S2 _ _ e0)) h3
  have n13 := ne_of_none (S3 _ _ e1) h3
  have n23 := ne_of_none e2 h3
  generalize upd H3 q3 (.lst []) = H4 at *
  have S5 := same_new h4 (.lst [.ref q0, .ref q1, .ref q2, .ref q3])
  have S14 := S1.trans (S2.trans (S3.trans S4))
  have f0 := S4 _ _ (S3 _ _ (S2 _ _ e0))
  have f1 := S4 _ _ (S3 _ _ e1)
  have f2 := S4 _ _ e2
  refine ⟨S14.trans S5, ⟨upd_same, ?_, S5 _ _ f0, ⟨_, S5 _ _ f1, .nil⟩, ⟨_, S5 _ _ f2, .nil⟩, S5 _ _ e3, ?_⟩, S14.free h4, fun a ha => ?_⟩
  · simp only [Ad.ls, List.mem_cons, List.not_mem_nil, or_false, not_or]
    exact ⟨Ne.symm (ne_of_none f0 h4), Ne.symm (ne_of_none f1 h4), Ne.symm (ne_of_none f2 h4), Ne.symm (ne_of_none e3 h4)⟩
  · simp only [Ad.ls, List.nodup_cons, List.mem_cons, List.not_mem_nil, or_false, not_or]
    exact ⟨⟨n01, n02, n03⟩, ⟨n12, n13⟩, n23, fun z => z, List.nodup_nil⟩
  · simp only [List.mem_cons, List.not_mem_nil, or_false] at ha
    rcases ha with rfl | rfl | rfl | rfl
    · exact h0
    · exact S1.free h1
    · exact (S1.trans S2).free h2
    · exact (S1.trans (S2.trans S3)).free h3
structure Apart (A M : Ad) : Prop where
  s1 : ∀ a ∈ A.ls, a ∉ M.ls
  s2 : ∀ a ∈ M.ls, a ∉ A.ls
  s3 : A.b ∉ M.ls
  s4 : M.b ∉ A.ls
  s5 : A.b ≠ M.b
theorem Apart.of {H : Hp} {A M : Ad} (ha : ∀ a ∈ A.b :: A.ls, ∃ o, H a = some o) (hm : ∀ a ∈ M.b :: M.ls, H a = none) : Apart A M := by
  have k : ∀ a ∈ A.b :: A.ls, ∀ m ∈ M.b :: M.ls, a ≠ m := fun a h1 m h2 => by
    obtain ⟨o, e⟩ := ha a h1
    exact ne_of_none e (hm m h2)
  exact ⟨fun a h z => k a (by simp [h]) a (by simp [z]) rfl, fun a h z => k a (by simp [z]) a (by simp [h]) rfl, fun z => k A.b (by simp) A.b (by simp [z]) rfl, fun z => k M.b (by simp [z]) M.b (by simp) rfl, k A.b (by simp) M.b (by simp)⟩
theorem fk_fb {A : Ad} {N : List Addr} {H H' : Hp} (F : FB A H H') (h : ∀ a ∈ A.ls, a ∈ N) : Fk N H H' := ⟨fun a o e n => F.1 a o e (fun m => n (h a m)), F.2.tk⟩
theorem _root_.KK.Internal.Bq.rooted {c : Cs} {H : Hp} {A : Ad} {r : V} {pts : List Int} (B : Bq c H A r (Dp pts)) (v : V) : Bq c (upd H A.b (.ins c.B A.bx (fB A.p0 A.p1 A.p2 A.p3 v))) A v (Dp pts) := by
  obtain ⟨b, e0, ⟨mv, m1, m2⟩, ⟨uv, u1, u2⟩, e3, nd⟩ := B
  have n0 := ne_of e0 b (fun h => nomatch h)
  have n1 := ne_of m1 b (fun h => nomatch h)
  have n2 := ne_of u1 b (fun h => nomatch h)
  have n3 := ne_of e3 b (fun h => nomatch h)
  cases m2
  cases u2
  exact ⟨upd_same, by rw [upd_ne n0]; exact e0, ⟨[], by rw [upd_ne n1]; exact m1, .nil⟩, ⟨[], by rw [upd_ne n2]; exact u1, .nil⟩, by rw [upd_ne n3]; exact e3, nd⟩
theorem _root_.KK.Internal.Dq.insd {H : Hp} {A : Ad} {a : Addr} {C dx : Addr} {fs fs' : List (Str × V)} {pts : List Int} (B : Dq H A (Dp pts)) (e : H a = some (.ins C dx fs)) : Dq (upd H a (.ins C dx fs')) A (Dp pts) := by
  obtain ⟨b, nb, e0, ⟨mv, m1, m2⟩, ⟨uv, u1, u2⟩, e3, nd⟩ := B
  have nb' := ne_of b e (fun h => nomatch h)
  have n0 := ne_of e0 e (fun h => nomatch h)
  have n1 := ne_of m1 e (fun h => nomatch h)
  have n2 := ne_of u1 e (fun h => nomatch h)
  have n3 := ne_of e3 e (fun h => nomatch h)
  cases m2
  cases u2
  exact ⟨by rw [upd_ne nb']; exact b, nb, by rw [upd_ne n0]; exact e0, ⟨[], by rw [upd_ne n1]; exact m1, .nil⟩, ⟨[], by rw [upd_ne n2]; exact u1, .nil⟩, by rw [upd_ne n3]; exact e3, nd⟩
theorem root_if {tl te : TE} {u : TS} {D : Ends} {σ : St} {H H' : Hp} {n : Int} (Pr : Hp → Prop) (hu : ∀ H2, Pr H2 → u D σ H2) (hl : ∀ Q : VK, Q (.int n) H → tl σ H Q) (ht : ∀ Q : VK, Q .non H' → te σ H Q) (p1 : 0 < n → Pr H') (p2 : ¬ 0 < n → Pr H) :
    tSeq (tIfS (cT (tOp (cI0 fun i j => .bl (decide (j < i))) tl (tC (.int 0)))) (tDrop te) tNext) u D σ H := by
  refine hl _ ?_
  show if decide ((0 : Int) < n) = true then _ else _
  refine ite2 (fun h => ?_) (fun h => ?_)
  · exact ht _ (hu _ (p1 (of_decide_eq_true h)))
  · exact hu _ (p2 fun z => h (decide_eq_true z))
section
variable {P : Program} {w : World} {K : PySem.W.Frag} {mg : Str → Option Value} {base : Heap}
theorem all_law (T : Txt K mg) {a : Addr} {fd : FuncData} (F : Fun K "law" "law" s_law a fd) : FnOk P w K mg base CX0 60 a fd ["_law_script"] (sp_law K) := by
  have G__law_words := ok__law_words (P := P) (w := w) (base := base) T
  have G__law_mix := ok__law_mix (P := P) (w := w) (base := base) T
  have G__law_triples := ok__law_triples (P := P) (w := w) (base := base) T
  have G__law_alike := ok__law_alike (P := P) (w := w) (base := base) T 7
  have G__law_stand := ok__law_stand (P := P) (w := w) (base := base) T 20
  have G__law_told := ok__law_told (P := P) (w := w) (base := base) T
  have G_lower := (ok_lu (P := P) (w := w) (base := base) T 20).1
  have G_upper := (ok_lu (P := P) (w := w) (base := base) T 20).2
  have G_Board___init__ := ok_Board___init__ (P := P) (w := w) (base := base) T
  have G_Board_point := ok_Board_point (P := P) (w := w) (base := base) T
  have G_Board_rooted := ok_Board_rooted (P := P) (w := w) (base := base) T
  refine F.ok sc_law (fun vs H Q E h => ?_) (fun cdv A0 outer s H vs Q E hr h => ?_)
  · obtain ⟨a, ns, rfl, _⟩ := h
    rfl
  obtain ⟨ad, ns, rfl, hsq, hlen, q⟩ := h
  refine ⟨_, (pss_cons (ps_set (i := 1) sc_law.nd rfl (Or.inl rfl) (pe_op oc_mod (pe_callB (call_sumA rfl) rfl T.z_sum bt_sum (pa_cons (pe_slice sl_list (cv 0) po_none (po_some pe_int)) pa_nil)) (pe_op oc_pow pe_int pe_int)))
    (pss_cons (ps_set (i := 2) sc_law.nd rfl (Or.inl rfl) (pe_call G__law_words (hr.mono (by decide)) rfl T.m__law_words T.k__law_words T.b__law_words .nil pass0 (pa_cons (cv 1) pa_nil)))
    (pss_cons (ps_set (i := 3) sc_law.nd rfl (Or.inl rfl) (pe_make0 T.mk_Board G_Board___init__ (hr.mono (by decide)) rfl T.m_Board T.b_Board___init__ .nil pass0))
    (pss_cons (ps_set (i := 4) sc_law.nd rfl (Or.inl rfl) (pe_lst (pa_cons (pe_lst pa_nil) (pa_cons (pe_lst pa_nil) (pa_cons (pe_lst pa_nil) (pa_cons (pe_lst pa_nil) pa_nil))))))
    (pss_cons (ps_for PassesOwn.never rfl (pi_range1 rfl T.z_range (pa_cons (pe_op oc_mod (pe_op oc_fdiv (cv 1) pe_int) pe_int) pa_nil)) (pg_name (i := 5) sc_law.nd rfl (Or.inl rfl))
      (pss_cons (ps_expr (pec_app (pe_bm PySem.F.plainAttrs_list PySem.F.slot_list_append PySem.F.type_list_append mt_append (PE.mono (pe_ix xc_list (cv 4) pe_int (fun _ _ => rfl))) (pa_cons (PE.mono (pe_op oc_mod (pe_call G__law_mix (hr.mono (by decide)) rfl T.m__law_mix T.k__law_mix T.b__law_mix .nil pass0 (pa_cons (cv 1) (pa_cons (cv 5) pa_nil))) (pe_op oc_pow pe_int pe_int))) pa_nil))))
      (pss_one (ps_expr (pec_meth (pe_meth (PE.mono (cv 3)) T.cl_Board T.me_Board_point G_Board_point (hr.mono (by decide)) T.b_Board_point .nil pass0 (pa_cons (pe_ix xc_list (pe_ix xc_list (cv 4) pe_int (fun _ _ => rfl)) (cv 5) (fun _ _ => rfl)) pa_nil)))))))
    (pss_cons (ps_set (i := 6) sc_law.nd rfl (Or.inl rfl) (pe_op oc_mod (pe_op oc_fdiv (cv 1) pe_int) (pe_callB (call_max2 rfl) rfl T.z_max bt_max (pa_cons pe_int (pa_cons (pe_callB call_len_seq rfl T.z_len bt_len (pa_cons (pe_ix xc_list (cv 4) pe_int (fun _ _ => rfl)) pa_nil)) pa_nil)))))
    (pss_cons (ps_if (ptc_cmpR oc_gt (pe_callB call_len_seq rfl T.z_len bt_len (pa_cons (pe_ix xc_list (cv 4) pe_int (fun _ _ => rfl)) pa_nil)) pe_int (nomark _))
      (pss_one (ps_expr (pec_meth (pe_meth (PE.mono (cv 3)) T.cl_Board T.me_Board_rooted G_Board_rooted (hr.mono (by decide)) T.b_Board_rooted .nil pass0 (pa_cons (cv 6) pa_nil)))))
      pss_nil)
    (pss_cons (ps_for PassesOwn.never rfl (pi_enum rfl T.z_enumerate (pa_cons (pe_call G__law_triples (hr.mono (by decide)) rfl T.m__law_triples T.k__law_triples T.b__law_triples .nil pass0 (pa_cons (cv 2) (pa_cons (pe_slice sl_list (cv 0) (po_some pe_int) po_none) (pa_cons pe_int (pa_cons pe_int pa_nil))))) pa_nil)) (pg_tup rfl (pgs_cons (pg_name (i := 5) sc_law.nd rfl (Or.inl rfl)) (pgs_cons (pg_name (i := 7) sc_law.nd rfl (Or.inl rfl)) pgs_nil)))
      (pss_cons (ps_set (i := 8) sc_law.nd rfl (Or.inl rfl) (pe_ix xc_list (cv 7) (pe_op oc_mod (pe_call G__law_mix (hr.mono (by decide)) rfl T.m__law_mix T.k__law_mix T.b__law_mix .nil pass0 (pa_cons (cv 1) (pa_cons (cv 5) pa_nil))) pe_int) (fun _ _ => rfl)))
      (pss_cons (ps_set (i := 9) sc_law.nd rfl (Or.inl rfl) (pe_cmpR oc_eq (pe_op oc_mod (pe_call G__law_mix (hr.mono (by decide)) rfl T.m__law_mix T.k__law_mix T.b__law_mix .nil pass0 (pa_cons (cv 1) (pa_cons (pe_op oc_add (cv 5) pe_int) pa_nil))) pe_int) pe_int (nomark _)))
      (pss_cons (ps_set (i := 10) sc_law.nd rfl (Or.inl rfl) (pe_call G__law_stand (hr.mono (by decide)) rfl T.m__law_stand T.k__law_stand T.b__law_stand .nil pass0 (pa_cons (cv 4) (pa_cons (cv 8) (pa_cons (cv 9) pa_nil)))))
      (pss_cons (ps_set (i := 11) sc_law.nd rfl (Or.inl rfl) (pe_ifExp (pt_val (cv 9)) (pe_call G_lower (hr.mono (by decide)) rfl T.m_lower T.k_lower T.b_lower .nil pass0 (pa_cons (cv 3) (pa_cons (cv 8) pa_nil))) (pe_call G_upper (hr.mono (by decide)) rfl T.m_upper T.k_upper T.b_upper .nil pass0 (pa_cons (cv 3) (pa_cons (cv 8) pa_nil)))))
      (pss_one (ps_if (pt_not (pt_val (pe_call G__law_alike (hr.mono (by decide)) rfl T.m__law_alike T.k__law_alike T.b__law_alike .nil pass0 (pa_cons (cv 11) (pa_cons (cv 10) pa_nil)))))
        (pss_one (ps_ret pe_bl))
        pss_nil)))))))
    (pss_one (ps_ret (pe_and (pe_call G__law_alike (hr.mono (by decide)) rfl T.m__law_alike T.k__law_alike T.b__law_alike .nil pass0 (pa_cons (pe_call G__law_told (hr.mono (by decide)) rfl T.m__law_told T.k__law_told T.b__law_told .nil pass0 (pa_cons (cv 3) pa_nil)) (pa_cons (cv 4) pa_nil))) (pe_one (pe_call G__law_alike (hr.mono (by decide)) rfl T.m__law_alike T.k__law_alike T.b__law_alike .nil pass0 (pa_cons (pec_fld T.cl_Board T.n_Board_root (cv 3)) (pa_cons (cv 6) pa_nil))))))))))))))), ?_⟩
  have sl : sizeLine = 16777216 := sizeLine_eq
  obtain ⟨ms, em, lm⟩ := cut_ints ns none (some 1)
  obtain ⟨ks, ek, lk⟩ := cut_ints ns (some 1) none
  refine ⟨_, rfl, ad, _, rfl, hsq, fun c1 hc1 => ⟨c1, ms, rfl, SqL.of (by rw [upd_same, em]), fun n0 => ⟨⟨by decide, by decide, by decide⟩, (by show (0 : Int) < 10 ^ (30 : Int).toNat; decide +kernel), ?_⟩⟩⟩
  dsimp only [gName]
  generalize n0 % 10 ^ (30 : Int).toNat = c
  refine ⟨c, rfl, fun wl Hw S1 _ hw => ?_⟩
  have Sw := (same_new hc1 (.lst (cutV (ns.map V.int) none (some 1)))).trans S1
  dsimp only [gName]
  refine fun b bx hb hbx _ => ⟨b, bx, rfl, upd_same, fun p0 p1 p2 p3 H2 fr nd eb L kp => ⟨rfl, ?_⟩⟩
  have Sm1 : Same Hw (upd (upd Hw bx (.own b)) b (.ins (cs T).B bx [])) := same_make hb hbx
  have S2 : Same Hw H2 := fun a o e => kp a o (Sm1 a o e) (ne_of_none e hb)
  have B2 : Bq (cs T) H2 ⟨b, bx, p0, p1, p2, p3⟩ (.int 0) (Dp []) := ⟨eb, L.at (i := 0) rfl rfl, ⟨[], L.at (i := 1) rfl rfl, .nil⟩, ⟨[], L.at (i := 2) rfl rfl, .nil⟩, L.at (i := 3) rfl rfl, nd⟩
  have fA : ∀ a ∈ [p0, p1, p2, p3], Hw a = none := fun a ha => Sm1.free (fr a ha)
  clear L fr kp Sm1 hbx
  dsimp only [gName]
  refine ⟨(by show 0 ≤ sizeLine; decide), fun q0 h0 => ⟨(by show 0 ≤ sizeLine; decide), fun q1 h1 => ⟨(by show 0 ≤ sizeLine; decide), fun q2 h2 => ⟨(by show 0 ≤ sizeLine; decide), fun q3 h3 => ⟨(by show 4 ≤ sizeLine; decide), fun dd hdd => ?_⟩⟩⟩⟩⟩
  obtain ⟨S3, D3, f4, f5⟩ := due_new h0 h1 h2 h3 hdd
  dsimp only [gName]
  generalize upd (upd (upd (upd (upd H2 q0 (.lst [])) q1 (.lst [])) q2 (.lst [])) q3 (.lst [])) dd (.lst [.ref q0, .ref q1, .ref q2, .ref q3]) = H3 at S3 D3 ⊢
  have ap : Apart ⟨b, bx, p0, p1, p2, p3⟩ ⟨dd, dd, q0, q1, q2, q3⟩ := Apart.of (H := H2) (fun a ha => by
      simp only [Ad.ls, List.mem_cons, List.not_mem_nil, or_false] at ha
      rcases ha with rfl | rfl | rfl | rfl | rfl
      · exact ⟨_, B2.b⟩
      · exact ⟨_, B2.e0⟩
      · obtain ⟨mv, e, _⟩ := B2.e1; exact ⟨_, e⟩
      · obtain ⟨mv, e, _⟩ := B2.e2; exact ⟨_, e⟩
      · exact ⟨_, B2.e3⟩) (fun a ha => by
      rcases List.mem_cons.mp ha with rfl | ha
      · exact f4
      · exact f5 a ha)
  have B3 := B2.same S3
  have Sw3 := S2.trans S3
  have fM : ∀ a ∈ [q0, q1, q2, q3], Hw a = none := fun a ha => S2.free (f5 a ha)
  clear S3 S2 B2 f4 f5 h0 h1 h2 h3 hdd
  obtain ⟨A, eA⟩ : ∃ A : Ad, A = ⟨b, bx, p0, p1, p2, p3⟩ := ⟨_, rfl⟩
  obtain ⟨M, eM⟩ : ∃ M : Ad, M = ⟨dd, dd, q0, q1, q2, q3⟩ := ⟨_, rfl⟩
  rw [← eA, ← eM] at ap
  rw [← eA] at B3
  rw [← eM] at D3
  replace fA : ∀ a ∈ A.ls, Hw a = none := by rw [eA]; exact fA
  replace fM : ∀ a ∈ M.ls, Hw a = none := by rw [eM]; exact fM
  have hbA : b = A.b := by rw [eA]
  have hdM : dd = M.b := by rw [eM]
  have fb : Hw A.b = none := by rw [← hbA]; exact hb
  rw [hbA, hdM]
  clear eA eM hbA hdM hb eb nd
  have r0 := Int.emod_nonneg (c / 7) (show (6 : Int) ≠ 0 by decide)
  have r1 := Int.emod_lt_of_pos (c / 7) (show (0 : Int) < 6 by decide)
  refine ⟨⟨by decide, by decide⟩, (by show (0 : Int) < 6; decide), c / 7 % 6, rfl, by omega, by omega, for_range (fun i σ H4 => ∃ (pts : List Int) (o5 : Option V), σ = [some (.ref ad), some (.int c), some (.ref wl), some (.ref A.b), some (.ref M.b), o5, none, none, none, none, none, none] ∧ pts.length = i ∧ Same Hw H4 ∧ Bq (cs T) H4 A (.int 0) (Dp pts) ∧ Dq H4 M (Dp pts))
    ⟨[], none, rfl, rfl, Sw3, B3, D3⟩ ?_ ?_⟩
  · rintro i σ H4 hi ⟨pts, o5, rfl, hl, S4, B4, D4⟩
    have i6 : i < 6 := by omega
    refine ⟨_, D4.b, onS_of (atI_nat (j := 0) rfl) ⟨⟨_, D4.e0⟩, c, 0 + (i : Int), rfl, by omega, by omega, fun z0 z1 z2 => ⟨⟨by decide, by decide, by decide⟩, (by show (0 : Int) < 10 ^ (9 : Int).toNat; decide +kernel), _, D4.e0, by rw [List.length_map]; show pts.length < _; omega, ?_⟩⟩⟩
    dsimp only
    generalize z0 % 10 ^ (9 : Int).toNat = v
    have D5 : Dq (upd H4 M.p0 (.lst (pts.map V.int ++ [.int v]))) M (Dp (pts ++ [v])) := D4.pt v
    have B5 := B4.other (ys := pts.map V.int ++ [.int v]) D4.e0 (ap.s2 _ (by simp [Ad.ls]))
    have S5 : Same Hw (upd H4 M.p0 (.lst (pts.map V.int ++ [.int v]))) := same_updK S4 (fM _ (by simp [Ad.ls])) _
    show cMeth _ _ _ _ _ _ _ _ (upd H4 M.p0 (.lst (pts.map V.int ++ [.int v]))) _
    generalize upd H4 M.p0 (.lst (pts.map V.int ++ [.int v])) = H5 at D5 B5 S5 ⊢
    have hat : atI ((pts ++ [v]).map V.int) (0 + (i : Int)) = some (.int v) := by
      rw [Int.zero_add]
      exact atI_nat (by rw [List.map_append, List.getElem?_append_right (by rw [List.length_map]; omega), List.length_map, hl, Nat.sub_self]; rfl)
    refine ⟨⟨_, _, B5.b, fB_no_point _ _ _ _ _⟩, _, D5.b, onS_of (atI_nat (j := 0) rfl) ⟨_, D5.e0, onS_of hat ⟨A.b, A.bx, A.p0, A.p1, A.p2, A.p3, _, .int v, _, rfl, B5.b, B5.e0, by rw [List.length_map]; show pts.length < _; omega, ?_⟩⟩⟩
    refine ⟨pts ++ [v], _, rfl, by rw [List.length_append, hl]; rfl, same_updK S5 (fA _ (by simp [Ad.ls])) _, B5.pt v, D5.other B5.e0 (ap.s1 _ (by simp [Ad.ls])) (fun z => ap.s4 (by rw [← z]; simp [Ad.ls]))⟩
  rintro σ H4 ⟨pts, o5, rfl, hl, S4, B4, D4⟩
  have l6 : pts.length ≤ 6 := by omega
  refine ⟨⟨by decide, by decide⟩, _, D4.b, onS_of (atI_nat (j := 0) rfl) ⟨M.p0, _, rfl, .inl (SqL.of D4.e0), 1, _, rfl, ?_⟩⟩
  have hr0 : ¬ (0 : Int) < (pts.length : Int) → c / 42 % (if ((((Dp pts).pts.map V.int).length : Nat) : Int) > 1 then ((((Dp pts).pts.map V.int).length : Nat) : Int) else 1) = 0 := fun h => by
    rw [List.length_map]
    show c / 42 % (if ((pts.length : Nat) : Int) > 1 then ((pts.length : Nat) : Int) else 1) = 0
    rw [if_neg (by omega)]
    exact Int.emod_one _
  refine ⟨(by show (0 : Int) < if _ then _ else _; split <;> omega), ?_⟩
  dsimp only [gName]
  generalize c / 42 % (if ((((Dp pts).pts.map V.int).length : Nat) : Int) > 1 then ((((Dp pts).pts.map V.int).length : Nat) : Int) else 1) = ro at hr0 ⊢
  refine root_if (n := (pts.length : Int)) (H' := upd H4 A.b (.ins (cs T).B A.bx (fB A.p0 A.p1 A.p2 A.p3 (.int ro)))) (fun H5 => Same Hw H5 ∧ Bq (cs T) H5 A (.int ro) (Dp pts) ∧ Dq H5 M (Dp pts)) ?_ (fun Q h => ⟨_, D4.b, onS_of (atI_nat (j := 0) rfl) ⟨M.p0, _, rfl, .inl (SqL.of D4.e0), by rw [List.length_map]; exact h⟩⟩) (fun Q h => ⟨⟨_, _, B4.b, fB_no_rooted _ _ _ _ _⟩, A.b, A.bx, A.p0, A.p1, A.p2, A.p3, _, _, rfl, B4.b, h⟩) (fun _ => ⟨same_updK S4 fb _, B4.rooted _, D4.insd B4.b⟩) (fun h => ⟨S4, by rw [hr0 h]; exact B4, D4⟩)
  rintro H5 ⟨S5, B5, D5⟩
  refine ⟨_, rfl, ad, _, rfl, (Sw.trans S5).seq hsq, fun c2 hc2 => ?_⟩
  have s6 := same_new hc2 (.lst (cutV (ns.map V.int) (some 1) none))
  have e6 : (upd H5 c2 (.lst (cutV (ns.map V.int) (some 1) none))) c2 = some (.lst (ks.map V.int)) := by rw [upd_same, ek]
  have B6 := B5.same s6
  have D6 := D5.same s6
  generalize upd H5 c2 (.lst (cutV (ns.map V.int) (some 1) none)) = H6 at s6 e6 B6 D6 ⊢
  refine ⟨wl, c2, ks, 4, rfl, hw.same (S5.trans s6), e6, by omega, fun st H7 S7 fst stk => ?_⟩
  obtain ⟨xs, est, lxs, hxs⟩ := stk
  have B7 := B6.same S7
  have D7 := D6.same S7
  have nst : st ∉ A.ls ++ M.ls := fun z => by
    rcases List.mem_append.mp z with z | z
    · exact B6.out fst z
    · exact D6.out fst z
  have nt : ∀ {t : Addr}, TrA H7 t 20 → t ∉ A.ls ++ M.ls := fun {t} tr z => by
    obtain ⟨_, f0, ⟨mv, f1, g1⟩, ⟨uv, f2, g2⟩, f3, _⟩ := B7
    obtain ⟨_, _, k0, ⟨mv', k1, j1⟩, ⟨uv', k2, j2⟩, k3, _⟩ := D7
    cases g1
    cases g2
    cases j1
    cases j2
    simp only [Ad.ls, List.cons_append, List.nil_append, List.mem_cons, List.not_mem_nil, or_false] at z
    rcases z with z | z | z | z | z | z | z | z
    · exact tr_ne tr f0 z
    · exact tr_ne (ns := []) tr f1 z
    · exact tr_ne (ns := []) tr f2 z
    · exact tr_ne (ns := []) tr f3 z
    · exact tr_ne tr k0 z
    · exact tr_ne (ns := []) tr k1 z
    · exact tr_ne (ns := []) tr k2 z
    · exact tr_ne (ns := []) tr k3 z
  refine ⟨st, rfl, ⟨_, SqL.of est⟩, for_enum (xs := xs) (fun i σ H8 => ∃ (D : Bd) (o5 o7 o8 o9 o10 o11 : Option V), σ = [some (.ref ad), some (.int c), some (.ref wl), some (.ref A.b), some (.ref M.b), o5, some (.int ro), o7, o8, o9, o10, o11] ∧ Fk (A.ls ++ M.ls) H7 H8 ∧ Bq (cs T) H8 A (.int ro) D ∧ Dq H8 M D ∧ Sm D (6 + 60 * i))
    ⟨Dp pts, _, _, _, _, _, _, rfl, Fk.same (Same.refl _), B7, D7, l6, Nat.zero_le _, Nat.zero_le _⟩ (fun i σ H8 _ ⟨_, _, _, _, _, _, _, _, F, _⟩ => SqL.of (F.1 _ _ est nst)) ?_ ?_⟩
  · rintro i v σ H8 tp hv ⟨D, o5, o7, o8, o9, o10, o11, rfl, F8, B8, D8, sm⟩ htp
    have hi := (List.getElem?_eq_some_iff.mp hv).1
    obtain ⟨t, rfl, _, tr⟩ := hxs v (List.mem_of_getElem? hv)
    have s9 := same_new htp (.tup [.int (i : Int), .ref t])
    refine ⟨tp, _, rfl, SqT.of upd_same, rfl, _, _, rfl, _, _, rfl, rfl, ?_⟩
    have F9 := F8.trans (Fk.same s9)
    have B9 := B8.same s9
    have D9 := D8.same s9
    show tOp _ _ _ _ (upd H8 tp (.tup [.int (i : Int), .ref t])) _
    generalize upd H8 tp (.tup [.int (i : Int), .ref t]) = H9 at F9 B9 D9 ⊢
    obtain ⟨l, el, f⟩ := (tr.fk (nt tr) F9).g
    refine ⟨c, (i : Int), rfl, by omega, by omega, fun n0 z0 z1 => ⟨(by show (0 : Int) < 3; decide), l, el, ?_⟩⟩
    have h3 := Int.emod_nonneg n0 (show (3 : Int) ≠ 0 by decide)
    have h4 := Int.emod_lt_of_pos n0 (show (0 : Int) < 3 by decide)
    obtain ⟨x, k, g, im, Gk⟩ := f (n0 % 3).toNat (by omega)
    rw [Int.toNat_of_nonneg h3] at g
    refine onS_of g ?_
    dsimp only [gName]
    refine ⟨c, (i : Int) + 7, rfl, by omega, by omega, fun n1 z2 z3 => ⟨(by show (0 : Int) < 2; decide), ?_⟩⟩
    dsimp only [tC, cEq, gName]
    generalize (false ^^ decide (n1 % 2 = 0)) = lo
    obtain ⟨ok, sz⟩ := Gk
    refine ⟨M, D, x, k, lo, 6 + 60 * i, rfl, D9, im, ok, sz, sm, by omega, fun H10 F10 D10 => ?_⟩
    have B10 := B9.fb F10 ap.s3 ap.s1
    have im10 := im.mono F10.2.tk
    have Fa : Fk (A.ls ++ M.ls) H7 H10 := F9.trans (fk_fb F10 fun a h => List.mem_append.mpr (.inr h))
    dsimp only [gName]
    have smk := sm_stB lo k D _ sm
    have pk := sz_pos k
    refine ⟨lo, rfl, ?_⟩
    cases lo with
    | true =>
      refine iteT ⟨A, .int ro, D, x, k, 6 + 60 * i, rfl, B10, im10, ok, sz, sm, by omega, fun H11 F11 B11 => ?_⟩
      have D11 := D10.fb F11 ap.s4 ap.s2
      have Fb := Fa.trans (fk_fb F11 fun a h => List.mem_append.mpr (.inl h))
      exact ⟨.int D.pts.length, .int D.pts.length, .flat (.int D.pts.length), rfl, .flat rfl, .flat rfl, Nat.zero_le _, trivial, fun H12 S12 => ⟨true, rfl, iteF ⟨_, _, _, _, _, _, _, rfl, Fb.trans (Fk.same S12), B11.same S12, D11.same S12, smk.mono (by omega)⟩⟩⟩
    | false =>
      refine iteF ⟨A, .int ro, D, x, k, 6 + 60 * i, rfl, B10, im10, ok, sz, sm, by omega, fun H11 F11 B11 => ?_⟩
      have D11 := D10.fb F11 ap.s4 ap.s2
      have Fb := Fa.trans (fk_fb F11 fun a h => List.mem_append.mpr (.inl h))
      exact ⟨.int D.pts.length, .int D.pts.length, .flat (.int D.pts.length), rfl, .flat rfl, .flat rfl, Nat.zero_le _, trivial, fun H12 S12 => ⟨true, rfl, iteF ⟨_, _, _, _, _, _, _, rfl, Fb.trans (Fk.same S12), B11.same S12, D11.same S12, smk.mono (by omega)⟩⟩⟩
  · rintro σ H8 ⟨D, o5, o7, o8, o9, o10, o11, rfl, F8, B8, D8, sm⟩
    have gd := bq_good B8 sm (by omega)
    refine ⟨A, .int ro, D, _, rfl, B8, sm, by omega, fun v H9 S9 dv => ?_⟩
    refine ⟨v, .ref M.b, bdQ D, rfl, dv, (dq_data D8).same S9, gd.1, gd.2, fun H10 S10 => ⟨true, rfl, iteT ?_⟩⟩
    exact ⟨_, ⟨_, _, (B8.same (S9.trans S10)).b, fB_root _ _ _ _ _⟩, .int ro, .int ro, .flat (.int ro), rfl, .flat rfl, .flat rfl, Nat.zero_le _, trivial, fun H11 S11 => q _⟩
end
end K53.Internal
noncomputable def PySem.W.Fast.tw11252639769806105860 : Nat := 0
noncomputable def PySem.W.Fast.tw8407150324389877800 : Nat := 0
noncomputable def PySem.W.Fast.tw724956723165659393 : Nat := 0
noncomputable def PySem.W.Fast.tw2669924149728264287 : Nat := 0
noncomputable def PySem.W.Fast.tw1415115690195628730 : Nat := 0
noncomputable def PySem.W.Fast.tw13694452679758475766 : Nat := 0
noncomputable def PySem.W.Fast.tw1351035719279585209 : Nat := 0
noncomputable def PySem.W.Fast.tw11656276259180942723 : Nat := 0
noncomputable def PySem.W.Fast.tw15585888925244581996 : Nat := 0
namespace K53.Internal
open PySem L2.Internal
theorem all_mk {l : PySem.W.OpenLaw} {w : World} {K : PySem.W.Frag} {h : Heap} {mg : Str → Option Value} {fa fL : Addr} (X : K.In h) (G : h.Ns mainGlobals mg) (hfa : mg "law" = some (.ref fa))
    {f1 : Addr} {od1 an1 : Option Addr} {sl1 : Array (Option Value)} {oc1 kV1 dc1 pm1 cd1 ct1 : Value} {f2 : Addr} {od2 an2 : Option Addr} {sl2 : Array (Option Value)} {oc2 kV2 dc2 pm2 cd2 ct2 : Value} {f3 : Addr} {od3 an3 : Option Addr} {sl3 : Array (Option Value)} {oc3 kV3 dc3 pm3 cd3 ct3 : Value} {f4 : Addr} {od4 an4 : Option Addr} {sl4 : Array (Option Value)} {oc4 kV4 dc4 pm4 cd4 ct4 : Value} {f5 : Addr} {od5 an5 : Option Addr} {sl5 : Array (Option Value)} {oc5 kV5 dc5 pm5 cd5 ct5 : Value} {f6 : Addr} {od6 an6 : Option Addr} {sl6 : Array (Option Value)} {oc6 kV6 dc6 pm6 cd6 ct6 : Value} {f7 : Addr} {od7 an7 : Option Addr} {sl7 : Array (Option Value)} {oc7 kV7 dc7 pm7 cd7 ct7 : Value} {f8 : Addr} {od8 an8 : Option Addr} {sl8 : Array (Option Value)} {oc8 kV8 dc8 pm8 cd8 ct8 : Value} {f9 : Addr} {od9 an9 : Option Addr} {sl9 : Array (Option Value)} {oc9 kV9 dc9 pm9 cd9 ct9 : Value} {f10 : Addr} {od10 an10 : Option Addr} {sl10 : Array (Option Value)} {oc10 kV10 dc10 pm10 cd10 ct10 : Value} {f11 : Addr} {od11 an11 : Option Addr} {sl11 : Array (Option Value)} {oc11 kV11 dc11 pm11 cd11 ct11 : Value} {f12 : Addr} {od12 an12 : Option Addr} {sl12 : Array (Option Value)} {oc12 kV12 dc12 pm12 cd12 ct12 : Value} {f13 : Addr} {od13 an13 : Option Addr} {sl13 : Array (Option Value)} {oc13 kV13 dc13 pm13 cd13 ct13 : Value} {f14 : Addr} {od14 an14 : Option Addr} {sl14 : Array (Option Value)} {oc14 kV14 dc14 pm14 cd14 ct14 : Value} {f15 : Addr} {od15 an15 : Option Addr} {sl15 : Array (Option Value)} {oc15 kV15 dc15 pm15 cd15 ct15 : Value} {C16 : Addr} {f17 : Addr} {od17 an17 : Option Addr} {sl17 : Array (Option Value)} {oc17 kV17 dc17 pm17 cd17 ct17 : Value} {f18 : Addr} {od18 an18 : Option Addr} {sl18 : Array (Option Value)} {oc18 kV18 dc18 pm18 cd18 ct18 : Value} {C19 : Addr} {f20 : Addr} {od20 an20 : Option Addr} {sl20 : Array (Option Value)} {oc20 kV20 dc20 pm20 cd20 ct20 : Value} {C21 : Addr} {f22 : Addr} {od22 an22 : Option Addr} {sl22 : Array (Option Value)} {oc22 kV22 dc22 pm22 cd22 ct22 : Value} {C23 : Addr} {f24 : Addr} {od24 an24 : Option Addr} {sl24 : Array (Option Value)} {oc24 kV24 dc24 pm24 cd24 ct24 : Value} {f25 : Addr} {od25 an25 : Option Addr} {sl25 : Array (Option Value)} {oc25 kV25 dc25 pm25 cd25 ct25 : Value} {C26 : Addr} {f27 : Addr} {od27 an27 : Option Addr} {sl27 : Array (Option Value)} {oc27 kV27 dc27 pm27 cd27 ct27 : Value} {f28 : Addr} {od28 an28 : Option Addr} {sl28 : Array (Option Value)} {oc28 kV28 dc28 pm28 cd28 ct28 : Value} {C29 : Addr} {f30 : Addr} {od30 an30 : Option Addr} {sl30 : Array (Option Value)} {oc30 kV30 dc30 pm30 cd30 ct30 : Value} {f31 : Addr} {od31 an31 : Option Addr} {sl31 : Array (Option Value)} {oc31 kV31 dc31 pm31 cd31 ct31 : Value} {C32 : Addr} {f33 : Addr} {od33 an33 : Option Addr} {sl33 : Array (Option Value)} {oc33 kV33 dc33 pm33 cd33 ct33 : Value} {f34 : Addr} {od34 an34 : Option Addr} {sl34 : Array (Option Value)} {oc34 kV34 dc34 pm34 cd34 ct34 : Value} {C35 : Addr} {f36 : Addr} {od36 an36 : Option Addr} {sl36 : Array (Option Value)} {oc36 kV36 dc36 pm36 cd36 ct36 : Value} {f37 : Addr} {od37 an37 : Option Addr} {sl37 : Array (Option Value)} {oc37 kV37 dc37 pm37 cd37 ct37 : Value} {f38 : Addr} {od38 an38 : Option Addr} {sl38 : Array (Option Value)} {oc38 kV38 dc38 pm38 cd38 ct38 : Value} {f39 : Addr} {od39 an39 : Option Addr} {sl39 : Array (Option Value)} {oc39 kV39 dc39 pm39 cd39 ct39 : Value} {f40 : Addr} {od40 an40 : Option Addr} {sl40 : Array (Option Value)} {oc40 kV40 dc40 pm40 cd40 ct40 : Value}
    {odL anL : Option Addr} {slL : Array (Option Value)} {ocL kVL dcL pmL cdL ctL : Value}
    (a1 : PySem.W.nsIn K mainGlobals "lower" = some (some (.ref f1)))
    (l1 : K.lookup f1 = some ⟨oc1, od1, .func (PySem.W.fnOf "lower" "lower" (defArgs s_lower) (defBody s_lower) (defScope s_lower) .none kV1 dc1 pm1 an1 cd1 ct1), sl1⟩)
    (c1 : PySem.W.codeIn K cd1 "lower" = true)
    (k1 : PySem.W.keepIn K (.ref f1) = true)
    (a2 : PySem.W.nsIn K mainGlobals "upper" = some (some (.ref f2)))
    (l2 : K.lookup f2 = some ⟨oc2, od2, .func (PySem.W.fnOf "upper" "upper" (defArgs s_upper) (defBody s_upper) (defScope s_upper) .none kV2 dc2 pm2 an2 cd2 ct2), sl2⟩)
    (c2 : PySem.W.codeIn K cd2 "upper" = true)
    (k2 : PySem.W.keepIn K (.ref f2) = true)
    (a3 : PySem.W.nsIn K mainGlobals "uppers" = some (some (.ref f3)))
    (l3 : K.lookup f3 = some ⟨oc3, od3, .func (PySem.W.fnOf "uppers" "uppers" (defArgs s_uppers) (defBody s_uppers) (defScope s_uppers) .none kV3 dc3 pm3 an3 cd3 ct3), sl3⟩)
    (c3 : PySem.W.codeIn K cd3 "uppers" = true)
    (k3 : PySem.W.keepIn K (.ref f3) = true)
    (a4 : PySem.W.nsIn K mainGlobals "_law_stem" = some (some (.ref f4)))
    (l4 : K.lookup f4 = some ⟨oc4, od4, .func (PySem.W.fnOf "_law_stem" "_law_stem" (defArgs s__law_stem) (defBody s__law_stem) (defScope s__law_stem) .none kV4 dc4 pm4 an4 cd4 ct4), sl4⟩)
    (c4 : PySem.W.codeIn K cd4 "_law_stem" = true)
    (k4 : PySem.W.keepIn K (.ref f4) = true)
    (a5 : PySem.W.nsIn K mainGlobals "_law_words" = some (some (.ref f5)))
    (l5 : K.lookup f5 = some ⟨oc5, od5, .func (PySem.W.fnOf "_law_words" "_law_words" (defArgs s__law_words) (defBody s__law_words) (defScope s__law_words) .none kV5 dc5 pm5 an5 cd5 ct5), sl5⟩)
    (c5 : PySem.W.codeIn K cd5 "_law_words" = true)
    (k5 : PySem.W.keepIn K (.ref f5) = true)
    (a6 : PySem.W.nsIn K mainGlobals "_law_alike" = some (some (.ref f6)))
    (l6 : K.lookup f6 = some ⟨oc6, od6, .func (PySem.W.fnOf "_law_alike" "_law_alike" (defArgs s__law_alike) (defBody s__law_alike) (defScope s__law_alike) .none kV6 dc6 pm6 an6 cd6 ct6), sl6⟩)
    (c6 : PySem.W.codeIn K cd6 "_law_alike" = true)
    (k6 : PySem.W.keepIn K (.ref f6) = true)
    (a7 : PySem.W.nsIn K mainGlobals "_law_mix" = some (some (.ref f7)))
    (l7 : K.lookup f7 = some ⟨oc7, od7, .func (PySem.W.fnOf "_law_mix" "_law_mix" (defArgs s__law_mix) (defBody s__law_mix) (defScope s__law_mix) .none kV7 dc7 pm7 an7 cd7 ct7), sl7⟩)
    (c7 : PySem.W.codeIn K cd7 "_law_mix" = true)
    (k7 : PySem.W.keepIn K (.ref f7) = true)
    (a8 : PySem.W.nsIn K mainGlobals "_law_leaf" = some (some (.ref f8)))
    (l8 : K.lookup f8 = some ⟨oc8, od8, .func (PySem.W.fnOf "_law_leaf" "_law_leaf" (defArgs s__law_leaf) (defBody s__law_leaf) (defScope s__law_leaf) .none kV8 dc8 pm8 an8 cd8 ct8), sl8⟩)
    (c8 : PySem.W.codeIn K cd8 "_law_leaf" = true)
    (k8 : PySem.W.keepIn K (.ref f8) = true)
    (a9 : PySem.W.nsIn K mainGlobals "_law_pop" = some (some (.ref f9)))
    (l9 : K.lookup f9 = some ⟨oc9, od9, .func (PySem.W.fnOf "_law_pop" "_law_pop" (defArgs s__law_pop) (defBody s__law_pop) (defScope s__law_pop) .none kV9 dc9 pm9 an9 cd9 ct9), sl9⟩)
    (c9 : PySem.W.codeIn K cd9 "_law_pop" = true)
    (k9 : PySem.W.keepIn K (.ref f9) = true)
    (a10 : PySem.W.nsIn K mainGlobals "_law_fields" = some (some (.ref f10)))
    (l10 : K.lookup f10 = some ⟨oc10, od10, .func (PySem.W.fnOf "_law_fields" "_law_fields" (defArgs s__law_fields) (defBody s__law_fields) (defScope s__law_fields) .none kV10 dc10 pm10 an10 cd10 ct10), sl10⟩)
    (c10 : PySem.W.codeIn K cd10 "_law_fields" = true)
    (k10 : PySem.W.keepIn K (.ref f10) = true)
    (a11 : PySem.W.nsIn K mainGlobals "_law_knit" = some (some (.ref f11)))
    (l11 : K.lookup f11 = some ⟨oc11, od11, .func (PySem.W.fnOf "_law_knit" "_law_knit" (defArgs s__law_knit) (defBody s__law_knit) (defScope s__law_knit) .none kV11 dc11 pm11 an11 cd11 ct11), sl11⟩)
    (c11 : PySem.W.codeIn K cd11 "_law_knit" = true)
    (k11 : PySem.W.keepIn K (.ref f11) = true)
    (a12 : PySem.W.nsIn K mainGlobals "_law_triples" = some (some (.ref f12)))
    (l12 : K.lookup f12 = some ⟨oc12, od12, .func (PySem.W.fnOf "_law_triples" "_law_triples" (defArgs s__law_triples) (defBody s__law_triples) (defScope s__law_triples) .none kV12 dc12 pm12 an12 cd12 ct12), sl12⟩)
    (c12 : PySem.W.codeIn K cd12 "_law_triples" = true)
    (k12 : PySem.W.keepIn K (.ref f12) = true)
    (a13 : PySem.W.nsIn K mainGlobals "_law_told" = some (some (.ref f13)))
    (l13 : K.lookup f13 = some ⟨oc13, od13, .func (PySem.W.fnOf "_law_told" "_law_told" (defArgs s__law_told) (defBody s__law_told) (defScope s__law_told) .none kV13 dc13 pm13 an13 cd13 ct13), sl13⟩)
    (c13 : PySem.W.codeIn K cd13 "_law_told" = true)
    (k13 : PySem.W.keepIn K (.ref f13) = true)
    (a14 : PySem.W.nsIn K mainGlobals "_law_use_due" = some (some (.ref f14)))
    (l14 : K.lookup f14 = some ⟨oc14, od14, .func (PySem.W.fnOf "_law_use_due" "_law_use_due" (defArgs s__law_use_due) (defBody s__law_use_due) (defScope s__law_use_due) .none kV14 dc14 pm14 an14 cd14 ct14), sl14⟩)
    (c14 : PySem.W.codeIn K cd14 "_law_use_due" = true)
    (k14 : PySem.W.keepIn K (.ref f14) = true)
    (a15 : PySem.W.nsIn K mainGlobals "_law_stand" = some (some (.ref f15)))
    (l15 : K.lookup f15 = some ⟨oc15, od15, .func (PySem.W.fnOf "_law_stand" "_law_stand" (defArgs s__law_stand) (defBody s__law_stand) (defScope s__law_stand) .none kV15 dc15 pm15 an15 cd15 ct15), sl15⟩)
    (c15 : PySem.W.codeIn K cd15 "_law_stand" = true)
    (k15 : PySem.W.keepIn K (.ref f15) = true)
    (a16 : PySem.W.nsIn K mainGlobals "Make" = some (some (.ref C16)))
    (pg16 : PySem.W.plainGet K C16 Str.empty = true)
    (hd16 : PySem.W.hasDictIn K C16 = true)
    (po16 : PySem.W.plainOver K C16 = true)
    (sa16 : PySem.W.findIn K (.ref C16) "__setattr__" = some (some (.builtin "object.__setattr__")))
    (t1_16 : PySem.W.findIn K (.ref C16) "__class__" = some (some (.builtin "object.__class__")))
    (t2_16 : PySem.W.specialIn K (.builtin "object.__class__") "__get__" = some (some (.builtin "getset_descriptor.__get__")))
    (t3_16 : PySem.W.takesIn K (.builtin "object.__class__") = some true)
    (t4_16 : PySem.W.mroIn K C16 (.type "object") = some true)
    (n16_shape : PySem.W.findIn K (.ref C16) "shape" = some none)
    (n16_parts : PySem.W.findIn K (.ref C16) "parts" = some none)
    (n16_at : PySem.W.findIn K (.ref C16) "at" = some none)
    (n16_place : PySem.W.findIn K (.ref C16) "place" = some none)
    (i17 : PySem.W.findIn K (.ref C16) "__init__" = some (some (.ref f17)))
    (j17 : PySem.W.isFn K (.ref f17) = true)
    (l17 : K.lookup f17 = some ⟨oc17, od17, .func (PySem.W.fnOf "__init__" "Make.__init__" (defArgs s_Make___init__) (defBody s_Make___init__) (defScope s_Make___init__) .none kV17 dc17 pm17 an17 cd17 ct17), sl17⟩)
    (c17 : PySem.W.codeIn K cd17 "Make.__init__" = true)
    (k17 : PySem.W.keepIn K (.ref f17) = true)
    (mk16 : PySem.W.makesIn K C16 = true)
    (kc16 : PySem.W.keepIn K (.ref C16) = true)
    (i18 : PySem.W.findIn K (.ref C16) "told" = some (some (.ref f18)))
    (j18 : PySem.W.isFn K (.ref f18) = true)
    (l18 : K.lookup f18 = some ⟨oc18, od18, .func (PySem.W.fnOf "told" "Make.told" (defArgs s_Make_told) (defBody s_Make_told) (defScope s_Make_told) .none kV18 dc18 pm18 an18 cd18 ct18), sl18⟩)
    (c18 : PySem.W.codeIn K cd18 "Make.told" = true)
    (k18 : PySem.W.keepIn K (.ref f18) = true)
    (a19 : PySem.W.nsIn K mainGlobals "Use" = some (some (.ref C19)))
    (pg19 : PySem.W.plainGet K C19 Str.empty = true)
    (hd19 : PySem.W.hasDictIn K C19 = true)
    (po19 : PySem.W.plainOver K C19 = true)
    (sa19 : PySem.W.findIn K (.ref C19) "__setattr__" = some (some (.builtin "object.__setattr__")))
    (t1_19 : PySem.W.findIn K (.ref C19) "__class__" = some (some (.builtin "object.__class__")))
    (t2_19 : PySem.W.specialIn K (.builtin "object.__class__") "__get__" = some (some (.builtin "getset_descriptor.__get__")))
    (t3_19 : PySem.W.takesIn K (.builtin "object.__class__") = some true)
    (t4_19 : PySem.W.mroIn K C19 (.type "object") = some true)
    (n19_at : PySem.W.findIn K (.ref C19) "at" = some none)
    (n19_place : PySem.W.findIn K (.ref C19) "place" = some none)
    (n19_slot : PySem.W.findIn K (.ref C19) "slot" = some none)
    (i20 : PySem.W.findIn K (.ref C19) "__init__" = some (some (.ref f20)))
    (j20 : PySem.W.isFn K (.ref f20) = true)
    (l20 : K.lookup f20 = some ⟨oc20, od20, .func (PySem.W.fnOf "__init__" "Use.__init__" (defArgs s_Use___init__) (defBody s_Use___init__) (defScope s_Use___init__) .none kV20 dc20 pm20 an20 cd20 ct20), sl20⟩)
    (c20 : PySem.W.codeIn K cd20 "Use.__init__" = true)
    (k20 : PySem.W.keepIn K (.ref f20) = true)
    (cg20 : PySem.W.specialIn K (.ref C19) "__getattribute__" = some (some (.builtin "type.__getattribute__")))
    (cr20 : PySem.W.readsIn K C19 (.type "type") = true)
    (cf20 : PySem.W.findCls K (.ref C19) (.type "type") "__init__" = some (.val (.ref f20)))
    (mk19 : PySem.W.makesIn K C19 = true)
    (kc19 : PySem.W.keepIn K (.ref C19) = true)
    (a21 : PySem.W.nsIn K mainGlobals "NumUse" = some (some (.ref C21)))
    (pg21 : PySem.W.plainGet K C21 Str.empty = true)
    (hd21 : PySem.W.hasDictIn K C21 = true)
    (po21 : PySem.W.plainOver K C21 = true)
    (sa21 : PySem.W.findIn K (.ref C21) "__setattr__" = some (some (.builtin "object.__setattr__")))
    (t1_21 : PySem.W.findIn K (.ref C21) "__class__" = some (some (.builtin "object.__class__")))
    (t2_21 : PySem.W.specialIn K (.builtin "object.__class__") "__get__" = some (some (.builtin "getset_descriptor.__get__")))
    (t3_21 : PySem.W.takesIn K (.builtin "object.__class__") = some true)
    (t4_21 : PySem.W.mroIn K C21 (.type "object") = some true)
    (n21_at : PySem.W.findIn K (.ref C21) "at" = some none)
    (n21_place : PySem.W.findIn K (.ref C21) "place" = some none)
    (n21_slot : PySem.W.findIn K (.ref C21) "slot" = some none)
    (i22 : PySem.W.findIn K (.ref C21) "told" = some (some (.ref f22)))
    (j22 : PySem.W.isFn K (.ref f22) = true)
    (l22 : K.lookup f22 = some ⟨oc22, od22, .func (PySem.W.fnOf "told" "NumUse.told" (defArgs s_NumUse_told) (defBody s_NumUse_told) (defScope s_NumUse_told) .none kV22 dc22 pm22 an22 cd22 ct22), sl22⟩)
    (c22 : PySem.W.codeIn K cd22 "NumUse.told" = true)
    (k22 : PySem.W.keepIn K (.ref f22) = true)
    (mk21 : PySem.W.makesIn K C21 = true)
    (kc21 : PySem.W.keepIn K (.ref C21) = true)
    (ii21 : PySem.W.findIn K (.ref C21) "__init__" = some (some (.ref f20)))
    (a23 : PySem.W.nsIn K mainGlobals "CallUse" = some (some (.ref C23)))
    (pg23 : PySem.W.plainGet K C23 Str.empty = true)
    (hd23 : PySem.W.hasDictIn K C23 = true)
    (po23 : PySem.W.plainOver K C23 = true)
    (sa23 : PySem.W.findIn K (.ref C23) "__setattr__" = some (some (.builtin "object.__setattr__")))
    (t1_23 : PySem.W.findIn K (.ref C23) "__class__" = some (some (.builtin "object.__class__")))
    (t2_23 : PySem.W.specialIn K (.builtin "object.__class__") "__get__" = some (some (.builtin "getset_descriptor.__get__")))
    (t3_23 : PySem.W.takesIn K (.builtin "object.__class__") = some true)
    (t4_23 : PySem.W.mroIn K C23 (.type "object") = some true)
    (n23_arg : PySem.W.findIn K (.ref C23) "arg" = some none)
    (n23_out : PySem.W.findIn K (.ref C23) "out" = some none)
    (n23_at : PySem.W.findIn K (.ref C23) "at" = some none)
    (n23_place : PySem.W.findIn K (.ref C23) "place" = some none)
    (n23_slot : PySem.W.findIn K (.ref C23) "slot" = some none)
    (i24 : PySem.W.findIn K (.ref C23) "__init__" = some (some (.ref f24)))
    (j24 : PySem.W.isFn K (.ref f24) = true)
    (l24 : K.lookup f24 = some ⟨oc24, od24, .func (PySem.W.fnOf "__init__" "CallUse.__init__" (defArgs s_CallUse___init__) (defBody s_CallUse___init__) (defScope s_CallUse___init__) .none kV24 dc24 pm24 an24 cd24 ct24), sl24⟩)
    (c24 : PySem.W.codeIn K cd24 "CallUse.__init__" = true)
    (k24 : PySem.W.keepIn K (.ref f24) = true)
    (mk23 : PySem.W.makesIn K C23 = true)
    (kc23 : PySem.W.keepIn K (.ref C23) = true)
    (i25 : PySem.W.findIn K (.ref C23) "told" = some (some (.ref f25)))
    (j25 : PySem.W.isFn K (.ref f25) = true)
    (l25 : K.lookup f25 = some ⟨oc25, od25, .func (PySem.W.fnOf "told" "CallUse.told" (defArgs s_CallUse_told) (defBody s_CallUse_told) (defScope s_CallUse_told) .none kV25 dc25 pm25 an25 cd25 ct25), sl25⟩)
    (c25 : PySem.W.codeIn K cd25 "CallUse.told" = true)
    (k25 : PySem.W.keepIn K (.ref f25) = true)
    (a26 : PySem.W.nsIn K mainGlobals "TakeUse" = some (some (.ref C26)))
    (pg26 : PySem.W.plainGet K C26 Str.empty = true)
    (hd26 : PySem.W.hasDictIn K C26 = true)
    (po26 : PySem.W.plainOver K C26 = true)
    (sa26 : PySem.W.findIn K (.ref C26) "__setattr__" = some (some (.builtin "object.__setattr__")))
    (t1_26 : PySem.W.findIn K (.ref C26) "__class__" = some (some (.builtin "object.__class__")))
    (t2_26 : PySem.W.specialIn K (.builtin "object.__class__") "__get__" = some (some (.builtin "getset_descriptor.__get__")))
    (t3_26 : PySem.W.takesIn K (.builtin "object.__class__") = some true)
    (t4_26 : PySem.W.mroIn K C26 (.type "object") = some true)
    (n26_fields : PySem.W.findIn K (.ref C26) "fields" = some none)
    (n26_at : PySem.W.findIn K (.ref C26) "at" = some none)
    (n26_place : PySem.W.findIn K (.ref C26) "place" = some none)
    (n26_slot : PySem.W.findIn K (.ref C26) "slot" = some none)
    (i27 : PySem.W.findIn K (.ref C26) "__init__" = some (some (.ref f27)))
    (j27 : PySem.W.isFn K (.ref f27) = true)
    (l27 : K.lookup f27 = some ⟨oc27, od27, .func (PySem.W.fnOf "__init__" "TakeUse.__init__" (defArgs s_TakeUse___init__) (defBody s_TakeUse___init__) (defScope s_TakeUse___init__) .none kV27 dc27 pm27 an27 cd27 ct27), sl27⟩)
    (c27 : PySem.W.codeIn K cd27 "TakeUse.__init__" = true)
    (k27 : PySem.W.keepIn K (.ref f27) = true)
    (mk26 : PySem.W.makesIn K C26 = true)
    (kc26 : PySem.W.keepIn K (.ref C26) = true)
    (i28 : PySem.W.findIn K (.ref C26) "told" = some (some (.ref f28)))
    (j28 : PySem.W.isFn K (.ref f28) = true)
    (l28 : K.lookup f28 = some ⟨oc28, od28, .func (PySem.W.fnOf "told" "TakeUse.told" (defArgs s_TakeUse_told) (defBody s_TakeUse_told) (defScope s_TakeUse_told) .none kV28 dc28 pm28 an28 cd28 ct28), sl28⟩)
    (c28 : PySem.W.codeIn K cd28 "TakeUse.told" = true)
    (k28 : PySem.W.keepIn K (.ref f28) = true)
    (a29 : PySem.W.nsIn K mainGlobals "CaseUse" = some (some (.ref C29)))
    (pg29 : PySem.W.plainGet K C29 Str.empty = true)
    (hd29 : PySem.W.hasDictIn K C29 = true)
    (po29 : PySem.W.plainOver K C29 = true)
    (sa29 : PySem.W.findIn K (.ref C29) "__setattr__" = some (some (.builtin "object.__setattr__")))
    (t1_29 : PySem.W.findIn K (.ref C29) "__class__" = some (some (.builtin "object.__class__")))
    (t2_29 : PySem.W.specialIn K (.builtin "object.__class__") "__get__" = some (some (.builtin "getset_descriptor.__get__")))
    (t3_29 : PySem.W.takesIn K (.builtin "object.__class__") = some true)
    (t4_29 : PySem.W.mroIn K C29 (.type "object") = some true)
    (n29_arms : PySem.W.findIn K (.ref C29) "arms" = some none)
    (n29_at : PySem.W.findIn K (.ref C29) "at" = some none)
    (n29_place : PySem.W.findIn K (.ref C29) "place" = some none)
    (n29_slot : PySem.W.findIn K (.ref C29) "slot" = some none)
    (i30 : PySem.W.findIn K (.ref C29) "__init__" = some (some (.ref f30)))
    (j30 : PySem.W.isFn K (.ref f30) = true)
    (l30 : K.lookup f30 = some ⟨oc30, od30, .func (PySem.W.fnOf "__init__" "CaseUse.__init__" (defArgs s_CaseUse___init__) (defBody s_CaseUse___init__) (defScope s_CaseUse___init__) .none kV30 dc30 pm30 an30 cd30 ct30), sl30⟩)
    (c30 : PySem.W.codeIn K cd30 "CaseUse.__init__" = true)
    (k30 : PySem.W.keepIn K (.ref f30) = true)
    (mk29 : PySem.W.makesIn K C29 = true)
    (kc29 : PySem.W.keepIn K (.ref C29) = true)
    (i31 : PySem.W.findIn K (.ref C29) "told" = some (some (.ref f31)))
    (j31 : PySem.W.isFn K (.ref f31) = true)
    (l31 : K.lookup f31 = some ⟨oc31, od31, .func (PySem.W.fnOf "told" "CaseUse.told" (defArgs s_CaseUse_told) (defBody s_CaseUse_told) (defScope s_CaseUse_told) .none kV31 dc31 pm31 an31 cd31 ct31), sl31⟩)
    (c31 : PySem.W.codeIn K cd31 "CaseUse.told" = true)
    (k31 : PySem.W.keepIn K (.ref f31) = true)
    (a32 : PySem.W.nsIn K mainGlobals "RowUse" = some (some (.ref C32)))
    (pg32 : PySem.W.plainGet K C32 Str.empty = true)
    (hd32 : PySem.W.hasDictIn K C32 = true)
    (po32 : PySem.W.plainOver K C32 = true)
    (sa32 : PySem.W.findIn K (.ref C32) "__setattr__" = some (some (.builtin "object.__setattr__")))
    (t1_32 : PySem.W.findIn K (.ref C32) "__class__" = some (some (.builtin "object.__class__")))
    (t2_32 : PySem.W.specialIn K (.builtin "object.__class__") "__get__" = some (some (.builtin "getset_descriptor.__get__")))
    (t3_32 : PySem.W.takesIn K (.builtin "object.__class__") = some true)
    (t4_32 : PySem.W.mroIn K C32 (.type "object") = some true)
    (n32_out : PySem.W.findIn K (.ref C32) "out" = some none)
    (n32_at : PySem.W.findIn K (.ref C32) "at" = some none)
    (n32_place : PySem.W.findIn K (.ref C32) "place" = some none)
    (n32_slot : PySem.W.findIn K (.ref C32) "slot" = some none)
    (i33 : PySem.W.findIn K (.ref C32) "__init__" = some (some (.ref f33)))
    (j33 : PySem.W.isFn K (.ref f33) = true)
    (l33 : K.lookup f33 = some ⟨oc33, od33, .func (PySem.W.fnOf "__init__" "RowUse.__init__" (defArgs s_RowUse___init__) (defBody s_RowUse___init__) (defScope s_RowUse___init__) .none kV33 dc33 pm33 an33 cd33 ct33), sl33⟩)
    (c33 : PySem.W.codeIn K cd33 "RowUse.__init__" = true)
    (k33 : PySem.W.keepIn K (.ref f33) = true)
    (mk32 : PySem.W.makesIn K C32 = true)
    (kc32 : PySem.W.keepIn K (.ref C32) = true)
    (i34 : PySem.W.findIn K (.ref C32) "told" = some (some (.ref f34)))
    (j34 : PySem.W.isFn K (.ref f34) = true)
    (l34 : K.lookup f34 = some ⟨oc34, od34, .func (PySem.W.fnOf "told" "RowUse.told" (defArgs s_RowUse_told) (defBody s_RowUse_told) (defScope s_RowUse_told) .none kV34 dc34 pm34 an34 cd34 ct34), sl34⟩)
    (c34 : PySem.W.codeIn K cd34 "RowUse.told" = true)
    (k34 : PySem.W.keepIn K (.ref f34) = true)
    (a35 : PySem.W.nsIn K mainGlobals "Board" = some (some (.ref C35)))
    (pg35 : PySem.W.plainGet K C35 Str.empty = true)
    (hd35 : PySem.W.hasDictIn K C35 = true)
    (po35 : PySem.W.plainOver K C35 = true)
    (sa35 : PySem.W.findIn K (.ref C35) "__setattr__" = some (some (.builtin "object.__setattr__")))
    (t1_35 : PySem.W.findIn K (.ref C35) "__class__" = some (some (.builtin "object.__class__")))
    (t2_35 : PySem.W.specialIn K (.builtin "object.__class__") "__get__" = some (some (.builtin "getset_descriptor.__get__")))
    (t3_35 : PySem.W.takesIn K (.builtin "object.__class__") = some true)
    (t4_35 : PySem.W.mroIn K C35 (.type "object") = some true)
    (n35_points : PySem.W.findIn K (.ref C35) "points" = some none)
    (n35_makes : PySem.W.findIn K (.ref C35) "makes" = some none)
    (n35_uses : PySem.W.findIn K (.ref C35) "uses" = some none)
    (n35_flows : PySem.W.findIn K (.ref C35) "flows" = some none)
    (n35_root : PySem.W.findIn K (.ref C35) "root" = some none)
    (i36 : PySem.W.findIn K (.ref C35) "__init__" = some (some (.ref f36)))
    (j36 : PySem.W.isFn K (.ref f36) = true)
    (l36 : K.lookup f36 = some ⟨oc36, od36, .func (PySem.W.fnOf "__init__" "Board.__init__" (defArgs s_Board___init__) (defBody s_Board___init__) (defScope s_Board___init__) .none kV36 dc36 pm36 an36 cd36 ct36), sl36⟩)
    (c36 : PySem.W.codeIn K cd36 "Board.__init__" = true)
    (k36 : PySem.W.keepIn K (.ref f36) = true)
    (mk35 : PySem.W.makesIn K C35 = true)
    (kc35 : PySem.W.keepIn K (.ref C35) = true)
    (i37 : PySem.W.findIn K (.ref C35) "point" = some (some (.ref f37)))
    (j37 : PySem.W.isFn K (.ref f37) = true)
    (l37 : K.lookup f37 = some ⟨oc37, od37, .func (PySem.W.fnOf "point" "Board.point" (defArgs s_Board_point) (defBody s_Board_point) (defScope s_Board_point) .none kV37 dc37 pm37 an37 cd37 ct37), sl37⟩)
    (c37 : PySem.W.codeIn K cd37 "Board.point" = true)
    (k37 : PySem.W.keepIn K (.ref f37) = true)
    (i38 : PySem.W.findIn K (.ref C35) "make" = some (some (.ref f38)))
    (j38 : PySem.W.isFn K (.ref f38) = true)
    (l38 : K.lookup f38 = some ⟨oc38, od38, .func (PySem.W.fnOf "make" "Board.make" (defArgs s_Board_make) (defBody s_Board_make) (defScope s_Board_make) .none kV38 dc38 pm38 an38 cd38 ct38), sl38⟩)
    (c38 : PySem.W.codeIn K cd38 "Board.make" = true)
    (k38 : PySem.W.keepIn K (.ref f38) = true)
    (i39 : PySem.W.findIn K (.ref C35) "use" = some (some (.ref f39)))
    (j39 : PySem.W.isFn K (.ref f39) = true)
    (l39 : K.lookup f39 = some ⟨oc39, od39, .func (PySem.W.fnOf "use" "Board.use" (defArgs s_Board_use) (defBody s_Board_use) (defScope s_Board_use) .none kV39 dc39 pm39 an39 cd39 ct39), sl39⟩)
    (c39 : PySem.W.codeIn K cd39 "Board.use" = true)
    (k39 : PySem.W.keepIn K (.ref f39) = true)
    (i40 : PySem.W.findIn K (.ref C35) "rooted" = some (some (.ref f40)))
    (j40 : PySem.W.isFn K (.ref f40) = true)
    (l40 : K.lookup f40 = some ⟨oc40, od40, .func (PySem.W.fnOf "rooted" "Board.rooted" (defArgs s_Board_rooted) (defBody s_Board_rooted) (defScope s_Board_rooted) .none kV40 dc40 pm40 an40 cd40 ct40), sl40⟩)
    (c40 : PySem.W.codeIn K cd40 "Board.rooted" = true)
    (k40 : PySem.W.keepIn K (.ref f40) = true)
    (z_all : PySem.W.nsIn K mainGlobals "all" = some none)
    (z_bool : PySem.W.nsIn K mainGlobals "bool" = some none)
    (z_enumerate : PySem.W.nsIn K mainGlobals "enumerate" = some none)
    (z_int : PySem.W.nsIn K mainGlobals "int" = some none)
    (z_isinstance : PySem.W.nsIn K mainGlobals "isinstance" = some none)
    (z_len : PySem.W.nsIn K mainGlobals "len" = some none)
    (z_list : PySem.W.nsIn K mainGlobals "list" = some none)
    (z_max : PySem.W.nsIn K mainGlobals "max" = some none)
    (z_range : PySem.W.nsIn K mainGlobals "range" = some none)
    (z_sorted : PySem.W.nsIn K mainGlobals "sorted" = some none)
    (z_str : PySem.W.nsIn K mainGlobals "str" = some none)
    (z_sum : PySem.W.nsIn K mainGlobals "sum" = some none)
    (z_tuple : PySem.W.nsIn K mainGlobals "tuple" = some none)
    (z_zip : PySem.W.nsIn K mainGlobals "zip" = some none)
    (aL : PySem.W.nsIn K mainGlobals "law" = some (some (.ref fL))) (lL : K.lookup fL = some ⟨ocL, odL, .func (PySem.W.fnOf "law" "law" (defArgs s_law) (defBody s_law) (defScope s_law) .none kVL dcL pmL anL cdL ctL), slL⟩) (cL : PySem.W.codeIn K cdL "law" = true) (kL : PySem.W.keepIn K (.ref fL) = true) :
    ∃ fd : FuncData, (∀ (s : Shared) (v : Value), BindsTo s fd ⟨[v], []⟩ [("_law_script", v)]) ∧ ∀ base : Heap, K.In base → base.Ns mainGlobals mg → FnOk l.prog w K mg base CX0 60 fa fd ["_law_script"] (sp_law K) := by
  have e := hfa.symm.trans (PySem.W.mg_of X G aL)
  cases e
  have T : Txt K mg := ⟨f1, _, fun_mk (st := s_lower) l1 c1 k1, (fun_mk (st := s_lower) l1 c1 k1).binds (ps := ["board", "kind"]) (fun _ _ _ _ _ _ => lS (fun _ => lS (fun _ => l0 rfl))), PySem.W.mg_of X G a1, k1,
    f2, _, fun_mk (st := s_upper) l2 c2 k2, (fun_mk (st := s_upper) l2 c2 k2).binds (ps := ["board", "kind"]) (fun _ _ _ _ _ _ => lS (fun _ => lS (fun _ => l0 rfl))), PySem.W.mg_of X G a2, k2,
    f3, _, fun_mk (st := s_uppers) l3 c3 k3, (fun_mk (st := s_uppers) l3 c3 k3).binds (ps := ["board", "members"]) (fun _ _ _ _ _ _ => lS (fun _ => lS (fun _ => l0 rfl))), PySem.W.mg_of X G a3, k3,
    f4, _, fun_mk (st := s__law_stem) l4 c4 k4, (fun_mk (st := s__law_stem) l4 c4 k4).binds (ps := ["_law_cell", "_law_size"]) (fun _ _ _ _ _ _ => lS (fun _ => lS (fun _ => l0 rfl))), PySem.W.mg_of X G a4, k4,
    f5, _, fun_mk (st := s__law_words) l5 c5 k5, (fun_mk (st := s__law_words) l5 c5 k5).binds (ps := ["_law_cell"]) (fun _ _ _ _ _ _ => lS (fun _ => l0 rfl)), PySem.W.mg_of X G a5, k5,
    f6, _, fun_mk (st := s__law_alike) l6 c6 k6, (fun_mk (st := s__law_alike) l6 c6 k6).binds (ps := ["_law_found", "_law_due"]) (fun _ _ _ _ _ _ => lS (fun _ => lS (fun _ => l0 rfl))), PySem.W.mg_of X G a6, k6,
    f7, _, fun_mk (st := s__law_mix) l7 c7 k7, (fun_mk (st := s__law_mix) l7 c7 k7).binds (ps := ["_law_cell", "_law_k"]) (fun _ _ _ _ _ _ => lS (fun _ => lS (fun _ => l0 rfl))), PySem.W.mg_of X G a7, k7,
    f8, _, fun_mk (st := s__law_leaf) l8 c8 k8, (fun_mk (st := s__law_leaf) l8 c8 k8).binds (ps := ["_law_c"]) (fun _ _ _ _ _ _ => lS (fun _ => l0 rfl)), PySem.W.mg_of X G a8, k8,
    f9, _, fun_mk (st := s__law_pop) l9 c9 k9, (fun_mk (st := s__law_pop) l9 c9 k9).binds (ps := ["_law_stack"]) (fun _ _ _ _ _ _ => lS (fun _ => l0 rfl)), PySem.W.mg_of X G a9, k9,
    f10, _, fun_mk (st := s__law_fields) l10 c10 k10, (fun_mk (st := s__law_fields) l10 c10 k10).binds (ps := ["_law_words_here", "_law_stack", "_law_shape", "_law_c"]) (fun _ _ _ _ _ _ => lS (fun _ => lS (fun _ => lS (fun _ => lS (fun _ => l0 rfl))))), PySem.W.mg_of X G a10, k10,
    f11, _, fun_mk (st := s__law_knit) l11 c11 k11, (fun_mk (st := s__law_knit) l11 c11 k11).binds (ps := ["_law_words_here", "_law_stack", "_law_c"]) (fun _ _ _ _ _ _ => lS (fun _ => lS (fun _ => lS (fun _ => l0 rfl)))), PySem.W.mg_of X G a11, k11,
    f12, _, fun_mk (st := s__law_triples) l12 c12 k12, (fun_mk (st := s__law_triples) l12 c12 k12).binds (ps := ["_law_words_here", "_law_cells", "_law_nest", "_law_size"]) (fun _ _ _ _ _ _ => lS (fun _ => lS (fun _ => lS (fun _ => lS (fun _ => l0 rfl))))), PySem.W.mg_of X G a12, k12,
    f13, _, fun_mk (st := s__law_told) l13 c13 k13, (fun_mk (st := s__law_told) l13 c13 k13).binds (ps := ["_law_board"]) (fun _ _ _ _ _ _ => lS (fun _ => l0 rfl)), PySem.W.mg_of X G a13, k13,
    f14, _, fun_mk (st := s__law_use_due) l14 c14 k14, (fun_mk (st := s__law_use_due) l14 c14 k14).binds (ps := ["_law_kind", "_law_parts", "_law_at"]) (fun _ _ _ _ _ _ => lS (fun _ => lS (fun _ => lS (fun _ => l0 rfl)))), PySem.W.mg_of X G a14, k14,
    f15, _, fun_mk (st := s__law_stand) l15 c15 k15, (fun_mk (st := s__law_stand) l15 c15 k15).binds (ps := ["_law_told_here", "_law_kind", "_law_low"]) (fun _ _ _ _ _ _ => lS (fun _ => lS (fun _ => lS (fun _ => l0 rfl)))), PySem.W.mg_of X G a15, k15,
    C16, PySem.W.mg_of X G a16, ⟨pg16, hd16, po16, sa16⟩, fun _ _ _ _ e => .ins e ⟨pg16, hd16, po16, sa16⟩ t1_16 t2_16 t3_16 t4_16, n16_shape, n16_parts, n16_at, n16_place, f17, _, fun_mk (st := s_Make___init__) l17 c17 k17, (fun_mk (st := s_Make___init__) l17 c17 k17).binds (ps := ["self", "shape", "parts", "at", "place"]) (fun _ _ _ _ _ _ => lS (fun _ => lS (fun _ => lS (fun _ => lS (fun _ => lS (fun _ => l0 rfl)))))), ⟨mk16, i17, j17, kc16⟩, f18, _, fun_mk (st := s_Make_told) l18 c18 k18, (fun_mk (st := s_Make_told) l18 c18 k18).binds (ps := ["self"]) (fun _ _ _ _ _ _ => lS (fun _ => l0 rfl)), ⟨i18, j18, k18⟩,
    C19, PySem.W.mg_of X G a19, ⟨pg19, hd19, po19, sa19⟩, fun _ _ _ _ e => .ins e ⟨pg19, hd19, po19, sa19⟩ t1_19 t2_19 t3_19 t4_19, n19_at, n19_place, n19_slot, f20, _, fun_mk (st := s_Use___init__) l20 c20 k20, (fun_mk (st := s_Use___init__) l20 c20 k20).binds (ps := ["self", "at", "place", "slot"]) (fun _ _ _ _ _ _ => lS (fun _ => lS (fun _ => lS (fun _ => lS (fun _ => l0 rfl))))), ⟨cg20, ⟨_, cr20, cf20⟩, k20⟩, ⟨mk19, i20, j20, kc19⟩,
    C21, PySem.W.mg_of X G a21, ⟨pg21, hd21, po21, sa21⟩, fun _ _ _ _ e => .ins e ⟨pg21, hd21, po21, sa21⟩ t1_21 t2_21 t3_21 t4_21, n21_at, n21_place, n21_slot, f22, _, fun_mk (st := s_NumUse_told) l22 c22 k22, (fun_mk (st := s_NumUse_told) l22 c22 k22).binds (ps := ["self"]) (fun _ _ _ _ _ _ => lS (fun _ => l0 rfl)), ⟨i22, j22, k22⟩, ⟨mk21, ii21, j20, kc21⟩,
    C23, PySem.W.mg_of X G a23, ⟨pg23, hd23, po23, sa23⟩, fun _ _ _ _ e => .ins e ⟨pg23, hd23, po23, sa23⟩ t1_23 t2_23 t3_23 t4_23, n23_arg, n23_out, n23_at, n23_place, n23_slot, f24, _, fun_mk (st := s_CallUse___init__) l24 c24 k24, (fun_mk (st := s_CallUse___init__) l24 c24 k24).binds (ps := ["self", "at", "place", "slot", "arg", "out"]) (fun _ _ _ _ _ _ => lS (fun _ => lS (fun _ => lS (fun _ => lS (fun _ => lS (fun _ => lS (fun _ => l0 rfl))))))), ⟨mk23, i24, j24, kc23⟩, f25, _, fun_mk (st := s_CallUse_told) l25 c25 k25, (fun_mk (st := s_CallUse_told) l25 c25 k25).binds (ps := ["self"]) (fun _ _ _ _ _ _ => lS (fun _ => l0 rfl)), ⟨i25, j25, k25⟩,
    C26, PySem.W.mg_of X G a26, ⟨pg26, hd26, po26, sa26⟩, fun _ _ _ _ e => .ins e ⟨pg26, hd26, po26, sa26⟩ t1_26 t2_26 t3_26 t4_26, n26_fields, n26_at, n26_place, n26_slot, f27, _, fun_mk (st := s_TakeUse___init__) l27 c27 k27, (fun_mk (st := s_TakeUse___init__) l27 c27 k27).binds (ps := ["self", "at", "place", "slot", "fields"]) (fun _ _ _ _ _ _ => lS (fun _ => lS (fun _ => lS (fun _ => lS (fun _ => lS (fun _ => l0 rfl)))))), ⟨mk26, i27, j27, kc26⟩, f28, _, fun_mk (st := s_TakeUse_told) l28 c28 k28, (fun_mk (st := s_TakeUse_told) l28 c28 k28).binds (ps := ["self"]) (fun _ _ _ _ _ _ => lS (fun _ => l0 rfl)), ⟨i28, j28, k28⟩,
    C29, PySem.W.mg_of X G a29, ⟨pg29, hd29, po29, sa29⟩, fun _ _ _ _ e => .ins e ⟨pg29, hd29, po29, sa29⟩ t1_29 t2_29 t3_29 t4_29, n29_arms, n29_at, n29_place, n29_slot, f30, _, fun_mk (st := s_CaseUse___init__) l30 c30 k30, (fun_mk (st := s_CaseUse___init__) l30 c30 k30).binds (ps := ["self", "at", "place", "slot", "arms"]) (fun _ _ _ _ _ _ => lS (fun _ => lS (fun _ => lS (fun _ => lS (fun _ => lS (fun _ => l0 rfl)))))), ⟨mk29, i30, j30, kc29⟩, f31, _, fun_mk (st := s_CaseUse_told) l31 c31 k31, (fun_mk (st := s_CaseUse_told) l31 c31 k31).binds (ps := ["self"]) (fun _ _ _ _ _ _ => lS (fun _ => l0 rfl)), ⟨i31, j31, k31⟩,
    C32, PySem.W.mg_of X G a32, ⟨pg32, hd32, po32, sa32⟩, fun _ _ _ _ e => .ins e ⟨pg32, hd32, po32, sa32⟩ t1_32 t2_32 t3_32 t4_32, n32_out, n32_at, n32_place, n32_slot, f33, _, fun_mk (st := s_RowUse___init__) l33 c33 k33, (fun_mk (st := s_RowUse___init__) l33 c33 k33).binds (ps := ["self", "at", "place", "slot", "out"]) (fun _ _ _ _ _ _ => lS (fun _ => lS (fun _ => lS (fun _ => lS (fun _ => lS (fun _ => l0 rfl)))))), ⟨mk32, i33, j33, kc32⟩, f34, _, fun_mk (st := s_RowUse_told) l34 c34 k34, (fun_mk (st := s_RowUse_told) l34 c34 k34).binds (ps := ["self"]) (fun _ _ _ _ _ _ => lS (fun _ => l0 rfl)), ⟨i34, j34, k34⟩,
    C35, PySem.W.mg_of X G a35, ⟨pg35, hd35, po35, sa35⟩, fun _ _ _ _ e => .ins e ⟨pg35, hd35, po35, sa35⟩ t1_35 t2_35 t3_35 t4_35, n35_points, n35_makes, n35_uses, n35_flows, n35_root, f36, _, fun_mk (st := s_Board___init__) l36 c36 k36, (fun_mk (st := s_Board___init__) l36 c36 k36).binds (ps := ["self"]) (fun _ _ _ _ _ _ => lS (fun _ => l0 rfl)), ⟨mk35, i36, j36, kc35⟩, f37, _, fun_mk (st := s_Board_point) l37 c37 k37, (fun_mk (st := s_Board_point) l37 c37 k37).binds (ps := ["self", "place"]) (fun _ _ _ _ _ _ => lS (fun _ => lS (fun _ => l0 rfl))), ⟨i37, j37, k37⟩, f38, _, fun_mk (st := s_Board_make) l38 c38 k38, (fun_mk (st := s_Board_make) l38 c38 k38).binds (ps := ["self", "shape", "parts", "at", "place"]) (fun _ _ _ _ _ _ => lS (fun _ => lS (fun _ => lS (fun _ => lS (fun _ => lS (fun _ => l0 rfl)))))), ⟨i38, j38, k38⟩, f39, _, fun_mk (st := s_Board_use) l39 c39 k39, (fun_mk (st := s_Board_use) l39 c39 k39).binds (ps := ["self", "one"]) (fun _ _ _ _ _ _ => lS (fun _ => lS (fun _ => l0 rfl))), ⟨i39, j39, k39⟩, f40, _, fun_mk (st := s_Board_rooted) l40 c40 k40, (fun_mk (st := s_Board_rooted) l40 c40 k40).binds (ps := ["self", "p"]) (fun _ _ _ _ _ _ => lS (fun _ => lS (fun _ => l0 rfl))), ⟨i40, j40, k40⟩,
    PySem.W.mg_none_of X G z_all,
    PySem.W.mg_none_of X G z_bool,
    PySem.W.mg_none_of X G z_enumerate,
    PySem.W.mg_none_of X G z_int,
    PySem.W.mg_none_of X G z_isinstance,
    PySem.W.mg_none_of X G z_len,
    PySem.W.mg_none_of X G z_list,
    PySem.W.mg_none_of X G z_max,
    PySem.W.mg_none_of X G z_range,
    PySem.W.mg_none_of X G z_sorted,
    PySem.W.mg_none_of X G z_str,
    PySem.W.mg_none_of X G z_sum,
    PySem.W.mg_none_of X G z_tuple,
    PySem.W.mg_none_of X G z_zip⟩
  exact ⟨PySem.W.fnOf "law" "law" (defArgs s_law) (defBody s_law) (defScope s_law) .none kVL dcL pmL anL cdL ctL, fun s v => .of_eq rfl, fun base _ _ => all_law T (fun_mk (st := s_law) lL cL kL)⟩
theorem walk {l : PySem.W.OpenLaw} {q : Program} {loose : List Str} {XP : (Str → Option Value) → Heap → Prop} {YP : World → Heap → Prop} {d : DefRec} {K : Params → PySem.W.Frag} (hn : l.most = some 63) (hdf : d.params.defaults = [])
    (hY : ∀ (w : World) (h : Heap), YP w h → (K w.params).In h)
    (F : ∀ (w : World) (mg : Str → Option Value) (fa : Addr) (h : Heap), (K w.params).In h → h.Ns mainGlobals mg → mg d.name = some (.ref fa) →
      ∃ fd : FuncData, (∀ (s : Shared) (u : Value), BindsTo s fd ⟨[u], []⟩ [("_law_script", u)]) ∧ ∀ base : Heap, (K w.params).In base → base.Ns mainGlobals mg → FnOk l.prog w (K w.params) mg base CX0 60 fa fd ["_law_script"] (sp_law (K w.params))) :
    PySem.W.WalkO q loose XP YP l.row.toRowW d [] (fun f vs => PySem.call f vs) :=
  L2.Internal.walk_of (n := 63) (k := 60) (x := "_law_script") (CX := fun _ => CX0) (sp := fun w => sp_law (K w.params)) hn (by decide) hdf ⟨rfl, by decide, by decide⟩ hY F (fun _ _ a ns hl _ hS => ⟨a, ns, rfl, hS, hl, fun _ => rfl⟩) fun _ _ _ _ _ z => z
end K53.Internal
open PySem PySem.W PyProof.Rows
set_option maxRecDepth 100000 in
set_option maxHeartbeats 0 in
theorem PySem.Challenge.cw_flowkinds_k53_lower_and_upper_holds : PySem.Challenge.rw_flowkinds_k53_lower_and_upper.Holds := by
  w_on; o_law; k_head; (case hw => w_witness2)
  k_fill
  refine K53.Internal.walk (l := PySem.Challenge.rw_flowkinds_k53_lower_and_upper) rfl rfl (fun w h Y => PySem.W.kIn_of Y) ?F
  case F =>
    intro w mg fa h KX G hmg
    refine' K53.Internal.all_mk KX G hmg ?a1 ?l1 ?c1 ?k1 ?a2 ?l2 ?c2 ?k2 ?a3 ?l3 ?c3 ?k3 ?a4 ?l4 ?c4 ?k4 ?a5 ?l5 ?c5 ?k5 ?a6 ?l6 ?c6 ?k6 ?a7 ?l7 ?c7 ?k7 ?a8 ?l8 ?c8 ?k8 ?a9 ?l9 ?c9 ?k9 ?a10 ?l10 ?c10 ?k10 ?a11 ?l11 ?c11 ?k11 ?a12 ?l12 ?c12 ?k12 ?a13 ?l13 ?c13 ?k13 ?a14 ?l14 ?c14 ?k14 ?a15 ?l15 ?c15 ?k15 ?a16 ?pg16 ?hd16 ?po16 ?sa16 ?t1_16 ?t2_16 ?t3_16 ?t4_16 ?n16_shape ?n16_parts ?n16_at ?n16_place ?i17 ?j17 ?l17 ?c17 ?k17 ?mk16 ?kc16 ?i18 ?j18 ?l18 ?c18 ?k18 ?a19 ?pg19 ?hd19 ?po19 ?sa19 ?t1_19 ?t2_19 ?t3_19 ?t4_19 ?n19_at ?n19_place ?n19_slot ?i20 ?j20 ?l20 ?c20 ?k20 ?cg20 ?cr20 ?cf20 ?mk19 ?kc19 ?a21 ?pg21 ?hd21 ?po21 ?sa21 ?t1_21 ?t2_21 ?t3_21 ?t4_21 ?n21_at ?n21_place ?n21_slot ?i22 ?j22 ?l22 ?c22 ?k22 ?mk21 ?kc21 ?ii21 ?a23 ?pg23 ?hd23 ?po23 ?sa23 ?t1_23 ?t2_23 ?t3_23 ?t4_23 ?n23_arg ?n23_out ?n23_at ?n23_place ?n23_slot ?i24 ?j24 ?l24 ?c24 ?k24 ?mk23 ?kc23 ?i25 ?j25 ?l25 ?c25 ?k25 ?a26 ?pg26 ?hd26 ?po26 ?sa26 ?t1_26 ?t2_26 ?t3_26 ?t4_26 ?n26_fields ?n26_at ?n26_place ?n26_slot ?i27 ?j27 ?l27 ?c27 ?k27 ?mk26 ?kc26 ?i28 ?j28 ?l28 ?c28 ?k28 ?a29 ?pg29 ?hd29 ?po29 ?sa29 ?t1_29 ?t2_29 ?t3_29 ?t4_29 ?n29_arms ?n29_at ?n29_place ?n29_slot ?i30 ?j30 ?l30 ?c30 ?k30 ?mk29 ?kc29 ?i31 ?j31 ?l31 ?c31 ?k31 ?a32 ?pg32 ?hd32 ?po32 ?sa32 ?t1_32 ?t2_32 ?t3_32 ?t4_32 ?n32_out ?n32_at ?n32_place ?n32_slot ?i33 ?j33 ?l33 ?c33 ?k33 ?mk32 ?kc32 ?i34 ?j34 ?l34 ?c34 ?k34 ?a35 ?pg35 ?hd35 ?po35 ?sa35 ?t1_35 ?t2_35 ?t3_35 ?t4_35 ?n35_points ?n35_makes ?n35_uses ?n35_flows ?n35_root ?i36 ?j36 ?l36 ?c36 ?k36 ?mk35 ?kc35 ?i37 ?j37 ?l37 ?c37 ?k37 ?i38 ?j38 ?l38 ?c38 ?k38 ?i39 ?j39 ?l39 ?c39 ?k39 ?i40 ?j40 ?l40 ?c40 ?k40 ?z_all ?z_bool ?z_enumerate ?z_int ?z_isinstance ?z_len ?z_list ?z_max ?z_range ?z_sorted ?z_str ?z_sum ?z_tuple ?z_zip ?aL ?lL ?cL ?kL
    (case a1 => k_is)
    (case l1 => k_is)
    (case c1 => k_is)
    (case k1 => k_is)
    (case a2 => k_is)
    (case l2 => k_is)
    (case c2 => k_is)
    (case k2 => k_is)
    (case a3 => k_is)
    (case l3 => k_is)
    (case c3 => k_is)
    (case k3 => k_is)
    (case a4 => k_is)
    (case l4 => k_is)
    (case c4 => k_is)
    (case k4 => k_is)
    (case a5 => k_is)
    (case l5 => k_is)
    (case c5 => k_is)
    (case k5 => k_is)
    (case a6 => k_is)
    (case l6 => k_is)
    (case c6 => k_is)
    (case k6 => k_is)
    (case a7 => k_is)
    (case l7 => k_is)
    (case c7 => k_is)
    (case k7 => k_is)
    (case a8 => k_is)
    (case l8 => k_is)
    (case c8 => k_is)
    (case k8 => k_is)
    (case a9 => k_is)
    (case l9 => k_is)
    (case c9 => k_is)
    (case k9 => k_is)
    (case a10 => k_is)
    (case l10 => k_is)
    (case c10 => k_is)
    (case k10 => k_is)
    (case a11 => k_is)
    (case l11 => k_is)
    (case c11 => k_is)
    (case k11 => k_is)
    (case a12 => k_is)
    (case l12 => k_is)
    (case c12 => k_is)
    (case k12 => k_is)
    (case a13 => k_is)
    (case l13 => k_is)
    (case c13 => k_is)
    (case k13 => k_is)
    (case a14 => k_is)
    (case l14 => k_is)
    (case c14 => k_is)
    (case k14 => k_is)
    (case a15 => k_is)
    (case l15 => k_is)
    (case c15 => k_is)
    (case k15 => k_is)
    (case a16 => k_is)
    (case pg16 => k_is)
    (case hd16 => k_is)
    (case po16 => k_is)
    (case sa16 => k_is)
    (case t1_16 => k_is)
    (case t2_16 => k_is)
    (case t3_16 => k_is)
    (case t4_16 => k_is)
    (case n16_shape => k_is)
    (case n16_parts => k_is)
    (case n16_at => k_is)
    (case n16_place => k_is)
    (case i17 => k_is)
    (case j17 => k_is)
    (case l17 => k_is)
    (case c17 => k_is)
    (case k17 => k_is)
    (case mk16 => k_is)
    (case kc16 => k_is)
    (case i18 => k_is)
    (case j18 => k_is)
    (case l18 => k_is)
    (case c18 => k_is)
    (case k18 => k_is)
    (case a19 => k_is)
    (case pg19 => k_is)
    (case hd19 => k_is)
    (case po19 => k_is)
    (case sa19 => k_is)
    (case t1_19 => k_is)
    (case t2_19 => k_is)
    (case t3_19 => k_is)
    (case t4_19 => k_is)
    (case n19_at => k_is)
    (case n19_place => k_is)
    (case n19_slot => k_is)
    (case i20 => k_is)
    (case j20 => k_is)
    (case l20 => k_is)
    (case c20 => k_is)
    (case k20 => k_is)
    (case cg20 => k_is)
    (case cr20 => k_is)
    (case cf20 => k_is)
    (case mk19 => k_is)
    (case kc19 => k_is)
    (case a21 => k_is)
    (case pg21 => k_is)
    (case hd21 => k_is)
    (case po21 => k_is)
    (case sa21 => k_is)
    (case t1_21 => k_is)
    (case t2_21 => k_is)
    (case t3_21 => k_is)
    (case t4_21 => k_is)
    (case n21_at => k_is)
    (case n21_place => k_is)
    (case n21_slot => k_is)
    (case i22 => k_is)
    (case j22 => k_is)
    (case l22 => k_is)
    (case c22 => k_is)
    (case k22 => k_is)
    (case mk21 => k_is)
    (case kc21 => k_is)
    (case ii21 => k_is)
    (case a23 => k_is)
    (case pg23 => k_is)
    (case hd23 => k_is)
    (case po23 => k_is)
    (case sa23 => k_is)
    (case t1_23 => k_is)
    (case t2_23 => k_is)
    (case t3_23 => k_is)
    (case t4_23 => k_is)
    (case n23_arg => k_is)
    (case n23_out => k_is)
    (case n23_at => k_is)
    (case n23_place => k_is)
    (case n23_slot => k_is)
    (case i24 => k_is)
    (case j24 => k_is)
    (case l24 => k_is)
    (case c24 => k_is)
    (case k24 => k_is)
    (case mk23 => k_is)
    (case kc23 => k_is)
    (case i25 => k_is)
    (case j25 => k_is)
    (case l25 => k_is)
    (case c25 => k_is)
    (case k25 => k_is)
    (case a26 => k_is)
    (case pg26 => k_is)
    (case hd26 => k_is)
    (case po26 => k_is)
    (case sa26 => k_is)
    (case t1_26 => k_is)
    (case t2_26 => k_is)
    (case t3_26 => k_is)
    (case t4_26 => k_is)
    (case n26_fields => k_is)
    (case n26_at => k_is)
    (case n26_place => k_is)
    (case n26_slot => k_is)
    (case i27 => k_is)
    (case j27 => k_is)
    (case l27 => k_is)
    (case c27 => k_is)
    (case k27 => k_is)
    (case mk26 => k_is)
    (case kc26 => k_is)
    (case i28 => k_is)
    (case j28 => k_is)
    (case l28 => k_is)
    (case c28 => k_is)
    (case k28 => k_is)
    (case a29 => k_is)
    (case pg29 => k_is)
    (case hd29 => k_is)
    (case po29 => k_is)
    (case sa29 => k_is)
    (case t1_29 => k_is)
    (case t2_29 => k_is)
    (case t3_29 => k_is)
    (case t4_29 => k_is)
    (case n29_arms => k_is)
    (case n29_at => k_is)
    (case n29_place => k_is)
    (case n29_slot => k_is)
    (case i30 => k_is)
    (case j30 => k_is)
    (case l30 => k_is)
    (case c30 => k_is)
    (case k30 => k_is)
    (case mk29 => k_is)
    (case kc29 => k_is)
    (case i31 => k_is)
    (case j31 => k_is)
    (case l31 => k_is)
    (case c31 => k_is)
    (case k31 => k_is)
    (case a32 => k_is)
    (case pg32 => k_is)
    (case hd32 => k_is)
    (case po32 => k_is)
    (case sa32 => k_is)
    (case t1_32 => k_is)
    (case t2_32 => k_is)
    (case t3_32 => k_is)
    (case t4_32 => k_is)
    (case n32_out => k_is)
    (case n32_at => k_is)
    (case n32_place => k_is)
    (case n32_slot => k_is)
    (case i33 => k_is)
    (case j33 => k_is)
    (case l33 => k_is)
    (case c33 => k_is)
    (case k33 => k_is)
    (case mk32 => k_is)
    (case kc32 => k_is)
    (case i34 => k_is)
    (case j34 => k_is)
    (case l34 => k_is)
    (case c34 => k_is)
    (case k34 => k_is)
    (case a35 => k_is)
    (case pg35 => k_is)
    (case hd35 => k_is)
    (case po35 => k_is)
    (case sa35 => k_is)
    (case t1_35 => k_is)
    (case t2_35 => k_is)
    (case t3_35 => k_is)
    (case t4_35 => k_is)
    (case n35_points => k_is)
    (case n35_makes => k_is)
    (case n35_uses => k_is)
    (case n35_flows => k_is)
    (case n35_root => k_is)
    (case i36 => k_is)
    (case j36 => k_is)
    (case l36 => k_is)
    (case c36 => k_is)
    (case k36 => k_is)
    (case mk35 => k_is)
    (case kc35 => k_is)
    (case i37 => k_is)
    (case j37 => k_is)
    (case l37 => k_is)
    (case c37 => k_is)
    (case k37 => k_is)
    (case i38 => k_is)
    (case j38 => k_is)
    (case l38 => k_is)
    (case c38 => k_is)
    (case k38 => k_is)
    (case i39 => k_is)
    (case j39 => k_is)
    (case l39 => k_is)
    (case c39 => k_is)
    (case k39 => k_is)
    (case i40 => k_is)
    (case j40 => k_is)
    (case l40 => k_is)
    (case c40 => k_is)
    (case k40 => k_is)
    (case z_all => k_is)
    (case z_bool => k_is)
    (case z_enumerate => k_is)
    (case z_int => k_is)
    (case z_isinstance => k_is)
    (case z_len => k_is)
    (case z_list => k_is)
    (case z_max => k_is)
    (case z_range => k_is)
    (case z_sorted => k_is)
    (case z_str => k_is)
    (case z_sum => k_is)
    (case z_tuple => k_is)
    (case z_zip => k_is)
    (case aL => k_is)
    (case lL => k_is)
    (case cL => k_is)
    (case kL => k_is)
