import PyProof.Rows.All
import Wide.All
import OpenK.AllK
import Wide.FinOn
import Lean
import PyProof.EqAt
import PyProof.EqKinds
import PyProof.TupleCall
import PyProof.NeKinds
import PySem.Challenge.RW_flowkinds_k51_under_is_an_order
set_option Elab.async false
set_option linter.all false
set_option maxRecDepth 100000
set_option maxHeartbeats 4000000
set_option genInjectivity false
set_option genSizeOf false
set_option bootstrap.genMatcherCode false
set_option compiler.extract_closed false
namespace L2.Internal
theorem auR (h : True = True := by rfl) : True := trivial
theorem auD (h : True := by decide) : True := trivial
theorem auI (h : True → True = True := by intro _; rfl) : True := trivial
theorem auL (h : True = True ∨ True := by first | exact .inl rfl | exact .inr rfl | assumption) : True := trivial
open PySem PySem.Spec PyProof.Rows

noncomputable abbrev Key := Sum Int Str
noncomputable def keyIs : Key → Value → Bool
  | .inl k, v => Value.isInt k v
  | .inr x, v => Value.isStrOf x v
noncomputable def keyH (w : World) : Key → Int
  | .inl k => hashInt k
  | .inr x => hashStr w x
theorem keyIs_shape : ∀ {k : Key} {v : Value}, keyIs k v = true → (∃ i t, k = Sum.inl i ∧ v = Value.int i t) ∨ (∃ x t, k = Sum.inr x ∧ v = Value.str x t)
  | .inl i, v, h => by
    obtain ⟨t, e⟩ := Value.isInt_shape (k := i) (v := v) h
    exact .inl ⟨i, t, rfl, e⟩
  | .inr x, v, h => by
    obtain ⟨t, e⟩ := Value.isStrOf_shape (x := x) (v := v) h
    exact .inr ⟨x, t, rfl, e⟩
theorem keyIs_int (i : Int) (t : Tok) : keyIs (.inl i) (.int i t) = true := by simp [keyIs, Value.isInt]
theorem keyIs_str (x : Str) (t : Tok) : keyIs (.inr x) (.str x t) = true := by simp [keyIs, Value.isStrOf]
theorem key_ll (a b : Int) : decide ((Sum.inl a : Key) = Sum.inl b) = (a == b) := by
  by_cases e : a = b
  · subst e; simp
  · have h : ¬ (Sum.inl a : Key) = Sum.inl b := fun q => e (Sum.inl.inj q)
    rw [decide_eq_false h]
    exact (beq_eq_false_iff_ne.mpr e).symm
theorem key_rr (a b : Str) : decide ((Sum.inr a : Key) = Sum.inr b) = decide (a = b) := by
  by_cases e : a = b
  · subst e; simp
  · have h : ¬ (Sum.inr a : Key) = Sum.inr b := fun q => e (Sum.inr.inj q)
    rw [decide_eq_false h, decide_eq_false e]
theorem key_lr (a : Int) (b : Str) : decide ((Sum.inl a : Key) = Sum.inr b) = false := decide_eq_false (fun q => nomatch q)
theorem key_rl (a : Str) (b : Int) : decide ((Sum.inr a : Key) = Sum.inl b) = false := decide_eq_false (fun q => nomatch q)

noncomputable def mixKind (prog : Program) (w : World) : PySem.KeyKind prog w Key where
  is := keyIs
  hash := keyH w
  inj := fun v a b ha hb => by
    rcases keyIs_shape ha with ⟨i, t, rfl, rfl⟩ | ⟨x, t, rfl, rfl⟩
    · rcases keyIs_shape hb with ⟨j, u, rfl, e⟩ | ⟨y, u, rfl, e⟩
      · injection e with e1 _; rw [e1]
      · exact nomatch e
    · rcases keyIs_shape hb with ⟨j, u, rfl, e⟩ | ⟨y, u, rfl, e⟩
      · exact nomatch e
      · injection e with e1 _; rw [e1]
  byValue := fun k v h => by
    rcases keyIs_shape h with ⟨i, t, rfl, rfl⟩ | ⟨x, t, rfl, rfl⟩ <;> rfl
  pyHash := fun hv h => by
    rcases keyIs_shape hv with ⟨i, t, rfl, rfl⟩ | ⟨x, t, rfl, rfl⟩
    · exact wpAny_pyHash_int h
    · exact wpAny_pyHash_str h
  eqBool := fun hu hv h => by
    rcases keyIs_shape hu with ⟨i, t, rfl, rfl⟩ | ⟨x, t, rfl, rfl⟩
    · rcases keyIs_shape hv with ⟨j, u, rfl, rfl⟩ | ⟨y, u, rfl, rfl⟩
      · rw [key_ll] at h; exact wpAny_eqBool_int h
      · rw [key_lr] at h; exact SeqAt.EqAt.int_str i t y u _ _ _ _ h
    · rcases keyIs_shape hv with ⟨j, u, rfl, rfl⟩ | ⟨y, u, rfl, rfl⟩
      · rw [key_rl] at h; exact SeqAt.EqAt.str_int x t j u _ _ _ _ h
      · rw [key_rr] at h; exact wpAny_eqBool_str h
  «strs» := fun k x t v h => by
    rcases keyIs_shape h with ⟨i, u, rfl, e⟩ | ⟨y, u, rfl, e⟩
    · exact nomatch e
    · injection e with e1 _
      subst e1
      cases v <;> rfl

theorem mixKind_int (prog : Program) (w : World) (i : Int) (t : Tok) : (mixKind prog w).is (.inl i) (.int i t) = true := keyIs_int i t
theorem mixKind_str (prog : Program) (w : World) (x : Str) (t : Tok) : (mixKind prog w).is (.inr x) (.str x t) = true := keyIs_str x t
end L2.Internal

namespace L2.Internal
open PySem PySem.Spec PyProof.Rows

set_option genInjectivity true in
inductive V where
  | non | bl (b : Bool) | int (i : Int) | str (x : Str) | byt (b : Array UInt8) | flt (b : UInt64) | ref (a : Addr) | ty (n : String)
  deriving DecidableEq

noncomputable def RelV : V → Value → Prop
  | .non, u => u = Value.none
  | .bl b, u => u = Value.bool b
  | .int i, u => ∃ t, u = Value.int i t
  | .str x, u => ∃ t, u = Value.str x t
  | .byt b, u => ∃ t, u = Value.bytes b t
  | .flt b, u => ∃ t, u = Value.float b t
  | .ref a, u => u = Value.ref a
  | .ty n, u => u = Value.type n

noncomputable abbrev Vals : List V → List Value → Prop := Paired RelV
theorem Vals.length {xs : List V} {us : List Value} (r : Vals xs us) : xs.length = us.length := Paired.length r
theorem Vals.get : ∀ {xs : List V} {us : List Value} {i : Nat} {x : V}, Vals xs us → xs[i]? = some x → ∃ u, us[i]? = some u ∧ RelV x u
  | _, _, _, _, .nil, e => by simp at e
  | _, _, 0, _, .cons r _, e => by simp at e; subst e; exact ⟨_, rfl, r⟩
  | _, _, i + 1, x, .cons _ t, e => by
    obtain ⟨u, h1, h2⟩ := Vals.get (i := i) (x := x) t (by simpa using e)
    exact ⟨u, by simpa using h1, h2⟩
theorem Vals.append : ∀ {xs ys : List V} {us ws : List Value}, Vals xs us → Vals ys ws → Vals (xs ++ ys) (us ++ ws)
  | _, _, _, _, .nil, s => s
  | _, _, _, _, .cons r t, s => .cons r (Vals.append t s)
theorem Vals.take : ∀ {xs : List V} {us : List Value} (n : Nat), Vals xs us → Vals (xs.take n) (us.take n)
  | _, _, 0, _ => .nil
  | _, _, _ + 1, .nil => .nil
  | _, _, n + 1, .cons r t => .cons r (Vals.take n t)
theorem Vals.drop : ∀ {xs : List V} {us : List Value} (n : Nat), Vals xs us → Vals (xs.drop n) (us.drop n)
  | _, _, 0, r => r
  | _, _, _ + 1, .nil => .nil
  | _, _, n + 1, .cons _ t => Vals.drop n t
noncomputable def RelO : Option V → Option Value → Prop
  | some v, some u => RelV v u
  | none, none => True
  | _, _ => False
noncomputable def KV {κ : Type} : List (κ × V) → List (κ × Value) → Prop := Paired fun (p : κ × V) (q : κ × Value) => p.1 = q.1 ∧ RelV p.2 q.2

noncomputable def kV : Key → V
  | .inl i => .int i
  | .inr x => .str x

inductive HO where
  /-- a list -/
  | lst (xs : List V)
  /-- a tuple (never changes) -/
  | tup (xs : List V)
  /-- a dict whose keys are ints and texts; one whose keys are tuples of ints and texts (the empty one is both) -/
  | dK (kvs : List (Key × V)) | dT (kvs : List (List Key × V))
  /-- a set of ints: its members, its size -/
  | set (S : Int → Bool) (n : Nat)
  /-- an instance of the class at C, its dict at dx, its attributes -/
  | ins (C dx : Addr) (fs : List (Str × V))
  /-- the dict of the instance at x -/
  | own (x : Addr)
  /-- the dict of an exception -/
  | xd (fs : List (Str × V))
  /-- a bound method, f of x -/
  | met (f x : Addr)
  /-- a range object lo, lo + 1, .. below hi -/
  | rng (lo hi : Int)
  /-- a thing that is known to the object (the script; a dict while a loop walks it): read, never written while it is so -/
  | frz (o : Obj) (u : HO)
  /-- a code object's table -/
  | tbl (ps : Array Value)
  /-- any other thing, by what is true of its one object (a def of one's own: SetO a S n := HO.ext fun h => ..) -/
  | ext (φ : Heap → Prop)

noncomputable abbrev Hp := Addr → Option HO
noncomputable def Tup0 (h : Heap) (a : Addr) (items : Array Value) : Prop := ∃ o, h.get? a = some o ∧ o.cls = .type "tuple" ∧ ∃ n, o.data = .seq items n ∧ o.dict = none
theorem Tup0.tup {h : Heap} {a : Addr} {items : Array Value} : Tup0 h a items → IsTup h a items
  | ⟨o, h1, h2, n, h3, _⟩ => ⟨o, h1, h2, n, h3⟩
theorem Tup0.lt {h : Heap} {a : Addr} {items : Array Value} (p : Tup0 h a items) : a < h.objs.size := by
  obtain ⟨o, e, _⟩ := p
  exact Heap.lt_size e
theorem Tup0.new (h : Heap) (items : Array Value) : Tup0 (h.push { cls := .type "tuple", data := .seq items }) h.objs.size items := ⟨_, Heap.get?_push_size _ rfl, rfl, _, rfl, rfl⟩
noncomputable def upd (H : Hp) (a : Addr) (o : HO) : Hp := fun b => if b = a then some o else H b
theorem upd_same {H : Hp} {a : Addr} {o : HO} : upd H a o a = some o := by unfold upd; rw [if_pos rfl]
theorem upd_ne {H : Hp} {a b : Addr} {o : HO} (h : b ≠ a) : upd H a o b = H b := by unfold upd; rw [if_neg h]
theorem upd_upd {H : Hp} {a : Addr} {o u : HO} : upd (upd H a o) a u = upd H a u := by
  funext b; unfold upd; split <;> rfl
theorem ne_of {H : Hp} {a b : Addr} {o u : HO} (h : H a = some o) (h' : H b = some u) (d : o ≠ u) : a ≠ b := by
  intro e; subst e; rw [h] at h'; exact d (Option.some.inj h')
theorem ne_of_none {H : Hp} {a b : Addr} {o : HO} (h : H a = some o) (h' : H b = none) : a ≠ b := by
  intro e; subst e; rw [h] at h'; cases h'

section
variable (P : Program) (w : World)
noncomputable def ObjOk (H : Hp) (h : Heap) (a : Addr) : HO → Prop
  | .lst xs => xs.length ≤ sizeLine ∧ ∃ (its : List Value) (n : Nat), Vals xs its ∧ h.get? a = some { cls := .type "list", data := .seq its.toArray n }
  | .tup xs => xs.length ≤ sizeLine ∧ ∃ its : List Value, Vals xs its ∧ Tup0 h a its.toArray
  | .dK kvs => kvs.length ≤ sizeLine ∧ (a == sysModules) = false ∧ ∃ vs, KV kvs vs ∧ h.DictOf (mixKind P w) a vs
  | .dT kvs => kvs.length ≤ sizeLine ∧ (a == sysModules) = false ∧ ∃ xs : List (List Key × Addr × Value),
      Paired (fun (p : List Key × V) (q : List Key × Addr × Value) => p.1 = q.1 ∧ H q.2.1 = some (.tup (p.1.map kV)) ∧ RelV p.2 q.2.2) kvs xs ∧
      ∃ o es ep, h.get? a = some o ∧ o.ExactDict ∧ o.data = .dict es ep ∧ es.toList = xs.map (entryOfKey (tupleKind (mixKind P w))) ∧ (xs.map (·.1)).Nodup
  | .set S n => h.SetOf (intKind P w) a S n
  | .ins C dx fs => H dx = some (.own a) ∧ fs.length ≤ 1000 ∧ dx ≠ a ∧ h.get? a = some (PySem.W.instObj C dx) ∧
      ∃ mA, h.Ns1 dx mA ∧ (∀ f, RelO (fs.lookup f) (mA f)) ∧ PySem.Within mA (fs.map (·.1))
  | .own _ => ∃ o, h.get? a = some o
  | .xd fs => ∃ mA, h.Ns1 a mA ∧ ∀ f, RelO (fs.lookup f) (mA f)
  | .rng lo hi => ∃ t u v, h.get? a = some { cls := .type "range", data := .fields #[.int lo t, .int hi u, .int 1 v] }
  | .frz o u => h.get? a = some o ∧ ObjOk H h a u
  | .tbl ps => h.get? a = some { cls := .none, data := .fields ps }
  | .met f x => h.get? a = some (PySem.W.methodObj (.ref f) (.ref x))
  | .ext φ => φ h ∧ (∃ o, h.get? a = some o) ∧ ∀ h1 h2 : Heap, φ h1 → (∀ o, h1.get? a = some o → h2.get? a = some o) → φ h2
noncomputable def HOk (H : Hp) (h : Heap) : Prop := ∀ a o, H a = some o → ObjOk P w H h a o
end

section
variable {P : Program} {w : World} {H H' : Hp} {h h' : Heap} {a : Addr} {o : HO}
theorem ObjOk.lt (x : ObjOk P w H h a o) : a < h.objs.size := by
  cases o with
  | lst xs => obtain ⟨_, _, _, _, e⟩ := x; exact Heap.lt_size e
  | tup xs => obtain ⟨_, _, _, p⟩ := x; exact p.lt
  | dK kvs => obtain ⟨_, _, _, _, o, _, _, e, _⟩ := x; exact Heap.lt_size e
  | dT kvs => obtain ⟨_, _, _, _, o, _, _, e, _⟩ := x; exact Heap.lt_size e
  | set S n => obtain ⟨o, _, _, _, e, _⟩ := x; exact Heap.lt_size e
  | ins C dx fs => obtain ⟨_, _, _, e, _⟩ := x; exact Heap.lt_size e
  | own y => obtain ⟨_, e⟩ := x; exact Heap.lt_size e
  | xd fs => obtain ⟨_, ⟨_, _, _, e, _⟩, _⟩ := x; exact Heap.lt_size e
  | rng lo hi => obtain ⟨_, _, _, e⟩ := x; exact Heap.lt_size e
  | frz ob u => obtain ⟨e, _⟩ := x; exact Heap.lt_size e
  | tbl ps => exact Heap.lt_size (show h.get? a = some _ from x)
  | met f y => exact Heap.lt_size (show h.get? a = some _ from x)
  | ext φ => obtain ⟨_, ⟨_, e⟩, _⟩ := x; exact Heap.lt_size e
theorem Paired.mapP {α β : Type} {F G : α → β → Prop} : ∀ {l₁ : List α} {l₂ : List β}, Paired F l₁ l₂ → (∀ a b, F a b → G a b) → Paired G l₁ l₂
  | _, _, .nil, _ => .nil
  | _, _, .cons r t, f => .cons (f _ _ r) (Paired.mapP t f)
theorem ObjOk.stay (x : ObjOk P w H h a o) (k : ∀ b u, (b = a ∨ H b = some (.own a)) → h.get? b = some u → h'.get? b = some u)
    (ho : ∀ b, H b = some (.own a) → H' b = some (.own a)) (ht : ∀ b xs, H b = some (.tup xs) → H' b = some (.tup xs)) : ObjOk P w H' h' a o := by
  induction o with
  | lst xs => obtain ⟨z, its, n, r, e⟩ := x; exact ⟨z, its, n, r, k _ _ (.inl rfl) e⟩
  | tup xs => obtain ⟨z, its, r, ob, e, c⟩ := x; exact ⟨z, its, r, ob, k _ _ (.inl rfl) e, c⟩
  | dK kvs => obtain ⟨z, y, vs, r, ob, es, ep, e, c⟩ := x; exact ⟨z, y, vs, r, ob, es, ep, k _ _ (.inl rfl) e, c⟩
  | dT kvs =>
    obtain ⟨z, y, xs, r, ob, es, ep, e, c⟩ := x
    exact ⟨z, y, xs, Paired.mapP r fun p q z => ⟨z.1, ht _ _ z.2.1, z.2.2⟩, ob, es, ep, k _ _ (.inl rfl) e, c⟩
  | set S n => obtain ⟨ob, es, ep, t, e, c⟩ := x; exact ⟨ob, es, ep, t, k _ _ (.inl rfl) e, c⟩
  | ins C dx fs =>
    obtain ⟨d, z, ne, e, mA, ⟨od, es, ep, e2, c⟩, r⟩ := x
    exact ⟨ho _ d, z, ne, k _ _ (.inl rfl) e, mA, ⟨od, es, ep, k _ _ (.inr d) e2, c⟩, r⟩
  | own y => obtain ⟨ob, e⟩ := x; exact ⟨ob, k _ _ (.inl rfl) e⟩
  | xd fs => obtain ⟨mA, ⟨od, es, ep, e, c⟩, r⟩ := x; exact ⟨mA, ⟨od, es, ep, k _ _ (.inl rfl) e, c⟩, r⟩
  | rng lo hi => obtain ⟨t, u, v, e⟩ := x; exact ⟨t, u, v, k _ _ (.inl rfl) e⟩
  | frz ob u ih => obtain ⟨e, q⟩ := x; exact ⟨k _ _ (.inl rfl) e, ih q⟩
  | tbl ps =>
    have e : h.get? a = some { cls := .none, data := .fields ps } := x
    show h'.get? a = some { cls := .none, data := .fields ps }
    exact k a _ (.inl rfl) e
  | met f y =>
    have e : h.get? a = some (PySem.W.methodObj (.ref f) (.ref y)) := x
    show h'.get? a = some (PySem.W.methodObj (.ref f) (.ref y))
    exact k a _ (.inl rfl) e
  | ext φ => obtain ⟨p, ⟨o, e⟩, st⟩ := x; exact ⟨st _ _ p fun o q => k _ _ (.inl rfl) q, ⟨o, k _ _ (.inl rfl) e⟩, st⟩
theorem HOk.lt (x : HOk P w H h) (e : H a = some o) : a < h.objs.size := (x a o e).lt
theorem HOk.fresh (x : HOk P w H h) (e : h.objs.size ≤ a) : H a = none := by
  cases q : H a with
  | none => rfl
  | some u => exact absurd (Nat.lt_of_lt_of_le (x.lt q) e) (Nat.lt_irrefl _)
theorem HOk.kept (x : HOk P w H h) (k : ∀ b u, h.get? b = some u → h'.get? b = some u) : HOk P w H h' := fun a o e =>
  (x a o e).stay (fun b u _ q => k b u q) (fun _ q => q) fun _ _ q => q
theorem HOk.laid (x : HOk P w H h) (k : ∀ b u, h.get? b = some u → h'.get? b = some u) (hp : h.objs.size ≤ a) (new : ObjOk P w (upd H a o) h' a o) : HOk P w (upd H a o) h' := fun b u e => by
  have hn := x.fresh hp
  by_cases hb : b = a
  · subst hb; rw [upd_same] at e; cases e; exact new
  · rw [upd_ne hb] at e
    exact (x b u e).stay (fun c v _ q => k c v q) (fun c q => by rw [upd_ne (ne_of_none q hn)]; exact q) fun c xs q => by rw [upd_ne (ne_of_none q hn)]; exact q
end

noncomputable def Rd (H : Hp) (a : Addr) (u : HO) : Prop := H a = some u ∨ ∃ o, H a = some (.frz o u)
theorem Rd.ok {P : Program} {w : World} {H : Hp} {h : Heap} {a : Addr} {u : HO} (r : Rd H a u) (x : HOk P w H h) : ObjOk P w H h a u := by
  rcases r with r | ⟨o, r⟩
  · exact x a u r
  · obtain ⟨_, q⟩ := x a _ r
    exact q
noncomputable def Mut : Option HO → Prop
  | some (.lst _) => True
  | some (.dK _) => True
  | some (.dT _) => True
  | some (.set _ _) => True
  | some (.ins _ _ _) => True
  | some (.ext _) => True
  | _ => False
section
variable {P : Program} {w : World} {H : Hp} {h h' : Heap} {x e : Addr} {o' : HO}
theorem HOk.write (ok : HOk P w H h) (mu : Mut (H x)) (he : e = x ∨ H e = some (.own x)) (k : ∀ b u, b ≠ e → h.get? b = some u → h'.get? b = some u) (heo : ∃ u, h'.get? e = some u)
    (new : ObjOk P w (upd H x o') h' x o') : HOk P w (upd H x o') h' := fun b u q => by
  have nown : ∀ c y, H c = some (.own y) → c ≠ x := fun c y r z => by subst z; rw [r] at mu; exact mu
  have ntup : ∀ c xs, H c = some (.tup xs) → c ≠ x := fun c xs r z => by subst z; rw [r] at mu; exact mu
  by_cases hb : b = x
  · subst hb; rw [upd_same] at q; cases q; exact new
  · rw [upd_ne hb] at q
    by_cases hbe : b = e
    · have q' : H b = some (.own x) := by
        rcases he with z | z
        · exact absurd (hbe.trans z) hb
        · rw [hbe]; exact z
      rw [q] at q'; cases q'
      obtain ⟨v, hv⟩ := heo
      exact ⟨v, by rw [hbe]; exact hv⟩
    · refine (ok b u q).stay (fun c v hc r => k c v ?_ r) (fun c r => by rw [upd_ne (nown c b r)]; exact r) fun c xs r => by rw [upd_ne (ntup c xs r)]; exact r
      rcases hc with rfl | hc
      · exact hbe
      · rintro rfl
        rcases he with z | z
        · exact nown c b hc z
        · rw [hc] at z; cases z; exact hb rfl
end

structure Un (fs ex : List Addr) (H H' : Hp) (h h' : Heap) : Prop where
  keep : ∀ b o, h.get? b = some o → H b = none → b ∉ fs → b ∉ ex → h'.get? b = some o
  slot : ∀ b o, h.get? b = some o → H b = none → b ∈ fs → b ∉ ex → ∃ sl, h'.get? b = some { o with slots := sl }
  free : ∀ b o, h.get? b = some o → H b = none → b ∉ ex → H' b = none
  there : ∀ b o, h.get? b = some o → b ∉ ex → ∃ o', h'.get? b = some o'
  tups : ∀ b xs, H b = some (.tup xs) → H' b = some (.tup xs)
  frzs : ∀ b o u, H b = some (.frz o u) → H' b = some (.frz o u)
  tbls : ∀ b ps, H b = some (.tbl ps) → ∃ more, H' b = some (.tbl (ps ++ more))
section
variable {fs fs' ex ex' : List Addr} {H H1 H2 : Hp} {h h1 h2 h' : Heap} {a x e : Addr} {o : HO}
theorem Un.any (u : Un fs ex H H1 h h1) {b : Addr} {ob : Obj} (q : h.get? b = some ob) (n : H b = none) (hx : b ∉ ex) : ∃ sl, h1.get? b = some { ob with slots := sl } := by
  by_cases hb : b ∈ fs
  · exact u.slot b ob q n hb hx
  · exact ⟨ob.slots, u.keep b ob q n hb hx⟩
theorem Un.trans (a : Un fs ex H H1 h h1) (b : Un fs ex H1 H2 h1 h2) : Un fs ex H H2 h h2 where
  keep := fun c ob q n hc hx => b.keep c ob (a.keep c ob q n hc hx) (a.free c ob q n hx) hc hx
  slot := fun c ob q n hc hx => by
    obtain ⟨sl, e1⟩ := a.slot c ob q n hc hx
    obtain ⟨sl', e2⟩ := b.slot c _ e1 (a.free c ob q n hx) hc hx
    exact ⟨sl', e2⟩
  free := fun c ob q n hx => by
    obtain ⟨o', e1⟩ := a.there c ob q hx
    exact b.free c o' e1 (a.free c ob q n hx) hx
  there := fun c ob q hx => by
    obtain ⟨o', e1⟩ := a.there c ob q hx
    exact b.there c o' e1 hx
  tups := fun c xs q => b.tups c xs (a.tups c xs q)
  frzs := fun c ob xs q => b.frzs c ob xs (a.frzs c ob xs q)
  tbls := fun c ps q => by
    obtain ⟨m1, e1⟩ := a.tbls c ps q
    obtain ⟨m2, e2⟩ := b.tbls c _ e1
    exact ⟨m1 ++ m2, by rw [e2, Array.append_assoc]⟩
theorem Un.kept (k : ∀ b u, h.get? b = some u → h'.get? b = some u) : Un fs ex H H h h' :=
  ⟨fun b ob q _ _ _ => k b ob q, fun b ob q _ _ _ => ⟨ob.slots, k b ob q⟩, fun _ _ _ n _ => n, fun b ob q _ => ⟨ob, k b ob q⟩, fun _ _ q => q, fun _ _ _ q => q, fun _ ps q => ⟨#[], by rw [q]; simp⟩⟩
theorem Un.refl : Un fs ex H H h h := Un.kept fun _ _ q => q
theorem Un.laid (k : ∀ b u, h.get? b = some u → h'.get? b = some u) (hp : h.objs.size ≤ a) (hn : H a = none) : Un fs ex H (upd H a o) h h' where
  keep := fun b u q _ _ _ => k b u q
  slot := fun b u q _ _ _ => ⟨u.slots, k b u q⟩
  free := fun b u q n _ => by rw [upd_ne (Nat.ne_of_lt (Nat.lt_of_lt_of_le (Heap.lt_size q) hp))]; exact n
  there := fun b u q _ => ⟨u, k b u q⟩
  tups := fun b xs q => by rw [upd_ne (ne_of_none q hn)]; exact q
  frzs := fun b u xs q => by rw [upd_ne (ne_of_none q hn)]; exact q
  tbls := fun b ps q => ⟨#[], by rw [upd_ne (ne_of_none q hn), q]; simp⟩
theorem Un.write (mu : Mut (H x)) (he : e = x ∨ H e = some (.own x)) (k : ∀ b u, b ≠ e → h.get? b = some u → h'.get? b = some u) (heo : ∃ u, h'.get? e = some u) : Un fs ex H (upd H x o) h h' := by
  have hx : ∀ b, H b = none → b ≠ x := fun b n z => by subst z; rw [n] at mu; exact mu
  have hb : ∀ b, H b = none → b ≠ e := fun b n z => by
    subst z
    rcases he with r | r
    · exact hx b n r
    · rw [n] at r; cases r
  have hm : ∀ b u, H b = some u → ¬ Mut (some u) → b ≠ x := fun b u q nm z => by subst z; rw [q] at mu; exact nm mu
  refine ⟨fun b u q n _ _ => k b u (hb b n) q, fun b u q n _ _ => ⟨u.slots, k b u (hb b n) q⟩, fun b u q n _ => by rw [upd_ne (hx b n)]; exact n, fun b u q _ => ?_,
    fun b xs q => by rw [upd_ne (hm b _ q fun z => z)]; exact q, fun b u xs q => by rw [upd_ne (hm b _ q fun z => z)]; exact q, fun b ps q => ⟨#[], by rw [upd_ne (hm b _ q fun z => z), q]; simp⟩⟩
  by_cases hbe : b = e
  · subst hbe; exact heo
  · exact ⟨u, k b u hbe q⟩
end

noncomputable def trk (h : Heap) (H : Hp) : List Addr := (List.range h.objs.size).filter fun a => (H a).isSome
noncomputable def hidT (h : Heap) (H : Hp) : Heap := PySem.W.hideAll h (trk h H)
theorem hidT_size (h : Heap) (H : Hp) : (hidT h H).objs.size = h.objs.size := PySem.W.hideAll_size _ _
theorem hidT_get {h : Heap} {H : Hp} {b : Addr} {o : Obj} (e : h.get? b = some o) (n : H b = none) : (hidT h H).get? b = some o :=
  PySem.W.hideAll_get _ e fun hm => by
    have q : (H b).isSome = true := (List.mem_filter.mp hm).2
    rw [n] at q; simp at q
theorem of_hidT {h : Heap} {H : Hp} {b : Addr} {o : Obj} (e : (hidT h H).get? b = some o) : h.get? b = some o ∧ H b = none := by
  have e' : h.get? b = some o := PySem.W.of_hideAll (trk h H) e
  refine ⟨e', ?_⟩
  cases q : H b with
  | none => rfl
  | some x =>
    have hm : b ∈ trk h H := List.mem_filter.mpr ⟨List.mem_range.mpr (Heap.lt_size e'), by simp [q]⟩
    have z : (hidT h H).get? b = none := PySem.W.hideAll_none (trk h H) hm
    rw [z] at e; cases e

noncomputable def allNews (g h : Heap) (L : Addr) : List (Addr × Obj) := (List.range h.objs.size).filterMap fun a => if a = L ∨ (g.get? a).isSome = true then none else (h.get? a).map fun o => (a, o)
noncomputable def rest (g h : Heap) (L d : Addr) : List (Addr × Obj) := (allNews g h L).filter fun p => decide (p.1 ≠ d)
end L2.Internal

namespace L2.Internal
open PySem PySem.Spec PyProof.Rows

structure Mod (K : PySem.W.Frag) (mg : Str → Option Value) (base : Heap) : Prop where
  kin : K.In base
  glob : base.Ns mainGlobals mg
  blt : ∃ mb, base.Ns builtinsNs mb ∧ ∀ x : Str, x ≠ "__name__" → mb x = bootBuiltins x
  nolimit : base.NoLimit

structure Cx where
  prog : Program
  w : World
  K : PySem.W.Frag
  mg : Str → Option Value
  base : Heap
  A : Around
  N : List Str
  s₀ : Shared
  H₀ : Hp
  env : Env
  outer : List Env
  stack : List Env
  ex : List Addr
  fn : Str → Bool
  calm : Bool
  pn : List (Addr × Obj)
  xe : Value → Shared → Prop
noncomputable def frs (l : List Env) : List Addr := l.filterMap (·.frame)
noncomputable abbrev Cx.fs (X : Cx) : List Addr := frs X.outer

noncomputable def Vis (sc : Scope) (x : Str) : Prop := sc.names.lookup x = some .local ∨ sc.names.lookup x = some .cell ∨ sc.names.lookup x = some .free
noncomputable def Loc (sc : Scope) (x : Str) : Prop := sc.names.lookup x = some .local ∨ sc.names.lookup x = some .cell
noncomputable def Look (env : Env) (h : Heap) (m : Str → Option Value) (x : Str) (u : Value) : Prop :=
  (env.kindOf x = some .local ∧ m x = some u) ∨ ((env.kindOf x = some .cell ∨ env.kindOf x = some .free) ∧ ∃ c, env.cells.lookup x = some c ∧ h.IsCell c (some u))

structure Cx.Ok (X : Cx) : Prop where
  mod : Mod X.K X.mg X.base
  kind : X.env.scope.kind = .function
  glob : X.env.globals = mainGlobals
  blt : X.env.builtins = builtinsNs
  above : X.s₀.heap.objs.size ≤ X.env.locals
  inj : ∀ x y c, X.env.cells.lookup x = some c → X.env.cells.lookup y = some c → x = y
  has : ∀ x, (X.env.kindOf x = some .cell ∨ X.env.kindOf x = some .free) → ∃ c, X.env.cells.lookup x = some c
  cab : ∀ x c, X.fn x = true → X.env.cells.lookup x = some c → X.s₀.heap.objs.size ≤ c
  hd : X.calm = true → X.A.handled = none
  frames : X.A.frames = some X.stack
  stk : X.stack = X.outer ∨ (X.stack = X.env :: X.outer ∧ X.env.frame = some X.env.locals)
  exf : ∀ b ∈ X.ex, b ≠ X.env.locals ∧ ∀ x c, X.env.cells.lookup x = some c → c ≠ b
  bs : ∀ b o, X.base.get? b = some o → X.s₀.heap.get? b = some o ∧ X.H₀ b = none
  bsz : X.base.objs.size ≤ X.s₀.heap.objs.size
  noex : ∀ b o, X.base.get? b = some o → b ∉ X.ex
  exfs : ∀ b ∈ X.ex, b ∉ X.fs
  funs : X.s₀.heap.FunFrames X.base X.outer
  frf : ∀ b ∈ X.fs, X.H₀ b = none

structure Inv (X : Cx) (pins : List (Addr × Obj)) (σ : List (Option V)) (H : Hp) (s : Shared) : Prop where
  ok : X.Ok
  os : s.os = X.s₀.os
  bare : AllBare s.gens
  base : Un X.fs X.ex X.H₀ H X.s₀.heap s.heap
  loc : ∃ m, s.heap.Ns X.env.locals m ∧ ∀ (i : Nat) (x : Str) (v : V), X.N[i]? = some x → σ[i]? = some (some v) → Vis X.env.scope x → ∃ u, RelV v u ∧ Look X.env s.heap m x u
  cell : ∀ x c, X.env.cells.lookup x = some c → ∃ v, s.heap.IsCell c v
  free : H X.env.locals = none
  freeC : ∀ x c, X.env.cells.lookup x = some c → H c = none
  pin : ∀ p ∈ X.pn ++ pins, s.heap.get? p.1 = some p.2 ∧ H p.1 = none ∧ p.1 ≠ X.env.locals ∧ p.1 ∉ X.fs ∧ ∀ v, p.2.data ≠ .cell v
  hok : HOk X.prog X.w H s.heap
  len : σ.length = X.N.length

section
variable {X : Cx} {pins : List (Addr × Obj)} {σ : List (Option V)} {H H' : Hp} {s : Shared} {h' : Heap}

theorem Cx.Ok.nofr (ok : X.Ok) {b : Addr} {o : Obj} (e : X.base.get? b = some o) : b ∉ X.fs := fun hb => by
  have := (ok.funs.mem hb).1
  rw [e] at this; cases this
theorem Inv.bs (I : Inv X pins σ H s) : ∀ b o, X.base.get? b = some o → s.heap.get? b = some o ∧ H b = none := fun b o e =>
  ⟨I.base.keep b o (I.ok.bs b o e).1 (I.ok.bs b o e).2 (I.ok.nofr e) (I.ok.noex b o e), I.base.free b o (I.ok.bs b o e).1 (I.ok.bs b o e).2 (I.ok.noex b o e)⟩
theorem Inv.bk (I : Inv X pins σ H s) : ∀ b o, X.base.get? b = some o → s.heap.get? b = some o := fun b o e => (I.bs b o e).1
theorem Inv.mod (I : Inv X pins σ H s) : Mod X.K X.mg X.base := I.ok.mod
theorem Inv.kIn (I : Inv X pins σ H s) : X.K.In s.heap := I.ok.mod.kin.keeps I.bk
theorem Inv.lt (I : Inv X pins σ H s) : X.env.locals < s.heap.objs.size := let ⟨_, hn, _⟩ := I.loc; hn.lt
theorem Inv.sz (I : Inv X pins σ H s) : X.s₀.heap.objs.size ≤ s.heap.objs.size := Nat.le_trans I.ok.above (Nat.le_of_lt I.lt)
theorem Inv.nofs (I : Inv X pins σ H s) {a : Addr} (h : s.heap.objs.size ≤ a) : a ∉ X.fs := fun hb => by
  obtain ⟨_, o, ho, _⟩ := I.ok.funs.mem hb
  exact absurd (Nat.lt_of_lt_of_le (Heap.lt_size ho) (Nat.le_trans I.sz h)) (Nat.lt_irrefl _)
theorem Inv.cne (I : Inv X pins σ H s) : ∀ x c, X.env.cells.lookup x = some c → c ≠ X.env.locals := fun x c e z => by
  obtain ⟨v, o, ho, hd⟩ := I.cell x c e
  obtain ⟨m, ⟨o', es, ep, ho', hd', _⟩, _⟩ := I.loc
  rw [z, ho'] at ho; cases ho; rw [hd'] at hd; cases hd
theorem Inv.funs (I : Inv X pins σ H s) : s.heap.FunFrames X.base X.outer := by
  have all : ∀ (l : List Env), (∀ b ∈ frs l, b ∈ X.fs) → X.s₀.heap.FunFrames X.base l → s.heap.FunFrames X.base l := by
    intro l
    induction l with
    | nil => intro _ _; trivial
    | cons env r ih =>
      intro hs hl
      obtain ⟨hk, ⟨L, o, hf, hn, ho, hd⟩, hr⟩ := hl
      have hL : L ∈ X.fs := hs L (by unfold frs; rw [List.filterMap_cons, hf]; exact List.mem_cons_self)
      obtain ⟨sl, e⟩ := I.base.slot L o ho (I.ok.frf L hL) hL fun z => I.ok.exfs L z hL
      exact ⟨hk, ⟨L, _, hf, hn, e, hd⟩, ih (fun b hb => hs b (by unfold frs; rw [List.filterMap_cons, hf]; exact List.mem_cons_of_mem _ hb)) hr⟩
  exact all X.outer (fun _ hb => hb) I.ok.funs

theorem Inv.stack (I : Inv X pins σ H s) : s.heap.FunFrames X.base X.stack := by
  rcases I.ok.stk with e | ⟨e, hf⟩
  · rw [e]; exact I.funs
  · rw [e]
    obtain ⟨m, hn, _⟩ := I.loc
    refine .cons (by rw [I.ok.kind]; decide) hf hn ?_ I.funs
    exact Heap.get?_none_of_le (Nat.le_trans I.ok.bsz I.ok.above)
theorem Inv.stkSub (I : Inv X pins σ H s) : ∀ b ∈ frs X.stack, b ∈ X.env.locals :: X.fs := fun b hb => by
  rcases I.ok.stk with e | ⟨e, hf⟩
  · rw [e] at hb; exact List.mem_cons_of_mem _ hb
  · rw [e] at hb
    unfold frs at hb
    rw [List.filterMap_cons, hf] at hb
    exact hb
theorem Inv.stkFree (I : Inv X pins σ H s) : ∀ b ∈ frs X.stack, H b = none := fun b hb => by
  rcases List.mem_cons.mp (I.stkSub b hb) with e | hb
  · rw [e]; exact I.free
  · obtain ⟨_, o, ho, _⟩ := I.ok.funs.mem hb
    exact I.base.free b o ho (I.ok.frf b hb) fun z => I.ok.exfs b z hb

theorem Inv.step {g' : Array GenState} {t' : Nat} {d' : Drawn} {ch : List Addr} (I : Inv X pins σ H s)
    (hch : ∀ b ∈ ch, (b ∈ X.ex ∨ X.s₀.heap.objs.size ≤ b) ∧ b ≠ X.env.locals ∧ (∀ x c, X.env.cells.lookup x = some c → c ≠ b) ∧ ∀ p ∈ X.pn ++ pins, p.1 ≠ b)
    (keep : ∀ b o, b ≠ X.env.locals → b ∉ X.fs → b ∉ ch → s.heap.get? b = some o → H b = none → h'.get? b = some o)
    (slot : ∀ b o, b ≠ X.env.locals → b ∈ X.fs → b ∉ ch → s.heap.get? b = some o → H b = none → ∃ sl, h'.get? b = some { o with slots := sl }) (free : ∀ b o, b ∉ ch → s.heap.get? b = some o → H b = none → H' b = none)
    (there : ∀ b o, b ∉ ch → s.heap.get? b = some o → ∃ o', h'.get? b = some o')
    (tups : ∀ b xs, H b = some (.tup xs) → H' b = some (.tup xs)) (frzs : ∀ b o u, H b = some (.frz o u) → H' b = some (.frz o u)) (tbls : ∀ b ps, H b = some (.tbl ps) → ∃ more, H' b = some (.tbl (ps ++ more)))
    (ns : ∀ m, s.heap.Ns X.env.locals m → h'.Ns X.env.locals m) (hok : HOk X.prog X.w H' h') (hg : AllBare g') :
    Inv X pins σ H' { s with heap := h', gens := g', drawn := d', toks := t' } := by
  have neL : ∀ b o, X.s₀.heap.get? b = some o → b ≠ X.env.locals := fun b o e => Nat.ne_of_lt (Nat.lt_of_lt_of_le (Heap.lt_size e) I.ok.above)
  have neC : ∀ b o, X.s₀.heap.get? b = some o → b ∉ X.ex → b ∉ ch := fun b o e hx hb => by
    rcases (hch b hb).1 with z | z
    · exact hx z
    · exact absurd (Nat.lt_of_lt_of_le (Heap.lt_size e) z) (Nat.lt_irrefl _)
  have cellK : ∀ x c, X.env.cells.lookup x = some c → ∀ v, s.heap.IsCell c v → h'.IsCell c v := fun x c e v ⟨o, ho, hd⟩ => by
    have nch : c ∉ ch := fun z => (hch c z).2.2.1 x c e rfl
    by_cases hc : c ∈ X.fs
    · obtain ⟨sl, q⟩ := slot c o (I.cne x c e) hc nch ho (I.freeC x c e)
      exact ⟨_, q, hd⟩
    · exact ⟨o, keep c o (I.cne x c e) hc nch ho (I.freeC x c e), hd⟩
  refine ⟨I.ok, I.os, hg, ⟨fun b o e n hb hx => ?_, fun b o e n hb hx => ?_, fun b o e n hx => ?_, fun b o e hx => ?_, fun b xs e => tups b xs (I.base.tups b xs e), fun b o xs e => frzs b o xs (I.base.frzs b o xs e), fun b ps e => ?_⟩, ?_, fun x c e => ?_, ?_, fun x c e => ?_, fun p hp => ?_, hok, I.len⟩
  · exact keep b o (neL b o e) hb (neC b o e hx) (I.base.keep b o e n hb hx) (I.base.free b o e n hx)
  · obtain ⟨sl, e1⟩ := I.base.slot b o e n hb hx
    obtain ⟨sl', e2⟩ := slot b _ (neL b o e) hb (neC b o e hx) e1 (I.base.free b o e n hx)
    exact ⟨sl', e2⟩
  · obtain ⟨o', e1⟩ := I.base.there b o e hx
    exact free b o' (neC b o e hx) e1 (I.base.free b o e n hx)
  · obtain ⟨o', e1⟩ := I.base.there b o e hx
    exact there b o' (neC b o e hx) e1
  · obtain ⟨m1, e1⟩ := I.base.tbls b ps e
    obtain ⟨m2, e2⟩ := tbls b _ e1
    exact ⟨m1 ++ m2, by rw [e2, Array.append_assoc]⟩
  · obtain ⟨m, hn, hl⟩ := I.loc
    refine ⟨m, ns m hn, fun i x v e1 e2 e3 => ?_⟩
    obtain ⟨u, r, l⟩ := hl i x v e1 e2 e3
    refine ⟨u, r, ?_⟩
    rcases l with l | ⟨k, c, e, z⟩
    · exact .inl l
    · exact .inr ⟨k, c, e, cellK x c e _ z⟩
  · obtain ⟨v, z⟩ := I.cell x c e
    exact ⟨v, cellK x c e v z⟩
  · obtain ⟨m, ⟨o, _, _, ho, _⟩, _⟩ := I.loc
    exact free _ o (fun z => (hch _ z).2.1 rfl) ho I.free
  · obtain ⟨v, o, ho, hd⟩ := I.cell x c e
    exact free c o (fun z => (hch c z).2.2.1 x c e rfl) ho (I.freeC x c e)
  · obtain ⟨e, n, ne, nf, d⟩ := I.pin p hp
    have nch : p.1 ∉ ch := fun z => (hch p.1 z).2.2.2 p hp rfl
    exact ⟨keep p.1 p.2 ne nf nch e n, free p.1 p.2 nch e n, ne, nf, d⟩
theorem Inv.un {t' : Nat} (I : Inv X pins σ H s) (u : Un X.fs [] H H' s.heap h') (hok : HOk X.prog X.w H' h') : Inv X pins σ H' { s with heap := h', toks := t' } := by
  obtain ⟨m, ⟨o, es, ep, ho, r⟩, _⟩ := id I.loc
  obtain ⟨sl, hL⟩ := u.any ho I.free (by simp)
  exact I.step (g' := s.gens) (d' := s.drawn) (ch := []) (fun _ z => nomatch z) (fun b o _ hb _ e n => u.keep b o e n hb (by simp)) (fun b o _ hb _ e n => u.slot b o e n hb (by simp)) (fun b o _ e n => u.free b o e n (by simp)) (fun b o _ e => u.there b o e (by simp)) u.tups u.frzs u.tbls (fun m' hm => by
    obtain ⟨o', es', ep', ho', r'⟩ := hm
    rw [ho] at ho'; cases ho'
    exact ⟨_, es', ep', hL, r'⟩) hok I.bare
theorem Inv.call {g' : Array GenState} {t' : Nat} {d' : Drawn} {ch : List Addr} (I : Inv X pins σ H s) (u : Un (frs X.stack) ch H H' s.heap h') (hok : HOk X.prog X.w H' h') (hg : AllBare g')
    (hch : ∀ b ∈ ch, (b ∈ X.ex ∨ X.s₀.heap.objs.size ≤ b) ∧ b ≠ X.env.locals ∧ (∀ x c, X.env.cells.lookup x = some c → c ≠ b) ∧ ∀ p ∈ X.pn ++ pins, p.1 ≠ b) :
    Inv X pins σ H' { s with heap := h', gens := g', drawn := d', toks := t' } := by
  obtain ⟨m, ⟨o, es, ep, ho, r⟩, _⟩ := id I.loc
  obtain ⟨sl, hL⟩ := u.any ho I.free fun z => (hch _ z).2.1 rfl
  exact I.step (ch := ch) hch (fun b o hL hb hc e n => u.keep b o e n (fun z => (List.mem_cons.mp (I.stkSub b z)).elim hL hb) hc) (fun b o _ _ hc e n => u.any e n hc) (fun b o hc e n => u.free b o e n hc) (fun b o hc e => u.there b o e hc) u.tups u.frzs u.tbls (fun m' hm => by
    obtain ⟨o', es', ep', ho', r'⟩ := hm
    rw [ho] at ho'; cases ho'
    exact ⟨_, es', ep', hL, r'⟩) hok hg
theorem Inv.turned {t' : Nat} {it : Addr} (I : Inv X pins σ H s) (k : ∀ b o, b ≠ it → s.heap.get? b = some o → h'.get? b = some o) (hn : H it = none) (hL : it ≠ X.env.locals)
    (h1 : it ∈ X.ex ∨ X.s₀.heap.objs.size ≤ it) (h2 : ∀ x c, X.env.cells.lookup x = some c → c ≠ it) (h3 : ∀ p ∈ X.pn ++ pins, p.1 ≠ it) : Inv X pins σ H { s with heap := h', toks := t' } := by
  have nit : ∀ b u, H b = some u → b ≠ it := fun b u e z => by rw [z, hn] at e; cases e
  refine I.step (g' := s.gens) (d' := s.drawn) (ch := [it]) (fun b hb => ?_) (fun b o _ _ hc e _ => k b o (fun z => hc (by simp [z])) e) (fun b o _ _ hc e _ => ⟨o.slots, k b o (fun z => hc (by simp [z])) e⟩) (fun _ _ _ _ n => n)
    (fun b o hc e => ⟨o, k b o (fun z => hc (by simp [z])) e⟩) (fun _ _ e => e) (fun _ _ _ e => e) (fun b ps e => ⟨#[], by rw [e]; simp⟩) (fun m hm => ?_) (fun b u e => ?_) I.bare
  · have e : b = it := by simpa using hb
    subst e
    exact ⟨h1, hL, h2, h3⟩
  · obtain ⟨o, es, ep, ho, r⟩ := hm
    exact ⟨o, es, ep, k _ o (Ne.symm hL) ho, r⟩
  · refine (I.hok b u e).stay (fun c v hc q => k c v ?_ q) (fun _ q => q) fun _ _ q => q
    rcases hc with z | z
    · rw [z]; exact nit b u e
    · exact nit c _ z
theorem Inv.tok (I : Inv X pins σ H s) (t : Nat) : Inv X pins σ H { s with toks := t } := I.un (h' := s.heap) (t' := t) Un.refl I.hok
theorem Inv.kept {t' : Nat} (I : Inv X pins σ H s) (k : ∀ b u, s.heap.get? b = some u → h'.get? b = some u) : Inv X pins σ H { s with heap := h', toks := t' } := I.un (Un.kept k) (I.hok.kept k)
theorem Inv.laid {a : Addr} {o : HO} {t' : Nat} (I : Inv X pins σ H s) (k : ∀ b u, s.heap.get? b = some u → h'.get? b = some u) (hp : s.heap.objs.size ≤ a) (new : ObjOk X.prog X.w (upd H a o) h' a o) :
    Inv X pins σ (upd H a o) { s with heap := h', toks := t' } := I.un (Un.laid k hp (I.hok.fresh hp)) (I.hok.laid k hp new)
theorem Inv.write {x e : Addr} {o : HO} {t' : Nat} (I : Inv X pins σ H s) (mu : Mut (H x)) (he : e = x ∨ H e = some (.own x)) (k : ∀ b u, b ≠ e → s.heap.get? b = some u → h'.get? b = some u) (heo : ∃ u, h'.get? e = some u)
    (new : ObjOk X.prog X.w (upd H x o) h' x o) : Inv X pins σ (upd H x o) { s with heap := h', toks := t' } := I.un (Un.write mu he k heo) (I.hok.write mu he k heo new)
theorem Inv.pins_of {pins' : List (Addr × Obj)} (I : Inv X pins σ H s) (h : ∀ p ∈ pins', s.heap.get? p.1 = some p.2 ∧ H p.1 = none ∧ p.1 ≠ X.env.locals ∧ p.1 ∉ X.fs ∧ ∀ v, p.2.data ≠ .cell v) : Inv X pins' σ H s :=
  ⟨I.ok, I.os, I.bare, I.base, I.loc, I.cell, I.free, I.freeC, fun p hp => (List.mem_append.mp hp).elim (fun z => I.pin p (List.mem_append_left _ z)) (h p), I.hok, I.len⟩

theorem nodup_ix {N : List Str} (hN : N.Nodup) {i j : Nat} {x : Str} (a : N[i]? = some x) (b : N[j]? = some x) : i = j := by
  obtain ⟨h1, e1⟩ := List.getElem?_eq_some_iff.mp a
  obtain ⟨h2, e2⟩ := List.getElem?_eq_some_iff.mp b
  exact (List.getElem_inj hN).mp (e1.trans e2.symm)

theorem store_ok2 {M : Model} {A : Around} {E : Value → Shared → Prop} {i : Nat} {x : Str} {v : V} {u : Value} {Q : Unit → Shared → Prop} (I : Inv X pins σ H s) (hN : X.N.Nodup) (hi : X.N[i]? = some x) (hx : Loc X.env.scope x) (r : RelV v u)
    (h : ∀ s', Inv X pins (σ.set i (some v)) H s' → (∃ a, Heap.SameBut a s.heap s'.heap ∧ (a = X.env.locals ∨ X.env.cells.lookup x = some a)) → Q () s') (hf : autoParam (X.fn x = true ∨ X.env.scope.names.lookup x = some .local) L2.Internal.auL._auto_1) : wpAny M A (storeName X.env x u) Q E s := by
  obtain ⟨m, hn, hl⟩ := id I.loc
  have hcls : (X.env.scope.kind == .class || (X.env.scope.kind == .module && X.env.locals != X.env.globals)) = false := by rw [I.ok.kind]; rfl
  have hiσ : i < σ.length := by rw [I.len]; exact (List.getElem?_eq_some_iff.mp hi).1
  have cne := I.cne
  have tracked : ∀ {a : Addr} {h' : Heap}, (∃ o, s.heap.get? a = some o ∧ H a = none) → Heap.SameBut a s.heap h' → HOk X.prog X.w H h' := fun {a h'} ha hs b ob e => by
    obtain ⟨_, _, hfree⟩ := ha
    refine (I.hok b ob e).stay (fun c w' hc q => (hs.2 c ?_).trans q) (fun _ q => q) fun _ _ q => q
    rintro rfl
    rcases hc with rfl | hc
    · rw [hfree] at e; cases e
    · rw [hfree] at hc; cases hc
  rcases hx with hk | hk
  · refine wpAny_storeName_local hk hn (fun h' hn' hs => ?_) hcls
    obtain ⟨oL, _, _, hoL, _⟩ := id hn
    refine h _ ⟨I.ok, I.os, I.bare, ⟨fun b o e n hb hx => ?_, fun b o e n hb hx => ?_, I.base.free, fun b o e hx => ?_, I.base.tups, I.base.frzs, I.base.tbls⟩, ⟨_, hn', fun j y v' e1 e2 e3 => ?_⟩, fun y c e => ?_, I.free, I.freeC, fun p hp => ?_, tracked ⟨oL, hoL, I.free⟩ hs, by simpa using I.len⟩ ⟨_, hs, .inl rfl⟩
    · exact (hs.2 b (Nat.ne_of_lt (Nat.lt_of_lt_of_le (Heap.lt_size e) I.ok.above))).trans (I.base.keep b o e n hb hx)
    · obtain ⟨sl, e1⟩ := I.base.slot b o e n hb hx
      exact ⟨sl, (hs.2 b (Nat.ne_of_lt (Nat.lt_of_lt_of_le (Heap.lt_size e) I.ok.above))).trans e1⟩
    · obtain ⟨o', e1⟩ := I.base.there b o e hx
      exact ⟨o', (hs.2 b (Nat.ne_of_lt (Nat.lt_of_lt_of_le (Heap.lt_size e) I.ok.above))).trans e1⟩
    · by_cases hj : j = i
      · subst hj
        rw [hi] at e1; cases e1
        rw [List.getElem?_set_self hiσ] at e2
        cases e2
        exact ⟨u, r, .inl ⟨hk, by simp⟩⟩
      · rw [List.getElem?_set_ne (Ne.symm hj)] at e2
        obtain ⟨u', r', q⟩ := hl j y v' e1 e2 e3
        refine ⟨u', r', ?_⟩
        rcases q with ⟨k, e⟩ | ⟨k, c, e, z⟩
        · refine .inl ⟨k, ?_⟩
          have : y ≠ x := fun e => hj (nodup_ix hN e1 (e ▸ hi))
          simp [this, e]
        · exact .inr ⟨k, c, e, z.sameBut hs (cne y c e)⟩
    · obtain ⟨w', z⟩ := I.cell y c e
      exact ⟨w', z.sameBut hs (cne y c e)⟩
    · obtain ⟨e, n, ne, nf, d⟩ := I.pin p hp
      exact ⟨(hs.2 p.1 ne).trans e, n, ne, nf, d⟩
  · have hfn : X.fn x = true := by
      rcases hf with z | z
      · exact z
      · rw [z] at hk; cases hk
    obtain ⟨c, hc⟩ := I.ok.has x (.inl hk)
    obtain ⟨w', z⟩ := I.cell x c hc
    refine wpAny_storeName_cell I.ok.kind hk hc z (fun h' hc' hs => ?_)
    obtain ⟨oc, hoc, hocd⟩ := id z
    refine h { s with heap := h' } ⟨I.ok, I.os, I.bare, ⟨fun b o e n hb hx => ?_, fun b o e n hb hx => ?_, I.base.free, fun b o e hx => ?_, I.base.tups, I.base.frzs, I.base.tbls⟩, ⟨m, hn.sameBut hs (Ne.symm (cne x c hc)), fun j y v' e1 e2 e3 => ?_⟩, fun y c' e => ?_, I.free, I.freeC, fun p hp => ?_, tracked ⟨oc, hoc, I.freeC x c hc⟩ hs, by simpa using I.len⟩ ⟨c, hs, .inr hc⟩
    · exact (hs.2 b (Nat.ne_of_lt (Nat.lt_of_lt_of_le (Heap.lt_size e) (I.ok.cab x c hfn hc)))).trans (I.base.keep b o e n hb hx)
    · obtain ⟨sl, e1⟩ := I.base.slot b o e n hb hx
      exact ⟨sl, (hs.2 b (Nat.ne_of_lt (Nat.lt_of_lt_of_le (Heap.lt_size e) (I.ok.cab x c hfn hc)))).trans e1⟩
    · obtain ⟨o', e1⟩ := I.base.there b o e hx
      exact ⟨o', (hs.2 b (Nat.ne_of_lt (Nat.lt_of_lt_of_le (Heap.lt_size e) (I.ok.cab x c hfn hc)))).trans e1⟩
    · by_cases hj : j = i
      · subst hj
        rw [hi] at e1; cases e1
        rw [List.getElem?_set_self hiσ] at e2
        cases e2
        exact ⟨u, r, .inr ⟨.inl hk, c, hc, hc'⟩⟩
      · rw [List.getElem?_set_ne (Ne.symm hj)] at e2
        obtain ⟨u', r', q⟩ := hl j y v' e1 e2 e3
        refine ⟨u', r', ?_⟩
        rcases q with q | ⟨k, c', e, z'⟩
        · exact .inl q
        · refine .inr ⟨k, c', e, z'.sameBut hs ?_⟩
          rintro rfl
          exact hj (nodup_ix hN e1 (I.ok.inj _ _ _ e hc ▸ hi))
    · by_cases hcc : c' = c
      · subst hcc; exact ⟨_, hc'⟩
      · obtain ⟨w2, z2⟩ := I.cell y c' e
        exact ⟨w2, z2.sameBut hs hcc⟩
    · obtain ⟨e, n, ne, nf, d⟩ := I.pin p hp
      refine ⟨(hs.2 p.1 ?_).trans e, n, ne, nf, d⟩
      intro q
      rw [q, hoc] at e
      have q' : oc = p.2 := Option.some.inj e
      exact d w' (by rw [← q']; exact hocd)
theorem store_ok {M : Model} {A : Around} {E : Value → Shared → Prop} {i : Nat} {x : Str} {v : V} {u : Value} {Q : Unit → Shared → Prop} (I : Inv X pins σ H s) (hN : X.N.Nodup) (hi : X.N[i]? = some x) (hx : Loc X.env.scope x) (r : RelV v u)
    (h : ∀ s', Inv X pins (σ.set i (some v)) H s' → Q () s') (hf : autoParam (X.fn x = true ∨ X.env.scope.names.lookup x = some .local) L2.Internal.auL._auto_1) : wpAny M A (storeName X.env x u) Q E s :=
  store_ok2 I hN hi hx r (fun s' I' _ => h s' I') hf
theorem Inv.call' {s' : Shared} {ch : List Addr} (I : Inv X pins σ H s) (ho : s'.os = s.os) (u : Un (frs X.stack) ch H H' s.heap s'.heap) (hok : HOk X.prog X.w H' s'.heap) (hg : AllBare s'.gens)
    (hch : ∀ b ∈ ch, (b ∈ X.ex ∨ X.s₀.heap.objs.size ≤ b) ∧ b ≠ X.env.locals ∧ (∀ x c, X.env.cells.lookup x = some c → c ≠ b) ∧ ∀ p ∈ X.pn ++ pins, p.1 ≠ b) : Inv X pins σ H' s' := by
  obtain ⟨h', g', d', t', o'⟩ := s'
  have e : o' = s.os := ho
  subst e
  exact I.call (g' := g') (t' := t') (d' := d') u hok hg hch
end

noncomputable abbrev XK := Value → Option Addr → Hp → Prop
noncomputable abbrev St := List (Option V)
noncomputable abbrev VK := V → Hp → Prop
noncomputable abbrev TE := St → Hp → VK → Prop
noncomputable abbrev TT := St → Hp → (Bool → Hp → Prop) → Prop
noncomputable abbrev TA := St → Hp → (List V → Hp → Prop) → Prop
structure Ends where
  nx : St → Hp → Prop
  rt : VK
  bk : St → Hp → Prop := fun _ _ => False
  ct : St → Hp → Prop := fun _ _ => False
noncomputable abbrev TS := Ends → St → Hp → Prop

noncomputable def EP (X : Cx) (pins : List (Addr × Obj)) (σ : St) (Q : VK) (u : Value) (s' : Shared) : Prop := ∃ v H', Inv X pins σ H' s' ∧ RelV v u ∧ Q v H'
noncomputable def TP (X : Cx) (pins : List (Addr × Obj)) (σ : St) (Q : Bool → Hp → Prop) (b : Bool) (s' : Shared) : Prop := ∃ H', Inv X pins σ H' s' ∧ Q b H'
noncomputable def AP (X : Cx) (pins : List (Addr × Obj)) (σ : St) (Q : List V → Hp → Prop) (us : List Value) (s' : Shared) : Prop := ∃ vs H', Inv X pins σ H' s' ∧ Vals vs us ∧ Q vs H'
noncomputable def SP (X : Cx) (pins : List (Addr × Obj)) (D : Ends) (f : Flow) (s' : Shared) : Prop :=
  match f with
  | .next => ∃ σ' H', Inv X pins σ' H' s' ∧ D.nx σ' H'
  | .brk => ∃ σ' H', Inv X pins σ' H' s' ∧ D.bk σ' H'
  | .cont => ∃ σ' H', Inv X pins σ' H' s' ∧ D.ct σ' H'
  | .ret u => ∃ v σ' H', Inv X pins σ' H' s' ∧ RelV v u ∧ D.rt v H'

noncomputable def PE (X : Cx) (e : Expr) (t : TE) : Prop :=
  ∀ (pins : List (Addr × Obj)) (s : Shared) (σ : St) (H : Hp) (Q : VK), Inv X pins σ H s → t σ H Q → wpAny (model X.prog X.w) X.A (eval e X.env) (EP X pins σ Q) X.xe s
noncomputable def PT (X : Cx) (e : Expr) (t : TT) : Prop :=
  ∀ (pins : List (Addr × Obj)) (s : Shared) (σ : St) (H : Hp) (Q : Bool → Hp → Prop), Inv X pins σ H s → t σ H Q → wpAny (model X.prog X.w) X.A (isTrue e X.env (eval e X.env)) (TP X pins σ Q) X.xe s
noncomputable def PW (X : Cx) (e : Expr) (t : TT) : Prop :=
  ∀ (whole : Sem Value) (pins : List (Addr × Obj)) (s : Shared) (σ : St) (H : Hp) (Q : Bool → Hp → Prop), Inv X pins σ H s → t σ H Q → wpAny (model X.prog X.w) X.A (isTrue e X.env whole) (TP X pins σ Q) X.xe s
theorem PW.pt {X : Cx} {e : Expr} {t : TT} (h : PW X e t) : PT X e t := h _
noncomputable def PA (X : Cx) (es : List Expr) (t : TA) : Prop :=
  ∀ (pos : Pos) (pins : List (Addr × Obj)) (s : Shared) (σ : St) (H : Hp) (Q : List V → Hp → Prop), Inv X pins σ H s → t σ H Q → wpAny (model X.prog X.w) X.A (spliced (backTo pos (starEach es X.env))) (AP X pins σ Q) X.xe s
noncomputable def PS (X : Cx) (st : Stmt) (t : TS) : Prop :=
  ∀ (pins : List (Addr × Obj)) (s : Shared) (σ : St) (H : Hp) (D : Ends), Inv X pins σ H s → t D σ H → wpAny (model X.prog X.w) X.A (exec st X.env) (SP X pins D) X.xe s
noncomputable def PSs (X : Cx) (st : List Stmt) (t : TS) : Prop :=
  ∀ (pins : List (Addr × Obj)) (s : Shared) (σ : St) (H : Hp) (D : Ends), Inv X pins σ H s → t D σ H → wpAny (model X.prog X.w) X.A (execs st X.env) (SP X pins D) X.xe s
theorem thn {α : Type} {t : Sem α} {Q Q' : α → Shared → Prop} {M : Model} {A : Around} {E : Value → Shared → Prop} {s : Shared} (h : wpAny M A t Q E s) (hQ : ∀ a s, Q a s → Q' a s) : wpAny M A t Q' E s := wpAny_mono h hQ fun _ _ x => x
end L2.Internal

namespace L2.Internal
open PySem PySem.Spec PyProof.Rows
section
variable {X : Cx}

noncomputable def tVar (i : Nat) : TE := fun σ H Q => ∃ v, σ[i]? = some (some v) ∧ Q v H
noncomputable def tC (v : V) : TE := fun _ H Q => Q v H
theorem pe_var {i : Nat} {x : Str} {pos : Pos} (hN : X.N[i]? = some x) (hv : Vis X.env.scope x) (hd : autoParam ((x == ("__debug__" : Str)) = false) L2.Internal.auD._auto_1) (hcd : autoParam ((x == ("__classdict__" : Str)) = false) L2.Internal.auD._auto_1) : PE X (.Name x pos) (tVar i) := by
  intro pins s σ H Q I h
  obtain ⟨v, e, h⟩ := h
  obtain ⟨m, hn, hl⟩ := I.loc
  obtain ⟨u, r, l⟩ := hl i x v hN e hv
  have fin : EP X pins σ Q u s := ⟨v, H, I, r, h⟩
  rcases l with ⟨hk, hm⟩ | ⟨hk, c, hc, hcell⟩
  · exact wpAny_Name (wpAny_loadName_local I.ok.kind hk hn hm fin) hd
  · rcases hk with hk | hk
    · exact wpAny_Name (wpAny_loadName_cell I.ok.kind hk hc hcell fin) hd
    · exact wpAny_Name (wpAny_loadName_free I.ok.kind hk hc hcell fin hcd) hd
theorem pe_int {i j pos} : PE X (.Constant (.int i) j pos) (tC (.int i)) := fun _ _ _ H _ I h => wpAny_Constant_int ⟨.int i, H, I.tok _, ⟨_, rfl⟩, h⟩
theorem pe_bl {b j pos} : PE X (.Constant (.bool b) j pos) (tC (.bl b)) := fun _ _ _ H _ I h => Constant_bool ⟨.bl b, H, I, rfl, h⟩
theorem pe_non {j pos} : PE X (.Constant .none j pos) (tC .non) := fun _ _ _ H _ I h => Constant_none ⟨.non, H, I, rfl, h⟩
theorem pe_str {x j pos} : PE X (.Constant (.str x) j pos) (tC (.str x)) := fun _ _ _ H _ I h => Calls.Constant_str ⟨.str x, H, I.tok _, ⟨_, rfl⟩, h⟩

noncomputable def Gl (X : Cx) (x : Str) : Prop := X.env.kindOf x = some .globalImplicit
theorem ld_glob {E : Value → Shared → Prop} {pins : List (Addr × Obj)} {s : Shared} {σ : St} {H : Hp} {x : Str} {u : Value} {pos : Pos} {Q : Value → Shared → Prop} (I : Inv X pins σ H s) (hg : Gl X x) (hm : X.mg x = some u) (h : Q u s)
    (hd : autoParam ((x == ("__debug__" : Str)) = false) L2.Internal.auD._auto_1) : wpAny (model X.prog X.w) X.A (eval (.Name x pos) X.env) Q E s :=
  Calls.Name_function_global I.ok.kind hg (Calls.loadGlobal_global (by rw [I.ok.glob]; exact I.mod.glob.keeps I.bk) hm h) hd
theorem ld_blt {E : Value → Shared → Prop} {pins : List (Addr × Obj)} {s : Shared} {σ : St} {H : Hp} {x : Str} {u : Value} {pos : Pos} {Q : Value → Shared → Prop} (I : Inv X pins σ H s) (hg : Gl X x) (hm : X.mg x = none) (hv : bootBuiltins x = some u) (h : Q u s)
    (hn : autoParam (x ≠ "__name__") L2.Internal.auD._auto_1) (hd : autoParam ((x == ("__debug__" : Str)) = false) L2.Internal.auD._auto_1) : wpAny (model X.prog X.w) X.A (eval (.Name x pos) X.env) Q E s := by
  obtain ⟨mb, h1, h2⟩ := I.mod.blt
  exact Calls.Name_function_global I.ok.kind hg (Calls.loadGlobal_builtin (by rw [I.ok.glob]; exact I.mod.glob.keeps I.bk) hm (by rw [I.ok.blt]; exact h1.keeps I.bk) ((h2 x hn).trans hv) h) hd
noncomputable def t2I (ta tb : TE) (k : Int → Int → Hp → Prop) : St → Hp → Prop := fun σ H => ta σ H fun x H1 => tb σ H1 fun y H2 => ∃ i j, x = .int i ∧ y = .int j ∧ k i j H2
noncomputable def tAdd (ta tb : TE) : TE := fun σ H Q => t2I ta tb (fun i j H2 => Q (.int (i + j)) H2) σ H
noncomputable def tSub (ta tb : TE) : TE := fun σ H Q => t2I ta tb (fun i j H2 => Q (.int (i - j)) H2) σ H
noncomputable def tMul (ta tb : TE) : TE := fun σ H Q => t2I ta tb (fun i j H2 => (-(2 ^ 64) < i ∧ i < 2 ^ 64) ∧ Q (.int (i * j)) H2) σ H
variable {a b : Expr} {ta tb : TE} {pos : Pos}
noncomputable def PC (X : Cx) (op : CmpOp) (a b : Expr) (t : TE) : Prop :=
  ∀ (pins : List (Addr × Obj)) (s : Shared) (σ : St) (H : Hp) (Q : VK), Inv X pins σ H s → t σ H Q →
    wpAny (model X.prog X.w) X.A (eval a X.env) (fun v s₁ => wpAny (model X.prog X.w) X.A (eval b X.env) (fun u s₂ => wpAny (model X.prog X.w) X.A (compareOp op v u) (EP X pins σ Q) X.xe s₂) X.xe s₁) X.xe s
theorem nobehind (b : Expr) {op : CmpOp} (h : op ≠ .In) (h2 : op ≠ .NotIn) : behindInMarks op b = false := by
  have e1 : (op == CmpOp.In) = false := by cases op <;> first | rfl | exact absurd rfl h
  have e2 : (op == CmpOp.NotIn) = false := by cases op <;> first | rfl | exact absurd rfl h2
  cases b <;> simp [behindInMarks, e1, e2]
noncomputable def tCmp (p : Int → Int → Bool) (ta tb : TE) : TE := fun σ H Q => t2I ta tb (fun i j H2 => Q (.bl (p i j)) H2) σ H
noncomputable abbrev tLt : TE → TE → TE := tCmp fun i j => decide (i < j)
noncomputable abbrev tLe : TE → TE → TE := tCmp fun i j => decide (i ≤ j)
noncomputable abbrev tGt : TE → TE → TE := tCmp fun i j => decide (j < i)
noncomputable abbrev tGe : TE → TE → TE := tCmp fun i j => decide (j ≤ i)
noncomputable abbrev tEqI : TE → TE → TE := tCmp fun i j => decide (i = j)
noncomputable abbrev tNeI : TE → TE → TE := tCmp fun i j => !decide (i = j)
noncomputable def tIsN (ta : TE) : TE := fun σ H Q => ta σ H fun x H1 => Q (.bl (decide (x = .non))) H1
noncomputable def tNotN (ta : TE) : TE := fun σ H Q => ta σ H fun x H1 => Q (.bl (!decide (x = .non))) H1
theorem RelV.none_iff {x : V} {v : Value} (r : RelV x v) : (v == Value.none) = decide (x = .non) := by
  cases x with
  | non => cases r; rfl
  | bl _ => cases r; rfl
  | int _ => obtain ⟨t, rfl⟩ := r; rfl
  | str _ => obtain ⟨t, rfl⟩ := r; rfl
  | byt _ => obtain ⟨t, rfl⟩ := r; rfl
  | flt _ => obtain ⟨t, rfl⟩ := r; rfl
  | ref _ => cases r; rfl
  | ty _ => cases r; rfl
theorem pc_isN {j pos'} (ha : PE X a ta) : PC X .Is a (.Constant .none j pos') (tIsN ta) := by
  intro pins s σ H Q I h
  refine thn (ha pins s σ H _ I h) fun v s1 ⟨x, H1, I1, r1, q1⟩ => ?_
  exact Constant_none (is_none_gen ⟨.bl _, H1, I1, by rw [r1.none_iff]; rfl, q1⟩)
noncomputable def tB (t : TE) : TT := fun σ H Q => t σ H fun x H1 => ∃ c, x = .bl c ∧ Q c H1
theorem pt_cmp {op : CmpOp} {t : TE} (h : PC X op a b t) (h1 : behindInMarks op b = false := by first | exact nobehind _ (by decide) (by decide) | rfl) : PT X (.Compare a [op] [b] pos) (tB t) := by
  intro pins s σ H Q I hw
  refine wpAny_isTrue_Compare1 (thn (h pins s σ H _ I hw) fun v s1 h1 => thn h1 fun u s2 h2 => thn h2 fun c s3 ⟨x, H1, I1, r1, q1⟩ => ?_) h1
  obtain ⟨d, rfl, q⟩ := q1
  cases r1
  exact wpAny_truthy_bool ⟨H1, I1, q⟩
theorem pt_val {e : Expr} {t : TE} (h : PE X e t) (he : autoParam (∀ whole, isTrue e X.env whole = (do let v ← whole; standAt e.pos; holding [v] (truthy v))) L2.Internal.auI._auto_1) : PT X e (tB t) := by
  intro pins s σ H Q I hw
  refine isTrue_plain (thn (h pins s σ H _ I hw) fun v s1 ⟨x, H1, I1, r1, q1⟩ => ?_) (he _)
  obtain ⟨d, rfl, q⟩ := q1
  cases r1
  exact wpAny_truthy_bool ⟨H1, I1, q⟩

variable {tA tB' : TT} {rest : List Expr}
noncomputable def tAnd (t u : TT) : TT := fun σ H Q => t σ H fun c H1 => if c = true then u σ H1 Q else Q false H1
noncomputable def tOr (t u : TT) : TT := fun σ H Q => t σ H fun c H1 => if c = true then Q true H1 else u σ H1 Q
noncomputable def tNot (t : TT) : TT := fun σ H Q => t σ H fun c H1 => Q (!c) H1
theorem pw_and1 (ha : PT X a tA) : PW X (.BoolOp .And [a] pos) tA := by
  intro wh pins s σ H Q I h
  refine isTrue_and (thn (ha pins s σ H Q I h) fun c s1 e => ?_)
  cases c with
  | true => exact isTrue_and_nil e
  | false => exact e
theorem pw_or1 (ha : PT X a tA) : PW X (.BoolOp .Or [a] pos) tA := by
  intro wh pins s σ H Q I h
  refine isTrue_or (thn (ha pins s σ H Q I h) fun c s1 e => ?_)
  cases c with
  | false => exact isTrue_or_nil e
  | true => exact e
theorem pw_and (ha : PT X a tA) (hb : PW X (.BoolOp .And (b :: rest) pos) tB') : PW X (.BoolOp .And (a :: b :: rest) pos) (tAnd tA tB') := by
  intro wh pins s σ H Q I h
  refine isTrue_and (thn (ha pins s σ H _ I h) fun c s1 ⟨H1, I1, q1⟩ => ?_)
  cases c with
  | true => exact hb wh pins s1 σ H1 Q I1 q1
  | false => exact ⟨H1, I1, q1⟩
theorem pw_or (ha : PT X a tA) (hb : PW X (.BoolOp .Or (b :: rest) pos) tB') : PW X (.BoolOp .Or (a :: b :: rest) pos) (tOr tA tB') := by
  intro wh pins s σ H Q I h
  refine isTrue_or (thn (ha pins s σ H _ I h) fun c s1 ⟨H1, I1, q1⟩ => ?_)
  cases c with
  | true => exact ⟨H1, I1, q1⟩
  | false => exact hb wh pins s1 σ H1 Q I1 q1
theorem pt_not (ha : PT X a tA) : PT X (.UnaryOp .Not a pos) (tNot tA) := by
  intro pins s σ H Q I h
  exact isTrue_not (ha pins s σ H (fun c H1 => Q (!c) H1) I h)
noncomputable def tAndV (ta tb : TE) : TE := fun σ H Q => ta σ H fun x H1 => ∃ c, x = .bl c ∧ if c = true then tb σ H1 Q else Q (.bl false) H1
noncomputable def tOrV (ta tb : TE) : TE := fun σ H Q => ta σ H fun x H1 => ∃ c, x = .bl c ∧ if c = true then Q (.bl true) H1 else tb σ H1 Q
noncomputable def tNotV (ta : TE) : TE := fun σ H Q => ta σ H fun x H1 => ∃ c, x = .bl c ∧ Q (.bl (!c)) H1
noncomputable def tIf (t : TT) (ta tb : TE) : TE := fun σ H Q => t σ H fun c H1 => if c = true then ta σ H1 Q else tb σ H1 Q
theorem pe_ifExp {c : Expr} (hc : PT X c tA) (ha : PE X a ta) (hb : PE X b tb) : PE X (.IfExp c a b pos) (tIf tA ta tb) := by
  intro pins s σ H Q I h
  refine wpAny_IfExp (thn (hc pins s σ H _ I h) fun d s1 ⟨H1, I1, q1⟩ => ?_)
  cases d with
  | true => exact ha pins s1 σ H1 Q I1 q1
  | false => exact hb pins s1 σ H1 Q I1 q1
end
end L2.Internal

namespace L2.Internal
open PySem PySem.Spec PyProof.Rows

noncomputable def SqL (K : PySem.W.Frag) (H : Hp) (a : Addr) (xs : List V) : Prop :=
  Rd H a (.lst xs) ∨
    ∃ (o : Obj) (its : Array Value) (n : Nat), K.lookup a = some o ∧ o.cls = .type "list" ∧ o.dict = none ∧ o.data = .seq its n ∧ its.size ≤ sizeLine ∧ Vals xs its.toList
noncomputable def SqT (K : PySem.W.Frag) (H : Hp) (a : Addr) (xs : List V) : Prop :=
  Rd H a (.tup xs) ∨
    ∃ (o : Obj) (its : Array Value) (n : Nat), K.lookup a = some o ∧ o.cls = .type "tuple" ∧ o.data = .seq its n ∧ its.size ≤ sizeLine ∧ Vals xs its.toList
noncomputable def absV : Value → Option V
  | .none => some .non
  | .bool b => some (.bl b)
  | .int i _ => some (.int i)
  | .str x _ => some (.str x)
  | .bytes b _ => some (.byt b)
  | .float b _ => some (.flt b)
  | .ref a => some (.ref a)
  | .type n => some (.ty n)
  | _ => none
theorem RelV.abs {x : V} {u : Value} (r : RelV x u) : absV u = some x := by
  cases x with
  | non => cases r; rfl
  | bl _ => cases r; rfl
  | int _ => obtain ⟨t, rfl⟩ := r; rfl
  | str _ => obtain ⟨t, rfl⟩ := r; rfl
  | byt _ => obtain ⟨t, rfl⟩ := r; rfl
  | flt _ => obtain ⟨t, rfl⟩ := r; rfl
  | ref _ => cases r; rfl
  | ty _ => cases r; rfl
theorem RelV.inj {x y : V} {u : Value} (r : RelV x u) (q : RelV y u) : x = y := Option.some.inj (r.abs.symm.trans q.abs)
theorem Vals.inj : ∀ {xs ys : List V} {us : List Value}, Vals xs us → Vals ys us → xs = ys
  | _, _, _, .nil, .nil => rfl
  | _, _, _, .cons r t, .cons r' t' => by rw [r.inj r', Vals.inj t t']
section
variable {X : Cx} {pins : List (Addr × Obj)} {σ : St} {H : Hp} {s : Shared} {a : Addr} {xs ys : List V}
theorem SqL.of {K : PySem.W.Frag} (h : H a = some (.lst xs)) : SqL K H a xs := .inl (.inl h)
theorem SqT.of {K : PySem.W.Frag} (h : H a = some (.tup xs)) : SqT K H a xs := .inl (.inl h)
theorem Inv.list (I : Inv X pins σ H s) (h : SqL X.K H a xs) : ∃ its : List Value, Vals xs its ∧ PlainL s.heap a its.toArray ∧ xs.length ≤ sizeLine := by
  rcases h with h | ⟨o, its, n, hk, hc, hd, hs, hz, r⟩
  · obtain ⟨z, its, n, r, e⟩ := h.ok I.hok
    exact ⟨its, r, ⟨_, n, e, rfl, rfl, rfl⟩, z⟩
  · refine ⟨its.toList, r, ⟨o, n, I.kIn a o hk, hc, hd, by simpa using hs⟩, ?_⟩
    have e := r.length
    simp only [Array.length_toList] at e
    omega
theorem Inv.tuple (I : Inv X pins σ H s) (h : SqT X.K H a xs) : ∃ its : List Value, Vals xs its ∧ IsTup s.heap a its.toArray ∧ xs.length ≤ sizeLine := by
  rcases h with h | ⟨o, its, n, hk, hc, hs, hz, r⟩
  · obtain ⟨z, its, r, p⟩ := h.ok I.hok
    exact ⟨its, r, p.tup, z⟩
  · refine ⟨its.toList, r, ⟨o, I.kIn a o hk, hc, n, by simpa using hs⟩, ?_⟩
    have e := r.length
    simp only [Array.length_toList] at e
    omega
theorem Inv.list_inj (I : Inv X pins σ H s) (h : SqL X.K H a xs) (h' : SqL X.K H a ys) : xs = ys := by
  obtain ⟨its, r, ⟨o, n, e, _, _, d⟩, _⟩ := I.list h
  obtain ⟨its', r', ⟨o', n', e', _, _, d'⟩, _⟩ := I.list h'
  rw [e] at e'; cases e'
  rw [d] at d'
  injection d' with d1 _
  have : its = its' := by simpa using congrArg Array.toList d1
  subst this
  exact r.inj r'
theorem Inv.tuple_inj (I : Inv X pins σ H s) (h : SqT X.K H a xs) (h' : SqT X.K H a ys) : xs = ys := by
  obtain ⟨its, r, ⟨o, e, _, n, d⟩, _⟩ := I.tuple h
  obtain ⟨its', r', ⟨o', e', _, n', d'⟩, _⟩ := I.tuple h'
  rw [e] at e'; cases e'
  rw [d] at d'
  injection d' with d1 _
  have : its = its' := by simpa using congrArg Array.toList d1
  subst this
  exact r.inj r'
end

noncomputable abbrev Cx.wish (X : Cx) (E : Value → Shared → Prop) : Cx := { X with xe := E }
noncomputable abbrev Cx.nox (X : Cx) : Cx := X.wish fun _ _ => False
theorem Cx.Ok.wish {X : Cx} (ok : X.Ok) (E : Value → Shared → Prop) : (X.wish E).Ok :=
  ⟨ok.mod, ok.kind, ok.glob, ok.blt, ok.above, ok.inj, ok.has, ok.cab, ok.hd, ok.frames, ok.stk, ok.exf, ok.bs, ok.bsz, ok.noex, ok.exfs, ok.funs, ok.frf⟩
theorem Cx.Ok.unwish {X : Cx} {E : Value → Shared → Prop} (ok : (X.wish E).Ok) : X.Ok :=
  ⟨ok.mod, ok.kind, ok.glob, ok.blt, ok.above, ok.inj, ok.has, ok.cab, ok.hd, ok.frames, ok.stk, ok.exf, ok.bs, ok.bsz, ok.noex, ok.exfs, ok.funs, ok.frf⟩
section
variable {X : Cx} {pins : List (Addr × Obj)} {σ : St} {H : Hp} {s : Shared} {E : Value → Shared → Prop}
theorem Inv.wish (I : Inv X pins σ H s) (E : Value → Shared → Prop) : Inv (X.wish E) pins σ H s := ⟨I.ok.wish E, I.os, I.bare, I.base, I.loc, I.cell, I.free, I.freeC, I.pin, I.hok, I.len⟩
theorem Inv.unwish (I : Inv (X.wish E) pins σ H s) : Inv X pins σ H s := ⟨I.ok.unwish, I.os, I.bare, I.base, I.loc, I.cell, I.free, I.freeC, I.pin, I.hok, I.len⟩
theorem SP.unwish {D : Ends} {f : Flow} {s' : Shared} (h : SP (X.wish E) pins D f s') : SP X pins D f s' := by
  cases f with
  | next => obtain ⟨σ', H', I, q⟩ := h; exact ⟨σ', H', I.unwish, q⟩
  | brk => obtain ⟨σ', H', I, q⟩ := h; exact ⟨σ', H', I.unwish, q⟩
  | cont => obtain ⟨σ', H', I, q⟩ := h; exact ⟨σ', H', I.unwish, q⟩
  | ret u => obtain ⟨v, σ', H', I, r, q⟩ := h; exact ⟨v, σ', H', I.unwish, r, q⟩
theorem PSs.nox {st : List Stmt} {t : TS} (h : PSs X.nox st t) : PSs X st t := fun pins s σ H D I hw =>
  wpAny_mono (h pins s σ H D (I.wish _) hw) (fun _ _ q => q.unwish) fun _ _ z => False.elim z
end

section
variable {X : Cx} {st : Stmt} {rest : List Stmt} {t u : TS} {e : Expr} {te : TE} {pos : Pos}
noncomputable def tNext : TS := fun D σ H => D.nx σ H
noncomputable def tSeq (t u : TS) : TS := fun D σ H => t { D with nx := u D } σ H
theorem pss_nil : PSs X [] tNext := fun _ _ σ H _ I h => wpAny_execs_nil ⟨σ, H, I, h⟩
theorem pss_cons (h1 : PS X st t) (h2 : PSs X rest u) : PSs X (st :: rest) (tSeq t u) := by
  intro pins s σ H D I h
  refine wpAny_execs_cons (thn (h1 pins s σ H { D with nx := u D } I h) fun f s1 q => ?_)
  cases f with
  | next =>
    obtain ⟨σ', H', I', q⟩ := q
    exact h2 pins s1 σ' H' D I' q
  | ret v => exact q
  | brk => exact q
  | cont => exact q
theorem pss_one (h1 : PS X st t) : PSs X [st] t := by
  intro pins s σ H D I h
  refine wpAny_execs_cons (thn (h1 pins s σ H D I h) fun f s1 q => ?_)
  cases f with
  | next => exact wpAny_execs_nil q
  | ret v => exact q
  | brk => exact q
  | cont => exact q
noncomputable def tBreak : TS := fun D σ H => D.bk σ H
noncomputable def tCont : TS := fun D σ H => D.ct σ H
theorem Inv.quiet {pins : List (Addr × Obj)} {σ : St} {H : Hp} {s : Shared} (I : Inv X pins σ H s) : interactive X.env = false := by simp [interactive, I.ok.kind]
noncomputable def tDrop (te : TE) : TS := fun D σ H => te σ H fun _ H1 => D.nx σ H1
theorem ps_expr (he : PE X e te) (hs : autoParam (swapsWith e none pos.line X.env = pure false) L2.Internal.auR._auto_1) : PS X (.Expr e pos) (tDrop te) := by
  intro pins s σ H D I h
  exact wpAny_Expr_any (thn (he pins s σ H _ I h) fun v s1 ⟨x, H1, I1, r1, q1⟩ => ⟨σ, H1, I1, q1⟩) I.quiet hs
noncomputable def tRet (te : TE) : TS := fun D σ H => te σ H D.rt
theorem ps_ret (he : PE X e te) : PS X (.Return (some e) pos) (tRet te) := by
  intro pins s σ H D I h
  exact wpAny_Return_some (thn (he pins s σ H _ I h) fun v s1 ⟨x, H1, I1, r1, q1⟩ => ⟨x, σ, H1, I1, r1, q1⟩)
noncomputable def tRetN : TS := fun D _ H => D.rt .non H
noncomputable def tIfS (c : TT) (t u : TS) : TS := fun D σ H => c σ H fun b H1 => if b = true then t D σ H1 else u D σ H1
theorem ps_if {c : Expr} {a b : List Stmt} {tc : TT} (hc : PT X c tc) (ha : PSs X a t) (hb : PSs X b u) : PS X (.If c a b pos) (tIfS tc t u) := by
  intro pins s σ H D I h
  refine wpAny_If (thn (hc pins s σ H _ I h) fun d s1 ⟨H1, I1, q1⟩ => ?_)
  cases d with
  | true => exact ha pins s1 σ H1 D I1 q1
  | false => exact hb pins s1 σ H1 D I1 q1
noncomputable def tNever : TS := fun _ _ _ => False
end

noncomputable abbrev TG := V → St → Hp → (St → Hp → Prop) → Prop
noncomputable abbrev TGs := List V → St → Hp → (St → Hp → Prop) → Prop
noncomputable def PG (X : Cx) (target : Expr) (t : TG) : Prop :=
  ∀ (pins : List (Addr × Obj)) (s : Shared) (σ : St) (H : Hp) (v : V) (u : Value) (Q : St → Hp → Prop), Inv X pins σ H s → RelV v u → t v σ H Q →
    wpAny (model X.prog X.w) X.A (assign target X.env u) (fun _ s' => ∃ σ' H', Inv X pins σ' H' s' ∧ Q σ' H') X.xe s
noncomputable def PGs (X : Cx) (ts : List Expr) (t : TGs) : Prop :=
  ∀ (pins : List (Addr × Obj)) (s : Shared) (σ : St) (H : Hp) (vs : List V) (us : List Value) (Q : St → Hp → Prop), Inv X pins σ H s → Vals vs us → t vs σ H Q →
    wpAny (model X.prog X.w) X.A (assignInOrder ((assignEach ts X.env).map (·.2)) us) (fun _ s' => ∃ σ' H', Inv X pins σ' H' s' ∧ Q σ' H') X.xe s
noncomputable abbrev TSet := V → V → V → Hp → (Hp → Prop) → Prop
noncomputable def PSet (X : Cx) (t : TSet) : Prop :=
  ∀ (pins : List (Addr × Obj)) (s : Shared) (σ : St) (H : Hp) (o i v : V) (ov iv u : Value) (Q : Hp → Prop), Inv X pins σ H s → RelV o ov → RelV i iv → RelV v u → t o i v H Q →
    wpAny (model X.prog X.w) X.A (setItem ov iv u) (fun _ s' => ∃ H', Inv X pins σ H' s' ∧ Q H') X.xe s
noncomputable abbrev TIp := V → V → Hp → VK → Prop
noncomputable def PIp (X : Cx) (op : Operator) (t : TIp) : Prop :=
  ∀ (pins : List (Addr × Obj)) (s : Shared) (σ : St) (H : Hp) (x y : V) (v u : Value) (Q : VK), Inv X pins σ H s → RelV x v → RelV y u → t x y H Q →
    wpAny (model X.prog X.w) X.A (inplaceOp op v u) (EP X pins σ Q) X.xe s
section
variable {X : Cx} {pos : Pos}
noncomputable def gName (i : Nat) : TG := fun v σ H Q => Q (σ.set i (some v)) H
theorem pg_name {i : Nat} {x : Str} (hN : X.N.Nodup) (hi : X.N[i]? = some x) (hx : Loc X.env.scope x) (hf : autoParam (X.fn x = true ∨ X.env.scope.names.lookup x = some .local) L2.Internal.auL._auto_1) : PG X (.Name x pos) (gName i) := by
  intro pins s σ H v u Q I r h
  exact wpAny_assign_Name (store_ok I hN hi hx r (fun s' I' => ⟨_, H, I', h⟩) hf)
noncomputable def gNil : TGs := fun vs σ H Q => vs = [] ∧ Q σ H
noncomputable def gCons (t : TG) (u : TGs) : TGs := fun vs σ H Q => ∃ v r, vs = v :: r ∧ t v σ H fun σ' H' => u r σ' H' Q
theorem pgs_nil : PGs X [] gNil := by
  intro pins s σ H vs us Q I r h
  obtain ⟨e, h⟩ := h
  subst e
  cases r
  exact assignInOrder_nil ⟨σ, H, I, h⟩
theorem pgs_cons {e : Expr} {es : List Expr} {t : TG} {u : TGs} (h1 : PG X e t) (h2 : PGs X es u)
    (hs : autoParam ((assignEach (e :: es) X.env).map (·.2) = assign e X.env :: (assignEach es X.env).map (·.2)) L2.Internal.auR._auto_1) : PGs X (e :: es) (gCons t u) := by
  intro pins s σ H vs us Q I r h
  obtain ⟨v, vr, e1, h⟩ := h
  subst e1
  cases r with
  | cons r rr =>
    rw [hs]
    refine assignInOrder_cons (thn (h1 pins s σ H _ _ _ I r h) fun _ s1 ⟨σ1, H1, I1, q1⟩ => ?_)
    exact h2 pins s1 σ1 H1 _ _ Q I1 rr q1
noncomputable def gTup (K : PySem.W.Frag) (n : Nat) (t : TGs) : TG := fun v σ H Q => ∃ a xs, v = .ref a ∧ SqT K H a xs ∧ xs.length = n ∧ t xs σ H Q
theorem pg_tup {es : List Expr} {k : Nat} {t : TGs} {n : Nat} (hc : X.calm = true) (h : PGs X es t)
    (hn : autoParam ((assignEach es X.env).length = n) L2.Internal.auR._auto_1) (hst : autoParam ((assignEach es X.env).findIdx? (·.1) = none) L2.Internal.auR._auto_1) : PG X (.Tuple es k pos) (gTup X.K n t) := by
  intro pins s σ H v u Q I r hw
  obtain ⟨a, xs, e1, hq, hl, hw⟩ := hw
  subst e1
  cases r
  obtain ⟨its, rv, ht, hz⟩ := I.tuple hq
  refine assign_Tuple_tuple (I.ok.hd hc) ht (by simp [hn, ← hl, rv.length]) hst fun h' hx => ?_
  have I1 : Inv X pins σ H { s with heap := h' } := I.kept (t' := s.toks) fun b o e => hx b o (Nat.ne_of_lt (Heap.lt_size e)) e
  exact h pins _ σ H xs _ Q I1 (by simpa using rv) hw
noncomputable def gSub (to ti : TE) (t : TSet) : TG := fun v σ H Q => to σ H fun o H1 => ti σ H1 fun i H2 => t o i v H2 fun H3 => Q σ H3
noncomputable def tAsg (te : TE) (g : TG) : TS := fun D σ H => te σ H fun x H1 => g x σ H1 D.nx
theorem ps_set {i : Nat} {x : Str} {e : Expr} {te : TE} {pos' : Pos} (hN : X.N.Nodup) (hi : X.N[i]? = some x) (hx : Loc X.env.scope x) (he : PE X e te) (hs : autoParam (swapsWith e (some (.Name x pos')) pos.line X.env = pure false) L2.Internal.auR._auto_1) (hf : autoParam (X.fn x = true ∨ X.env.scope.names.lookup x = some .local) L2.Internal.auL._auto_1) :
    PS X (.Assign [.Name x pos'] e pos) (tAsg te (gName i)) := by
  intro pins s σ H D I h
  refine wpAny_Assign_Name (thn (he pins s σ H _ I h) fun v s1 ⟨y, H1, I1, r1, q1⟩ => ?_) hs
  exact store_ok I1 hN hi hx r1 (fun s2 I2 => ⟨_, H1, I2, q1⟩) hf
noncomputable def tPar (i j : Nat) (ta : TA) : TS := fun D σ H => ta σ H fun vs H1 => ∃ v w, vs = [v, w] ∧ D.nx ((σ.set i (some v)).set j (some w)) H1
noncomputable def tAug (i : Nat) (te : TE) (ti : TIp) : TS := fun D σ H => ∃ x, σ[i]? = some (some x) ∧ te σ H fun y H1 => ti x y H1 fun z H2 => D.nx (σ.set i (some z)) H2
noncomputable def tAugS (to ti te : TE) (tget : V → V → Hp → VK → Prop) (tip : TIp) (tset : TSet) : TS := fun D σ H => to σ H fun o H1 => ti σ H1 fun i H2 => tget o i H2 fun x H3 => te σ H3 fun y H4 => tip x y H4 fun z H5 => tset o i z H5 fun H6 => D.nx σ H6
noncomputable def PGet (X : Cx) (t : V → V → Hp → VK → Prop) : Prop :=
  ∀ (pins : List (Addr × Obj)) (s : Shared) (σ : St) (H : Hp) (o i : V) (ov iv : Value) (Q : VK), Inv X pins σ H s → RelV o ov → RelV i iv → t o i H Q →
    wpAny (model X.prog X.w) X.A (getItem ov iv) (EP X pins σ Q) X.xe s
noncomputable def ipI (f : Int → Int → Int) : TIp := fun x y H Q => ∃ i j, x = .int i ∧ y = .int j ∧ Q (.int (f i j)) H
end

section
variable {X : Cx} {pos : Pos}
noncomputable def tWhile (c : TT) (tb : TS) : TS := fun D σ H => ∃ W : Nat → St → Hp → Prop, (∃ m, W m σ H) ∧ ∀ m σ H, W m σ H →
  c σ H fun b H1 => if b = true then ∃ N : St → Hp → Prop, (∀ σ' H', N σ' H' → ∃ m', m' < m ∧ W m' σ' H') ∧ tb { D with nx := N, ct := N, bk := D.nx } σ H1 else D.nx σ H1
theorem ps_while {c : Expr} {body : List Stmt} {tc : TT} {tb : TS} (hp : PassesOwn (model X.prog X.w) X.A X.env X.xe) (hc : PT X c tc) (hb : PSs X body tb) : PS X (.While c body [] pos) (tWhile tc tb) := by
  intro pins s σ H D I h
  obtain ⟨W, ⟨m0, w0⟩, turn⟩ := h
  refine wpAny_While (codeAny_whileLoop (fun n s' => ∃ σ' H', Inv X pins σ' H' s' ∧ W n σ' H') ?_ m0 ⟨σ, H, I, w0⟩)
  rintro n s1 ⟨σ1, H1, I1, w1⟩
  refine wpAny_passesOwn hp (thn (hc pins s1 σ1 H1 _ I1 (turn n σ1 H1 w1)) fun b s2 ⟨H2, I2, q2⟩ => ?_)
  cases b with
  | true =>
    obtain ⟨N, hN, q2⟩ := q2
    rw [if_pos rfl]
    refine wpAny_passesOwn hp (thn (hb pins s2 σ1 H2 _ I2 q2) fun f s3 q3 => ?_)
    cases f with
    | next =>
      obtain ⟨σ3, H3, I3, n3⟩ := q3
      obtain ⟨m', hm, w3⟩ := hN σ3 H3 n3
      exact ⟨m', hm, σ3, H3, I3, w3⟩
    | cont =>
      obtain ⟨σ3, H3, I3, n3⟩ := q3
      obtain ⟨m', hm, w3⟩ := hN σ3 H3 n3
      exact ⟨m', hm, σ3, H3, I3, w3⟩
    | brk => exact q3
    | ret v => exact q3
  | false =>
    rw [if_neg Bool.false_ne_true]
    exact wpAny_execs_nil ⟨σ1, H2, I2, q2⟩
end

structure It where
  go : Nat → Hp → Prop
  yld : Nat → Hp → V → Hp → Prop
  stop : Nat → Hp → Prop
noncomputable def FpOk (X : Cx) (pins : List (Addr × Obj)) (H : Hp) (b : Addr) : Prop :=
  H b = none ∧ b ≠ X.env.locals ∧ b ∉ X.fs ∧ (b ∈ X.ex ∨ X.s₀.heap.objs.size ≤ b) ∧ (∀ x c, X.env.cells.lookup x = some c → c ≠ b) ∧ ∀ p ∈ X.pn ++ pins, p.1 ≠ b
theorem Inv.fpOk {X : Cx} {pins : List (Addr × Obj)} {σ : St} {H H' : Hp} {s : Shared} {b : Addr} (I : Inv X pins σ H s) (hb : s.heap.objs.size ≤ b) (hn : H' b = none) : FpOk X pins H' b := by
  refine ⟨hn, Nat.ne_of_gt (Nat.lt_of_lt_of_le I.lt hb), I.nofs hb, .inr (Nat.le_trans I.sz hb), fun x c e z => ?_, fun p hp z => ?_⟩
  · obtain ⟨v, q⟩ := I.cell x c e
    exact absurd (Nat.lt_of_lt_of_le q.lt (by rw [z]; exact hb)) (Nat.lt_irrefl _)
  · exact absurd (Nat.lt_of_lt_of_le (Heap.lt_size (I.pin p hp).1) (by rw [z]; exact hb)) (Nat.lt_irrefl _)
structure Turn (P : Program) (w : World) (K : PySem.W.Frag) (tg : Expr) (J : It) (fp : List Addr) (it : Addr) (tn : Nat → Heap → Prop) : Prop where
  mem : it ∈ fp
  obj : ∀ i h, tn i h → ∀ b ∈ fp, ∃ o, h.get? b = some o ∧ ∀ v, o.data ≠ .cell v
  keep : ∀ i h h', tn i h → (∀ b ∈ fp, ∀ o, h.get? b = some o → h'.get? b = some o) → tn i h'
  item : ∀ (X : Cx), X.prog = P → X.w = w → X.K = K → X.calm = true → ∀ (i : Nat) (pins : List (Addr × Obj)) (s : Shared) (σ : St) (H : Hp) (E : Value → Shared → Prop), Inv X pins σ H s → (∀ b ∈ fp, FpOk X pins H b) → tn i s.heap → J.go i H →
    wpAny (model P w) X.A (pyNext (.ref it)) (fun r s1 => ∃ u, r = some u ∧
      wpAny (model P w) X.A (letOwnedTupleGo tg (.ref it) u) (fun _ s2 => ∃ x H', Inv X pins σ H' s2 ∧ RelV x u ∧ J.yld i H x H' ∧ tn (i + 1) s2.heap ∧ ∀ b ∈ fp, H' b = none) E s1) E s
  done : ∀ (X : Cx), X.prog = P → X.w = w → X.K = K → X.calm = true → ∀ (i : Nat) (pins : List (Addr × Obj)) (s : Shared) (σ : St) (H : Hp) (E : Value → Shared → Prop), Inv X pins σ H s → (∀ b ∈ fp, FpOk X pins H b) → tn i s.heap → J.stop i H →
    wpAny (model P w) X.A (pyNext (.ref it)) (fun r s1 => r = none ∧ Inv X pins σ H s1) E s
  self : ∀ (A : Around) (i : Nat) (s : Shared) (Q : Value → Shared → Prop) (E : Value → Shared → Prop), tn i s.heap → Q (.ref it) s → wpAny (model P w) A (pyIter (.ref it)) Q E s
noncomputable abbrev TI := St → Hp → (It → Hp → Prop) → Prop
noncomputable def PIE (X : Cx) (pins : List (Addr × Obj)) (σ : St) (tg : Expr) (R : It → Hp → Prop) (itv : Value) (s2 : Shared) : Prop :=
  ∃ (it : Addr) (fp : List Addr) (tn : Nat → Heap → Prop) (J : It) (H' : Hp), itv = .ref it ∧ Inv X pins σ H' s2 ∧ Turn X.prog X.w X.K tg J fp it tn ∧ tn 0 s2.heap ∧ (∀ b ∈ fp, FpOk X pins H' b) ∧ R J H'
noncomputable def PI (X : Cx) (tg iter : Expr) (wi : TI) : Prop :=
  ∀ (pins : List (Addr × Obj)) (s : Shared) (σ : St) (H : Hp) (R : It → Hp → Prop), Inv X pins σ H s → wi σ H R →
    wpAny (model X.prog X.w) X.A (eval iter X.env) (fun v s1 => wpAny (model X.prog X.w) X.A (pyIter v) (PIE X pins σ tg R) X.xe s1) X.xe s

theorem go_of {M : Model} {A : Around} {E : Value → Shared → Prop} {s : Shared} {tg : Expr} {it : Addr} {u : Value} {o : Obj} {n : String} {vs : Array Value} {Q : Unit → Shared → Prop} (ho : s.heap.get? it = some o) (hc : o.cls = .type n) (hd : o.data = .fields vs)
    (hn : ["enumerate", "zip", "dict_itemiterator", "dict_reverseitemiterator", "odict_iterator", "itertools.zip_longest", "itertools.pairwise"].contains n = false) (hQ : Q () s) : wpAny M A (letOwnedTupleGo tg (.ref it) u) Q E s := by
  unfold letOwnedTupleGo
  cases tg <;> first
    | exact wpAny_pure hQ
    | (cases u <;> first
        | exact wpAny_pure hQ
        | (refine wpAny_bind (wpAny_load ho ?_)
           rw [hc, hd]
           show wpAny M A (if (["enumerate", "zip", "dict_itemiterator", "dict_reverseitemiterator", "odict_iterator", "itertools.zip_longest", "itertools.pairwise"].contains n && vs[0]? == some (rawInt _)) = true then _ else _) Q E s
           rw [if_neg (by intro h; rw [hn, Bool.false_and] at h; cases h)]
           exact wpAny_pure hQ))

noncomputable def Itl (K : PySem.W.Frag) (a : Addr) : It :=
  ⟨fun i H => ∃ xs x, SqL K H a xs ∧ xs[i]? = some x, fun i H x H' => H' = H ∧ ∀ xs, SqL K H a xs → xs[i]? = some x, fun i H => ∃ xs, SqL K H a xs ∧ xs.length ≤ i⟩
noncomputable def Itt (K : PySem.W.Frag) (a : Addr) : It :=
  ⟨fun i H => ∃ xs x, SqT K H a xs ∧ xs[i]? = some x, fun i H x H' => H' = H ∧ ∀ xs, SqT K H a xs → xs[i]? = some x, fun i H => ∃ xs, SqT K H a xs ∧ xs.length ≤ i⟩
noncomputable def Itr (lo : Int) (n : Nat) : It := ⟨fun i _ => i < n, fun i H x H' => H' = H ∧ x = .int (lo + i), fun i _ => n ≤ i⟩
theorem turn_list {P : Program} {w : World} {K : PySem.W.Frag} {tg : Expr} (a it : Addr) : Turn P w K tg (Itl K a) [it] it (fun i h => h.IsListIter it a i) where
  mem := by simp
  obj := fun i h st b hb => by
    have e : b = it := by simpa using hb
    subst e
    obtain ⟨o, e, c, d⟩ := st
    exact ⟨o, e, fun v z => by rw [d] at z; cases z⟩
  keep := fun i h h' st k => st.at fun o e => k it (by simp) o e
  item := by
    intro X hP hw hK hc i pins s σ H E I hf st hg
    subst hP hw hK
    obtain ⟨xs, x, hq, hx⟩ := hg
    obtain ⟨its, rv, p, hz⟩ := I.list hq
    obtain ⟨u, hu, ru⟩ := rv.get hx
    obtain ⟨f0, f1, f2, f3, f4, f5⟩ := hf it (by simp)
    refine wpAny_pyNext_list_item st p.isList (x := u) (by simpa using hu) fun h' st' sb => ?_
    have I1 : Inv X pins σ H { s with heap := h' } := I.turned (t' := s.toks) (fun b o hb e => (sb.2 b hb).trans e) f0 f1 f3 f4 f5
    obtain ⟨o, e, c, d⟩ := id st'
    exact ⟨u, rfl, go_of (s := { s with heap := h' }) e c d (by decide) ⟨x, H, I1, ru, ⟨rfl, fun ys hy => by rw [I.list_inj hy hq]; exact hx⟩, st', fun b hb => (hf b hb).1⟩⟩
  done := by
    intro X hP hw hK hc i pins s σ H E I hf st hg
    subst hP hw hK
    obtain ⟨xs, hq, hx⟩ := hg
    obtain ⟨its, rv, p, hz⟩ := I.list hq
    obtain ⟨f0, f1, f2, f3, f4, f5⟩ := hf it (by simp)
    have hl := rv.length
    exact wpAny_pyNext_list_end (I.ok.hd hc) st p.isList (by simp; omega) fun h' eb => ⟨rfl, I.turned (t' := s.toks) (fun b o hb e => eb b o hb e) f0 f1 f3 f4 f5⟩
  self := fun _ _ _ _ _ st h => wpAny_pyIter_listiter st h
theorem turn_tuple {P : Program} {w : World} {K : PySem.W.Frag} {tg : Expr} (a it : Addr) : Turn P w K tg (Itt K a) [it] it (fun i h => h.IsTupleIter it a i) where
  mem := by simp
  obj := fun i h st b hb => by
    have e : b = it := by simpa using hb
    subst e
    obtain ⟨o, e, c, d⟩ := st
    exact ⟨o, e, fun v z => by rw [d] at z; cases z⟩
  keep := fun i h h' st k => st.at fun o e => k it (by simp) o e
  item := by
    intro X hP hw hK hc i pins s σ H E I hf st hg
    subst hP hw hK
    obtain ⟨xs, x, hq, hx⟩ := hg
    obtain ⟨its, rv, p, hz⟩ := I.tuple hq
    obtain ⟨u, hu, ru⟩ := rv.get hx
    obtain ⟨f0, f1, f2, f3, f4, f5⟩ := hf it (by simp)
    refine wpAny_pyNext_tuple_item st (show s.heap.IsTuple a its.toArray from p) (x := u) (by simpa using hu) fun h' st' sb => ?_
    have I1 : Inv X pins σ H { s with heap := h' } := I.turned (t' := s.toks) (fun b o hb e => (sb.2 b hb).trans e) f0 f1 f3 f4 f5
    obtain ⟨o, e, c, d⟩ := id st'
    exact ⟨u, rfl, go_of (s := { s with heap := h' }) e c d (by decide) ⟨x, H, I1, ru, ⟨rfl, fun ys hy => by rw [I.tuple_inj hy hq]; exact hx⟩, st', fun b hb => (hf b hb).1⟩⟩
  done := by
    intro X hP hw hK hc i pins s σ H E I hf st hg
    subst hP hw hK
    obtain ⟨xs, hq, hx⟩ := hg
    obtain ⟨its, rv, p, hz⟩ := I.tuple hq
    obtain ⟨f0, f1, f2, f3, f4, f5⟩ := hf it (by simp)
    have hl := rv.length
    exact wpAny_pyNext_tuple_end (I.ok.hd hc) st (show s.heap.IsTuple a its.toArray from p) (by simp; omega) fun h' eb => ⟨rfl, I.turned (t' := s.toks) (fun b o hb e => eb b o hb e) f0 f1 f3 f4 f5⟩
  self := fun _ _ _ _ _ st h => wpAny_pyIter_tupleiter st h
theorem turn_range {P : Program} {w : World} {K : PySem.W.Frag} {tg : Expr} (it : Addr) (lo : Int) (n : Nat) : Turn P w K tg (Itr lo n) [it] it (fun i h => IsRangeIter h it (lo + (i : Nat) * 1) ((n : Int) - (i : Nat)) 1) where
  mem := by simp
  obj := fun i h st b hb => by
    have e : b = it := by simpa using hb
    subst e
    exact ⟨_, st, fun v z => by
      have z' : Data.fields _ = Data.cell v := z
      cases z'⟩
  keep := fun i h h' st k => k it (by simp) _ st
  item := by
    intro X hP hw hK hc i pins s σ H E I hf st hg
    subst hP hw hK
    obtain ⟨f0, f1, f2, f3, f4, f5⟩ := hf it (by simp)
    have W := Walks.range (prog := X.prog) (w := X.w) (I.ok.hd hc) it lo 1 n
    refine W.item i s _ _ hg st fun v h' tk hv st' kk => ?_
    obtain ⟨t, rfl⟩ := hv
    have I1 : Inv X pins σ H { s with heap := h', toks := tk } := I.turned (fun b o hb e => kk b o (by simpa using hb) e) f0 f1 f3 f4 f5
    refine ⟨_, rfl, go_of (s := { s with heap := h', toks := tk }) (n := "range_iterator") st' rfl rfl (by decide) ⟨.int (lo + i), H, I1, ⟨t, ?_⟩, ⟨rfl, rfl⟩, st', fun b hb => (hf b hb).1⟩⟩
    rw [Int.mul_one]
  done := by
    intro X hP hw hK hc i pins s σ H E I hf st hg
    subst hP hw hK
    obtain ⟨f0, f1, f2, f3, f4, f5⟩ := hf it (by simp)
    exact wpAny_pyNext_range_end (I.ok.hd hc) st (by have : n ≤ i := hg; omega) fun h' eb => ⟨rfl, I.turned (t' := s.toks) (fun b o hb e => eb b o hb e) f0 f1 f3 f4 f5⟩
  self := fun _ _ _ _ _ st h => wpAny_pyIter_rangeiter st h
end L2.Internal

namespace L2.Internal
open PySem PySem.Spec PyProof.Rows
section
variable {X : Cx} {tg : Expr}
noncomputable def iList (K : PySem.W.Frag) (tl : TE) : TI := fun σ H R => tl σ H fun x H1 => ∃ a, x = .ref a ∧ (∃ xs, SqL K H1 a xs) ∧ R (Itl K a) H1
noncomputable def iTup (K : PySem.W.Frag) (tl : TE) : TI := fun σ H R => tl σ H fun x H1 => ∃ a, x = .ref a ∧ (∃ xs, SqT K H1 a xs) ∧ R (Itt K a) H1
theorem pi_list {l : Expr} {tl : TE} (hl : PE X l tl) : PI X tg l (iList X.K tl) := by
  intro pins s σ H R I h
  refine thn (hl pins s σ H _ I h) fun v s1 ⟨x, H1, I1, r1, q1⟩ => ?_
  obtain ⟨a, e, ⟨xs, hq⟩, q⟩ := q1
  subst e
  cases r1
  obtain ⟨its, rv, p, hz⟩ := I1.list hq
  refine wpAny_pyIter_list p.isList ?_
  refine ⟨s1.heap.objs.size, [s1.heap.objs.size], _, _, H1, rfl, I1.kept (t' := s1.toks) fun b o e => Heap.get?_push_of_some _ e, turn_list a _, ⟨_, Heap.get?_push_size _ rfl, rfl, rfl⟩, fun b hb => ?_, q⟩
  have e : b = s1.heap.objs.size := by simpa using hb
  subst e
  exact I1.fpOk (Nat.le_refl _) (I1.hok.fresh (Nat.le_refl _))
theorem pi_tup {l : Expr} {tl : TE} (hl : PE X l tl) : PI X tg l (iTup X.K tl) := by
  intro pins s σ H R I h
  refine thn (hl pins s σ H _ I h) fun v s1 ⟨x, H1, I1, r1, q1⟩ => ?_
  obtain ⟨a, e, ⟨xs, hq⟩, q⟩ := q1
  subst e
  cases r1
  obtain ⟨its, rv, p, hz⟩ := I1.tuple hq
  refine wpAny_pyIter_tuple (show s1.heap.IsTuple a its.toArray from p) ?_
  refine ⟨s1.heap.objs.size, [s1.heap.objs.size], _, _, H1, rfl, I1.kept (t' := s1.toks) fun b o e => Heap.get?_push_of_some _ e, turn_tuple a _, ⟨_, Heap.get?_push_size _ rfl, rfl, rfl⟩, fun b hb => ?_, q⟩
  have e : b = s1.heap.objs.size := by simpa using hb
  subst e
  exact I1.fpOk (Nat.le_refl _) (I1.hok.fresh (Nat.le_refl _))
theorem range_it {pins : List (Addr × Obj)} {σ : St} {H : Hp} {s : Shared} {R : It → Hp → Prop} {E : Value → Shared → Prop} {lo hi : Int} {t u v : Tok} {tk : Nat} (I : Inv X pins σ H s) (h1 : -(2 ^ 62) ≤ lo) (h2 : lo < 2 ^ 62) (h3 : -(2 ^ 62) ≤ hi) (h4 : hi < 2 ^ 62)
    (q : R (Itr lo (hi - lo).toNat) H) : wpAny (model X.prog X.w) X.A (pyIter (.ref s.heap.objs.size)) (PIE X pins σ tg R) E { s with heap := s.heap.push { cls := .type "range", data := .fields #[.int lo t, .int hi u, .int 1 v] }, toks := tk } := by
  refine wpAny_pyIter_range (IsRange.new ..) (small_one h1 h2 h3 h4) ?_
  have I1 : Inv X pins σ H { s with heap := s.heap.push { cls := .type "range", data := .fields #[.int lo t, .int hi u, .int 1 v] }, toks := tk } := I.kept fun b o e => Heap.get?_push_of_some _ e
  refine ⟨(s.heap.push { cls := .type "range", data := .fields #[.int lo t, .int hi u, .int 1 v] }).objs.size, [(s.heap.push { cls := .type "range", data := .fields #[.int lo t, .int hi u, .int 1 v] }).objs.size], _, _, H, rfl,
    I1.kept (t' := tk) fun b o e => Heap.get?_push_of_some _ e, turn_range _ lo (hi - lo).toNat, ?_, fun b hb => ?_, q⟩
  · have e1 : lo + ((0 : Nat) : Int) * 1 = lo := by simp
    have e2 : (((hi - lo).toNat : Nat) : Int) - ((0 : Nat) : Int) = Builtin.Range.rangeSize lo hi 1 := by rw [rangeSize_one]; split <;> omega
    show IsRangeIter _ _ (lo + ((0 : Nat) : Int) * 1) ((((hi - lo).toNat : Nat) : Int) - ((0 : Nat) : Int)) 1
    rw [e1, e2]
    exact Heap.get?_push_size _ rfl
  · have e : b = (s.heap.push { cls := .type "range", data := .fields #[.int lo t, .int hi u, .int 1 v] }).objs.size := by simpa using hb
    subst e
    exact I1.fpOk (Nat.le_refl _) (I1.hok.fresh (Nat.le_refl _))
noncomputable def iRng1 (ta : TA) : TI := fun σ H R => ta σ H fun vs H1 => ∃ j : Int, vs = [.int j] ∧ -(2 ^ 62) ≤ j ∧ j < 2 ^ 62 ∧ R (Itr 0 j.toNat) H1
noncomputable def iRng2 (ta : TA) : TI := fun σ H R => ta σ H fun vs H1 => ∃ i j : Int, vs = [.int i, .int j] ∧ (-(2 ^ 62) ≤ i ∧ i < 2 ^ 62 ∧ -(2 ^ 62) ≤ j ∧ j < 2 ^ 62) ∧ R (Itr i (j - i).toNat) H1
theorem pi_range1 {a : Expr} {ta : TA} {p pos : Pos} (hg : Gl X "range") (hm : X.mg "range" = none) (ha : PA X [a] ta) (hs : autoParam (starEach [a] X.env = [(false, eval a X.env)]) L2.Internal.auR._auto_1) : PI X tg (.Call (.Name "range" p) [a] [] pos) (iRng1 ta) := by
  intro pins s σ H R I h
  refine Call_ (ld_blt I hg hm boot_range (PyProof.Rows.callWith_type1 (thn (ha pos pins s σ H _ I h) fun us s1 ⟨vs, H1, I1, r1, q1⟩ => ?_) hs rfl))
  obtain ⟨j, e, q1, q2, q⟩ := q1
  subst e
  cases r1 with
  | cons r rr =>
    cases rr
    obtain ⟨t, rfl⟩ := r
    exact call_range_1 (range_it I1 (by omega) (by omega) q1 q2 (by simpa using q))
noncomputable def tFor (wi : TI) (g : TG) (tb : TS) : TS := fun D σ H => wi σ H fun J H1 => ∃ W : Nat → Nat → St → Hp → Prop, (∃ m, W 0 m σ H1) ∧ ∀ i m σ H, W i m σ H →
  (J.stop i H ∧ D.nx σ H) ∨ (J.go i H ∧ ∃ N : St → Hp → Prop, (∀ σ' H', N σ' H' → ∃ m', m' < m ∧ W (i + 1) m' σ' H') ∧ ∀ x H', J.yld i H x H' → g x σ H' fun σ2 H2 => tb { D with nx := N, ct := N, bk := D.nx } σ2 H2)
noncomputable def pinsAt (fp : List Addr) (h : Heap) : List (Addr × Obj) := fp.filterMap fun b => (h.get? b).map fun o => (b, o)
theorem mem_pinsAt {fp : List Addr} {h : Heap} {b : Addr} {o : Obj} (hb : b ∈ fp) (e : h.get? b = some o) : (b, o) ∈ pinsAt fp h := List.mem_filterMap.mpr ⟨b, hb, by rw [e]; rfl⟩
theorem of_pinsAt {fp : List Addr} {h : Heap} {p : Addr × Obj} (hp : p ∈ pinsAt fp h) : p.1 ∈ fp ∧ h.get? p.1 = some p.2 := by
  obtain ⟨b, hb, e⟩ := List.mem_filterMap.mp hp
  cases q : h.get? b with
  | none => rw [q] at e; cases e
  | some o =>
    rw [q] at e
    have e' : (b, o) = p := Option.some.inj e
    subst e'
    exact ⟨hb, q⟩
theorem Inv.pinned {pins : List (Addr × Obj)} {σ : St} {H : Hp} {s : Shared} {fp : List Addr} (I : Inv X pins σ H s) (hf : ∀ b ∈ fp, FpOk X pins H b) (ho : ∀ b ∈ fp, ∃ o, s.heap.get? b = some o ∧ ∀ v, o.data ≠ .cell v) : Inv X (pins ++ pinsAt fp s.heap) σ H s :=
  I.pins_of fun p hp => (List.mem_append.mp hp).elim (fun z => I.pin p (List.mem_append_right _ z)) fun z => by
    obtain ⟨hb, e⟩ := of_pinsAt z
    obtain ⟨f0, f1, f2, _⟩ := hf p.1 hb
    obtain ⟨o, e', d⟩ := ho p.1 hb
    rw [e] at e'; cases e'
    exact ⟨e, f0, f1, f2, d⟩
theorem Inv.unpinned {pins pl : List (Addr × Obj)} {σ : St} {H : Hp} {s : Shared} (I : Inv X (pins ++ pl) σ H s) : Inv X pins σ H s := I.pins_of fun p hp => I.pin p (List.mem_append_right _ (List.mem_append_left _ hp))
theorem ps_for {iter : Expr} {body : List Stmt} {wi : TI} {g : TG} {tb : TS} {pos : Pos} (hp : PassesOwn (model X.prog X.w) X.A X.env X.xe) (hc : X.calm = true) (hi : PI X tg iter wi) (hg : PG X tg g) (hb : PSs X body tb)
    (hs : autoParam (∀ x, foldedSetIterable iter X.env x = pure x) L2.Internal.auI._auto_1) : PS X (.For tg iter body [] pos) (tFor wi g tb) := by
  intro pins s σ H D I h
  refine wpAny_For (thn (hi pins s σ H _ I h) fun v s1 h1 => thn h1 fun itv s2 h2 => ?_) hs
  obtain ⟨it, fp, tn, J, H2, e, I2, T, st2, f2, W, ⟨m0, w0⟩, turn⟩ := h2
  subst e
  -- what stays true of the iterator's objects through the loop
  have stat : ∀ {H' : Hp}, (∀ b ∈ fp, H' b = none) → ∀ b ∈ fp, FpOk X pins H' b := fun hn b hb => ⟨hn b hb, (f2 b hb).2⟩
  refine codeAny_forLoop_any (fun n s' => ∃ i σ' H', Inv X pins σ' H' s' ∧ tn i s'.heap ∧ (∀ b ∈ fp, H' b = none) ∧ W i n σ' H') ?_ m0 ⟨0, σ, H2, I2, st2, fun b hb => (f2 b hb).1, w0⟩
  rintro n s3 ⟨i, σ3, H3, I3, st3, fr3, w3⟩
  rcases turn i n σ3 H3 w3 with ⟨stop, qn⟩ | ⟨go, N, hN, step⟩
  · refine wpAny_passesOwn hp (thn (T.done X rfl rfl rfl hc i pins s3 σ3 H3 X.xe I3 (stat fr3) st3 stop) fun r s4 ⟨hr, I4⟩ => ?_)
    subst hr
    exact wpAny_execs_nil ⟨σ3, H3, I4, qn⟩
  · refine wpAny_passesOwn hp (thn (T.item X rfl rfl rfl hc i pins s3 σ3 H3 X.xe I3 (stat fr3) st3 go) fun r s4 ⟨u, hr, h4⟩ => ?_)
    subst hr
    refine wpAny_passesOwn hp (thn h4 fun _ s5 ⟨x, H5, I5, r5, y5, st5, fr5⟩ => ?_)
    have I5' := I5.pinned (stat fr5) (T.obj _ _ st5)
    refine wpAny_passesOwn hp (thn (hg _ s5 σ3 H5 x u _ I5' r5 (step x H5 y5)) fun _ s6 ⟨σ6, H6, I6, q6⟩ => ?_)
    refine wpAny_passesOwn hp (thn (hb _ s6 σ6 H6 _ I6 q6) fun f s7 q7 => ?_)
    have again : ∀ {σ7 : St} {H7 : Hp}, Inv X (pins ++ pinsAt fp s5.heap) σ7 H7 s7 → N σ7 H7 → ∃ m, m < n ∧ ∃ i σ' H', Inv X pins σ' H' s7 ∧ tn i s7.heap ∧ (∀ b ∈ fp, H' b = none) ∧ W i m σ' H' := fun {σ7 H7} I7 n7 => by
      obtain ⟨m', hm, w7⟩ := hN σ7 H7 n7
      refine ⟨m', hm, i + 1, σ7, H7, I7.unpinned, T.keep _ _ _ st5 fun b hb o e => (I7.pin (b, o) (List.mem_append_right _ (List.mem_append_right _ (mem_pinsAt hb e)))).1, fun b hb => ?_, w7⟩
      obtain ⟨o, e, d⟩ := T.obj _ _ st5 b hb
      exact (I7.pin (b, o) (List.mem_append_right _ (List.mem_append_right _ (mem_pinsAt hb e)))).2.1
    cases f with
    | next => obtain ⟨σ7, H7, I7, n7⟩ := q7; exact again I7 n7
    | cont => obtain ⟨σ7, H7, I7, n7⟩ := q7; exact again I7 n7
    | brk => obtain ⟨σ7, H7, I7, q7⟩ := q7; exact ⟨σ7, H7, I7.unpinned, q7⟩
    | ret v => obtain ⟨x7, σ7, H7, I7, r7, q7⟩ := q7; exact ⟨x7, σ7, H7, I7.unpinned, r7, q7⟩
end

theorem for_list {K : PySem.W.Frag} {a : Addr} {xs : List V} {g : TG} {tb : TS} {D : Ends} {σ : St} {H : Hp} (Pv : Nat → St → Hp → Prop) (h0 : Pv 0 σ H) (hl : ∀ i σ H, i ≤ xs.length → Pv i σ H → SqL K H a xs)
    (hs : ∀ i x σ H, xs[i]? = some x → Pv i σ H → g x σ H fun σ2 H2 => tb { D with nx := Pv (i + 1), ct := Pv (i + 1), bk := D.nx } σ2 H2) (hd : ∀ σ H, Pv xs.length σ H → D.nx σ H) :
    ∃ W : Nat → Nat → St → Hp → Prop, (∃ m, W 0 m σ H) ∧ ∀ i m σ H, W i m σ H →
      ((Itl K a).stop i H ∧ D.nx σ H) ∨ ((Itl K a).go i H ∧ ∃ N : St → Hp → Prop, (∀ σ' H', N σ' H' → ∃ m', m' < m ∧ W (i + 1) m' σ' H') ∧ ∀ x H', (Itl K a).yld i H x H' → g x σ H' fun σ2 H2 => tb { D with nx := N, ct := N, bk := D.nx } σ2 H2) := by
  refine ⟨fun i m σ H => m = xs.length - i ∧ i ≤ xs.length ∧ Pv i σ H, ⟨xs.length, by simp, Nat.zero_le _, h0⟩, ?_⟩
  rintro i m σ H ⟨rfl, hi, p⟩
  have q := hl i σ H hi p
  by_cases hlt : i < xs.length
  · refine .inr ⟨⟨xs, xs[i], q, by simp [hlt]⟩, Pv (i + 1), fun σ' H' p' => ⟨xs.length - (i + 1), by omega, rfl, hlt, p'⟩, fun x H' y => ?_⟩
    obtain ⟨e, y⟩ := y
    subst e
    exact hs i x σ _ (y xs q) p
  · have e : i = xs.length := by omega
    subst e
    exact .inl ⟨⟨xs, q, Nat.le_refl _⟩, hd σ H p⟩
theorem for_tup {K : PySem.W.Frag} {a : Addr} {xs : List V} {g : TG} {tb : TS} {D : Ends} {σ : St} {H : Hp} (Pv : Nat → St → Hp → Prop) (h0 : Pv 0 σ H) (hl : ∀ i σ H, i ≤ xs.length → Pv i σ H → SqT K H a xs)
    (hs : ∀ i x σ H, xs[i]? = some x → Pv i σ H → g x σ H fun σ2 H2 => tb { D with nx := Pv (i + 1), ct := Pv (i + 1), bk := D.nx } σ2 H2) (hd : ∀ σ H, Pv xs.length σ H → D.nx σ H) :
    ∃ W : Nat → Nat → St → Hp → Prop, (∃ m, W 0 m σ H) ∧ ∀ i m σ H, W i m σ H →
      ((Itt K a).stop i H ∧ D.nx σ H) ∨ ((Itt K a).go i H ∧ ∃ N : St → Hp → Prop, (∀ σ' H', N σ' H' → ∃ m', m' < m ∧ W (i + 1) m' σ' H') ∧ ∀ x H', (Itt K a).yld i H x H' → g x σ H' fun σ2 H2 => tb { D with nx := N, ct := N, bk := D.nx } σ2 H2) := by
  refine ⟨fun i m σ H => m = xs.length - i ∧ i ≤ xs.length ∧ Pv i σ H, ⟨xs.length, by simp, Nat.zero_le _, h0⟩, ?_⟩
  rintro i m σ H ⟨rfl, hi, p⟩
  have q := hl i σ H hi p
  by_cases hlt : i < xs.length
  · refine .inr ⟨⟨xs, xs[i], q, by simp [hlt]⟩, Pv (i + 1), fun σ' H' p' => ⟨xs.length - (i + 1), by omega, rfl, hlt, p'⟩, fun x H' y => ?_⟩
    obtain ⟨e, y⟩ := y
    subst e
    exact hs i x σ _ (y xs q) p
  · have e : i = xs.length := by omega
    subst e
    exact .inl ⟨⟨xs, q, Nat.le_refl _⟩, hd σ H p⟩
theorem for_range {lo : Int} {n : Nat} {g : TG} {tb : TS} {D : Ends} {σ : St} {H : Hp} (Pv : Nat → St → Hp → Prop) (h0 : Pv 0 σ H)
    (hs : ∀ i σ H, i < n → Pv i σ H → g (.int (lo + i)) σ H fun σ2 H2 => tb { D with nx := Pv (i + 1), ct := Pv (i + 1), bk := D.nx } σ2 H2) (hd : ∀ σ H, Pv n σ H → D.nx σ H) :
    ∃ W : Nat → Nat → St → Hp → Prop, (∃ m, W 0 m σ H) ∧ ∀ i m σ H, W i m σ H →
      ((Itr lo n).stop i H ∧ D.nx σ H) ∨ ((Itr lo n).go i H ∧ ∃ N : St → Hp → Prop, (∀ σ' H', N σ' H' → ∃ m', m' < m ∧ W (i + 1) m' σ' H') ∧ ∀ x H', (Itr lo n).yld i H x H' → g x σ H' fun σ2 H2 => tb { D with nx := N, ct := N, bk := D.nx } σ2 H2) := by
  refine ⟨fun i m σ H => m = n - i ∧ i ≤ n ∧ Pv i σ H, ⟨n, by simp, Nat.zero_le _, h0⟩, ?_⟩
  rintro i m σ H ⟨rfl, hi, p⟩
  by_cases hlt : i < n
  · refine .inr ⟨hlt, Pv (i + 1), fun σ' H' p' => ⟨n - (i + 1), by omega, rfl, hlt, p'⟩, fun x H' y => ?_⟩
    obtain ⟨e, y⟩ := y
    subst e y
    exact hs i σ _ hlt p
  · have e : i = n := by omega
    subst e
    exact .inl ⟨Nat.le_refl _, hd σ H p⟩
end L2.Internal

namespace L2.Internal
open PySem PySem.Spec PyProof.Rows

noncomputable abbrev R2 := V → V → Hp → VK → Prop
noncomputable def OpR (X : Cx) (f : Value → Value → Sem Value) (r : R2) : Prop :=
  ∀ (pins : List (Addr × Obj)) (s : Shared) (σ : St) (H : Hp) (x y : V) (v u : Value) (Q : VK), Inv X pins σ H s → RelV x v → RelV y u → r x y H Q →
    wpAny (model X.prog X.w) X.A (f v u) (EP X pins σ Q) X.xe s
noncomputable def UnR (X : Cx) (f : Value → Sem Value) (r : V → Hp → VK → Prop) : Prop :=
  ∀ (pins : List (Addr × Obj)) (s : Shared) (σ : St) (H : Hp) (x : V) (v : Value) (Q : VK), Inv X pins σ H s → RelV x v → r x H Q →
    wpAny (model X.prog X.w) X.A (f v) (EP X pins σ Q) X.xe s
noncomputable def CallR (X : Cx) (f : Value) (r : List V → Hp → VK → Prop) : Prop :=
  ∀ (pins : List (Addr × Obj)) (s : Shared) (σ : St) (H : Hp) (xs : List V) (us : List Value) (Q : VK), Inv X pins σ H s → Vals xs us → r xs H Q →
    wpAny (model X.prog X.w) X.A (call f us) (EP X pins σ Q) X.xe s
noncomputable def TruR (X : Cx) (r : V → Hp → (Bool → Hp → Prop) → Prop) : Prop :=
  ∀ (pins : List (Addr × Obj)) (s : Shared) (σ : St) (H : Hp) (x : V) (v : Value) (Q : Bool → Hp → Prop), Inv X pins σ H s → RelV x v → r x H Q →
    wpAny (model X.prog X.w) X.A (truthy v) (TP X pins σ Q) X.xe s

noncomputable def tOp (r : R2) (ta tb : TE) : TE := fun σ H Q => ta σ H fun x H1 => tb σ H1 fun y H2 => r x y H2 Q
noncomputable def tUn (r : V → Hp → VK → Prop) (ta : TE) : TE := fun σ H Q => ta σ H fun x H1 => r x H1 Q
noncomputable def rI (C : Int → Int → Prop) (g : Int → Int → V) : R2 := fun x y H Q => ∃ i j, x = .int i ∧ y = .int j ∧ C i j ∧ Q (g i j) H
noncomputable def rI0 (g : Int → Int → V) : R2 := fun x y H Q => ∃ i j, x = .int i ∧ y = .int j ∧ Q (g i j) H
noncomputable def rU (g : Int → V) : V → Hp → VK → Prop := fun x H Q => ∃ i, x = .int i ∧ Q (g i) H

section
variable {X : Cx} {a b c : Expr} {ta tb tc : TE} {pos : Pos}

theorem binT (ha : PE X a ta) (hb : PE X b tb) {pins : List (Addr × Obj)} {s : Shared} {σ : St} {H : Hp} {R : V → V → Hp → Prop} (I : Inv X pins σ H s)
    (h : ta σ H fun x H1 => tb σ H1 fun y H2 => R x y H2) {Q : Value → Shared → Prop} {f : Value → Value → Sem Value}
    (hf : ∀ v u s2 x y H2, Inv X pins σ H2 s2 → RelV x v → RelV y u → R x y H2 → wpAny (model X.prog X.w) X.A (f v u) Q X.xe s2) :
    wpAny (model X.prog X.w) X.A (eval a X.env) (fun v s₁ => wpAny (model X.prog X.w) X.A (eval b X.env) (fun u s₂ => wpAny (model X.prog X.w) X.A (f v u) Q X.xe s₂) X.xe s₁) X.xe s := by
  refine thn (ha pins s σ H _ I h) fun v s1 ⟨x, H1, I1, r1, q1⟩ => ?_
  refine thn (hb pins s1 σ H1 _ I1 q1) fun u s2 ⟨y, H2, I2, r2, q2⟩ => ?_
  exact hf v u s2 x y H2 I2 r1 r2 q2

theorem pe_op {op : Operator} {r : R2} (ho : OpR X (binaryOp op) r) (ha : PE X a ta) (hb : PE X b tb) : PE X (.BinOp a op b pos) (tOp r ta tb) := by
  intro pins s σ H Q I h
  exact wpAny_BinOp (binT ha hb I h fun v u s2 x y H2 I2 rx ry q => ho pins s2 σ H2 x y v u Q I2 rx ry q)
theorem opI {f : Value → Value → Sem Value} {C : Int → Int → Prop} {g : Int → Int → Int}
    (rule : ∀ (i j : Int) (t u : Tok) (s : Shared) (Q : Value → Shared → Prop) (E : Value → Shared → Prop), C i j → Q (.int (g i j) s.toks) { s with toks := s.toks + 1 } → wpAny (model X.prog X.w) X.A (f (.int i t) (.int j u)) Q E s) :
    OpR X f (rI C fun i j => .int (g i j)) := by
  intro pins s σ H x y v u Q I rx ry h
  obtain ⟨i, j, rfl, rfl, hc, q⟩ := h
  obtain ⟨t, rfl⟩ := rx
  obtain ⟨t', rfl⟩ := ry
  exact rule i j t t' s _ _ hc ⟨.int (g i j), H, I.tok _, ⟨_, rfl⟩, q⟩
theorem opI0 {f : Value → Value → Sem Value} {g : Int → Int → Int}
    (rule : ∀ (i j : Int) (t u : Tok) (s : Shared) (Q : Value → Shared → Prop) (E : Value → Shared → Prop), Q (.int (g i j) s.toks) { s with toks := s.toks + 1 } → wpAny (model X.prog X.w) X.A (f (.int i t) (.int j u)) Q E s) :
    OpR X f (rI0 fun i j => .int (g i j)) := by
  intro pins s σ H x y v u Q I rx ry h
  obtain ⟨i, j, rfl, rfl, q⟩ := h
  obtain ⟨t, rfl⟩ := rx
  obtain ⟨t', rfl⟩ := ry
  exact rule i j t t' s _ _ ⟨.int (g i j), H, I.tok _, ⟨_, rfl⟩, q⟩
theorem opB0 {f : Value → Value → Sem Value} {g : Int → Int → Bool}
    (rule : ∀ (i j : Int) (t u : Tok) (s : Shared) (Q : Value → Shared → Prop) (E : Value → Shared → Prop), Q (.bool (g i j)) s → wpAny (model X.prog X.w) X.A (f (.int i t) (.int j u)) Q E s) :
    OpR X f (rI0 fun i j => .bl (g i j)) := by
  intro pins s σ H x y v u Q I rx ry h
  obtain ⟨i, j, rfl, rfl, q⟩ := h
  obtain ⟨t, rfl⟩ := rx
  obtain ⟨t', rfl⟩ := ry
  exact rule i j t t' s _ _ ⟨.bl (g i j), H, I, rfl, q⟩

noncomputable def CDiv (i j : Int) : Prop := 0 < j ∧ j < 1073741824
noncomputable def CDivN (i j : Int) : Prop := j ≠ 0 ∧ j.natAbs < 1073741824
noncomputable def CPow (i j : Int) : Prop := 0 ≤ j ∧ j ≤ 1000000 ∧ i.natAbs < 2 ^ 64
noncomputable def CMul (i j : Int) : Prop := (-(2 ^ 64) < i ∧ i < 2 ^ 64) ∨ (-(2 ^ 64) < j ∧ j < 2 ^ 64)
theorem CMul.ok {i j : Int} (h : CMul i j) : IntMulOk i j := by
  rcases h with ⟨h1, h2⟩ | ⟨h1, h2⟩
  · exact .of_left (intBits_le_64 h1 h2)
  · exact .of_right (intBits_le_64 h1 h2)
theorem op_add : OpR X (binaryOp .Add) (rI0 fun i j => .int (i + j)) := opI0 fun _ _ _ _ _ _ _ q => add_int q
theorem op_sub : OpR X (binaryOp .Sub) (rI0 fun i j => .int (i - j)) := opI0 fun _ _ _ _ _ _ _ q => sub_int q
theorem op_mul : OpR X (binaryOp .Mult) (rI CMul fun i j => .int (i * j)) := opI fun _ _ _ _ _ _ _ hc q => mul_int q hc.ok
theorem op_fdiv : OpR X (binaryOp .FloorDiv) (rI CDiv fun i j => .int (i / j)) := opI fun i j _ _ _ _ _ hc q => by
  have h1 : (0 : Int) < j := hc.1
  have h2 : j < 1073741824 := hc.2
  exact floordiv_int (by omega) (by rw [Int.fdiv_eq_ediv_of_nonneg i (by omega)]; exact q) (.inl (PyProof.noPylong_small (by omega)))
theorem op_mod : OpR X (binaryOp .Mod) (rI (fun _ j => 0 < j) fun i j => .int (i % j)) := opI fun i j _ _ _ _ _ hc q => by
  have h1 : (0 : Int) < j := hc
  exact mod_int' (by omega) (by rw [Int.fmod_eq_emod_of_nonneg i (by omega)]; exact q)
theorem op_pow : OpR X (binaryOp .Pow) (rI CPow fun i j => .int (i ^ j.toNat)) := opI fun _ _ _ _ _ _ _ hc q => pow_int_small hc.1 hc.2.1 hc.2.2 q
end

noncomputable def scal : V → V → Bool
  | .non, .non => true | .non, .int _ => true | .int _, .non => true | .non, .bl _ => true | .bl _, .non => true | .non, .str _ => true | .str _, .non => true
  | .int _, .int _ => true | .bl _, .bl _ => true | .str _, .str _ => true | .byt _, .byt _ => true
  | .int _, .str _ => true | .str _, .int _ => true | .bl _, .str _ => true | .str _, .bl _ => true
  | _, _ => false
noncomputable def rEq : R2 := fun x y H Q => scal x y = true ∧ Q (.bl (decide (x = y))) H
noncomputable def rNe : R2 := fun x y H Q => scal x y = true ∧ Q (.bl (!decide (x = y))) H

theorem dec_int {i j : Int} : decide (V.int i = V.int j) = (i == j) := by
  rw [Bool.eq_iff_iff]
  simp
theorem dec_bl {i j : Bool} : decide (V.bl i = V.bl j) = (i == j) := by
  rw [Bool.eq_iff_iff]
  simp
theorem dec_str {i j : Str} : decide (V.str i = V.str j) = (i == j) := by
  rw [Bool.eq_iff_iff]
  simp
theorem dec_byt {i j : Array UInt8} : decide (V.byt i = V.byt j) = (i.toList == j.toList) := by
  rw [Bool.eq_iff_iff]
  cases i
  cases j
  simp

section
variable {X : Cx} {a b c : Expr} {ta tb tc : TE} {pos : Pos}
theorem fin_bl {pins : List (Addr × Obj)} {σ : St} {H : Hp} {s : Shared} {Q : VK} {k k' : Bool} (I : Inv X pins σ H s) (q : Q (.bl k) H) (e : k = k') : EP X pins σ Q (.bool k') s := by
  subst e
  exact ⟨.bl k, H, I, rfl, q⟩
theorem op_eq : OpR X (compareOp .Eq) rEq := by
  intro pins s σ H x y v u Q I rx ry h
  obtain ⟨hs, q⟩ := h
  cases x with
  | non =>
    cases rx
    cases y with
    | non => cases ry; exact PySem.EqNone.eq_none_none (fin_bl I q (by simp))
    | bl j => cases ry; exact PySem.EqNone.eq_none_bool (fin_bl I q (by simp))
    | int j => obtain ⟨t', rfl⟩ := ry; exact PySem.EqNone.eq_none_int (fin_bl I q (by simp))
    | str j => obtain ⟨t', rfl⟩ := ry; exact PySem.EqNone.eq_none_str (fin_bl I q (by simp))
    | _ => exact absurd (show false = true from hs) Bool.false_ne_true
  | bl i =>
    cases rx
    cases y with
    | non => cases ry; exact PySem.EqNone.eq_bool_none (fin_bl I q (by simp))
    | bl j => cases ry; exact eq_bool (fin_bl I q dec_bl)
    | str j => obtain ⟨t', rfl⟩ := ry; exact PySem.EqMixed.eq_bool_str (fin_bl I q (by simp))
    | _ => exact absurd (show false = true from hs) Bool.false_ne_true
  | int i =>
    obtain ⟨t, rfl⟩ := rx
    cases y with
    | non => cases ry; exact PySem.EqNone.eq_int_none (fin_bl I q (by simp))
    | int j => obtain ⟨t', rfl⟩ := ry; exact eq_int (fin_bl I q dec_int)
    | str j => obtain ⟨t', rfl⟩ := ry; exact PySem.EqMixed.eq_int_str (fin_bl I q (by simp))
    | _ => exact absurd (show false = true from hs) Bool.false_ne_true
  | str i =>
    obtain ⟨t, rfl⟩ := rx
    cases y with
    | non => cases ry; exact PySem.EqNone.eq_str_none (fin_bl I q (by simp))
    | bl j => cases ry; exact PySem.EqMixed.eq_str_bool (fin_bl I q (by simp))
    | int j => obtain ⟨t', rfl⟩ := ry; exact PySem.EqMixed.eq_str_int (fin_bl I q (by simp))
    | str j => obtain ⟨t', rfl⟩ := ry; exact eq_str (fin_bl I q dec_str)
    | _ => exact absurd (show false = true from hs) Bool.false_ne_true
  | byt i =>
    obtain ⟨t, rfl⟩ := rx
    cases y with
    | byt j => obtain ⟨t', rfl⟩ := ry; exact PySem.W.eq_bytes (fin_bl I q dec_byt)
    | _ => exact absurd (show false = true from hs) Bool.false_ne_true
  | _ => cases y <;> exact absurd (show false = true from hs) Bool.false_ne_true
theorem op_ne : OpR X (compareOp .NotEq) rNe := by
  intro pins s σ H x y v u Q I rx ry h
  obtain ⟨hs, q⟩ := h
  cases x with
  | non =>
    cases rx
    cases y with
    | non => cases ry; exact PySem.EqNone.ne_none_none (fin_bl I q (by simp))
    | bl j => cases ry; exact PySem.EqNone.ne_none_bool (fin_bl I q (by simp))
    | int j => obtain ⟨t', rfl⟩ := ry; exact PySem.EqNone.ne_none_int (fin_bl I q (by simp))
    | str j => obtain ⟨t', rfl⟩ := ry; exact PySem.EqNone.ne_none_str (fin_bl I q (by simp))
    | _ => exact absurd (show false = true from hs) Bool.false_ne_true
  | bl i =>
    cases rx
    cases y with
    | non => cases ry; exact PySem.EqNone.ne_bool_none (fin_bl I q (by simp))
    | bl j => cases ry; exact ne_bool (fin_bl I q (congrArg not dec_bl))
    | str j => obtain ⟨t', rfl⟩ := ry; exact PySem.EqMixed.ne_bool_str (fin_bl I q (by simp))
    | _ => exact absurd (show false = true from hs) Bool.false_ne_true
  | int i =>
    obtain ⟨t, rfl⟩ := rx
    cases y with
    | non => cases ry; exact PySem.EqNone.ne_int_none (fin_bl I q (by simp))
    | int j => obtain ⟨t', rfl⟩ := ry; exact ne_int (fin_bl I q (congrArg not dec_int))
    | str j => obtain ⟨t', rfl⟩ := ry; exact PySem.EqMixed.ne_int_str (fin_bl I q (by simp))
    | _ => exact absurd (show false = true from hs) Bool.false_ne_true
  | str i =>
    obtain ⟨t, rfl⟩ := rx
    cases y with
    | non => cases ry; exact PySem.EqNone.ne_str_none (fin_bl I q (by simp))
    | bl j => cases ry; exact PySem.EqMixed.ne_str_bool (fin_bl I q (by simp))
    | int j => obtain ⟨t', rfl⟩ := ry; exact PySem.EqMixed.ne_str_int (fin_bl I q (by simp))
    | str j => obtain ⟨t', rfl⟩ := ry; exact ne_str (fin_bl I q (congrArg not dec_str))
    | _ => exact absurd (show false = true from hs) Bool.false_ne_true
  | byt i =>
    obtain ⟨t, rfl⟩ := rx
    cases y with
    | byt j => obtain ⟨t', rfl⟩ := ry; exact PySem.W.ne_bytes (fin_bl I q (congrArg not dec_byt))
    | _ => exact absurd (show false = true from hs) Bool.false_ne_true
  | _ => cases y <;> exact absurd (show false = true from hs) Bool.false_ne_true

theorem op_lt : OpR X (compareOp .Lt) (rI0 fun i j => .bl (decide (i < j))) := opB0 fun _ _ _ _ _ _ _ q => lt_int q
theorem op_gt : OpR X (compareOp .Gt) (rI0 fun i j => .bl (decide (j < i))) := opB0 fun _ _ _ _ _ _ _ q => gt_int q
noncomputable def isObj : HO → Bool
  | .lst _ => true
  | .ins _ _ _ => true
  | _ => false
theorem nomark (b : Expr) {op : CmpOp} (h : autoParam (op ≠ .In) L2.Internal.auD._auto_1) (h2 : autoParam (op ≠ .NotIn) L2.Internal.auD._auto_1) : behindInMarks op b = false := by
  have e1 : (op == CmpOp.In) = false := by cases op <;> first | rfl | exact absurd rfl h
  have e2 : (op == CmpOp.NotIn) = false := by cases op <;> first | rfl | exact absurd rfl h2
  cases b <;> simp [behindInMarks, e1, e2]
noncomputable def tTest (t : TE) : TT := fun σ H Q => t σ H fun x H' => ∃ k, x = .bl k ∧ Q k H'
theorem pt_cmpR {op : CmpOp} {r : R2} (ho : OpR X (compareOp op) r) (ha : PE X a ta) (hb : PE X b tb) (hm : behindInMarks op b = false) : PT X (.Compare a [op] [b] pos) (tTest (tOp r ta tb)) := by
  intro pins s σ H Q I h
  refine wpAny_isTrue_Compare1 (thn (ha pins s σ H _ I h) fun v s1 ⟨x, H1, I1, r1, q1⟩ => thn (hb pins s1 σ H1 _ I1 q1) fun u s2 ⟨y, H2, I2, r2, q2⟩ =>
    thn (ho pins s2 σ H2 x y v u _ I2 r1 r2 q2) fun c s3 ⟨z, H3, I3, r3, k, e, q3⟩ => ?_) hm
  subst e
  cases r3
  exact wpAny_truthy_bool ⟨H3, I3, q3⟩
noncomputable def tChain (r r' : R2) (ta tb tc : TE) : TE := fun σ H Q => ta σ H fun x H1 => tb σ H1 fun y H2 => r x y H2 fun z H3 => ∃ k, z = .bl k ∧
  (if k = true then tc σ H3 fun w' H4 => r' y w' H4 Q else Q (.bl false) H3)
noncomputable def TruV (K : PySem.W.Frag) (x : V) (H : Hp) (k : Bool) : Prop :=
  match x with
  | .non => k = false
  | .bl b => k = b
  | .int i => k = (i != 0)
  | .str y => y.length ≤ sizeLine ∧ k = ((y.length : Int) != 0)
  | .byt y => y.size ≤ sizeLine ∧ k = ((y.size : Int) != 0)
  | .ref p => (∃ xs, SqL K H p xs ∧ k = !xs.isEmpty) ∨ (∃ xs, SqT K H p xs ∧ k = !xs.isEmpty) ∨ ∃ kvs, H p = some (.dK kvs) ∧ k = !kvs.isEmpty
  | _ => False
theorem line63 : (sizeLine : Nat) < 2 ^ 63 := by rw [sizeLine_eq]; decide
theorem op_add_str : OpR X (binaryOp .Add) (fun x y H Q => ∃ i j, x = .str i ∧ y = .str j ∧ i.length + j.length ≤ sizeLine ∧ Q (.str (i ++ j)) H) := by
  intro pins s σ H x y v u Q I rx ry h
  obtain ⟨i, j, rfl, rfl, hz, q⟩ := h
  obtain ⟨t, rfl⟩ := rx
  obtain ⟨t', rfl⟩ := ry
  exact add_str (fun t' tk => ⟨.str (i ++ j), H, I.tok _, ⟨_, rfl⟩, q⟩) hz
noncomputable def PlainIxT (b : Expr) : Prop := ∀ o i, subscripted b false o i = operate [o, i] (getItem o i)
theorem vals1 {x : V} {us : List Value} (r : Vals [x] us) : ∃ u, us = [u] ∧ RelV x u := by
  cases r with
  | cons r1 r2 => cases r2; exact ⟨_, rfl, r1⟩
theorem vals2 {x y : V} {us : List Value} (r : Vals [x, y] us) : ∃ u w', us = [u, w'] ∧ RelV x u ∧ RelV y w' := by
  cases r with
  | cons r1 r2 =>
    cases r2 with
    | cons r3 r4 => cases r4; exact ⟨_, _, rfl, r1, r3⟩
theorem call_max2 (hc : X.calm = true) : CallR X (.builtin "max") (fun xs H Q => ∃ i j, xs = [.int i, .int j] ∧ Q (.int (if j > i then j else i)) H) := by
  intro pins s σ H xs us Q I r h
  obtain ⟨i, j, rfl, q⟩ := h
  obtain ⟨u, w', rfl, ⟨t, rfl⟩, ⟨t', rfl⟩⟩ := vals2 r
  refine max_two_ints (I.ok.hd hc) fun h' tk k => ⟨_, H, I.kept k, ?_, q⟩
  by_cases hj : j > i
  · rw [if_pos hj, if_pos hj]; exact ⟨_, rfl⟩
  · rw [if_neg hj, if_neg hj]; exact ⟨_, rfl⟩
noncomputable def LenV (K : PySem.W.Frag) (x : V) (H : Hp) (n : Nat) : Prop :=
  match x with
  | .str y => y.length ≤ sizeLine ∧ n = y.length
  | .byt y => y.size ≤ sizeLine ∧ n = y.size
  | .ref p => (∃ xs, SqL K H p xs ∧ n = xs.length) ∨ ∃ xs, SqT K H p xs ∧ n = xs.length
  | _ => False
end
end L2.Internal

namespace L2.Internal
open PySem PySem.Spec PyProof.Rows

structure ObjM (h : Heap) (x dx C : Addr) (mA : Str → Option Value) : Prop where
  obj : h.get? x = some (PySem.W.instObj C dx)
  ns : h.Ns1 dx mA
  ne : dx ≠ x

section
variable {prog : Program} {w : World} {A : Around} {E : Value → Shared → Prop} {s : Shared} {K : PySem.W.Frag} {x dx C f : Addr} {mA : Str → Option Value} {name : Str} {v : Value}

end

noncomputable def putF (f : Str) (v : V) : List (Str × V) → List (Str × V)
  | [] => [(f, v)]
  | (g, x) :: r => if g = f then (g, v) :: r else (g, x) :: putF f v r
theorem RelO.some_of {v : V} {o : Option Value} (r : RelO (some v) o) : ∃ u, o = some u ∧ RelV v u := by
  cases o with
  | none => exact (show False from r).elim
  | some u => exact ⟨u, rfl, r⟩
section
variable {P : Program} {w : World} {H H' : Hp} {h h' : Heap} {a C dx : Addr} {fs fs' : List (Str × V)}
end

structure Cls (K : PySem.W.Frag) (C : Addr) : Prop where
  pg : PySem.W.plainGet K C Str.empty = true
  hd : PySem.W.hasDictIn K C = true
  po : PySem.W.plainOver K C = true
  sa : PySem.W.findIn K (.ref C) "__setattr__" = some (some (.builtin "object.__setattr__"))
noncomputable def NoAttr (K : PySem.W.Frag) (C : Addr) (f : Str) : Prop := PySem.W.findIn K (.ref C) f = some none
structure Con (K : PySem.W.Frag) (C : Addr) (f : Str) (v : V) (u : Value) : Prop where
  at_ : PySem.W.findIn K (.ref C) f = some (some u)
  rel : RelV v u
  get : PySem.W.specialIn K u "__get__" = some none
  cp : PySem.W.copiedNames.contains f = false
structure Meth (K : PySem.W.Frag) (C : Addr) (m : Str) (f : Addr) : Prop where
  at_ : PySem.W.findIn K (.ref C) m = some (some (.ref f))
  fn : PySem.W.isFn K (.ref f) = true
  kp : PySem.W.keepIn K (.ref f) = true

section
variable {X : Cx} {pins : List (Addr × Obj)} {σ : St} {H : Hp} {s : Shared} {a C dx : Addr} {fs : List (Str × V)} {f : Str} {v : V} {A : Around} {E : Value → Shared → Prop}

end

noncomputable def tFld (K : PySem.W.Frag) (ta : TE) (f : Str) : TE := fun σ H Q => ta σ H fun x H1 => ∃ a C dx fs v, x = .ref a ∧ H1 a = some (.ins C dx fs) ∧ Cls K C ∧ NoAttr K C f ∧ fs.lookup f = some v ∧ Q v H1
noncomputable def tCon (K : PySem.W.Frag) (ta : TE) (f : Str) : TE := fun σ H Q => ta σ H fun x H1 => ∃ a C dx fs v u, x = .ref a ∧ H1 a = some (.ins C dx fs) ∧ Cls K C ∧ Con K C f v u ∧ fs.lookup f = none ∧ Q v H1
noncomputable def sFld (K : PySem.W.Frag) (ta tv : TE) (f : Str) : TS := fun D σ H => tv σ H fun y H1 => ta σ H1 fun x H2 => ∃ a C dx fs, x = .ref a ∧ H2 a = some (.ins C dx fs) ∧ Cls K C ∧ NoAttr K C f ∧ fs.length < 1000 ∧
  D.nx σ (upd H2 a (.ins C dx (putF f y fs)))
noncomputable def InOp (X : Cx) (op : Operator) (rd : V → V → Hp → VK → Prop) : Prop :=
  ∀ (pins : List (Addr × Obj)) (s : Shared) (σ : St) (H : Hp) (x y : V) (u v : Value) (Q : VK), Inv X pins σ H s → RelV x u → RelV y v → rd x y H Q → wpAny (model X.prog X.w) X.A (inplaceOp op u v) (EP X pins σ Q) X.xe s
noncomputable def sFldAug (K : PySem.W.Frag) (ta tv : TE) (rd : V → V → Hp → VK → Prop) (f : Str) : TS := fun D σ H => ta σ H fun x H1 => ∃ a C dx fs v, x = .ref a ∧ H1 a = some (.ins C dx fs) ∧ Cls K C ∧ NoAttr K C f ∧ fs.lookup f = some v ∧
  tv σ H1 fun y H2 => rd v y H2 fun z H3 => ∃ dx' fs', H3 a = some (.ins C dx' fs') ∧ fs'.length < 1000 ∧ D.nx σ (upd H3 a (.ins C dx' (putF f z fs')))

section
variable {X : Cx} {o e value : Expr} {f : Str} {pos pos' tpos : Pos} {ta tv : TE}
noncomputable def rAdd : V → V → Hp → VK → Prop := fun x y H Q => ∃ i j, x = .int i ∧ y = .int j ∧ Q (.int (i + j)) H
noncomputable def rSub : V → V → Hp → VK → Prop := fun x y H Q => ∃ i j, x = .int i ∧ y = .int j ∧ Q (.int (i - j)) H
end

section
variable {X : Cx} {pins : List (Addr × Obj)} {σ : St} {H : Hp} {s : Shared} {A : Around} {E : Value → Shared → Prop} {Q : Value → Shared → Prop} {c : Value} {b : Bool}
inductive TyOf (K : PySem.W.Frag) (H : Hp) : V → Value → Prop where
  | non : TyOf K H .non (.type "NoneType")
  | bl (x : Bool) : TyOf K H (.bl x) (.type "bool")
  | int (i : Int) : TyOf K H (.int i) (.type "int")
  | str (x : Str) : TyOf K H (.str x) (.type "str")
  | flt (x : UInt64) : TyOf K H (.flt x) (.type "float")
  | lst {a : Addr} {xs : List V} (e : H a = some (.lst xs)) : TyOf K H (.ref a) (.type "list")
  | frz {a : Addr} {o : Obj} {xs : List V} (e : H a = some (.frz o (.lst xs))) : TyOf K H (.ref a) (.type "list")
  | tup {a : Addr} {xs : List V} (e : H a = some (.tup xs)) : TyOf K H (.ref a) (.type "tuple")
  | dK {a : Addr} {kvs : List (Key × V)} (e : H a = some (.dK kvs)) : TyOf K H (.ref a) (.type "dict")
  | dT {a : Addr} {kvs : List (List Key × V)} (e : H a = some (.dT kvs)) : TyOf K H (.ref a) (.type "dict")
  | ins {a C dx : Addr} {fs : List (Str × V)} (e : H a = some (.ins C dx fs)) (cl : Cls K C) (ha : PySem.W.findIn K (.ref C) "__class__" = some (some (.builtin "object.__class__")))
      (hn : PySem.W.specialIn K (.builtin "object.__class__") "__get__" = some (some (.builtin "getset_descriptor.__get__"))) (htk : PySem.W.takesIn K (.builtin "object.__class__") = some true)
      (hm : PySem.W.mroIn K C (.type "object") = some true) : TyOf K H (.ref a) (.ref C)
end
end L2.Internal

namespace L2.Internal
open PySem PySem.Spec PyProof.Rows

structure Room (k : Nat) (A : Around) : Prop where
  hd : A.handled = none
  dp : A.depth + 3 * k + 5 < recursionLimit
  un : A.units + 16 * k + 200 < cLine
theorem Room.mono {j k : Nat} {A : Around} (r : Room k A) (h : j ≤ k) : Room j A := ⟨r.hd, by have := r.dp; omega, by have := r.un; omega⟩
theorem Room.deeper {k : Nat} {A : Around} (r : Room (k + 1) A) (env : Env) : Room k (A.deeper env) :=
  ⟨r.hd, by have := r.dp; show A.depth + 1 + 3 * k + 5 < _; omega, by have := r.un; show A.units + 3 + 16 * k + 200 < _; omega⟩
theorem Room.depth {k : Nat} {A : Around} (r : Room k A) : A.depth < recursionLimit := by have := r.dp; omega
noncomputable def tNil : TA := fun _ H Q => Q [] H
noncomputable def tCons (ta : TE) (tr : TA) : TA := fun σ H Q => ta σ H fun x H1 => tr σ H1 fun xs H2 => Q (x :: xs) H2
section
variable {X : Cx} {e : Expr} {es : List Expr} {te : TE} {t : TA} {pos : Pos}
theorem pa_nil : PA X [] tNil := fun _ _ _ _ H Q I h => Calls.spliced_nil ⟨[], H, I, .nil, h⟩
theorem pa_cons (ha : PE X e te) (hr : PA X es t) (hs : autoParam (starEach (e :: es) X.env = (false, eval e X.env) :: starEach es X.env) L2.Internal.auR._auto_1) : PA X (e :: es) (tCons te t) := by
  intro pos pins s σ H Q I h
  rw [hs]
  show wpAny _ _ (spliced ((false, eval e X.env) :: backTo pos (starEach es X.env))) _ _ s
  refine Calls.spliced_cons (thn (ha pins s σ H _ I h) fun u s1 ⟨x, H1, I1, r1, q1⟩ => ?_)
  exact thn (hr pos pins s1 σ H1 _ I1 q1) fun us s2 ⟨xs, H2, I2, r2, q2⟩ => ⟨x :: xs, H2, I2, .cons r1 r2, q2⟩

noncomputable def tTup (t : TA) : TE := fun σ H Q => t σ H fun xs H1 => xs.length ≤ sizeLine ∧ ∀ p, H1 p = none → Q (.ref p) (upd H1 p (.tup xs))
noncomputable def tLst (t : TA) : TE := fun σ H Q => t σ H fun xs H1 => xs.length ≤ sizeLine ∧ ∀ p, H1 p = none → Q (.ref p) (upd H1 p (.lst xs))
theorem pe_tup {x1} (h : PA X es t) : PE X (.Tuple es x1 pos) (tTup t) := by
  intro pins s σ H Q I hq
  refine wpAny_Tuple_spliced (thn (h pos pins s σ H _ I hq) fun us s1 ⟨xs, H1, I1, r, z, q⟩ => ⟨by rw [← r.length]; exact z, ?_⟩)
  have hf : H1 s1.heap.objs.size = none := I1.hok.fresh (Nat.le_refl _)
  refine ⟨.ref s1.heap.objs.size, upd H1 s1.heap.objs.size (.tup xs), I1.laid (t' := s1.toks) (fun b u e => Heap.get?_push_of_some _ e) (Nat.le_refl _) ?_, rfl, q _ hf⟩
  exact ⟨z, us, r, ⟨_, Heap.get?_push_size _ rfl, rfl, _, rfl, rfl⟩⟩
theorem pe_lst (h : PA X es t) : PE X (.List es pos) (tLst t) := by
  intro pins s σ H Q I hq
  refine wpAny_List_spliced (thn (h pos pins s σ H _ I hq) fun us s1 ⟨xs, H1, I1, r, z, q⟩ => ⟨by rw [← r.length]; exact z, ?_⟩)
  have hf : H1 s1.heap.objs.size = none := I1.hok.fresh (Nat.le_refl _)
  refine ⟨.ref s1.heap.objs.size, upd H1 s1.heap.objs.size (.lst xs), I1.laid (t' := s1.toks) (fun b u e => Heap.get?_push_of_some _ e) (Nat.le_refl _) ?_, rfl, q _ hf⟩
  exact ⟨z, us, 0, r, Heap.get?_push_size _ rfl⟩
end

noncomputable abbrev Sp := List V → Hp → VK → XK → Prop
noncomputable abbrev CXT := List Env → Hp → Shared → XK → Value → Shared → Prop

structure Env0 (P : Program) (w : World) (K : PySem.W.Frag) (mg : Str → Option Value) (base : Heap) (A : Around) (outer : List Env) (s : Shared) (H : Hp) : Prop where
  frames : A.frames = some outer
  mod : Mod K mg base
  bs : ∀ b o, base.get? b = some o → s.heap.get? b = some o ∧ H b = none
  bsz : base.objs.size ≤ s.heap.objs.size
  funs : s.heap.FunFrames base outer
  frf : ∀ b ∈ frs outer, H b = none
  hok : HOk P w H s.heap
  bare : AllBare s.gens
noncomputable def CE (outer : List Env) (P : Program) (w : World) (H : Hp) (s : Shared) (Q : VK) (u : Value) (s' : Shared) : Prop :=
  ∃ v H', s'.os = s.os ∧ AllBare s'.gens ∧ Un (frs outer) [] H H' s.heap s'.heap ∧ HOk P w H' s'.heap ∧ RelV v u ∧ Q v H'
noncomputable def CR (CX : CXT) (outer : List Env) (P : Program) (w : World) (H : Hp) (s : Shared) (Q : VK) (E : XK) (r : Result) (s' : Shared) : Prop :=
  match r with
  | .ok (.ret u) => CE outer P w H s Q u s'
  | .ok _ => False
  | .error e => CX outer H s E e s'
structure FnOk (P : Program) (w : World) (K : PySem.W.Frag) (mg : Str → Option Value) (base : Heap) (CX : CXT) (k : Nat) (f : Addr) (fd : FuncData) (ps : List Str) (sp : Sp) : Prop where
  len : ∀ vs H Q E, sp vs H Q E → vs.length = ps.length
  run : ∀ (A : Around) (outer : List Env) (s : Shared) (H : Hp) (args : Args) (us : List Value) (vs : List V) (Q : VK) (E : XK), Room k A → Env0 P w K mg base A outer s H → BindsTo s fd args (ps.zip us) → Vals vs us → sp vs H Q E →
    codeAny (model P w) A (.call (.ref f) args) (CR CX outer P w H s Q E) s
section
variable {X : Cx} {pins : List (Addr × Obj)} {σ : St} {H : Hp} {s s' : Shared}
theorem Inv.env0 (I : Inv X pins σ H s) : Env0 X.prog X.w X.K X.mg X.base X.A X.stack s H :=
  ⟨I.ok.frames, I.ok.mod, I.bs, Nat.le_trans I.ok.bsz I.sz, I.stack, I.stkFree, I.hok, I.bare⟩
theorem Inv.after {Q : VK} {u : Value} (I : Inv X pins σ H s) (h : CE X.stack X.prog X.w H s Q u s') : EP X pins σ Q u s' := by
  obtain ⟨v, H', os, bare, un, hok, r, q⟩ := h
  obtain ⟨hh, g, d, t, os'⟩ := s'
  obtain rfl : os' = s.os := os
  exact ⟨v, H', I.call (h' := hh) (g' := g) (d' := d) (t' := t) (ch := []) un hok bare (fun b z => absurd z (by simp)), r, q⟩
end

noncomputable def tCall (sp : Sp) (dvs : List V) (E : XK) (t : TA) : TE := fun σ H Q => t σ H fun vs H1 => sp (vs ++ dvs) H1 Q E
noncomputable def tMeth (C : Addr) (m : Str) (sp : Sp) (dvs : List V) (E : XK) (ta : TE) (t : TA) : TE := fun σ H Q => ta σ H fun x H1 => ∃ a dx fs, x = .ref a ∧ H1 a = some (.ins C dx fs) ∧ fs.lookup m = none ∧
  t σ H1 fun vs H2 => sp (x :: (vs ++ dvs)) H2 Q E
noncomputable def tMake (C : Addr) (sp : Sp) (dvs : List V) (E : XK) (t : TA) : TE := fun σ H Q => t σ H fun vs H1 => ∀ x dx, H1 x = none → H1 dx = none → dx ≠ x →
  sp (.ref x :: (vs ++ dvs)) (upd (upd H1 dx (.own x)) x (.ins C dx [])) (fun v H2 => v = .non ∧ Q (.ref x) H2) E

noncomputable def Binds (K : PySem.W.Frag) (fd : FuncData) (ps : List Str) (ds : List Value) : Prop :=
  ∀ (s : Shared) (us : List Value), K.In s.heap → (us ++ ds).length = ps.length → BindsTo s fd ⟨us, []⟩ (ps.zip (us ++ ds))
theorem Binds.all {K : PySem.W.Frag} {fd : FuncData} {ps : List Str} (h : ∀ us : List Value, us.length = ps.length → bindArgs fd ⟨us, []⟩ = pure (ps.zip us)) : Binds K fd ps [] := fun s us _ hl => by
  rw [List.append_nil] at hl ⊢
  exact .of_eq (h us hl)

noncomputable def Passes (CX : CXT) (X : Cx) (E : XK) : Prop := ∀ (pins : List (Addr × Obj)) (σ : St) (H : Hp) (s : Shared) (e : Value) (s' : Shared), Inv X pins σ H s → CX X.stack H s E e s' → X.xe e s'

section
variable {X : Cx} {CX : CXT} {k : Nat} {f C : Addr} {fd : FuncData} {ps : List Str} {sp : Sp} {dvs : List V} {ds : List Value} {E : XK} {x m : Str} {p pos apos : Pos} {e o : Expr} {es : List Expr} {ta : TE} {t : TA}

theorem run_fn {pins : List (Addr × Obj)} {σ : St} {H : Hp} {s : Shared} {Q : VK} {us : List Value} {vs : List V} (F : FnOk X.prog X.w X.K X.mg X.base CX k f fd ps sp) (hr : Room k X.A) (hb : Binds X.K fd ps ds) (hd : Vals dvs ds) (hx : Passes CX X E)
    (I : Inv X pins σ H s) (r : Vals vs us) (h : sp (vs ++ dvs) H Q E) : wpAny (model X.prog X.w) X.A (call (.ref f) us) (EP X pins σ Q) X.xe s := by
  have r2 : Vals (vs ++ dvs) (us ++ ds) := r.append hd
  have hl : (us ++ ds).length = ps.length := by rw [← r2.length]; exact F.len _ _ _ _ h
  refine wpAny_call (codeAny_mono (F.run X.A X.stack s H ⟨us, []⟩ (us ++ ds) (vs ++ dvs) Q E hr I.env0 (hb s us I.kIn hl) r2 h) fun r s' hq => ?_)
  cases r with
  | error e => exact hx pins σ H s e s' I hq
  | ok fl =>
    cases fl with
    | ret u => exact I.after hq
    | next => exact False.elim hq
    | brk => exact False.elim hq
    | cont => exact False.elim hq

theorem pe_call (F : FnOk X.prog X.w X.K X.mg X.base CX k f fd ps sp) (hr : Room k X.A) (hg : Gl X x) (hm : X.mg x = some (.ref f)) (hk : PySem.W.keepIn X.K (.ref f) = true) (hb : Binds X.K fd ps ds) (hd : Vals dvs ds) (hx : Passes CX X E)
    (ha : PA X (e :: es) t) (hdb : autoParam ((x == ("__debug__" : Str)) = false) L2.Internal.auD._auto_1) (he : autoParam (starEach (e :: es) X.env = (false, eval e X.env) :: starEach es X.env) L2.Internal.auR._auto_1) (hpl : autoParam ((backTo pos (starEach es X.env)).any (·.1) = false) L2.Internal.auR._auto_1) :
    PE X (.Call (.Name x p) (e :: es) [] pos) (tCall sp dvs E t) := by
  intro pins s σ H Q I h
  refine wpAny_Call_Name_kw (ld_glob I hg hm ?_ hdb)
  refine PySem.W.callWith_K (h₀ := X.base) I.ok.mod.kin hk (thn (ha pos pins s σ H _ I h) fun us s1 ⟨vs, H1, I1, r, q⟩ => ⟨I1.kIn, ?_⟩) he hpl
  exact run_fn F hr hb hd hx I1 r q
structure Mk (K : PySem.W.Frag) (C f : Addr) : Prop where
  makes : PySem.W.makesIn K C = true
  init : PySem.W.findIn K (.ref C) "__init__" = some (some (.ref f))
  fn : PySem.W.isFn K (.ref f) = true
  kp : PySem.W.keepIn K (.ref C) = true

end

noncomputable def PK (X : Cx) (kws : List Keyword) (t : TA) : Prop :=
  ∀ (pos : Pos) (pins : List (Addr × Obj)) (s : Shared) (σ : St) (H : Hp) (Q : List V → Hp → Prop), Inv X pins σ H s → t σ H Q → wpAny (model X.prog X.w) X.A (evalAll ((backToKw pos (keywordEach kws X.env)).map (·.2))) (AP X pins σ Q) X.xe s
section
variable {X : Cx} {CX : CXT} {k : Nat} {f C : Addr} {fd : FuncData} {ps ks : List Str} {sp : Sp} {E : XK} {x m : Str} {p pos apos kpos : Pos} {e o : Expr} {es : List Expr} {kws : List Keyword} {te ta : TE} {t tk : TA} {nm : Option Str}
structure KBinds (K : PySem.W.Frag) (fd : FuncData) (ps ks : List Str) (g : List Value → List Value → List Value) (gV : List V → List V → List V) : Prop where
  to : ∀ (s : Shared) (us ws : List Value), K.In s.heap → (g us ws).length = ps.length → BindsTo s fd ⟨us, ks.zip ws⟩ (ps.zip (g us ws))
  rel : ∀ {vs : List V} {us : List Value} {zs : List V} {ws : List Value}, Vals vs us → Vals zs ws → Vals (gV vs zs) (g us ws)
noncomputable def tCallK (sp : Sp) (gV : List V → List V → List V) (E : XK) (t tk : TA) : TE := fun σ H Q => t σ H fun vs H1 => tk σ H1 fun zs H2 => sp (gV vs zs) H2 Q E
variable {g : List Value → List Value → List Value} {gV : List V → List V → List V}
end

structure FnScope (N P : List Str) (sc : Scope) : Prop where
  kind : sc.kind = .function
  co : sc.isCoroutine = false
  gen : sc.isGenerator = false
  nd : N.Nodup
  pre : N.take P.length = P
  par : ∀ x ∈ P, sc.names.lookup x = some .local ∨ sc.names.lookup x = some .cell
  nofree : ∀ y ∈ sc.names, y.2 ≠ .free

theorem bindL_out {kindOf : Str → Option NameKind} {x : Str} : ∀ {binds : List (Str × Value)} {m : Str → Option Value}, (∀ v, (x, v) ∉ binds) → bindL kindOf binds m x = m x
  | [], _, _ => rfl
  | (n, v) :: r, m, h => by
    unfold bindL
    rw [bindL_out fun w hw => h w (List.mem_cons_of_mem _ hw)]
    split
    · have : x ≠ n := by rintro rfl; exact h v List.mem_cons_self
      simp [this]
    · rfl
theorem bindC_out {kindOf : Str → Option NameKind} {x : Str} : ∀ {binds : List (Str × Value)} {m : Str → Option Value}, (∀ v, (x, v) ∉ binds) → bindC kindOf binds m x = m x
  | [], _, _ => rfl
  | (n, v) :: r, m, h => by
    unfold bindC
    rw [bindC_out fun w hw => h w (List.mem_cons_of_mem _ hw)]
    split
    · rfl
    · have : x ≠ n := by rintro rfl; exact h v List.mem_cons_self
      simp [this]
theorem bindL_get {kindOf : Str → Option NameKind} {x : Str} {v : Value} : ∀ {P : List Str} {vs : List Value} {i : Nat} {m : Str → Option Value}, P.Nodup → P[i]? = some x → vs[i]? = some v → kindOf x = some .local →
    bindL kindOf (P.zip vs) m x = some v
  | [], _, _, _, _, h, _, _ => by simp at h
  | _ :: _, [], _, _, _, _, h, _ => by simp at h
  | p :: P, w :: vs, 0, m, nd, h1, h2, hk => by
    simp at h1 h2; subst h1; subst h2
    show bindL kindOf ((p, w) :: P.zip vs) m p = _
    unfold bindL
    rw [bindL_out fun v hv => (List.nodup_cons.mp nd).1 (List.of_mem_zip hv).1, if_pos hk]
    simp
  | p :: P, w :: vs, i + 1, m, nd, h1, h2, hk => by
    show bindL kindOf ((p, w) :: P.zip vs) m x = _
    unfold bindL
    exact bindL_get (i := i) (List.nodup_cons.mp nd).2 (by simpa using h1) (by simpa using h2) hk
theorem bindC_get {kindOf : Str → Option NameKind} {x : Str} {v : Value} : ∀ {P : List Str} {vs : List Value} {i : Nat} {m : Str → Option Value}, P.Nodup → P[i]? = some x → vs[i]? = some v → kindOf x ≠ some .local →
    bindC kindOf (P.zip vs) m x = some v
  | [], _, _, _, _, h, _, _ => by simp at h
  | _ :: _, [], _, _, _, _, h, _ => by simp at h
  | p :: P, w :: vs, 0, m, nd, h1, h2, hk => by
    simp at h1 h2; subst h1; subst h2
    show bindC kindOf ((p, w) :: P.zip vs) m p = _
    unfold bindC
    rw [bindC_out fun v hv => (List.nodup_cons.mp nd).1 (List.of_mem_zip hv).1, if_neg hk]
    simp
  | p :: P, w :: vs, i + 1, m, nd, h1, h2, hk => by
    show bindC kindOf ((p, w) :: P.zip vs) m x = _
    unfold bindC
    exact bindC_get (i := i) (List.nodup_cons.mp nd).2 (by simpa using h1) (by simpa using h2) hk

noncomputable def start (N : List Str) (vs : List V) : St := vs.map some ++ List.replicate (N.length - vs.length) none

noncomputable def cxOf (CX : CXT) (P : Program) (w : World) (K : PySem.W.Frag) (mg : Str → Option Value) (base : Heap) (N : List Str) (qual : Str) (scope : Scope) (f : Addr) (cd : Value) (A : Around) (outer : List Env) (s : Shared) (H : Hp) (E : XK) : Cx where
  prog := P
  w := w
  K := K
  mg := mg
  base := base
  A := A.deeper (envOfC qual scope s.heap.objs.size f cd)
  N := N
  s₀ := s
  H₀ := H
  env := envOfC qual scope s.heap.objs.size f cd
  outer := outer
  stack := envOfC qual scope s.heap.objs.size f cd :: outer
  ex := []
  calm := true
  fn := fun _ => true
  pn := []
  xe := fun e s' => wpAny (model P w) (A.deeper (envOfC qual scope s.heap.objs.size f cd)) (leaving (envOfC qual scope s.heap.objs.size f cd) e) (fun _ s'' => CX outer H s E e s'') (fun e' s'' => CX outer H s E e' s'') s'

theorem cell_has {sc : Scope} {n : Nat} {x : Str} (h : sc.names.lookup x = some .cell) : ∃ c, (cellsFrom n sc.names []).lookup x = some c := by
  have q := PySem.W.cellsFrom_some sc.names n [] (.inl h)
  exact Option.isSome_iff_exists.mp q

theorem inv_start {CX : CXT} {P : Program} {w : World} {K : PySem.W.Frag} {mg : Str → Option Value} {base : Heap} {N ps : List Str} {qual : Str} {scope : Scope} {f : Addr} {cd : Value} {A : Around} {outer : List Env} {s s1 : Shared} {H : Hp} {E : XK} {us : List Value} {vs : List V}
    (S : FnScope N ps scope) (hd : A.handled = none) (e0 : Env0 P w K mg base A outer s H) (hl : vs.length = ps.length) (r : Vals vs us)
    (x : InCallC s s.heap.objs.size (bindL (envOfC qual scope s.heap.objs.size f cd).kindOf (ps.zip us) fun _ => none) (cellsFrom (s.heap.objs.size + 1) scope.names []) (bindC (envOfC qual scope s.heap.objs.size f cd).kindOf (ps.zip us) fun _ => none) s1) :
    Inv (cxOf CX P w K mg base N qual scope f cd A outer s H E) [] (start N vs) H s1 := by
  have hpl : ps.length ≤ N.length := by have := congrArg List.length S.pre; rw [List.length_take] at this; omega
  obtain ⟨h1, tk, rfl, hk⟩ := x.done
  have noA : ∀ b : Addr, b ∉ (cxOf CX P w K mg base N qual scope f cd A outer s H E).ex := fun b z => absurd (show b ∈ ([] : List Addr) from z) (by simp)
  refine ⟨⟨e0.mod, S.kind, rfl, rfl, Nat.le_refl _, fun y z c h1 h2 => ?_, fun y hy => ?_, fun y c _ h => ?_, fun _ => hd, Around.frames_deeper e0.frames, .inr ⟨rfl, rfl⟩, fun b z => absurd z (noA b), e0.bs, e0.bsz, fun b _ _ => noA b, fun b z => absurd z (noA b), e0.funs, e0.frf⟩,
    rfl, e0.bare, Un.kept hk, ⟨_, x.toInCall.ns, fun i y v h1 h2 h3 => ?_⟩, fun y c h => ⟨_, x.cell y c h⟩, e0.hok.fresh (Nat.le_refl _), fun y c h => ?_, fun p hp => absurd (show p ∈ ([] : List (Addr × Obj)) from hp) (by simp), e0.hok.kept hk, ?_⟩
  · exact name_of_addr x.apart (PySem.mem_of_lookup h1) (PySem.mem_of_lookup h2)
  · have hy : scope.names.lookup y = some .cell ∨ scope.names.lookup y = some .free := hy
    rcases hy with hy | hy
    · exact cell_has hy
    · exact absurd rfl (S.nofree _ (PySem.mem_of_lookup hy))
  · exact Nat.le_of_lt (x.above y c (PySem.mem_of_lookup h))
  · have hi : i < vs.length := by
      unfold start at h2
      by_cases hi : i < vs.length
      · exact hi
      · rw [List.getElem?_append_right (by simpa using hi)] at h2
        rw [List.getElem?_replicate] at h2
        split at h2 <;> cases h2
    have ha : vs[i]? = some v := by
      unfold start at h2
      rw [List.getElem?_append_left (by simpa using hi), List.getElem?_map] at h2
      cases e : vs[i]? with
      | none => rw [e] at h2; cases h2
      | some a => rw [e] at h2; cases h2; rfl
    obtain ⟨u, hu, rv⟩ := r.get ha
    have hp : ps[i]? = some y := by
      rw [← S.pre, List.getElem?_take_of_lt (by omega)]; exact h1
    have ndP : ps.Nodup := by rw [← S.pre]; exact S.nd.sublist (List.take_sublist _ _)
    refine ⟨u, rv, ?_⟩
    rcases S.par y (List.mem_of_getElem? hp) with k | k
    · exact .inl ⟨k, bindL_get ndP hp hu k⟩
    · obtain ⟨c, e⟩ := cell_has (n := s.heap.objs.size + 1) k
      refine .inr ⟨.inl k, c, e, ?_⟩
      have q := x.cell y c e
      rw [bindC_get ndP hp hu (by show scope.names.lookup y ≠ _; rw [k]; decide)] at q
      exact q
  · exact e0.hok.fresh (Nat.le_of_lt (x.above y c (PySem.mem_of_lookup h)))
  · unfold start
    show _ = N.length
    rw [List.length_append, List.length_map, List.length_replicate]
    omega

theorem fn_of {CX : CXT} {P : Program} {w : World} {K : PySem.W.Frag} {mg : Str → Option Value} {base : Heap} {k : Nat} {f : Addr} {name qual : Str} {params : Arguments} {body : List Stmt} {scope : Scope} {dV kV doc pm cdv ct oc : Value} {an od : Option Addr}
    {osl : Array (Option Value)} {N ps : List Str} {sp : Sp} (lk : K.lookup f = some ⟨oc, od, .func (PySem.W.fnOf name qual params body scope dV kV doc pm an cdv ct), osl⟩) (hcd : PySem.W.codeIn K cdv qual = true) (S : FnScope N ps scope)
    (len : ∀ vs H Q E, sp vs H Q E → vs.length = ps.length)
    (hbody : ∀ (A : Around) (outer : List Env) (s : Shared) (H : Hp) (vs : List V) (Q : VK) (E : XK), Room k (A.deeper (envOfC qual scope s.heap.objs.size f cdv)) → sp vs H Q E →
      ∃ t, PSs (cxOf CX P w K mg base N qual scope f cdv A outer s H E) body t ∧ t { nx := fun _ H' => Q .non H', rt := Q } (start N vs) H) :
    FnOk P w K mg base CX (k + 1) f (PySem.W.fnOf name qual params body scope dV kV doc pm an cdv ct) ps sp := by
  refine ⟨len, fun A outer s H args us vs Q E hr e0 hb r hsp => ?_⟩
  have hl := len _ _ _ _ hsp
  have KX : K.In s.heap := e0.mod.kin.keeps fun b o e => (e0.bs b o e).1
  have lim : s.heap.NoLimit := e0.mod.nolimit.keeps fun b o e => (e0.bs b o e).1
  have hkind : ∀ y ∈ ps.zip us, scope.names.lookup y.1 = some .local ∨ (scope.names.lookup y.1 = some .cell ∧ ((cellsFrom (s.heap.objs.size + 1) scope.names []).lookup y.1).isSome = true) := fun ⟨n, v⟩ hy => by
    rcases S.par n (List.of_mem_zip hy).1 with q | q
    · exact .inl q
    · exact .inr ⟨q, PySem.W.cellsFrom_some _ _ _ (.inl q)⟩
  refine codeAny_call_function hr.depth (KX _ _ lk) rfl S.co S.gen rfl (PySem.W.codeRec_of KX hcd) (hb _ _ _ _ ?_)
  refine wpAny_newFunctionEnv_cells S.kind hkind fun env he s1 x => ?_
  subst he
  refine ⟨lim.keeps x.toInCall.keep, codeAny_func ?_⟩
  obtain ⟨t, ht, hq⟩ := hbody A outer s H vs Q E (hr.deeper _) hsp
  have I : Inv (cxOf CX P w K mg base N qual scope f cdv A outer s H E) [] (start N vs) H s1 := inv_start S hr.hd e0 hl r x
  refine wpAny_mono (ht [] s1 (start N vs) H _ I hq) (fun fl s' hs => ?_) fun e s' hs => hs
  have fin : ∀ {σ' : St} {H' : Hp} {v : V} {u : Value}, Inv (cxOf CX P w K mg base N qual scope f cdv A outer s H E) [] σ' H' s' → RelV v u → Q v H' → CE outer P w H s Q u s' :=
    fun {σ' H' v u} J rv q => ⟨v, H', J.os, J.bare, J.base, J.hok, rv, q⟩
  cases fl with
  | ret u =>
    obtain ⟨v, σ', H', J, rv, q⟩ := hs
    exact fin J rv q
  | next =>
    obtain ⟨σ', H', J, q⟩ := hs
    exact fin (v := V.non) (u := Value.none) J rfl q
  | brk =>
    obtain ⟨_, _, _, q⟩ := hs
    exact False.elim q
  | cont =>
    obtain ⟨_, _, _, q⟩ := hs
    exact False.elim q
end L2.Internal

namespace L2.Internal
open PySem PySem.Spec PyProof.Rows
section
variable {X : Cx} {x : Str} {p pos : Pos} {e : Expr} {es : List Expr} {t : TA} {id T : String} {r : List V → Hp → VK → Prop}

noncomputable def tCB (r : List V → Hp → VK → Prop) (t : TA) : TE := fun σ H Q => t σ H fun vs H1 => r vs H1 Q
theorem pe_callB (hc : CallR X (.builtin id) r) (hg : Gl X x) (hm : X.mg x = none) (hv : bootBuiltins x = some (.builtin id)) (ha : PA X (e :: es) t) (hn : autoParam (x ≠ "__name__") L2.Internal.auD._auto_1) (hdb : autoParam ((x == ("__debug__" : Str)) = false) L2.Internal.auD._auto_1)
    (he : autoParam (starEach (e :: es) X.env = (false, eval e X.env) :: starEach es X.env) L2.Internal.auR._auto_1) (hpl : autoParam ((backTo pos (starEach es X.env)).any (·.1) = false) L2.Internal.auR._auto_1) : PE X (.Call (.Name x p) (e :: es) [] pos) (tCB r t) := by
  intro pins s σ H Q I h
  refine wpAny_Call_Name_kw (ld_blt I hg hm hv ?_ hn hdb)
  exact PyProof.Rows.callWith_builtin1 (thn (ha pos pins s σ H _ I h) fun us s1 ⟨vs, H1, I1, r1, q1⟩ => hc pins s1 σ H1 vs us Q I1 r1 q1) he hpl
theorem pe_callTy (hc : CallR X (.type T) r) (hg : Gl X x) (hm : X.mg x = none) (hv : bootBuiltins x = some (.type T)) (ha : PA X (e :: es) t) (hn : autoParam (x ≠ "__name__") L2.Internal.auD._auto_1) (hdb : autoParam ((x == ("__debug__" : Str)) = false) L2.Internal.auD._auto_1)
    (he : autoParam (starEach (e :: es) X.env = (false, eval e X.env) :: starEach es X.env) L2.Internal.auR._auto_1) (hpl : autoParam ((backTo pos (starEach es X.env)).any (·.1) = false) L2.Internal.auR._auto_1) : PE X (.Call (.Name x p) (e :: es) [] pos) (tCB r t) := by
  intro pins s σ H Q I h
  refine wpAny_Call_Name_kw (ld_blt I hg hm hv ?_ hn hdb)
  exact PyProof.Rows.callWith_type1 (thn (ha pos pins s σ H _ I h) fun us s1 ⟨vs, H1, I1, r1, q1⟩ => hc pins s1 σ H1 vs us Q I1 r1 q1) he hpl
end
end L2.Internal

namespace L2.Internal
open PySem PySem.Spec PyProof.Rows

section
variable {κ : Type} [DecidableEq κ]
noncomputable def valV (kvs : List (κ × V)) (k : κ) : Option V := (kvs.find? fun kv => decide (kv.1 = k)).map (·.2)
noncomputable def putK (kvs : List (κ × V)) (k : κ) (v : V) : List (κ × V) :=
  if (kvs.any fun kv => decide (kv.1 = k)) = true then kvs.map (fun kv => if kv.1 = k then (kv.1, v) else kv) else kvs ++ [(k, v)]
noncomputable def dropK (kvs : List (κ × V)) (k : κ) : List (κ × V) := kvs.filter fun kv => decide (kv.1 ≠ k)

theorem valV_pos {p : κ × V} {r : List (κ × V)} {k : κ} (e : p.1 = k) : valV (p :: r) k = some p.2 := by simp [valV, List.find?_cons, e]
theorem valV_neg {p : κ × V} {r : List (κ × V)} {k : κ} (e : ¬ p.1 = k) : valV (p :: r) k = valV r k := by simp [valV, List.find?_cons, e]
theorem valV_any (k : κ) : ∀ kvs : List (κ × V), (kvs.any fun kv => decide (kv.1 = k)) = (valV kvs k).isSome
  | [] => rfl
  | p :: r => by
    rw [List.any_cons]
    by_cases e : p.1 = k
    · simp only [valV_pos e, decide_eq_true e, Bool.true_or, Option.isSome_some]
    · rw [valV_neg e, decide_eq_false e, Bool.false_or]; exact valV_any k r
theorem valV_map (k j : κ) (y : V) : ∀ kvs : List (κ × V), valV (kvs.map fun kv => if kv.1 = k then (kv.1, y) else kv) j = (valV kvs j).map fun x => if j = k then y else x
  | [] => rfl
  | p :: r => by
    have ih := valV_map k j y r
    rw [List.map_cons]
    by_cases h : p.1 = k
    · rw [if_pos h]
      by_cases e : p.1 = j
      · rw [valV_pos (p := (p.1, y)) e, valV_pos e, Option.map_some, if_pos (e.symm.trans h)]
      · rw [valV_neg (p := (p.1, y)) e, valV_neg e, ih]
    · rw [if_neg h]
      by_cases e : p.1 = j
      · rw [valV_pos (p := p) e, valV_pos e, Option.map_some, if_neg (fun z => h (e.trans z))]
      · rw [valV_neg (p := p) e, valV_neg e, ih]
theorem valV_snoc (k j : κ) (y : V) : ∀ kvs : List (κ × V), valV kvs k = none → valV (kvs ++ [(k, y)]) j = if j = k then some y else valV kvs j
  | [], _ => by
    by_cases e : k = j
    · rw [if_pos e.symm]; exact valV_pos (p := (k, y)) e
    · rw [if_neg (fun z => e z.symm)]; exact valV_neg (p := (k, y)) e
  | p :: r, hn => by
    rw [List.cons_append]
    have hk : ¬ p.1 = k := fun z => by rw [valV_pos z] at hn; cases hn
    rw [valV_neg hk] at hn
    have ih := valV_snoc k j y r hn
    by_cases e : p.1 = j
    · rw [valV_pos e, valV_pos e, if_neg (fun z => hk (e.trans z))]
    · rw [valV_neg e, valV_neg e, ih]
theorem valV_put (kvs : List (κ × V)) (k j : κ) (y : V) : valV (putK kvs k y) j = if j = k then some y else valV kvs j := by
  unfold putK
  by_cases a : (kvs.any fun kv => decide (kv.1 = k)) = true
  · rw [if_pos a, valV_map]
    rw [valV_any] at a
    by_cases e : j = k
    · obtain ⟨x, hx⟩ := Option.isSome_iff_exists.mp a
      rw [if_pos e, e, hx, Option.map_some, if_pos rfl]
    · rw [if_neg e]
      cases valV kvs j with
      | none => rfl
      | some x => rw [Option.map_some, if_neg e]
  · rw [if_neg a]
    refine valV_snoc k j y kvs ?_
    rw [valV_any] at a
    cases q : valV kvs k with
    | none => rfl
    | some x => rw [q] at a; exact (a rfl).elim
theorem length_putK (kvs : List (κ × V)) (k : κ) (v : V) : (putK kvs k v).length ≤ kvs.length + 1 := by
  unfold putK
  split
  · rw [List.length_map]; omega
  · rw [List.length_append, List.length_cons, List.length_nil]; omega
theorem RelO.isSome_eq {o : Option V} {u : Option Value} (r : RelO o u) : o.isSome = u.isSome := by
  cases o with
  | none => cases u with
    | none => rfl
    | some _ => exact (show False from r).elim
  | some _ => cases u with
    | none => exact (show False from r).elim
    | some _ => rfl
theorem KV.val {kvs : List (κ × V)} {vs : List (κ × Value)} (r : KV kvs vs) (k : κ) : RelO (valV kvs k) (valueAt vs k) := by
  unfold KV at r
  induction r with
  | nil => exact True.intro
  | @cons p q ps qs h t ih =>
    obtain ⟨h1, h2⟩ := h
    by_cases e : p.1 = k
    · have e' : q.1 = k := h1.symm.trans e
      have b : valueAt (q :: qs) k = some q.2 := by simp [valueAt, List.find?_cons, e']
      rw [valV_pos e, b]; exact h2
    · have e' : ¬ q.1 = k := fun z => e (h1.trans z)
      have b : valueAt (q :: qs) k = valueAt qs k := by simp [valueAt, List.find?_cons, e']
      rw [valV_neg e, b]; exact ih
theorem KV.any {kvs : List (κ × V)} {vs : List (κ × Value)} (r : KV kvs vs) (k : κ) : (kvs.any fun kv => decide (kv.1 = k)) = vs.any fun kv => decide (kv.1 = k) := by
  unfold KV at r
  induction r with
  | nil => rfl
  | cons h t ih => rw [List.any_cons, List.any_cons, ih, h.1]
theorem KV.repl {kvs : List (κ × V)} {vs : List (κ × Value)} (r : KV kvs vs) (k : κ) {y : V} {u : Value} (ry : RelV y u) :
    KV (kvs.map fun kv => if kv.1 = k then (kv.1, y) else kv) (vs.map fun kv => if kv.1 = k then (kv.1, u) else kv) := by
  unfold KV at r ⊢
  induction r with
  | nil => exact .nil
  | @cons p q ps qs h t ih =>
    rw [List.map_cons, List.map_cons]
    refine .cons ?_ ih
    obtain ⟨h1, h2⟩ := h
    by_cases e : p.1 = k
    · rw [if_pos e, if_pos (h1.symm.trans e)]; exact ⟨h1, ry⟩
    · rw [if_neg e, if_neg (fun z => e (h1.trans z))]; exact ⟨h1, h2⟩
theorem KV.put {kvs : List (κ × V)} {vs : List (κ × Value)} (r : KV kvs vs) (k : κ) {y : V} {u : Value} (ry : RelV y u) : KV (putK kvs k y) (stored vs k u) := by
  unfold putK stored
  rw [r.any k]
  by_cases e : (vs.any fun kv => decide (kv.1 = k)) = true
  · rw [if_pos e, if_pos e]; exact r.repl k ry
  · rw [if_neg e, if_neg e]; exact Paired.snoc r ⟨rfl, ry⟩
theorem KV.length {kvs : List (κ × V)} {vs : List (κ × Value)} (r : KV kvs vs) : kvs.length = vs.length := Paired.length r
end


theorem kV_is {P : Program} {w : World} {k : Key} {u : Value} (r : RelV (kV k) u) : (mixKind P w).is k u = true := by
  cases k with
  | inl i => obtain ⟨t, e⟩ := (show ∃ t, u = Value.int i t from r); subst e; exact mixKind_int P w i t
  | inr x => obtain ⟨t, e⟩ := (show ∃ t, u = Value.str x t from r); subst e; exact mixKind_str P w x t
theorem items_are {P : Program} {w : World} : ∀ {ks : List Key} {us : List Value}, Vals (ks.map kV) us → ItemsAre (mixKind P w) ks us
  | [], _, r => by rw [List.map_nil] at r; cases r; exact .nil
  | k :: ks, _, r => by
    rw [List.map_cons] at r
    cases r with
    | cons h t => exact .cons (kV_is h) (items_are t)

noncomputable abbrev KT (H : Hp) : List (List Key × V) → List (List Key × Addr × Value) → Prop := Paired fun p q => p.1 = q.1 ∧ H q.2.1 = some (.tup (p.1.map kV)) ∧ RelV p.2 q.2.2
theorem KT.val {H : Hp} {kvs : List (List Key × V)} {xs : List (List Key × Addr × Value)} (r : KT H kvs xs) (k : List Key) : RelO (valV kvs k) ((atKey xs k).map (·.2)) := by
  induction r with
  | nil => exact True.intro
  | @cons p q ps qs h t ih =>
    obtain ⟨h1, _, h2⟩ := h
    by_cases e : p.1 = k
    · have e' : q.1 = k := h1.symm.trans e
      have b : atKey (q :: qs) k = some q.2 := by simp [atKey, List.find?_cons, e']
      rw [valV_pos e, b]; exact h2
    · have e' : ¬ q.1 = k := fun z => e (h1.trans z)
      have b : atKey (q :: qs) k = atKey qs k := by simp [atKey, List.find?_cons, e']
      rw [valV_neg e, b]; exact ih
section
variable {P : Program} {w : World} {H : Hp} {h : Heap} {a : Addr}
theorem rd_of {u : HO} (ok : HOk P w H h) (e : Rd H a u) : ObjOk P w H h a u := e.ok ok
theorem dk_rd {kvs : List (Key × V)} (ok : HOk P w H h) (e : Rd H a (.dK kvs)) : kvs.length ≤ sizeLine ∧ (a == sysModules) = false ∧ ∃ vs, KV kvs vs ∧ h.DictOf (mixKind P w) a vs :=
  show ObjOk P w H h a (.dK kvs) from rd_of ok e
theorem dk_of {kvs : List (Key × V)} (ok : HOk P w H h) (e : H a = some (.dK kvs)) : kvs.length ≤ sizeLine ∧ (a == sysModules) = false ∧ ∃ vs, KV kvs vs ∧ h.DictOf (mixKind P w) a vs := dk_rd ok (.inl e)
theorem key_of {ks : List Key} (ok : HOk P w H h) (e : H a = some (.tup (ks.map kV))) : (tupleKind (mixKind P w)).is h ks a := by
  obtain ⟨_, its, r, o, h1, h2, n, h3, _⟩ := (show ObjOk P w H h a (.tup (ks.map kV)) from ok a _ e)
  exact ⟨o, its.toArray, n, h1, h2, h3, by simpa using items_are r⟩
theorem dt_rd {kvs : List (List Key × V)} (ok : HOk P w H h) (e : Rd H a (.dT kvs)) : kvs.length ≤ sizeLine ∧ (a == sysModules) = false ∧
    ∃ xs, KT H kvs xs ∧ h.DictOfH (tupleKind (mixKind P w)) a xs := by
  obtain ⟨z, y, xs, r, o, es, ep, h1, h2, h3, h4, h5⟩ := (show ObjOk P w H h a (.dT kvs) from rd_of ok e)
  refine ⟨z, y, xs, r, o, es, ep, h1, h2, h3, h4, fun x hx => ?_, h5⟩
  have all : ∀ {l : List (List Key × V)} {m : List (List Key × Addr × Value)}, KT H l m → ∀ x ∈ m, (tupleKind (mixKind P w)).is h x.1 x.2.1 := by
    intro l m q
    induction q with
    | nil => intro x hx; exact nomatch hx
    | @cons p q ps qs hq t ih =>
      intro x hx
      rcases List.mem_cons.mp hx with e | hx
      · subst e
        exact key_of ok (by rw [← hq.1]; exact hq.2.1)
      · exact ih x hx
  exact all r x hx
end

noncomputable def DGet (H : Hp) (a : Addr) (y : V) (r : Option V) : Prop :=
  (∃ kvs k, Rd H a (.dK kvs) ∧ y = kV k ∧ r = valV kvs k) ∨ ∃ kvs k b, Rd H a (.dT kvs) ∧ y = .ref b ∧ H b = some (.tup (k.map kV)) ∧ r = valV kvs k
noncomputable def DPut (H : Hp) (a : Addr) (y v : V) (H' : Hp) : Prop :=
  (∃ kvs k, H a = some (.dK kvs) ∧ y = kV k ∧ kvs.length < sizeLine ∧ H' = upd H a (.dK (putK kvs k v))) ∨
  ∃ kvs k b, H a = some (.dT kvs) ∧ y = .ref b ∧ H b = some (.tup (k.map kV)) ∧ kvs.length < sizeLine ∧ H' = upd H a (.dT (putK kvs k v))
theorem DGet.k {H : Hp} {a : Addr} {kvs : List (Key × V)} {k : Key} (e : H a = some (.dK kvs)) : DGet H a (kV k) (valV kvs k) := .inl ⟨kvs, k, .inl e, rfl, rfl⟩
theorem DPut.k {H : Hp} {a : Addr} {kvs : List (Key × V)} {k : Key} {v : V} (e : H a = some (.dK kvs)) (hl : kvs.length < sizeLine) : DPut H a (kV k) v (upd H a (.dK (putK kvs k v))) := .inl ⟨kvs, k, e, rfl, hl, rfl⟩
section
variable {X : Cx} {pins : List (Addr × Obj)} {σ : St} {H : Hp} {s : Shared} {a : Addr} {y v : V} {u r : Value} {o : Option V} {A : Around} {E : Value → Shared → Prop}

theorem Inv.big (I : Inv X pins σ H s) : sysModules < s.heap.objs.size := by
  have h : mainGlobals < s.heap.objs.size := (I.mod.glob.keeps I.bk).lt
  exact Nat.lt_trans (by decide) h

theorem d_getItem {Q : Value → Shared → Prop} (hu : A.units + 1 < cLine) (I : Inv X pins σ H s) (g : DGet H a y (some v)) (ry : RelV y u) (h : ∀ w' s', Inv X pins σ H s' → RelV v w' → Q w' s') :
    wpAny (model X.prog X.w) A (getItem (.ref a) u) Q E s := by
  rcases g with ⟨kvs, k, e, ey, l⟩ | ⟨kvs, k, b, e, ey, eb, l⟩
  · subst ey
    obtain ⟨z, hd, vs, rel, dd⟩ := dk_rd I.hok e
    obtain ⟨w', hw, rw'⟩ := RelO.some_of (v := v) (o := valueAt vs k) (by rw [l]; exact rel.val k)
    exact wpAny_getItem_of (kV_is ry) dd.mapOf hw (h w' _ (I.tok _) rw')
  · subst ey
    cases (show u = Value.ref b from ry)
    obtain ⟨z, hd, xs, rel, dd⟩ := dt_rd I.hok e
    obtain ⟨w', hw, rw'⟩ := RelO.some_of (v := v) (o := (atKey xs k).map (·.2)) (by rw [l]; exact rel.val k)
    obtain ⟨p, hp, hp2⟩ := Option.map_eq_some_iff.mp hw
    refine wpAny_getItem_heap (tupleKind_room_in1 hu) (key_of I.hok eb) dd hp ?_
    rw [hp2]
    exact h w' _ (I.tok _) rw'
theorem d_notIn {Q : Value → Shared → Prop} (hu : A.units + 1 < cLine) (I : Inv X pins σ H s) (g : DGet H a y o) (ry : RelV y u) (h : ∀ s', Inv X pins σ H s' → Q (.bool (!o.isSome)) s') :
    wpAny (model X.prog X.w) A (compareOp .NotIn u (.ref a)) Q E s := by
  rcases g with ⟨kvs, k, e, ey, l⟩ | ⟨kvs, k, b, e, ey, eb, l⟩
  · subst ey
    obtain ⟨z, hd, vs, rel, dd⟩ := dk_rd I.hok e
    refine wpAny_notIn_of (kV_is ry) hd dd.mapOf ?_
    rw [← (rel.val k).isSome_eq, ← l]
    exact h _ (I.tok _)
  · subst ey
    cases (show u = Value.ref b from ry)
    obtain ⟨z, hd, xs, rel, dd⟩ := dt_rd I.hok e
    refine wpAny_notIn_heap (tupleKind_room_in1 hu) (key_of I.hok eb) hd dd ?_
    have q := (rel.val k).isSome_eq
    rw [Option.isSome_map] at q
    rw [← q, ← l]
    exact h _ (I.tok _)
theorem d_write {h' : Heap} {t' : Nat} {ob : HO} (I : Inv X pins σ H s) (mu : Mut (H a)) (hs : Heap.SameBut a s.heap h') (he : ∃ q, h'.get? a = some q) (new : ObjOk X.prog X.w (upd H a ob) h' a ob) :
    Inv X pins σ (upd H a ob) { s with heap := h', toks := t' } :=
  I.write (x := a) (e := a) mu (.inl rfl) (fun b q hb z => (hs.2 b hb).trans z) he new
theorem dk_new {P : Program} {w : World} {H' : Hp} {h' : Heap} {kvs : List (Key × V)} {vs : List (Key × Value)} (z : kvs.length ≤ sizeLine) (hd : (a == sysModules) = false) (rel : KV kvs vs) (dd : h'.DictOf (mixKind P w) a vs) :
    ObjOk P w H' h' a (.dK kvs) := ⟨z, hd, vs, rel, dd⟩
end

section
variable {X : Cx} {pins : List (Addr × Obj)} {σ : St} {H : Hp} {s : Shared} {a : Addr} {kvs : List (Key × V)} {k : Key} {u : Value} {A : Around} {E : Value → Shared → Prop}
end


noncomputable def NoSl (i : Expr) : Prop := ∀ ov iv, subscripted i false ov iv = operate [ov, iv] (getItem ov iv)
theorem subD_of {prog : Program} {w : World} {A : Around} {E : Value → Shared → Prop} {s : Shared} {env : Env} {value slice : Expr} {pos : Pos} {T id : String} {Q : Value → Shared → Prop}
    (hl : typeLookup (.type T) "__getitem__" = pure (some (.builtin id))) (hs : NoSl slice)
    (h : wpAny (model prog w) A (eval value env) (fun o s₁ => wpAny (model prog w) A (eval slice env) (fun i s₂ => s₂.TypeIs o T ∧ wpAny (model prog w) A (getItem o i) Q E s₂) E s₁) E s) :
    wpAny (model prog w) A (eval (.Subscript value slice pos) env) Q E s := by
  refine Subscript_ (wpAny_mono h (fun o s₁ h₁ => wpAny_mono h₁ (fun i s₂ h₂ => ?_) fun _ _ x => x) fun _ _ x => x)
  obtain ⟨hT, h₂⟩ := h₂
  unfold subscriptTail
  refine wpAny_bind ?_
  rw [getitemInPython_of_ne hT.not_modules]
  refine wpAny_bind (wpAny_specialOf hT hl ?_)
  have fin : wpAny (model prog w) A (subscripted slice false o i) (fun r s₃ => wpAny (model prog w) A (letTemporaryGo value o r >>= fun _ => pure r) Q E s₃) E s₂ := by
    rw [hs o i]
    exact wpAny_operating (wpAny_mono h₂ (fun r s₃ h₃ => wpAny_bind (wpAny_letTemporaryGo (wpAny_pure h₃))) fun _ _ x => x)
  first
    | exact wpAny_pure (wpAny_bind fin)
    | exact wpAny_bind (wpAny_pure (wpAny_bind fin))
    | exact wpAny_bind fin

theorem dict_typeIs {X : Cx} {pins : List (Addr × Obj)} {σ : St} {H : Hp} {s : Shared} {a : Addr} {y : V} {o : Option V} (I : Inv X pins σ H s) (g : DGet H a y o) : s.TypeIs (.ref a) "dict" := by
  rcases g with ⟨kvs, k, e, _, _⟩ | ⟨kvs, k, b, e, _, _, _⟩
  · obtain ⟨_, _, vs, _, dd⟩ := dk_rd I.hok e
    exact dd.typeIs
  · obtain ⟨_, _, xs, _, dd⟩ := dt_rd I.hok e
    exact dd.typeIs
noncomputable def tDGet (td ty : TE) : TE := fun σ H Q => td σ H fun x H1 => ty σ H1 fun y H2 => ∃ a v, x = .ref a ∧ DGet H2 a y (some v) ∧ Q v H2
noncomputable def tDIn (ty td : TE) : TE := fun σ H Q => ty σ H fun y H1 => td σ H1 fun x H2 => ∃ a o, x = .ref a ∧ DGet H2 a y o ∧ Q (.bl o.isSome) H2
noncomputable def tDNotIn (ty td : TE) : TE := fun σ H Q => ty σ H fun y H1 => td σ H1 fun x H2 => ∃ a o, x = .ref a ∧ DGet H2 a y o ∧ Q (.bl (!o.isSome)) H2
noncomputable def sDPut (td ty tv : TE) : TS := fun D σ H => tv σ H fun v H1 => td σ H1 fun x H2 => ty σ H2 fun y H3 => ∃ a H4, x = .ref a ∧ DPut H3 a y v H4 ∧ D.nx σ H4
noncomputable def sDAug (td ty tv : TE) (rd : V → V → Hp → VK → Prop) : TS := fun D σ H => td σ H fun x H1 => ty σ H1 fun y H2 => ∃ a v, x = .ref a ∧ DGet H2 a y (some v) ∧
  tv σ H2 fun y2 H3 => rd v y2 H3 fun z H4 => ∃ H5, DPut H4 a y z H5 ∧ D.nx σ H5
noncomputable def sDDel (td ty : TE) : TS := fun D σ H => td σ H fun x H1 => ty σ H1 fun y H2 => ∃ a kvs k, x = .ref a ∧ H2 a = some (.dK kvs) ∧ y = kV k ∧ (valV kvs k).isSome = true ∧ D.nx σ (upd H2 a (.dK (dropK kvs k)))

section
variable {X : Cx} {o i e value : Expr} {pos pos' tpos : Pos} {td ty tv : TE}
theorem pe_dget (hu : X.A.units + 1 < cLine) (ho : PE X o td) (hi : PE X i ty) (hs : NoSl i) : PE X (.Subscript o i pos) (tDGet td ty) := by
  intro pins s σ H Q I h
  refine subD_of PySem.F.slot_dict_getitem.lookup hs (thn (ho pins s σ H _ I h) fun u s1 ⟨x, H1, I1, rx, q1⟩ => thn (hi pins s1 σ H1 _ I1 q1) fun iv s2 ⟨y, H2, I2, ry, a, v, ex, g, q2⟩ => ?_)
  subst ex
  obtain rfl : u = Value.ref a := rx
  exact ⟨dict_typeIs I2 g, d_getItem hu I2 g ry fun w' s3 I3 rw' => ⟨v, H2, I3, rw', q2⟩⟩
theorem pc_dnotin (hu : X.A.units + 1 < cLine) (hi : PE X i ty) (ho : PE X o td) : PC X .NotIn i o (tDNotIn ty td) := by
  intro pins s σ H Q I h
  refine thn (hi pins s σ H _ I h) fun iv s1 ⟨y, H1, I1, ry, q1⟩ => thn (ho pins s1 σ H1 _ I1 q1) fun u s2 ⟨x, H2, I2, rx, a, ov, ex, g, q2⟩ => ?_
  subst ex
  obtain rfl : u = Value.ref a := rx
  exact d_notIn hu I2 g ry fun s3 I3 => ⟨.bl (!ov.isSome), H2, I3, rfl, q2⟩
end


noncomputable def tDNewK : TE := fun _ H Q => ∀ p, H p = none → Q (.ref p) (upd H p (.dK []))
noncomputable def tDNewT : TE := fun _ H Q => ∀ p, H p = none → Q (.ref p) (upd H p (.dT []))
section
variable {X : Cx} {pos : Pos}
end

noncomputable def tPairs : List (TE × TE) → St → Hp → (List (V × V) → Hp → Prop) → Prop
  | [], _, H, Q => Q [] H
  | (tk, tv) :: r, σ, H, Q => tk σ H fun x H1 => tv σ H1 fun y H2 => tPairs r σ H2 fun ps H3 => Q ((x, y) :: ps) H3
noncomputable abbrev VV : List (V × V) → List (Value × Value) → Prop := Paired fun p q => RelV p.1 q.1 ∧ RelV p.2 q.2
noncomputable def PPs (X : Cx) (pos : Pos) (keys : List (Option Expr)) (values : List Expr) (trs : List (TE × TE)) : Prop :=
  ∀ (pins : List (Addr × Obj)) (s : Shared) (σ : St) (H : Hp) (Q : List (V × V) → Hp → Prop), Inv X pins σ H s → tPairs trs σ H Q →
    wpAny (model X.prog X.w) X.A (evalPairs (pairTrees keys values X.env pos)) (fun vs s' => ∃ ps H', Inv X pins σ H' s' ∧ VV ps vs ∧ Q ps H') X.xe s
noncomputable def mergeK (kvs more : List (Key × V)) : List (Key × V) := more.foldl (fun acc kv => putK acc kv.1 kv.2) kvs
noncomputable def tDisp (trs : List (TE × TE)) : TE := fun σ H Q => ∀ p, H p = none → tPairs trs σ (upd H p (.dK [])) fun ps H2 => H2 p = some (.dK []) ∧ ∃ kvs : List (Key × V), ps = kvs.map (fun kv => (kV kv.1, kv.2)) ∧ kvs.length ≤ 15 ∧ Q (.ref p) (upd H2 p (.dK (mergeK [] kvs)))
structure M1 (X : Cx) (o : Expr) (m : Str) (apos : Pos) (e : Expr) (cpos : Pos) : Prop where
  base : attributeBase o m X.env (eval o X.env) = eval o X.env
  few : ((backTo cpos (starEach [e] X.env)).all (fun x => !x.1) && (backToKw cpos (keywordEach [] X.env)).all (fun x => x.1.isSome)
    && decide (([e] : List Expr).length + ([] : List Keyword).length + (if ([] : List Keyword).isEmpty then 0 else 1) < 30)) = true
  line : (apos.endLine == cpos.line) = true
  trees : backTo cpos (starEach [e] X.env) = [(false, eval e X.env)]
structure M2 (X : Cx) (o : Expr) (m : Str) (apos : Pos) (e f : Expr) (cpos : Pos) : Prop where
  base : attributeBase o m X.env (eval o X.env) = eval o X.env
  few : ((backTo cpos (starEach [e, f] X.env)).all (fun x => !x.1) && (backToKw cpos (keywordEach [] X.env)).all (fun x => x.1.isSome)
    && decide (([e, f] : List Expr).length + ([] : List Keyword).length + (if ([] : List Keyword).isEmpty then 0 else 1) < 30)) = true
  line : (apos.endLine == cpos.line) = true
  trees : backTo cpos (starEach [e, f] X.env) = [(false, eval e X.env), (false, eval f X.env)]

noncomputable def IsD (H : Hp) (a : Addr) : Prop := (∃ kvs, Rd H a (.dK kvs)) ∨ ∃ kvs, Rd H a (.dT kvs)
section
variable {X : Cx} {pins : List (Addr × Obj)} {σ : St} {H : Hp} {s : Shared} {a : Addr} {y d : V} {u r : Value} {o : Option V} {A : Around} {E : Value → Shared → Prop}
end

noncomputable def tDGet1 (td ty : TE) : TE := fun σ H Q => td σ H fun x H1 => ∃ a, x = .ref a ∧ IsD H1 a ∧ ty σ H1 fun y H2 => ∃ o, DGet H2 a y o ∧ Q (o.getD .non) H2
noncomputable def tDGet2 (td ty tx : TE) : TE := fun σ H Q => td σ H fun x H1 => ∃ a, x = .ref a ∧ IsD H1 a ∧ ty σ H1 fun y H2 => tx σ H2 fun z H3 => ∃ o, DGet H3 a y o ∧ Q (o.getD z) H3
noncomputable def tDPop1 (td ty : TE) : TE := fun σ H Q => td σ H fun x H1 => ∃ a, x = .ref a ∧ IsD H1 a ∧ ty σ H1 fun y H2 => ∃ kvs k v, H2 a = some (.dK kvs) ∧ y = kV k ∧ valV kvs k = some v ∧ Q v (upd H2 a (.dK (dropK kvs k)))
noncomputable def tDPop2 (td ty tx : TE) : TE := fun σ H Q => td σ H fun x H1 => ∃ a, x = .ref a ∧ IsD H1 a ∧ ty σ H1 fun y H2 => tx σ H2 fun z H3 => ∃ kvs k, H3 a = some (.dK kvs) ∧ y = kV k ∧
  (∀ v, valV kvs k = some v → Q v (upd H3 a (.dK (dropK kvs k)))) ∧ (valV kvs k = none → Q z H3)
section
variable {X : Cx} {o e f : Expr} {apos cpos : Pos} {td ty tx : TE}
end

section
variable {X : Cx} {pins : List (Addr × Obj)} {σ : St} {H : Hp} {s : Shared} {a : Addr} {kvs : List (Key × V)} {A : Around} {E : Value → Shared → Prop}
end


section
variable {X : Cx} {pins : List (Addr × Obj)} {σ : St} {H : Hp} {s : Shared} {a : Addr} {y : V} {u : Value} {A : Around} {E : Value → Shared → Prop}
end
end L2.Internal

namespace HT.Internal
open PySem PyProof.Rows

noncomputable def lexLt : List Int → List Int → Bool
  | [], [] => false
  | [], _ :: _ => true
  | _ :: _, [] => false
  | x :: xs, y :: ys => if x = y then lexLt xs ys else decide (x < y)
section
open PySem.SeqAt
open PySem.AutoSeq1 (wpAny_loadPart')
open PySem.MeetsSeq PySem.MeetsSeq2 PySem.MeetsSeq3

end

section
variable {prog : Program} {w : World} {A : Around} {E : Value → Shared → Prop} {s : Shared}

noncomputable def sIx (n d : Nat) : Option Int → Nat
  | none => d
  | some v => if v < 0 then (v + (n : Int)).toNat else min v.toNat n
theorem sIx_none (n d : Nat) : sIx n d none = d := rfl
theorem sIx_nat (n d k : Nat) : sIx n d (some (k : Int)) = min k n := by
  show (if (k : Int) < 0 then ((k : Int) + (n : Int)).toNat else min (k : Int).toNat n) = min k n
  rw [if_neg (by omega), Int.toNat_natCast]
end
end HT.Internal

namespace L2.Internal
open PySem PySem.Spec PyProof.Rows

noncomputable abbrev TO := St → Hp → (Option Int → Hp → Prop) → Prop
noncomputable def PO (X : Cx) (e : Option Expr) (t : TO) : Prop :=
  ∀ (pins : List (Addr × Obj)) (s : Shared) (σ : St) (H : Hp) (Q : Option Int → Hp → Prop), Inv X pins σ H s → t σ H Q →
    wpAny (model X.prog X.w) X.A (evalPart e X.env) (fun u s' => ∃ o H', Inv X pins σ H' s' ∧ IsPart u o ∧ Q o H') X.xe s
noncomputable def tNoPart : TO := fun _ H Q => Q none H
noncomputable def tPart (t : TE) : TO := fun σ H Q => t σ H fun x H1 => ∃ i, x = .int i ∧ Q (some i) H1

theorem intsAre_of {ns : List Int} : ∀ {us : List Value}, Vals (ns.map V.int) us → IntsAre us ns := by
  induction ns with
  | nil => intro us r; rw [List.map_nil] at r; cases r; exact .nil
  | cons n ns ih =>
    intro us r
    rw [List.map_cons] at r
    cases r with
    | cons r1 r2 =>
      obtain ⟨t, e⟩ := r1
      subst e
      exact .cons n t (ih r2)

section
variable {X : Cx} {e : Expr} {te : TE} {lo hi : Option Expr} {tl th : TO} {pos p2 : Pos}

theorem po_none : PO X none tNoPart := by
  intro pins s σ H Q I h
  rw [evalPart_none]
  exact wpAny_pure ⟨none, H, I, .none, h⟩
theorem po_some (h : PE X e te) : PO X (some e) (tPart te) := by
  intro pins s σ H Q I hw
  rw [evalPart_some]
  refine thn (h pins s σ H _ I hw) fun u s1 ⟨x, H1, I1, r1, q1⟩ => ?_
  obtain ⟨i, rfl, q⟩ := q1
  obtain ⟨t, rfl⟩ := r1
  exact ⟨some i, H1, I1, .int i t, q⟩

noncomputable def SlR (X : Cx) (r : V → Option Int → Option Int → Hp → VK → Prop) : Prop :=
  ∀ (pins : List (Addr × Obj)) (s : Shared) (σ : St) (H : Hp) (x : V) (v vl vu : Value) (lo hi : Option Int) (sl : Addr) (Q : VK), Inv X pins σ H s → RelV x v → s.heap.IsSliceOf sl vl vu .none → IsPart vl lo → IsPart vu hi → r x lo hi H Q →
    ∃ T id, typeLookup (.type T) "__getitem__" = pure (some (.builtin id)) ∧ s.TypeIs v T ∧ wpAny (model X.prog X.w) X.A (getItem v (.ref sl)) (EP X pins σ Q) X.xe s
noncomputable def tSl (r : V → Option Int → Option Int → Hp → VK → Prop) (te : TE) (tl th : TO) : TE := fun σ H Q => te σ H fun x H1 => tl σ H1 fun l H2 => th σ H2 fun u H3 => r x l u H3 Q
theorem pe_slice {r : V → Option Int → Option Int → Hp → VK → Prop} (hr : SlR X r) (he : PE X e te) (hl : PO X lo tl) (hu : PO X hi th) : PE X (.Subscript e (.Slice lo hi none p2) pos) (tSl r te tl th) := by
  intro pins s σ H Q I h
  refine Subscript_ (thn (he pins s σ H _ I h) fun v s1 ⟨x, H1, I1, r1, q1⟩ => ?_)
  refine wpAny_Slice (thn (hl pins s1 σ H1 _ I1 q1) fun vl s2 ⟨l, H2, I2, pl, q2⟩ => thn (hu pins s2 σ H2 _ I2 q2) fun vu s3 ⟨u, H3, I3, pu, q3⟩ => ?_)
  rw [evalPart_none]
  refine wpAny_pure ?_
  have I4 : Inv X pins σ H3 { s3 with heap := s3.heap.push { cls := .type "slice", data := .fields #[vl, vu, .none] } } := I3.kept (t' := s3.toks) fun b ob q => Heap.get?_push_of_some _ q
  obtain ⟨T, id, hT, ht, hg⟩ := hr pins { s3 with heap := s3.heap.push { cls := .type "slice", data := .fields #[vl, vu, .none] } } σ H3 x v vl vu l u s3.heap.objs.size Q I4 r1 (Heap.IsSliceOf.new ..) pl pu q3
  show wpAny (model X.prog X.w) X.A (subscriptTail e (.Slice lo hi none p2) v (.ref s3.heap.objs.size)) (EP X pins σ Q) X.xe { s3 with heap := s3.heap.push { cls := .type "slice", data := .fields #[vl, vu, .none] } }
  exact tail_any (ops := [.ref s3.heap.objs.size, v]) ht hT hg (by with_unfolding_all rfl)

noncomputable def cutV (xs : List V) (lo hi : Option Int) : List V := (xs.drop (HT.Internal.sIx xs.length 0 lo)).take (HT.Internal.sIx xs.length xs.length hi - HT.Internal.sIx xs.length 0 lo)
theorem cutV_length (xs : List V) (lo hi : Option Int) : (cutV xs lo hi).length ≤ xs.length := by
  unfold cutV
  rw [List.length_take, List.length_drop]
  omega
noncomputable def rSlT (K : PySem.W.Frag) : V → Option Int → Option Int → Hp → VK → Prop := fun x lo hi H Q => ∃ a xs, x = .ref a ∧ SqT K H a xs ∧
  ¬ (HT.Internal.sIx xs.length 0 lo = 0 ∧ HT.Internal.sIx xs.length xs.length hi = xs.length) ∧ ∀ p, H p = none → Q (.ref p) (upd H p (.tup (cutV xs lo hi)))
noncomputable def rLtT (K : PySem.W.Frag) : R2 := fun x y H Q => ∃ a b ns ms, x = .ref a ∧ y = .ref b ∧ SqT K H a (ns.map V.int) ∧ SqT K H b (ms.map V.int) ∧ Q (.bl (HT.Internal.lexLt ns ms)) H
noncomputable def rCatT (K : PySem.W.Frag) : R2 := fun x y H Q => ∃ a b xs ys, x = .ref a ∧ y = .ref b ∧ SqT K H a xs ∧ SqT K H b ys ∧ xs ≠ [] ∧ xs.length + ys.length ≤ sizeLine ∧
  (ys = [] → Q (.ref a) H) ∧ (ys ≠ [] → ∀ p, H p = none → Q (.ref p) (upd H p (.tup (xs ++ ys))))
end
end L2.Internal

namespace L2.Internal
open PySem PySem.Spec PyProof.Rows

noncomputable def ixN (n : Nat) (i : Int) : Option Nat := if 0 ≤ i then (if i < n then some i.toNat else none) else if -(n : Int) ≤ i then some (i + n).toNat else none
noncomputable def atI {α : Type} (xs : List α) (i : Int) : Option α := (ixN xs.length i).bind fun j => xs[j]?
theorem ixN_seq {n : Nat} {i : Int} {j : Nat} (h : ixN n i = some j) : seqIndex? i n = some j ∧ j < n ∧ -(n : Int) ≤ i ∧ i < n := by
  unfold ixN at h
  by_cases h0 : 0 ≤ i
  · rw [if_pos h0] at h
    by_cases h1 : i < n
    · rw [if_pos h1] at h
      have e : i.toNat = j := Option.some.inj h
      exact ⟨by rw [seqIndex_of h0 h1, e], by omega, by omega, h1⟩
    · rw [if_neg h1] at h; cases h
  · rw [if_neg h0] at h
    by_cases h1 : -(n : Int) ≤ i
    · rw [if_pos h1] at h
      have e : (i + n).toNat = j := Option.some.inj h
      exact ⟨by rw [seqIndex_neg (by omega) h1, e], by omega, h1, by omega⟩
    · rw [if_neg h1] at h; cases h
theorem atI_get {α : Type} {xs : List α} {i : Int} {v : α} (h : atI xs i = some v) : ∃ j, seqIndex? i xs.length = some j ∧ xs[j]? = some v ∧ j < xs.length ∧ -(xs.length : Int) ≤ i ∧ i < xs.length := by
  unfold atI at h
  cases e : ixN xs.length i with
  | none => rw [e] at h; cases h
  | some j =>
    rw [e] at h
    obtain ⟨h1, h2, h3, h4⟩ := ixN_seq e
    exact ⟨j, h1, h, h2, h3, h4⟩
theorem atI_nat {α : Type} {xs : List α} {j : Nat} {v : α} (h : xs[j]? = some v) : atI xs (j : Int) = some v := by
  have hj : j < xs.length := (List.getElem?_eq_some_iff.mp h).1
  have e : ixN xs.length (j : Int) = some j := by
    unfold ixN
    rw [if_pos (by omega), if_pos (by omega)]; simp
  unfold atI; rw [e]; exact h
noncomputable def PlainIx (b : Expr) : Prop := ∀ o i, subscripted b false o i = operate [o, i] (getItem o i)
noncomputable def IxR (X : Cx) (r : R2) : Prop :=
  ∀ (value slice : Expr) (pins : List (Addr × Obj)) (s : Shared) (σ : St) (H : Hp) (x y : V) (v u : Value) (Q : VK), Inv X pins σ H s → RelV x v → RelV y u → r x y H Q →
    subscripted slice false v u = operate [v, u] (getItem v u) → wpAny (model X.prog X.w) X.A (subscriptTail value slice v u) (EP X pins σ Q) X.xe s
noncomputable def MtR (X : Cx) (id : String) (r : V → List V → Hp → VK → Prop) : Prop :=
  ∀ (pins : List (Addr × Obj)) (s : Shared) (σ : St) (H : Hp) (x : V) (xs : List V) (v : Value) (us : List Value) (Q : VK), Inv X pins σ H s → RelV x v → Vals xs us → r x xs H Q →
    wpAny (model X.prog X.w) X.A (call (.builtin id) (v :: us)) (EP X pins σ Q) X.xe s
section
variable {X : Cx} {a b : Expr} {ta tb : TE} {pos : Pos}
theorem pe_ix {r : R2} (hr : IxR X r) (ha : PE X a ta) (hb : PE X b tb) (hs : PlainIx b) : PE X (.Subscript a b pos) (tOp r ta tb) := by
  intro pins s σ H Q I h
  exact Subscript_ (binT ha hb I h fun v u s2 x y H2 I2 rx ry q => hr a b pins s2 σ H2 x y v u Q I2 rx ry q (hs _ _))

noncomputable def rIxL (K : PySem.W.Frag) : R2 := fun x y H Q => ∃ p xs i v, x = .ref p ∧ y = .int i ∧ SqL K H p xs ∧ atI xs i = some v ∧ Q v H
noncomputable def rIxT (K : PySem.W.Frag) : R2 := fun x y H Q => ∃ p xs i v, x = .ref p ∧ y = .int i ∧ SqT K H p xs ∧ atI xs i = some v ∧ Q v H
noncomputable def rIxS : R2 := fun x y H Q => ∃ z i c, x = .str z ∧ y = .int i ∧ z.length ≤ sizeLine ∧ atI z.cps.toList i = some c ∧ Q (.str ⟨#[c]⟩) H
theorem ix_list : IxR X (rIxL X.K) := by
  intro value slice pins s σ H x y v u Q I rx ry h hs
  obtain ⟨p, xs, i, z, rfl, rfl, hq, he, q⟩ := h
  cases rx
  obtain ⟨t, rfl⟩ := ry
  obtain ⟨its, r, pl, hz⟩ := I.list hq
  obtain ⟨j, h1, h2, h3, h4, h5⟩ := atI_get he
  obtain ⟨w, ew, rw'⟩ := r.get h2
  have hl := r.length
  have hn := line63
  have fin : EP X pins σ Q w s := ⟨z, H, I, rw', q⟩
  by_cases h0 : 0 ≤ i
  · have hj : i.toNat = j := by
      rw [seqIndex_of h0 h5] at h1
      exact Option.some.inj h1
    exact item_listR pl.isList h0 (by omega) (by rw [hj]; simpa using ew) fin hs
  · have hj : (i + (its.toArray.size : Int)).toNat = j := by
      rw [seqIndex_neg (by omega) h4] at h1
      rw [List.size_toArray, ← hl]
      exact Option.some.inj h1
    exact subscriptTail_builtinR (x := w) pl.isList.typeIs slot_list_getitem.lookup
      (wpAny_getItem_list_neg (Q := fun r s' => r = w ∧ EP X pins σ Q r s') pl.isList (by omega) (by rw [List.size_toArray] <;> omega) (by omega) (by rw [hj]; simpa using ew) ⟨rfl, fin⟩) hs
theorem ix_tup : IxR X (rIxT X.K) := by
  intro value slice pins s σ H x y v u Q I rx ry h hs
  obtain ⟨p, xs, i, z, rfl, rfl, hq, he, q⟩ := h
  cases rx
  obtain ⟨t, rfl⟩ := ry
  obtain ⟨its, r, pl, hz⟩ := I.tuple hq
  obtain ⟨j, h1, h2, h3, h4, h5⟩ := atI_get he
  obtain ⟨w, ew, rw'⟩ := r.get h2
  have hl := r.length
  have hn := line63
  have fin : EP X pins σ Q w s := ⟨z, H, I, rw', q⟩
  exact subscriptTail_builtinR (x := w) pl.typeIs slot_tuple_getitem.lookup
    (getItem_tuple (j := j) (Q := fun r s' => r = w ∧ EP X pins σ Q r s') pl (by omega) (by omega) (by rw [List.size_toArray, ← hl]; exact h1) (by simpa using ew) ⟨rfl, fin⟩) hs
theorem ix_str : IxR X rIxS := by
  intro value slice pins s σ H x y v u Q I rx ry h hs
  obtain ⟨z, i, c, rfl, rfl, hz, he, q⟩ := h
  obtain ⟨t, rfl⟩ := rx
  obtain ⟨t', rfl⟩ := ry
  obtain ⟨j, h1, h2, h3, h4, h5⟩ := atI_get he
  have hl : z.cps.toList.length = z.length := by simp [Str.length]
  rw [hl] at h1 h4 h5
  have hn := line63
  exact tail_any (typeIs_str s z t) slot_str_getitem.lookup (getItem_str (c := c) (by
    have e1 : decide (i < -(2 ^ 63 : Int)) = false := decide_eq_false (by omega)
    have e2 : decide (i ≥ 2 ^ 63) = false := decide_eq_false (by omega)
    rw [e1, e2, Bool.or_false]) (by rw [h1]; simpa using h2) ⟨.str ⟨#[c]⟩, H, I.tok _, ⟨_, rfl⟩, q⟩) hs
noncomputable def rIx (K : PySem.W.Frag) : R2 := fun x y H Q => rIxL K x y H Q ∨ rIxT K x y H Q ∨ rIxS x y H Q
noncomputable def rSetL : V → V → V → Hp → (Hp → Prop) → Prop := fun o i v H Q => ∃ p xs k j, o = .ref p ∧ i = .int k ∧ H p = some (.lst xs) ∧ ixN xs.length k = some j ∧ Q (upd H p (.lst (xs.set j v)))
theorem slice_bounds (lo hi : Option Int) (n : Nat) : (sliceBounds lo hi none n).1 = ((HT.Internal.sIx n 0 lo : Nat) : Int) ∧ (sliceBounds lo hi none n).2.1 = ((HT.Internal.sIx n n hi : Nat) : Int) ∧ (sliceBounds lo hi none n).2.2 = 1 := by
  refine ⟨?_, ?_, rfl⟩
  · cases lo with
    | none => simp [sliceBounds, HT.Internal.sIx]
    | some i =>
      simp only [sliceBounds, HT.Internal.sIx, Option.getD_none, show (1 : Int) > 0 by decide, if_true]
      by_cases h : i < 0
      · simp only [h, if_true] <;> omega
      · simp only [h, if_false] <;> omega
  · cases hi with
    | none => simp [sliceBounds, HT.Internal.sIx]
    | some i =>
      simp only [sliceBounds, HT.Internal.sIx, Option.getD_none, show (1 : Int) > 0 by decide, if_true]
      by_cases h : i < 0
      · simp only [h, if_true] <;> omega
      · simp only [h, if_false] <;> omega
theorem slicePick_cut (its : List Value) (lo hi : Option Int) : slicePick its.toArray lo hi none = ((its.drop (HT.Internal.sIx its.length 0 lo)).take (HT.Internal.sIx its.length its.length hi - HT.Internal.sIx its.length 0 lo)).toArray := by
  obtain ⟨h1, h2, h3⟩ := slice_bounds lo hi its.toArray.size
  unfold slicePick
  rw [h1, h2, h3]
  simp only [sliceRange_one, pick_run, List.size_toArray] <;> rfl
noncomputable def rSlL (K : PySem.W.Frag) : V → Option Int → Option Int → Hp → VK → Prop := fun x lo hi H Q => ∃ a xs, x = .ref a ∧ SqL K H a xs ∧ ∀ p, H p = none → Q (.ref p) (upd H p (.lst (cutV xs lo hi)))
theorem sl_list : SlR X (rSlL X.K) := by
  intro pins s σ H x v vl vu lo hi sl Q I rx hs pl pu h
  obtain ⟨a, xs, rfl, hx, q⟩ := h
  cases rx
  obtain ⟨its, r, ht, hz⟩ := I.list hx
  have hlen := r.length
  refine ⟨"list", _, slot_list_getitem.lookup, ht.isList.typeIs, ?_⟩
  refine wpAny_getItem_list_slice ht.isList hs pl pu .none (by simp) ?_ (by rw [List.size_toArray] <;> omega)
  rw [slicePick_cut, ← hlen]
  refine ⟨.ref s.heap.objs.size, _, I.laid (t' := s.toks) (o := .lst (cutV xs lo hi)) (fun b ob q => Heap.get?_push_of_some _ q) (Nat.le_refl _) ?_, rfl, q _ (I.hok.fresh (Nat.le_refl _))⟩
  exact ⟨Nat.le_trans (cutV_length xs lo hi) hz, _, 0, (r.drop (HT.Internal.sIx xs.length 0 lo)).take (HT.Internal.sIx xs.length xs.length hi - HT.Internal.sIx xs.length 0 lo), Heap.get?_push_size _ rfl⟩

noncomputable def flatV : V → Bool
  | .non => true
  | .bl _ => true
  | .int _ => true
  | .str _ => true
  | _ => false
noncomputable def eqV : V → V → Bool
  | .non, .non => true
  | .bl a, .bl b => a == b
  | .bl a, .int b => (if a then 1 else 0) == b
  | .int a, .bl b => a == (if b then 1 else 0)
  | .int a, .int b => a == b
  | .str a, .str b => a == b
  | _, _ => false
theorem eqAt_V {A : Around} {s : Shared} {y x : V} {u v : Value} (ry : RelV y u) (rx : RelV x v) (fy : flatV y = true) (fx : flatV x = true) : SeqAt.EqAt A s u v (eqV y x) := by
  cases y with
  | non =>
    cases ry
    cases x with
    | non => cases rx; exact SeqAt.EqAt.same _
    | bl b => cases rx; exact SeqAt.EqAt.none_bool b
    | int b => obtain ⟨t, rfl⟩ := rx; exact SeqAt.EqAt.none_int b t
    | str b => obtain ⟨t, rfl⟩ := rx; exact SeqAt.EqAt.none_str b t
    | _ => exact absurd (show false = true from fx) Bool.false_ne_true
  | bl a =>
    cases ry
    cases x with
    | non => cases rx; exact SeqAt.EqAt.bool_none a
    | bl b => cases rx; exact SeqAt.EqAt.bool_bool a b
    | int b => obtain ⟨t, rfl⟩ := rx; exact SeqAt.EqAt.bool_int a b t
    | str b => obtain ⟨t, rfl⟩ := rx; exact SeqAt.EqAt.bool_str a b t
    | _ => exact absurd (show false = true from fx) Bool.false_ne_true
  | int a =>
    obtain ⟨t', rfl⟩ := ry
    cases x with
    | non => cases rx; exact SeqAt.EqAt.int_none a t'
    | bl b => cases rx; exact SeqAt.EqAt.int_bool a t' b
    | int b => obtain ⟨t, rfl⟩ := rx; exact SeqAt.EqAt.int_int a t' b t
    | str b => obtain ⟨t, rfl⟩ := rx; exact SeqAt.EqAt.int_str a t' b t
    | _ => exact absurd (show false = true from fx) Bool.false_ne_true
  | str a =>
    obtain ⟨t', rfl⟩ := ry
    cases x with
    | non => cases rx; exact SeqAt.EqAt.str_none a t'
    | bl b => cases rx; exact SeqAt.EqAt.str_bool a t' b
    | int b => obtain ⟨t, rfl⟩ := rx; exact SeqAt.EqAt.str_int a t' b t
    | str b => obtain ⟨t, rfl⟩ := rx; exact SeqAt.EqAt.str_str a t' b t
    | _ => exact absurd (show false = true from fx) Bool.false_ne_true
  | _ => exact absurd (show false = true from fy) Bool.false_ne_true
noncomputable def eqU (x : V) (u : Value) : Bool := match u with
  | .none => eqV .non x
  | .bool b => eqV (.bl b) x
  | .int i _ => eqV (.int i) x
  | .str z _ => eqV (.str z) x
  | _ => false
noncomputable def inV (x : V) (xs : List V) : Bool := xs.any fun y => eqV y x
noncomputable def rIn (K : PySem.W.Frag) (neg : Bool) : R2 := fun x y H Q => ∃ p xs, y = .ref p ∧ (SqL K H p xs ∨ SqT K H p xs) ∧ flatV x = true ∧ xs.all flatV = true ∧ Q (.bl (if neg then !inV x xs else inV x xs)) H
theorem call_len_seq : CallR X (.builtin "len") (fun xs H Q => ∃ p ys, xs = [.ref p] ∧ (SqL X.K H p ys ∨ SqT X.K H p ys) ∧ Q (.int ys.length) H) := by
  intro pins s σ H xs us Q I r h
  obtain ⟨p, ys, rfl, hq, q⟩ := h
  obtain ⟨u, rfl, rx⟩ := vals1 r
  cases rx
  have hn := line63
  rcases hq with hq | hq
  · obtain ⟨its, r', pl, hz⟩ := I.list hq
    have hlen := r'.length
    exact Calls.call_len_list pl.isList (by simp only [List.size_toArray] <;> omega) ⟨.int ys.length, H, I.tok _, ⟨s.toks + 1, by rw [List.size_toArray, hlen]⟩, q⟩
  · obtain ⟨its, r', pl, hz⟩ := I.tuple hq
    have hlen := r'.length
    exact len_tuple pl (by simp only [List.size_toArray] <;> omega) ⟨.int ys.length, H, I.tok _, ⟨s.toks + 1, by rw [List.size_toArray, hlen]⟩, q⟩
theorem call_tuple_of : CallR X (.type "tuple") (fun xs H Q => ∃ p ys, xs = [.ref p] ∧ ((SqL X.K H p ys ∧ ∀ l, H l = none → Q (.ref l) (upd H l (.tup ys))) ∨ (SqT X.K H p ys ∧ Q (.ref p) H))) := by
  intro pins s σ H xs us Q I r h
  obtain ⟨p, ys, rfl, h⟩ := h
  obtain ⟨u, rfl, rx⟩ := vals1 r
  cases rx
  rcases h with ⟨hq, q⟩ | ⟨hq, q⟩
  · obtain ⟨its, r', pl, hz⟩ := I.list hq
    have hlen := r'.length
    refine call_tuple_list pl.isList (fun h' kp => ?_) (by simp only [List.size_toArray] <;> omega)
    have I1 : Inv X pins σ H { s with heap := h' } := I.kept (t' := s.toks) kp
    have I2 : Inv X pins σ (upd H h'.objs.size (.tup ys)) { s with heap := h'.push { cls := .type "tuple", data := .seq its.toArray } } :=
      I1.laid (t' := s.toks) (fun b o e => Heap.get?_push_of_some _ e) (Nat.le_refl _) (show ObjOk X.prog X.w _ _ _ (.tup ys) from ⟨hz, its, r', Tup0.new _ _⟩)
    exact ⟨.ref h'.objs.size, _, I2, rfl, q _ (I1.hok.fresh (Nat.le_refl _))⟩
  · obtain ⟨its, r', pl, hz⟩ := I.tuple hq
    exact call_tuple_same pl ⟨.ref p, H, I, rfl, q⟩

noncomputable def tyV (K : PySem.W.Frag) (T : String) (x : V) (H : Hp) : Prop := match x with
  | .str _ => T = "str"
  | .int _ => T = "int"
  | .ref p => (T = "list" ∧ ∃ xs, SqL K H p xs) ∨ (T = "tuple" ∧ ∃ o, K.lookup p = some o ∧ o.cls = .type "tuple" ∧ o.dict = none) ∨
      (T = "dict" ∧ ((∃ kvs, H p = some (.dK kvs)) ∨ ∃ kvs, H p = some (.dT kvs))) ∨ (T = "set" ∧ ∃ S n, H p = some (.set S n))
  | _ => False
theorem tyV_is {pins : List (Addr × Obj)} {σ : St} {H : Hp} {s : Shared} {T : String} {x : V} {v : Value} (I : Inv X pins σ H s) (r : RelV x v) (ty : tyV X.K T x H) :
    s.TypeIs v T ∧ ∀ a, v = .ref a → ∃ ob, s.heap.get? a = some ob ∧ ob.dict = none := by
  cases x with
  | str z =>
    obtain ⟨t, rfl⟩ := r
    cases (show T = "str" from ty)
    exact ⟨typeIs_str s z t, fun _ e => nomatch e⟩
  | int i =>
    obtain ⟨t, rfl⟩ := r
    cases (show T = "int" from ty)
    exact ⟨typeIs_int s i t, fun _ e => nomatch e⟩
  | ref p =>
    cases r
    rcases ty with ⟨rfl, xs, hq⟩ | ⟨rfl, o, hk, hc, hd⟩ | ⟨rfl, hk⟩ | ⟨rfl, S, n, hk⟩
    · obtain ⟨its, _, pl, _⟩ := I.list hq
      refine ⟨pl.isList.typeIs, fun a e => ?_⟩
      cases e
      obtain ⟨o, n, e, c, hd, _⟩ := pl
      exact ⟨o, e, hd⟩
    · refine ⟨⟨o, I.kIn p o hk, hc⟩, fun a e => ?_⟩
      cases e
      exact ⟨o, I.kIn _ o hk, hd⟩
    · have z : ∃ o, s.heap.get? p = some o ∧ o.ExactDict := by
        rcases hk with ⟨kvs, hk⟩ | ⟨kvs, hk⟩
        · obtain ⟨_, _, _, _, o, _, _, e, ex, _⟩ := I.hok p _ hk
          exact ⟨o, e, ex⟩
        · obtain ⟨_, _, _, _, o, _, _, e, ex, _⟩ := I.hok p _ hk
          exact ⟨o, e, ex⟩
      obtain ⟨o, e, ex⟩ := z
      refine ⟨⟨o, e, ex.1⟩, fun a e2 => ?_⟩
      cases e2
      exact ⟨o, e, ex.2.1⟩
    · obtain ⟨o, _, _, _, e, ex, _⟩ := I.hok p _ hk
      refine ⟨⟨o, e, ex.1⟩, fun a e2 => ?_⟩
      cases e2
      exact ⟨o, e, ex.2.1⟩
  | _ => exact False.elim ty
noncomputable def tBM0 (K : PySem.W.Frag) (T : String) (r : V → List V → Hp → VK → Prop) (to : TE) : TE := fun σ H Q => to σ H fun x H1 => tyV K T x H1 ∧ r x [] H1 Q
noncomputable def tBM (K : PySem.W.Frag) (T : String) (r : V → List V → Hp → VK → Prop) (to : TE) (t : TA) : TE := fun σ H Q => to σ H fun x H1 => tyV K T x H1 ∧ t σ H1 fun xs H2 => r x xs H2 Q
variable {o e : Expr} {es : List Expr} {to : TE} {t : TA} {name : Str} {apos cpos : Pos} {T id : String} {r : V → List V → Hp → VK → Prop}
theorem pe_bm0 (pa : PlainAttrs T) (slot : Slot T name id) (hty : typeOf (.builtin id) = pure (.type "method_descriptor")) (hm : MtR X id r) (ho : PE X o to)
    (hbase : autoParam (attributeBase o name X.env (eval o X.env) = eval o X.env) L2.Internal.auR._auto_1) (hline : autoParam ((apos.endLine == cpos.line) = true) L2.Internal.auR._auto_1) : PE X (.Call (.Attribute o name apos) [] [] cpos) (tBM0 X.K T r to) := by
  intro pins s σ H Q I h
  refine wpAny_Call_method0_late hbase hline (thn (ho pins s σ H _ I h) fun v s1 ⟨x, H1, I1, r1, ty, q1⟩ => ?_)
  obtain ⟨h1, h2⟩ := tyV_is I1 r1 ty
  exact ⟨T, id, pa, slot, hty, h1, h2, Calls.callWith_builtin rfl (PySem.evalArgs_none (hm pins s1 σ H1 x [] v [] Q I1 r1 .nil q1))⟩
theorem pe_bm (pa : PlainAttrs T) (slot : Slot T name id) (hty : typeOf (.builtin id) = pure (.type "method_descriptor")) (hm : MtR X id r) (ho : PE X o to) (ha : PA X (e :: es) t)
    (hbase : autoParam (attributeBase o name X.env (eval o X.env) = eval o X.env) L2.Internal.auR._auto_1)
    (hfew : ((backTo cpos (starEach (e :: es) X.env)).all (fun x => !x.1) && (backToKw cpos (keywordEach [] X.env)).all (fun x => x.1.isSome)
      && decide ((e :: es).length + ([] : List Keyword).length + (if ([] : List Keyword).isEmpty then 0 else 1) < 30)) = true := by rfl)
    (hline : autoParam ((apos.endLine == cpos.line) = true) L2.Internal.auR._auto_1) (hs : autoParam (starEach (e :: es) X.env = (false, eval e X.env) :: starEach es X.env) L2.Internal.auR._auto_1) (hplain : autoParam ((backTo cpos (starEach es X.env)).any (·.1) = false) L2.Internal.auR._auto_1) :
    PE X (.Call (.Attribute o name apos) (e :: es) [] cpos) (tBM X.K T r to t) := by
  intro pins s σ H Q I h
  refine wpAny_Call_method_late hbase hfew hline rfl (thn (ho pins s σ H _ I h) fun v s1 ⟨x, H1, I1, r1, ty, q1⟩ => ?_)
  obtain ⟨h1, h2⟩ := tyV_is I1 r1 ty
  refine ⟨T, id, pa, slot, hty, h1, h2, ?_⟩
  have hA := ha cpos pins s1 σ H1 _ I1 q1
  rw [hs] at hA ⊢
  refine Calls.callWith_builtin (by show (false || (backTo cpos (starEach es X.env)).any (·.1)) = false; rw [hplain] <;> rfl) (Calls.evalArgs_plain ?_)
  exact thn hA fun us s2 ⟨vs, H2, I2, r2, q2⟩ => hm pins s2 σ H2 x vs v us Q I2 r1 r2 q2
/- xs.append(e), list.index on a module's tuple .. are MtR facts of 06m -/
end
end L2.Internal

namespace L2.Internal
open PySem PySem.Spec PyProof.Rows

noncomputable def MtM (X : Cx) (id : String) (r : V → List V → Hp → VK → Prop) : Prop :=
  ∀ (pins : List (Addr × Obj)) (s : Shared) (σ : St) (H : Hp) (x : V) (xs : List V) (v : Value) (us : List Value) (Q : VK), Inv X pins σ H s → RelV x v → Vals xs us → r x xs H Q →
    wpAny (model X.prog X.w) X.A (call (.builtin id) (v :: us)) (EP X pins σ Q) X.xe s

theorem Vals.one : ∀ {x : V} {us : List Value}, Vals [x] us → ∃ u, us = [u] ∧ RelV x u
  | _, _, .cons r .nil => ⟨_, rfl, r⟩
theorem Vals.zero : ∀ {us : List Value}, Vals [] us → us = []
  | _, .nil => rfl
theorem Vals.dropLast {xs : List V} {us : List Value} (h : Vals xs us) : Vals xs.dropLast us.dropLast := by
  induction h with
  | nil => exact .nil
  | cons r t ih =>
    cases t with
    | nil => exact .nil
    | cons q t' => exact .cons r ih
theorem erase_last {α : Type} (l : List α) : l.eraseIdx (l.length - 1) = l.dropLast := by
  induction l with
  | nil => rfl
  | cons a r ih =>
    cases r with
    | nil => rfl
    | cons b r =>
      have e : (a :: b :: r).length - 1 = ((b :: r).length - 1) + 1 := by
        have h1 : (a :: b :: r).length = r.length + 2 := rfl
        have h2 : (b :: r).length = r.length + 1 := rfl
        omega
      rw [e, List.eraseIdx_cons_succ, ih]
      all_goals rfl
section
variable {X : Cx} {pins : List (Addr × Obj)} {σ : St} {H : Hp} {s : Shared} {l b : Addr} {xs ys zs : List V}

theorem Inv.lset {its its' : List Value} {n : Nat} {f : Array Value → Array Value} {t' : Nat} (I : Inv X pins σ H s) (hH : H l = some (.lst xs))
    (e : s.heap.get? l = some { cls := .type "list", data := .seq its.toArray n }) (hf : f its.toArray = its'.toArray) (hv : Vals ys its') (hz : ys.length ≤ sizeLine) :
    Inv X pins σ (upd H l (.lst ys)) { s with heap := s.heap.update l (Obj.mapSeq f), toks := t' } := by
  have q := PySem.IsL.update e f
  rw [hf] at q
  refine I.write (x := l) (e := l) (by rw [hH]; exact trivial) (.inl rfl) (fun b' u hb hu => (Heap.get?_update_other s.heap (Obj.mapSeq f) (Ne.symm hb)).trans hu) ⟨_, q⟩ ?_
  exact ⟨hz, its', _, hv, q⟩
theorem Inv.lnew {its : List Value} {t' : Nat} (I : Inv X pins σ H s) (hv : Vals ys its) (hz : ys.length ≤ sizeLine) :
    Inv X pins σ (upd H s.heap.objs.size (.lst ys)) { s with heap := s.heap.push { cls := .type "list", data := .seq its.toArray }, toks := t' } :=
  I.laid (fun _ _ q => Heap.get?_push_of_some _ q) (Nat.le_refl _) ⟨hz, its, 0, hv, Heap.get?_push_size _ rfl⟩
theorem Inv.fresh (I : Inv X pins σ H s) : H s.heap.objs.size = none := I.hok.fresh (Nat.le_refl _)
theorem Inv.lstM (I : Inv X pins σ H s) (hH : H l = some (.lst xs)) : xs.length ≤ sizeLine ∧ ∃ (its : List Value) (n : Nat), Vals xs its ∧ xs.length = its.length ∧ s.heap.get? l = some { cls := .type "list", data := .seq its.toArray n } := by
  obtain ⟨z, its, n, r, e⟩ := I.hok l _ hH
  exact ⟨z, its, n, r, r.length, e⟩

theorem notLongL {n : Nat} (h : n ≤ sizeLine) : Builtin.List.listTooLong n = false := by
  unfold Builtin.List.listTooLong
  exact decide_eq_false (by omega)
end

section
variable {X : Cx}

noncomputable def rAppend : V → List V → Hp → VK → Prop := fun x vs H Q => ∃ l xs y, x = .ref l ∧ vs = [y] ∧ H l = some (.lst xs) ∧ xs.length < sizeLine ∧ Q .non (upd H l (.lst (xs ++ [y])))
theorem mt_append : MtM X "list.append" rAppend := by
  intro pins s σ H x vs v us Q I rx rv h
  obtain ⟨l, xs, y, rfl, rfl, hH, hz, q⟩ := h
  cases rx
  obtain ⟨u, rfl, ru⟩ := rv.one
  obtain ⟨z, its, n, r, hl, e⟩ := I.lstM hH
  refine call_meets F.slot_list_append ⟨_, e, rfl⟩ F.entry_list_append (F.args_list_append_2 _ _) (PySem.list_append l its.toArray n u (by rw [List.size_toArray]; omega)) ⟨e, ?_⟩
  refine ⟨.non, _, I.lset (its' := its ++ [u]) hH e (by simp) (r.append (.cons ru .nil)) ?_, rfl, q⟩
  rw [List.length_append, List.length_singleton]
  omega

noncomputable def rExtend : V → List V → Hp → VK → Prop := fun x vs H Q => ∃ l b xs zs, x = .ref l ∧ vs = [.ref b] ∧ H l = some (.lst xs) ∧ H b = some (.lst zs) ∧ xs.length + zs.length ≤ sizeLine ∧ Q .non (upd H l (.lst (xs ++ zs)))
theorem mt_extend : MtM X "list.extend" rExtend := by
  intro pins s σ H x vs v us Q I rx rv h
  obtain ⟨l, b, xs, zs, rfl, rfl, hH, hB, hz, q⟩ := h
  cases rx
  obtain ⟨u, rfl, ru⟩ := rv.one
  cases ru
  obtain ⟨z, its, n, r, hl, e⟩ := I.lstM hH
  obtain ⟨z2, its2, n2, r2, hl2, e2⟩ := I.lstM hB
  have hsz : its.toArray.size + its2.toArray.size ≤ sizeLine := by rw [List.size_toArray, List.size_toArray]; omega
  have hlong : ¬ (!its.toArray.isEmpty && Builtin.List.listTooLong (its.toArray.size + its2.toArray.size)) = true := by
    rw [notLongL hsz, Bool.and_false]
    exact Bool.false_ne_true
  refine call_meets F.slot_list_extend ⟨_, e, rfl⟩ F.entry_list_extend (F.args_list_extend_2 _ _)
    (AutoSeq1.list_extend_list_list_0 l its.toArray n b its2.toArray n2 hlong (by rw [List.size_toArray]; omega) (by omega)) ⟨e, e2, ?_⟩
  refine ⟨.non, _, I.lset (its' := its ++ its2) hH e (by simp) (r.append r2) ?_, rfl, q⟩
  rw [List.length_append]
  omega

noncomputable def rPop : V → List V → Hp → VK → Prop := fun x vs H Q => ∃ l xs y, x = .ref l ∧ vs = [] ∧ H l = some (.lst xs) ∧ xs[xs.length - 1]? = some y ∧ Q y (upd H l (.lst xs.dropLast))
theorem mt_pop : MtM X "list.pop" rPop := by
  intro pins s σ H x vs v us Q I rx rv h
  obtain ⟨l, xs, y, rfl, rfl, hH, hy, q⟩ := h
  cases rx
  have hus := rv.zero
  subst hus
  obtain ⟨z, its, n, r, hl, e⟩ := I.lstM hH
  obtain ⟨u, hu, ru⟩ := r.get hy
  have hy' : its.toArray[its.toArray.size - 1]? = some u := by
    show its.toArray[its.length - 1]? = some u
    rw [← Array.getElem?_toList, ← hl]
    exact hu
  refine call_meets F.slot_list_pop ⟨_, e, rfl⟩ F.entry_list_pop (F.args_list_pop_1 _) (MeetsSeq.list_pop_last l its.toArray n u hy' (by rw [List.size_toArray]; omega)) ⟨e, ?_⟩
  refine ⟨y, _, I.lset (its' := its.dropLast) hH e ?_ r.dropLast ?_, ru, q⟩
  · show its.toArray.eraseIdxIfInBounds (its.toArray.size - 1) = its.dropLast.toArray
    rw [List.size_toArray, List.eraseIdxIfInBounds_toArray, erase_last]
  · rw [List.length_dropLast]
    omega

noncomputable def rPopAt : V → List V → Hp → VK → Prop := fun x vs H Q => ∃ l xs i k y, x = .ref l ∧ vs = [.int i] ∧ H l = some (.lst xs) ∧ -(2 ^ 63) ≤ i ∧ i < 2 ^ 63 ∧ seqIndex? i xs.length = some k ∧ xs[k]? = some y ∧ Q y (upd H l (.lst (xs.eraseIdx k)))
noncomputable def rReverse : V → List V → Hp → VK → Prop := fun x vs H Q => ∃ l xs, x = .ref l ∧ vs = [] ∧ H l = some (.lst xs) ∧ Q .non (upd H l (.lst xs.reverse))
noncomputable def rClear : V → List V → Hp → VK → Prop := fun x vs H Q => ∃ l xs, x = .ref l ∧ vs = [] ∧ H l = some (.lst xs) ∧ Q .non (upd H l (.lst []))
noncomputable def rCat : R2 := fun x y H Q => ∃ l b xs zs, x = .ref l ∧ y = .ref b ∧ H l = some (.lst xs) ∧ H b = some (.lst zs) ∧ xs.length + zs.length ≤ sizeLine ∧ ∀ p, H p = none → Q (.ref p) (upd H p (.lst (xs ++ zs)))
theorem op_cat : OpR X (binaryOp .Add) rCat := by
  intro pins s σ H x y v u Q I rx ry h
  obtain ⟨l, b, xs, zs, rfl, rfl, hH, hB, hz, q⟩ := h
  cases rx
  cases ry
  obtain ⟨z, its, n, r, hl, e⟩ := I.lstM hH
  obtain ⟨z2, its2, n2, r2, hl2, e2⟩ := I.lstM hB
  refine PySem.P.add_list e e2 ?_ (by rw [List.size_toArray, List.size_toArray]; omega)
  have ea : its.toArray ++ its2.toArray = (its ++ its2).toArray := by simp
  rw [ea]
  exact ⟨.ref _, _, I.lnew (t' := s.toks) (r.append r2) (by rw [List.length_append]; omega), rfl, q _ I.fresh⟩
noncomputable def rRep : R2 := fun x y H Q => ∃ l k xs, x = .ref l ∧ y = .int k ∧ H l = some (.lst xs) ∧ -(2 ^ 63) ≤ k ∧ k < 2 ^ 63 ∧ xs.length * k.toNat ≤ sizeLine ∧
  ∀ p, H p = none → Q (.ref p) (upd H p (.lst (List.replicate k.toNat xs).flatten))
end

section
variable {prog : Program} {w : World} {A : Around} {E : Value → Shared → Prop} {s : Shared}
set_option maxRecDepth 100000 in
end

section
variable {X : Cx}
end
end L2.Internal

namespace Att.Internal
open PySem PySem.W PySem.Calls PyProof.Rows

theorem ints_of_wellAll {P : Params} {h : Heap} : ∀ (ns : List Int) (vs : List Value), WellAll P h vs (ns.map WData.int) → IntsAre vs ns := by
  intro ns
  induction ns with
  | nil =>
    intro vs w
    rw [List.map_nil] at w
    cases w
    exact .nil
  | cons n ns ih =>
    intro vs w
    rw [List.map_cons] at w
    cases w with
    | cons a b =>
      cases a
      exact .cons _ _ (ih _ b)

theorem script_of {l : OpenLaw} {n : Nat} (hn : l.most = some n) {P : Params} {h : Heap} {args : List WData} {vals : List Value}
    (hpre : l.row.toRowW.claim.pre args = true) (hwl : WellAll P h vals args) :
    ∃ a vs ns, vals = [Value.ref a] ∧ args = [WData.list (ns.map WData.int)] ∧ h.get? a = some { cls := .type "list", data := .seq vs.toArray } ∧ IntsAre vs ns ∧ ns.length ≤ n := by
  have hsh : WShape.hasAll [] args [.list .int] = true := (pre_splitW hpre).1
  have hc : l.pre.holds [] { args := args } = true := (pre_splitW hpre).2
  obtain ⟨d, r, rfl, h1, h2⟩ := hasAllW_cons hsh
  obtain rfl := hasAllW_nil h2
  obtain ⟨xs, rfl, h3⟩ := hasW_list h1
  obtain ⟨ns, rfl⟩ := items_int h3
  have hlen : ns.length ≤ n := by
    unfold OpenLaw.pre at hc
    have h4 : (WTm.not (.lt (.lit (.int (n : Int))) (.len (.arg 0)))).holds [] { args := [.list (ns.map .int)] } = true := by
      have h4 := (holds_andW hc).1
      rw [hn] at h4
      exact h4
    have h5 := condW_of h4 (w_not (w_lt w_lit (w_len_list (w_arg rfl))))
    rw [List.length_map] at h5
    refine Nat.le_of_not_lt fun q => ?_
    have q' : (n : Int) < ((ns.length : Nat) : Int) := by omega
    first
      | (rw [decide_eq_true q'] at h5; exact absurd h5 (by decide))
      | (simp at h5; omega)
  cases hwl with
  | cons w1 w2 =>
    cases w2
    cases w1 with
    | list ho hall => exact ⟨_, _, ns, rfl, rfl, ho, ints_of_wellAll ns _ hall, hlen⟩

theorem post_true (l : OpenLaw) (args : List WData) : l.row.toRowW.claim.post args (.bool true) args = true :=
  postW_of (r := l.row.toRowW) (X := (true == true))
    (show WShape.has [] (.bool true) .bool = true by first | rfl | decide | simp [WShape.has, WShape.arms, WShape.armsAll])
    (show (WTm.eq .res (.lit (.bool true))).value [] { args := args, res := some (.bool true), after := args } = some (.bool (true == true)) from w_eq_bool (w_res rfl) w_lit) rfl

theorem attach_call {l : OpenLaw} {n : Nat} {q : Program} {loose : List Str} {XP : (Str → Option Value) → Heap → Prop} {YP : World → Heap → Prop} {d : DefRec}
    (hn : l.most = some n) (hdf : d.params.defaults = [])
    (call : ∀ (w : World) (s₀ s₁ : Shared) (mg mb : Str → Option Value) (fa : Addr) (o : Obj) (pm cd doc : Value) (a : Addr) (vs : List Value) (ns : List Int),
      Ground q loose [] XP w s₀ mg mb s₁.heap → YP w s₁.heap →
      s₁.heap.get? fa = some o → o.data = .func (docDef d.name d.params d.body d.scope pm cd doc) → s₁.heap.CodeRec cd d.name → mg d.name = some (.ref fa) →
      s₁.heap.get? a = some { cls := .type "list", data := .seq vs.toArray } → IntsAre vs ns → ns.length ≤ n → s₁.gens = #[] →
      codeAny (model l.prog w) callerA (.call (.ref fa) ⟨[.ref a], []⟩) (fun r s' => r = .ok (.ret (.bool true)) ∧ OldK s₁.heap s'.heap ∧ s'.os = s₁.os ∧ AllBare s'.gens) s₁) :
    WalkO q loose XP YP l.row.toRowW d [] (fun f vs => PySem.call f vs) := by
  intro w s₀ s₁ mg mb G Y fa o pm cd doc dV kV ho hd hcd hD hmg hg args vals as hpre hlay hrd hwl hlo
  obtain rfl : dV = .none := Dflts.none hD hdf
  obtain rfl : kV = .none := Dflts.noKw hD
  obtain ⟨a, vs, ns, rfl, rfl, hobj, hints, hlen⟩ := script_of hn hpre hwl
  refine enter_call (codeAny_mono (call w s₀ s₁ mg mb fa o pm cd doc a vs ns G Y ho (fd_plain hd) hcd hmg hobj hints hlen hg) fun r s' hq => ?_)
  obtain ⟨rfl, h2, h3, h4⟩ := hq
  exact ⟨.inl ⟨.bool true, .bool true, [], rfl, fun _ => rfl, .bool true, post_true l _, fun _ => ⟨List.Pairwise.nil, fun _ hm => (nomatch hm)⟩⟩, h2, h3, h4⟩

section
variable {prog : Program} {w : World} {A : Around} {E : Value → Shared → Prop} {s : Shared} {K : Frag}

noncomputable def noObjs (h : Heap) : Heap := { h with objs := #[] }
noncomputable def ledger (h : Heap) (L d : Addr) : List (Addr × Obj) := (List.range h.objs.size).filterMap fun a => if a = L ∨ a = d then none else (h.get? a).map fun o => (a, o)
end
end Att.Internal

namespace L2.Internal
open PySem PySem.Spec PyProof.Rows

theorem vals_ints : ∀ {vs : List Value} {ns : List Int}, IntsAre vs ns → Vals (ns.map V.int) vs
  | _, _, .nil => .nil
  | _, _, .cons n t h => .cons ⟨t, rfl⟩ (vals_ints h)

noncomputable def Only (H : Hp) : Prop := ∀ b, H b = none ∨ ∃ o xs, H b = some (.frz o (.lst xs))

theorem law_call {P : Program} {w : World} {K : PySem.W.Frag} {mg mb : Str → Option Value} {CX : CXT} {k : Nat} {fa a : Addr} {fd : FuncData} {x : Str} {sp : Sp} {s₁ : Shared} {vs : List Value} {ns : List Int}
    (KX : K.In s₁.heap) (hns : s₁.heap.Ns mainGlobals mg) (hb : s₁.heap.Ns builtinsNs mb) (hbb : ∀ x : Str, x ≠ "__name__" → mb x = bootBuiltins x) (hlim : s₁.heap.NoLimit) (hg : s₁.gens = #[])
    (ha : s₁.heap.get? a = some { cls := .type "list", data := .seq vs.toArray }) (hi : IntsAre vs ns) (hl : ns.length ≤ sizeLine) (hr : Room k callerA)
    (F : ∀ base : Heap, K.In base → base.Ns mainGlobals mg → FnOk P w K mg base CX k fa fd [x] sp) (hbind : ∀ (s : Shared) (u : Value), BindsTo s fd ⟨[u], []⟩ [(x, u)])
    (hsp : ∀ H : Hp, Only H → SqL K H a (ns.map V.int) → sp [.ref a] H (fun v _ => v = .bl true) fun _ _ _ => False)
    (hCX : ∀ H e s', CX [] H s₁ (fun _ _ _ => False) e s' → False) :
    codeAny (model P w) callerA (.call (.ref fa) ⟨[.ref a], []⟩) (fun r s' => r = .ok (.ret (.bool true)) ∧ OldK s₁.heap s'.heap ∧ s'.os = s₁.os ∧ AllBare s'.gens) s₁ := by
  have rv := vals_ints hi
  have lenV := hi.length
  -- from an abstract heap in which nothing but the script may be tracked
  have core : ∀ H : Hp, Only H → SqL K H a (ns.map V.int) → HOk P w H s₁.heap → (∀ b, H b ≠ none → b = a) → (H a ≠ none → K.lookup a = none) →
      codeAny (model P w) callerA (.call (.ref fa) ⟨[.ref a], []⟩) (fun r s' => r = .ok (.ret (.bool true)) ∧ OldK s₁.heap s'.heap ∧ s'.os = s₁.os ∧ AllBare s'.gens) s₁ := by
    intro H hO hS hok hA hK
    have base_of : ∀ {b : Addr} {o : Obj}, s₁.heap.get? b = some o → H b = none → (hidT s₁.heap H).get? b = some o := fun e n => hidT_get e n
    have noA : ∀ {b : Addr} {o : Obj} {es : Array DictEntry} {ep : Nat}, s₁.heap.get? b = some o → o.data = .dict es ep → H b = none := fun {b o es ep} e d => by
      cases q : H b with
      | none => rfl
      | some u =>
        have e' : b = a := hA b (by rw [q]; simp)
        subst e'
        rw [ha] at e; cases e
        have d' : Data.seq vs.toArray _ = Data.dict es ep := d
        cases d'
    have nsK : ∀ {b : Addr} {m : Str → Option Value}, s₁.heap.Ns b m → (hidT s₁.heap H).Ns b m := fun {b m} ⟨o, es, ep, e, d, r⟩ => ⟨o, es, ep, base_of e (noA e d), d, r⟩
    have hKb : K.In (hidT s₁.heap H) := fun b o e => base_of (KX b o e) (by
      cases q : H b with
      | none => rfl
      | some u =>
        have e' : b = a := hA b (by rw [q]; simp)
        subst e'
        rw [hK (by rw [q]; simp)] at e; cases e)
    have hM : Mod K mg (hidT s₁.heap H) := ⟨hKb, nsK hns, ⟨mb, nsK hb, hbb⟩, let ⟨mc, h1, h2⟩ := hlim; ⟨mc, nsK h1, h2⟩⟩
    have e0 : Env0 P w K mg (hidT s₁.heap H) callerA [] s₁ H := ⟨rfl, hM, fun b o e => of_hidT e, Nat.le_of_eq (hidT_size _ _), trivial, fun b hb => absurd (show b ∈ ([] : List Addr) from hb) (by simp), hok, .of_eq hg⟩
    refine codeAny_mono ((F _ hKb (nsK hns)).run callerA [] s₁ H ⟨[.ref a], []⟩ [.ref a] [.ref a] _ _ hr e0 (hbind s₁ (.ref a)) (.cons rfl .nil) (hsp H hO hS)) fun r s' h => ?_
    cases r with
    | error e => exact (hCX H e s' h).elim
    | ok fl =>
      cases fl with
      | next => exact False.elim h
      | brk => exact False.elim h
      | cont => exact False.elim h
      | ret u =>
        obtain ⟨v, H', os, bare, un, hok', r', q⟩ := h
        have q' : v = .bl true := q
        subst q'
        obtain rfl : u = Value.bool true := r'
        refine ⟨rfl, OldK.of_keep fun b o e => ?_, os, bare⟩
        cases q : H b with
        | none => exact un.keep b o e q (by intro z; exact absurd (show b ∈ ([] : List Addr) from z) (by simp)) (by simp)
        | some u =>
          rcases hO b with z | ⟨ob, xs, z⟩
          · rw [q] at z; cases z
          · have z2 := un.frzs b ob _ z
            obtain ⟨e1, _⟩ := hok b _ z
            obtain ⟨e2, _⟩ := hok' b _ z2
            rw [e] at e1; cases e1
            exact e2
  cases hk : K.lookup a with
  | some o =>
    -- the script is one of the module's own objects
    have e := KX a o hk
    rw [ha] at e
    cases e
    refine core (fun _ => none) (fun _ => .inl rfl) (.inr ⟨_, vs.toArray, _, hk, rfl, rfl, rfl, by rw [List.size_toArray, lenV]; exact hl, by simpa using rv⟩) (fun b u z => by have z' : (none : Option HO) = some u := z; cases z') (fun b z => absurd rfl z) fun z => absurd rfl z
  | none =>
    refine core (fun b => if b = a then some (.frz { cls := .type "list", data := .seq vs.toArray } (.lst (ns.map V.int))) else none) (fun b => ?_) (.inl (.inr ⟨{ cls := .type "list", data := .seq vs.toArray }, if_pos rfl⟩)) (fun b u z => ?_) (fun b z => ?_) fun _ => hk
    · by_cases hb : b = a
      · exact .inr ⟨_, _, if_pos hb⟩
      · exact .inl (if_neg hb)
    · by_cases hb : b = a
      · have z' := (if_pos hb).symm.trans z
        cases z'
        subst hb
        exact ⟨ha, by rw [List.length_map]; exact hl, vs, _, rv, ha⟩
      · have z' := (if_neg hb).symm.trans z
        cases z'
    · by_cases hb : b = a
      · exact hb
      · exact absurd (if_neg hb) z
end L2.Internal

namespace L2.Internal
open PySem PySem.Spec PyProof.Rows

noncomputable abbrev KOf {K : PySem.W.Frag} {h : Heap} (_ : K.In h) : PySem.W.Frag := K

theorem walk_of {l : PySem.W.OpenLaw} {n k : Nat} {q : Program} {loose : List Str} {XP : (Str → Option Value) → Heap → Prop} {YP : World → Heap → Prop} {d : DefRec} {K : Params → PySem.W.Frag} {CX : World → CXT} {sp : World → Sp} {x : Str}
    (hn : l.most = some n) (hn2 : n ≤ sizeLine) (hdf : d.params.defaults = []) (hr : Room k callerA)
    (hY : ∀ (w : World) (h : Heap), YP w h → (K w.params).In h)
    (F : ∀ (w : World) (mg : Str → Option Value) (fa : Addr) (h : Heap), (K w.params).In h → h.Ns mainGlobals mg → mg d.name = some (.ref fa) →
      ∃ fd : FuncData, (∀ (s : Shared) (u : Value), BindsTo s fd ⟨[u], []⟩ [(x, u)]) ∧
        ∀ base : Heap, (K w.params).In base → base.Ns mainGlobals mg → FnOk l.prog w (K w.params) mg base (CX w) k fa fd [x] (sp w))
    (hsp : ∀ (w : World) (H : Hp) (a : Addr) (ns : List Int), ns.length ≤ n → Only H → SqL (K w.params) H a (ns.map V.int) → sp w [.ref a] H (fun v _ => v = .bl true) fun _ _ _ => False)
    (hCX : ∀ (w : World) (H : Hp) (s : Shared) (e : Value) (s' : Shared), CX w [] H s (fun _ _ _ => False) e s' → False) :
    PySem.W.WalkO q loose XP YP l.row.toRowW d [] (fun f vs => PySem.call f vs) := by
  refine Att.Internal.attach_call hn hdf fun w s₀ s₁ mg mb fa o pm cd doc a vs ns G Y ho hd hcd hmg hobj hints hlen hg => ?_
  have KX := hY w _ Y
  obtain ⟨fd, hb, hF⟩ := F w mg fa _ KX G.T.g hmg
  exact law_call KX G.T.g G.T.b G.T.builtins G.T.nolimit hg hobj hints (Nat.le_trans hlen hn2) hr hF hb (fun H hO hS => hsp w H a ns hlen hO hS) fun H e s' => hCX w H s₁ e s'
end L2.Internal

/- THE LAST THEOREM (shape; LID, My.* are yours):
   My.Adr: a structure of the addresses that your layer names (classes, functions); My.Txt K t: a structure (Prop) of the equations over K;
   My.txt_mk : {K} {implicit addresses ..} (e1 : nsIn K mainGlobals "law" = some (some (.ref f))) (e2 : K.lookup f = some ⟨oc, od, .func (fnOf "law" "law" params body scope dV kV doc pm an cdv ct), sl⟩) (e3 : codeIn K cdv "law" = true) .. : ∃ t, My.Txt K t

set_option maxRecDepth 100000 in
set_option maxHeartbeats 0 in
theorem PySem.Challenge.cw_LID_holds : PySem.Challenge.rw_LID.Holds := by
  w_on; o_law; k_head; (case hw => w_witness2)
  k_fill
  refine L2.Internal.walk_of (l := PySem.Challenge.rw_LID) (n := 63) (k := 40) (x := "script") (CX := fun w => ..) (sp := fun _ => My.sp_law) rfl (by decide) rfl ⟨rfl, by decide, by decide⟩ (fun w h Y => PySem.W.kIn_of Y) ?F ?S ?C
  case F =>
    intro w mg fa h KX G hmg
    have T : ∃ t, My.Txt (L2.Internal.KOf KX) t := by
      dsimp only [L2.Internal.KOf]                          -- K must stand as «<heap const> w.params» for k_is
      refine' My.txt_mk ?e1 ?e2 ?e3 ..
      (case e1 => PySem.W.k_is)                    -- in the order: a name -> its address -> its object -> its parts
      (case e2 => PySem.W.k_is)
      ..
    obtain ⟨t, T⟩ := T
    have e0 := hmg.symm.trans (PySem.W.mg_of KX G T.law)
    cases e0                                       -- fa is the law's own address
    exact ⟨_, fun s u => .of_eq rfl, fun base kb nb => My.law_fn T kb nb⟩     -- if «.of_eq rfl» comes too early: refine' ⟨_, ?b, fun base kb nb => My.law_fn T kb nb⟩; exact fun s u => .of_eq rfl
  case S => exact fun w H a ns hl hO hS => ..
  case C => exact ..
(the tactic k_is has no namespace: write k_is) -/

namespace L2.Internal
open PySem PySem.Spec PyProof.Rows

noncomputable def inClass (s : Stmt) (j : Nat) : Stmt := match s with
  | .ClassDef _ _ _ body _ _ _ _ _ _ _ => body.getD j (.Pass ⟨0, 0, 0, 0⟩)
  | _ => .Pass ⟨0, 0, 0, 0⟩
noncomputable def defArgs (s : Stmt) : Arguments := match s with
  | .FunctionDef _ a _ _ _ _ _ _ _ _ => a
  | _ => { posonlyargs := [], args := [], vararg := none, kwonlyargs := [], kw_defaults := [], kwarg := none, defaults := [] }
noncomputable def defBody (s : Stmt) : List Stmt := match s with
  | .FunctionDef _ _ b _ _ _ _ _ _ _ => b
  | _ => []
noncomputable def defScope (s : Stmt) : Scope := match s with
  | .FunctionDef _ _ _ _ _ _ sc _ _ _ => sc
  | _ => { kind := .function, names := [], isGenerator := false, isCoroutine := false }

noncomputable abbrev CX0 : CXT := fun _ _ _ _ _ _ => False
noncomputable abbrev E0 : XK := fun _ _ _ => False
theorem pass0 {X : Cx} : Passes CX0 X E0 := fun _ _ _ _ _ _ _ h => h.elim

structure Fun (K : PySem.W.Frag) (x qual : Str) (st : Stmt) (f : Addr) (fd : FuncData) : Prop where
  ex : ∃ (oc : Value) (od : Option Addr) (kV doc pm : Value) (an : Option Addr) (cdv ct : Value) (osl : Array (Option Value)),
    fd = PySem.W.fnOf x qual (defArgs st) (defBody st) (defScope st) .none kV doc pm an cdv ct ∧ K.lookup f = some ⟨oc, od, .func fd, osl⟩ ∧ PySem.W.codeIn K cdv qual = true
  kp : PySem.W.keepIn K (.ref f) = true
section
variable {P : Program} {w : World} {K : PySem.W.Frag} {mg : Str → Option Value} {base : Heap}
theorem Fun.ok {x qual : Str} {st : Stmt} {f : Addr} {fd : FuncData} {N ps : List Str} {k : Nat} {sp : Sp} (F : Fun K x qual st f fd) (S : FnScope N ps (defScope st)) (len : ∀ vs H Q E, sp vs H Q E → vs.length = ps.length)
    (hbody : ∀ (cdv : Value) (A : Around) (outer : List Env) (s : Shared) (H : Hp) (vs : List V) (Q : VK) (E : XK), Room k (A.deeper (envOfC qual (defScope st) s.heap.objs.size f cdv)) → sp vs H Q E →
      ∃ t, PSs (cxOf CX0 P w K mg base N qual (defScope st) f cdv A outer s H E).nox (defBody st) t ∧ t { nx := fun _ H' => Q .non H', rt := Q } (start N vs) H) : FnOk P w K mg base CX0 (k + 1) f fd ps sp := by
  obtain ⟨oc, od, kV, doc, pm, an, cdv, ct, osl, rfl, lk, hcd⟩ := F.ex
  refine fn_of lk hcd S len fun A outer s H vs Q E hr hsp => ?_
  obtain ⟨t, h, q⟩ := hbody cdv A outer s H vs Q E hr hsp
  exact ⟨t, h.nox, q⟩
theorem Fun.binds {x qual : Str} {st : Stmt} {f : Addr} {fd : FuncData} {ps : List Str} (F : Fun K x qual st f fd)
    (h : ∀ (kV doc pm : Value) (an : Option Addr) (cdv ct : Value) (us : List Value), us.length = ps.length → bindArgs (PySem.W.fnOf x qual (defArgs st) (defBody st) (defScope st) .none kV doc pm an cdv ct) ⟨us, []⟩ = pure (ps.zip us)) : Binds K fd ps [] := by
  obtain ⟨oc, od, kV, doc, pm, an, cdv, ct, osl, rfl, lk, hcd⟩ := F.ex
  exact .all (h kV doc pm an cdv ct)
theorem fun_mk {x qual : Str} {st : Stmt} {f : Addr} {oc : Value} {od an : Option Addr} {osl : Array (Option Value)} {kV doc pm cdv ct : Value} (l : K.lookup f = some ⟨oc, od, .func (PySem.W.fnOf x qual (defArgs st) (defBody st) (defScope st) .none kV doc pm an cdv ct), osl⟩)
    (c : PySem.W.codeIn K cdv qual = true) (k : PySem.W.keepIn K (.ref f) = true) : Fun K x qual st f (PySem.W.fnOf x qual (defArgs st) (defBody st) (defScope st) .none kV doc pm an cdv ct) := ⟨⟨oc, od, kV, doc, pm, an, cdv, ct, osl, rfl, l, c⟩, k⟩
end
section
variable {X : Cx}
theorem pv (i : Nat) {x : Str} {pos : Pos} (hN : autoParam (X.N[i]? = some x) L2.Internal.auR._auto_1) (hv : Vis X.env.scope x := by first | exact Or.inl rfl | exact Or.inr (Or.inl rfl) | exact Or.inr (Or.inr rfl)) (hd : autoParam ((x == ("__debug__" : Str)) = false) L2.Internal.auD._auto_1)
    (hcd : autoParam ((x == ("__classdict__" : Str)) = false) L2.Internal.auD._auto_1) : PE X (.Name x pos) (tVar i) := pe_var hN hv hd hcd
end

theorem iteF {A B : Prop} (h : B) : if false = true then A else B := by
  rw [if_neg Bool.false_ne_true]
  exact h
theorem iteT {A B : Prop} (h : A) : if true = true then A else B := by
  rw [if_pos rfl]
  exact h
theorem ite2 {c A B : Prop} [Decidable c] (h1 : c → A) (h2 : ¬ c → B) : if c then A else B := by
  by_cases h : c
  · rw [if_pos h]
    exact h1 h
  · rw [if_neg h]
    exact h2 h
noncomputable def Same (H H' : Hp) : Prop := ∀ b o, H b = some o → H' b = some o
theorem Same.refl (H : Hp) : Same H H := fun _ _ h => h
theorem Same.trans {H H1 H2 : Hp} (a : Same H H1) (b : Same H1 H2) : Same H H2 := fun c o h => b c o (a c o h)
theorem Same.free {H H' : Hp} (e : Same H H') {l : Addr} (h : H' l = Option.none) : H l = Option.none := by
  cases q : H l with
  | none => rfl
  | some o =>
    rw [e l o q] at h
    cases h
theorem Same.seq {K : PySem.W.Frag} {H H' : Hp} {a : Addr} {xs : List V} (e : Same H H') (h : SqL K H a xs) : SqL K H' a xs := by
  rcases h with (h | ⟨o, h⟩) | h
  · exact .inl (.inl (e _ _ h))
  · exact .inl (.inr ⟨o, e _ _ h⟩)
  · exact .inr h

section
variable {X : Cx}
end
section
variable {κ : Type} [DecidableEq κ]
end
end L2.Internal
namespace L2.Internal
open PySem PySem.Spec PyProof.Rows

section
variable {X : Cx}
end
theorem bt_len : bootBuiltins "len" = some (.builtin "len") := by decide +kernel
theorem bt_sum : bootBuiltins "sum" = some (.builtin "sum") := by decide +kernel
theorem bt_tuple : bootBuiltins "tuple" = some (.type "tuple") := by decide +kernel
theorem bt_dict : bootBuiltins "dict" = some (.type "dict") := by decide +kernel
noncomputable def strsOf : List Expr → Option (List Str)
  | [] => some []
  | .Constant (.str x) _ _ :: r => (strsOf r).map (x :: ·)
  | _ => none
noncomputable def tStrs (xs : List Str) : TA := fun _ H Q => Q (xs.map V.str) H
noncomputable def Its (x : Str) : It := ⟨fun i _ => i < x.cps.size, fun i H v H' => H' = H ∧ ∃ c, x.cps[i]? = some c ∧ v = .str ⟨#[c]⟩, fun i _ => i = x.cps.size⟩
section
variable {X : Cx} {tg : Expr}
noncomputable def iStr (tl : TE) : TI := fun σ H R => tl σ H fun v H1 => ∃ x, v = .str x ∧ R (Its x) H1
end
noncomputable def blk (X : Cx) (N : List Str) (scope : Scope) (cl : List (Str × Addr)) (C : Addr) (s₀ : Shared) (H₀ : Hp) (ex : List Addr) (pins : List (Addr × Obj)) : Cx :=
  { X with N := N, s₀ := s₀, H₀ := H₀, env := compEnvC scope cl C X.env, outer := X.stack, stack := X.stack, ex := ex, fn := fun _ => false, pn := X.pn ++ pins, xe := fun _ _ => False }
noncomputable def PTs (X : Cx) (cs : List Expr) (t : TT) : Prop :=
  ∀ (pins : List (Addr × Obj)) (s : Shared) (σ : St) (H : Hp) (Q : Bool → Hp → Prop), Inv X pins σ H s → t σ H Q →
    wpAny (model X.prog X.w) X.A (forIn cs true fun c r => if r = true then do let ok ← isTrue c X.env (eval c X.env); pure (ForInStep.yield ok) else pure (ForInStep.yield r)) (TP X pins σ Q) X.xe s
noncomputable def tAlways : TT := fun _ H Q => Q true H
theorem pts_nil {X : Cx} : PTs X [] tAlways := fun pins s σ H Q I h => wpAny_pure ⟨H, I, h⟩
theorem pts_one {X : Cx} {c : Expr} {t : TT} (h : PT X c t) : PTs X [c] t := fun pins s σ H Q I hw => wpAny_tests_one (h pins s σ H Q I hw)

structure BlkOk (X : Cx) (N : List Str) (scope : Scope) (cl : List (Str × Addr)) (f : St → St) (i : Nat) (x : Str) : Prop where
  kind : scope.kind = .function
  cell : ∀ y ∈ scope.names, y.2 ≠ .cell
  names : ∀ y ∈ scope.names, y.2 = .local → scope.names.lookup y.1 = some .local
  clos : closureFor scope X.env = pure cl
  lk : ∀ y c, cl.lookup y = some c → X.env.cells.lookup y = some c
  has : ∀ y, ((relabel scope X.env).names.lookup y = some .cell ∨ (relabel scope X.env).names.lookup y = some .free) → ∃ c, cl.lookup y = some c
  nd : N.Nodup
  ix : N[i]? = some x
  loc : scope.names.lookup x = some .local
  len : ∀ σ, σ.length = X.N.length → (f σ).length = N.length
  val : ∀ (σ : St) (k : Nat) (y : Str) (v : V), N[k]? = some y → (f σ)[k]? = some (some v) → ∃ j : Nat, X.N[j]? = some y ∧ σ[j]? = some (some v) ∧ X.env.scope.names.lookup y = some .cell ∧ (relabel scope X.env).names.lookup y = some .cell

theorem inv_blk {X : Cx} {N : List Str} {scope : Scope} {cl : List (Str × Addr)} {f : St → St} {i : Nat} {x : Str} (B : BlkOk X N scope cl f i x) {pins : List (Addr × Obj)} {σ : St} {H : Hp} {s : Shared} {h₁ : Heap} {tk : Nat} {m : Str → Option Value} {ex : List Addr}
    (I : Inv X pins σ H s) (hex : ∀ b ∈ ex, FpOk X pins H b ∧ b < s.heap.objs.size) (keep : ∀ b o, s.heap.get? b = some o → h₁.get? b = some o) (hn : h₁.Ns s.heap.objs.size m) :
    Inv (blk X N scope cl s.heap.objs.size s H ex pins) [] (f σ) H { s with heap := h₁, toks := tk } := by
  have nst : ∀ b, b ≠ X.env.locals → b ∉ X.fs → b ∉ frs X.stack := fun b h1 h2 hb => (List.mem_cons.mp (I.stkSub b hb)).elim h1 h2
  have ltC : ∀ y c, X.env.cells.lookup y = some c → c < s.heap.objs.size := fun y c e => by
    obtain ⟨v, o, ho, _⟩ := I.cell y c e
    exact Heap.lt_size ho
  refine ⟨⟨I.ok.mod, B.kind, I.ok.glob, I.ok.blt, Nat.le_refl _, fun y z c h1 h2 => I.ok.inj y z c (B.lk y c h1) (B.lk z c h2), fun y hy => B.has y hy, fun y c h => (nomatch h), I.ok.hd, I.ok.frames, .inl rfl, fun b hb => ?_, I.bs, Nat.le_trans I.ok.bsz I.sz, fun b o e hb => ?_, fun b hb => ?_, I.stack, I.stkFree⟩,
    rfl, I.bare, Un.kept keep, ⟨m, hn, fun k y v e1 e2 e3 => ?_⟩, fun y c e => ?_, I.hok.fresh (Nat.le_refl _), fun y c e => I.freeC y c (B.lk y c e), fun p hp => ?_, I.hok.kept keep, B.len σ I.len⟩
  · obtain ⟨⟨_, _, _, _, hc, _⟩, lt⟩ := hex b hb
    exact ⟨Nat.ne_of_lt lt, fun y c e => hc y c (B.lk y c e)⟩
  · obtain ⟨⟨_, _, _, h4, _, _⟩, _⟩ := hex b hb
    rcases h4 with z | z
    · exact I.ok.noex b o e z
    · exact absurd (Nat.lt_of_lt_of_le (Heap.lt_size (I.ok.bs b o e).1) z) (Nat.lt_irrefl _)
  · obtain ⟨⟨_, h2, h3, _, _, _⟩, _⟩ := hex b hb
    exact nst b h2 h3
  · obtain ⟨j, h1, h2, h3, h4⟩ := B.val σ k y v e1 e2
    obtain ⟨m', _, hl⟩ := I.loc
    obtain ⟨u, r, l⟩ := hl j y v h1 h2 (.inr (.inl h3))
    refine ⟨u, r, ?_⟩
    rcases l with ⟨hk, _⟩ | ⟨_, c, hc, z⟩
    · have hk' : X.env.scope.names.lookup y = some .local := hk
      rw [h3] at hk'
      cases hk'
    · obtain ⟨c', hc'⟩ := B.has y (.inl h4)
      have e : c' = c := Option.some.inj ((B.lk y c' hc').symm.trans hc)
      subst e
      obtain ⟨o, ho, hd⟩ := z
      exact .inr ⟨.inl h4, c', hc', o, keep _ o ho, hd⟩
  · obtain ⟨v, o, ho, hd⟩ := I.cell y c (B.lk y c e)
    exact ⟨v, o, keep _ o ho, hd⟩
  · rw [List.append_nil] at hp
    obtain ⟨e, n, ne, nf, d⟩ := I.pin p hp
    exact ⟨keep _ _ e, n, Nat.ne_of_lt (Heap.lt_size e), nst _ ne nf, d⟩

theorem lookup_relabel {env : Env} : ∀ {names : List (Str × NameKind)} {x : Str} {k : NameKind},
    (names.map fun (n, k) => if (k == NameKind.free && env.scope.kind == .function && env.kindOf n == some .cell) then (n, NameKind.cell) else (n, k)).lookup x = some k →
    ∃ k0, names.lookup x = some k0 ∧ (k = k0 ∨ (k0 = .free ∧ k = .cell))
  | [], _, _, h => by simp at h
  | (n, k0) :: r, x, k, h => by
    have ih := @lookup_relabel env r x k
    have h : List.lookup x ((if (k0 == NameKind.free && env.scope.kind == .function && env.kindOf n == some .cell) = true then (n, NameKind.cell) else (n, k0)) :: (r.map fun (n, k) => if (k == NameKind.free && env.scope.kind == .function && env.kindOf n == some .cell) then (n, NameKind.cell) else (n, k))) = some k := h
    cases hx : x == n with
    | true =>
      by_cases hc : (k0 == NameKind.free && env.scope.kind == .function && env.kindOf n == some .cell) = true
      · rw [if_pos hc] at h
        simp only [List.lookup_cons, hx] at h ⊢
        have hf : k0 = .free := by
          have hc' := hc
          simp only [Bool.and_eq_true] at hc'
          exact eq_of_beq hc'.1.1
        exact ⟨k0, rfl, .inr ⟨hf, (Option.some.inj h).symm⟩⟩
      · rw [if_neg hc] at h
        simp only [List.lookup_cons, hx] at h ⊢
        exact ⟨k0, rfl, .inl (Option.some.inj h).symm⟩
    | false =>
      have h2 : (r.map fun (n, k) => if (k == NameKind.free && env.scope.kind == .function && env.kindOf n == some .cell) then (n, NameKind.cell) else (n, k)).lookup x = some k := by
        by_cases hc : (k0 == NameKind.free && env.scope.kind == .function && env.kindOf n == some .cell) = true
        · rw [if_pos hc] at h; simp only [List.lookup_cons, hx] at h; exact h
        · rw [if_neg hc] at h; simp only [List.lookup_cons, hx] at h; exact h
      obtain ⟨k1, e1, e2⟩ := ih h2
      exact ⟨k1, by simp only [List.lookup_cons, hx]; exact e1, e2⟩
theorem lookup_relabel_free {env : Env} (hk : env.scope.kind = .function) : ∀ {names : List (Str × NameKind)} {x : Str}, env.scope.names.lookup x = some .cell → names.lookup x = some .free →
    (names.map fun (n, k) => if (k == NameKind.free && env.scope.kind == .function && env.kindOf n == some .cell) then (n, NameKind.cell) else (n, k)).lookup x = some .cell
  | [], _, _, h => by simp at h
  | (n, k0) :: r, x, hc, h => by
    have ih := @lookup_relabel_free env hk r x hc
    show List.lookup x ((if (k0 == NameKind.free && env.scope.kind == .function && env.kindOf n == some .cell) = true then (n, NameKind.cell) else (n, k0)) :: _) = _
    cases hx : x == n with
    | true =>
      simp only [List.lookup_cons, hx] at h
      cases h
      have e : x = n := eq_of_beq hx
      have hc' : env.kindOf n = some .cell := by rw [← e]; exact hc
      simp [List.lookup_cons, hx, hk, hc']
    | false =>
      simp only [List.lookup_cons, hx] at h
      by_cases hq : (k0 == NameKind.free && env.scope.kind == .function && env.kindOf n == some .cell) = true
      · rw [if_pos hq]; simp only [List.lookup_cons, hx]; exact ih h
      · rw [if_neg hq]; simp only [List.lookup_cons, hx]; exact ih h
theorem blk0 {X : Cx} {scope : Scope} {x : Str} (hk : scope.kind = .function) (hn : ∀ p ∈ scope.names, p.2 ≠ .cell ∧ p.2 ≠ .free) (hl : ∀ y ∈ scope.names, y.2 = .local → scope.names.lookup y.1 = some .local)
    (hx : scope.names.lookup x = some .local) (hc : closureFor scope X.env = pure []) : BlkOk X [x] scope [] (fun _ => [none]) 0 x where
  kind := hk
  cell := fun y hy => (hn y hy).1
  names := hl
  clos := hc
  lk := fun y c h => by simp at h
  has := fun y h => by
    rcases h with h | h
    · obtain ⟨k0, e, z⟩ := lookup_relabel h
      have m := hn _ (PySem.mem_of_lookup e)
      rcases z with z | ⟨z, _⟩
      · exact absurd z.symm m.1
      · exact absurd z m.2
    · obtain ⟨k0, e, z⟩ := lookup_relabel h
      have m := hn _ (PySem.mem_of_lookup e)
      rcases z with z | ⟨z, _⟩
      · exact absurd z.symm m.2
      · exact absurd z m.2
  nd := by simp
  ix := rfl
  loc := hx
  len := fun _ _ => rfl
  val := fun σ k y v h1 h2 => by
    cases k with
    | zero => simp at h2
    | succ k => simp at h2
noncomputable def LcP (J : It) (i : Nat) (tt : TT) (te : TE) (Q : VK) (τ : St) (H1 : Hp) (D : Addr) : Prop :=
  ∃ W : Nat → Nat → St → Hp → Prop, (∃ m, W 0 m τ (upd H1 D (.lst []))) ∧ ∀ k m σ' H2, W k m σ' H2 →
    (J.stop k H2 ∧ Q (.ref D) H2) ∨ (J.go k H2 ∧ ∀ v H3, J.yld k H2 v H3 → tt (σ'.set i (some v)) H3 fun ok H4 => if ok = true
      then te (σ'.set i (some v)) H4 fun y H5 => ∃ xs, H5 D = some (.lst xs) ∧ xs.length < sizeLine ∧ ∃ m', m' < m ∧ W (k + 1) m' (σ'.set i (some v)) (upd H5 D (.lst (xs ++ [y])))
      else ∃ m', m' < m ∧ W (k + 1) m' (σ'.set i (some v)) H4)
noncomputable def tLC (wi : TI) (f : St → St) (i : Nat) (tt : TT) (te : TE) : TE := fun σ H Q => wi σ H fun J H1 => ∀ D, H1 D = none → LcP J i tt te Q (f σ) H1 D

theorem pe_lc {X : Cx} {elt iter : Expr} {x : Str} {px : Pos} {ifs : List Expr} {scope : Scope} {pos : Pos} {N : List Str} {cl : List (Str × Addr)} {f : St → St} {i : Nat} {wi : TI} {tt : TT} {te : TE}
    (hc : X.calm = true) (B : BlkOk X N scope cl f i x) (hi : PI X (.Name x px) iter wi)
    (htt : ∀ C s₀ H₀ ex pins, PTs (blk X N scope cl C s₀ H₀ ex pins) ifs tt) (hte : ∀ C s₀ H₀ ex pins, PE (blk X N scope cl C s₀ H₀ ex pins) elt te)
    (hs : autoParam (∀ x, foldedSetIterable iter X.env x = pure x) L2.Internal.auI._auto_1) : PE X (.ListComp elt [⟨.Name x px, iter, ifs, 0⟩] scope pos) (tLC wi f i tt te) := by
  intro pins s σ H Q I h
  rw [eval_ListComp]
  refine wpAny_comprehension_free (use := none) rfl hs B.clos B.kind B.names (thn (hi pins s σ H _ I h) fun xv s1 h1 => thn h1 fun itv s2 h2 => ?_)
  obtain ⟨it, fp, tn, J, H2, rfl, I2, T, st2, f2, q⟩ := h2
  have hD : H2 s2.heap.objs.size = none := I2.fresh
  obtain ⟨W, ⟨m0, w0⟩, turn⟩ := q _ hD
  refine wpAny_newObj_type (wpAny_newFunctionEnv B.cell (by intro y hy; simp at hy) (fun h₁ hns₁ hsb₁ => ?_) B.kind)
  have I3 : Inv X pins σ (upd H2 s2.heap.objs.size (.lst [])) { s2 with heap := s2.heap.push { cls := .type "list", data := .seq ([] : List Value).toArray } } := I2.lnew (its := []) (ys := []) (t' := s2.toks) .nil (Nat.zero_le _)
  have lt2 : ∀ b ∈ fp, b < s2.heap.objs.size := fun b hb => by
    obtain ⟨o, ho, _⟩ := T.obj _ _ st2 b hb
    exact Heap.lt_size ho
  have fp3 : ∀ b ∈ fp, FpOk X pins (upd H2 s2.heap.objs.size (.lst [])) b := fun b hb => by
    refine ⟨?_, (f2 b hb).2⟩
    rw [upd_ne (Nat.ne_of_lt (lt2 b hb))]
    exact (f2 b hb).1
  generalize hs3 : ({ s2 with heap := s2.heap.push { cls := .type "list", data := .seq ([] : List Value).toArray } } : Shared) = s3 at I3 hns₁ hsb₁ ⊢
  have eh : s2.heap.push { cls := .type "list", data := .seq ([] : List Value).toArray } = s3.heap := by rw [← hs3]
  have lt3 : ∀ b ∈ fp, b < s3.heap.objs.size := fun b hb => by
    rw [← eh, Heap.size_push]
    exact Nat.lt_succ_of_lt (lt2 b hb)
  have old : ∀ b o, s3.heap.get? b = some o → h₁.get? b = some o := fun b o e => hsb₁.extBut b o (Nat.ne_of_lt (Heap.lt_size e)) (Heap.get?_push_of_some _ e)
  have I4 := inv_blk (tk := s3.toks + ([] : List (Str × Value)).length) B I3 (ex := fp) (fun b hb => ⟨fp3 b hb, lt3 b hb⟩) old hns₁
  have st4 : tn 0 h₁ := T.keep _ _ _ st2 fun b _ o e => old b o (by rw [← eh]; exact Heap.get?_push_of_some _ e)
  -- the iterators in the block
  have fpB : ∀ {H' : Hp}, (∀ b ∈ fp, H' b = none) → ∀ b ∈ fp, FpOk (blk X N scope cl s3.heap.objs.size s3 (upd H2 s2.heap.objs.size (.lst [])) fp pins) [] H' b := fun {H'} hn b hb => by
    obtain ⟨_, g2, g3, g4, g5, g6⟩ := f2 b hb
    refine ⟨hn b hb, Nat.ne_of_lt (lt3 b hb), fun z => (List.mem_cons.mp (I3.stkSub b z)).elim g2 g3, .inl hb, fun y c e => g5 y c (B.lk y c e), fun p hp => ?_⟩
    rw [List.append_nil] at hp
    exact g6 p hp
  have loop : ∀ s4 : Shared, s4 = { s3 with heap := h₁, toks := s3.toks + ([] : List (Str × Value)).length } →
      codeAny (model X.prog X.w) X.A (.compLoop (.ListComp elt [⟨.Name x px, iter, ifs, 0⟩] scope pos) 0 (.ref it) (.ref s2.heap.objs.size) (compEnvC scope cl s3.heap.objs.size X.env))
        (compPost (model X.prog X.w) X.A X.xe none (EP X pins σ Q) (.ref s2.heap.objs.size) s3.heap.objs.size) s4 := by
    rintro s4 rfl
    refine codeAny_compLoop_tests (I := fun n s' => ∃ k σ' H', Inv (blk X N scope cl s3.heap.objs.size s3 (upd H2 s2.heap.objs.size (.lst [])) fp pins) [] σ' H' s' ∧ tn k s'.heap ∧ (∀ b ∈ fp, H' b = none) ∧ W k n σ' H') ?_ m0
      ⟨0, f σ, _, I4, st4, fun b hb => (fp3 b hb).1, w0⟩
    rintro n s5 ⟨k, σ5, H5, I5, st5, fr5, w5⟩
    rcases turn k n σ5 H5 w5 with ⟨stop, qn⟩ | ⟨go, step⟩
    · refine wpAny_mono (T.done (blk X N scope cl s3.heap.objs.size s3 (upd H2 s2.heap.objs.size (.lst [])) fp pins) rfl rfl rfl hc k [] s5 σ5 H5 _ I5 (fpB fr5) st5 stop) (fun r s6 h6 => ?_) fun _ _ z => z
      obtain ⟨hr, I6⟩ := h6
      subst hr
      obtain ⟨m6, hn6, _⟩ := id I6.loc
      refine ⟨m6, hn6, fun h' sb => ?_⟩
      have nC : ∀ b o, s3.heap.get? b = some o → b ≠ s3.heap.objs.size := fun b o e => Nat.ne_of_lt (Heap.lt_size e)
      have u6 : Un (frs X.stack) fp (upd H2 s2.heap.objs.size (.lst [])) H5 s3.heap s6.heap := I6.base
      have u7 : Un (frs X.stack) fp (upd H2 s2.heap.objs.size (.lst [])) H5 s3.heap h' :=
        ⟨fun b o e z1 z2 z3 => (sb.2 b (nC b o e)).trans (u6.keep b o e z1 z2 z3), fun b o e z1 z2 z3 => by
          obtain ⟨sl, e1⟩ := u6.slot b o e z1 z2 z3
          exact ⟨sl, (sb.2 b (nC b o e)).trans e1⟩, u6.free, fun b o e z => by
          obtain ⟨o', e1⟩ := u6.there b o e z
          exact ⟨o', (sb.2 b (nC b o e)).trans e1⟩, u6.tups, u6.frzs, u6.tbls⟩
      have hok7 : HOk X.prog X.w H5 h' := fun b o e => (I6.hok b o e).stay (fun c w' hcc e1 => (sb.2 c (fun z => by
          have fr : H5 s3.heap.objs.size = none := I6.free
          rcases hcc with y | y
          · rw [← y, z, fr] at e; cases e
          · rw [z, fr] at y; cases y)).trans e1) (fun _ z => z) fun _ _ z => z
      have I7 : Inv X pins σ H5 { s6 with heap := h' } := I3.call' (s' := { s6 with heap := h' }) (ch := fp) I6.os u7 hok7 I6.bare fun b hb => by
        obtain ⟨_, g2, g3, g4, g5, g6⟩ := f2 b hb
        exact ⟨g4, g2, g5, g6⟩
      exact ⟨.ref s2.heap.objs.size, H5, I7, rfl, qn⟩
    · refine wpAny_mono (T.item (blk X N scope cl s3.heap.objs.size s3 (upd H2 s2.heap.objs.size (.lst [])) fp pins) rfl rfl rfl hc k [] s5 σ5 H5 _ I5 (fpB fr5) st5 go) (fun r s6 h6 => ?_) fun _ _ z => z
      obtain ⟨u, hr, h6⟩ := h6
      subst hr
      show wpAny _ _ (pure () >>= fun _ => assign (.Name x px) (compEnvC scope cl s3.heap.objs.size X.env) u) _ _ s6
      refine wpAny_bind (wpAny_mono (show wpAny _ _ (pure ()) _ _ s6 from h6) (fun _ s7 h7 => ?_) fun _ _ z => z)
      obtain ⟨v, H7, I7, r7, y7, st7, fr7⟩ := h7
      have I7' := I7.pinned (fpB fr7) (T.obj _ _ st7)
      refine wpAny_assign_Name (store_ok (X := blk X N scope cl s3.heap.objs.size s3 (upd H2 s2.heap.objs.size (.lst [])) fp pins) I7' B.nd B.ix (.inl (lookup_relabel_local B.loc)) r7 (fun s8 I8 => ?_) (.inr (lookup_relabel_local B.loc)))
      have back : ∀ {σ9 : St} {H9 : Hp} {s9 : Shared}, Inv (blk X N scope cl s3.heap.objs.size s3 (upd H2 s2.heap.objs.size (.lst [])) fp pins) ([] ++ pinsAt fp s7.heap) σ9 H9 s9 → (∃ m', m' < n ∧ W (k + 1) m' σ9 H9) →
          ∃ m', m' < n ∧ ∃ k σ' H', Inv (blk X N scope cl s3.heap.objs.size s3 (upd H2 s2.heap.objs.size (.lst [])) fp pins) [] σ' H' s9 ∧ tn k s9.heap ∧ (∀ b ∈ fp, H' b = none) ∧ W k m' σ' H' := fun {σ9 H9 s9} I9 q9 => by
        obtain ⟨m', hm, w9⟩ := q9
        refine ⟨m', hm, k + 1, σ9, H9, I9.unpinned, T.keep _ _ _ st7 fun b hb o e => (I9.pin (b, o) (List.mem_append_right _ (List.mem_append_right _ (mem_pinsAt hb e)))).1, fun b hb => ?_, w9⟩
        obtain ⟨o, e, d⟩ := T.obj _ _ st7 b hb
        exact (I9.pin (b, o) (List.mem_append_right _ (List.mem_append_right _ (mem_pinsAt hb e)))).2.1
      refine wpAny_mono (htt _ _ _ _ _ _ s8 _ H7 _ I8 (step v H7 y7)) (fun ok s9 h9 => ?_) fun _ _ z => False.elim z
      obtain ⟨H9, I9, q9⟩ := h9
      cases ok with
      | false =>
        rw [if_neg Bool.false_ne_true]
        rw [if_neg Bool.false_ne_true] at q9
        exact back I9 q9
      | true =>
        rw [if_pos rfl]
        rw [if_pos rfl] at q9
        refine wpAny_mono (hte _ _ _ _ _ _ s9 _ H9 _ I9 q9) (fun y s10 h10 => ?_) fun _ _ z => False.elim z
        obtain ⟨v10, H10, I10, r10, xs, hx10, hz, q10⟩ := h10
        refine wpAny_mono (mt_append (X := blk X N scope cl s3.heap.objs.size s3 (upd H2 s2.heap.objs.size (.lst [])) fp pins) _ s10 _ H10 (.ref s2.heap.objs.size) [v10] _ [y] (fun _ H11 => H11 = upd H10 s2.heap.objs.size (.lst (xs ++ [v10]))) I10 rfl (.cons r10 .nil) ⟨_, xs, v10, rfl, rfl, hx10, hz, rfl⟩) (fun _ s11 h11 => ?_) fun _ _ z => False.elim z
        obtain ⟨_, H11, I11, _, e11⟩ := h11
        subst e11
        exact back I11 q10
  exact codeAny_compStart_list (loop _ rfl) (T.self _ 0 _ _ _ st4 (loop _ rfl))

section
variable {X : Cx}
noncomputable def rSlS : V → Option Int → Option Int → Hp → VK → Prop := fun x lo hi H Q => ∃ z, x = .str z ∧ z.length ≤ sizeLine ∧ Q (.str (Txt.slice z lo hi)) H
theorem sl_str : SlR X rSlS := by
  intro pins s σ H x v vl vu lo hi sl Q I rx hs pl pu h
  obtain ⟨z, rfl, hz, q⟩ := h
  obtain ⟨t, rfl⟩ := rx
  refine ⟨"str", _, F.slot_str_getitem.lookup, typeIs_str _ _ _, ?_⟩
  have fin : ∀ t' k, EP X pins σ Q (.str (Txt.slice z lo hi) t') { s with toks := k } := fun t' k => ⟨.str _, H, I.tok k, ⟨t', rfl⟩, q⟩
  cases pl with
  | none =>
    cases pu with
    | none => exact wpAny_getItem_str_slice (l := none) (u := none) (st := none) hs rfl (post_val_or_str ⟨Nat.le_trans (Txt.slice_le z _ _) hz, fun t' k => fin t' k⟩)
    | int j u => exact wpAny_getItem_str_slice (l := none) (u := some (j, u)) (st := none) hs rfl (post_val_or_str ⟨Nat.le_trans (Txt.slice_le z _ _) hz, fun t' k => fin t' k⟩)
  | int i u' =>
    cases pu with
    | none => exact wpAny_getItem_str_slice (l := some (i, u')) (u := none) (st := none) hs rfl (post_val_or_str ⟨Nat.le_trans (Txt.slice_le z _ _) hz, fun t' k => fin t' k⟩)
    | int j u => exact wpAny_getItem_str_slice (l := some (i, u')) (u := some (j, u)) (st := none) hs rfl (post_val_or_str ⟨Nat.le_trans (Txt.slice_le z _ _) hz, fun t' k => fin t' k⟩)

end
end L2.Internal
namespace L2.Internal
open PySem PySem.Spec PyProof.Rows
section
variable {X : Cx}
noncomputable def eqVs : List V → List V → Bool
  | [], [] => true
  | x :: xs, y :: ys => eqV x y && eqVs xs ys
  | _, _ => false
noncomputable def rEqL (K : PySem.W.Frag) (neg : Bool) : R2 := fun x y H Q => ∃ a b xs ys, x = .ref a ∧ y = .ref b ∧ SqL K H a xs ∧ SqL K H b ys ∧ xs.all flatV = true ∧ ys.all flatV = true ∧ Q (.bl (if neg then !eqVs xs ys else eqVs xs ys)) H
open Builtin Builtin.Str in
noncomputable def rSplit : V → List V → Hp → VK → Prop := fun x xs H Q => ∃ z y, x = .str z ∧ xs = [.str y] ∧ (y.length == 0) = false ∧ z.length + 2 ≤ sizeLine ∧ ∀ l, H l = none → Q (.ref l) (upd H l (.lst ((Txt.split z y).map V.str)))
noncomputable def PE1 (X : Cx) (e : Expr) (t : TE) : Prop :=
  ∀ (pins : List (Addr × Obj)) (s : Shared) (σ : St) (H : Hp) (Q : VK), Inv X pins σ H s → 1 ≤ s.toks → t σ H Q → wpAny (model X.prog X.w) X.A (eval e X.env) (fun u s' => 1 ≤ s'.toks ∧ EP X pins σ Q u s') X.xe s
theorem PE.one {e : Expr} {t : TE} (h : PE X e t) : PE1 X e t := fun pins s σ H Q I ht hw => wpAny_mono (wpAny_toks_of ht (h pins s σ H Q I hw)) (fun _ _ z => z) fun _ _ z => z.2
noncomputable def tRepl (to : TE) (y z : Str) : TE := fun σ H Q => to σ H fun v H1 => ∃ x, v = .str x ∧ x.length + (x.length + 1) * z.length ≤ 16777216 ∧ Q (.str (Txt.replace x y z)) H1
noncomputable def PSs1 (X : Cx) (st : List Stmt) (t : TS) : Prop :=
  ∀ (pins : List (Addr × Obj)) (s : Shared) (σ : St) (H : Hp) (D : Ends), Inv X pins σ H s → 1 ≤ s.toks → t D σ H → wpAny (model X.prog X.w) X.A (execs st X.env) (SP X pins D) X.xe s
end
end L2.Internal
namespace L2.Internal
open PySem PySem.Spec PyProof.Rows
section
variable {X : Cx} {st : Stmt} {rest : List Stmt} {t u : TS}
noncomputable def tMid (N : St → Hp → Prop) (t u : TS) : TS := fun D σ H => t { D with nx := N } σ H ∧ ∀ σ' H', N σ' H' → u D σ' H'
end
end L2.Internal
namespace L2.Internal
open PySem PySem.Spec PyProof.Rows
section
variable {P : Program} {w : World} {H H' : Hp} {h h' : Heap} {a : Addr} {o : HO}
end

structure Fl (P : Program) (w : World) (outer : List Env) (H : Hp) (s : Shared) (B : Heap) (H' : Hp) (s' : Shared) : Prop where
  os : s'.os = s.os
  bare : AllBare s'.gens
  un : Un (frs outer) [] H H' s.heap s'.heap
  hok : HOk P w H' s'.heap
  stay : B.StaysIn s'.heap
  trk : ∀ b u, H' b = some u → ∃ o, B.get? b = some o
  old : ∀ b o, s.heap.get? b = some o → b ∉ frs outer → ∃ o', B.get? b = some o'
noncomputable def CXE (P : Program) (w : World) : CXT := fun outer H s E e s' => ∃ (ea : Addr) (cls a0 : Value) (B : Heap) (H' : Hp), e = .ref ea ∧ Fl P w outer H s B H' s' ∧ Heap.FlyingW B outer ea cls a0 s'.heap ∧ E cls none H'

section
variable {X : Cx} {pins : List (Addr × Obj)} {σ : St} {H H' : Hp} {s s' : Shared} {B h : Heap}
theorem Inv.track {ea : Addr} {o : HO} (I : Inv X pins σ H s) (hn : H ea = none) (h0 : X.s₀.heap.get? ea = none) (hL : ea ≠ X.env.locals) (hC : ∀ x c, X.env.cells.lookup x = some c → c ≠ ea) (hP : ∀ p ∈ X.pn ++ pins, p.1 ≠ ea)
    (new : ObjOk X.prog X.w (upd H ea o) s.heap ea o) : Inv X pins σ (upd H ea o) s := by
  have ne : ∀ b u, H b = some u → b ≠ ea := fun b u e z => by rw [z, hn] at e; cases e
  refine ⟨I.ok, I.os, I.bare, ⟨I.base.keep, I.base.slot, fun b ob e n hx => ?_, I.base.there, fun b xs e => ?_, fun b ob u e => ?_, fun b ps e => ?_⟩, I.loc, I.cell, ?_, fun x c e => ?_, fun p hp => ?_, fun b u e => ?_, I.len⟩
  · rw [upd_ne (fun z => by rw [z, h0] at e; cases e)]
    exact I.base.free b ob e n hx
  · have e1 := I.base.tups b xs e
    rw [upd_ne (ne b _ e1)]
    exact e1
  · have e1 := I.base.frzs b ob u e
    rw [upd_ne (ne b _ e1)]
    exact e1
  · obtain ⟨more, e1⟩ := I.base.tbls b ps e
    exact ⟨more, by rw [upd_ne (ne b _ e1)]; exact e1⟩
  · rw [upd_ne (Ne.symm hL)]
    exact I.free
  · rw [upd_ne (hC x c e)]
    exact I.freeC x c e
  · obtain ⟨e, n, n2, nf, d⟩ := I.pin p hp
    exact ⟨e, by rw [upd_ne (hP p hp)]; exact n, n2, nf, d⟩
  · by_cases hb : b = ea
    · subst hb
      rw [upd_same] at e
      cases e
      exact new
    · rw [upd_ne hb] at e
      exact (I.hok b u e).stay (fun _ _ _ q => q) (fun c z => by rw [upd_ne (ne c _ z)]; exact z) fun c xs z => by rw [upd_ne (ne c _ z)]; exact z
end

section
variable {P : Program} {w : World} {K : PySem.W.Frag} {mg : Str → Option Value} {base : Heap} {N : List Str} {qual : Str} {scope : Scope} {f : Addr} {cd : Value} {A : Around} {outer : List Env} {s₀ : Shared} {H₀ : Hp} {E : XK}
end

noncomputable def VEbm : List Value := [.type "ValueError", .type "Exception", .type "BaseException", .type "object"]
noncomputable abbrev ExcV (K : PySem.W.Frag) (C : Addr) : Prop := PySem.W.excIn K C VEbm "ValueError.__new__" = true
section
variable {X : Cx} {C : Addr} {E : XK} {x : Str} {np cpos pos : Pos} {e : Expr} {es : List Expr} {t : TA}
noncomputable def Leaves (X : Cx) (E : XK) : Prop := ∀ (pins : List (Addr × Obj)) (σ : St) (H : Hp) (s : Shared) (h' : Heap) (ea : Addr) (cls : Value) (vs : List Value), Inv X pins σ H s → Heap.MadeExcOf s.heap h' ea cls vs → E cls none H → X.xe (.ref ea) { s with heap := h' }
noncomputable def tRaise (C : Addr) (E : XK) (t : TA) : TS := fun _ σ H => t σ H fun vs H1 => vs.length ≤ sizeLine ∧ E (.ref C) none H1
end

section
variable {P : Program} {w : World} {K : PySem.W.Frag} {mg : Str → Option Value} {base : Heap}
end

noncomputable def excO (ea : Addr) (cls : Value) : HO := .ext fun h => ∃ o, h.get? ea = some o ∧ o.cls = cls
noncomputable abbrev Cx.hand (X : Cx) (ea : Addr) : Cx := { X with A := X.A.mark (some (.ref ea)), calm := false, xe := fun _ _ => False }
section
variable {X : Cx} {pins : List (Addr × Obj)} {σ : St} {H : Hp} {s : Shared}
end
section
variable {X : Cx} {CX : CXT} {k : Nat} {f Y : Addr} {fd : FuncData} {ps : List Str} {sp : Sp} {dvs : List V} {ds : List Value} {E : XK} {x y n : Str} {p pos pos' py hpos tpos : Pos} {e : Expr} {es : List Expr} {t : TA} {b₀ : Stmt} {body : List Stmt} {tb : TS} {i : Nat}
noncomputable def tTryAs (K : PySem.W.Frag) (Y : Addr) (sp : Sp) (dvs : List V) (i : Nat) (t : TA) (tb : TS) : TS := fun D σ H => t σ H fun vs H1 => sp (vs ++ dvs) H1 (fun _ H2 => D.nx σ H2)
  (fun cls _ H2 => PySem.W.exmOne K cls (.ref Y) = some true ∧ ∀ ea, H2 ea = none → tb { nx := fun σ' H' => D.nx (σ'.set i none) H', rt := D.rt, bk := fun σ' H' => D.bk (σ'.set i none) H', ct := fun σ' H' => D.ct (σ'.set i none) H' } (σ.set i (some (.ref ea))) (upd H2 ea (excO ea cls)))
end

section
variable {X : Cx} {e : Expr} {es : List Expr} {te : TE} {pos : Pos}
noncomputable def tFV (te : TE) : TE := fun σ H Q => te σ H fun v H1 => (∃ x, v = .str x ∧ x.length ≤ sizeLine ∧ Q (.str x) H1) ∨ ∃ i : Int, v = .int i ∧ i.natAbs.log2 < 1920 ∧ Q (.str (toString i)) H1
noncomputable def tFVr (te : TE) : TE := fun σ H Q => te σ H fun v H1 => ∃ x, v = .str x ∧ (reprText x).length ≤ sizeLine ∧ Q (.str (reprText x)) H1
noncomputable def PJ (X : Cx) (es : List Expr) (t : Str → TE) : Prop :=
  ∀ (pins : List (Addr × Obj)) (s : Shared) (σ : St) (H : Hp) (Q : VK) (acc : Str), Inv X pins σ H s → t acc σ H Q → wpAny (model X.prog X.w) X.A (joinParts acc (evalEach es X.env)) (EP X pins σ Q) X.xe s
noncomputable def tJ0 : Str → TE := fun acc _ H Q => acc.length ≤ sizeLine ∧ Q (.str acc) H
noncomputable def tJ (te : TE) (t : Str → TE) : Str → TE := fun acc σ H Q => te σ H fun v H1 => ∃ y, v = .str y ∧ (acc ++ y).length ≤ sizeLine ∧ t (acc ++ y) σ H1 Q
end
end L2.Internal
namespace L2.Internal
open PySem PySem.Spec PyProof.Rows
section
variable {X : Cx}
end
inductive Dt where
  | flat (v : V)
  | tup (l : List Dt)
  | lst (l : List Dt)
mutual
inductive At (K : PySem.W.Frag) (H : Hp) : V → Dt → Prop where
  | flat {v : V} (h : flatV v = true) : At K H v (.flat v)
  | tup {a : Addr} {xs : List V} {ds : List Dt} (h : SqT K H a xs) (hs : Ats K H xs ds) : At K H (.ref a) (.tup ds)
  | lst {a : Addr} {xs : List V} {ds : List Dt} (h : SqL K H a xs) (hs : Ats K H xs ds) : At K H (.ref a) (.lst ds)
inductive Ats (K : PySem.W.Frag) (H : Hp) : List V → List Dt → Prop where
  | nil : Ats K H [] []
  | cons {x : V} {d : Dt} {xs : List V} {ds : List Dt} (h : At K H x d) (hs : Ats K H xs ds) : Ats K H (x :: xs) (d :: ds)
end
mutual
noncomputable def eqD : Dt → Dt → Bool
  | .flat a, .flat b => eqV a b
  | .tup l, .tup m => eqDs l m
  | .lst l, .lst m => eqDs l m
  | _, _ => false
noncomputable def eqDs : List Dt → List Dt → Bool
  | [], [] => true
  | x :: xs, y :: ys => eqD x y && eqDs xs ys
  | _, _ => false
end
mutual
noncomputable def cmpD : Dt → Dt → Bool
  | .flat _, .flat _ => true
  | .tup l, .tup m => cmpDs l m
  | .lst l, .lst m => if l.length = m.length then cmpDs l m else true
  | _, _ => false
noncomputable def cmpDs : List Dt → List Dt → Bool
  | x :: xs, y :: ys => cmpD x y && cmpDs xs ys
  | _, _ => true
end
mutual
noncomputable def depD : Dt → Nat
  | .flat _ => 0
  | .tup l => depDs l + 1
  | .lst l => depDs l + 1
noncomputable def depDs : List Dt → Nat
  | [] => 0
  | x :: xs => max (depD x) (depDs xs)
end
theorem Ats.length {K : PySem.W.Frag} {H : Hp} : ∀ {xs : List V} {ds : List Dt}, Ats K H xs ds → xs.length = ds.length
  | _, _, .nil => rfl
  | _, _, .cons _ t => by rw [List.length_cons, List.length_cons, Ats.length t]
theorem Ats.get {K : PySem.W.Frag} {H : Hp} : ∀ {xs : List V} {ds : List Dt} {j : Nat} {x : V}, Ats K H xs ds → xs[j]? = some x → ∃ d, ds[j]? = some d ∧ At K H x d
  | _, _, 0, _, .cons h _, e => ⟨_, rfl, by cases e; exact h⟩
  | _, _, j + 1, _, .cons _ t, e => Ats.get (j := j) t e
  | _, _, _, _, .nil, e => by simp at e
theorem eqDs_len : ∀ (l m : List Dt), l.length ≠ m.length → eqDs l m = false
  | [], [], h => absurd rfl h
  | x :: xs, y :: ys, h => by
    rw [eqDs, eqDs_len xs ys (fun e => h (by rw [List.length_cons, List.length_cons, e])), Bool.and_false]
  | [], y :: ys, _ => by rw [eqDs]; all_goals simp
  | x :: xs, [], _ => by rw [eqDs]; all_goals simp
noncomputable def eqDat (l m : List Dt) (j : Nat) : Bool := match l[j]?, m[j]? with
  | some a, some b => eqD a b
  | _, _ => false
theorem eqDs_range : ∀ (l m : List Dt), l.length = m.length → ((List.range l.length).all fun j => eqDat l m j) = eqDs l m
  | [], [], _ => by rw [eqDs]; rfl
  | x :: xs, y :: ys, h => by
    have ih := eqDs_range xs ys (by simpa using h)
    rw [List.length_cons, List.range_succ_eq_map, List.all_cons, List.all_map, eqDs, ← ih]
    rfl
  | [], _ :: _, h => by simp at h
  | _ :: _, [], h => by simp at h
theorem cmpDs_get : ∀ {l m : List Dt} {j : Nat} {a b : Dt}, cmpDs l m = true → l[j]? = some a → m[j]? = some b → cmpD a b = true
  | x :: xs, y :: ys, 0, a, b, h, e1, e2 => by
    rw [cmpDs, Bool.and_eq_true] at h
    cases e1
    cases e2
    exact h.1
  | x :: xs, y :: ys, j + 1, a, b, h, e1, e2 => by
    rw [cmpDs, Bool.and_eq_true] at h
    exact cmpDs_get (j := j) h.2 e1 e2
  | [], _, _, _, _, _, e1, _ => by simp at e1
  | _ :: _, [], _, _, _, _, _, e2 => by simp at e2
theorem depDs_get : ∀ {l : List Dt} {j : Nat} {a : Dt}, l[j]? = some a → depD a ≤ depDs l
  | x :: xs, 0, a, e => by cases e; rw [depDs]; exact Nat.le_max_left ..
  | x :: xs, j + 1, a, e => by rw [depDs]; exact Nat.le_trans (depDs_get (j := j) e) (Nat.le_max_right ..)
  | [], _, _, e => by simp at e
theorem flat_same {v : V} (h : flatV v = true) : eqV v v = true := by
  cases v with
  | non => rfl
  | bl b => show (b == b) = true; simp
  | int i => show (i == i) = true; simp
  | str x => show (x == x) = true; simp
  | _ => exact absurd h Bool.false_ne_true
section
variable {X : Cx} {pins : List (Addr × Obj)} {σ : St} {H : Hp} {s : Shared}
mutual
theorem At.same (I : Inv X pins σ H s) : ∀ {x : V} {d e : Dt}, At X.K H x d → At X.K H x e → cmpD d e = true → eqD d e = true
  | _, _, _, .flat h, .flat _, _ => by rw [eqD]; exact flat_same h
  | _, _, _, .tup h hs, .tup h' hs', c => by
    have e := I.tuple_inj h h'
    subst e
    rw [cmpD] at c
    rw [eqD]
    exact Ats.same I hs hs' c
  | _, _, _, .lst h hs, .lst h' hs', c => by
    have e := I.list_inj h h'
    subst e
    rw [cmpD, if_pos (hs.length.symm.trans hs'.length)] at c
    rw [eqD]
    exact Ats.same I hs hs' c
  | _, _, _, .flat h, .tup _ _, _ => absurd h Bool.false_ne_true
  | _, _, _, .flat h, .lst _ _, _ => absurd h Bool.false_ne_true
  | _, _, _, .tup _ _, .flat h, _ => absurd h Bool.false_ne_true
  | _, _, _, .lst _ _, .flat h, _ => absurd h Bool.false_ne_true
  | _, _, _, .tup _ _, .lst _ _, c => by simp [cmpD] at c
  | _, _, _, .lst _ _, .tup _ _, c => by simp [cmpD] at c
theorem Ats.same (I : Inv X pins σ H s) : ∀ {xs : List V} {l m : List Dt}, Ats X.K H xs l → Ats X.K H xs m → cmpDs l m = true → eqDs l m = true
  | _, _, _, .nil, .nil, _ => by rw [eqDs]
  | _, _, _, .cons h t, .cons h' t', c => by
    rw [cmpDs, Bool.and_eq_true] at c
    rw [eqDs, At.same I h h' c.1, Ats.same I t t' c.2]
    rfl
end
noncomputable def Els (K : PySem.W.Frag) (H : Hp) (A : Around) (s : Shared) (ds es : List Dt) : Prop :=
  ∀ (j : Nat) (d1 d2 : Dt) (x y : V) (u v : Value), ds[j]? = some d1 → es[j]? = some d2 → RelV x u → RelV y v → At K H x d1 → At K H y d2 → SeqAt.EqAt A s u v (eqD d1 d2)
theorem els {A : Around} {xs ys : List V} {its its2 : List Value} {ds es : List Dt} (r : Vals xs its) (r2 : Vals ys its2) (hs : Ats X.K H xs ds) (hs' : Ats X.K H ys es) (EL : Els X.K H A s ds es) :
    ∀ j (h1 : j < its.toArray.size) (h2 : j < its2.toArray.size), SeqAt.EqAt A s its.toArray[j] its2.toArray[j] (eqDat ds es j) := fun j h1 h2 => by
  have l1 := r.length
  have l2 := r2.length
  have h1' : j < xs.length := by simp only [List.size_toArray] at h1; omega
  have h2' : j < ys.length := by simp only [List.size_toArray] at h2; omega
  obtain ⟨w1, e1, q1⟩ := r.get (List.getElem?_eq_getElem h1')
  obtain ⟨w2, e2, q2⟩ := r2.get (List.getElem?_eq_getElem h2')
  obtain ⟨d1, f1, p1⟩ := hs.get (List.getElem?_eq_getElem h1')
  obtain ⟨d2, f2, p2⟩ := hs'.get (List.getElem?_eq_getElem h2')
  have g1 : its.toArray[j] = w1 := by simpa using (List.getElem?_eq_some_iff.mp e1).2
  have g2 : its2.toArray[j] = w2 := by simpa using (List.getElem?_eq_some_iff.mp e2).2
  have ed : eqDat ds es j = eqD d1 d2 := by unfold eqDat; rw [f1, f2]
  rw [g1, g2, ed]
  exact EL j d1 d2 _ _ _ _ f1 f2 q1 q2 p1 p2
theorem tup_ans {ds es : List Dt} {n m : Nat} (h1 : n = ds.length) (h2 : m = es.length) : ((List.range (min n m)).all (eqDat ds es) && n == m) = eqD (.tup ds) (.tup es) := by
  subst h1 h2
  rw [eqD]
  by_cases hl : ds.length = es.length
  · rw [← eqDs_range ds es hl, ← hl, Nat.min_self]
    simp
  · rw [eqDs_len ds es hl, beq_eq_false_iff_ne.mpr hl, Bool.and_false]
theorem lst_ans {ds es : List Dt} {n : Nat} (h1 : n = ds.length) (h : ds.length = es.length) : ((List.range n).all (eqDat ds es)) = eqD (.lst ds) (.lst es) := by
  subst h1
  rw [eqD, ← eqDs_range ds es h]
theorem rc_tup {A : Around} {a b : Addr} {xs ys : List V} {ds es : List Dt} (I : Inv X pins σ H s) (h : SqT X.K H a xs) (hs : Ats X.K H xs ds) (h' : SqT X.K H b ys) (hs' : Ats X.K H ys es) (hu : A.units < cLine) (EL : Els X.K H A.in1 s ds es) :
    SeqAt.RcAt A s (.ref a) (.ref b) (eqD (.tup ds) (.tup es)) ∧ SeqAt.RcNeAt A s (.ref a) (.ref b) (!eqD (.tup ds) (.tup es)) := by
  obtain ⟨its, r, pl, _⟩ := I.tuple h
  obtain ⟨its2, r2, pl2, _⟩ := I.tuple h'
  have e := els r r2 hs hs' EL
  have l1 : its.toArray.size = ds.length := by rw [List.size_toArray, ← r.length, hs.length]
  have l2 : its2.toArray.size = es.length := by rw [List.size_toArray, ← r2.length, hs'.length]
  have k1 := SeqAt.RcAt.tuples (A := A) (s := s) pl pl2 hu e
  have k2 := SeqAt.RcNeAt.tuples (A := A) (s := s) pl pl2 hu e
  rw [tup_ans l1 l2] at k1 k2
  exact ⟨k1, k2⟩
theorem rc_lst {A : Around} {a b : Addr} {xs ys : List V} {ds es : List Dt} (I : Inv X pins σ H s) (h : SqL X.K H a xs) (hs : Ats X.K H xs ds) (h' : SqL X.K H b ys) (hs' : Ats X.K H ys es) (hu : A.units < cLine) (EL : ds.length = es.length → Els X.K H A.in1 s ds es) :
    SeqAt.RcAt A s (.ref a) (.ref b) (eqD (.lst ds) (.lst es)) ∧ SeqAt.RcNeAt A s (.ref a) (.ref b) (!eqD (.lst ds) (.lst es)) := by
  obtain ⟨its, r, pl, _⟩ := I.list h
  obtain ⟨its2, r2, pl2, _⟩ := I.list h'
  have l1 : its.toArray.size = ds.length := by rw [List.size_toArray, ← r.length, hs.length]
  have l2 : its2.toArray.size = es.length := by rw [List.size_toArray, ← r2.length, hs'.length]
  by_cases hl : ds.length = es.length
  · have e := els r r2 hs hs' (EL hl)
    have k1 := SeqAt.RcAt.lists (A := A) (s := s) pl.isList pl2.isList (by rw [l1, l2, hl]) hu e
    have k2 := SeqAt.RcNeAt.lists (A := A) (s := s) pl.isList pl2.isList (by rw [l1, l2, hl]) hu e
    rw [lst_ans l1 hl] at k1 k2
    exact ⟨k1, k2⟩
  · have hne : (its.toArray.size != its2.toArray.size) = true := by rw [l1, l2]; exact bne_iff_ne.mpr hl
    have k1 := SeqAt.RcAt.lists_lengths (A := A) (s := s) pl.isList pl2.isList hne hu
    have k2 := SeqAt.RcNeAt.lists_lengths (A := A) (s := s) pl.isList pl2.isList hne hu
    rw [eqD, eqDs_len ds es hl]
    exact ⟨k1, k2⟩
theorem eqAt_D (I : Inv X pins σ H s) : ∀ (n : Nat) (A : Around) {x y : V} {u v : Value} {d e : Dt}, RelV x u → RelV y v → At X.K H x d → At X.K H y e → cmpD d e = true → depD d ≤ n → A.units + n < cLine → SeqAt.EqAt A s u v (eqD d e) := by
  intro n
  induction n with
  | zero =>
    intro A x y u v d e rx ry hx hy c hd hu
    cases hx with
    | flat h =>
      cases hy with
      | flat h' => rw [eqD]; exact eqAt_V rx ry h h'
      | tup _ _ => simp [cmpD] at c
      | lst _ _ => simp [cmpD] at c
    | tup _ _ => rw [depD] at hd; omega
    | lst _ _ => rw [depD] at hd; omega
  | succ n ih =>
    intro A x y u v d e rx ry hx hy c hd hu
    cases hx with
    | flat h =>
      cases hy with
      | flat h' => rw [eqD]; exact eqAt_V rx ry h h'
      | tup _ _ => simp [cmpD] at c
      | lst _ _ => simp [cmpD] at c
    | @tup a xs ds h hs =>
      cases hy with
      | flat _ => simp [cmpD] at c
      | lst _ _ => simp [cmpD] at c
      | @tup b ys es h' hs' =>
        cases rx
        cases ry
        by_cases hab : a = b
        · subst hab
          rw [At.same I (.tup h hs) (.tup h' hs') c]
          exact SeqAt.EqAt.same _
        · rw [cmpD] at c
          rw [depD] at hd
          refine SeqAt.EqAt.of_refs hab (rc_tup I h hs h' hs' (by omega) fun j d1 d2 x y u v f1 f2 q1 q2 p1 p2 => ?_).1
          exact ih A.in1 q1 q2 p1 p2 (cmpDs_get c f1 f2) (Nat.le_trans (depDs_get f1) (by omega)) (by show A.units + 1 + n < cLine; omega)
    | @lst a xs ds h hs =>
      cases hy with
      | flat _ => simp [cmpD] at c
      | tup _ _ => simp [cmpD] at c
      | @lst b ys es h' hs' =>
        cases rx
        cases ry
        by_cases hab : a = b
        · subst hab
          rw [At.same I (.lst h hs) (.lst h' hs') c]
          exact SeqAt.EqAt.same _
        · rw [depD] at hd
          refine SeqAt.EqAt.of_refs hab (rc_lst I h hs h' hs' (by omega) fun hl j d1 d2 x y u v f1 f2 q1 q2 p1 p2 => ?_).1
          rw [cmpD, if_pos hl] at c
          exact ih A.in1 q1 q2 p1 p2 (cmpDs_get c f1 f2) (Nat.le_trans (depDs_get f1) (by omega)) (by show A.units + 1 + n < cLine; omega)
noncomputable def rEqD (K : PySem.W.Frag) (neg : Bool) : R2 := fun x y H Q => ∃ a b d e, x = .ref a ∧ y = .ref b ∧ At K H x d ∧ At K H y e ∧ cmpD d e = true ∧ depD d ≤ 100 ∧ Q (.bl (if neg then !eqD d e else eqD d e)) H
theorem rcD (I : Inv X pins σ H s) {A : Around} {a b : Addr} {d e : Dt} (hx : At X.K H (.ref a) d) (hy : At X.K H (.ref b) e) (c : cmpD d e = true) (hd : depD d ≤ 100) (hu : A.units + 101 < cLine) :
    SeqAt.RcAt A s (.ref a) (.ref b) (eqD d e) ∧ SeqAt.RcNeAt A s (.ref a) (.ref b) (!eqD d e) := by
  cases hx with
  | flat h => exact absurd h Bool.false_ne_true
  | @tup a xs ds h hs =>
    cases hy with
    | flat h => exact absurd h Bool.false_ne_true
    | lst _ _ => simp [cmpD] at c
    | @tup b ys es h' hs' =>
      rw [cmpD] at c
      rw [depD] at hd
      refine rc_tup I h hs h' hs' (by omega) fun j d1 d2 x y u v f1 f2 q1 q2 p1 p2 => ?_
      exact eqAt_D I 100 A.in1 q1 q2 p1 p2 (cmpDs_get c f1 f2) (Nat.le_trans (depDs_get f1) (by omega)) (by show A.units + 1 + 100 < cLine; omega)
  | @lst a xs ds h hs =>
    cases hy with
    | flat h => exact absurd h Bool.false_ne_true
    | tup _ _ => simp [cmpD] at c
    | @lst b ys es h' hs' =>
      rw [depD] at hd
      refine rc_lst I h hs h' hs' (by omega) fun hl j d1 d2 x y u v f1 f2 q1 q2 p1 p2 => ?_
      rw [cmpD, if_pos hl] at c
      exact eqAt_D I 100 A.in1 q1 q2 p1 p2 (cmpDs_get c f1 f2) (Nat.le_trans (depDs_get f1) (by omega)) (by show A.units + 1 + 100 < cLine; omega)
end
section
variable {X : Cx}
theorem op_eqD {k : Nat} (hr : Room k X.A) : OpR X (compareOp .Eq) (rEqD X.K false) := by
  intro pins s σ H x y v u Q I rx ry h
  obtain ⟨a, b, d, e, rfl, rfl, hx, hy, c, hd, q⟩ := h
  cases rx
  cases ry
  have hu := hr.un
  exact (rcD I hx hy c hd (by omega)).1 _ _ _ _ ⟨.bl _, H, I, rfl, q⟩
theorem op_neD {k : Nat} (hr : Room k X.A) : OpR X (compareOp .NotEq) (rEqD X.K true) := by
  intro pins s σ H x y v u Q I rx ry h
  obtain ⟨a, b, d, e, rfl, rfl, hx, hy, c, hd, q⟩ := h
  cases rx
  cases ry
  have hu := hr.un
  exact (rcD I hx hy c hd (by omega)).2 _ _ _ _ ⟨.bl _, H, I, rfl, q⟩
end
end L2.Internal
namespace L2.Internal
open PySem PySem.Spec PyProof.Rows
noncomputable def KDict (P : Program) (w : World) (K : PySem.W.Frag) (a : Addr) (kvs : List (Key × V)) : Prop := (a == sysModules) = false ∧ ∃ vs, KV kvs vs ∧ ∀ h : Heap, K.In h → h.DictOf (mixKind P w) a vs
noncomputable def tKNotIn (a : Addr) (kvs : List (Key × V)) (ty td : TE) : TE := fun σ H Q => ty σ H fun y H1 => td σ H1 fun x H2 => ∃ k, x = .ref a ∧ y = kV k ∧ Q (.bl (!(valV kvs k).isSome)) H2
noncomputable def tKGet (a : Addr) (kvs : List (Key × V)) (td ty : TE) : TE := fun σ H Q => td σ H fun x H1 => ty σ H1 fun y H2 => ∃ k v, x = .ref a ∧ y = kV k ∧ valV kvs k = some v ∧ Q v H2
section
variable {X : Cx} {o i : Expr} {pos : Pos} {td ty : TE} {a : Addr} {kvs : List (Key × V)}
end
end L2.Internal
namespace L2.Internal
open PySem PySem.Spec PyProof.Rows
section
variable {X : Cx}
noncomputable def repS (x : Str) (n : Nat) : Str := ⟨(List.replicate n x.cps).foldl (· ++ ·) #[]⟩
end
section
variable {X : Cx} {k : Nat} {f Y : Addr} {fd : FuncData} {ps : List Str} {sp : Sp} {dvs : List V} {ds : List Value} {x y n : Str} {p pos pos' py hpos tpos pn : Pos} {e : Expr} {es : List Expr} {t : TA} {b₀ : Stmt} {body : List Stmt} {tb : TS} {i : Nat}
noncomputable def tTrySet (K : PySem.W.Frag) (Y : Addr) (sp : Sp) (dvs : List V) (i : Nat) (t : TA) (tb : TS) : TS := fun D σ H => t σ H fun vs H1 => sp (vs ++ dvs) H1 (fun v H2 => D.nx (σ.set i (some v)) H2)
  (fun cls _ H2 => PySem.W.exmOne K cls (.ref Y) = some true ∧ tb D σ H2)
end
end L2.Internal
namespace L2.Internal
end L2.Internal
namespace L2.Internal
open PySem PySem.Spec PyProof.Rows
noncomputable def intsOf : List Expr → Option (List Int)
  | [] => some []
  | .Constant (.int x) _ _ :: r => (intsOf r).map (x :: ·)
  | _ => none
noncomputable def tInts (xs : List Int) : TA := fun _ H Q => Q (xs.map V.int) H
end L2.Internal
namespace L2.Internal
open PySem PySem.Spec PyProof.Rows

section
variable {X : Cx} {pins : List (Addr × Obj)} {σ : St} {H : Hp} {s : Shared} {h' : Heap}
theorem Inv.turnedL {t' : Nat} {ch : List Addr} (I : Inv X pins σ H s) (k : ∀ b o, b ∉ ch → s.heap.get? b = some o → h'.get? b = some o) (hf : ∀ b ∈ ch, FpOk X pins H b) : Inv X pins σ H { s with heap := h', toks := t' } := by
  have nit : ∀ b u, H b = some u → b ∉ ch := fun b u e z => by
    have q := (hf b z).1
    rw [q] at e; cases e
  refine I.step (g' := s.gens) (d' := s.drawn) (ch := ch) (fun b hb => ?_) (fun b o _ _ hc e _ => k b o hc e) (fun b o _ _ hc e _ => ⟨o.slots, k b o hc e⟩) (fun _ _ _ _ n => n)
    (fun b o hc e => ⟨o, k b o hc e⟩) (fun _ _ e => e) (fun _ _ _ e => e) (fun b ps e => ⟨#[], by rw [e]; simp⟩) (fun m hm => ?_) (fun b u e => ?_) I.bare
  · obtain ⟨_, f1, _, f3, f4, f5⟩ := hf b hb
    exact ⟨f3, f1, f4, f5⟩
  · obtain ⟨o, es, ep, ho, r⟩ := hm
    exact ⟨o, es, ep, k _ o (fun z => (hf _ z).2.1 rfl) ho, r⟩
  · refine (I.hok b u e).stay (fun c v hc q => k c v ?_ q) (fun _ q => q) fun _ _ q => q
    rcases hc with z | z
    · rw [z]; exact nit b u e
    · exact nit c _ z
theorem Inv.pairNew {T : Addr} {h : Heap} {tk : Nat} {ux uy : Value} {x y : V} (I : Inv X pins σ H s) (hT : s.heap.objs.size ≤ T) (J : Inv X pins σ H { s with heap := h, toks := tk }) (ht : Tup0 h T #[ux, uy]) (rx : RelV x ux) (ry : RelV y uy) :
    H T = none ∧ Inv X pins σ (upd H T (.tup [x, y])) { s with heap := h, toks := tk } := by
  have f := I.fpOk (H' := H) hT (I.hok.fresh hT)
  refine ⟨f.1, J.track f.1 ?_ f.2.1 f.2.2.2.2.1 f.2.2.2.2.2 ⟨by show 2 ≤ sizeLine; decide, [ux, uy], .cons rx (.cons ry .nil), ht⟩⟩
  cases q : X.s₀.heap.get? T with
  | none => rfl
  | some o => exact absurd (Nat.lt_of_lt_of_le (Heap.lt_size q) (Nat.le_trans I.sz hT)) (Nat.lt_irrefl _)
end

noncomputable def Itz (K : PySem.W.Frag) (a b : Addr) : It :=
  ⟨fun i H => ∃ xs ys x y, SqL K H a xs ∧ SqL K H b ys ∧ xs[i]? = some x ∧ ys[i]? = some y,
   fun i H v H' => ∃ T x y, v = .ref T ∧ H T = none ∧ H' = upd H T (.tup [x, y]) ∧ (∀ xs, SqL K H a xs → xs[i]? = some x) ∧ ∀ ys, SqL K H b ys → ys[i]? = some y,
   fun i H => ∃ xs ys, SqL K H a xs ∧ SqL K H b ys ∧ i = min xs.length ys.length⟩
noncomputable def ZSt (z TI TO i1 i2 a b : Addr) (i : Nat) (h : Heap) : Prop := IsZip h z TI TO .none ∧ IsPair h TI (.ref i1) (.ref i2) ∧ (∃ u v, IsPair h TO u v) ∧ h.IsListIter i1 a i ∧ h.IsListIter i2 b i
theorem bt_enumerate : bootBuiltins "enumerate" = some (.type "enumerate") := by decide +kernel
theorem SqL.old {X : Cx} {pins : List (Addr × Obj)} {σ : St} {H : Hp} {s : Shared} {a : Addr} {xs : List V} (I : Inv X pins σ H s) (h : SqL X.K H a xs) : a < s.heap.objs.size := by
  obtain ⟨its, _, p, _⟩ := I.list h
  obtain ⟨o, e, _⟩ := p.isList
  exact Heap.lt_size e
noncomputable def iZip (K : PySem.W.Frag) (ta : TA) : TI := fun σ H R => ta σ H fun vs H1 => ∃ a b, vs = [.ref a, .ref b] ∧ (∃ xs, SqL K H1 a xs) ∧ (∃ ys, SqL K H1 b ys) ∧ R (Itz K a b) H1
section
variable {X : Cx}
end

noncomputable def Ite (K : PySem.W.Frag) (a : Addr) : It :=
  ⟨fun i H => ∃ xs x, SqL K H a xs ∧ xs[i]? = some x,
   fun i H v H' => ∃ T x, v = .ref T ∧ H T = none ∧ H' = upd H T (.tup [.int (i : Int), x]) ∧ ∀ xs, SqL K H a xs → xs[i]? = some x,
   fun i H => ∃ xs, SqL K H a xs ∧ i = xs.length⟩
noncomputable def ESt (e it a : Addr) (i : Nat) (h : Heap) : Prop := (∃ old, IsEnum h e it i old) ∧ h.IsListIter it a i
theorem turn_enum {P : Program} {w : World} {K : PySem.W.Frag} {es : List Expr} {kk : Nat} {tp : Pos} {a e it : Addr} (h1 : e ≠ it) (h2 : a ≠ e) (h3 : a ≠ it) : Turn P w K (.Tuple es kk tp) (Ite K a) [e, it] e (ESt e it a) where
  mem := by simp
  obj := fun i h st c hc => by
    obtain ⟨⟨old, g1⟩, ⟨o4, g4, _, d4⟩⟩ := st
    simp only [List.mem_cons, List.not_mem_nil, or_false] at hc
    rcases hc with q | q <;> subst q
    · exact ⟨_, g1, fun v q => nomatch q⟩
    · exact ⟨_, g4, fun v q => by rw [d4] at q; cases q⟩
  keep := fun i h h' st k => by
    obtain ⟨⟨old, g1⟩, g4⟩ := st
    exact ⟨⟨old, k e (by simp) _ g1⟩, g4.at fun o q => k it (by simp) o q⟩
  item := by
    intro X hP hw hK hc i pins s σ H E I hf st hg
    subst hP hw hK
    obtain ⟨xs, x, qx, ex⟩ := hg
    obtain ⟨i1s, r1, p1, z1⟩ := I.list qx
    obtain ⟨g1, g4⟩ := st
    obtain ⟨old, g1'⟩ := g1
    obtain ⟨ux, hux, rr1⟩ := r1.get ex
    have lte : e < s.heap.objs.size := Heap.lt_size g1'
    refine wpAny_pyNext_enum_item g1' g4 p1.isList (x := ux) (by simpa using hux) h1 fun k1 ho hit' hT hsz hk => ?_
    have kk1 : ∀ c o, c ∉ [e, it] → s.heap.get? c = some o → k1.get? c = some o := fun c o hc q => hk c o (fun z => hc (by simp [z])) (fun z => hc (by simp [z])) q
    have J1 : Inv X pins σ H { s with heap := k1, toks := s.toks + 1 } := I.turnedL kk1 hf
    refine ⟨.ref s.heap.objs.size, rfl, wpAny_letOwnedTupleGo_enum ho fun k2 he' sb => ?_⟩
    have J2 : Inv X pins σ H { s with heap := k2, toks := s.toks + 1 } := Inv.turnedL (s := { s with heap := k1, toks := s.toks + 1 }) (h' := k2) (t' := s.toks + 1) (ch := [e]) J1 (fun c o hc q => (sb.2 c (fun z => hc (by simp [z]))).trans q) fun c hc => hf c (by simp only [List.mem_cons, List.not_mem_nil, or_false] at hc ⊢; simp [hc])
    have ht2 : Tup0 k2 s.heap.objs.size #[.int i s.toks, ux] := ⟨_, (sb.2 _ (Nat.ne_of_gt lte)).trans hT, rfl, _, rfl, rfl⟩
    obtain ⟨fT, J3⟩ := I.pairNew (x := .int (i : Int)) (Nat.le_refl _) J2 ht2 ⟨s.toks, rfl⟩ rr1
    refine ⟨.ref s.heap.objs.size, _, J3, rfl, ⟨_, x, rfl, fT, rfl, fun l hl => by rw [I.list_inj hl qx]; exact ex⟩, ⟨⟨_, by simpa using he'⟩, hit'.at fun o y => (sb.2 it h1.symm).trans y⟩, fun c hc => ?_⟩
    rw [upd_ne (fun q => ?_)]
    · exact (hf c hc).1
    · have lt : c < s.heap.objs.size := by
        obtain ⟨o4, e4, _⟩ := g4
        simp only [List.mem_cons, List.not_mem_nil, or_false] at hc
        rcases hc with q | q <;> subst q
        · exact lte
        · exact Heap.lt_size e4
      exact absurd lt (by rw [q]; exact Nat.lt_irrefl _)
  done := by
    intro X hP hw hK hc i pins s σ H E I hf st hg
    subst hP hw hK
    obtain ⟨xs, qx, ei⟩ := hg
    obtain ⟨i1s, r1, p1, z1⟩ := I.list qx
    obtain ⟨g1, g4⟩ := st
    have W := WalksT.enumerate (prog := X.prog) (w := X.w) (I.ok.hd hc) e it a h1 h2 h3 i1s.toArray
    have l1 := r1.length
    have q : i = i1s.toArray.size := by simp only [List.size_toArray]; omega
    subst q
    exact W.done s _ _ ⟨g1, g4, p1.isList⟩ fun h1 tk hk => ⟨rfl, I.turnedL hk hf⟩
  self := fun _ _ _ _ _ st h => by
    obtain ⟨⟨old, g1⟩, _⟩ := st
    exact wpAny_pyIter_enum g1 h
noncomputable def iEnum (K : PySem.W.Frag) (ta : TA) : TI := fun σ H R => ta σ H fun vs H1 => ∃ a, vs = [.ref a] ∧ (∃ xs, SqL K H1 a xs) ∧ R (Ite K a) H1
section
variable {X : Cx}
theorem pi_enum {es : List Expr} {kk : Nat} {tp : Pos} {a : Expr} {ta : TA} {p pos : Pos} (hg : Gl X "enumerate") (hm : X.mg "enumerate" = none) (ha : PA X [a] ta) (hs : autoParam (starEach [a] X.env = [(false, eval a X.env)]) L2.Internal.auR._auto_1) :
    PI X (.Tuple es kk tp) (.Call (.Name "enumerate" p) [a] [] pos) (iEnum X.K ta) := by
  intro pins s σ H R I h
  refine Call_ (ld_blt I hg hm bt_enumerate (PyProof.Rows.callWith_type1 (thn (ha pos pins s σ H _ I h) fun us s1 ⟨vs, H1, I1, r1, q1⟩ => ?_) hs rfl))
  obtain ⟨l1, e, ⟨xs, q1⟩, q⟩ := q1
  subst e
  obtain ⟨u, rfl, ru⟩ := vals1 r1
  cases ru
  obtain ⟨i1s, w1, p1, z1⟩ := I1.list q1
  have o1 : @LT.lt Nat _ l1 s1.heap.objs.size := SqL.old I1 q1
  refine call_enumerate_list p1.isList fun h1 hE hi1 hsz hk => wpAny_pyIter_enum hE ?_
  refine ⟨_, _, _, _, H1, rfl, I1.kept (t' := s1.toks) hk, turn_enum (fun (h : @Eq Nat _ _) => by omega) (fun (h : @Eq Nat _ _) => by omega) (fun (h : @Eq Nat _ _) => by omega), ⟨⟨_, hE⟩, hi1⟩, fun c hc => ?_, q⟩
  have ge : s1.heap.objs.size ≤ c := by
    simp only [List.mem_cons, List.not_mem_nil, or_false] at hc
    rcases hc with h | h <;> rw [h] <;> first | exact Nat.le_refl _ | exact Nat.le_add_right _ _
  exact I1.fpOk ge (I1.hok.fresh ge)
end

noncomputable def LcG (J : It) (g : TG) (te : TE) (Q : VK) (τ : St) (H1 : Hp) (D : Addr) : Prop :=
  ∃ W : Nat → Nat → St → Hp → Prop, (∃ m, W 0 m τ (upd H1 D (.lst []))) ∧ ∀ k m σ' H2, W k m σ' H2 →
    (J.stop k H2 ∧ Q (.ref D) H2) ∨ (J.go k H2 ∧ ∀ v H3, J.yld k H2 v H3 → g v σ' H3 fun σ4 H4 => te σ4 H4 fun y H5 => ∃ xs, H5 D = some (.lst xs) ∧ xs.length < sizeLine ∧ ∃ m', m' < m ∧ W (k + 1) m' σ4 (upd H5 D (.lst (xs ++ [y]))))
noncomputable def tLG (wi : TI) (f : St → St) (g : TG) (te : TE) : TE := fun σ H Q => wi σ H fun J H1 => ∀ D, H1 D = none → LcG J g te Q (f σ) H1 D
theorem lookup_cap {z : Str} : ∀ {cap : List (Str × Nat × Addr)}, z ∈ cap.map (·.1) → ∃ c, (cap.map fun p => (p.1, p.2.2)).lookup z = some c
  | [], h => by simp at h
  | p :: r, h => by
    cases e : z == p.1 with
    | true => exact ⟨p.2.2, by simp only [List.map_cons, List.lookup_cons, e]⟩
    | false =>
      have q : z ∈ r.map (·.1) := by
        rcases List.mem_cons.mp h with y | y
        · rw [y] at e; simp at e
        · exact y
      obtain ⟨c, hc⟩ := lookup_cap q
      exact ⟨c, by simp only [List.map_cons, List.lookup_cons, e]; exact hc⟩
theorem blkC {X : Cx} {scope : Scope} {x : Str} (ns : List Str) (cap : List (Str × Nat × Addr)) (hns : cap.map (·.1) = ns) (hk : scope.kind = .function) (hn : ∀ p ∈ scope.names, p.2 ≠ .cell ∧ (p.2 = .free → p.1 ∈ ns)) (hl : ∀ y ∈ scope.names, y.2 = .local → scope.names.lookup y.1 = some .local)
    (hx : scope.names.lookup x = some .local) (hnd : (x :: ns).Nodup) (hc : closureFor scope X.env = pure (cap.map fun p => (p.1, p.2.2))) (hok : X.env.scope.kind = .function)
    (h : ∀ p ∈ cap, scope.names.lookup p.1 = some .free ∧ X.env.cells.lookup p.1 = some p.2.2 ∧ X.env.scope.names.lookup p.1 = some .cell ∧ X.N[p.2.1]? = some p.1) :
    BlkOk X (x :: ns) scope (cap.map fun p => (p.1, p.2.2)) (fun σ => none :: cap.map fun p => σ.getD p.2.1 none) 0 x where
  kind := hk
  cell := fun y hy => (hn y hy).1
  names := hl
  clos := hc
  lk := fun z c q => by
    have m := PySem.mem_of_lookup q
    obtain ⟨p, hp, e⟩ := List.mem_map.mp m
    cases e
    exact (h p hp).2.1
  has := fun z q => by
    refine lookup_cap ?_
    rw [hns]
    rcases q with q | q
    · obtain ⟨k0, e, q⟩ := lookup_relabel q
      have m := hn _ (PySem.mem_of_lookup e)
      rcases q with q | ⟨q, _⟩
      · exact absurd q.symm m.1
      · exact m.2 q
    · obtain ⟨k0, e, q⟩ := lookup_relabel q
      have m := hn _ (PySem.mem_of_lookup e)
      rcases q with q | ⟨q, _⟩
      · exact m.2 q.symm
      · exact m.2 q
  nd := hnd
  ix := rfl
  loc := hx
  len := fun _ _ => by simp [← hns]
  val := fun σ k z v h1 h2 => by
    cases k with
    | zero => simp at h2
    | succ k =>
      rw [← hns, List.getElem?_cons_succ, List.getElem?_map] at h1
      rw [List.getElem?_cons_succ, List.getElem?_map] at h2
      cases e : cap[k]? with
      | none => rw [e] at h1; cases h1
      | some p =>
        rw [e] at h1 h2
        have ez : p.1 = z := Option.some.inj h1
        have ev : σ.getD p.2.1 none = some v := Option.some.inj h2
        subst ez
        obtain ⟨a1, a2, a3, a4⟩ := h p (List.mem_of_getElem? e)
        rw [List.getD_eq_getElem?_getD] at ev
        refine ⟨p.2.1, a4, ?_, a3, lookup_relabel_free hok a3 a1⟩
        cases q : σ[p.2.1]? with
        | none => rw [q] at ev; cases ev
        | some o => rw [q] at ev; exact congrArg some ev

section
variable {X : Cx}
end

structure ClsM (K : PySem.W.Frag) (C : Addr) (m : Str) (f : Addr) : Prop where
  ga : PySem.W.specialIn K (.ref C) "__getattribute__" = some (some (.builtin "type.__getattribute__"))
  rd : ∃ mc, PySem.W.readsIn K C mc = true ∧ PySem.W.findCls K (.ref C) mc m = some (.val (.ref f))
  kp : PySem.W.keepIn K (.ref f) = true
section
variable {X : Cx} {CX : CXT} {k : Nat} {f C : Addr} {fd : FuncData} {ps : List Str} {sp : Sp} {dvs : List V} {ds : List Value} {E : XK} {m : Str} {pos apos : Pos} {e o : Expr} {es : List Expr} {t : TA}
end

section
variable {X : Cx}
theorem bt_max : bootBuiltins "max" = some (.builtin "max") := by decide +kernel
theorem call_sumA (hc : X.calm = true) : CallR X (.builtin "sum") (fun xs H Q => ∃ (a : Addr) (ns : List Int), xs = [.ref a] ∧ SqL X.K H a (ns.map V.int) ∧ ∀ n, Q (.int n) H) := by
  intro pins s σ H xs us Q I r h
  obtain ⟨a, ns, rfl, hq, q⟩ := h
  obtain ⟨u, rfl, ru⟩ := vals1 r
  cases ru
  obtain ⟨its, rv, p, hz⟩ := I.list hq
  obtain ⟨zs, e⟩ := (intsAre_of rv).allInts.items
  have l := p.isList
  rw [e] at l
  exact sum_intListG (I.ok.hd hc) l fun h' tk t' hk => ⟨.int _, H, I.kept (t' := tk) hk, ⟨_, rfl⟩, q _⟩
end

theorem ps_setLC {X : Cx} {elt iter : Expr} {x y : Str} {j : Nat} {py spos : Pos} {px : Pos} {ifs : List Expr} {scope : Scope} {pos : Pos} {N : List Str} {cl : List (Str × Addr)} {f : St → St} {i : Nat} {wi : TI} {tt : TT} {te : TE}
    (hc : X.calm = true) (B : BlkOk X N scope cl f i x) (hi : PI X (.Name x px) iter wi)
    (htt : ∀ C s₀ H₀ ex pins, PTs (blk X N scope cl C s₀ H₀ ex pins) ifs tt) (hte : ∀ C s₀ H₀ ex pins, PE (blk X N scope cl C s₀ H₀ ex pins) elt te)
    (hN : X.N.Nodup) (hj : X.N[j]? = some y) (hy : Loc X.env.scope y) (hsw : autoParam (swapsWith (.ListComp elt [⟨.Name x px, iter, ifs, 0⟩] scope pos) (some (.Name y py)) spos.line X.env = pure true) L2.Internal.auR._auto_1) (hs : autoParam (∀ x, foldedSetIterable iter X.env x = pure x) L2.Internal.auI._auto_1)
    (hf : autoParam (X.fn y = true ∨ X.env.scope.names.lookup y = some .local) L2.Internal.auL._auto_1) : PS X (.Assign [.Name y py] (.ListComp elt [⟨.Name x px, iter, ifs, 0⟩] scope pos) spos) (tAsg (tLC wi f i tt te) (gName j)) := by
  intro pins s σ H En I h
  rw [exec_Assign_Name_used _ _ _ _ hsw]
  refine wpAny_bind (wpAny_standAt (wpAny_bind ?_))
  show wpAny _ X.A (do let _ ← comprehension (.ListComp elt [⟨.Name x px, iter, ifs, 0⟩] scope pos) scope X.env _ (newList []) false (eval iter X.env) (some (assign (.Name y py) X.env))) _ _ s
  refine wpAny_bind (wpAny_mono (wpAny_comprehension_free (use := some (assign (.Name y py) X.env)) (Q := fun _ s' => SP X pins En .next s') rfl hs B.clos B.kind B.names (thn (hi pins s σ H _ I h) fun xv s1 h1 => thn h1 fun itv s2 h2 => ?_)) (fun _ s' hq => wpAny_pure (wpAny_pure hq)) fun _ _ e => e)
  obtain ⟨it, fp, tn, J, H2, rfl, I2, T, st2, f2, q⟩ := h2
  have hD : H2 s2.heap.objs.size = none := I2.fresh
  obtain ⟨W, ⟨m0, w0⟩, turn⟩ := q _ hD
  refine wpAny_newObj_type (wpAny_newFunctionEnv B.cell (by intro y hy; simp at hy) (fun h₁ hns₁ hsb₁ => ?_) B.kind)
  have I3 : Inv X pins σ (upd H2 s2.heap.objs.size (.lst [])) { s2 with heap := s2.heap.push { cls := .type "list", data := .seq ([] : List Value).toArray } } := I2.lnew (its := []) (ys := []) (t' := s2.toks) .nil (Nat.zero_le _)
  have lt2 : ∀ b ∈ fp, b < s2.heap.objs.size := fun b hb => by
    obtain ⟨o, ho, _⟩ := T.obj _ _ st2 b hb
    exact Heap.lt_size ho
  have fp3 : ∀ b ∈ fp, FpOk X pins (upd H2 s2.heap.objs.size (.lst [])) b := fun b hb => by
    refine ⟨?_, (f2 b hb).2⟩
    rw [upd_ne (Nat.ne_of_lt (lt2 b hb))]
    exact (f2 b hb).1
  generalize hs3 : ({ s2 with heap := s2.heap.push { cls := .type "list", data := .seq ([] : List Value).toArray } } : Shared) = s3 at I3 hns₁ hsb₁ ⊢
  have eh : s2.heap.push { cls := .type "list", data := .seq ([] : List Value).toArray } = s3.heap := by rw [← hs3]
  have lt3 : ∀ b ∈ fp, b < s3.heap.objs.size := fun b hb => by
    rw [← eh, Heap.size_push]
    exact Nat.lt_succ_of_lt (lt2 b hb)
  have old : ∀ b o, s3.heap.get? b = some o → h₁.get? b = some o := fun b o e => hsb₁.extBut b o (Nat.ne_of_lt (Heap.lt_size e)) (Heap.get?_push_of_some _ e)
  have I4 := inv_blk (tk := s3.toks + ([] : List (Str × Value)).length) B I3 (ex := fp) (fun b hb => ⟨fp3 b hb, lt3 b hb⟩) old hns₁
  have st4 : tn 0 h₁ := T.keep _ _ _ st2 fun b _ o e => old b o (by rw [← eh]; exact Heap.get?_push_of_some _ e)
  -- the iterators in the block
  have fpB : ∀ {H' : Hp}, (∀ b ∈ fp, H' b = none) → ∀ b ∈ fp, FpOk (blk X N scope cl s3.heap.objs.size s3 (upd H2 s2.heap.objs.size (.lst [])) fp pins) [] H' b := fun {H'} hn b hb => by
    obtain ⟨_, g2, g3, g4, g5, g6⟩ := f2 b hb
    refine ⟨hn b hb, Nat.ne_of_lt (lt3 b hb), fun z => (List.mem_cons.mp (I3.stkSub b z)).elim g2 g3, .inl hb, fun y c e => g5 y c (B.lk y c e), fun p hp => ?_⟩
    rw [List.append_nil] at hp
    exact g6 p hp
  have loop : ∀ s4 : Shared, s4 = { s3 with heap := h₁, toks := s3.toks + ([] : List (Str × Value)).length } →
      codeAny (model X.prog X.w) X.A (.compLoop (.ListComp elt [⟨.Name x px, iter, ifs, 0⟩] scope pos) 0 (.ref it) (.ref s2.heap.objs.size) (compEnvC scope cl s3.heap.objs.size X.env))
        (compPost (model X.prog X.w) X.A X.xe (some (assign (.Name y py) X.env)) (fun _ s' => SP X pins En .next s') (.ref s2.heap.objs.size) s3.heap.objs.size) s4 := by
    rintro s4 rfl
    refine codeAny_compLoop_tests (I := fun n s' => ∃ k σ' H', Inv (blk X N scope cl s3.heap.objs.size s3 (upd H2 s2.heap.objs.size (.lst [])) fp pins) [] σ' H' s' ∧ tn k s'.heap ∧ (∀ b ∈ fp, H' b = none) ∧ W k n σ' H') ?_ m0
      ⟨0, f σ, _, I4, st4, fun b hb => (fp3 b hb).1, w0⟩
    rintro n s5 ⟨k, σ5, H5, I5, st5, fr5, w5⟩
    rcases turn k n σ5 H5 w5 with ⟨stop, qn⟩ | ⟨go, step⟩
    · refine wpAny_mono (T.done (blk X N scope cl s3.heap.objs.size s3 (upd H2 s2.heap.objs.size (.lst [])) fp pins) rfl rfl rfl hc k [] s5 σ5 H5 _ I5 (fpB fr5) st5 stop) (fun r s6 h6 => ?_) fun _ _ z => z
      obtain ⟨hr, I6⟩ := h6
      subst hr
      obtain ⟨m6, hn6, _⟩ := id I6.loc
      have I7 : Inv X pins σ H5 s6 := I3.call' (s' := s6) (ch := fp) I6.os I6.base I6.hok I6.bare fun b hb => by
        obtain ⟨_, g2, g3, g4, g5, g6⟩ := f2 b hb
        exact ⟨g4, g2, g5, g6⟩
      obtain ⟨oC, es, ep, hoC, hdC, hkC⟩ := id hn6
      have hCL : s3.heap.objs.size ≠ X.env.locals := Nat.ne_of_gt I3.lt
      have I8 : Inv X (pins ++ [(s3.heap.objs.size, oC)]) σ H5 s6 := I7.pins_of fun p hp => (List.mem_append.mp hp).elim (fun z => I7.pin p (List.mem_append_right _ z)) fun z => by
        have ez : p = (s3.heap.objs.size, oC) := by simpa using z
        subst ez
        exact ⟨hoC, I6.free, hCL, I3.nofs (Nat.le_refl _), fun v q => by rw [hdC] at q; cases q⟩
      show wpAny _ X.A (assign (.Name y py) X.env (.ref s2.heap.objs.size)) _ _ s6
      refine wpAny_assign_Name (store_ok (X := X) I8 hN hj hy (v := .ref s2.heap.objs.size) rfl (fun s7 I9 => ?_) hf)
      have pC := I9.pin (s3.heap.objs.size, oC) (List.mem_append_right _ (List.mem_append_right _ (by simp)))
      refine ⟨m6, ⟨oC, es, ep, pC.1, hdC, hkC⟩, fun h' sb => ?_⟩
      refine ⟨σ.set j (some (.ref s2.heap.objs.size)), H5, ?_, qn⟩
      exact Inv.turned (h' := h') (t' := s7.toks) (it := s3.heap.objs.size) I9.unpinned (fun b o hb e => (sb.2 b hb).trans e) pC.2.1 hCL (.inr I3.sz) (fun z c e q => by
        obtain ⟨v, q2⟩ := I3.cell z c e
        exact absurd (q ▸ q2.lt) (Nat.lt_irrefl _)) fun p hp q => absurd (q ▸ Heap.lt_size (I3.pin p hp).1) (Nat.lt_irrefl _)
    · refine wpAny_mono (T.item (blk X N scope cl s3.heap.objs.size s3 (upd H2 s2.heap.objs.size (.lst [])) fp pins) rfl rfl rfl hc k [] s5 σ5 H5 _ I5 (fpB fr5) st5 go) (fun r s6 h6 => ?_) fun _ _ z => z
      obtain ⟨u, hr, h6⟩ := h6
      subst hr
      show wpAny _ _ (pure () >>= fun _ => assign (.Name x px) (compEnvC scope cl s3.heap.objs.size X.env) u) _ _ s6
      refine wpAny_bind (wpAny_mono (show wpAny _ _ (pure ()) _ _ s6 from h6) (fun _ s7 h7 => ?_) fun _ _ z => z)
      obtain ⟨v, H7, I7, r7, y7, st7, fr7⟩ := h7
      have I7' := I7.pinned (fpB fr7) (T.obj _ _ st7)
      refine wpAny_assign_Name (store_ok (X := blk X N scope cl s3.heap.objs.size s3 (upd H2 s2.heap.objs.size (.lst [])) fp pins) I7' B.nd B.ix (.inl (lookup_relabel_local B.loc)) r7 (fun s8 I8 => ?_) (.inr (lookup_relabel_local B.loc)))
      have back : ∀ {σ9 : St} {H9 : Hp} {s9 : Shared}, Inv (blk X N scope cl s3.heap.objs.size s3 (upd H2 s2.heap.objs.size (.lst [])) fp pins) ([] ++ pinsAt fp s7.heap) σ9 H9 s9 → (∃ m', m' < n ∧ W (k + 1) m' σ9 H9) →
          ∃ m', m' < n ∧ ∃ k σ' H', Inv (blk X N scope cl s3.heap.objs.size s3 (upd H2 s2.heap.objs.size (.lst [])) fp pins) [] σ' H' s9 ∧ tn k s9.heap ∧ (∀ b ∈ fp, H' b = none) ∧ W k m' σ' H' := fun {σ9 H9 s9} I9 q9 => by
        obtain ⟨m', hm, w9⟩ := q9
        refine ⟨m', hm, k + 1, σ9, H9, I9.unpinned, T.keep _ _ _ st7 fun b hb o e => (I9.pin (b, o) (List.mem_append_right _ (List.mem_append_right _ (mem_pinsAt hb e)))).1, fun b hb => ?_, w9⟩
        obtain ⟨o, e, d⟩ := T.obj _ _ st7 b hb
        exact (I9.pin (b, o) (List.mem_append_right _ (List.mem_append_right _ (mem_pinsAt hb e)))).2.1
      refine wpAny_mono (htt _ _ _ _ _ _ s8 _ H7 _ I8 (step v H7 y7)) (fun ok s9 h9 => ?_) fun _ _ z => False.elim z
      obtain ⟨H9, I9, q9⟩ := h9
      cases ok with
      | false =>
        rw [if_neg Bool.false_ne_true]
        rw [if_neg Bool.false_ne_true] at q9
        exact back I9 q9
      | true =>
        rw [if_pos rfl]
        rw [if_pos rfl] at q9
        refine wpAny_mono (hte _ _ _ _ _ _ s9 _ H9 _ I9 q9) (fun y s10 h10 => ?_) fun _ _ z => False.elim z
        obtain ⟨v10, H10, I10, r10, xs, hx10, hz, q10⟩ := h10
        refine wpAny_mono (mt_append (X := blk X N scope cl s3.heap.objs.size s3 (upd H2 s2.heap.objs.size (.lst [])) fp pins) _ s10 _ H10 (.ref s2.heap.objs.size) [v10] _ [y] (fun _ H11 => H11 = upd H10 s2.heap.objs.size (.lst (xs ++ [v10]))) I10 rfl (.cons r10 .nil) ⟨_, xs, v10, rfl, rfl, hx10, hz, rfl⟩) (fun _ s11 h11 => ?_) fun _ _ z => False.elim z
        obtain ⟨_, H11, I11, _, e11⟩ := h11
        subst e11
        exact back I11 q10
  exact codeAny_compStart_list (loop _ rfl) (T.self _ 0 _ _ _ st4 (loop _ rfl))

end L2.Internal
namespace L2.Internal
open PySem PySem.Spec PyProof.Rows

section
variable {prog : Program} {w : World} {A : Around} {E : Value → Shared → Prop} {s : Shared}
end

noncomputable abbrev zt1 (h : Heap) (t1 : Addr) : Heap := h.push { cls := .type "tuple_iterator", data := .fields #[.ref t1, .int 0 0] }
noncomputable abbrev zt2 (h : Heap) (t1 t2 : Addr) : Heap := (zt1 h t1).push { cls := .type "tuple_iterator", data := .fields #[.ref t2, .int 0 0] }
noncomputable abbrev zt3 (h : Heap) (t1 t2 : Addr) : Heap := (zt2 h t1 t2).push { cls := .type "tuple", data := .seq #[.ref h.objs.size, .ref (zt1 h t1).objs.size] }
noncomputable abbrev zt4 (h : Heap) (t1 t2 : Addr) : Heap := (zt3 h t1 t2).push { cls := .type "tuple", data := .seq #[.none, .none] }
noncomputable abbrev zt5 (h : Heap) (t1 t2 : Addr) : Heap := (zt4 h t1 t2).push { cls := .type "zip", data := .fields #[.none, .bool false, .bool false, .ref (zt2 h t1 t2).objs.size, .ref (zt3 h t1 t2).objs.size] }
section
variable {prog : Program} {w : World} {A : Around} {E : Value → Shared → Prop} {s : Shared}
end

noncomputable def Itzt (K : PySem.W.Frag) (a b : Addr) : It :=
  ⟨fun i H => ∃ xs ys x y, SqT K H a xs ∧ SqT K H b ys ∧ xs[i]? = some x ∧ ys[i]? = some y,
   fun i H v H' => ∃ T x y, v = .ref T ∧ H T = none ∧ H' = upd H T (.tup [x, y]) ∧ (∀ xs, SqT K H a xs → xs[i]? = some x) ∧ ∀ ys, SqT K H b ys → ys[i]? = some y,
   fun i H => ∃ xs ys, SqT K H a xs ∧ SqT K H b ys ∧ i = min xs.length ys.length⟩
noncomputable def ZTSt (z TI TO i1 i2 a b : Addr) (i : Nat) (h : Heap) : Prop := IsZip h z TI TO .none ∧ IsPair h TI (.ref i1) (.ref i2) ∧ (∃ u v, IsPair h TO u v) ∧ h.IsTupleIter i1 a i ∧ h.IsTupleIter i2 b i
noncomputable def iZipT (K : PySem.W.Frag) (ta : TA) : TI := fun σ H R => ta σ H fun vs H1 => ∃ a b, vs = [.ref a, .ref b] ∧ (∃ xs, SqT K H1 a xs) ∧ (∃ ys, SqT K H1 b ys) ∧ R (Itzt K a b) H1
section
variable {X : Cx}
end
end L2.Internal
namespace L2.Internal
open PySem PySem.Spec PyProof.Rows
theorem tuple_keys : typeLookup (.type "tuple") "keys" = pure none := by rw [typeLookup_type, builtinLookup_eq_fast]; kernel_rfl
section
variable {prog : Program} {w : World} {A : Around} {E : Value → Shared → Prop} {s : Shared}
theorem no_keys {a : Addr} {xs : Array Value} {k : Nat} {sl : Array (Option Value)} {Q : Option Value → Shared → Prop} (hx : s.heap.get? a = some { cls := .type "tuple", dict := none, data := .seq xs k, slots := sl }) (hA : A.handled = none)
    (q : ∀ h' tk, (∀ b o, s.heap.get? b = some o → h'.get? b = some o) → Q none { s with heap := h', toks := tk }) : wpAny (model prog w) A (getAttr? (.ref a) "keys") Q E s := by
  obtain ⟨hp, g, d, tk, os⟩ := s
  have hT : ∀ tk', (⟨hp, g, d, tk', os⟩ : Shared).TypeIs (.ref a) "tuple" := fun _ => ⟨_, hx, rfl⟩
  have f1 := sub_AttributeError
  have f3 := F.slot_tuple_getattribute.lookup
  have f4 := F.slot_tuple_getattribute.bind (.ref a)
  have f5 := am_tuple_getattr_none
  unfold getAttr? getAttrBy? getAttrBy
  repeat (any_goals (first | assumption | exact hT _ | ((with_reducible show wpAny _ _ (call (Value.builtin "tuple.__getattribute__") _ _) _ _ _); refine call_meets F.slot_tuple_getattribute (hT _) am_entry_tuple_getattribute (F.args_tuple_getattribute_2 _ _) (meets_getattribute_miss_tuple a xs k sl "keys" _ tuple_keys (by decide +kernel) (by decide +kernel)) ⟨hx, hA, fun h' tk' e hx' => ?_⟩) | wp_step))
  obtain ⟨t', u', he⟩ := hx'.there
  show wpAny _ _ (getattributeRaised _ _ _ _ _ _ _) _ _ _
  unfold getattributeRaised
  repeat (any_goals (first | assumption | wp_step))
  exact q h' tk' hx'.keeps
end

inductive Prs (H : Hp) : List V → List (Str × V) → Prop
  | nil : Prs H [] []
  | cons {a : Addr} {p : Str × V} {l : List V} {m : List (Str × V)} : H a = some (.tup [.str p.1, p.2]) → Prs H l m → Prs H (.ref a :: l) (p :: m)
theorem entry_upd_loop : entryFor table "dict.update.loop" = some Builtin.«dict.update.loop» := entryFor_of_tree (by kernel_rfl)
noncomputable def kf (p : Str × V) : Key × V := (Sum.inr p.1, p.2)
section
variable {X : Cx} {pins : List (Addr × Obj)} {σ : St} {H : Hp} {d it t : Addr} {vs : List V} {A : Around} {R : Result → Shared → Prop}
theorem upd_pairs (hA : A.handled = none) (hd : H d = none) (ht : H t = some (.tup vs)) : ∀ (rest : List (Str × V)) (ys : List V) (i : Nat) (acc : List (Key × V)) (s : Shared),
    Inv X pins σ (upd H d (.dK acc)) s → FpOk X pins (upd H d (.dK acc)) it → s.heap.IsTupleIter it t i → vs.drop i = ys → Prs H ys rest → acc.length + rest.length ≤ 1000 →
    (∀ s', Inv X pins σ (upd H d (.dK (mergeK acc (rest.map kf)))) s' → R (.ok (.ret .none)) s') →
    codeAny (model X.prog X.w) A (.builtin "dict.update.loop" ⟨[.ref d, .ref it, .int (i : Int) 0, .none], []⟩) R s
  | [], ys, i, acc, s, I, f, st, ey, hp, hn, k => by
    cases hp
    have ht' : (upd H d (.dK acc)) t = some (.tup vs) := by rw [upd_ne (ne_of_none ht hd)]; exact ht
    obtain ⟨its, rv, p, hz⟩ := I.tuple (SqT.of ht')
    obtain ⟨f0, f1, f2, f3, f4, f5⟩ := f
    have hl := rv.length
    have hi : vs.length ≤ i := List.drop_eq_nil_iff.mp ey
    refine codeAny_builtin entry_upd_loop ?_
    unfold Builtin.«dict.update.loop»
    show wpAny _ _ (pyNext (.ref it) >>= _) _ _ s
    refine wpAny_bind (wpAny_pyNext_tuple_end (by exact hA) st (show s.heap.IsTuple t its.toArray from p) (by simp; omega) fun h' eb => ?_)
    have I1 : Inv X pins σ (upd H d (.dK acc)) { s with heap := h' } := I.turned (t' := s.toks) (fun b o hb e => eb b o hb e) f0 f1 f3 f4 f5
    exact wpAny_bind (wpAny_pure (wpAny_pure (k _ I1)))
  | pr :: rest, ys, i, acc, s, I, f, st, ey, hp0, hn, k => by
    obtain ⟨a, l, rfl, ha, hp⟩ : ∃ a l, ys = .ref a :: l ∧ H a = some (.tup [.str pr.1, pr.2]) ∧ Prs H l rest := by
      cases hp0 with
      | cons h1 h2 => exact ⟨_, _, rfl, h1, h2⟩
    have ht' : (upd H d (.dK acc)) t = some (.tup vs) := by rw [upd_ne (ne_of_none ht hd)]; exact ht
    have ha' : (upd H d (.dK acc)) a = some (.tup [.str pr.1, pr.2]) := by rw [upd_ne (ne_of_none ha hd)]; exact ha
    obtain ⟨its, rv, p, hz⟩ := I.tuple (SqT.of ht')
    have ff := f
    obtain ⟨f0, f1, f2, f3, f4, f5⟩ := f
    have hvi : vs[i]? = some (.ref a) := by
      have := congrArg (·[0]?) ey
      simpa using this
    obtain ⟨u, hu, ru⟩ := rv.get hvi
    cases ru
    refine codeAny_builtin entry_upd_loop ?_
    unfold Builtin.«dict.update.loop»
    show wpAny _ _ (pyNext (.ref it) >>= _) _ _ s
    refine wpAny_bind (wpAny_pyNext_tuple_item st (show s.heap.IsTuple t its.toArray from p) (x := .ref a) (by simpa using hu) fun h' st' sb => ?_)
    have I1 : Inv X pins σ (upd H d (.dK acc)) { s with heap := h' } := I.turned (t' := s.toks) (fun b o hb e => (sb.2 b hb).trans e) f0 f1 f3 f4 f5
    obtain ⟨its2, rv2, ⟨ob, hob, hoc, on, hod⟩, _⟩ := I1.tuple (SqT.of ha')
    obtain ⟨kx, vx, rfl, ⟨tk, rfl⟩, rvx⟩ := vals2 rv2
    obtain ⟨z, hds, vs2, rel, dd⟩ := dk_of I1.hok (show (upd H d (.dK acc)) d = some (.dK acc) from upd_same)
    refine wpAny_bind (wpAny_holding (wpAny_bind (wpAny_tryCatch ?_)))
    unfold Builtin.Dict.pairItems
    refine wpAny_bind (wpAny_typeOf (T := "tuple") ⟨ob, hob, hoc⟩ ?_)
    rw [if_pos (by decide)]
    refine wpAny_bind (wpAny_seqItems hob hod ?_)
    refine wpAny_pure ?_
    show wpAny _ _ (holding [Value.str pr.1 tk, vx] (dictSet d (.str pr.1 tk) vx)) _ _ _
    have hv2 : vs2.length ≤ sizeLine := by rw [← rel.length]; exact z
    have hn' : acc.length + (rest.length + 1) ≤ 1000 := hn
    have hl : (putK acc (Sum.inr pr.1) pr.2).length ≤ 1000 := by have := length_putK acc (Sum.inr pr.1) pr.2; omega
    have hl2 : (putK acc (Sum.inr pr.1) pr.2).length + rest.length ≤ 1000 := by have := length_putK acc (Sum.inr pr.1) pr.2; omega
    refine wpAny_holding (wpAny_dictSet_pairs (hsz := hv2) (k := (Sum.inr pr.1 : Key)) (kV_is (k := (Sum.inr pr.1 : Key)) (show RelV (kV (Sum.inr pr.1)) _ from ⟨tk, rfl⟩)) dd fun h2 dd2 sb2 => ?_)
    have he : ∃ q, h2.get? d = some q := let ⟨q, _, _, hq, _⟩ := dd2; ⟨q, hq⟩
    have I2 := d_write (t' := s.toks + 1) I1 (by rw [upd_same]; exact True.intro) sb2 he (dk_new (kvs := putK acc (Sum.inr pr.1) pr.2) (Nat.le_trans hl (by decide)) hds (rel.put (Sum.inr pr.1) rvx) dd2)
    rw [upd_upd] at I2
    have hid : it ≠ d := fun e => by rw [e, upd_same] at f0; exact nomatch f0
    obtain ⟨oi, hoi, ri⟩ := st'
    have st2 : h2.IsTupleIter it t (i + 1) := ⟨oi, (sb2.2 it hid).trans hoi, ri⟩
    refine wpAny_pure ⟨Code.quiet_builtin _ (by decide +kernel), ?_⟩
    have ey2 : vs.drop (i + 1) = l := by rw [← List.tail_drop, ey]; rfl
    exact upd_pairs hA hd ht rest l (i + 1) (putK acc (Sum.inr pr.1) pr.2) _ I2 ⟨by rw [upd_ne hid] at f0 ⊢; exact f0, f1, f2, f3, f4, f5⟩ st2 ey2 hp hl2 k
end
section
variable {X : Cx}
theorem call_dictT (hc : X.calm = true) : CallR X (.type "dict") (fun xs H Q => ∃ (t : Addr) (vs : List V) (kvs : List (Str × V)), xs = [.ref t] ∧ H t = some (.tup vs) ∧ Prs H vs kvs ∧ kvs.length ≤ 1000 ∧ ∀ d, H d = none → Q (.ref d) (upd H d (.dK (mergeK [] (kvs.map kf))))) := by
  intro pins s σ H xs us Q I r h
  obtain ⟨t, vs, kvs, rfl, ht, hp, hn, q⟩ := h
  obtain ⟨u, rfl, ru⟩ := vals1 r
  cases ru
  obtain ⟨_, its, rv, o, ho, hcl, n, hd, hdd⟩ := (show ObjOk X.prog X.w H s.heap t (.tup vs) from I.hok t _ ht)
  obtain ⟨oc, od, odt, osl⟩ := o
  cases (show oc = _ from hcl)
  cases (show odt = _ from hd)
  cases (show od = _ from hdd)
  refine callType_codes (Q₁ := fun obj s₁ => obj = .ref s.heap.objs.size ∧ s₁ = { s with heap := s.heap.push { cls := .type "dict", data := .dict #[] } }) F.kt_called_dict (F.kt_typeCall_dict_1 _) F.entry_dict_init (kt_code_dict_new _ ⟨rfl, rfl⟩) ?_
  rintro obj s₁ ⟨rfl, rfl⟩
  have hnew : (s.heap.push { cls := .type "dict", data := .dict #[] }).DictOf (mixKind X.prog X.w) s.heap.objs.size [] := Heap.DictOf.new s.heap
  refine ⟨hnew.typeIs, F.args_dict_init_2 _ _, ?_⟩
  unfold Builtin.«dict.__init__»
  refine wpAny_bind ?_
  unfold Builtin.Dict.selfAndRest
  refine wpAny_bind (wpAny_notOrdered_dict hnew.typeIs ?_)
  show wpAny _ _ (pure (s.heap.objs.size, [Value.ref t])) _ _ _
  refine wpAny_pure ?_
  show wpAny _ _ (Builtin.Dict.updateFrom "dict.__init__" s.heap.objs.size (.ref t) [] .none) _ _ _
  unfold Builtin.Dict.updateFrom
  have ho1 := Heap.get?_push_of_some { cls := .type "dict", data := .dict #[] } ho
  refine wpAny_bind (wpAny_typeOf (T := "tuple") ⟨_, ho1, rfl⟩ ?_)
  rw [if_pos (by decide)]
  refine wpAny_bind (no_keys ho1 (by exact I.ok.hd hc) fun h1 tk1 kp1 => ?_)
  rw [if_pos (by rfl)]
  refine wpAny_bind (wpAny_rule ?_)
  have I1 : Inv X pins σ (upd H s.heap.objs.size (.dK [])) { s with heap := h1, toks := tk1 } := by
    refine I.laid (fun b u e => kp1 b u (Heap.get?_push_of_some _ e)) (Nat.le_refl _) (dk_new (by decide) ?_ .nil ?_)
    · have hb := I.big
      exact beq_false_of_ne (Nat.ne_of_gt hb)
    · obtain ⟨o, es, ep, ho, r⟩ := hnew
      exact ⟨o, es, ep, kp1 _ _ ho, r⟩
  have ho2 : h1.IsTuple t its.toArray := ⟨_, kp1 _ _ ho1, rfl, n, rfl⟩
  refine wpAny_bind (wpAny_pyIter_tuple (show ({ s with heap := h1, toks := tk1 } : Shared).heap.IsTuple t its.toArray from ho2) ?_)
  have f := I1.fpOk (Nat.le_refl _) (I1.hok.fresh (Nat.le_refl _))
  have I2 : Inv X pins σ (upd H s.heap.objs.size (.dK [])) { s with heap := h1.push { cls := .type "tuple_iterator", data := .fields #[.ref t, .int 0 0] }, toks := tk1 } := I1.kept (t' := tk1) fun b o e => Heap.get?_push_of_some _ e
  refine wpAny_pure ⟨Code.quiet_builtin _ (by decide +kernel), ?_⟩
  refine upd_pairs (A := X.A.in1) (by exact I.ok.hd hc) (I.hok.fresh (Nat.le_refl _)) ht kvs vs 0 [] _ I2 f ⟨_, Heap.get?_push_size _ rfl, rfl, rfl⟩ rfl hp (by simpa using hn) fun s' J => ?_
  exact ⟨rfl, .ref s.heap.objs.size, _, J, rfl, q _ (I.hok.fresh (Nat.le_refl _))⟩
end
end L2.Internal
namespace BO.Internal
open PySem L2.Internal
noncomputable def rIsi (K : PySem.W.Frag) : List V → Hp → VK → Prop := fun xs H Q => ∃ x v c t b, xs = [x, v] ∧ (∀ u, RelV v u → u = c) ∧ TyOf K H x t ∧ PySem.W.kitOne K t c = some b ∧ Q (.bl b) H
theorem sz {n : Nat} (h : n ≤ 100000) : n ≤ sizeLine := Nat.le_trans h (by decide)
theorem same_new {H : Hp} {p : Addr} (h : H p = none) (o : HO) : Same H (upd H p o) := fun b u q => by rw [upd_ne (ne_of_none q h)]; exact q
theorem atI_lt {α : Type} (l : List α) (i : Int) (h0 : 0 ≤ i) (h1 : i < (l.length : Int)) : ∃ c, atI l i = some c ∧ c ∈ l := by
  have e : i = ((i.toNat : Nat) : Int) := by omega
  have hi : i.toNat < l.length := by omega
  refine ⟨l[i.toNat], ?_, List.getElem_mem hi⟩
  have z : atI l ((i.toNat : Nat) : Int) = some l[i.toNat] := atI_nat (List.getElem?_eq_getElem hi)
  rw [← e] at z
  exact z
noncomputable def flN : V → Bool
  | .non => true
  | .int _ => true
  | .str _ => true
  | _ => false
mutual
inductive Im (H : Hp) : V → Dt → Prop where
  | flat {v : V} (h : flN v = true) : Im H v (.flat v)
  | tup {a : Addr} {xs : List V} {ds : List Dt} (h : H a = some (.tup xs)) (hs : Ims H xs ds) : Im H (.ref a) (.tup ds)
inductive Ims (H : Hp) : List V → List Dt → Prop where
  | nil : Ims H [] []
  | cons {x : V} {d : Dt} {xs : List V} {ds : List Dt} (h : Im H x d) (hs : Ims H xs ds) : Ims H (x :: xs) (d :: ds)
end
mutual
inductive Dta (H : Hp) : V → Dt → Prop where
  | flat {v : V} (h : flN v = true) : Dta H v (.flat v)
  | tup {a : Addr} {xs : List V} {ds : List Dt} (h : H a = some (.tup xs)) (hs : Dtas H xs ds) : Dta H (.ref a) (.tup ds)
  | lst {a : Addr} {xs : List V} {ds : List Dt} (h : H a = some (.lst xs)) (hs : Dtas H xs ds) : Dta H (.ref a) (.lst ds)
inductive Dtas (H : Hp) : List V → List Dt → Prop where
  | nil : Dtas H [] []
  | cons {x : V} {d : Dt} {xs : List V} {ds : List Dt} (h : Dta H x d) (hs : Dtas H xs ds) : Dtas H (x :: xs) (d :: ds)
end
noncomputable def TK (H H' : Hp) : Prop := ∀ a xs, H a = some (.tup xs) → H' a = some (.tup xs)
theorem Same.tk {H H' : Hp} (s : Same H H') : TK H H' := fun a xs e => s a _ e
mutual
theorem Im.mono {H H' : Hp} (k : TK H H') : ∀ {v : V} {d : Dt}, Im H v d → Im H' v d
  | _, _, .flat h => .flat h
  | _, _, .tup h hs => .tup (k _ _ h) (Ims.mono k hs)
theorem Ims.mono {H H' : Hp} (k : TK H H') : ∀ {v : List V} {d : List Dt}, Ims H v d → Ims H' v d
  | _, _, .nil => .nil
  | _, _, .cons h hs => .cons (Im.mono k h) (Ims.mono k hs)
end
theorem Ims.length {H : Hp} : ∀ {xs : List V} {ds : List Dt}, Ims H xs ds → xs.length = ds.length
  | _, _, .nil => rfl
  | _, _, .cons _ t => by rw [List.length_cons, List.length_cons, Ims.length t]
theorem Ims.app {H : Hp} : ∀ {xs ys : List V} {ds es : List Dt}, Ims H xs ds → Ims H ys es → Ims H (xs ++ ys) (ds ++ es)
  | _, _, _, _, .nil, h => h
  | _, _, _, _, .cons a b, h => .cons a (Ims.app b h)
inductive All2 {α β : Type} (F : α → β → Prop) : List α → List β → Prop
  | nil : All2 F [] []
  | cons {a : α} {b : β} {l : List α} {m : List β} : F a b → All2 F l m → All2 F (a :: l) (b :: m)
theorem All2.imp {α β : Type} {F G : α → β → Prop} (f : ∀ a b, F a b → G a b) : ∀ {l : List α} {m : List β}, All2 F l m → All2 G l m
  | _, _, .nil => .nil
  | _, _, .cons h t => .cons (f _ _ h) (All2.imp f t)
theorem All2.snoc {α β : Type} {F : α → β → Prop} {a : α} {b : β} (h : F a b) : ∀ {l : List α} {m : List β}, All2 F l m → All2 F (l ++ [a]) (m ++ [b])
  | _, _, .nil => .cons h .nil
  | _, _, .cons x t => .cons x (All2.snoc h t)
theorem All2.length {α β : Type} {F : α → β → Prop} : ∀ {l : List α} {m : List β}, All2 F l m → l.length = m.length
  | _, _, .nil => rfl
  | _, _, .cons _ t => by rw [List.length_cons, List.length_cons, All2.length t]
theorem All2.get {α β : Type} {F : α → β → Prop} : ∀ {l : List α} {m : List β} {j : Nat} {x : α}, All2 F l m → l[j]? = some x → ∃ y, m[j]? = some y ∧ F x y
  | _, _, 0, _, .cons h _, e => ⟨_, rfl, by cases e; exact h⟩
  | _, _, j + 1, _, .cons _ t, e => by
    rw [List.getElem?_cons_succ] at e
    obtain ⟨d, e1, e2⟩ := All2.get t e
    exact ⟨d, by rw [List.getElem?_cons_succ]; exact e1, e2⟩

mutual
noncomputable def okD : Dt → Prop
  | .flat _ => True
  | .tup l => l.length ≤ 100000 ∧ okDs l
  | .lst l => l.length ≤ 100000 ∧ okDs l
noncomputable def okDs : List Dt → Prop
  | [] => True
  | x :: xs => okD x ∧ okDs xs
end
noncomputable def prL (p : Str × Int) : Dt := .tup [.flat (.str p.1), .flat (.int p.2)]
noncomputable def prD (l : List (Str × Int)) : Dt := .tup (l.map prL)
inductive Us where
  | num (a p s : Int)
  | call (a p s x y : Int)
  | take (a p s : Int) (l : List (Str × Int))
  | case (a p s : Int) (l : List (Str × Int))
  | row (a p s x : Int)
noncomputable def hdD (n : Str) (a p s : Int) : List Dt := [.flat (.str n), .flat (.int a), .flat (.int p), .flat (.int s)]
noncomputable def Us.d : Us → Dt
  | .num a p s => .tup (hdD "num" a p s)
  | .call a p s x y => .tup (hdD "call" a p s ++ [.flat (.int x), .flat (.int y)])
  | .take a p s l => .tup (hdD "take" a p s ++ [prD l])
  | .case a p s l => .tup (hdD "case" a p s ++ [prD l])
  | .row a p s x => .tup (hdD "row" a p s ++ [.flat (.int x)])
noncomputable def Us.ok : Us → Prop
  | .take _ _ _ l => l.length ≤ 10
  | .case _ _ _ l => l.length ≤ 10
  | _ => True
structure Mkg where
  s : Str
  f : Dt
  a : Int
  p : Int
noncomputable def Mkg.d (m : Mkg) : Dt := .tup [.flat (.str m.s), m.f, .flat (.int m.a), .flat (.int m.p)]
noncomputable def fU (a p s : V) : List (Str × V) := [("at", a), ("place", p), ("slot", s)]
noncomputable def fU1 (n : Str) (a p s x : V) : List (Str × V) := [("at", a), ("place", p), ("slot", s), (n, x)]
noncomputable def fU2 (a p s x y : V) : List (Str × V) := [("at", a), ("place", p), ("slot", s), ("arg", x), ("out", y)]
noncomputable def fM (s f a p : V) : List (Str × V) := [("shape", s), ("parts", f), ("at", a), ("place", p)]
noncomputable def fB (p0 p1 p2 p3 : Addr) (r : V) : List (Str × V) := [("points", .ref p0), ("makes", .ref p1), ("uses", .ref p2), ("flows", .ref p3), ("root", r)]
structure Cs where
  M : Addr
  N : Addr
  C : Addr
  T : Addr
  K : Addr
  R : Addr
  B : Addr
noncomputable def UsAt (c : Cs) (H : Hp) (v : V) : Us → Prop
  | .num a p s => ∃ x dx, v = .ref x ∧ H x = some (.ins c.N dx (fU (.int a) (.int p) (.int s)))
  | .call a p s y z => ∃ x dx, v = .ref x ∧ H x = some (.ins c.C dx (fU2 (.int a) (.int p) (.int s) (.int y) (.int z)))
  | .take a p s l => ∃ x dx f, v = .ref x ∧ H x = some (.ins c.T dx (fU1 "fields" (.int a) (.int p) (.int s) f)) ∧ Im H f (prD l) ∧ l.length ≤ 10
  | .case a p s l => ∃ x dx f, v = .ref x ∧ H x = some (.ins c.K dx (fU1 "arms" (.int a) (.int p) (.int s) f)) ∧ Im H f (prD l) ∧ l.length ≤ 10
  | .row a p s y => ∃ x dx, v = .ref x ∧ H x = some (.ins c.R dx (fU1 "out" (.int a) (.int p) (.int s) (.int y)))
noncomputable def MkAt (c : Cs) (H : Hp) (v : V) (m : Mkg) : Prop := ∃ x dx f, v = .ref x ∧ H x = some (.ins c.M dx (fM (.str m.s) f (.int m.a) (.int m.p))) ∧ Im H f m.f ∧ depD m.f ≤ 2 ∧ okD m.f
noncomputable def Fz : HO → Prop
  | .tup _ => True
  | .ins _ _ fs => fs.length ≠ 5 ∨ ∃ v r, fs = (("at" : Str), v) :: r
  | _ => False
noncomputable def FK (H H' : Hp) : Prop := ∀ a o, H a = some o → Fz o → H' a = some o
theorem FK.tk {H H' : Hp} (k : FK H H') : TK H H' := fun a xs e => k a _ e trivial
theorem FK.trans {H H1 H2 : Hp} (a : FK H H1) (b : FK H1 H2) : FK H H2 := fun c o e f => b c o (a c o e f) f
theorem UsAt.mono {c : Cs} {H H' : Hp} {v : V} (k : FK H H') : ∀ {u : Us}, UsAt c H v u → UsAt c H' v u
  | .num _ _ _, ⟨x, dx, e, h⟩ => ⟨x, dx, e, k _ _ h (.inr ⟨_, _, rfl⟩)⟩
  | .call _ _ _ _ _, ⟨x, dx, e, h⟩ => ⟨x, dx, e, k _ _ h (.inr ⟨_, _, rfl⟩)⟩
  | .take _ _ _ _, ⟨x, dx, f, e, h, i, n⟩ => ⟨x, dx, f, e, k _ _ h (.inr ⟨_, _, rfl⟩), i.mono k.tk, n⟩
  | .case _ _ _ _, ⟨x, dx, f, e, h, i, n⟩ => ⟨x, dx, f, e, k _ _ h (.inr ⟨_, _, rfl⟩), i.mono k.tk, n⟩
  | .row _ _ _ _, ⟨x, dx, e, h⟩ => ⟨x, dx, e, k _ _ h (.inr ⟨_, _, rfl⟩)⟩
theorem MkAt.mono {c : Cs} {H H' : Hp} {v : V} {m : Mkg} (k : FK H H') : MkAt c H v m → MkAt c H' v m
  | ⟨x, dx, f, e, h, i, d⟩ => ⟨x, dx, f, e, k _ _ h (.inl (by show 4 ≠ 5; decide)), i.mono k.tk, d⟩

theorem lc_gen {J : It} {i : Nat} {te : TE} {Q : VK} {τ : St} {H1 : Hp} {D : Addr} (n : Nat) (hn : n < sizeLine) (R : List V → Hp → Prop) (hR : ∀ xs H H', R xs H → TK H H' → R xs H') (hD : H1 D = none) (hτ : τ.set i none = τ)
    (hgo : ∀ k H, Same H1 H → k < n → J.go k H) (hst : ∀ H, Same H1 H → J.stop n H) (h0 : R [] H1)
    (step : ∀ k H v H3 xs (Z : VK), Same H1 H → k < n → J.yld k H v H3 → R xs H → xs.length = k → (∀ y H5, Same H H5 → R (xs ++ [y]) H5 → Z y H5) → te (τ.set i (some v)) H3 Z)
    (hq : ∀ H' xs, Same H1 H' → R xs H' → xs.length = n → H' D = some (.lst xs) → Q (.ref D) H') : LcP J i tAlways te Q τ H1 D := by
  have nd : ∀ (H5 : Hp) (xs ys : List V), H5 D = some (.lst xs) → TK H5 (upd H5 D (.lst ys)) := fun H5 xs ys e a zs q => by rw [upd_ne (ne_of q e (fun z => nomatch z))]; exact q
  have up : ∀ {H : Hp} (o : HO), Same H1 H → Same H1 (upd H D o) := fun {H} o S b u e => by rw [upd_ne (ne_of_none e hD)]; exact S b u e
  refine ⟨fun k m σ' H2 => m = n - k ∧ k ≤ n ∧ (∃ o, σ' = τ.set i o) ∧ Same H1 H2 ∧ ∃ xs, H2 D = some (.lst xs) ∧ xs.length = k ∧ R xs H2, ⟨n, by simp, Nat.zero_le _, ⟨none, hτ.symm⟩, same_new hD _, [], upd_same, rfl, hR _ _ _ h0 (Same.tk (same_new hD _))⟩, ?_⟩
  rintro k m σ' H2 ⟨rfl, hk, ⟨o, rfl⟩, S, xs, e, hl, hr⟩
  by_cases hlt : k < n
  · refine .inr ⟨hgo k H2 S hlt, fun v H3 y => ?_⟩
    rw [List.set_set]
    refine step k H2 v H3 xs _ S hlt y hr hl fun y H5 S5 r5 => ?_
    refine ⟨xs, S5 D _ e, by omega, n - (k + 1), by omega, rfl, hlt, ⟨some v, rfl⟩, up _ (S.trans S5), xs ++ [y], upd_same, by rw [List.length_append, hl]; rfl, hR _ _ _ r5 (nd H5 _ _ (S5 D _ e))⟩
  · have e1 : k = n := by omega
    subst e1
    exact .inl ⟨hst H2 S, hq H2 xs S hr hl e⟩
theorem go_lst {K : PySem.W.Frag} {a : Addr} {xs : List V} {k : Nat} {H1 H : Hp} (e : H1 a = some (.lst xs)) (S : Same H1 H) (h : k < xs.length) : (Itl K a).go k H := ⟨xs, xs[k], SqL.of (S a _ e), List.getElem?_eq_getElem h⟩
theorem st_lst {K : PySem.W.Frag} {a : Addr} {xs : List V} {H1 H : Hp} (e : H1 a = some (.lst xs)) (S : Same H1 H) : (Itl K a).stop xs.length H := ⟨xs, SqL.of (S a _ e), Nat.le_refl _⟩
theorem go_tup {K : PySem.W.Frag} {a : Addr} {xs : List V} {k : Nat} {H1 H : Hp} (e : H1 a = some (.tup xs)) (S : Same H1 H) (h : k < xs.length) : (Itt K a).go k H := ⟨xs, xs[k], SqT.of (S a _ e), List.getElem?_eq_getElem h⟩
theorem st_tup {K : PySem.W.Frag} {a : Addr} {xs : List V} {H1 H : Hp} (e : H1 a = some (.tup xs)) (S : Same H1 H) : (Itt K a).stop xs.length H := ⟨xs, SqT.of (S a _ e), Nat.le_refl _⟩
inductive Ls (H : Hp) : List Addr → List (List V) → Prop
  | nil : Ls H [] []
  | cons {a : Addr} {c : List V} {l : List Addr} {m : List (List V)} : H a = some (.lst c) → Ls H l m → Ls H (a :: l) (c :: m)
theorem Ls.other {H : Hp} {b : Addr} {o : HO} : ∀ {l : List Addr} {m : List (List V)}, Ls H l m → b ∉ l → Ls (upd H b o) l m
  | _, _, .nil, _ => .nil
  | _, _, .cons (a := a) h t, n => .cons (by rw [upd_ne (fun z => n (by simp [z]))]; exact h) (Ls.other t fun z => n (by simp [z]))
theorem Ls.frame {H H' : Hp} {M : List Addr} (k : ∀ a o, H a = some o → a ∉ M → H' a = some o) : ∀ {l : List Addr} {m : List (List V)}, Ls H l m → (∀ a ∈ l, a ∉ M) → Ls H' l m
  | _, _, .nil, _ => .nil
  | _, _, .cons (a := a) h t, n => .cons (k _ _ h (n a (by simp))) (Ls.frame k t fun b hb => n b (by simp [hb]))
structure Sd where
  b : Addr
  dx : Addr
  p0 : Addr
  p1 : Addr
  p2 : Addr
  p3 : Addr
  d : Addr
  q0 : Addr
  q1 : Addr
  q2 : Addr
  q3 : Addr
noncomputable def Sd.ls (S : Sd) : List Addr := [S.p0, S.p1, S.p2, S.p3, S.d, S.q0, S.q1, S.q2, S.q3]
structure Bd where
  pts : List Int
  mks : List Mkg
  uss : List Us
  fls : List (Int × Int)
  root : Int
noncomputable def flD (p : Int × Int) : Dt := .tup [.flat (.int p.1), .flat (.int p.2)]
structure BSx (c : Cs) (H : Hp) (S : Sd) (E D : Bd) : Prop where
  nd : S.ls.Nodup
  ob : H S.b = some (.ins c.B S.dx (fB S.p0 S.p1 S.p2 S.p3 (.int D.root)))
  st : ∃ mv uv fv mv' uv' fv' : List V, Ls H S.ls [D.pts.map V.int, mv, uv, fv, [.ref S.q0, .ref S.q1, .ref S.q2, .ref S.q3, .int E.root], E.pts.map V.int, mv', uv', fv'] ∧
    All2 (MkAt c H) mv D.mks ∧ All2 (UsAt c H) uv D.uss ∧ Ims H fv (D.fls.map flD) ∧ Ims H mv' (E.mks.map Mkg.d) ∧ Ims H uv' (E.uss.map Us.d) ∧ Ims H fv' (E.fls.map flD)
theorem fk_lst {H : Hp} {a : Addr} {xs : List V} {o : HO} (h : H a = some (.lst xs)) : FK H (upd H a o) := fun b u e f => by
  rw [upd_ne (ne_of e h (fun z => by rw [z] at f; exact f))]
  exact e
section
variable {c : Cs} {H H' : Hp} {S : Sd} {E D : Bd}
theorem BSx.frame {M : List Addr} (B : BSx c H S E D) (k : ∀ a o, H a = some o → a ∉ M → H' a = some o) (hb : S.b ∉ M) (hl : ∀ a ∈ S.ls, a ∉ M) (fk : FK H H') : BSx c H' S E D := by
  obtain ⟨nd, ob, mv, uv, fv, mv', uv', fv', L, h1, h2, h3, h4, h5, h6⟩ := B
  exact ⟨nd, k _ _ ob hb, mv, uv, fv, mv', uv', fv', L.frame k hl, h1.imp fun _ _ => MkAt.mono fk, h2.imp fun _ _ => UsAt.mono fk, h3.mono fk.tk, h4.mono fk.tk, h5.mono fk.tk, h6.mono fk.tk⟩
end
theorem BSx.hl {c : Cs} {H : Hp} {S : Sd} {E D : Bd} {l : Addr} {xs : List V} {o : HO} (B : BSx c H S E D) (hn : l ∉ S.ls) (e : H l = some (.lst xs)) : BSx c (upd H l o) S E D := by
  refine B.frame (M := [l]) (fun a u q n => ?_) (fun z => ?_) (fun a ha z => ?_) (fk_lst e)
  · rw [upd_ne (fun z => n (by simp [z]))]; exact q
  · have z' : S.b = l := by simpa using z
    have q := B.ob
    rw [z', e] at q
    cases q
  · have z' : a = l := by simpa using z
    rw [z'] at ha
    exact hn ha
noncomputable def Bd.sm (D : Bd) (n : Nat) : Prop := D.pts.length ≤ n ∧ D.mks.length ≤ n ∧ D.uss.length ≤ n ∧ D.fls.length ≤ n
noncomputable def Hld (c : Cs) (H : Hp) (l : Addr) : Prop := H l = some (.lst []) ∨ ∃ x t u, H l = some (.lst [x, t]) ∧ UsAt c H x u ∧ Im H t (Us.d u)
noncomputable def Frm (M : List Addr) (H H' : Hp) : Prop := ∀ a o, H a = some o → a ∉ M → H' a = some o
theorem Frm.trans {M : List Addr} {H H1 H2 : Hp} (a : Frm M H H1) (b : Frm M H1 H2) : Frm M H H2 := fun c o e n => b c o (a c o e n) n
theorem Frm.same {M : List Addr} {H H' : Hp} (s : Same H H') : Frm M H H' := fun a o e _ => s a o e
theorem Frm.upd {M : List Addr} {H : Hp} {a : Addr} {o : HO} (h : a ∈ M) : Frm M H (upd H a o) := fun b u e n => by rw [upd_ne (fun z => n (by rw [z]; exact h))]; exact e
noncomputable def bdD (D : Bd) : Dt := .lst [.lst (D.pts.map fun i => .flat (.int i)), .lst (D.mks.map Mkg.d), .lst (D.uss.map Us.d), .lst (D.fls.map flD), .flat (.int D.root)]
end BO.Internal
namespace BO.Internal
open PySem L2.Internal
noncomputable def lk : List (Str × Int) → Str → Option Int
  | [], _ => none
  | p :: t, w => if p.1 = w then some p.2 else lk t w
noncomputable def pI (p : Str × Int) : Str × V := (p.1, .int p.2)
noncomputable def Dist (l : List (Str × Int)) : Prop := (l.map Prod.fst).Nodup
inductive Mf where
  | num
  | fn (x y : Int)
  | rcd (l : List (Str × Int))
  | tag (w : Str) (x : Int)
  | row (x : Int)
  | any
noncomputable def Mf.s : Mf → Str
  | .num => "num"
  | .fn _ _ => "fn"
  | .rcd _ => "rec"
  | .tag _ _ => "tag"
  | .row _ => "row"
  | .any => "any"
noncomputable def Mf.f : Mf → Dt
  | .num => .tup []
  | .fn x y => .tup [.flat (.int x), .flat (.int y)]
  | .rcd l => prD l
  | .tag w x => .tup [.flat (.str w), .flat (.int x)]
  | .row x => .tup [.flat (.int x)]
  | .any => .tup []
noncomputable def Mf.ok : Mf → Prop
  | .rcd l => l.length ≤ 10 ∧ Dist l
  | _ => True
noncomputable def mkg (m : Mf) (a p : Int) : Mkg := ⟨m.s, m.f, a, p⟩
noncomputable def Us.dist : Us → Prop
  | .take _ _ _ l => Dist l
  | .case _ _ _ l => Dist l
  | _ => True
noncomputable def fnd (m : List (Str × Int)) (p : Str × Int) : Option (Int × Int) := (lk m p.1).map fun x => (x, p.2)
noncomputable def taken (l m : List (Str × Int)) : Option (List (Int × Int)) := if (l.filterMap (fnd m)).length = l.length then some (l.filterMap (fnd m)) else none
noncomputable def meet : Us → Mf → Option (List (Int × Int))
  | .num _ _ _, .num => some []
  | .call _ _ _ x y, .fn a b => some [(x, a), (b, y)]
  | .take _ _ _ l, .rcd m => taken l m
  | .case _ _ _ l, .tag w x => (lk l w).map fun y => [(x, y)]
  | .row _ _ _ y, .row x => some [(x, y)]
  | _, _ => none
noncomputable def mtD : Option (List (Int × Int)) → Dt
  | none => .flat .non
  | some l => .lst (l.map flD)
end BO.Internal
namespace L2.Internal
open PySem PySem.Spec PyProof.Rows
section
variable {X : Cx} {e a b o f : Expr} {st : Stmt} {ta tb td ty tx to : TE} {pos apos cpos : Pos}
theorem PE.weak {t t' : TE} (h : PE X e t) (m : ∀ σ H Q, t' σ H Q → t σ H Q) : PE X e t' := fun pins s σ H Q I q => h pins s σ H Q I (m σ H Q q)
theorem PT.weak {t t' : TT} (h : PT X e t) (m : ∀ σ H Q, t' σ H Q → t σ H Q) : PT X e t' := fun pins s σ H Q I q => h pins s σ H Q I (m σ H Q q)
theorem OpR.weak {g : Value → Value → Sem Value} {r r' : R2} (h : OpR X g r) (m : ∀ x y H Q, r' x y H Q → r x y H Q) : OpR X g r' := fun pins s σ H x y v u Q I rx ry q => h pins s σ H x y v u Q I rx ry (m x y H Q q)
theorem IxR.weak {r r' : R2} (h : IxR X r) (m : ∀ x y H Q, r' x y H Q → r x y H Q) : IxR X r' := fun value slice pins s σ H x y v u Q I rx ry q hs => h value slice pins s σ H x y v u Q I rx ry (m x y H Q q) hs
noncomputable def mT (t : TE) : TE := fun σ H Q => ∃ Q0 : VK, t σ H Q0 ∧ ∀ x H1, Q0 x H1 → Q x H1
theorem PE.mono {t : TE} (h : PE X e t) : PE X e (mT t) := fun pins s σ H Q I ⟨Q0, h0, m⟩ => thn (h pins s σ H Q0 I h0) fun v s1 ⟨x, H1, I1, r1, q1⟩ => ⟨x, H1, I1, r1, m x H1 q1⟩
noncomputable def mR (r : R2) : R2 := fun x y H Q => ∃ Q0 : VK, r x y H Q0 ∧ ∀ x H1, Q0 x H1 → Q x H1
theorem OpR.mono {g : Value → Value → Sem Value} {r : R2} (h : OpR X g r) : OpR X g (mR r) := fun pins s σ H x y v u Q I rx ry ⟨Q0, h0, m⟩ => thn (h pins s σ H x y v u Q0 I rx ry h0) fun v s1 ⟨x, H1, I1, r1, q1⟩ => ⟨x, H1, I1, r1, m x H1 q1⟩
noncomputable def onV : Option (Option V) → (V → Prop) → Prop
  | some (some v), k => k v
  | _, _ => False
noncomputable def onS {α : Type} : Option α → (α → Prop) → Prop
  | some v, k => k v
  | none, _ => False
theorem onS_of {α : Type} {x : Option α} {v : α} {k : α → Prop} (h : x = some v) (q : k v) : onS x k := by rw [h]; exact q
theorem onS_ex {α : Type} {x : Option α} {k : α → Prop} (h : onS x k) : ∃ v, x = some v ∧ k v := by
  cases x with
  | none => exact h.elim
  | some v => exact ⟨v, rfl, h⟩
noncomputable def cV (i : Nat) : TE := fun σ H Q => onV σ[i]? fun v => Q v H
theorem cv (i : Nat) {x : Str} {pos : Pos} (hN : autoParam (X.N[i]? = some x) L2.Internal.auR._auto_1) (hv : Vis X.env.scope x := by first | exact Or.inl rfl | exact Or.inr (Or.inl rfl) | exact Or.inr (Or.inr rfl)) (hd : autoParam ((x == ("__debug__" : Str)) = false) L2.Internal.auD._auto_1)
    (hcd : autoParam ((x == ("__classdict__" : Str)) = false) L2.Internal.auD._auto_1) : PE X (.Name x pos) (cV i) := (pv i hN hv hd hcd).weak fun σ H Q h => by
  unfold cV at h
  cases q : σ[i]? with
  | none => rw [q] at h; exact h.elim
  | some o =>
    rw [q] at h
    cases o with
    | none => exact h.elim
    | some v => exact ⟨v, q, h⟩
noncomputable def cI0 (g : Int → Int → V) : R2 := fun x y H Q => match x, y with
  | .int i, .int j => Q (g i j) H
  | _, _ => False
noncomputable def cI (C : Int → Int → Prop) (g : Int → Int → V) : R2 := fun x y H Q => match x, y with
  | .int i, .int j => C i j ∧ Q (g i j) H
  | _, _ => False
theorem cI0_of {g : Int → Int → V} : ∀ x y H Q, cI0 g x y H Q → rI0 g x y H Q := fun x y H Q h => by
  unfold cI0 at h
  split at h
  · exact ⟨_, _, rfl, rfl, h⟩
  · exact h.elim
theorem cI_of {C : Int → Int → Prop} {g : Int → Int → V} : ∀ x y H Q, cI C g x y H Q → rI C g x y H Q := fun x y H Q h => by
  unfold cI at h
  split at h
  · exact ⟨_, _, rfl, rfl, h.1, h.2⟩
  · exact h.elim
theorem oc_add : OpR X (binaryOp .Add) (cI0 fun i j => .int (i + j)) := op_add.weak cI0_of
theorem oc_sub : OpR X (binaryOp .Sub) (cI0 fun i j => .int (i - j)) := op_sub.weak cI0_of
theorem oc_mul : OpR X (binaryOp .Mult) (cI CMul fun i j => .int (i * j)) := op_mul.weak cI_of
theorem oc_fdiv : OpR X (binaryOp .FloorDiv) (cI CDiv fun i j => .int (i / j)) := op_fdiv.weak cI_of
theorem oc_mod : OpR X (binaryOp .Mod) (cI (fun _ j => 0 < j) fun i j => .int (i % j)) := op_mod.weak cI_of
theorem oc_pow : OpR X (binaryOp .Pow) (cI CPow fun i j => .int (i ^ j.toNat)) := op_pow.weak cI_of
theorem oc_lt : OpR X (compareOp .Lt) (cI0 fun i j => .bl (decide (i < j))) := op_lt.weak cI0_of
theorem oc_gt : OpR X (compareOp .Gt) (cI0 fun i j => .bl (decide (j < i))) := op_gt.weak cI0_of
noncomputable def cEq (n : Bool) : R2 := fun x y H Q => match x, y with
  | .int i, .int j => Q (.bl (xor n (decide (i = j)))) H
  | .str i, .str j => Q (.bl (xor n (decide (i = j)))) H
  | _, _ => False
theorem decS {i j : Str} : decide (V.str i = V.str j) = decide (i = j) := by
  rw [Bool.eq_iff_iff]
  simp
theorem decI {i j : Int} : decide (V.int i = V.int j) = decide (i = j) := by
  rw [Bool.eq_iff_iff]
  simp
theorem oc_eq : OpR X (compareOp .Eq) (cEq false) := op_eq.weak fun x y H Q h => by
  unfold cEq at h
  split at h
  · refine ⟨rfl, ?_⟩; rw [decI]; rw [Bool.false_xor] at h; exact h
  · refine ⟨rfl, ?_⟩; rw [decS]; rw [Bool.false_xor] at h; exact h
  · exact h.elim
theorem oc_ne : OpR X (compareOp .NotEq) (cEq true) := op_ne.weak fun x y H Q h => by
  unfold cEq at h
  split at h
  · refine ⟨rfl, ?_⟩; rw [decI]; rw [Bool.true_xor] at h; exact h
  · refine ⟨rfl, ?_⟩; rw [decS]; rw [Bool.true_xor] at h; exact h
  · exact h.elim
noncomputable def onB : V → (Bool → Prop) → Prop
  | .bl k, q => q k
  | _, _ => False
theorem onB_ex {x : V} {k : Bool → Prop} (h : onB x k) : ∃ c, x = .bl c ∧ k c := by
  cases x <;> first | exact ⟨_, rfl, h⟩ | exact h.elim
noncomputable def cT (t : TE) : TT := fun σ H Q => t σ H fun x H' => onB x fun k => Q k H'
theorem ptc_cmpR {op : CmpOp} {r : R2} (ho : OpR X (compareOp op) r) (ha : PE X a ta) (hb : PE X b tb) (hm : behindInMarks op b = false) : PT X (.Compare a [op] [b] pos) (cT (tOp r ta tb)) :=
  (pt_cmpR ho.mono ha.mono hb.mono hm).weak fun σ H Q h => ⟨_, h, fun x H1 h1 => ⟨_, h1, fun y H2 h2 => ⟨_, h2, fun z H' h3 => onB_ex h3⟩⟩⟩
noncomputable def cIxL : R2 := fun x y H Q => match x, y with
  | .ref p, .int i => ∃ xs, H p = some (.lst xs) ∧ onS (atI xs i) fun v => Q v H
  | _, _ => False
noncomputable def cIxT : R2 := fun x y H Q => match x, y with
  | .ref p, .int i => ∃ xs, H p = some (.tup xs) ∧ onS (atI xs i) fun v => Q v H
  | _, _ => False
noncomputable def cIxS : R2 := fun x y H Q => match x, y with
  | .str z, .int i => z.length ≤ sizeLine ∧ onS (atI z.cps.toList i) fun c => Q (.str ⟨#[c]⟩) H
  | _, _ => False
theorem xc_list : IxR X cIxL := ix_list.weak fun x y H Q h => by
  unfold cIxL at h
  split at h
  · obtain ⟨xs, e, h⟩ := h
    obtain ⟨v, ev, h⟩ := onS_ex h
    exact ⟨_, xs, _, v, rfl, rfl, SqL.of e, ev, h⟩
  · exact h.elim
theorem xc_tup : IxR X cIxT := ix_tup.weak fun x y H Q h => by
  unfold cIxT at h
  split at h
  · obtain ⟨xs, e, h⟩ := h
    obtain ⟨v, ev, h⟩ := onS_ex h
    exact ⟨_, xs, _, v, rfl, rfl, SqT.of e, ev, h⟩
  · exact h.elim
noncomputable def Fd (H : Hp) (a C : Addr) (f : Str) (v : V) : Prop := ∃ dx fs, H a = some (.ins C dx fs) ∧ fs.lookup f = some v
noncomputable def Nf (H : Hp) (a C : Addr) (m : Str) : Prop := ∃ dx fs, H a = some (.ins C dx fs) ∧ fs.lookup m = none
noncomputable def cFld (C : Addr) (f : Str) (ta : TE) : TE := fun σ H Q => ta σ H fun x H1 => match x with
  | .ref a => ∃ v, Fd H1 a C f v ∧ Q v H1
  | _ => False
noncomputable def cMeth (C : Addr) (m : Str) (sp : Sp) (dvs : List V) (E : XK) (ta : TE) (t : TA) : TE := fun σ H Q => ta σ H fun x H1 => match x with
  | .ref a => Nf H1 a C m ∧ t σ H1 fun vs H2 => sp (.ref a :: (vs ++ dvs)) H2 Q E
  | _ => False
noncomputable def csFld (C : Addr) (f : Str) (ta tv : TE) : TS := fun D σ H => tv σ H fun y H1 => ta σ H1 fun x H2 => match x with
  | .ref a => ∃ dx fs, H2 a = some (.ins C dx fs) ∧ fs.length < 1000 ∧ D.nx σ (upd H2 a (.ins C dx (putF f y fs)))
  | _ => False
noncomputable def cS : R2 := fun x y H Q => match x, y with
  | .str i, .str j => i.length + j.length ≤ sizeLine ∧ Q (.str (i ++ j)) H
  | _, _ => False
noncomputable def tDSet (td ty tx : TE) : TE := fun σ H Q => td σ H fun x H1 => ∃ a, x = .ref a ∧ IsD H1 a ∧ ty σ H1 fun y H2 => tx σ H2 fun z H3 => ∃ kvs k, H3 a = some (.dK kvs) ∧ y = kV k ∧ kvs.length < sizeLine ∧
  (∀ v, valV kvs k = some v → Q v H3) ∧ (valV kvs k = none → Q z (upd H3 a (.dK (putK kvs k z))))
noncomputable def cApp (to ta : TE) : TE := fun σ H Q => to σ H fun x H1 => match x with
  | .ref l => (∃ xs, H1 l = some (.lst xs)) ∧ ta σ H1 fun y H2 => ∃ xs, H2 l = some (.lst xs) ∧ xs.length < sizeLine ∧ Q .non (upd H2 l (.lst (xs ++ [y])))
  | _ => False
theorem pec_app (h : PE X e (tBM X.K "list" rAppend (mT to) (tCons (mT ta) tNil))) : PE X e (cApp to ta) := h.weak fun σ H Q h => ⟨_, h, fun x H1 h1 => by
    cases x with
    | ref l =>
      obtain ⟨⟨xs, e⟩, q⟩ := h1
      exact ⟨.inl ⟨rfl, xs, SqL.of e⟩, _, q, fun y H2 ⟨xs, e, hl, q2⟩ => ⟨l, xs, y, rfl, rfl, e, hl, q2⟩⟩
    | _ => exact h1.elim⟩
end
end L2.Internal
namespace BO.Internal
open PySem L2.Internal
noncomputable def wd : Bool → Str
  | true => "goes"
  | false => "here"
structure Rw where
  w : Bool
  a : Int
  b : Int
  y : Option (Int × Int)
noncomputable def Rw.k (r : Rw) : List Key := [.inr (wd r.w), .inl r.a, .inl r.b]
noncomputable def whyD : Option (Int × Int) → Dt
  | none => .flat .non
  | some p => flD p
noncomputable def Rw.d (r : Rw) : Dt := .tup [.flat (.str (wd r.w)), .flat (.int r.a), .flat (.int r.b), whyD r.y]
noncomputable def Rw.ok (N M : Int) (r : Rw) : Prop := 0 ≤ r.a ∧ (r.a < match r.w with | true => N | false => M) ∧ 0 ≤ r.b ∧ r.b < N
noncomputable def Rw.c (r : Rw) : Nat := (match r.w with | true => 0 | false => 4096) + r.a.toNat * 64 + r.b.toNat
noncomputable def ixn (A : Nat → Option Int) (p : Int) (n : Nat) : List Int := ((List.range n).filter fun j => decide (A j = some p)).map fun j => ((j : Nat) : Int)
noncomputable def bdn (A : Nat → Option Int) (q : Int → Bool) (p k : Int) (n : Nat) : List (Int × Int) := ((ixn A p n).filter q).map fun j => (k, j)
noncomputable def dueN (f : Rw → Int → List (Int × Int)) (R : List Rw) : Nat → List (Int × Int)
  | 0 => []
  | n + 1 => dueN f R n ++ match R[n]? with
    | some r => f r n
    | none => []
structure DL (H : Hp) (d : Addr) (L : List Addr) (f : Int → List V) (k : Nat) : Prop where
  ex : ∃ kvs : List (Key × V), H d = some (.dK kvs) ∧ kvs.length ≤ k ∧ (∀ p, valV kvs (.inl p) = none → f p = []) ∧
    (∀ p v, valV kvs (.inl p) = some v → ∃ l, l ∈ L ∧ v = .ref l ∧ H l = some (.lst (f p))) ∧ (∀ p q v, valV kvs (.inl p) = some v → valV kvs (.inl q) = some v → p = q)
noncomputable def putf (f : Int → List V) (p : Int) (x : V) : Int → List V := fun q => if q = p then f p ++ [x] else f q
structure Sda (H : Hp) (d : Addr) (L : List Addr) (f : Int → List V) (k : Nat) (p : Int) (l : Addr) (H1 : Hp) : Prop where
  here : H1 l = some (.lst (f p))
  fin : ∀ H2 x, Same H1 H2 → ∃ L', (∀ a ∈ L', a ∈ L ∨ a = l) ∧ DL (upd H2 l (.lst (f p ++ [x]))) d L' (putf f p x) (k + 1)
  fr : ∀ a o, H a = some o → a ≠ d → H1 a = some o
  own : l ∈ L ∨ H l = none
end BO.Internal
namespace BO.Internal
open PySem L2.Internal
open Classical in
noncomputable def putR (R : List Rw) (ρ : Rw) : List Rw := if ρ.k ∈ R.map Rw.k then R else R ++ [ρ]
noncomputable def putsR (R l : List Rw) : List Rw := l.foldl putR R
noncomputable def gosF (p : Int) (r : Rw) (n : Int) : List (Int × Int) := if r.w = true ∧ r.a = p then [(n, r.b)] else []
noncomputable def herF (p : Int) (r : Rw) (n : Int) : List (Int × Int) := if r.w = false ∧ r.b = p then [(n, r.a)] else []
end BO.Internal
namespace L2.Internal
open PySem PySem.Spec PyProof.Rows
section
variable {X : Cx}
noncomputable def rInD (K : PySem.W.Frag) : R2 := fun x y H Q => ∃ p xs ds d, y = .ref p ∧ SqL K H p xs ∧ Ats K H xs ds ∧ At K H x d ∧ (∀ e ∈ ds, cmpD e d = true ∧ depD e ≤ 100) ∧ (∃ (j : Nat) (e : Dt), ds[j]? = some e ∧ eqD e d = true) ∧ Q (.bl true) H
end
end L2.Internal
namespace L2.Internal
open PySem PySem.Spec PyProof.Rows
section
variable {X : Cx}
theorem bt_sorted : bootBuiltins "sorted" = some (.builtin "sorted") := by decide +kernel
theorem strs_to : ∀ {ss : List Str} {us : List Value}, Vals (ss.map V.str) us → StrsAre us ss
  | [], _, .nil => .nil
  | x :: ss, _, .cons h r => by
    obtain ⟨t, e⟩ := h
    cases e
    exact .cons x t (strs_to r)
theorem strs_from : ∀ {ss : List Str} {us : List Value}, StrsAre us ss → Vals (ss.map V.str) us
  | _, _, .nil => .nil
  | _, _, .cons y t r => .cons ⟨t, rfl⟩ (strs_from r)
theorem call_sortedS : CallR X (.builtin "sorted") (fun xs H Q => ∃ (a : Addr) (ss : List Str), xs = [.ref a] ∧ SqL X.K H a (ss.map V.str) ∧ ss.length < 64 ∧ ∀ (l : Addr) (ss' : List Str), H l = none → ss'.Perm ss → sortedS ss' = true → Q (.ref l) (upd H l (.lst (ss'.map V.str)))) := by
  intro pins s σ H xs us Q I r h
  obtain ⟨a, ss, rfl, hq, hlen, q⟩ := h
  obtain ⟨u, rfl, ru⟩ := vals1 r
  cases ru
  obtain ⟨its, rv, p, hz⟩ := I.list hq
  have l1 := rv.length
  rw [List.length_map] at l1
  refine sorted_strs p.isList (strs_to rv) (by omega) fun out ss' a1 a2 a3 => ?_
  obtain ⟨e, he⟩ := sortedAll_at s.heap its out
  have l2 := a2.length_eq
  have v2 := strs_from a1
  refine ⟨.ref (s.heap.objs.size + 1), _, I.laid (t' := s.toks) (a := s.heap.objs.size + 1) (o := .lst (ss'.map V.str)) (fun _ _ => sortedAll_old) (Nat.le_succ _) ⟨?_, out.toList, e, v2, he⟩, rfl, q _ ss' (I.hok.fresh (Nat.le_succ _)) a2 a3⟩
  rw [List.length_map] at hz ⊢
  omega
end
section
variable {X : Cx} {pins : List (Addr × Obj)} {σ : St} {H : Hp} {s : Shared}
noncomputable def rEqE (K : PySem.W.Frag) (neg : Bool) : R2 := fun x y H Q => ∃ a b l m, x = .ref a ∧ y = .ref b ∧ At K H x (.tup l) ∧ At K H y (.tup m) ∧ cmpDs l m = true ∧ depDs l ≤ 200 ∧ Q (.bl (if neg then !eqDs l m else eqDs l m)) H
end
theorem args_maxD (a v : Value) : argsOk "max" ⟨[a], [(Str.ofString "default", v)]⟩ := by unfold argsOk; kernel_rfl
section
variable {prog : Program} {w : World} {A : Around} {R : Result → Shared → Prop} {I : Addr} {fp wr : List Addr} {n : Nat} {P : Nat → Value → Prop} {St : Nat → Heap → Prop}
theorem maxD_loop (W : Walks prog w A.in1 I fp wr n P St) (bt : Nat → Nat → Bool) (hcmp : CmpOf prog w A.in1 .Gt P bt) (B : Addr) (hBf : B ∉ fp) (nm : Str) (d : Value) :
    ∀ (k j : Nat) (t : Shared) (old : Array Value) (c : Nat), n - j = k → j ≤ n → St j t.heap → (old = #[] ∨ ∃ i v, P i v ∧ old = #[v, v]) →
    t.heap.get? B = some { cls := .type "list", dict := none, data := .seq old c, slots := #[] } →
    (∀ v h2 tk, (v = d ∨ ∃ i, P i v) → (∀ b o, b ∉ wr → b ≠ B → t.heap.get? b = some o → h2.get? b = some o) → R (.ok (.ret v)) { t with heap := h2, toks := tk }) →
    codeAny (model prog w) A (.builtin "max.loop" ⟨[.ref I, .none, .ref B], [(nm, d)]⟩) R t := by
  have hBw : B ∉ wr := fun h => hBf (W.sub _ h)
  have hnm : (toString "max" ++ toString ".loop" : String) = "max.loop" := by decide
  intro k
  induction k with
  | zero =>
    intro j t old c hk hj st ho gB q
    have e0 : j = n := by omega
    refine codeAny_builtin F.entry_max_loop ?_
    rw [Around.under_plainId F.plain_max_loop _]
    show wpAny _ A.in1 (seqItems? (.ref B) >>= _) _ _ t
    refine wpAny_bind (wpAny_seqItems gB rfl ?_)
    show wpAny _ A.in1 (tryCatch (pyNext (.ref I)) _ >>= _) _ _ t
    refine wpAny_bind (wpAny_tryCatch (W.done t _ _ (e0 ▸ st) fun h2 tk kp => ?_))
    rcases ho with rfl | ⟨i, v, hP, rfl⟩
    · show wpAny _ A.in1 (rule _ >>= _) _ _ _
      refine wpAny_bind (wpAny_rule (wpAny_pure ?_))
      exact q d h2 tk (.inl rfl) fun b o hb _ e => kp b o hb e
    · have gB2 := kp B _ hBw gB
      show wpAny _ A.in1 (updateSeq B (fun _ => #[]) >>= _) _ _ _
      refine wpAny_bind (wpAny_updateSeq gB2 rfl (wpAny_bind (wpAny_letGo (wpAny_pure ?_))))
      exact q v _ tk (.inr ⟨i, hP⟩) fun b o hb hn e => (Heap.get?_update_other _ _ (Ne.symm hn)).trans (kp b o hb e)
  | succ k ih =>
    intro j t old c hk hj st ho gB q
    have hlt : j < n := by omega
    refine codeAny_builtin F.entry_max_loop ?_
    rw [Around.under_plainId F.plain_max_loop _]
    show wpAny _ A.in1 (seqItems? (.ref B) >>= _) _ _ t
    refine wpAny_bind (wpAny_seqItems gB rfl ?_)
    show wpAny _ A.in1 (tryCatch (pyNext (.ref I)) _ >>= _) _ _ t
    refine wpAny_bind (wpAny_tryCatch (W.item j t _ _ hlt st fun x h2 tk hP st2 kp => ?_))
    have gB2 := kp B _ hBw gB
    have oth : ∀ {b : Addr}, b ∈ fp → B ≠ b := fun hb e => hBf (by rw [e]; exact hb)
    rcases ho with rfl | ⟨i, v, hPv, rfl⟩
    · show wpAny _ A.in1 (updateSeq B (fun _ => #[x, x]) >>= _) _ _ _
      refine wpAny_bind (wpAny_updateSeq gB2 rfl ?_)
      rw [hnm]
      refine wpAny_pure ⟨plainId_quiet F.plain_max_loop _, ih (j + 1) _ #[x, x] _ (by omega) hlt (W.frame _ _ _ st2 fun b hb o e => (Heap.get?_update_other _ _ (oth hb)).trans e) (.inr ⟨j, x, hP, rfl⟩) (Heap.get?_update_self _ gB2 rfl) fun v2 h3 tk3 hv kp3 => ?_⟩
      exact q v2 h3 tk3 hv fun b o hb hn e => kp3 b o hb hn ((Heap.get?_update_other _ _ (Ne.symm hn)).trans (kp b o hb e))
    · show wpAny _ A.in1 (tryCatch (holding [x, x] (richCompare .Gt x v >>= _)) _ >>= _) _ _ _
      refine wpAny_bind (wpAny_tryCatch (wpAny_holding (wpAny_bind (hcmp j i x v _ _ _ hP hPv ?_))))
      refine wpAny_bind (wpAny_holding (wpAny_truthy_bool ?_))
      refine wpAny_bind (wpAny_letGo (wpAny_pure ?_))
      cases hb : bt j i with
      | true =>
        simp only [if_true]
        refine wpAny_bind (wpAny_updateSeq gB2 rfl (wpAny_bind (wpAny_letGo ?_)))
        rw [hnm]
        refine wpAny_pure ⟨plainId_quiet F.plain_max_loop _, ih (j + 1) _ #[x, x] _ (by omega) hlt (W.frame _ _ _ st2 fun b hb o e => (Heap.get?_update_other _ _ (oth hb)).trans e) (.inr ⟨j, x, hP, rfl⟩) (Heap.get?_update_self _ gB2 rfl) fun v2 h3 tk3 hv kp3 => ?_⟩
        exact q v2 h3 tk3 hv fun b o hb hn e => kp3 b o hb hn ((Heap.get?_update_other _ _ (Ne.symm hn)).trans (kp b o hb e))
      | false =>
        simp only [Bool.false_eq_true, if_false]
        refine wpAny_bind (wpAny_letGo ?_)
        rw [hnm]
        refine wpAny_pure ⟨plainId_quiet F.plain_max_loop _, ih (j + 1) _ #[v, v] c (by omega) hlt st2 (.inr ⟨i, v, hPv, rfl⟩) gB2 fun v2 h3 tk3 hv kp3 => ?_⟩
        exact q v2 h3 tk3 hv fun b o hb hn e => kp3 b o hb hn (kp b o hb e)
end
section
variable {prog : Program} {w : World} {A : Around} {E : Value → Shared → Prop} {s : Shared} {l : Addr} {xs : Array (Int × Tok)}
theorem maxD_ints {d : Value} {Q : Value → Shared → Prop} (hh : A.handled = none) (hl : s.heap.IsList l (intItems xs))
    (h : ∀ v h2 tk, (v = d ∨ ∃ (i : Int) (t : Tok), v = .int i t) → (∀ b o, s.heap.get? b = some o → h2.get? b = some o) → Q v { s with heap := h2, toks := tk }) :
    wpAny (model prog w) A (call (.builtin "max") [.ref l] [(Str.ofString "default", d)]) Q E s := by
  have hnm : (toString "max" ++ toString ".loop" : String) = "max.loop" := by decide
  refine PyProof.Rows.kmk_tree F.kind_max F.plain_max F.entry_max (args_maxD _ _) ?_
  show wpAny _ A.in1 (Builtin.Builtins.bindParams "max" ["key", "default"] 0 ⟨[], [(Str.ofString "default", d)]⟩ >>= _) _ _ s
  refine wpAny_bind (wpAny_of_eq (show Builtin.Builtins.bindParams "max" ["key", "default"] 0 ⟨[], [(Str.ofString "default", d)]⟩ = pure [none, some d] from rfl) ?_)
  refine wpAny_bind (wpAny_pure ?_)
  refine wpAny_bind (iter_intList hl fun s2 e st hfp hlI => ?_)
  subst e
  refine wpAny_bind (wpAny_newObj_type ?_)
  rw [hnm]
  have W := Walks.list (prog := prog) (w := w) (A := A.in1) hh s.heap.objs.size l hlI (intItems xs)
  refine wpAny_pure ⟨plainId_quiet F.plain_max_loop _, maxD_loop W _ (CmpOf.ints_gt (numAt xs) (fun _ _ => intItems_at)) _ (fun hm => Nat.lt_irrefl _ (hfp _ hm)) _ d _ 0 _ #[] 0 rfl (Nat.zero_le _) (W.frame _ _ _ st fun b _ o e => Heap.get?_push_of_some _ e) (.inl rfl) (Heap.get?_push_size _ rfl) fun v h2 tk hv kp => ?_⟩
  refine h v h2 tk ?_ (old_kept fun b o hb e => kp b o hb (Nat.ne_of_lt (Heap.lt_size e)) (Heap.get?_push_of_some _ e))
  rcases hv with hv | ⟨i, hv⟩
  · exact .inl hv
  · obtain ⟨t, rfl⟩ := intItems_at hv
    exact .inr ⟨_, t, rfl⟩
end
section
variable {X : Cx}
noncomputable def tMaxD (K : PySem.W.Frag) (ta : TA) (td : TE) : TE := fun σ H Q => ta σ H fun vs H1 => td σ H1 fun x H2 => ∃ (a : Addr) (ns : List Int) (i : Int), vs = [.ref a] ∧ x = .int i ∧ SqL K H2 a (ns.map V.int) ∧ ∀ n, Q (.int n) H2
theorem pe_maxD {e d : Expr} {p kp pos : Pos} {ta : TA} {td : TE} (hc : X.calm = true) (hg : Gl X "max") (hm : X.mg "max" = none) (ha : PA X [e] ta) (hd : PE X d td) (he : autoParam (backTo pos (starEach [e] X.env) = (false, eval e X.env) :: backTo pos (starEach [] X.env)) L2.Internal.auR._auto_1) :
    PE X (.Call (.Name "max" p) [e] [⟨some "default", d, kp⟩] pos) (tMaxD X.K ta td) := by
  intro pins s σ H Q I h
  refine wpAny_Call_Name_kw (ld_blt I hg hm bt_max ?_ (by decide) (by decide))
  refine callWith_kw (thn (ha pos pins s σ H _ I h) fun us s1 ⟨vs, H1, I1, r1, q1⟩ => ?_) he (by rw [he]; rfl)
  refine kws_cons (thn (hd pins s1 σ H1 _ I1 q1) fun u s2 ⟨x, H2, I2, rx, a, ns, i, e1, e2, hq, q2⟩ => ?_)
  subst e1 e2
  refine kws_nil ?_
  obtain ⟨v0, rfl, rv0⟩ := vals1 r1
  cases rv0
  obtain ⟨its, rv, pl, hz⟩ := I2.list hq
  obtain ⟨zs, ez⟩ := (intsAre_of rv).allInts.items
  have il := pl.isList
  rw [ez] at il
  obtain ⟨t, rfl⟩ := rx
  refine maxD_ints (I2.ok.hd hc) il fun v h2 tk hv hk => ?_
  rcases hv with rfl | ⟨j, t2, rfl⟩
  · exact ⟨.int i, H2, I2.kept (t' := tk) hk, ⟨t, rfl⟩, q2 i⟩
  · exact ⟨.int j, H2, I2.kept (t' := tk) hk, ⟨t2, rfl⟩, q2 j⟩
end
end L2.Internal
namespace L2.Internal
open PySem PySem.Spec PyProof.Rows
section
variable {X : Cx}
theorem call_sumX (hc : X.calm = true) : CallR X (.builtin "sum") (fun xs H Q => ∃ (a : Addr) (ns : List Int), xs = [.ref a] ∧ SqL X.K H a (ns.map V.int) ∧ ns.length ≤ 100 ∧ (∀ n ∈ ns, 0 ≤ n ∧ n ≤ 1000) ∧ Q (.int ns.sum) H) := by
  intro pins s σ H xs us Q I r h
  obtain ⟨a, ns, rfl, hq, hl, hb, q⟩ := h
  obtain ⟨u, rfl, ru⟩ := vals1 r
  cases ru
  obtain ⟨its, rv, p, hz⟩ := I.list hq
  obtain ⟨zs, e⟩ := (intsAre_of rv).allInts.items
  have l := p.isList
  rw [e] at l
  have hn : ∀ j, numAt zs j = ns.getD j 0 := fun j => by
    have h1 : its.toArray[j]? = (intItems zs)[j]? := by rw [e]
    by_cases hj : j < ns.length
    · obtain ⟨v, hv, rv'⟩ := rv.get (show (ns.map V.int)[j]? = some (.int ns[j]) by rw [List.getElem?_map, List.getElem?_eq_getElem hj]; rfl)
      obtain ⟨t, rfl⟩ := rv'
      rw [List.getElem?_toArray, hv] at h1
      obtain ⟨t2, e2⟩ := intItems_at h1.symm
      injection e2 with e2 _
      rw [← e2, List.getD_eq_getElem?_getD, List.getElem?_eq_getElem hj]
      rfl
    · have hlen := rv.length
      rw [List.length_map] at hlen
      rw [List.getElem?_toArray, List.getElem?_eq_none (by omega)] at h1
      have h2 : zs[j]? = none := by
        simp only [intItems, Array.getElem?_map] at h1
        cases h3 : zs[j]? with
        | none => rfl
        | some z => rw [h3] at h1; cases h1
      rw [List.getD_eq_getElem?_getD, List.getElem?_eq_none (by omega)]
      simp [numAt, h2]
  have hsz : zs.size = ns.length := by
    have h1 := congrArg Array.size e
    simp only [intItems, List.size_toArray, Array.size_map] at h1
    have hlen := rv.length
    rw [List.length_map] at hlen
    omega
  have pre : ∀ j, j ≤ ns.length → preSum (numAt zs) j = (ns.take j).sum := fun j => by
    induction j with
    | zero => intro _; simp [preSum]
    | succ j ih =>
      intro hj
      rw [preSum, ih (by omega), hn, List.take_add_one, List.getElem?_eq_getElem (show j < ns.length by omega), List.sum_append, List.getD_eq_getElem?_getD, List.getElem?_eq_getElem (show j < ns.length by omega)]
      simp
  have bnd : ∀ l : List Int, (∀ n ∈ l, 0 ≤ n ∧ n ≤ 1000) → 0 ≤ l.sum ∧ l.sum ≤ 1000 * (l.length : Int) := fun l => by
    induction l with
    | nil => intro _; simp
    | cons x l ih =>
      intro h
      have h1 := h x (by simp)
      have h2 := ih fun n hn => h n (by simp [hn])
      rw [List.sum_cons, List.length_cons]
      omega
  refine sum_intList (I.ok.hd hc) l (fun j hj => ?_) fun h2 tk t2 hk => ⟨.int ns.sum, H, I.kept (t' := tk) hk, ⟨t2, ?_⟩, q⟩
  · rw [hsz] at hj
    have b1 := hb (ns.getD j 0) (by rw [List.getD_eq_getElem?_getD, List.getElem?_eq_getElem hj]; exact List.getElem_mem hj)
    have b2 := bnd (ns.take (j + 1)) fun n hm => hb n (List.mem_of_mem_take hm)
    have b3 : (ns.take (j + 1)).length ≤ 100 := by rw [List.length_take]; omega
    rw [hn, pre (j + 1) hj]
    constructor <;> constructor <;> omega
  · rw [hsz, pre ns.length (Nat.le_refl _), List.take_length]
end
end L2.Internal
namespace L2.Internal
open PySem PySem.Spec PyProof.Rows
noncomputable def compEnvN (scope : Scope) (cl : List (Str × Addr)) (x : Str) (C : Addr) (env : Env) : Env :=
  { scope := relabel scope env, locals := C, globals := env.globals, cells := (x, C + 1) :: cl, qual := env.qual, func := none, code := env.code, frame := env.frame, builtins := env.builtins }
noncomputable def blkN (X : Cx) (N : List Str) (scope : Scope) (cl : List (Str × Addr)) (x : Str) (C : Addr) (s₀ : Shared) (H₀ : Hp) (ex : List Addr) (pins : List (Addr × Obj)) : Cx :=
  { X with N := N, s₀ := s₀, H₀ := H₀, env := compEnvN scope cl x C X.env, outer := X.stack, stack := X.stack, ex := ex, fn := fun y => decide (y = x), pn := X.pn ++ pins, xe := fun _ _ => False }
structure BlkOkN (X : Cx) (N : List Str) (scope : Scope) (cl : List (Str × Addr)) (f : St → St) (i : Nat) (x : Str) : Prop where
  kind : scope.kind = .function
  cell : ∀ n acc, cellsFrom n scope.names acc = (x, n) :: acc
  push : ∀ h : Heap, pushCells h scope.names = h.push { cls := .type "cell", data := .cell none }
  names : ∀ y ∈ scope.names, y.2 = .local → scope.names.lookup y.1 = some .local
  clos : closureFor scope X.env = pure cl
  lk : ∀ y c, cl.lookup y = some c → X.env.cells.lookup y = some c
  has : ∀ y, ((relabel scope X.env).names.lookup y = some .cell ∨ (relabel scope X.env).names.lookup y = some .free) → y = x ∨ ∃ c, cl.lookup y = some c
  nd : N.Nodup
  ix : N[i]? = some x
  loc : (relabel scope X.env).names.lookup x = some .cell
  len : ∀ σ, σ.length = X.N.length → (f σ).length = N.length
  val : ∀ (σ : St) (k : Nat) (y : Str) (v : V), N[k]? = some y → (f σ)[k]? = some (some v) → y ≠ x ∧ ∃ j : Nat, X.N[j]? = some y ∧ σ[j]? = some (some v) ∧ X.env.scope.names.lookup y = some .cell ∧ (relabel scope X.env).names.lookup y = some .cell
theorem lkN {x y : Str} {n c : Addr} {cl : List (Str × Addr)} (e : ((x, n) :: cl).lookup y = some c) : (y = x ∧ c = n) ∨ (y ≠ x ∧ cl.lookup y = some c) := by
  rw [List.lookup_cons] at e
  cases h : y == x with
  | true => rw [h] at e; exact .inl ⟨eq_of_beq h, (Option.some.inj e).symm⟩
  | false => rw [h] at e; exact .inr ⟨fun z => (by rw [z, beq_self_eq_true] at h; cases h), e⟩
theorem lkN_self {x : Str} {n : Addr} {cl : List (Str × Addr)} : ((x, n) :: cl).lookup x = some n := by
  rw [List.lookup_cons, beq_self_eq_true]
theorem lkN_ne {x y : Str} {n c : Addr} {cl : List (Str × Addr)} (h : y ≠ x) (e : cl.lookup y = some c) : ((x, n) :: cl).lookup y = some c := by
  rw [List.lookup_cons, show (y == x) = false by simp [h]]
  exact e
theorem wpAny_newEnvN {M : Model} {A : Around} {E : Value → Shared → Prop} {s : Shared} {scope : Scope} {globals : Addr} {cl : List (Str × Addr)} {qual : Str} {x : Str} {env : Env} {Q : Env → Shared → Prop}
    (hcell : ∀ n acc, cellsFrom n scope.names acc = (x, n) :: acc) (hpush : ∀ h : Heap, pushCells h scope.names = h.push { cls := .type "cell", data := .cell none })
    (hQ : ∀ h', h'.Ns s.heap.objs.size (fun _ => none) → (∀ b o, s.heap.get? b = some o → h'.get? b = some o) → h'.IsCell (s.heap.objs.size + 1) none →
      Q (newEnv scope s.heap.objs.size globals ((x, s.heap.objs.size + 1) :: cl) qual none .none (some env) builtinsNs) { s with heap := h' }) :
    wpAny M A (newFunctionEnv scope globals cl [] qual none .none (some env)) Q E s := by
  simp only [newFunctionEnv, Option.isSome_some, if_true]
  refine wpAny_bind (wpAny_alloc ?_)
  refine wpAny_bind (wpAny_layCells _ (fun name kind cells => by cases hkc : kind == NameKind.cell <;> simp [hkc]) _ _ _ _ ?_)
  rw [hcell, hpush]
  rw [show ({ s with heap := s.heap.push { cls := .type "dict", data := .dict #[] } } : Shared).heap.objs.size = s.heap.objs.size + 1 from Heap.size_push ..]
  rw [List.forIn_nil]
  refine wpAny_bind (wpAny_pure (wpAny_pure (hQ _ ?_ ?_ ?_)))
  · exact (Heap.Ns.new s.heap (.type "dict")).keeps fun b o e => Heap.get?_push_of_some _ e
  · exact fun b o e => Heap.get?_push_of_some _ (Heap.get?_push_of_some _ e)
  · have := (cellsFrom_ok scope.names (s.heap.push { cls := .type "dict", data := .dict #[] }) (s.heap.objs.size + 1) [] ⟨fun _ _ hm => (nomatch hm), List.Pairwise.nil⟩ (by rw [Heap.size_push]; exact Nat.le_refl _)).empty x (s.heap.objs.size + 1) (by rw [hcell, Heap.size_push]; exact List.mem_cons_self)
    rw [hpush] at this
    exact this.1
theorem inv_blkN {X : Cx} {N : List Str} {scope : Scope} {cl : List (Str × Addr)} {f : St → St} {i : Nat} {x : Str} (B : BlkOkN X N scope cl f i x) {pins : List (Addr × Obj)} {σ : St} {H : Hp} {s : Shared} {h₁ : Heap} {tk : Nat} {m : Str → Option Value} {ex : List Addr}
    (I : Inv X pins σ H s) (hex : ∀ b ∈ ex, FpOk X pins H b ∧ b < s.heap.objs.size) (keep : ∀ b o, s.heap.get? b = some o → h₁.get? b = some o) (hn : h₁.Ns s.heap.objs.size m) (hce : h₁.IsCell (s.heap.objs.size + 1) none) :
    Inv (blkN X N scope cl x s.heap.objs.size s H ex pins) [] (f σ) H { s with heap := h₁, toks := tk } := by
  have nst : ∀ b, b ≠ X.env.locals → b ∉ X.fs → b ∉ frs X.stack := fun b h1 h2 hb => (List.mem_cons.mp (I.stkSub b hb)).elim h1 h2
  have ltC : ∀ y c, X.env.cells.lookup y = some c → c < s.heap.objs.size := fun y c e => by
    obtain ⟨v, o, ho, _⟩ := I.cell y c e
    exact Heap.lt_size ho
  refine ⟨⟨I.ok.mod, B.kind, I.ok.glob, I.ok.blt, Nat.le_refl _, fun y z c h1 h2 => ?_, fun y hy => ?_, fun y c h1 h2 => ?_, I.ok.hd, I.ok.frames, .inl rfl, fun b hb => ?_, I.bs, Nat.le_trans I.ok.bsz I.sz, fun b o e hb => ?_, fun b hb => ?_, I.stack, I.stkFree⟩,
    rfl, I.bare, Un.kept keep, ⟨m, hn, fun k y v e1 e2 e3 => ?_⟩, fun y c e => ?_, I.hok.fresh (Nat.le_refl _), fun y c e => ?_, fun p hp => ?_, I.hok.kept keep, B.len σ I.len⟩
  · rcases lkN h1 with ⟨ey, ec⟩ | ⟨n1, g1⟩ <;> rcases lkN h2 with ⟨ez, e2⟩ | ⟨n2, g2⟩
    · rw [ey, ez]
    · exact absurd (ltC _ _ (B.lk _ _ g2)) (Nat.not_lt.mpr (by rw [ec]; exact Nat.le_succ _))
    · exact absurd (ltC _ _ (B.lk _ _ g1)) (Nat.not_lt.mpr (by rw [e2]; exact Nat.le_succ _))
    · exact I.ok.inj y z c (B.lk y c g1) (B.lk z c g2)
  · by_cases e : y = x
    · subst e
      exact ⟨_, lkN_self⟩
    · rcases B.has y hy with z | ⟨c, z⟩
      · exact absurd z e
      · exact ⟨c, lkN_ne e z⟩
  · have e : y = x := of_decide_eq_true h1
    subst e
    rcases lkN h2 with ⟨_, rfl⟩ | ⟨n, _⟩
    · exact Nat.le_succ _
    · exact absurd rfl n
  · obtain ⟨⟨_, _, _, _, hc, _⟩, lt⟩ := hex b hb
    refine ⟨Nat.ne_of_lt lt, fun y c e => ?_⟩
    rcases lkN e with ⟨_, rfl⟩ | ⟨_, e⟩
    · exact Ne.symm (Nat.ne_of_lt (Nat.lt_succ_of_lt lt))
    · exact hc y c (B.lk y c e)
  · obtain ⟨⟨_, _, _, h4, _, _⟩, _⟩ := hex b hb
    rcases h4 with z | z
    · exact I.ok.noex b o e z
    · exact absurd (Nat.lt_of_lt_of_le (Heap.lt_size (I.ok.bs b o e).1) z) (Nat.lt_irrefl _)
  · obtain ⟨⟨_, h2, h3, _, _, _⟩, _⟩ := hex b hb
    exact nst b h2 h3
  · obtain ⟨yx, j, h1, h2, h3, h4⟩ := B.val σ k y v e1 e2
    obtain ⟨m', _, hl⟩ := I.loc
    obtain ⟨u, r, l⟩ := hl j y v h1 h2 (.inr (.inl h3))
    refine ⟨u, r, ?_⟩
    rcases l with ⟨hk, _⟩ | ⟨_, c, hc, z⟩
    · have hk' : X.env.scope.names.lookup y = some .local := hk
      rw [h3] at hk'
      cases hk'
    · obtain ⟨c', hc'⟩ := (B.has y (.inl h4)).resolve_left yx
      have e : c' = c := Option.some.inj ((B.lk y c' hc').symm.trans hc)
      subst e
      obtain ⟨o, ho, hd⟩ := z
      exact .inr ⟨.inl h4, c', lkN_ne yx hc', o, keep _ o ho, hd⟩
  · rcases lkN e with ⟨_, rfl⟩ | ⟨_, e⟩
    · exact ⟨none, hce⟩
    · obtain ⟨v, o, ho, hd⟩ := I.cell y c (B.lk y c e)
      exact ⟨v, o, keep _ o ho, hd⟩
  · rcases lkN e with ⟨_, rfl⟩ | ⟨_, e⟩
    · exact I.hok.fresh (Nat.le_succ _)
    · exact I.freeC y c (B.lk y c e)
  · rw [List.append_nil] at hp
    obtain ⟨e, n, ne, nf, d⟩ := I.pin p hp
    exact ⟨keep _ _ e, n, Nat.ne_of_lt (Heap.lt_size e), nst _ ne nf, d⟩

theorem pe_lcN {X : Cx} {elt iter : Expr} {x : Str} {px : Pos} {ifs : List Expr} {scope : Scope} {pos : Pos} {N : List Str} {cl : List (Str × Addr)} {f : St → St} {i : Nat} {wi : TI} {tt : TT} {te : TE}
    (hc : X.calm = true) (B : BlkOkN X N scope cl f i x) (hi : PI X (.Name x px) iter wi)
    (htt : ∀ C s₀ H₀ ex pins, PTs (blkN X N scope cl x C s₀ H₀ ex pins) ifs tt) (hte : ∀ C s₀ H₀ ex pins, PE (blkN X N scope cl x C s₀ H₀ ex pins) elt te)
    (hs : autoParam (∀ x, foldedSetIterable iter X.env x = pure x) L2.Internal.auI._auto_1) : PE X (.ListComp elt [⟨.Name x px, iter, ifs, 0⟩] scope pos) (tLC wi f i tt te) := by
  intro pins s σ H Q I h
  rw [eval_ListComp]
  refine wpAny_comprehension_free (use := none) rfl hs B.clos B.kind B.names (thn (hi pins s σ H _ I h) fun xv s1 h1 => thn h1 fun itv s2 h2 => ?_)
  obtain ⟨it, fp, tn, J, H2, rfl, I2, T, st2, f2, q⟩ := h2
  have hD : H2 s2.heap.objs.size = none := I2.fresh
  obtain ⟨W, ⟨m0, w0⟩, turn⟩ := q _ hD
  refine wpAny_newObj_type (wpAny_newEnvN B.cell B.push (fun h₁ hns₁ old₁ hce => ?_))
  have I3 : Inv X pins σ (upd H2 s2.heap.objs.size (.lst [])) { s2 with heap := s2.heap.push { cls := .type "list", data := .seq ([] : List Value).toArray } } := I2.lnew (its := []) (ys := []) (t' := s2.toks) .nil (Nat.zero_le _)
  have lt2 : ∀ b ∈ fp, b < s2.heap.objs.size := fun b hb => by
    obtain ⟨o, ho, _⟩ := T.obj _ _ st2 b hb
    exact Heap.lt_size ho
  have fp3 : ∀ b ∈ fp, FpOk X pins (upd H2 s2.heap.objs.size (.lst [])) b := fun b hb => by
    refine ⟨?_, (f2 b hb).2⟩
    rw [upd_ne (Nat.ne_of_lt (lt2 b hb))]
    exact (f2 b hb).1
  generalize hs3 : ({ s2 with heap := s2.heap.push { cls := .type "list", data := .seq ([] : List Value).toArray } } : Shared) = s3 at I3 hns₁ old₁ hce ⊢
  have eh : s2.heap.push { cls := .type "list", data := .seq ([] : List Value).toArray } = s3.heap := by rw [← hs3]
  have lt3 : ∀ b ∈ fp, b < s3.heap.objs.size := fun b hb => by
    rw [← eh, Heap.size_push]
    exact Nat.lt_succ_of_lt (lt2 b hb)
  have old : ∀ b o, s3.heap.get? b = some o → h₁.get? b = some o := old₁
  have I4 := inv_blkN (tk := s3.toks) B I3 (ex := fp) (fun b hb => ⟨fp3 b hb, lt3 b hb⟩) old hns₁ hce
  have st4 : tn 0 h₁ := T.keep _ _ _ st2 fun b _ o e => old b o (by rw [← eh]; exact Heap.get?_push_of_some _ e)
  -- the iterators in the block
  have fpB : ∀ {H' : Hp}, (∀ b ∈ fp, H' b = none) → ∀ b ∈ fp, FpOk (blkN X N scope cl x s3.heap.objs.size s3 (upd H2 s2.heap.objs.size (.lst [])) fp pins) [] H' b := fun {H'} hn b hb => by
    obtain ⟨_, g2, g3, g4, g5, g6⟩ := f2 b hb
    refine ⟨hn b hb, Nat.ne_of_lt (lt3 b hb), fun z => (List.mem_cons.mp (I3.stkSub b z)).elim g2 g3, .inl hb, fun y c e => ?_, fun p hp => ?_⟩
    · rcases lkN e with ⟨_, rfl⟩ | ⟨_, e⟩
      · exact Ne.symm (Nat.ne_of_lt (Nat.lt_succ_of_lt (lt3 b hb)))
      · exact g5 y c (B.lk y c e)
    · rw [List.append_nil] at hp
      exact g6 p hp
  have loop : ∀ s4 : Shared, s4 = { s3 with heap := h₁, toks := s3.toks } →
      codeAny (model X.prog X.w) X.A (.compLoop (.ListComp elt [⟨.Name x px, iter, ifs, 0⟩] scope pos) 0 (.ref it) (.ref s2.heap.objs.size) (compEnvN scope cl x s3.heap.objs.size X.env))
        (compPost (model X.prog X.w) X.A X.xe none (EP X pins σ Q) (.ref s2.heap.objs.size) s3.heap.objs.size) s4 := by
    rintro s4 rfl
    refine codeAny_compLoop_tests (I := fun n s' => ∃ k σ' H', Inv (blkN X N scope cl x s3.heap.objs.size s3 (upd H2 s2.heap.objs.size (.lst [])) fp pins) [] σ' H' s' ∧ tn k s'.heap ∧ (∀ b ∈ fp, H' b = none) ∧ W k n σ' H') ?_ m0
      ⟨0, f σ, _, I4, st4, fun b hb => (fp3 b hb).1, w0⟩
    rintro n s5 ⟨k, σ5, H5, I5, st5, fr5, w5⟩
    rcases turn k n σ5 H5 w5 with ⟨stop, qn⟩ | ⟨go, step⟩
    · refine wpAny_mono (T.done (blkN X N scope cl x s3.heap.objs.size s3 (upd H2 s2.heap.objs.size (.lst [])) fp pins) rfl rfl rfl hc k [] s5 σ5 H5 _ I5 (fpB fr5) st5 stop) (fun r s6 h6 => ?_) fun _ _ z => z
      obtain ⟨hr, I6⟩ := h6
      subst hr
      obtain ⟨m6, hn6, _⟩ := id I6.loc
      refine ⟨m6, hn6, fun h' sb => ?_⟩
      have nC : ∀ b o, s3.heap.get? b = some o → b ≠ s3.heap.objs.size := fun b o e => Nat.ne_of_lt (Heap.lt_size e)
      have u6 : Un (frs X.stack) fp (upd H2 s2.heap.objs.size (.lst [])) H5 s3.heap s6.heap := I6.base
      have u7 : Un (frs X.stack) fp (upd H2 s2.heap.objs.size (.lst [])) H5 s3.heap h' :=
        ⟨fun b o e z1 z2 z3 => (sb.2 b (nC b o e)).trans (u6.keep b o e z1 z2 z3), fun b o e z1 z2 z3 => by
          obtain ⟨sl, e1⟩ := u6.slot b o e z1 z2 z3
          exact ⟨sl, (sb.2 b (nC b o e)).trans e1⟩, u6.free, fun b o e z => by
          obtain ⟨o', e1⟩ := u6.there b o e z
          exact ⟨o', (sb.2 b (nC b o e)).trans e1⟩, u6.tups, u6.frzs, u6.tbls⟩
      have hok7 : HOk X.prog X.w H5 h' := fun b o e => (I6.hok b o e).stay (fun c w' hcc e1 => (sb.2 c (fun z => by
          have fr : H5 s3.heap.objs.size = none := I6.free
          rcases hcc with y | y
          · rw [← y, z, fr] at e; cases e
          · rw [z, fr] at y; cases y)).trans e1) (fun _ z => z) fun _ _ z => z
      have I7 : Inv X pins σ H5 { s6 with heap := h' } := I3.call' (s' := { s6 with heap := h' }) (ch := fp) I6.os u7 hok7 I6.bare fun b hb => by
        obtain ⟨_, g2, g3, g4, g5, g6⟩ := f2 b hb
        exact ⟨g4, g2, g5, g6⟩
      exact ⟨.ref s2.heap.objs.size, H5, I7, rfl, qn⟩
    · refine wpAny_mono (T.item (blkN X N scope cl x s3.heap.objs.size s3 (upd H2 s2.heap.objs.size (.lst [])) fp pins) rfl rfl rfl hc k [] s5 σ5 H5 _ I5 (fpB fr5) st5 go) (fun r s6 h6 => ?_) fun _ _ z => z
      obtain ⟨u, hr, h6⟩ := h6
      subst hr
      show wpAny _ _ (pure () >>= fun _ => assign (.Name x px) (compEnvN scope cl x s3.heap.objs.size X.env) u) _ _ s6
      refine wpAny_bind (wpAny_mono (show wpAny _ _ (pure ()) _ _ s6 from h6) (fun _ s7 h7 => ?_) fun _ _ z => z)
      obtain ⟨v, H7, I7, r7, y7, st7, fr7⟩ := h7
      have I7' := I7.pinned (fpB fr7) (T.obj _ _ st7)
      refine wpAny_assign_Name (store_ok (X := blkN X N scope cl x s3.heap.objs.size s3 (upd H2 s2.heap.objs.size (.lst [])) fp pins) I7' B.nd B.ix (.inr B.loc) r7 (fun s8 I8 => ?_) (.inl (decide_eq_true rfl)))
      have back : ∀ {σ9 : St} {H9 : Hp} {s9 : Shared}, Inv (blkN X N scope cl x s3.heap.objs.size s3 (upd H2 s2.heap.objs.size (.lst [])) fp pins) ([] ++ pinsAt fp s7.heap) σ9 H9 s9 → (∃ m', m' < n ∧ W (k + 1) m' σ9 H9) →
          ∃ m', m' < n ∧ ∃ k σ' H', Inv (blkN X N scope cl x s3.heap.objs.size s3 (upd H2 s2.heap.objs.size (.lst [])) fp pins) [] σ' H' s9 ∧ tn k s9.heap ∧ (∀ b ∈ fp, H' b = none) ∧ W k m' σ' H' := fun {σ9 H9 s9} I9 q9 => by
        obtain ⟨m', hm, w9⟩ := q9
        refine ⟨m', hm, k + 1, σ9, H9, I9.unpinned, T.keep _ _ _ st7 fun b hb o e => (I9.pin (b, o) (List.mem_append_right _ (List.mem_append_right _ (mem_pinsAt hb e)))).1, fun b hb => ?_, w9⟩
        obtain ⟨o, e, d⟩ := T.obj _ _ st7 b hb
        exact (I9.pin (b, o) (List.mem_append_right _ (List.mem_append_right _ (mem_pinsAt hb e)))).2.1
      refine wpAny_mono (htt _ _ _ _ _ _ s8 _ H7 _ I8 (step v H7 y7)) (fun ok s9 h9 => ?_) fun _ _ z => False.elim z
      obtain ⟨H9, I9, q9⟩ := h9
      cases ok with
      | false =>
        rw [if_neg Bool.false_ne_true]
        rw [if_neg Bool.false_ne_true] at q9
        exact back I9 q9
      | true =>
        rw [if_pos rfl]
        rw [if_pos rfl] at q9
        refine wpAny_mono (hte _ _ _ _ _ _ s9 _ H9 _ I9 q9) (fun y s10 h10 => ?_) fun _ _ z => False.elim z
        obtain ⟨v10, H10, I10, r10, xs, hx10, hz, q10⟩ := h10
        refine wpAny_mono (mt_append (X := blkN X N scope cl x s3.heap.objs.size s3 (upd H2 s2.heap.objs.size (.lst [])) fp pins) _ s10 _ H10 (.ref s2.heap.objs.size) [v10] _ [y] (fun _ H11 => H11 = upd H10 s2.heap.objs.size (.lst (xs ++ [v10]))) I10 rfl (.cons r10 .nil) ⟨_, xs, v10, rfl, rfl, hx10, hz, rfl⟩) (fun _ s11 h11 => ?_) fun _ _ z => False.elim z
        obtain ⟨_, H11, I11, _, e11⟩ := h11
        subst e11
        exact back I11 q10
  exact codeAny_compStart_list (loop _ rfl) (T.self _ 0 _ _ _ st4 (loop _ rfl))

theorem lookup_relabel_cell {env : Env} : ∀ {names : List (Str × NameKind)} {x : Str}, names.lookup x = some .cell →
    (names.map fun (n, k) => if (k == NameKind.free && env.scope.kind == .function && env.kindOf n == some .cell) then (n, NameKind.cell) else (n, k)).lookup x = some .cell
  | [], _, h => by simp at h
  | (n, k) :: r, x, h => by
    have ih := @lookup_relabel_cell env r x
    show List.lookup x ((if (k == NameKind.free && env.scope.kind == .function && env.kindOf n == some .cell) = true then (n, NameKind.cell) else (n, k)) :: _) = _
    cases hx : x == n with
    | true =>
      simp only [List.lookup_cons, hx] at h
      cases h
      split <;> simp only [List.lookup_cons, hx]
    | false =>
      simp only [List.lookup_cons, hx] at h
      split <;> simp only [List.lookup_cons, hx] <;> exact ih h
theorem blkCN {X : Cx} {scope : Scope} {x : Str} (ns : List Str) (cap : List (Str × Nat × Addr)) (hns : cap.map (·.1) = ns) (hk : scope.kind = .function)
    (hcell : ∀ n acc, cellsFrom n scope.names acc = (x, n) :: acc) (hpush : ∀ h : Heap, pushCells h scope.names = h.push { cls := .type "cell", data := .cell none })
    (hn : ∀ p ∈ scope.names, (p.2 = .cell → p.1 = x) ∧ (p.2 = .free → p.1 ∈ ns)) (hl : ∀ y ∈ scope.names, y.2 = .local → scope.names.lookup y.1 = some .local)
    (hx : scope.names.lookup x = some .cell) (hnd : (x :: ns).Nodup) (hc : closureFor scope X.env = pure (cap.map fun p => (p.1, p.2.2))) (hok : X.env.scope.kind = .function)
    (h : ∀ p ∈ cap, scope.names.lookup p.1 = some .free ∧ X.env.cells.lookup p.1 = some p.2.2 ∧ X.env.scope.names.lookup p.1 = some .cell ∧ X.N[p.2.1]? = some p.1) :
    BlkOkN X (x :: ns) scope (cap.map fun p => (p.1, p.2.2)) (fun σ => none :: cap.map fun p => σ.getD p.2.1 none) 0 x where
  kind := hk
  cell := hcell
  push := hpush
  names := hl
  clos := hc
  lk := fun z c q => by
    have m := PySem.mem_of_lookup q
    obtain ⟨p, hp, e⟩ := List.mem_map.mp m
    cases e
    exact (h p hp).2.1
  has := fun z q => by
    have key : z = x ∨ z ∈ ns := by
      rcases q with q | q
      · obtain ⟨k0, e, q⟩ := lookup_relabel q
        have m := hn _ (PySem.mem_of_lookup e)
        rcases q with q | ⟨q, _⟩
        · exact .inl (m.1 q.symm)
        · exact .inr (m.2 q)
      · obtain ⟨k0, e, q⟩ := lookup_relabel q
        have m := hn _ (PySem.mem_of_lookup e)
        rcases q with q | ⟨q, _⟩
        · exact .inr (m.2 q.symm)
        · exact .inr (m.2 q)
    refine key.imp id fun hz => lookup_cap ?_
    rw [hns]
    exact hz
  nd := hnd
  ix := rfl
  loc := lookup_relabel_cell hx
  len := fun _ _ => by simp [← hns]
  val := fun σ k z v h1 h2 => by
    cases k with
    | zero => simp at h2
    | succ k =>
      have hz : z ∈ ns := List.mem_of_getElem? (by rw [List.getElem?_cons_succ] at h1; exact h1)
      have zx : z ≠ x := fun e => (List.nodup_cons.mp hnd).1 (e ▸ hz)
      refine ⟨zx, ?_⟩
      rw [← hns, List.getElem?_cons_succ, List.getElem?_map] at h1
      rw [List.getElem?_cons_succ, List.getElem?_map] at h2
      cases e : cap[k]? with
      | none => rw [e] at h1; cases h1
      | some p =>
        rw [e] at h1 h2
        have ez : p.1 = z := Option.some.inj h1
        have ev : σ.getD p.2.1 none = some v := Option.some.inj h2
        subst ez
        obtain ⟨a1, a2, a3, a4⟩ := h p (List.mem_of_getElem? e)
        rw [List.getD_eq_getElem?_getD] at ev
        refine ⟨p.2.1, a4, ?_, a3, lookup_relabel_free hok a3 a1⟩
        cases q : σ[p.2.1]? with
        | none => rw [q] at ev; cases ev
        | some o => rw [q] at ev; exact congrArg some ev
noncomputable def cNotB : R2 := fun x y H Q => match x, y with
  | .bl a, .bl b => Q (.bl (a != b)) H
  | _, _ => False
theorem oc_isnotB {X : Cx} : OpR X (compareOp .IsNot) cNotB := fun pins s σ H x y v u Q I r1 r2 h => by
  unfold cNotB at h
  split at h
  · cases r1
    cases r2
    exact isnot_bool ⟨.bl _, H, I, rfl, h⟩
  · exact h.elim
end L2.Internal
set_option maxHeartbeats 1000000
namespace KK.Internal
open PySem L2.Internal BO.Internal
mutual
inductive Kd where
  | any
  | num
  | fn (a b : Kd)
  | rcd (l : Kds)
  | ch (l : Kds)
  | row (a : Kd)
inductive Kds where
  | nil
  | cons (w : Str) (k : Kd) (t : Kds)
end
noncomputable def sD (s : Str) : Dt := .flat (.str s)
mutual
noncomputable def Kd.d : Kd → Dt
  | .any => .tup [sD "any"]
  | .num => .tup [sD "num"]
  | .fn a b => .tup [sD "fn", a.d, b.d]
  | .rcd l => .tup [sD "rec", .tup l.ds]
  | .ch l => .tup [sD "choice", .tup l.ds]
  | .row a => .tup [sD "row", a.d]
noncomputable def Kds.ds : Kds → List Dt
  | .nil => []
  | .cons w k t => .tup [sD w, k.d] :: t.ds
end
mutual
noncomputable def Kd.sz : Kd → Nat
  | .any => 1
  | .num => 1
  | .fn a b => a.sz + b.sz + 1
  | .rcd l => l.sz + 1
  | .ch l => l.sz + 1
  | .row a => a.sz + 1
noncomputable def Kds.sz : Kds → Nat
  | .nil => 0
  | .cons _ k t => k.sz + t.sz
end
noncomputable def Kds.toL : Kds → List (Str × Kd)
  | .nil => []
  | .cons w k t => (w, k) :: t.toL
noncomputable def ltS (a b : Str) : Prop := PySem.Spec.ltCps a.cps.toList b.cps.toList = true
mutual
noncomputable def Kd.ok : Kd → Prop
  | .any => True
  | .num => True
  | .fn a b => a.ok ∧ b.ok
  | .rcd l => l.ok ∧ (l.toL.map Prod.fst).Nodup ∧ l.toL.length ≤ 10 ∧ l.toL.Pairwise fun p q => ltS p.1 q.1
  | .ch l => l.ok ∧ (l.toL.map Prod.fst).Nodup ∧ l.toL.length ≤ 10 ∧ l.toL.Pairwise fun p q => ltS p.1 q.1
  | .row a => a.ok
noncomputable def Kds.ok : Kds → Prop
  | .nil => True
  | .cons _ k t => k.ok ∧ t.ok
end
theorem lt_tri : ∀ a b : List Nat, PySem.Spec.ltCps b a = false → a = b ∨ PySem.Spec.ltCps a b = true
  | [], [], _ => .inl rfl
  | [], _ :: _, _ => .inr rfl
  | _ :: _, [], h => by cases h
  | a :: r, b :: t, h => by
    simp only [PySem.Spec.ltCps, Bool.or_eq_false_iff, Bool.and_eq_false_iff, decide_eq_false_iff_not, beq_eq_false_iff_ne] at h
    by_cases e : a = b
    · subst e
      rcases lt_tri r t (h.2.resolve_left (fun z => z rfl)) with z | z
      · exact .inl (by rw [z])
      · exact .inr (by simp [PySem.Spec.ltCps, z])
    · refine .inr ?_
      simp only [PySem.Spec.ltCps, Bool.or_eq_true, decide_eq_true_eq]
      exact .inl (by omega)
theorem lt_tr : ∀ a b c : List Nat, PySem.Spec.ltCps a b = true → PySem.Spec.ltCps b c = true → PySem.Spec.ltCps a c = true
  | [], [], _, h, _ => by cases h
  | [], _ :: _, [], _, h => by cases h
  | [], _ :: _, _ :: _, _, _ => rfl
  | _ :: _, [], _, h, _ => by cases h
  | _ :: _, _ :: _, [], _, h => by cases h
  | a :: r, b :: t, c :: u, h1, h2 => by
    simp only [PySem.Spec.ltCps, Bool.or_eq_true, Bool.and_eq_true, decide_eq_true_eq, beq_iff_eq] at h1 h2 ⊢
    rcases h1 with h1 | ⟨h1, h1'⟩ <;> rcases h2 with h2 | ⟨h2, h2'⟩
    · left; omega
    · left; omega
    · left; omega
    · exact .inr ⟨by omega, lt_tr r t u h1' h2'⟩
theorem cps_inj {a b : Str} (h : a.cps.toList = b.cps.toList) : a = b := by
  cases a
  cases b
  rename_i x y
  have : x = y := Array.toList_inj.mp h
  rw [this]
theorem rising_strict : ∀ (p : Str) (r : List Str), PyProof.Rows.risingS p r = true → (p :: r).Nodup → (p :: r).Pairwise ltS
  | p, [], _, _ => by simp
  | p, x :: t, h, n => by
    have h' : (!PySem.Spec.ltCps x.cps.toList p.cps.toList && PyProof.Rows.risingS x t) = true := h
    rw [Bool.and_eq_true, Bool.not_eq_true'] at h'
    have n' := List.nodup_cons.mp n
    have ih := rising_strict x t h'.2 n'.2
    have px : ltS p x := (lt_tri _ _ h'.1).resolve_left fun e => n'.1 (by rw [cps_inj e]; exact List.mem_cons_self)
    refine List.pairwise_cons.mpr ⟨fun y hy => ?_, ih⟩
    rcases List.mem_cons.mp hy with rfl | hy
    · exact px
    · exact lt_tr _ _ _ px ((List.pairwise_cons.mp ih).1 y hy)
theorem sorted_strict : ∀ {ss : List Str}, PyProof.Rows.sortedS ss = true → ss.Nodup → ss.Pairwise ltS
  | [], _, _ => .nil
  | x :: r, h, n => rising_strict x r h n
theorem sub_fields {l : List (Str × Kd)} {ss : List Str} (h : (l.map Prod.fst).Sublist ss) (s : ss.Pairwise ltS) : l.Pairwise fun p q => ltS p.1 q.1 :=
  List.pairwise_map.mp (s.sublist h)
noncomputable def ofL : List (Str × Kd) → Kds
  | [] => .nil
  | p :: t => .cons p.1 p.2 (ofL t)
theorem toL_ofL : ∀ l, (ofL l).toL = l
  | [] => rfl
  | p :: t => by rw [ofL, Kds.toL, toL_ofL t]
noncomputable def fD (p : Str × Kd) : Dt := .tup [sD p.1, p.2.d]
theorem ds_toL : ∀ l : Kds, l.ds = l.toL.map fD
  | .nil => by rw [Kds.ds, Kds.toL]; rfl
  | .cons w k t => by rw [Kds.ds, Kds.toL, List.map_cons, ds_toL t]; rfl
noncomputable def szL : List (Str × Kd) → Nat
  | [] => 0
  | p :: t => p.2.sz + szL t
theorem sz_toL : ∀ l : Kds, l.sz = szL l.toL
  | .nil => by rw [Kds.sz, Kds.toL, szL]
  | .cons w k t => by rw [Kds.sz, Kds.toL, szL, sz_toL t]
theorem ok_toL : ∀ l : Kds, l.ok ↔ ∀ p ∈ l.toL, p.2.ok
  | .nil => by simp [Kds.ok, Kds.toL]
  | .cons w k t => by simp [Kds.ok, Kds.toL, ok_toL t]
theorem szL_mem : ∀ {l : List (Str × Kd)} {p : Str × Kd}, p ∈ l → p.2.sz ≤ szL l
  | q :: t, p, h => by
    rw [szL]
    rcases List.mem_cons.mp h with rfl | h
    · omega
    · have := szL_mem h; omega
  | [], _, h => by cases h
theorem sz_pos : ∀ a : Kd, 0 < a.sz := fun a => by cases a <;> simp only [Kd.sz] <;> omega
mutual
theorem dep_d : ∀ a : Kd, depD a.d ≤ 3 * a.sz
  | .any => by simp [Kd.d, Kd.sz, depD, depDs, sD]
  | .num => by simp [Kd.d, Kd.sz, depD, depDs, sD]
  | .fn a b => by
    have h1 := dep_d a
    have h2 := dep_d b
    simp only [Kd.d, Kd.sz, depD, depDs, sD]
    omega
  | .rcd l => by
    have h1 := dep_ds l
    simp only [Kd.d, Kd.sz, depD, depDs, sD]
    omega
  | .ch l => by
    have h1 := dep_ds l
    simp only [Kd.d, Kd.sz, depD, depDs, sD]
    omega
  | .row a => by
    have h1 := dep_d a
    simp only [Kd.d, Kd.sz, depD, depDs, sD]
    omega
theorem dep_ds : ∀ l : Kds, depDs l.ds ≤ 3 * l.sz + 1
  | .nil => by simp [Kds.ds, depDs]
  | .cons w k t => by
    have h1 := dep_d k
    have h2 := dep_ds t
    simp only [Kds.ds, Kds.sz, depD, depDs, sD]
    omega
end
noncomputable def Kd.tag : Kd → Str
  | .any => "any"
  | .num => "num"
  | .fn _ _ => "fn"
  | .rcd _ => "rec"
  | .ch _ => "choice"
  | .row _ => "row"
noncomputable def Kd.rest : Kd → List Dt
  | .any => []
  | .num => []
  | .fn a b => [a.d, b.d]
  | .rcd l => [.tup l.ds]
  | .ch l => [.tup l.ds]
  | .row a => [a.d]
theorem d_eq (a : Kd) : a.d = .tup (sD a.tag :: a.rest) := by cases a <;> rw [Kd.d] <;> rfl
noncomputable def isAny : Kd → Bool
  | .any => true
  | _ => false
noncomputable def isNo : Kd → Bool
  | .ch .nil => true
  | _ => false
noncomputable def noD : Dt := .tup [sD "choice", .tup []]
theorem tup_d (a : Kd) : ∃ l, a.d = .tup l := ⟨_, d_eq a⟩
theorem cmp_no (a : Kd) : cmpD a.d noD = true := by
  cases a with
  | fn a b =>
    obtain ⟨l, e⟩ := tup_d a
    simp [Kd.d, noD, cmpD, cmpDs, sD, e]
  | row a =>
    obtain ⟨l, e⟩ := tup_d a
    simp [Kd.d, noD, cmpD, cmpDs, sD, e]
  | _ => simp [Kd.d, noD, cmpD, cmpDs, sD]
theorem eq_no (a : Kd) : eqD a.d noD = isNo a := by
  have ns : ∀ {x y : Str}, x ≠ y → eqV (V.str x) (V.str y) = false := fun {x y} h => by simp [eqV, h]
  cases a with
  | any => simp [Kd.d, noD, eqD, eqDs, sD, isNo]
  | num => simp [Kd.d, noD, eqD, eqDs, sD, isNo]
  | fn a b => simp [Kd.d, noD, eqD, eqDs, sD, isNo, ns (show ("fn" : Str) ≠ "choice" by decide +kernel)]
  | rcd l => simp [Kd.d, noD, eqD, eqDs, sD, isNo, ns (show ("rec" : Str) ≠ "choice" by decide +kernel)]
  | row a => simp [Kd.d, noD, eqD, eqDs, sD, isNo, ns (show ("row" : Str) ≠ "choice" by decide +kernel)]
  | ch l =>
    cases l with
    | nil => simp [Kd.d, Kds.ds, noD, eqD, eqDs, sD, isNo, eqV]
    | cons w k t => simp [Kd.d, Kds.ds, noD, eqD, eqDs, sD, isNo]
noncomputable def lkK : List (Str × Kd) → Str → Option Kd
  | [], _ => none
  | p :: t, x => if p.1 = x then some p.2 else lkK t x
theorem lkK_mem : ∀ {l : List (Str × Kd)} {x : Str} {k : Kd}, lkK l x = some k → (x, k) ∈ l
  | p :: t, x, k, h => by
    rw [lkK] at h
    by_cases e : p.1 = x
    · rw [if_pos e] at h
      cases h
      subst e
      exact List.mem_cons_self
    · rw [if_neg e] at h
      exact List.mem_cons_of_mem _ (lkK_mem h)
  | [], _, _, h => by cases h
theorem lkK_at : ∀ {l : List (Str × Kd)} {p : Str × Kd}, (l.map Prod.fst).Nodup → p ∈ l → lkK l p.1 = some p.2
  | q :: t, p, hn, h => by
    rw [List.map_cons, List.nodup_cons] at hn
    rw [lkK]
    rcases List.mem_cons.mp h with rfl | h
    · rw [if_pos rfl]
    · rw [if_neg (fun e => hn.1 (by rw [e]; exact List.mem_map_of_mem h))]
      exact lkK_at hn.2 h
  | [], _, _, h => by cases h
noncomputable def fz (l : List (Str × Kd)) (x : Str) : Nat := match lkK l x with
  | some k => k.sz
  | none => 0
theorem fz_cons (p : Str × Kd) (t : List (Str × Kd)) (x : Str) : fz (p :: t) x = if p.1 = x then p.2.sz else fz t x := by
  unfold fz
  rw [lkK]
  by_cases e : p.1 = x
  · rw [if_pos e, if_pos e]
  · rw [if_neg e, if_neg e]
noncomputable def sumN : List Nat → Nat
  | [] => 0
  | n :: t => n + sumN t
theorem sum_fz : ∀ (l : List (Str × Kd)) (W : List Str), W.Nodup → sumN (W.map (fz l)) ≤ szL l
  | [], W, _ => by
    have : ∀ W : List Str, sumN (W.map (fz [])) = 0 := fun W => by
      induction W with
      | nil => rfl
      | cons w W ih => rw [List.map_cons, sumN, ih]; rfl
    rw [this]
    exact Nat.zero_le _
  | p :: t, W, hn => by
    have ih := sum_fz t
    have key : ∀ W : List Str, W.Nodup → sumN (W.map (fz (p :: t))) ≤ p.2.sz + sumN (W.map (fz t)) ∧ (p.1 ∉ W → sumN (W.map (fz (p :: t))) = sumN (W.map (fz t))) := fun W => by
      induction W with
      | nil => intro _; exact ⟨by simp [sumN], fun _ => rfl⟩
      | cons w W ih2 =>
        intro hn
        rw [List.nodup_cons] at hn
        obtain ⟨h1, h2⟩ := ih2 hn.2
        rw [List.map_cons, List.map_cons, sumN, sumN, fz_cons]
        by_cases e : p.1 = w
        · rw [if_pos e]
          refine ⟨?_, fun h => absurd (by rw [e]; exact List.mem_cons_self) h⟩
          have := h2 (by rw [e]; exact hn.1)
          omega
        · rw [if_neg e]
          refine ⟨by omega, fun h => ?_⟩
          have := h2 (fun hm => h (List.mem_cons_of_mem _ hm))
          omega
    have := (key W hn).1
    have := ih W hn
    rw [szL]
    omega
noncomputable def pbw (l m : List (Str × Kd)) : List (Str × Kd) → Option (List (Kd × Kd))
  | [] => some []
  | p :: t => match lkK l p.1, lkK m p.1 with
    | some a, some b => (pbw l m t).map ((a, b) :: ·)
    | _, _ => none
noncomputable def szp : List (Kd × Kd) → Nat
  | [] => 0
  | p :: t => p.1.sz + p.2.sz + szp t
theorem szp_app : ∀ l m, szp (l ++ m) = szp l + szp m
  | [], m => by rw [List.nil_append, szp]; omega
  | p :: t, m => by rw [List.cons_append, szp, szp, szp_app t m]; omega
theorem szp_rev : ∀ l, szp l.reverse = szp l
  | [] => rfl
  | p :: t => by rw [List.reverse_cons, szp_app, szp_rev t, szp, szp, szp]; omega
theorem szp_len : ∀ l, l.length ≤ szp l
  | [] => Nat.le_refl _
  | p :: t => by
    have := szp_len t
    have := sz_pos p.1
    rw [List.length_cons, szp]
    omega
theorem pbw_sz {l m : List (Str × Kd)} : ∀ {W : List (Str × Kd)} {r : List (Kd × Kd)}, pbw l m W = some r → szp r = sumN ((W.map Prod.fst).map (fz l)) + sumN ((W.map Prod.fst).map (fz m))
  | [], r, h => by cases h; rfl
  | p :: t, r, h => by
    rw [pbw] at h
    cases e1 : lkK l p.1 with
    | none => rw [e1] at h; cases h
    | some a =>
      cases e2 : lkK m p.1 with
      | none => rw [e1, e2] at h; cases h
      | some b =>
        rw [e1, e2] at h
        cases e3 : pbw l m t with
        | none => rw [e3] at h; cases h
        | some r' =>
          rw [e3] at h
          cases h
          have ih := pbw_sz e3
          have z1 : fz l p.1 = a.sz := by unfold fz; rw [e1]
          have z2 : fz m p.1 = b.sz := by unfold fz; rw [e2]
          show szp ((a, b) :: r') = _
          rw [szp, ih, List.map_cons, List.map_cons, List.map_cons, sumN, sumN, z1, z2]
          dsimp only
          omega
theorem pbw_mem {l m : List (Str × Kd)} : ∀ {W : List (Str × Kd)} {r : List (Kd × Kd)}, pbw l m W = some r → ∀ p ∈ r, (∃ w, (w, p.1) ∈ l) ∧ ∃ w, (w, p.2) ∈ m
  | [], r, h => by cases h; intro p hp; cases hp
  | q :: t, r, h => by
    rw [pbw] at h
    cases e1 : lkK l q.1 with
    | none => rw [e1] at h; cases h
    | some a =>
      cases e2 : lkK m q.1 with
      | none => rw [e1, e2] at h; cases h
      | some b =>
        rw [e1, e2] at h
        cases e3 : pbw l m t with
        | none => rw [e3] at h; cases h
        | some r' =>
          rw [e3] at h
          cases h
          intro p hp
          rcases List.mem_cons.mp hp with rfl | hp
          · exact ⟨⟨_, lkK_mem e1⟩, ⟨_, lkK_mem e2⟩⟩
          · exact pbw_mem e3 p hp
noncomputable def pw2 : Kd → Kd → Option (List (Kd × Kd))
  | .num, .num => some []
  | .fn a b, .fn c d => some [(c, a), (b, d)]
  | .rcd l, .rcd m => pbw l.toL m.toL m.toL
  | .ch l, .ch m => pbw l.toL m.toL l.toL
  | .row a, .row b => some [(a, b)]
  | _, _ => none
noncomputable def pw (a b : Kd) : Option (List (Kd × Kd)) := if (isAny b || isNo a) = true then some [] else pw2 a b
noncomputable def G (a : Kd) : Prop := a.ok ∧ a.sz ≤ 20
theorem pw_sz {a b : Kd} {l : List (Kd × Kd)} (h : pw a b = some l) (ha : a.ok) (hb : b.ok) : szp l < a.sz + b.sz := by
  have p1 := sz_pos a
  have p2 := sz_pos b
  unfold pw at h
  split at h
  · cases h
    simp only [szp]
    omega
  · unfold pw2 at h
    split at h
    · cases h; simp only [szp]; omega
    · cases h; simp only [szp, Kd.sz]; omega
    · have h1 := pbw_sz h
      rw [Kd.ok] at ha hb
      rename_i l m _
      have h2 := sum_fz l.toL _ hb.2.1
      have h3 := sum_fz m.toL _ hb.2.1
      simp only [Kd.sz, sz_toL]
      omega
    · have h1 := pbw_sz h
      rw [Kd.ok] at ha hb
      rename_i l m _
      have h2 := sum_fz l.toL _ ha.2.1
      have h3 := sum_fz m.toL _ ha.2.1
      simp only [Kd.sz, sz_toL]
      omega
    · cases h; simp only [szp, Kd.sz]; omega
    · cases h
theorem pw_good {a b : Kd} {l : List (Kd × Kd)} (h : pw a b = some l) (ga : G a) (gb : G b) : ∀ p ∈ l, G p.1 ∧ G p.2 := by
  obtain ⟨oa, sa⟩ := ga
  obtain ⟨ob, sb⟩ := gb
  unfold pw at h
  split at h
  · cases h; intro p hp; cases hp
  · unfold pw2 at h
    have fl : ∀ {l m : Kds} {W r : List _}, l.ok → m.ok → l.sz ≤ 20 → m.sz ≤ 20 → pbw l.toL m.toL W = some r → ∀ p ∈ r, G p.1 ∧ G p.2 := fun {l m W r} h1 h2 h3 h4 h p hp => by
      obtain ⟨⟨w1, m1⟩, ⟨w2, m2⟩⟩ := pbw_mem h p hp
      rw [sz_toL] at h3 h4
      exact ⟨⟨(ok_toL l).mp h1 _ m1, Nat.le_trans (szL_mem m1) h3⟩, ⟨(ok_toL m).mp h2 _ m2, Nat.le_trans (szL_mem m2) h4⟩⟩
    split at h
    · cases h; intro p hp; cases hp
    · cases h
      rw [Kd.ok] at oa ob
      simp only [Kd.sz] at sa sb
      intro p hp
      simp only [List.mem_cons, List.not_mem_nil, or_false] at hp
      rcases hp with rfl | rfl
      · exact ⟨⟨ob.1, by dsimp only; omega⟩, ⟨oa.1, by dsimp only; omega⟩⟩
      · exact ⟨⟨oa.2, by dsimp only; omega⟩, ⟨ob.2, by dsimp only; omega⟩⟩
    · rw [Kd.ok] at oa ob
      simp only [Kd.sz] at sa sb
      exact fl oa.1 ob.1 (by omega) (by omega) h
    · rw [Kd.ok] at oa ob
      simp only [Kd.sz] at sa sb
      exact fl oa.1 ob.1 (by omega) (by omega) h
    · cases h
      rw [Kd.ok] at oa ob
      simp only [Kd.sz] at sa sb
      intro p hp
      simp only [List.mem_cons, List.not_mem_nil, or_false] at hp
      subst hp
      exact ⟨⟨oa, by dsimp only; omega⟩, ⟨ob, by dsimp only; omega⟩⟩
    · cases h
noncomputable def undF : Nat → List (Kd × Kd) → Bool
  | 0, _ => true
  | _ + 1, [] => true
  | f + 1, p :: st => match pw p.1 p.2 with
    | none => false
    | some l => undF f (l.reverse ++ st)
noncomputable def und (a b : Kd) : Bool := undF (a.sz + b.sz) [(a, b)]
noncomputable def pD (p : Kd × Kd) : Dt := .tup [p.1.d, p.2.d]
theorem kd_tup {H : Hp} {v : V} {a : Kd} (h : Im H v a.d) : ∃ t xs, v = .ref t ∧ H t = some (.tup (.str a.tag :: xs)) ∧ Ims H xs a.rest := by
  rw [d_eq] at h
  cases h with
  | tup e hs =>
    cases hs with
    | cons h1 hs =>
      cases h1
      exact ⟨_, _, rfl, e, hs⟩
mutual
theorem im_at {K : PySem.W.Frag} {H : Hp} : ∀ {v : V} {d : Dt}, Im H v d → At K H v d
  | v, _, .flat h => .flat (by cases v <;> first | rfl | cases h)
  | _, _, .tup h hs => .tup (SqT.of h) (ims_at2 hs)
theorem ims_at2 {K : PySem.W.Frag} {H : Hp} : ∀ {v : List V} {d : List Dt}, Ims H v d → Ats K H v d
  | _, _, .nil => .nil
  | _, _, .cons h t => .cons (im_at h) (ims_at2 t)
end
noncomputable def lkP : List (Str × V) → Str → Option V
  | [], _ => none
  | p :: t, x => if p.1 = x then some p.2 else lkP t x
theorem lkP_none : ∀ {l : List (Str × V)} {x : Str}, x ∉ l.map Prod.fst → lkP l x = none
  | [], _, _ => rfl
  | p :: t, x, h => by
    rw [List.map_cons, List.mem_cons, not_or] at h
    rw [lkP, if_neg (fun e => h.1 e.symm), lkP_none h.2]
theorem valV_mergeP : ∀ (l : List (Str × V)) (acc : List (Key × V)) (w : Str), (l.map Prod.fst).Nodup → valV (mergeK acc (l.map kf)) (Sum.inr w) = match lkP l w with
    | some v => some v
    | none => valV acc (Sum.inr w)
  | [], _, _, _ => rfl
  | p :: t, acc, w, h => by
    obtain ⟨h1, h2⟩ := List.nodup_cons.mp (show (p.1 :: t.map Prod.fst).Nodup from h)
    show valV (mergeK (putK acc (Sum.inr p.1) p.2) (t.map kf)) (Sum.inr w) = _
    rw [valV_mergeP t _ w h2, valV_put, lkP]
    by_cases e : p.1 = w
    · rw [if_pos e, lkP_none (by rw [← e]; exact h1)]
      rw [if_pos (by rw [e])]
    · rw [if_neg e]
      rw [if_neg (fun z => e (by injection z with z; exact z.symm))]
theorem fld {H : Hp} {v : V} {p : Str × Kd} (h : Im H v (fD p)) : ∃ t x, v = .ref t ∧ H t = some (.tup [.str p.1, x]) ∧ Im H x p.2.d := by
  unfold fD at h
  cases h with
  | tup e hs =>
    cases hs with
    | cons h1 hs =>
      cases h1
      cases hs with
      | cons h2 hs =>
        cases hs
        exact ⟨_, _, rfl, e, h2⟩
theorem flds {H : Hp} : ∀ {ys : List V} {l : List (Str × Kd)}, Ims H ys (l.map fD) → ∃ ps : List (Str × V), Prs H ys ps ∧ ps.map Prod.fst = l.map Prod.fst ∧ ∀ w, match lkK l w with
    | some k => ∃ v, lkP ps w = some v ∧ Im H v k.d
    | none => lkP ps w = none
  | _, [], .nil => ⟨[], .nil, rfl, fun w => by rw [lkK]; rfl⟩
  | _, p :: t, .cons h hs => by
    obtain ⟨a, x, rfl, e, hx⟩ := fld h
    obtain ⟨ps, h1, h2, h3⟩ := flds hs
    refine ⟨(p.1, x) :: ps, .cons e h1, by rw [List.map_cons, List.map_cons, h2], fun w => ?_⟩
    rw [lkK, lkP]
    by_cases ew : p.1 = w
    · rw [if_pos ew, if_pos ew]
      exact ⟨x, rfl, hx⟩
    · rw [if_neg ew, if_neg ew]
      exact h3 w
noncomputable def DKd (H : Hp) (d : Addr) (l : List (Str × Kd)) : Prop := ∃ kvs, H d = some (.dK kvs) ∧ ∀ w, match lkK l w with
    | some k => ∃ v, valV kvs (Sum.inr w) = some v ∧ Im H v k.d
    | none => valV kvs (Sum.inr w) = none
theorem DKd.same {H H' : Hp} {d : Addr} {l : List (Str × Kd)} (h : DKd H d l) (S : Same H H') : DKd H' d l := by
  obtain ⟨kvs, e, f⟩ := h
  refine ⟨kvs, S _ _ e, fun w => ?_⟩
  have := f w
  cases ek : lkK l w with
  | none => rw [ek] at this; exact this
  | some k =>
    rw [ek] at this
    obtain ⟨v, h1, h2⟩ := this
    exact ⟨v, h1, h2.mono (Same.tk S)⟩
theorem DKd.new {H : Hp} {d : Addr} {l : List (Str × Kd)} {ps : List (Str × V)} (hd : H d = none) (hn : (l.map Prod.fst).Nodup) (h2 : ps.map Prod.fst = l.map Prod.fst) (h3 : ∀ w, match lkK l w with
    | some k => ∃ v, lkP ps w = some v ∧ Im H v k.d
    | none => lkP ps w = none) : DKd (upd H d (.dK (mergeK [] (ps.map kf)))) d l := by
  refine ⟨_, upd_same, fun w => ?_⟩
  have := h3 w
  have hm := valV_mergeP ps [] w (by rw [h2]; exact hn)
  cases ek : lkK l w with
  | none =>
    rw [ek] at this
    rw [this] at hm
    exact hm
  | some k =>
    rw [ek] at this
    obtain ⟨v, h4, h5⟩ := this
    rw [h4] at hm
    exact ⟨v, hm, h5.mono (Same.tk (same_new hd _))⟩
theorem DKd.some {H : Hp} {d : Addr} {l : List (Str × Kd)} {w : Str} {k : Kd} (h : DKd H d l) (e : lkK l w = some k) : ∃ v, DGet H d (.str w) (some v) ∧ Im H v k.d := by
  obtain ⟨kvs, e1, f⟩ := h
  have := f w
  rw [e] at this
  obtain ⟨v, h1, h2⟩ := this
  exact ⟨v, by rw [← h1]; exact DGet.k (k := (Sum.inr w : Key)) e1, h2⟩
theorem DKd.none {H : Hp} {d : Addr} {l : List (Str × Kd)} {w : Str} (h : DKd H d l) (e : lkK l w = none) : DGet H d (.str w) none := by
  obtain ⟨kvs, e1, f⟩ := h
  have := f w
  rw [e] at this
  rw [← this]
  exact DGet.k (k := (Sum.inr w : Key)) e1
theorem pbw_app (l m : List (Str × Kd)) : ∀ A B, pbw l m (A ++ B) = (pbw l m A).bind fun r => (pbw l m B).map (r ++ ·)
  | [], B => by
    rw [List.nil_append, pbw]
    cases pbw l m B <;> rfl
  | p :: t, B => by
    rw [List.cons_append, pbw, pbw, pbw_app l m t B]
    cases lkK l p.1 with
    | none => rfl
    | some a =>
      cases lkK m p.1 with
      | none => rfl
      | some b =>
        cases pbw l m t with
        | none => rfl
        | some r => cases pbw l m B <;> rfl
theorem pbw_snoc {l m A : List (Str × Kd)} {p : Str × Kd} {r : List (Kd × Kd)} {a b : Kd} (h : pbw l m A = some r) (h1 : lkK l p.1 = some a) (h2 : lkK m p.1 = some b) : pbw l m (A ++ [p]) = some (r ++ [(a, b)]) := by
  rw [pbw_app, h, pbw, h1, h2, pbw]
  rfl
theorem pbw_bad {l m W : List (Str × Kd)} {i : Nat} {p : Str × Kd} (hp : W[i]? = some p) (h : lkK l p.1 = none ∨ lkK m p.1 = none) : pbw l m W = none := by
  have hi := (List.getElem?_eq_some_iff.mp hp).1
  have e : W = W.take i ++ (p :: W.drop (i + 1)) := by
    rw [← (List.getElem?_eq_some_iff.mp hp).2, ← List.drop_eq_getElem_cons hi, List.take_append_drop]
  rw [e, pbw_app]
  have : pbw l m (p :: W.drop (i + 1)) = none := by
    rw [pbw]
    rcases h with h | h
    · rw [h]
    · rw [h]
      cases lkK l p.1 <;> rfl
  rw [this]
  cases pbw l m (W.take i) <;> rfl
noncomputable def PwV (H0 H : Hp) (v : V) : Option (List (Kd × Kd)) → Prop
  | none => v = .non
  | some r => ∃ t xs, v = .ref t ∧ H0 t = none ∧ H t = some (.lst xs) ∧ Ims H xs (r.map pD)
theorem Ims.atK {H : Hp} : ∀ {xs : List V} {ds : List Dt} {k : Nat} {v : V}, Ims H xs ds → xs[k]? = some v → ∃ d, ds[k]? = some d ∧ Im H v d
  | _, _, 0, _, .cons h _, e => by cases e; exact ⟨_, rfl, h⟩
  | _, _, k + 1, _, .cons _ t, e => Ims.atK (k := k) t e
theorem fld_at {H : Hp} {xs : List V} {l : List (Str × Kd)} {k : Nat} {v : V} (h : Ims H xs (l.map fD)) (e : xs[k]? = some v) : ∃ p t x, l[k]? = some p ∧ v = .ref t ∧ H t = some (.tup [.str p.1, x]) ∧ Im H x p.2.d := by
  obtain ⟨d, ed, hd⟩ := Ims.atK h e
  rw [List.getElem?_map] at ed
  cases ep : l[k]? with
  | none => rw [ep] at ed; cases ed
  | some p =>
    rw [ep] at ed
    cases ed
    obtain ⟨t, x, h1, h2, h3⟩ := fld hd
    exact ⟨p, t, x, rfl, h1, h2, h3⟩
theorem im_newK {H : Hp} {t : Addr} {xs : List V} {ds : List Dt} (h : H t = none) (i : Ims H xs ds) : Im (upd H t (.tup xs)) (.ref t) (.tup ds) := .tup upd_same (i.mono (Same.tk (same_new h _)))
theorem same_updK {H H2 : Hp} {l : Addr} (s : Same H H2) (h : H l = none) (o : HO) : Same H (upd H2 l o) := fun b u e => by rw [upd_ne (ne_of_none e h)]; exact s b u e
theorem szL_len : ∀ l : List (Str × Kd), l.length ≤ szL l
  | [] => Nat.le_refl _
  | p :: t => by
    have := szL_len t
    have := sz_pos p.2
    rw [List.length_cons, szL]
    omega
noncomputable def rTupOf (K : PySem.W.Frag) : List V → Hp → VK → Prop := fun xs H Q => ∃ p ys, xs = [.ref p] ∧ ((SqL K H p ys ∧ ∀ l, H l = none → Q (.ref l) (upd H l (.tup ys))) ∨ (SqT K H p ys ∧ Q (.ref p) H))
end KK.Internal
set_option maxHeartbeats 1000000
namespace KK.Internal
open PySem L2.Internal BO.Internal
theorem undF_split : ∀ (n f : Nat) (st : List (Kd × Kd)), szp st ≤ n → szp st ≤ f → (∀ p ∈ st, G p.1 ∧ G p.2) → (undF f st = true ↔ ∀ p ∈ st, und p.1 p.2 = true)
  | n, f, [], _, _, _ => by cases f <;> simp [undF]
  | 0, f, p :: t, hn, _, _ => by
    have := sz_pos p.1
    rw [szp] at hn
    omega
  | n + 1, f, p :: t, hn, hf, hg => by
    have p1 := sz_pos p.1
    have gp := hg p (by simp)
    rw [szp] at hn hf
    obtain ⟨f, rfl⟩ : ∃ f', f = f' + 1 := ⟨f - 1, by omega⟩
    obtain ⟨s, hs⟩ : ∃ s, p.1.sz + p.2.sz = s + 1 := ⟨p.1.sz + p.2.sz - 1, by omega⟩
    have hu : und p.1 p.2 = undF (s + 1) [p] := by unfold und; rw [hs]
    rw [undF]
    cases e : pw p.1 p.2 with
    | none =>
      constructor
      · intro h; cases h
      · intro h
        have := h p (by simp)
        rw [hu, undF, e] at this
        cases this
    | some l =>
      have hz := pw_sz e gp.1.1 gp.2.1
      have hl := pw_good e gp.1 gp.2
      have ih := undF_split n f (l.reverse ++ t) (by rw [szp_app, szp_rev]; omega) (by rw [szp_app, szp_rev]; omega) (fun q hq => by
        rcases List.mem_append.mp hq with hq | hq
        · exact hl q (List.mem_reverse.mp hq)
        · exact hg q (by simp [hq]))
      have ip := undF_split n s (l.reverse ++ []) (by rw [szp_app, szp_rev, szp]; omega) (by rw [szp_app, szp_rev, szp]; omega) (fun q hq => hl q (by simpa using hq))
      have hu2 : und p.1 p.2 = undF s (l.reverse ++ []) := by rw [hu, undF, e]
      dsimp only
      rw [ih]
      constructor
      · intro h q hq
        rcases List.mem_cons.mp hq with rfl | hq
        · rw [hu2, ip]
          intro r hr
          exact h r (List.mem_append.mpr (.inl (by simpa using hr)))
        · exact h q (List.mem_append.mpr (.inr hq))
      · intro h q hq
        rcases List.mem_append.mp hq with hq | hq
        · exact (ip.mp (by rw [← hu2]; exact h p (by simp))) q (by simpa using hq)
        · exact h q (by simp [hq])
theorem und_iff {a b : Kd} (ga : G a) (gb : G b) : und a b = true ↔ ∃ l, pw a b = some l ∧ ∀ q ∈ l, und q.1 q.2 = true := by
  have p1 := sz_pos a
  obtain ⟨s, hs⟩ : ∃ s, a.sz + b.sz = s + 1 := ⟨a.sz + b.sz - 1, by omega⟩
  have hu : und a b = undF (s + 1) [(a, b)] := by unfold und; rw [hs]
  rw [hu, undF]
  dsimp only
  cases e : pw a b with
  | none => simp
  | some l =>
    have hz := pw_sz e ga.1 gb.1
    have hl := pw_good e ga gb
    dsimp only
    rw [undF_split _ s (l.reverse ++ []) (Nat.le_refl _) (by rw [szp_app, szp_rev, szp]; omega) (fun q hq => hl q (by simpa using hq))]
    constructor
    · intro h
      exact ⟨l, rfl, fun q hq => h q (by simpa using hq)⟩
    · rintro ⟨l', e', h⟩ q hq
      cases e'
      exact h q (by simpa using hq)
theorem pbw_iff {l m : List (Str × Kd)} {Pr : Kd × Kd → Prop} : ∀ (W : List (Str × Kd)), (∃ r, pbw l m W = some r ∧ ∀ q ∈ r, Pr q) ↔ ∀ p ∈ W, ∃ a b, lkK l p.1 = some a ∧ lkK m p.1 = some b ∧ Pr (a, b)
  | [] => by
    constructor
    · intro _ p hp; cases hp
    · intro _
      exact ⟨[], rfl, fun q hq => by cases hq⟩
  | p :: t => by
    rw [pbw]
    cases e1 : lkK l p.1 with
    | none =>
      constructor
      · rintro ⟨r, h, _⟩; cases h
      · intro h
        obtain ⟨a, b, h1, _⟩ := h p (by simp)
        rw [e1] at h1
        cases h1
    | some a =>
      cases e2 : lkK m p.1 with
      | none =>
        constructor
        · rintro ⟨r, h, _⟩; cases h
        · intro h
          obtain ⟨a', b, _, h2, _⟩ := h p (by simp)
          rw [e2] at h2
          cases h2
      | some b =>
        have ih := pbw_iff (l := l) (m := m) (Pr := Pr) t
        dsimp only
        constructor
        · rintro ⟨r, h, hr⟩ q hq
          cases e3 : pbw l m t with
          | none => rw [e3] at h; cases h
          | some r' =>
            rw [e3] at h
            cases h
            rcases List.mem_cons.mp hq with rfl | hq
            · exact ⟨a, b, e1, e2, hr _ (by simp)⟩
            · exact ih.mp ⟨r', e3, fun z hz => hr z (by simp [hz])⟩ q hq
        · intro h
          obtain ⟨r', e3, hr⟩ := ih.mpr fun q hq => h q (by simp [hq])
          obtain ⟨a', b', h1, h2, h3⟩ := h p (by simp)
          rw [e1] at h1
          rw [e2] at h2
          cases h1
          cases h2
          rw [e3]
          refine ⟨_, rfl, fun z hz => ?_⟩
          rcases List.mem_cons.mp hz with rfl | hz
          · exact h3
          · exact hr z hz
noncomputable def Rel : Kd → Kd → Prop
  | .num, .num => True
  | .fn a b, .fn c d => und c a = true ∧ und b d = true
  | .rcd l, .rcd m => ∀ p ∈ m.toL, ∃ k, lkK l.toL p.1 = some k ∧ und k p.2 = true
  | .ch l, .ch m => ∀ p ∈ l.toL, ∃ k, lkK m.toL p.1 = some k ∧ und p.2 k = true
  | .row a, .row b => und a b = true
  | _, _ => False
theorem und_rel {a b : Kd} (ga : G a) (gb : G b) : und a b = true ↔ (isAny b || isNo a) = true ∨ Rel a b := by
  rw [und_iff ga gb]
  unfold pw
  by_cases h : (isAny b || isNo a) = true
  · rw [if_pos h]
    exact ⟨fun _ => .inl h, fun _ => ⟨[], rfl, fun q hq => by cases hq⟩⟩
  · rw [if_neg h]
    have hh : ∀ X : Prop, ((isAny b || isNo a) = true ∨ X) ↔ X := fun X => ⟨fun z => z.resolve_left h, .inr⟩
    rw [hh]
    clear hh
    obtain ⟨oa, sa⟩ := ga
    obtain ⟨ob, sb⟩ := gb
    cases a <;> cases b <;> first
      | (simp [pw2, Rel]; done)
      | skip
    · rw [pw2, Rel]
      constructor
      · rintro ⟨l, e, h⟩
        cases e
        exact ⟨h (_, _) (by simp), h (_, _) (by simp)⟩
      · rintro ⟨h1, h2⟩
        refine ⟨_, rfl, fun q hq => ?_⟩
        simp only [List.mem_cons, List.not_mem_nil, or_false] at hq
        rcases hq with rfl | rfl
        · exact h1
        · exact h2
    · rename_i l m
      rw [Kd.ok] at oa ob
      rw [pw2, pbw_iff, Rel]
      constructor
      · intro h p hp
        obtain ⟨x, y, h1, h2, h3⟩ := h p hp
        rw [lkK_at ob.2.1 hp] at h2
        cases h2
        exact ⟨x, h1, h3⟩
      · intro h p hp
        obtain ⟨x, h1, h3⟩ := h p hp
        exact ⟨x, p.2, h1, lkK_at ob.2.1 hp, h3⟩
    · rename_i l m
      rw [Kd.ok] at oa ob
      rw [pw2, pbw_iff, Rel]
      constructor
      · intro h p hp
        obtain ⟨x, y, h1, h2, h3⟩ := h p hp
        rw [lkK_at oa.2.1 hp] at h1
        cases h1
        exact ⟨y, h2, h3⟩
      · intro h p hp
        obtain ⟨x, h1, h3⟩ := h p hp
        exact ⟨p.2, x, lkK_at oa.2.1 hp, h1, h3⟩
theorem G.fn {a b : Kd} (h : G (.fn a b)) : G a ∧ G b := by
  obtain ⟨o, s⟩ := h
  rw [Kd.ok] at o
  rw [Kd.sz] at s
  exact ⟨⟨o.1, by omega⟩, ⟨o.2, by omega⟩⟩
theorem G.row {a : Kd} (h : G (.row a)) : G a := by
  obtain ⟨o, s⟩ := h
  rw [Kd.ok] at o
  rw [Kd.sz] at s
  exact ⟨o, by omega⟩
theorem G.rcd {l : Kds} (h : G (.rcd l)) {p : Str × Kd} (hp : p ∈ l.toL) : G p.2 ∧ p.2.sz < (Kd.rcd l).sz := by
  obtain ⟨o, s⟩ := h
  rw [Kd.ok] at o
  rw [Kd.sz, sz_toL] at s ⊢
  have := szL_mem hp
  exact ⟨⟨(ok_toL l).mp o.1 _ hp, by omega⟩, by omega⟩
theorem G.ch {l : Kds} (h : G (.ch l)) {p : Str × Kd} (hp : p ∈ l.toL) : G p.2 ∧ p.2.sz < (Kd.ch l).sz := by
  obtain ⟨o, s⟩ := h
  rw [Kd.ok] at o
  rw [Kd.sz, sz_toL] at s ⊢
  have := szL_mem hp
  exact ⟨⟨(ok_toL l).mp o.1 _ hp, by omega⟩, by omega⟩
theorem und_refl : ∀ (n : Nat) (a : Kd), a.sz ≤ n → G a → und a a = true
  | 0, a, h, _ => by have := sz_pos a; omega
  | n + 1, a, h, g => by
    rw [und_rel g g]
    cases a with
    | any => exact .inl rfl
    | num => exact .inr trivial
    | fn a b =>
      rw [Kd.sz] at h
      exact .inr ⟨und_refl n a (by omega) g.fn.1, und_refl n b (by omega) g.fn.2⟩
    | rcd l =>
      refine .inr fun p hp => ?_
      have := g.rcd hp
      have o := g.1
      rw [Kd.ok] at o
      exact ⟨p.2, lkK_at o.2.1 hp, und_refl n p.2 (by omega) this.1⟩
    | ch l =>
      refine .inr fun p hp => ?_
      have := g.ch hp
      have o := g.1
      rw [Kd.ok] at o
      exact ⟨p.2, lkK_at o.2.1 hp, und_refl n p.2 (by omega) this.1⟩
    | row a =>
      rw [Kd.sz] at h
      exact .inr (und_refl n a (by omega) g.row)
theorem und_any {a : Kd} (g : G a) : und a .any = true := (und_rel g ⟨by rw [Kd.ok]; trivial, by rw [Kd.sz]; decide⟩).mpr (.inl rfl)
theorem und_no {a : Kd} (g : G a) : und (.ch .nil) a = true := (und_rel ⟨by simp [Kd.ok, Kds.ok, Kds.toL], by simp [Kd.sz, Kds.sz]⟩ g).mpr (.inl (by simp [isNo]))
theorem rel_no {a : Kd} (h : Rel a (.ch .nil)) : isNo a = true := by
  cases a with
  | ch l =>
    cases l with
    | nil => rfl
    | cons w k t =>
      obtain ⟨_, z, _⟩ := h (w, k) (by rw [Kds.toL]; simp)
      cases z
  | _ => exact h.elim
theorem is_no {a : Kd} (h : isNo a = true) : a = .ch .nil := by
  cases a with
  | ch l => cases l with
    | nil => rfl
    | cons w k t => cases h
  | _ => cases h
theorem is_any {a : Kd} (h : isAny a = true) : a = .any := by
  cases a <;> first | rfl | cases h
theorem und_trans : ∀ (n : Nat) (a b c : Kd), a.sz + b.sz + c.sz ≤ n → G a → G b → G c → und a b = true → und b c = true → und a c = true
  | 0, a, b, c, h, _, _, _, _, _ => by have := sz_pos a; omega
  | n + 1, a, b, c, h, ga, gb, gc, h1, h2 => by
    rw [und_rel ga gc]
    rw [und_rel ga gb] at h1
    rw [und_rel gb gc] at h2
    by_cases hc : (isAny c || isNo a) = true
    · exact .inl hc
    refine .inr ?_
    have c1 : isAny c = false := by cases e : isAny c with
      | false => rfl
      | true => rw [e] at hc; exact absurd rfl hc
    have c2 : isNo a = false := by cases e : isNo a with
      | false => rfl
      | true => rw [e, Bool.or_true] at hc; exact absurd rfl hc
    rw [c2, Bool.or_false] at h1
    rw [c1, Bool.false_or] at h2
    rcases h1 with h1 | h1
    · obtain rfl := is_any h1
      rcases h2 with h2 | h2
      · cases h2
      · cases c <;> exact h2.elim
    rcases h2 with h2 | h2
    · obtain rfl := is_no h2
      rw [rel_no h1] at c2
      cases c2
    cases b with
    | any => cases a <;> exact h1.elim
    | num => cases a <;> cases c <;> first | exact h1.elim | exact h2.elim | exact trivial
    | fn b1 b2 =>
      cases a with
      | fn a1 a2 =>
        cases c with
        | fn d1 d2 =>
          rw [Kd.sz, Kd.sz, Kd.sz] at h
          exact ⟨und_trans n d1 b1 a1 (by omega) gc.fn.1 gb.fn.1 ga.fn.1 h2.1 h1.1, und_trans n a2 b2 d2 (by omega) ga.fn.2 gb.fn.2 gc.fn.2 h1.2 h2.2⟩
        | _ => exact h2.elim
      | _ => exact h1.elim
    | rcd m =>
      cases a with
      | rcd l =>
        cases c with
        | rcd o =>
          intro p hp
          obtain ⟨k, e1, u1⟩ := h2 p hp
          obtain ⟨k', e2, u2⟩ := h1 _ (lkK_mem e1)
          have g1 := gc.rcd hp
          have g2 := gb.rcd (lkK_mem e1)
          have g3 := ga.rcd (lkK_mem e2)
          exact ⟨k', e2, und_trans n k' k p.2 (by have z1 := g1.2; have z2 : k.sz < (Kd.rcd m).sz := g2.2; have z3 : k'.sz < (Kd.rcd l).sz := g3.2; omega) g3.1 g2.1 g1.1 u2 u1⟩
        | _ => exact h2.elim
      | _ => exact h1.elim
    | ch m =>
      cases a with
      | ch l =>
        cases c with
        | ch o =>
          intro p hp
          obtain ⟨k, e1, u1⟩ := h1 p hp
          obtain ⟨k', e2, u2⟩ := h2 _ (lkK_mem e1)
          have g1 := ga.ch hp
          have g2 := gb.ch (lkK_mem e1)
          have g3 := gc.ch (lkK_mem e2)
          exact ⟨k', e2, und_trans n p.2 k k' (by have z1 := g1.2; have z2 : k.sz < (Kd.ch m).sz := g2.2; have z3 : k'.sz < (Kd.ch o).sz := g3.2; omega) g1.1 g2.1 g3.1 u1 u2⟩
        | _ => exact h2.elim
      | _ => exact h1.elim
    | row b =>
      cases a with
      | row a =>
        cases c with
        | row c =>
          rw [Kd.sz, Kd.sz, Kd.sz] at h
          exact und_trans n a b c (by omega) ga.row gb.row gc.row h1 h2
        | _ => exact h2.elim
      | _ => exact h1.elim
theorem lt_asym : ∀ a b : List Nat, PySem.Spec.ltCps a b = true → PySem.Spec.ltCps b a = true → False
  | [], [], h, _ => by cases h
  | [], _ :: _, _, h => by cases h
  | _ :: _, [], h, _ => by cases h
  | a :: r, b :: t, h, h2 => by
    simp only [PySem.Spec.ltCps, Bool.or_eq_true, Bool.and_eq_true, decide_eq_true_eq, beq_iff_eq] at h h2
    rcases h with h | ⟨h, h'⟩
    · rcases h2 with h2 | ⟨h2, _⟩ <;> omega
    · rcases h2 with h2 | ⟨_, h2⟩
      · omega
      · exact lt_asym r t h' h2
theorem eq_sorted {α : Type} {R : α → α → Prop} (as : ∀ a b, R a b → R b a → False) : ∀ {l m : List α}, l.Pairwise R → m.Pairwise R → (∀ x, x ∈ l ↔ x ∈ m) → l = m
  | [], [], _, _, _ => rfl
  | [], y :: m, _, _, h => by have := (h y).mpr (by simp); cases this
  | x :: l, [], _, _, h => by have := (h x).mp (by simp); cases this
  | x :: l, y :: m, hl, hm, h => by
    rw [List.pairwise_cons] at hl hm
    have e : x = y := by
      rcases List.mem_cons.mp ((h x).mp (by simp)) with e | e
      · exact e
      · rcases List.mem_cons.mp ((h y).mpr (by simp)) with e2 | e2
        · exact e2.symm
        · exact (as _ _ (hl.1 y e2) (hm.1 x e)).elim
    subst e
    have ir : ∀ {z : α}, R x z → z ≠ x := fun {z} r e => by subst e; exact as _ _ r r
    rw [eq_sorted as hl.2 hm.2 fun z => ?_]
    constructor
    · intro hz
      rcases List.mem_cons.mp ((h z).mp (by simp [hz])) with e | e
      · exact (ir (hl.1 z hz) e).elim
      · exact e
    · intro hz
      rcases List.mem_cons.mp ((h z).mpr (by simp [hz])) with e | e
      · exact (ir (hm.1 z hz) e).elim
      · exact e
mutual
noncomputable def So : Kd → Prop
  | .any => True
  | .num => True
  | .fn a b => So a ∧ So b
  | .rcd l => SoL l ∧ l.toL.Pairwise fun p q => ltS p.1 q.1
  | .ch l => SoL l ∧ l.toL.Pairwise fun p q => ltS p.1 q.1
  | .row a => So a
noncomputable def SoL : Kds → Prop
  | .nil => True
  | .cons _ k t => So k ∧ SoL t
end
theorem so_toL : ∀ l : Kds, SoL l ↔ ∀ p ∈ l.toL, So p.2
  | .nil => by simp [SoL, Kds.toL]
  | .cons w k t => by simp [SoL, Kds.toL, so_toL t]
theorem ofL_toL : ∀ l : Kds, ofL l.toL = l
  | .nil => by rw [Kds.toL, ofL]
  | .cons w k t => by rw [Kds.toL, ofL, ofL_toL t]
theorem toL_inj {l m : Kds} (h : l.toL = m.toL) : l = m := by rw [← ofL_toL l, h, ofL_toL]
theorem und_anti : ∀ (n : Nat) (a b : Kd), a.sz + b.sz ≤ n → G a → G b → So a → So b → und a b = true → und b a = true → a = b
  | 0, a, b, h, _, _, _, _, _, _ => by have := sz_pos a; omega
  | n + 1, a, b, h, ga, gb, sa, sb, h1, h2 => by
    rw [und_rel ga gb] at h1
    rw [und_rel gb ga] at h2
    have key : ∀ {x y : Kd}, (isAny y || isNo x) = true → ((isAny x || isNo y) = true ∨ Rel y x) → x = y := fun {x y} h1 h2 => by
      rcases Bool.or_eq_true _ _ |>.mp h1 with e | e
      · obtain rfl := is_any e
        rcases h2 with h2 | h2
        · rcases Bool.or_eq_true _ _ |>.mp h2 with e | e
          · exact is_any e
          · cases e
        · cases x <;> exact h2.elim
      · obtain rfl := is_no e
        rcases h2 with h2 | h2
        · rcases Bool.or_eq_true _ _ |>.mp h2 with e | e
          · cases e
          · exact (is_no e).symm
        · exact (is_no (rel_no h2)).symm
    rcases h1 with h1 | h1
    · exact key h1 h2
    rcases h2 with h2 | h2
    · exact (key h2 (.inr h1)).symm
    have both : ∀ {l m : List (Str × Kd)} (N : Nat), (l.map Prod.fst).Nodup → (m.map Prod.fst).Nodup → (∀ p ∈ l, G p.2 ∧ So p.2) → (∀ p ∈ m, G p.2 ∧ So p.2) → l.Pairwise (fun p q => ltS p.1 q.1) → m.Pairwise (fun p q => ltS p.1 q.1) →
        (∀ p ∈ l, ∀ q ∈ m, p.2.sz + q.2.sz ≤ n) → (∀ p ∈ m, ∃ k, lkK l p.1 = some k ∧ und k p.2 = true) → (∀ p ∈ l, ∃ k, lkK m p.1 = some k ∧ und k p.2 = true) → l = m := fun {l m} _ nl nm gl gm pl pm hs h1 h2 => by
      refine eq_sorted (fun p q a b => lt_asym _ _ a b) pl pm fun x => ⟨fun hx => ?_, fun hx => ?_⟩
      · obtain ⟨k, e, u⟩ := h2 x hx
        have mk := lkK_mem e
        obtain ⟨k', e', u'⟩ := h1 _ mk
        rw [show (x.1, k).1 = x.1 from rfl, lkK_at nl hx] at e'
        cases e'
        have := und_anti n x.2 k (hs x hx _ mk) (gl x hx).1 (gm _ mk).1 (gl x hx).2 (gm _ mk).2 u' u
        rw [← this] at mk
        exact mk
      · obtain ⟨k, e, u⟩ := h1 x hx
        have mk := lkK_mem e
        obtain ⟨k', e', u'⟩ := h2 _ mk
        rw [show (x.1, k).1 = x.1 from rfl, lkK_at nm hx] at e'
        cases e'
        have := und_anti n k x.2 (hs _ mk x hx) (gl _ mk).1 (gm x hx).1 (gl _ mk).2 (gm x hx).2 u u'
        rw [this] at mk
        exact mk
    cases a with
    | any => cases b <;> exact h1.elim
    | num => cases b <;> first | rfl | exact h1.elim
    | fn a1 a2 =>
      cases b with
      | fn b1 b2 =>
        rw [Kd.sz, Kd.sz] at h
        rw [So] at sa sb
        rw [und_anti n a1 b1 (by omega) ga.fn.1 gb.fn.1 sa.1 sb.1 h2.1 h1.1, und_anti n a2 b2 (by omega) ga.fn.2 gb.fn.2 sa.2 sb.2 h1.2 h2.2]
      | _ => exact h1.elim
    | rcd l =>
      cases b with
      | rcd m =>
        rw [So, so_toL] at sa sb
        have oa := ga.1
        have ob := gb.1
        rw [Kd.ok] at oa ob
        rw [toL_inj (both n oa.2.1 ob.2.1 (fun p hp => ⟨(ga.rcd hp).1, sa.1 p hp⟩) (fun p hp => ⟨(gb.rcd hp).1, sb.1 p hp⟩) sa.2 sb.2 (fun p hp q hq => by have := (ga.rcd hp).2; have := (gb.rcd hq).2; omega) h1 h2)]
      | _ => exact h1.elim
    | ch l =>
      cases b with
      | ch m =>
        rw [So, so_toL] at sa sb
        have oa := ga.1
        have ob := gb.1
        rw [Kd.ok] at oa ob
        have sw : ∀ {l m : List (Str × Kd)}, (l.map Prod.fst).Nodup → (∀ p ∈ l, ∃ k, lkK m p.1 = some k ∧ und p.2 k = true) → (∀ p ∈ m, ∃ k, lkK l p.1 = some k ∧ und p.2 k = true) → ∀ p ∈ l, ∃ k, lkK m p.1 = some k ∧ und k p.2 = true := fun {l m} nl h1 h2 p hp => by
          obtain ⟨k, e, u⟩ := h1 p hp
          obtain ⟨k', e', u'⟩ := h2 _ (lkK_mem e)
          rw [show (p.1, k).1 = p.1 from rfl, lkK_at nl hp] at e'
          cases e'
          exact ⟨k, e, u'⟩
        rw [toL_inj (both n oa.2.1 ob.2.1 (fun p hp => ⟨(ga.ch hp).1, sa.1 p hp⟩) (fun p hp => ⟨(gb.ch hp).1, sb.1 p hp⟩) sa.2 sb.2 (fun p hp q hq => by have := (ga.ch hp).2; have := (gb.ch hq).2; omega) (sw ob.2.1 h2 h1) (sw oa.2.1 h1 h2))]
      | _ => exact h1.elim
    | row a =>
      cases b with
      | row b =>
        rw [Kd.sz, Kd.sz] at h
        rw [So] at sa sb
        rw [und_anti n a b (by omega) ga.row gb.row sa sb h1 h2]
      | _ => exact h1.elim
mutual
theorem so_ok : ∀ k : Kd, k.ok → So k
  | .any, _ => by rw [So]; trivial
  | .num, _ => by rw [So]; trivial
  | .fn a b, h => by
    rw [Kd.ok] at h
    rw [So]
    exact ⟨so_ok a h.1, so_ok b h.2⟩
  | .rcd l, h => by
    rw [Kd.ok] at h
    rw [So]
    exact ⟨so_okL l h.1, h.2.2.2⟩
  | .ch l, h => by
    rw [Kd.ok] at h
    rw [So]
    exact ⟨so_okL l h.1, h.2.2.2⟩
  | .row a, h => by
    rw [Kd.ok] at h
    rw [So]
    exact so_ok a h
theorem so_okL : ∀ l : Kds, l.ok → SoL l
  | .nil, _ => by rw [SoL]; trivial
  | .cons w k t, h => by
    rw [Kds.ok] at h
    rw [SoL]
    exact ⟨so_ok k h.1, so_okL t h.2⟩
end
theorem und_eq {a b : Kd} (ga : G a) (gb : G b) (h1 : und a b = true) (h2 : und b a = true) : a = b := und_anti _ a b (Nat.le_refl _) ga gb (so_ok a ga.1) (so_ok b gb.1) h1 h2
end KK.Internal
namespace K51.Internal
open PySem L2.Internal
theorem l0 {P : List Value → Prop} (h : P []) : ∀ us : List Value, us.length = 0 → P us := fun us e => by rw [List.eq_nil_of_length_eq_zero e]; exact h
theorem lS {n : Nat} {P : List Value → Prop} (h : ∀ a, ∀ us : List Value, us.length = n → P (a :: us)) : ∀ us : List Value, us.length = n + 1 → P us := fun us e => by
  cases us with
  | nil => cases e
  | cons a t => exact h a t (Nat.succ.inj e)
noncomputable def top (i : Nat) : Stmt := PySem.Challenge.pw_flowkinds_k51_under_is_an_order.main.body.getD i (.Pass ⟨0, 0, 0, 0⟩)
noncomputable abbrev s_under : Stmt := top 1
noncomputable abbrev s_pairs_wanted : Stmt := top 2
noncomputable abbrev s_pairs_by_word : Stmt := top 3
noncomputable abbrev s__law_stem : Stmt := top 5
noncomputable abbrev s__law_words : Stmt := top 6
noncomputable abbrev s__law_mix : Stmt := top 7
noncomputable abbrev s__law_leaf : Stmt := top 8
noncomputable abbrev s__law_pop : Stmt := top 9
noncomputable abbrev s__law_fields : Stmt := top 10
noncomputable abbrev s__law_knit : Stmt := top 11
noncomputable abbrev s__law_triples : Stmt := top 12
noncomputable abbrev s_law : Stmt := top 13
set_option genInjectivity false in
set_option genSizeOf false in
structure Txt (K : PySem.W.Frag) (mg : Str → Option Value) where
  a_under : Addr
  fd_under : FuncData
  F_under : Fun K "under" "under" s_under a_under fd_under
  b_under : Binds K fd_under ["one", "other"] []
  m_under : mg "under" = some (.ref a_under)
  k_under : PySem.W.keepIn K (.ref a_under) = true
  a_pairs_wanted : Addr
  fd_pairs_wanted : FuncData
  F_pairs_wanted : Fun K "pairs_wanted" "pairs_wanted" s_pairs_wanted a_pairs_wanted fd_pairs_wanted
  b_pairs_wanted : Binds K fd_pairs_wanted ["one", "other"] []
  m_pairs_wanted : mg "pairs_wanted" = some (.ref a_pairs_wanted)
  k_pairs_wanted : PySem.W.keepIn K (.ref a_pairs_wanted) = true
  a_pairs_by_word : Addr
  fd_pairs_by_word : FuncData
  F_pairs_by_word : Fun K "pairs_by_word" "pairs_by_word" s_pairs_by_word a_pairs_by_word fd_pairs_by_word
  b_pairs_by_word : Binds K fd_pairs_by_word ["wanted", "ones", "others"] []
  m_pairs_by_word : mg "pairs_by_word" = some (.ref a_pairs_by_word)
  k_pairs_by_word : PySem.W.keepIn K (.ref a_pairs_by_word) = true
  a__law_stem : Addr
  fd__law_stem : FuncData
  F__law_stem : Fun K "_law_stem" "_law_stem" s__law_stem a__law_stem fd__law_stem
  b__law_stem : Binds K fd__law_stem ["_law_cell", "_law_size"] []
  m__law_stem : mg "_law_stem" = some (.ref a__law_stem)
  k__law_stem : PySem.W.keepIn K (.ref a__law_stem) = true
  a__law_words : Addr
  fd__law_words : FuncData
  F__law_words : Fun K "_law_words" "_law_words" s__law_words a__law_words fd__law_words
  b__law_words : Binds K fd__law_words ["_law_cell"] []
  m__law_words : mg "_law_words" = some (.ref a__law_words)
  k__law_words : PySem.W.keepIn K (.ref a__law_words) = true
  a__law_mix : Addr
  fd__law_mix : FuncData
  F__law_mix : Fun K "_law_mix" "_law_mix" s__law_mix a__law_mix fd__law_mix
  b__law_mix : Binds K fd__law_mix ["_law_cell", "_law_k"] []
  m__law_mix : mg "_law_mix" = some (.ref a__law_mix)
  k__law_mix : PySem.W.keepIn K (.ref a__law_mix) = true
  a__law_leaf : Addr
  fd__law_leaf : FuncData
  F__law_leaf : Fun K "_law_leaf" "_law_leaf" s__law_leaf a__law_leaf fd__law_leaf
  b__law_leaf : Binds K fd__law_leaf ["_law_c"] []
  m__law_leaf : mg "_law_leaf" = some (.ref a__law_leaf)
  k__law_leaf : PySem.W.keepIn K (.ref a__law_leaf) = true
  a__law_pop : Addr
  fd__law_pop : FuncData
  F__law_pop : Fun K "_law_pop" "_law_pop" s__law_pop a__law_pop fd__law_pop
  b__law_pop : Binds K fd__law_pop ["_law_stack"] []
  m__law_pop : mg "_law_pop" = some (.ref a__law_pop)
  k__law_pop : PySem.W.keepIn K (.ref a__law_pop) = true
  a__law_fields : Addr
  fd__law_fields : FuncData
  F__law_fields : Fun K "_law_fields" "_law_fields" s__law_fields a__law_fields fd__law_fields
  b__law_fields : Binds K fd__law_fields ["_law_words_here", "_law_stack", "_law_shape", "_law_c"] []
  m__law_fields : mg "_law_fields" = some (.ref a__law_fields)
  k__law_fields : PySem.W.keepIn K (.ref a__law_fields) = true
  a__law_knit : Addr
  fd__law_knit : FuncData
  F__law_knit : Fun K "_law_knit" "_law_knit" s__law_knit a__law_knit fd__law_knit
  b__law_knit : Binds K fd__law_knit ["_law_words_here", "_law_stack", "_law_c"] []
  m__law_knit : mg "_law_knit" = some (.ref a__law_knit)
  k__law_knit : PySem.W.keepIn K (.ref a__law_knit) = true
  a__law_triples : Addr
  fd__law_triples : FuncData
  F__law_triples : Fun K "_law_triples" "_law_triples" s__law_triples a__law_triples fd__law_triples
  b__law_triples : Binds K fd__law_triples ["_law_words_here", "_law_cells", "_law_nest", "_law_size"] []
  m__law_triples : mg "_law_triples" = some (.ref a__law_triples)
  k__law_triples : PySem.W.keepIn K (.ref a__law_triples) = true
  z_dict : mg "dict" = none
  z_enumerate : mg "enumerate" = none
  z_len : mg "len" = none
  z_max : mg "max" = none
  z_range : mg "range" = none
  z_sorted : mg "sorted" = none
  z_sum : mg "sum" = none
  z_tuple : mg "tuple" = none
theorem sc_under : FnScope ["one", "other", "asked", "pair", "wanted"] ["one", "other"] (defScope s_under) := ⟨rfl, rfl, rfl, by decide +kernel, rfl, by decide +kernel, by decide +kernel⟩
theorem sc_pairs_wanted : FnScope ["one", "other"] ["one", "other"] (defScope s_pairs_wanted) := ⟨rfl, rfl, rfl, by decide +kernel, rfl, by decide +kernel, by decide +kernel⟩
theorem sc_pairs_by_word : FnScope ["wanted", "ones", "others", "found", "mine", "theirs", "member"] ["wanted", "ones", "others"] (defScope s_pairs_by_word) := ⟨rfl, rfl, rfl, by decide +kernel, rfl, by decide +kernel, by decide +kernel⟩
theorem sc__law_stem : FnScope ["_law_cell", "_law_size", "_law_signs", "_law_stem_here", "_law_k", "_law_many"] ["_law_cell", "_law_size"] (defScope s__law_stem) := ⟨rfl, rfl, rfl, by decide +kernel, rfl, by decide +kernel, by decide +kernel⟩
theorem sc__law_words : FnScope ["_law_cell", "_law_size", "_law_words_here", "_law_stem_here", "_law_at", "_law_k", "_law_word", "_law_part"] ["_law_cell"] (defScope s__law_words) := ⟨rfl, rfl, rfl, by decide +kernel, rfl, by decide +kernel, by decide +kernel⟩
theorem sc__law_mix : FnScope ["_law_cell", "_law_k"] ["_law_cell", "_law_k"] (defScope s__law_mix) := ⟨rfl, rfl, rfl, by decide +kernel, rfl, by decide +kernel, by decide +kernel⟩
theorem sc__law_leaf : FnScope ["_law_c", "_law_least", "_law_rows"] ["_law_c"] (defScope s__law_leaf) := ⟨rfl, rfl, rfl, by decide +kernel, rfl, by decide +kernel, by decide +kernel⟩
theorem sc__law_pop : FnScope ["_law_stack"] ["_law_stack"] (defScope s__law_pop) := ⟨rfl, rfl, rfl, by decide +kernel, rfl, by decide +kernel, by decide +kernel⟩
theorem sc__law_fields : FnScope ["_law_words_here", "_law_stack", "_law_shape", "_law_c", "_law_chosen", "_law_parts", "_law_rows", "_law_k", "_law_word", "_law_level", "_law_j", "_law_side", "_law_nest"] ["_law_words_here", "_law_stack", "_law_shape", "_law_c"] (defScope s__law_fields) := ⟨rfl, rfl, rfl, by decide +kernel, rfl, by decide +kernel, by decide +kernel⟩
theorem sc__law_knit : FnScope ["_law_words_here", "_law_stack", "_law_c", "_law_op", "_law_one", "_law_other", "_law_kinds", "_law_part"] ["_law_words_here", "_law_stack", "_law_c"] (defScope s__law_knit) := ⟨rfl, rfl, rfl, by decide +kernel, rfl, by decide +kernel, by decide +kernel⟩
theorem sc__law_triples : FnScope ["_law_words_here", "_law_cells", "_law_nest", "_law_size", "_law_stack", "_law_cell", "_law_c", "_law_new"] ["_law_words_here", "_law_cells", "_law_nest", "_law_size"] (defScope s__law_triples) := ⟨rfl, rfl, rfl, by decide +kernel, rfl, by decide +kernel, by decide +kernel⟩
theorem sc_law : FnScope ["_law_script", "_law_words_here", "_law_before", "_law_item", "_law_kinds", "_law_found", "_law_j", "_law_k", "_law_lost"] ["_law_script"] (defScope s_law) := ⟨rfl, rfl, rfl, by decide +kernel, rfl, by decide +kernel, by decide +kernel⟩
noncomputable def sp_law (K : PySem.W.Frag) : Sp := fun vs H Q _ => ∃ (a : Addr) (ns : List Int), vs = [.ref a] ∧ SqL K H a (ns.map V.int) ∧ ns.length ≤ 63 ∧ ∀ H', Q (.bl true) H'
end K51.Internal
namespace K51.Internal
open PySem L2.Internal BO.Internal KK.Internal
seal L2.Internal.PE L2.Internal.PA L2.Internal.PS L2.Internal.PSs L2.Internal.PT L2.Internal.PI
theorem same_upd {H H2 : Hp} {l : Addr} (s : Same H H2) (h : H l = none) (o : HO) : Same H (upd H2 l o) := fun b u e => by rw [upd_ne (ne_of_none e h)]; exact s b u e
section
variable {P : Program} {w : World} {K : PySem.W.Frag} {mg : Str → Option Value} {base : Heap}
noncomputable def sp__law_mix : Sp := fun vs H Q _ => ∃ c k : Int, vs = [.int c, .int k] ∧ 0 ≤ k ∧ k ≤ 100 ∧ ∀ n : Int, 0 ≤ n → n < 2147483647 → Q (.int n) H
theorem ok__law_mix (T : Txt K mg) : FnOk P w K mg base CX0 1 T.a__law_mix T.fd__law_mix ["_law_cell", "_law_k"] sp__law_mix := by
  refine T.F__law_mix.ok sc__law_mix (fun vs H Q E h => ?_) (fun cdv A outer s H vs Q E hr h => ?_)
  · obtain ⟨c, k, rfl, _⟩ := h
    rfl
  obtain ⟨c, k, rfl, h0, h1, q⟩ := h
  refine ⟨_, (pss_one (ps_ret (pe_op op_mod (pe_op op_mul (pe_op op_mod (pv 0) (pe_op op_add (pe_op op_pow pe_int pe_int) pe_int)) (pe_op op_add pe_int (pe_op op_mul (pe_op op_mul pe_int (pv 1)) (pv 1)))) pe_int))), ?_⟩
  have hp : (0 : Int) < 10 ^ (18 : Int).toNat + 9 := by decide +kernel
  have hs : (10 ^ (18 : Int).toNat + 9 : Int) < 2 ^ 64 := by decide +kernel
  have c0 := Int.emod_nonneg c (Int.ne_of_gt hp)
  have c1 := Int.emod_lt_of_pos c hp
  have z : -(2 ^ 64 : Int) < 0 := by decide
  refine ⟨_, rfl, _, _, rfl, rfl, ⟨by decide, by decide, by decide⟩, _, _, rfl, rfl, _, _, rfl, rfl, hp, _, rfl, _, _, rfl, rfl, .inl ⟨by decide, by decide⟩, _, rfl, _, _, rfl, rfl, .inl ⟨by omega, by omega⟩, _, _, rfl, rfl, _, _, rfl, rfl, .inl ⟨Int.lt_of_lt_of_le z c0, Int.lt_trans c1 hs⟩, _, _, rfl, rfl, (by show (0 : Int) < 2147483647; decide), ?_⟩
  exact q _ (Int.emod_nonneg _ (by decide)) (Int.emod_lt_of_pos _ (by decide))
noncomputable def sp__law_stem : Sp := fun vs H Q _ => ∃ c m : Int, vs = [.int c, .int m] ∧ 0 ≤ m ∧ m ≤ 100 ∧ ∀ x : Str, x.length ≤ 100 → Q (.str x) H
theorem sg36 : ("abcdefghijklmnopqrstuvwxyz0123456789" : Str).cps.toList.length = 36 := by decide +kernel
theorem one_len (c : Nat) : (⟨#[c]⟩ : Str).length = 1 := rfl
theorem ok__law_stem (T : Txt K mg) : FnOk P w K mg base CX0 1 T.a__law_stem T.fd__law_stem ["_law_cell", "_law_size"] sp__law_stem := by
  refine T.F__law_stem.ok sc__law_stem (fun vs H Q E h => ?_) (fun cdv A outer s H vs Q E hr h => ?_)
  · obtain ⟨c, m, rfl, _⟩ := h
    rfl
  obtain ⟨c, m, rfl, h0, h1, q⟩ := h
  refine ⟨_, (pss_cons (ps_set (i := 2) sc__law_stem.nd rfl (Or.inl rfl) pe_str)
    (pss_cons (ps_set (i := 3) sc__law_stem.nd rfl (Or.inl rfl) pe_str)
    (pss_cons (ps_for PassesOwn.never rfl (pi_range1 rfl T.z_range (pa_cons (pv 1) pa_nil)) (pg_name (i := 4) sc__law_stem.nd rfl (Or.inl rfl))
      (pss_cons (ps_set (i := 5) sc__law_stem.nd rfl (Or.inl rfl) pe_int)
      (pss_cons (ps_if (pt_cmpR op_eq (pv 4) pe_int (nomark _))
        (pss_one (ps_set (i := 5) sc__law_stem.nd rfl (Or.inl rfl) pe_int))
        pss_nil)
      (pss_cons (ps_set (i := 3) sc__law_stem.nd rfl (Or.inl rfl) (pe_op op_add_str (pv 3) (pe_ix ix_str (pv 2) (pe_op op_mod (pv 0) (pv 5)) (fun _ _ => rfl))))
      (pss_one (ps_set (i := 0) sc__law_stem.nd rfl (Or.inl rfl) (pe_op op_fdiv (pv 0) pe_int)))))))
    (pss_one (ps_ret (pv 3)))))), ?_⟩
  have sl : sizeLine = 16777216 := sizeLine_eq
  refine ⟨_, rfl, _, rfl, by omega, by omega, for_range (fun i σ H2 => ∃ (y : Str) (c : Int) (o o2 : Option V), σ = [some (.int c), some (.int m), some (.str "abcdefghijklmnopqrstuvwxyz0123456789"), some (.str y), o, o2] ∧ H2 = H ∧ y.length ≤ i)
    ⟨"", c, none, none, rfl, rfl, Nat.le_refl _⟩ ?_ ?_⟩
  · rintro i σ H2 hi ⟨y, c, o, o2, rfl, rfl, hy⟩
    have step : ∀ n : Int, (n = 26 ∨ n = 36) → ∃ ch : Nat, atI ("abcdefghijklmnopqrstuvwxyz0123456789" : Str).cps.toList (c % n) = some ch := fun n hn => by
      have hp : (0 : Int) < n := by omega
      have a0 := Int.emod_nonneg c (Int.ne_of_gt hp)
      have a1 := Int.emod_lt_of_pos c hp
      obtain ⟨ch, e, _⟩ := atI_lt ("abcdefghijklmnopqrstuvwxyz0123456789" : Str).cps.toList (c % n) a0 (by rw [sg36]; omega)
      exact ⟨ch, e⟩
    refine ⟨_, rfl, rfl, _, rfl, ite2 (fun _ => ?_) (fun _ => ?_)⟩
    · obtain ⟨ch, e⟩ := step 26 (.inl rfl)
      refine ⟨_, rfl, _, rfl, _, rfl, _, rfl, _, _, rfl, rfl, (by show (0 : Int) < 26; decide), _, _, _, rfl, rfl, sz (by decide +kernel), e, _, _, rfl, rfl, by rw [one_len]; omega, ?_⟩
      refine ⟨_, rfl, _, _, rfl, rfl, ⟨by decide, by decide⟩, ?_⟩
      exact ⟨_, _, _, _, rfl, rfl, by rw [Str.length_append, one_len]; omega⟩
    · obtain ⟨ch, e⟩ := step 36 (.inr rfl)
      refine ⟨_, rfl, _, rfl, _, rfl, _, rfl, _, _, rfl, rfl, (by show (0 : Int) < 36; decide), _, _, _, rfl, rfl, sz (by decide +kernel), e, _, _, rfl, rfl, by rw [one_len]; omega, ?_⟩
      refine ⟨_, rfl, _, _, rfl, rfl, ⟨by decide, by decide⟩, ?_⟩
      exact ⟨_, _, _, _, rfl, rfl, by rw [Str.length_append, one_len]; omega⟩
  · rintro σ H2 ⟨y, c, o, o2, rfl, rfl, hy⟩
    exact ⟨_, rfl, q y (by omega)⟩
noncomputable def sgn (k : Nat) : Nat := ("abcdefghijklmnop" : Str).cps.toList.getD k 0
noncomputable def w1 (A B : Str) (k : Nat) : Str := A ++ ⟨#[sgn k]⟩ ++ B
noncomputable def t7 (z : Int) : Nat := (atI ("t7" : Str).cps.toList z).getD 0
noncomputable def part (j : Nat) : Int := ([8, 4, 2, 1] : List Int).getD j 1
noncomputable def bit (k j : Nat) : Nat := t7 ((0 + (k : Int)) / part j % 2)
noncomputable def w2 (x : Str) (k : Nat) : Nat → Str
  | 0 => x
  | j + 1 => w2 x k j ++ ⟨#[bit k j]⟩
theorem at_getD {l : List Nat} {i : Nat} (h : i < l.length) : atI l (0 + (i : Int)) = some (l.getD i 0) := by
  rw [Int.zero_add, List.getD_eq_getElem?_getD, List.getElem?_eq_getElem h]
  exact atI_nat (List.getElem?_eq_getElem h)
theorem app_list (a b : Str) : (a ++ b).cps.toList = a.cps.toList ++ b.cps.toList := Array.toList_append
theorem map_nodup {f : Nat → Str} (h : ∀ a, a < 16 → ∀ b, b < 16 → a ≠ b → f a ≠ f b) : ((List.range 16).map f).Nodup := by
  rw [List.Nodup, List.pairwise_map]
  refine List.Pairwise.imp_of_mem (fun {a b} ha hb hlt => ?_) List.pairwise_lt_range
  exact h a (List.mem_range.mp ha) b (List.mem_range.mp hb) (Nat.ne_of_lt hlt)
theorem sgn_ne : ∀ a, a < 16 → ∀ b, b < 16 → a ≠ b → sgn a ≠ sgn b := by decide +kernel
theorem bit_ne : ∀ a, a < 16 → ∀ b, b < 16 → a ≠ b → [bit a 0, bit a 1, bit a 2, bit a 3] ≠ [bit b 0, bit b 1, bit b 2, bit b 3] := by decide +kernel
theorem w1_nodup (A B : Str) : ((List.range 16).map (w1 A B)).Nodup := map_nodup fun a ha b hb hn e => by
  have h := congrArg (fun z : Str => z.cps.toList) e
  simp only [w1, app_list] at h
  have h2 := List.append_cancel_left (List.append_cancel_right h)
  injection h2 with h3 _
  exact sgn_ne a ha b hb hn h3
theorem w2_nodup (x : Str) : ((List.range 16).map fun k => w2 x k 4).Nodup := map_nodup fun a ha b hb hn e => by
  have h := congrArg (fun z : Str => z.cps.toList) e
  simp only [w2, app_list, List.append_assoc] at h
  have h2 := List.append_cancel_left h
  exact bit_ne a ha b hb hn h2
theorem range_snoc {f : Nat → Str} (i : Nat) : (List.range (i + 1)).map f = (List.range i).map f ++ [f i] := by
  rw [List.range_succ, List.map_append]
  rfl
theorem w2_len (x : Str) (k : Nat) : ∀ j, (w2 x k j).length = x.length + j
  | 0 => rfl
  | j + 1 => by rw [w2, Str.length_append, one_len, w2_len x k j]; omega
noncomputable def Wd (H : Hp) (l : Addr) : Prop := ∃ ws : List Str, H l = some (.lst (ws.map V.str)) ∧ ws.length = 16 ∧ ws.Nodup ∧ ∀ x ∈ ws, x.length ≤ 300
noncomputable def sp__law_words : Sp := fun vs H Q _ => ∃ c : Int, vs = [.int c] ∧ ∀ l H', Same H H' → H l = none → Wd H' l → Q (.ref l) H'
theorem ok__law_words (T : Txt K mg) : FnOk P w K mg base CX0 2 T.a__law_words T.fd__law_words ["_law_cell"] sp__law_words := by
  have G__law_stem := ok__law_stem (P := P) (w := w) (base := base) T
  refine T.F__law_words.ok sc__law_words (fun vs H Q E h => ?_) (fun cdv A outer s H vs Q E hr h => ?_)
  · obtain ⟨c, rfl, _⟩ := h
    rfl
  obtain ⟨c, rfl, q⟩ := h
  refine ⟨_, (pss_cons (ps_set (i := 0) sc__law_words.nd rfl (Or.inl rfl) (pe_op op_mod (pv 0) (pe_op op_pow pe_int pe_int)))
    (pss_cons (ps_set (i := 1) sc__law_words.nd rfl (Or.inl rfl) (pe_op op_add (pe_op op_mod (pv 0) pe_int) pe_int))
    (pss_cons (ps_set (i := 2) sc__law_words.nd rfl (Or.inl rfl) (pe_lst pa_nil))
    (pss_cons (ps_if (pt_cmpR op_eq (pe_op op_mod (pe_op op_fdiv (pv 0) pe_int) pe_int) pe_int (nomark _))
      (pss_cons (ps_set (i := 3) sc__law_words.nd rfl (Or.inl rfl) (pe_call G__law_stem (hr.mono (by decide)) rfl T.m__law_stem T.k__law_stem T.b__law_stem .nil pass0 (pa_cons (pe_op op_fdiv (pv 0) pe_int) (pa_cons (pe_op op_add (pv 1) pe_int) pa_nil))))
      (pss_cons (ps_set (i := 4) sc__law_words.nd rfl (Or.inl rfl) (pe_op op_mod (pe_op op_fdiv (pv 0) pe_int) (pe_op op_add (pv 1) pe_int)))
      (pss_cons (ps_for PassesOwn.never rfl (pi_range1 rfl T.z_range (pa_cons pe_int pa_nil)) (pg_name (i := 5) sc__law_words.nd rfl (Or.inl rfl))
        (pss_one (ps_expr (pe_bm PySem.F.plainAttrs_list PySem.F.slot_list_append PySem.F.type_list_append mt_append (pv 2) (pa_cons (pe_op op_add_str (pe_op op_add_str (pe_slice sl_str (pv 3) po_none (po_some (pv 4))) (pe_ix ix_str pe_str (pv 5) (fun _ _ => rfl))) (pe_slice sl_str (pv 3) (po_some (pv 4)) po_none)) pa_nil)))))
      (pss_one (ps_ret (pv 2))))))
      pss_nil)
    (pss_cons (ps_set (i := 3) sc__law_words.nd rfl (Or.inl rfl) (pe_call G__law_stem (hr.mono (by decide)) rfl T.m__law_stem T.k__law_stem T.b__law_stem .nil pass0 (pa_cons (pe_op op_fdiv (pv 0) pe_int) (pa_cons (pv 1) pa_nil))))
    (pss_cons (ps_for PassesOwn.never rfl (pi_range1 rfl T.z_range (pa_cons pe_int pa_nil)) (pg_name (i := 5) sc__law_words.nd rfl (Or.inl rfl))
      (pss_cons (ps_set (i := 6) sc__law_words.nd rfl (Or.inl rfl) (pv 3))
      (pss_cons (ps_for PassesOwn.never rfl (pi_list (pe_lst (pa_cons pe_int (pa_cons pe_int (pa_cons pe_int (pa_cons pe_int pa_nil)))))) (pg_name (i := 7) sc__law_words.nd rfl (Or.inl rfl))
        (pss_one (ps_set (i := 6) sc__law_words.nd rfl (Or.inl rfl) (pe_op op_add_str (pv 6) (pe_ix ix_str pe_str (pe_op op_mod (pe_op op_fdiv (pv 5) (pv 7)) pe_int) (fun _ _ => rfl))))))
      (pss_one (ps_expr (pe_bm PySem.F.plainAttrs_list PySem.F.slot_list_append PySem.F.type_list_append mt_append (pv 2) (pa_cons (pv 6) pa_nil)))))))
    (pss_one (ps_ret (pv 2))))))))), ?_⟩
  have sl : sizeLine = 16777216 := sizeLine_eq
  refine ⟨_, rfl, _, _, rfl, rfl, ⟨by decide, by decide, by decide⟩, _, _, rfl, rfl, (by show (0 : Int) < 10 ^ (24 : Int).toNat; decide +kernel), ?_⟩
  dsimp only
  generalize c % 10 ^ (24 : Int).toNat = c
  refine ⟨_, rfl, _, _, rfl, rfl, (by show (0 : Int) < 8; decide), _, _, rfl, rfl, ?_⟩
  have s0 := Int.emod_nonneg c (show (8 : Int) ≠ 0 by decide)
  have s1 := Int.emod_lt_of_pos c (show (0 : Int) < 8 by decide)
  refine ⟨(by show 0 ≤ sizeLine; decide), fun l hl => ?_⟩
  have fin : ∀ (f : Nat → Str) (H2 : Hp), Same H H2 → H2 l = some (.lst (((List.range 16).map f).map V.str)) → ((List.range 16).map f).Nodup → (∀ k, (f k).length ≤ 300) → Q (.ref l) H2 := fun f H2 S e hw hn => q l H2 S hl ⟨_, e, by rw [List.length_map, List.length_range], hw, fun x hx => by obtain ⟨k, _, rfl⟩ := List.mem_map.mp hx; exact hn k⟩
  have S1 : Same H (upd H l (.lst [])) := same_new hl _
  refine ⟨_, rfl, _, _, rfl, rfl, ⟨by decide, by decide⟩, _, _, rfl, rfl, (by show (0 : Int) < 2; decide), rfl, _, rfl, ite2 (fun _ => ?_) (fun _ => ?_)⟩
  · refine ⟨_, rfl, _, _, rfl, rfl, ⟨by decide, by decide⟩, _, rfl, _, _, rfl, rfl, _, _, rfl, by omega, by omega, fun x hx => ?_⟩
    refine ⟨_, rfl, _, _, rfl, rfl, ⟨by decide, by decide⟩, _, rfl, _, _, rfl, rfl, _, _, rfl, rfl, (by show (0 : Int) < c % 8 + 1 + 4; omega), ?_⟩
    dsimp only
    generalize c / 16 % (c % 8 + 1 + 4) = at_
    refine ⟨16, rfl, by decide, by decide, for_range (fun i σ H2 => ∃ (o : Option V), σ = [some (.int c), some (.int (c % 8 + 1)), some (.ref l), some (.str x), some (.int at_), o, none, none] ∧ Same H H2 ∧ H2 l = some (.lst (((List.range i).map (w1 (Txt.slice x none (some at_)) (Txt.slice x (some at_) none))).map V.str)))
      ⟨none, rfl, S1, upd_same⟩ ?_ ?_⟩
    · rintro i σ H2 hi ⟨o, rfl, S, e⟩
      have hi16 : i < 16 := hi
      have e1 := at_getD (l := ("abcdefghijklmnop" : Str).cps.toList) (i := i) (by rw [show ("abcdefghijklmnop" : Str).cps.toList.length = 16 by decide +kernel]; omega)
      have la := Txt.slice_le x none (some at_)
      have lb := Txt.slice_le x (some at_) none
      refine ⟨_, rfl, .inl ⟨rfl, _, SqL.of e⟩, _, rfl, _, rfl, _, rfl, _, rfl, by omega, _, rfl, _, _, _, rfl, rfl, sz (by decide +kernel), e1, _, _, rfl, rfl, by rw [one_len]; omega, _, rfl, _, rfl, _, rfl, _, rfl, by omega, _, _, rfl, rfl, by rw [Str.length_append, one_len]; omega, l, _, _, rfl, rfl, e, by rw [List.length_map, List.length_map, List.length_range]; omega, ?_⟩
      refine ⟨_, rfl, same_upd S hl _, ?_⟩
      rw [upd_same, range_snoc, List.map_append]
      rfl
    · rintro σ H2 ⟨o, rfl, S, e⟩
      have la := Txt.slice_le x none (some at_)
      have lb := Txt.slice_le x (some at_) none
      exact ⟨_, rfl, fin _ H2 S e (w1_nodup _ _) fun k => by rw [w1, Str.length_append, Str.length_append, one_len]; omega⟩
  · refine ⟨_, rfl, _, _, rfl, rfl, ⟨by decide, by decide⟩, _, rfl, _, _, rfl, by omega, by omega, fun x hx => ?_⟩
    refine ⟨16, rfl, by decide, by decide, for_range (fun i σ H2 => ∃ (o o2 o3 : Option V), σ = [some (.int c), some (.int (c % 8 + 1)), some (.ref l), some (.str x), none, o, o2, o3] ∧ Same H H2 ∧ H2 l = some (.lst (((List.range i).map fun k => w2 x k 4).map V.str)))
      ⟨none, none, none, rfl, S1, upd_same⟩ ?_ ?_⟩
    · rintro i σ H2 hi ⟨o, o2, o3, rfl, S, e⟩
      have hi16 : i < 16 := hi
      refine ⟨_, rfl, (by show 4 ≤ sizeLine; decide), fun p hp => ⟨p, rfl, ⟨_, SqL.of upd_same⟩, ?_⟩⟩
      have S2 : Same H (upd H2 p (.lst [V.int 8, V.int 4, V.int 2, V.int 1])) := S.trans (same_new hp _)
      have nlp : l ≠ p := ne_of_none e hp
      refine for_list (xs := [V.int 8, V.int 4, V.int 2, V.int 1]) (fun j σ H3 => ∃ (o3 : Option V), σ = [some (.int c), some (.int (c % 8 + 1)), some (.ref l), some (.str x), none, some (.int (0 + (i : Int))), some (.str (w2 x i j)), o3] ∧ H3 = upd H2 p (.lst [V.int 8, V.int 4, V.int 2, V.int 1]) ∧ (w2 x i j).length ≤ 100 + j)
        ⟨o3, rfl, rfl, hx⟩ (fun j σ H3 _ ⟨o4, _, e3, _⟩ => by rw [e3]; exact SqL.of upd_same) ?_ ?_
      · rintro j v σ H3 hv ⟨o4, rfl, rfl, hy⟩
        have hj : j < 4 := (List.getElem?_eq_some_iff.mp hv).1
        have hn : v = .int (part j) ∧ 0 < part j ∧ part j < 1073741824 := by
          match j, hj, hv with
          | 0, _, hv => cases hv; exact ⟨rfl, by decide, by decide⟩
          | 1, _, hv => cases hv; exact ⟨rfl, by decide, by decide⟩
          | 2, _, hv => cases hv; exact ⟨rfl, by decide, by decide⟩
          | 3, _, hv => cases hv; exact ⟨rfl, by decide, by decide⟩
        obtain ⟨rfl, n0, n1⟩ := hn
        obtain ⟨ch, e1, _⟩ := atI_lt ("t7" : Str).cps.toList ((0 + (i : Int)) / part j % 2) (Int.emod_nonneg _ (by decide)) (by rw [show ("t7" : Str).cps.toList.length = 2 by decide +kernel]; exact Int.emod_lt_of_pos _ (by decide))
        have ech : ch = bit i j := by rw [bit, t7, e1]; rfl
        subst ech
        refine ⟨_, rfl, _, rfl, _, rfl, _, _, rfl, rfl, ⟨n0, n1⟩, _, _, rfl, rfl, (by show (0 : Int) < 2; decide), _, _, _, rfl, rfl, sz (by decide +kernel), e1, _, _, rfl, rfl, by rw [one_len]; omega, ?_⟩
        exact ⟨_, rfl, rfl, by rw [w2, Str.length_append, one_len]; omega⟩
      · rintro σ H3 ⟨o4, rfl, rfl, hy⟩
        have e4 : (upd H2 p (.lst [V.int 8, V.int 4, V.int 2, V.int 1])) l = some (.lst (((List.range i).map fun k => w2 x k 4).map V.str)) := by rw [upd_ne nlp]; exact e
        refine ⟨_, rfl, .inl ⟨rfl, _, SqL.of e4⟩, _, rfl, l, _, _, rfl, rfl, e4, by rw [List.length_map, List.length_map, List.length_range]; omega, ?_⟩
        refine ⟨_, _, _, rfl, same_upd S2 hl _, ?_⟩
        rw [upd_same, range_snoc, List.map_append]
        rfl
    · rintro σ H2 ⟨o, o2, o3, rfl, S, e⟩
      exact ⟨_, rfl, fin _ H2 S e (w2_nodup x) fun k => by have := w2_len x k 4; omega⟩
end
end K51.Internal
namespace K51.Internal
open PySem L2.Internal BO.Internal KK.Internal
seal L2.Internal.PE L2.Internal.PA L2.Internal.PS L2.Internal.PSs L2.Internal.PT L2.Internal.PI
section
variable {P : Program} {w : World} {K : PySem.W.Frag} {mg : Str → Option Value} {base : Heap}
theorem hu_of {k : Nat} {A : Around} (hr : Room k A) : A.units + 1 < cLine := by have := hr.un; omega
structure Ft (H : Hp) (t : Addr) (l : List (Str × Kd)) : Prop where
  e : ∃ xs, H t = some (.tup xs) ∧ Ims H xs (l.map fD)
  n : (l.map Prod.fst).Nodup
  z : szL l ≤ 100
theorem Ft.same {H H' : Hp} {t : Addr} {l : List (Str × Kd)} (h : Ft H t l) (S : Same H H') : Ft H' t l := by
  obtain ⟨⟨xs, e, i⟩, n, z⟩ := h
  exact ⟨⟨xs, S _ _ e, i.mono (Same.tk S)⟩, n, z⟩
noncomputable def sp_pbw : Sp := fun vs H Q _ => ∃ (tw to tt : Addr) (W l m : List (Str × Kd)), vs = [.ref tw, .ref to, .ref tt] ∧ Ft H tw W ∧ Ft H to l ∧ Ft H tt m ∧ ∀ v H', Same H H' → PwV H H' v (pbw l m W) → Q v H'
theorem ok_pairs_by_word (T : Txt K mg) : FnOk P w K mg base CX0 1 T.a_pairs_by_word T.fd_pairs_by_word ["wanted", "ones", "others"] sp_pbw := by
  refine T.F_pairs_by_word.ok sc_pairs_by_word (fun vs H Q E h => ?_) (fun cdv A outer s H vs Q E hr h => ?_)
  · obtain ⟨tw, to, tt, W, l, m, rfl, _⟩ := h
    rfl
  have hu := hu_of hr
  obtain ⟨tw, to, tt, W, l, m, rfl, fw, fl, fm, q⟩ := h
  refine ⟨_, (pss_cons (ps_set (i := 3) sc_pairs_by_word.nd rfl (Or.inl rfl) (pe_lst pa_nil))
    (pss_cons (ps_set (i := 4) sc_pairs_by_word.nd rfl (Or.inl rfl) (pe_callTy (call_dictT rfl) rfl T.z_dict bt_dict (pa_cons (cv 1) pa_nil)))
    (pss_cons (ps_set (i := 5) sc_pairs_by_word.nd rfl (Or.inl rfl) (pe_callTy (call_dictT rfl) rfl T.z_dict bt_dict (pa_cons (cv 2) pa_nil)))
    (pss_cons (ps_for PassesOwn.never rfl (pi_tup (cv 0)) (pg_name (i := 6) sc_pairs_by_word.nd rfl (Or.inl rfl))
      (pss_cons (ps_if (PW.pt (pw_or (pt_cmp (pc_dnotin hu (pe_ix xc_tup (cv 6) pe_int (fun _ _ => rfl)) (cv 4)) rfl) (pw_or1 (pt_cmp (pc_dnotin hu (pe_ix xc_tup (cv 6) pe_int (fun _ _ => rfl)) (cv 5)) rfl))))
        (pss_one (ps_ret pe_non))
        pss_nil)
      (pss_one (ps_expr (pec_app (pe_bm PySem.F.plainAttrs_list PySem.F.slot_list_append PySem.F.type_list_append mt_append (PE.mono (cv 3)) (pa_cons (PE.mono (pe_tup (pa_cons (pe_dget hu (cv 4) (pe_ix xc_tup (cv 6) pe_int (fun _ _ => rfl)) (fun _ _ => rfl)) (pa_cons (pe_dget hu (cv 5) (pe_ix xc_tup (cv 6) pe_int (fun _ _ => rfl)) (fun _ _ => rfl)) pa_nil)))) pa_nil)))))))
    (pss_one (ps_ret (cv 3))))))), ?_⟩
  have sl : sizeLine = 16777216 := sizeLine_eq
  refine ⟨(by show 0 ≤ sizeLine; decide), fun f hf => ?_⟩
  have S1 := same_new hf (.lst [])
  have ef : (upd H f (.lst [])) f = some (.lst []) := upd_same
  dsimp only [gName]
  generalize upd H f (.lst []) = H1 at S1 ef ⊢
  obtain ⟨⟨ys, el, il⟩, nl, zl⟩ := fl.same S1
  obtain ⟨ps, p1, p2, p3⟩ := flds il
  have lps : ps.length = l.length := by have := congrArg List.length p2; rw [List.length_map, List.length_map] at this; exact this
  have := szL_len l
  refine ⟨to, ys, ps, rfl, el, p1, by omega, fun d1 hd1 => ?_⟩
  have S2 := same_new hd1 (.dK (mergeK [] (ps.map kf)))
  have D1 := DKd.new hd1 nl p2 p3
  dsimp only [gName]
  generalize upd H1 d1 (.dK (mergeK [] (ps.map kf))) = H2 at S2 D1 ⊢
  obtain ⟨⟨zs, em, imm⟩, nm, zm⟩ := fm.same (S1.trans S2)
  obtain ⟨qs, q1, q2, q3⟩ := flds imm
  have lqs : qs.length = m.length := by have := congrArg List.length q2; rw [List.length_map, List.length_map] at this; exact this
  have := szL_len m
  refine ⟨tt, zs, qs, rfl, em, q1, by omega, fun d2 hd2 => ?_⟩
  have S3 := same_new hd2 (.dK (mergeK [] (qs.map kf)))
  have D2 := DKd.new hd2 nm q2 q3
  have D1' := D1.same S3
  dsimp only [gName]
  generalize upd H2 d2 (.dK (mergeK [] (qs.map kf))) = H3 at S3 D2 D1' ⊢
  have S23 := S2.trans S3
  obtain ⟨⟨xs, ew, iw⟩, nw, zw⟩ := fw.same (S1.trans S23)
  have ef3 := S23 _ _ ef
  have lxs := iw.length
  rw [List.length_map] at lxs
  have lW := szL_len W
  refine ⟨tw, rfl, ⟨_, SqT.of ew⟩, for_tup (xs := xs) (fun i σ H4 => ∃ (o : Option V) (fs : List V) (r : List (Kd × Kd)), σ = [some (.ref tw), some (.ref to), some (.ref tt), some (.ref f), some (.ref d1), some (.ref d2), o] ∧ (∀ a o, H3 a = some o → a ≠ f → H4 a = some o) ∧ Same H H4 ∧ H4 f = some (.lst fs) ∧ Ims H4 fs (r.map pD) ∧ pbw l m (W.take i) = some r ∧ r.length = i)
    ⟨none, [], [], rfl, fun a o e _ => e, S1.trans S23, ef3, .nil, by rw [List.take_zero, pbw], rfl⟩ (fun i σ H4 _ ⟨_, _, _, _, k, _⟩ => SqT.of (k _ _ ew (ne_of ew ef3 (fun h => nomatch h)))) ?_ ?_⟩
  · rintro i v σ H4 hv ⟨o, fs, r, rfl, k, S4, e4, i4, hr4, lr⟩
    have kd : ∀ {d : Addr} {l : List (Str × Kd)}, DKd H3 d l → DKd H4 d l := fun {d l} h => by
      obtain ⟨kvs, e, g⟩ := h
      refine ⟨kvs, k _ _ e (ne_of e ef3 (fun h => nomatch h)), fun w => ?_⟩
      have := g w
      cases ek : lkK l w with
      | none => rw [ek] at this; exact this
      | some kk =>
        rw [ek] at this
        obtain ⟨v, h1, h2⟩ := this
        exact ⟨v, h1, h2.mono fun a ys e => k _ _ e (ne_of e ef3 (fun h => nomatch h))⟩
    have D1'' := kd D1'
    have D2'' := kd D2
    obtain ⟨p, t, x, hp, rfl, et, hx⟩ := fld_at (iw.mono fun a ys e => k _ _ e (ne_of e ef3 (fun h => nomatch h))) hv
    have hi := (List.getElem?_eq_some_iff.mp hv).1
    refine ⟨_, et, onS_of (atI_nat (j := 0) rfl) ?_⟩
    cases e1 : lkK l p.1 with
    | none =>
      refine ⟨d1, _, rfl, D1''.none e1, _, rfl, iteT (iteT ?_)⟩
      exact q .non H4 S4 (by rw [pbw_bad hp (.inl e1)]; rfl)
    | some a =>
      obtain ⟨va, ga, ia⟩ := D1''.some e1
      refine ⟨d1, _, rfl, ga, _, rfl, iteF ⟨_, et, onS_of (atI_nat (j := 0) rfl) ?_⟩⟩
      cases e2 : lkK m p.1 with
      | none =>
        refine ⟨d2, _, rfl, D2''.none e2, _, rfl, iteT ?_⟩
        exact q .non H4 S4 (by rw [pbw_bad hp (.inr e2)]; rfl)
      | some b =>
        obtain ⟨vb, gb, ib⟩ := D2''.some e2
        refine ⟨d2, _, rfl, gb, _, rfl, iteF ?_⟩
        refine ⟨⟨_, e4⟩, _, et, onS_of (atI_nat (j := 0) rfl) ⟨d1, va, rfl, ga, _, et, onS_of (atI_nat (j := 0) rfl) ⟨d2, vb, rfl, gb, (by show 2 ≤ sizeLine; decide), fun t2 h2 => ?_⟩⟩⟩
        have s5 := same_new h2 (.tup [va, vb])
        have lfs := i4.length
        rw [List.length_map] at lfs
        refine ⟨fs, s5 _ _ e4, by omega, ?_⟩
        have i5 := im_newK (ds := [a.d, b.d]) h2 (.cons ia (.cons ib .nil))
        have tk := (fk_lst (o := .lst (fs ++ [.ref t2])) (s5 _ _ e4)).tk
        refine ⟨_, fs ++ [V.ref t2], r ++ [(a, b)], rfl, fun c o e n => by rw [upd_ne n]; exact s5 _ _ (k _ _ e n), same_updK (S4.trans s5) hf _, upd_same, ?_, ?_, ?_⟩
        · rw [List.map_append]
          exact ((i4.mono (Same.tk s5)).mono tk).app (.cons (i5.mono tk) .nil)
        · rw [List.take_add_one, hp]
          exact pbw_snoc hr4 e1 e2
        · rw [List.length_append, lr]; rfl
  · rintro σ H4 ⟨o, fs, r, rfl, k, S4, e4, i4, hr4, lr⟩
    rw [lxs, List.take_length] at hr4
    exact q (.ref f) H4 S4 (by rw [hr4]; exact ⟨f, fs, rfl, hf, e4, i4⟩)
theorem t_ne : ∀ {a b : Kd}, a.tag = b.tag → (isAny b || isNo a) = false → (∃ l m, a = .rcd l ∧ b = .rcd m) ∨ (∃ l m, a = .ch l ∧ b = .ch m) ∨ (∃ c d e f, a = .fn c d ∧ b = .fn e f) ∨ (∃ c d, a = .row c ∧ b = .row d) ∨ (a = .num ∧ b = .num) := fun {a b} h h2 => by
  cases a <;> cases b <;> first | (exact .inl ⟨_, _, rfl, rfl⟩) | (exact .inr (.inl ⟨_, _, rfl, rfl⟩)) | (exact .inr (.inr (.inl ⟨_, _, _, _, rfl, rfl⟩))) | (exact .inr (.inr (.inr (.inl ⟨_, _, rfl, rfl⟩)))) | (exact .inr (.inr (.inr (.inr ⟨rfl, rfl⟩)))) | (simp only [Kd.tag] at h; exact absurd h (by decide +kernel)) | (simp [isAny] at h2)
theorem pw_ne {a b : Kd} (h : a.tag ≠ b.tag) (h2 : (isAny b || isNo a) = false) : pw a b = none := by
  unfold pw
  rw [h2, if_neg Bool.false_ne_true]
  cases a <;> cases b <;> first | rfl | exact absurd rfl h
noncomputable def sp_pwt : Sp := fun vs H Q _ => ∃ (x y : V) (a b : Kd), vs = [x, y] ∧ Im H x a.d ∧ Im H y b.d ∧ G a ∧ G b ∧ ∀ v H', Same H H' → PwV H H' v (pw a b) → Q v H'
theorem any_iff (b : Kd) : decide (b.tag = ("any" : Str)) = isAny b := by
  cases b with
  | any => exact decide_eq_true rfl
  | num => exact decide_eq_false (show ¬ ("num" : Str) = "any" by decide +kernel)
  | fn _ _ => exact decide_eq_false (show ¬ ("fn" : Str) = "any" by decide +kernel)
  | rcd _ => exact decide_eq_false (show ¬ ("rec" : Str) = "any" by decide +kernel)
  | ch _ => exact decide_eq_false (show ¬ ("choice" : Str) = "any" by decide +kernel)
  | row _ => exact decide_eq_false (show ¬ ("row" : Str) = "any" by decide +kernel)
theorem ft_of {H : Hp} {x : V} {l : Kds} (h : Ims H [x] [.tup l.ds]) (n : (l.toL.map Prod.fst).Nodup) (z : l.sz ≤ 100) : ∃ t, x = .ref t ∧ Ft H t l.toL := by
  cases h with
  | cons h hs =>
    cases h with
    | tup e i =>
      rw [ds_toL] at i
      rw [sz_toL] at z
      exact ⟨_, rfl, ⟨⟨_, e, i⟩, n, z⟩⟩
theorem ims1 {H : Hp} {xs : List V} {d : Dt} (h : Ims H xs [d]) : ∃ x, xs = [x] ∧ Im H x d := by
  cases h with
  | cons h hs => cases hs; exact ⟨_, rfl, h⟩
theorem ims2K {H : Hp} {xs : List V} {d e : Dt} (h : Ims H xs [d, e]) : ∃ x y, xs = [x, y] ∧ Im H x d ∧ Im H y e := by
  cases h with
  | cons h hs =>
    obtain ⟨y, rfl, hy⟩ := ims1 hs
    exact ⟨_, y, rfl, h, hy⟩
theorem pwv_to {H H1 H2 : Hp} {v : V} {o : Option (List (Kd × Kd))} (s : Same H H1) (h : PwV H1 H2 v o) : PwV H H2 v o := by
  cases o with
  | none => exact h
  | some r =>
    obtain ⟨t, xs, h1, h2, h3, h4⟩ := h
    exact ⟨t, xs, h1, s.free h2, h3, h4⟩
theorem ok_pairs_wanted (T : Txt K mg) : FnOk P w K mg base CX0 2 T.a_pairs_wanted T.fd_pairs_wanted ["one", "other"] sp_pwt := by
  have G_pairs_by_word := ok_pairs_by_word (P := P) (w := w) (base := base) T
  refine T.F_pairs_wanted.ok sc_pairs_wanted (fun vs H Q E h => ?_) (fun cdv A outer s H vs Q E hr h => ?_)
  · obtain ⟨x, y, a, b, rfl, _⟩ := h
    rfl
  obtain ⟨x, y, a, b, rfl, hx, hy, ga, gb, q⟩ := h
  refine ⟨_, (pss_cons (ps_if (PW.pt (pw_or (ptc_cmpR oc_eq (pe_ix xc_tup (cv 1) pe_int (fun _ _ => rfl)) pe_str (nomark _)) (pw_or1 (ptc_cmpR (op_eqD hr) (cv 0) (pe_tup (pa_cons pe_str (pa_cons (pe_tup pa_nil) pa_nil))) (nomark _)))))
      (pss_one (ps_ret (pe_lst pa_nil)))
      pss_nil)
    (pss_cons (ps_if (ptc_cmpR oc_ne (pe_ix xc_tup (cv 0) pe_int (fun _ _ => rfl)) (pe_ix xc_tup (cv 1) pe_int (fun _ _ => rfl)) (nomark _))
      (pss_one (ps_ret pe_non))
      pss_nil)
    (pss_cons (ps_if (ptc_cmpR oc_eq (pe_ix xc_tup (cv 0) pe_int (fun _ _ => rfl)) pe_str (nomark _))
      (pss_one (ps_ret (pe_lst (pa_cons (pe_tup (pa_cons (pe_ix xc_tup (cv 1) pe_int (fun _ _ => rfl)) (pa_cons (pe_ix xc_tup (cv 0) pe_int (fun _ _ => rfl)) pa_nil))) (pa_cons (pe_tup (pa_cons (pe_ix xc_tup (cv 0) pe_int (fun _ _ => rfl)) (pa_cons (pe_ix xc_tup (cv 1) pe_int (fun _ _ => rfl)) pa_nil))) pa_nil)))))
      pss_nil)
    (pss_cons (ps_if (ptc_cmpR oc_eq (pe_ix xc_tup (cv 0) pe_int (fun _ _ => rfl)) pe_str (nomark _))
      (pss_one (ps_ret (pe_call G_pairs_by_word (hr.mono (by decide)) rfl T.m_pairs_by_word T.k_pairs_by_word T.b_pairs_by_word .nil pass0 (pa_cons (pe_ix xc_tup (cv 1) pe_int (fun _ _ => rfl)) (pa_cons (pe_ix xc_tup (cv 0) pe_int (fun _ _ => rfl)) (pa_cons (pe_ix xc_tup (cv 1) pe_int (fun _ _ => rfl)) pa_nil))))))
      pss_nil)
    (pss_cons (ps_if (ptc_cmpR oc_eq (pe_ix xc_tup (cv 0) pe_int (fun _ _ => rfl)) pe_str (nomark _))
      (pss_one (ps_ret (pe_call G_pairs_by_word (hr.mono (by decide)) rfl T.m_pairs_by_word T.k_pairs_by_word T.b_pairs_by_word .nil pass0 (pa_cons (pe_ix xc_tup (cv 0) pe_int (fun _ _ => rfl)) (pa_cons (pe_ix xc_tup (cv 0) pe_int (fun _ _ => rfl)) (pa_cons (pe_ix xc_tup (cv 1) pe_int (fun _ _ => rfl)) pa_nil))))))
      pss_nil)
    (pss_cons (ps_if (ptc_cmpR oc_eq (pe_ix xc_tup (cv 0) pe_int (fun _ _ => rfl)) pe_str (nomark _))
      (pss_one (ps_ret (pe_lst (pa_cons (pe_tup (pa_cons (pe_ix xc_tup (cv 0) pe_int (fun _ _ => rfl)) (pa_cons (pe_ix xc_tup (cv 1) pe_int (fun _ _ => rfl)) pa_nil))) pa_nil))))
      pss_nil)
    (pss_one (ps_ret (pe_lst pa_nil))))))))), ?_⟩
  obtain ⟨tx, xs, rfl, ex, ix⟩ := kd_tup hx
  obtain ⟨ty, ys, rfl, ey, iy⟩ := kd_tup hy
  refine ⟨_, ey, onS_of (atI_nat (j := 0) rfl) ?_⟩
  dsimp only [tC, cEq, onB]
  rw [any_iff, show (false ^^ isAny b) = isAny b from by cases isAny b <;> rfl]
  cases hany : isAny b with
  | true =>
    refine iteT (iteT ⟨(by show 0 ≤ sizeLine; decide), fun l hl => q _ _ (same_new hl _) ?_⟩)
    rw [show pw a b = some [] from by unfold pw; rw [hany]; rfl]
    exact ⟨l, [], rfl, hl, upd_same, .nil⟩
  | false =>
    refine iteF ⟨(by show 0 ≤ sizeLine; decide), fun t0 h0 => ⟨(by show 2 ≤ sizeLine; decide), fun tc hc => ?_⟩⟩
    have s1 := (same_new h0 (.tup [])).trans (same_new hc (.tup [.str "choice", .ref t0]))
    have ino : Im (upd (upd H t0 (.tup [])) tc (.tup [.str "choice", .ref t0])) (.ref tc) noD := im_newK hc (.cons (.flat rfl) (.cons (im_newK h0 .nil) .nil))
    generalize upd (upd H t0 (.tup [])) tc (.tup [.str "choice", .ref t0]) = H1 at s1 ino ⊢
    have hx1 := hx.mono (Same.tk s1)
    have hy1 := hy.mono (Same.tk s1)
    refine ⟨tx, tc, a.d, noD, rfl, rfl, im_at hx1, im_at ino, cmp_no a, by have := dep_d a; have := ga.2; omega, ?_⟩
    rw [if_neg Bool.false_ne_true, eq_no]
    dsimp only [onB]
    cases hno : isNo a with
    | true =>
      refine iteT ⟨(by show 0 ≤ sizeLine; decide), fun l hl => q _ _ (s1.trans (same_new hl _)) ?_⟩
      rw [show pw a b = some [] from by unfold pw; rw [hno, hany]; rfl]
      exact ⟨l, [], rfl, s1.free hl, upd_same, .nil⟩
    | false =>
      have hcond : (isAny b || isNo a) = false := by rw [hany, hno]; rfl
      refine iteF ⟨_, s1 _ _ ex, onS_of (atI_nat (j := 0) rfl) ⟨_, s1 _ _ ey, onS_of (atI_nat (j := 0) rfl) ?_⟩⟩
      dsimp only [tC, cEq, onB]
      by_cases et : a.tag = b.tag
      · rw [decide_eq_true et]
        refine iteF ?_
        have ex1 := s1 _ _ ex
        have ey1 := s1 _ _ ey
        have pe : pw a b = pw2 a b := by unfold pw; rw [hcond, if_neg Bool.false_ne_true]
        rw [pe] at q
        have tn := t_ne et hcond
        clear hx1 hy1 ino hcond pe hno hany et
        obtain ⟨oa, sa⟩ := ga
        obtain ⟨ob, sb⟩ := gb
        have ix1 := ix.mono (Same.tk s1)
        have iy1 := iy.mono (Same.tk s1)
        rcases tn with ⟨l, m, rfl, rfl⟩ | ⟨l, m, rfl, rfl⟩ | ⟨c, d, e, f, rfl, rfl⟩ | ⟨c, d, rfl, rfl⟩ | ⟨rfl, rfl⟩
        · rw [Kd.ok] at oa ob
          simp only [Kd.sz] at sa sb
          obtain ⟨x1, rfl, i1⟩ := ims1 ix1
          obtain ⟨y1, rfl, j1⟩ := ims1 iy1
          obtain ⟨t1, rfl, f1⟩ := ft_of (.cons i1 .nil) oa.2.1 (by omega)
          obtain ⟨t2, rfl, f2⟩ := ft_of (.cons j1 .nil) ob.2.1 (by omega)
          refine ⟨_, ex1, onS_of (atI_nat (j := 0) rfl) ?_⟩
          dsimp only [tC, cEq, onB]
          rw [show (false ^^ decide ((Kd.rcd l).tag = ("fn" : Str))) = false from (show (false ^^ decide (("rec" : Str) = "fn")) = false by decide +kernel)]
          refine iteF ⟨_, ex1, onS_of (atI_nat (j := 0) rfl) ?_⟩
          dsimp only [tC, cEq, onB]
          rw [show (false ^^ decide ((Kd.rcd l).tag = ("rec" : Str))) = true from (show (false ^^ decide (("rec" : Str) = "rec")) = true by decide +kernel)]
          refine iteT ⟨_, ey1, onS_of (atI_nat (j := 1) rfl) ⟨_, ex1, onS_of (atI_nat (j := 1) rfl) ⟨_, ey1, onS_of (atI_nat (j := 1) rfl) ?_⟩⟩⟩
          exact ⟨t2, t1, t2, _, _, _, rfl, f2, f1, f2, fun v H2 S2 hv => q v H2 (s1.trans S2) (pwv_to s1 hv)⟩
        · rw [Kd.ok] at oa ob
          simp only [Kd.sz] at sa sb
          obtain ⟨x1, rfl, i1⟩ := ims1 ix1
          obtain ⟨y1, rfl, j1⟩ := ims1 iy1
          obtain ⟨t1, rfl, f1⟩ := ft_of (.cons i1 .nil) oa.2.1 (by omega)
          obtain ⟨t2, rfl, f2⟩ := ft_of (.cons j1 .nil) ob.2.1 (by omega)
          refine ⟨_, ex1, onS_of (atI_nat (j := 0) rfl) ?_⟩
          dsimp only [tC, cEq, onB]
          rw [show (false ^^ decide ((Kd.ch l).tag = ("fn" : Str))) = false from (show (false ^^ decide (("choice" : Str) = "fn")) = false by decide +kernel)]
          refine iteF ⟨_, ex1, onS_of (atI_nat (j := 0) rfl) ?_⟩
          dsimp only [tC, cEq, onB]
          rw [show (false ^^ decide ((Kd.ch l).tag = ("rec" : Str))) = false from (show (false ^^ decide (("choice" : Str) = "rec")) = false by decide +kernel)]
          refine iteF ⟨_, ex1, onS_of (atI_nat (j := 0) rfl) ?_⟩
          dsimp only [tC, cEq, onB]
          rw [show (false ^^ decide ((Kd.ch l).tag = ("choice" : Str))) = true from (show (false ^^ decide (("choice" : Str) = "choice")) = true by decide +kernel)]
          refine iteT ⟨_, ex1, onS_of (atI_nat (j := 1) rfl) ⟨_, ex1, onS_of (atI_nat (j := 1) rfl) ⟨_, ey1, onS_of (atI_nat (j := 1) rfl) ?_⟩⟩⟩
          exact ⟨t1, t1, t2, _, _, _, rfl, f1, f1, f2, fun v H2 S2 hv => q v H2 (s1.trans S2) (pwv_to s1 hv)⟩
        · obtain ⟨x1, x2, rfl, i1, i2⟩ := ims2K ix1
          obtain ⟨y1, y2, rfl, j1, j2⟩ := ims2K iy1
          refine ⟨_, ex1, onS_of (atI_nat (j := 0) rfl) ?_⟩
          dsimp only [tC, cEq, onB]
          rw [show (false ^^ decide ((Kd.fn c d).tag = ("fn" : Str))) = true from (show (false ^^ decide (("fn" : Str) = "fn")) = true by decide +kernel)]
          refine iteT ⟨_, ey1, onS_of (atI_nat (j := 1) rfl) ⟨_, ex1, onS_of (atI_nat (j := 1) rfl) ⟨(by show 2 ≤ sizeLine; decide), fun t1 h1 => ?_⟩⟩⟩
          have s2 := same_new h1 (.tup [y1, x1])
          refine ⟨_, s2 _ _ ex1, onS_of (atI_nat (j := 2) rfl) ⟨_, s2 _ _ ey1, onS_of (atI_nat (j := 2) rfl) ⟨(by show 2 ≤ sizeLine; decide), fun t2 h2 => ⟨(by show 2 ≤ sizeLine; decide), fun l hl => ?_⟩⟩⟩⟩
          have s3 := s2.trans (same_new h2 (.tup [x2, y2]))
          have s4 := s3.trans (same_new hl (.lst [.ref t1, .ref t2]))
          refine q _ _ (s1.trans s4) ⟨l, _, rfl, (s1.trans s3).free hl, upd_same, ?_⟩
          exact .cons (.tup ((same_new h2 (.tup [x2, y2])).trans (same_new hl _) _ _ upd_same) (.cons (j1.mono (Same.tk s4)) (.cons (i1.mono (Same.tk s4)) .nil))) (.cons (.tup (same_new hl _ _ _ upd_same) (.cons (i2.mono (Same.tk s4)) (.cons (j2.mono (Same.tk s4)) .nil))) .nil)
        · obtain ⟨x1, rfl, i1⟩ := ims1 ix1
          obtain ⟨y1, rfl, j1⟩ := ims1 iy1
          refine ⟨_, ex1, onS_of (atI_nat (j := 0) rfl) ?_⟩
          dsimp only [tC, cEq, onB]
          rw [show (false ^^ decide ((Kd.row c).tag = ("fn" : Str))) = false from (show (false ^^ decide (("row" : Str) = "fn")) = false by decide +kernel)]
          refine iteF ⟨_, ex1, onS_of (atI_nat (j := 0) rfl) ?_⟩
          dsimp only [tC, cEq, onB]
          rw [show (false ^^ decide ((Kd.row c).tag = ("rec" : Str))) = false from (show (false ^^ decide (("row" : Str) = "rec")) = false by decide +kernel)]
          refine iteF ⟨_, ex1, onS_of (atI_nat (j := 0) rfl) ?_⟩
          dsimp only [tC, cEq, onB]
          rw [show (false ^^ decide ((Kd.row c).tag = ("choice" : Str))) = false from (show (false ^^ decide (("row" : Str) = "choice")) = false by decide +kernel)]
          refine iteF ⟨_, ex1, onS_of (atI_nat (j := 0) rfl) ?_⟩
          dsimp only [tC, cEq, onB]
          rw [show (false ^^ decide ((Kd.row c).tag = ("row" : Str))) = true from (show (false ^^ decide (("row" : Str) = "row")) = true by decide +kernel)]
          refine iteT ⟨_, ex1, onS_of (atI_nat (j := 1) rfl) ⟨_, ey1, onS_of (atI_nat (j := 1) rfl) ⟨(by show 2 ≤ sizeLine; decide), fun t1 h1 => ⟨(by show 1 ≤ sizeLine; decide), fun l hl => ?_⟩⟩⟩⟩
          have s2 := same_new h1 (.tup [x1, y1])
          have s3 := s2.trans (same_new hl (.lst [.ref t1]))
          refine q _ _ (s1.trans s3) ⟨l, _, rfl, (s1.trans s2).free hl, upd_same, ?_⟩
          exact .cons (.tup (same_new hl _ _ _ upd_same) (.cons (i1.mono (Same.tk s3)) (.cons (j1.mono (Same.tk s3)) .nil))) .nil
        · refine ⟨_, ex1, onS_of (atI_nat (j := 0) rfl) ?_⟩
          dsimp only [tC, cEq, onB]
          rw [show (false ^^ decide (Kd.num.tag = ("fn" : Str))) = false by decide +kernel]
          refine iteF ⟨_, ex1, onS_of (atI_nat (j := 0) rfl) ?_⟩
          dsimp only [tC, cEq, onB]
          rw [show (false ^^ decide (Kd.num.tag = ("rec" : Str))) = false by decide +kernel]
          refine iteF ⟨_, ex1, onS_of (atI_nat (j := 0) rfl) ?_⟩
          dsimp only [tC, cEq, onB]
          rw [show (false ^^ decide (Kd.num.tag = ("choice" : Str))) = false by decide +kernel]
          refine iteF ⟨_, ex1, onS_of (atI_nat (j := 0) rfl) ?_⟩
          dsimp only [tC, cEq, onB]
          rw [show (false ^^ decide (Kd.num.tag = ("row" : Str))) = false by decide +kernel]
          refine iteF ⟨(by show 0 ≤ sizeLine; decide), fun l hl => q _ _ (s1.trans (same_new hl _)) ⟨l, [], rfl, s1.free hl, upd_same, .nil⟩⟩
      · rw [decide_eq_false et]
        exact iteT (q .non H1 s1 (by rw [pw_ne et hcond]; rfl))
end
end K51.Internal
namespace K51.Internal
open PySem L2.Internal BO.Internal KK.Internal
seal L2.Internal.PE L2.Internal.PA L2.Internal.PS L2.Internal.PSs L2.Internal.PT L2.Internal.PI
theorem undF_nil (f : Nat) : undF f [] = true := by cases f <;> rfl
theorem pdx {H : Hp} {v : V} {p : Kd × Kd} (h : Im H v (pD p)) : ∃ t x y, v = .ref t ∧ H t = some (.tup [x, y]) ∧ Im H x p.1.d ∧ Im H y p.2.d := by
  unfold pD at h
  cases h with
  | tup e hs =>
    obtain ⟨x, y, rfl, h1, h2⟩ := ims2K hs
    exact ⟨_, x, y, rfl, e, h1, h2⟩
theorem ims_last {H : Hp} {xs : List V} {st : List (Kd × Kd)} {p : Kd × Kd} (h : Ims H xs ((p :: st).reverse.map pD)) : ∃ v, xs[xs.length - 1]? = some v ∧ Im H v (pD p) ∧ Ims H xs.dropLast (st.reverse.map pD) := by
  rw [List.reverse_cons, List.map_append] at h
  have go : ∀ {ds : List Dt} {xs : List V} {d : Dt}, Ims H xs (ds ++ [d]) → ∃ ys v, xs = ys ++ [v] ∧ Im H v d ∧ Ims H ys ds := fun {ds} => by
    induction ds with
    | nil =>
      intro xs d h
      obtain ⟨x, rfl, hx⟩ := ims1 h
      exact ⟨[], x, rfl, hx, .nil⟩
    | cons d0 ds ih =>
      intro xs d h
      cases h with
      | cons h1 hs =>
        obtain ⟨ys, v, rfl, h2, h3⟩ := ih hs
        exact ⟨_ :: ys, v, rfl, h2, .cons h1 h3⟩
  obtain ⟨ys, v, rfl, h1, h2⟩ := go h
  refine ⟨v, ?_, h1, ?_⟩
  · rw [List.length_append, List.length_singleton, Nat.add_sub_cancel]
    simp
  · rw [List.dropLast_concat]
    exact h2
theorem und_step {f : Nat} {p : Kd × Kd} {st : List (Kd × Kd)} {r : Bool} (h : undF f (p :: st) = r) (hz : szp (p :: st) ≤ f) (gp : G p.1 ∧ G p.2) (gs : ∀ p ∈ st, G p.1 ∧ G p.2) : (pw p.1 p.2 = none ∧ r = false) ∨ ∃ l f', pw p.1 p.2 = some l ∧ f' < f ∧ undF f' (l.reverse ++ st) = r ∧ szp (l.reverse ++ st) ≤ f' ∧ ∀ p ∈ l.reverse ++ st, G p.1 ∧ G p.2 := by
  have p1 := sz_pos p.1
  rw [szp] at hz
  cases f with
  | zero => omega
  | succ f =>
    rw [undF] at h
    cases e : pw p.1 p.2 with
    | none => rw [e] at h; exact .inl ⟨rfl, h.symm⟩
    | some l =>
      rw [e] at h
      have hs := pw_sz e gp.1.1 gp.2.1
      refine .inr ⟨l, f, rfl, by omega, h, by rw [szp_app, szp_rev]; omega, fun q hq => ?_⟩
      rcases List.mem_append.mp hq with hq | hq
      · exact pw_good e gp.1 gp.2 q (List.mem_reverse.mp hq)
      · exact gs q hq
section
variable {P : Program} {w : World} {K : PySem.W.Frag} {mg : Str → Option Value} {base : Heap}
noncomputable def sp_und : Sp := fun vs H Q _ => ∃ (x y : V) (a b : Kd), vs = [x, y] ∧ Im H x a.d ∧ Im H y b.d ∧ G a ∧ G b ∧ ∀ H', Same H H' → Q (.bl (und a b)) H'
theorem ok_under (T : Txt K mg) : FnOk P w K mg base CX0 3 T.a_under T.fd_under ["one", "other"] sp_und := by
  have G_pairs_wanted := ok_pairs_wanted (P := P) (w := w) (base := base) T
  refine T.F_under.ok sc_under (fun vs H Q E h => ?_) (fun cdv A outer s H vs Q E hr h => ?_)
  · obtain ⟨x, y, a, b, rfl, _⟩ := h
    rfl
  obtain ⟨x, y, a, b, rfl, hx, hy, ga, gb, q⟩ := h
  refine ⟨_, (pss_cons (ps_set (i := 2) sc_under.nd rfl (Or.inl rfl) (pe_lst (pa_cons (pe_tup (pa_cons (cv 0) (pa_cons (cv 1) pa_nil))) pa_nil)))
    (pss_cons (ps_while PassesOwn.never (ptc_cmpR oc_gt (pe_callB call_len_seq rfl T.z_len bt_len (pa_cons (cv 2) pa_nil)) pe_int (nomark _))
      (pss_cons (ps_set (i := 3) sc_under.nd rfl (Or.inl rfl) (pe_bm0 PySem.F.plainAttrs_list PySem.F.slot_list_pop PySem.F.type_list_pop mt_pop (cv 2)))
      (pss_cons (ps_set (i := 4) sc_under.nd rfl (Or.inl rfl) (pe_call G_pairs_wanted (hr.mono (by decide)) rfl T.m_pairs_wanted T.k_pairs_wanted T.b_pairs_wanted .nil pass0 (pa_cons (pe_ix xc_tup (cv 3) pe_int (fun _ _ => rfl)) (pa_cons (pe_ix xc_tup (cv 3) pe_int (fun _ _ => rfl)) pa_nil))))
      (pss_cons (ps_if (pt_cmp (pc_isN (cv 4)))
        (pss_one (ps_ret pe_bl))
        pss_nil)
      (pss_one (ps_expr (pe_bm PySem.F.plainAttrs_list PySem.F.slot_list_extend PySem.F.type_list_extend mt_extend (cv 2) (pa_cons (cv 4) pa_nil))))))))
    (pss_one (ps_ret pe_bl)))), ?_⟩
  have sl : sizeLine = 16777216 := sizeLine_eq
  refine ⟨(by show 2 ≤ sizeLine; decide), fun t0 h0 => ⟨(by show 1 ≤ sizeLine; decide), fun as has => ?_⟩⟩
  have s0 := same_new h0 (.tup [x, y])
  have S0 := s0.trans (same_new has (.lst [.ref t0]))
  have fas : H as = none := s0.free has
  have e0 : (upd (upd H t0 (.tup [x, y])) as (.lst [.ref t0])) as = some (.lst [.ref t0]) := upd_same
  have i0 : Ims (upd (upd H t0 (.tup [x, y])) as (.lst [.ref t0])) [.ref t0] ([(a, b)].reverse.map pD) := .cons ((im_newK h0 (.cons hx (.cons hy .nil))).mono (Same.tk (same_new has _))) .nil
  dsimp only [gName]
  generalize upd (upd H t0 (.tup [x, y])) as (.lst [.ref t0]) = H0 at S0 e0 i0 ⊢
  have sa := ga.2
  have sb := gb.2
  refine ⟨fun f σ H2 => ∃ (o3 o4 : Option V) (xs : List V) (st : List (Kd × Kd)), σ = [some x, some y, some (.ref as), o3, o4] ∧ Same H H2 ∧ H2 as = some (.lst xs) ∧ Ims H2 xs (st.reverse.map pD) ∧ (∀ p ∈ st, G p.1 ∧ G p.2) ∧ szp st ≤ f ∧ undF f st = und a b ∧ f ≤ 40,
    ⟨a.sz + b.sz, none, none, _, [(a, b)], rfl, S0, e0, i0, fun p hp => by rw [List.mem_singleton.mp hp]; exact ⟨ga, gb⟩, by simp [szp], rfl, by omega⟩, ?_⟩
  rintro f σ H2 ⟨o3, o4, xs, st, rfl, S, e, i, gs, hz, hu, hf⟩
  have lxs := i.length
  rw [List.length_map, List.length_reverse] at lxs
  refine ⟨as, _, rfl, .inl (SqL.of e), ?_⟩
  dsimp only [tC, cI0, onB]
  cases st with
  | nil =>
    rw [decide_eq_false (show ¬ (0 : Int) < (xs.length : Int) by rw [lxs]; simp)]
    refine iteF ?_
    rw [undF_nil] at hu
    have := q H2 S
    rw [← hu] at this
    exact this
  | cons p st =>
    rw [decide_eq_true (show (0 : Int) < (xs.length : Int) by rw [lxs, List.length_cons]; omega)]
    obtain ⟨v, hv, ip, ir⟩ := ims_last i
    have gp := gs p (by simp)
    have gst : ∀ p ∈ st, G p.1 ∧ G p.2 := fun q hq => gs q (by simp [hq])
    refine iteT ⟨fun σ' H' => ∃ m', m' < f ∧ ∃ (o3 o4 : Option V) (xs : List V) (st : List (Kd × Kd)), σ' = [some x, some y, some (.ref as), o3, o4] ∧ Same H H' ∧ H' as = some (.lst xs) ∧ Ims H' xs (st.reverse.map pD) ∧ (∀ p ∈ st, G p.1 ∧ G p.2) ∧ szp st ≤ m' ∧ undF m' st = und a b ∧ m' ≤ 40, fun _ _ h => h, ?_⟩
    refine ⟨.inl ⟨rfl, _, SqL.of e⟩, as, xs, v, rfl, rfl, e, hv, ?_⟩
    have tk := (fk_lst (o := .lst xs.dropLast) e).tk
    have S3 : Same H (upd H2 as (.lst xs.dropLast)) := same_updK S fas _
    have e3 : (upd H2 as (.lst xs.dropLast)) as = some (.lst xs.dropLast) := upd_same
    have ip3 := ip.mono tk
    have ir3 := ir.mono tk
    dsimp only [gName]
    generalize upd H2 as (.lst xs.dropLast) = H3 at S3 e3 ip3 ir3 ⊢
    obtain ⟨t, v1, v2, rfl, et, i1, i2⟩ := pdx ip3
    refine ⟨_, et, onS_of (atI_nat (j := 0) rfl) ⟨_, et, onS_of (atI_nat (j := 1) rfl) ⟨v1, v2, p.1, p.2, rfl, i1, i2, gp.1, gp.2, fun wv H4 S4 hw => ?_⟩⟩⟩
    dsimp only [gName]
    rcases und_step hu hz gp gst with ⟨hn, hr0⟩ | ⟨l, f', hn, hf', hu', hz', gs'⟩
    · rw [hn] at hw
      have hw' : wv = .non := hw
      subst hw'
      refine ⟨_, rfl, ?_⟩
      rw [decide_eq_true rfl]
      refine iteT ?_
      have := q H4 (S3.trans S4)
      rw [hr0] at this
      exact this
    · rw [hn] at hw
      obtain ⟨tw, zs, rfl, fw, ew, iw⟩ := hw
      refine ⟨_, rfl, ?_⟩
      rw [decide_eq_false (fun z => nomatch z)]
      refine iteF ?_
      have e4 := S4 _ _ e3
      have l1 := ir3.length
      have l2 := iw.length
      rw [List.length_map] at l1 l2
      rw [List.length_reverse] at l1
      have hl := szp_len (l.reverse ++ st)
      rw [List.length_append, List.length_reverse] at hl
      refine ⟨.inl ⟨rfl, _, SqL.of e4⟩, as, tw, xs.dropLast, zs, rfl, rfl, e4, ew, by omega, ?_⟩
      have tk5 := (fk_lst (o := .lst (xs.dropLast ++ zs)) e4).tk
      refine ⟨f', hf', _, _, xs.dropLast ++ zs, l.reverse ++ st, rfl, same_updK (S3.trans S4) fas _, upd_same, ?_, gs', hz', hu', by omega⟩
      rw [List.reverse_append, List.reverse_reverse, List.map_append]
      exact ((ir3.mono (Same.tk S4)).mono tk5).app (iw.mono tk5)
end
end K51.Internal
namespace K51.Internal
open PySem L2.Internal BO.Internal KK.Internal
seal L2.Internal.PE L2.Internal.PA L2.Internal.PS L2.Internal.PSs L2.Internal.PT L2.Internal.PI
noncomputable def TrA (H : Hp) (t : Addr) (B : Int) : Prop := ∃ (xs : List V) (ks : List Kd) (i j : Int), H t = some (.lst (xs ++ [.int i, .int j])) ∧ Ims H xs (ks.map Kd.d) ∧ ks.length = 3 ∧ (∀ k ∈ ks, k.ok ∧ (k.sz : Int) ≤ j) ∧ 1 ≤ j ∧ j ≤ B
noncomputable def Fk (N : List Addr) (H H' : Hp) : Prop := Frm N H H' ∧ TK H H'
theorem Fk.same {N : List Addr} {H H' : Hp} (s : Same H H') : Fk N H H' := ⟨Frm.same s, Same.tk s⟩
theorem Fk.trans {N : List Addr} {H H1 H2 : Hp} (a : Fk N H H1) (b : Fk N H1 H2) : Fk N H H2 := ⟨a.1.trans b.1, fun c xs e => b.2 c xs (a.2 c xs e)⟩
theorem Fk.upd {N : List Addr} {H : Hp} {a : Addr} {xs ys : List V} (h : a ∈ N) (e : H a = some (.lst xs)) : Fk N H (upd H a (.lst ys)) := ⟨Frm.upd h, (fk_lst e).tk⟩
theorem TrA.fk {N : List Addr} {H H' : Hp} {t : Addr} {B : Int} (h : TrA H t B) (n : t ∉ N) (k : Fk N H H') : TrA H' t B := by
  obtain ⟨xs, ks, i, j, e, h1, h2⟩ := h
  exact ⟨xs, ks, i, j, k.1 _ _ e n, h1.mono k.2, h2⟩
theorem TrA.same {H H' : Hp} {t : Addr} {B : Int} (h : TrA H t B) (s : Same H H') : TrA H' t B := h.fk (N := []) (by simp) (Fk.same s)
theorem TrA.ex {H : Hp} {t : Addr} {B : Int} (h : TrA H t B) : ∃ o, H t = some o := by
  obtain ⟨xs, ks, i, j, e, _⟩ := h
  exact ⟨_, e⟩
theorem TrA.at {H : Hp} {t : Addr} {B : Int} (h : TrA H t B) : ∃ (xs : List V) (ks : List Kd) (i j : Int), H t = some (.lst (xs ++ [.int i, .int j])) ∧ Ims H xs (ks.map Kd.d) ∧ ks.length = 3 ∧ (∀ k ∈ ks, k.ok ∧ (k.sz : Int) ≤ j) ∧ 1 ≤ j ∧ j ≤ B ∧ atI (xs ++ [.int i, .int j]) 3 = some (.int i) ∧ atI (xs ++ [.int i, .int j]) 4 = some (.int j) ∧ ∀ n : Nat, n < 3 → ∃ v k, atI (xs ++ [.int i, .int j]) (n : Int) = some v ∧ Im H v k.d ∧ k ∈ ks ∧ ks[n]? = some k := by
  obtain ⟨xs, ks, i, j, e, h1, h2, h3, h4, h5⟩ := h
  have lx := h1.length
  rw [List.length_map, h2] at lx
  refine ⟨xs, ks, i, j, e, h1, h2, h3, h4, h5, ?_, ?_, fun n hn => ?_⟩
  · exact atI_nat (j := 3) (by rw [List.getElem?_append_right (by omega), lx]; rfl)
  · exact atI_nat (j := 4) (by rw [List.getElem?_append_right (by omega), lx]; rfl)
  · obtain ⟨v, hv⟩ : ∃ v, xs[n]? = some v := ⟨_, List.getElem?_eq_getElem (by omega)⟩
    obtain ⟨d, hd, im⟩ := KK.Internal.Ims.atK h1 hv
    rw [List.getElem?_map] at hd
    cases ek : ks[n]? with
    | none => rw [ek] at hd; cases hd
    | some k =>
      rw [ek] at hd
      cases hd
      exact ⟨v, k, atI_nat (by rw [List.getElem?_append_left (by omega)]; exact hv), im, List.mem_of_getElem? ek, rfl⟩
noncomputable def lsK : List Kd := [.any, .num, .rcd .nil, .ch .nil]
theorem lsK_ok : ∀ k ∈ lsK, k.ok ∧ k.sz = 1 := by
  intro k hk
  simp only [lsK, List.mem_cons, List.not_mem_nil, or_false] at hk
  rcases hk with rfl | rfl | rfl | rfl <;> simp [Kd.ok, Kds.ok, Kds.toL, Kd.sz, Kds.sz]
theorem least_new {H : Hp} {t1 t2 t3 t4 t5 t6 l0 : Addr} (h1 : H t1 = none) (h2 : (upd H t1 (.tup [.str "any"])) t2 = none) (h3 : (upd (upd H t1 (.tup [.str "any"])) t2 (.tup [.str "num"])) t3 = none)
    (h4 : (upd (upd (upd H t1 (.tup [.str "any"])) t2 (.tup [.str "num"])) t3 (.tup [])) t4 = none) (h5 : (upd (upd (upd (upd H t1 (.tup [.str "any"])) t2 (.tup [.str "num"])) t3 (.tup [])) t4 (.tup [.str "rec", .ref t3])) t5 = none)
    (h6 : (upd (upd (upd (upd (upd H t1 (.tup [.str "any"])) t2 (.tup [.str "num"])) t3 (.tup [])) t4 (.tup [.str "rec", .ref t3])) t5 (.tup [])) t6 = none)
    (h0 : (upd (upd (upd (upd (upd (upd H t1 (.tup [.str "any"])) t2 (.tup [.str "num"])) t3 (.tup [])) t4 (.tup [.str "rec", .ref t3])) t5 (.tup [])) t6 (.tup [.str "choice", .ref t5])) l0 = none) :
    Same H (upd (upd (upd (upd (upd (upd (upd H t1 (.tup [.str "any"])) t2 (.tup [.str "num"])) t3 (.tup [])) t4 (.tup [.str "rec", .ref t3])) t5 (.tup [])) t6 (.tup [.str "choice", .ref t5])) l0 (.lst [.ref t1, .ref t2, .ref t4, .ref t6])) ∧
    Ims (upd (upd (upd (upd (upd (upd (upd H t1 (.tup [.str "any"])) t2 (.tup [.str "num"])) t3 (.tup [])) t4 (.tup [.str "rec", .ref t3])) t5 (.tup [])) t6 (.tup [.str "choice", .ref t5])) l0 (.lst [.ref t1, .ref t2, .ref t4, .ref t6])) [.ref t1, .ref t2, .ref t4, .ref t6] (lsK.map Kd.d) := by
  have i1 := im_newK (ds := [sD "any"]) h1 (.cons (.flat rfl) .nil)
  have S1 := same_new h1 (.tup [.str "any"])
  generalize upd H t1 (.tup [.str "any"]) = H1 at *
  have i2 := im_newK (ds := [sD "num"]) h2 (.cons (.flat rfl) .nil)
  have S2 := same_new h2 (.tup [.str "num"])
  generalize upd H1 t2 (.tup [.str "num"]) = H2 at *
  have i3 := im_newK (ds := []) h3 .nil
  have S3 := same_new h3 (.tup [])
  generalize upd H2 t3 (.tup []) = H3 at *
  have i4 := im_newK (ds := [sD "rec", .tup []]) h4 (.cons (.flat rfl) (.cons i3 .nil))
  have S4 := same_new h4 (.tup [.str "rec", .ref t3])
  generalize upd H3 t4 (.tup [.str "rec", .ref t3]) = H4 at *
  have i5 := im_newK (ds := []) h5 .nil
  have S5 := same_new h5 (.tup [])
  generalize upd H4 t5 (.tup []) = H5 at *
  have i6 := im_newK (ds := [sD "choice", .tup []]) h6 (.cons (.flat rfl) (.cons i5 .nil))
  have S6 := same_new h6 (.tup [.str "choice", .ref t5])
  generalize upd H5 t6 (.tup [.str "choice", .ref t5]) = H6 at *
  have S7 := same_new h0 (.lst [.ref t1, .ref t2, .ref t4, .ref t6])
  have A := ((((S2.trans S3).trans S4).trans S5).trans S6).trans S7
  refine ⟨S1.trans A, ?_⟩
  rw [show lsK.map Kd.d = [.tup [sD "any"], .tup [sD "num"], .tup [sD "rec", .tup []], .tup [sD "choice", .tup []]] by simp [lsK, Kd.d, Kds.ds]]
  exact .cons (i1.mono (Same.tk A)) (.cons (i2.mono (Same.tk ((((S3.trans S4).trans S5).trans S6).trans S7))) (.cons (i4.mono (Same.tk ((S5.trans S6).trans S7))) (.cons (i6.mono (Same.tk S7)) .nil)))
noncomputable def Pr (H : Hp) (v : V) : Prop := ∃ (t : Addr) (ns : List Nat), v = .ref t ∧ H t = some (.tup (ns.map fun n : Nat => V.int (n : Int))) ∧ ns.length = 3 ∧ ∀ n ∈ ns, n < 4
theorem Pr.same {H H' : Hp} {v : V} (h : Pr H v) (s : Same H H') : Pr H' v := by
  obtain ⟨t, ns, e, h1, h2⟩ := h
  exact ⟨t, ns, e, s _ _ h1, h2⟩
theorem pr_new {H : Hp} {t : Addr} (a b c : Nat) (hb : a < 4 ∧ b < 4 ∧ c < 4) : Pr (upd H t (.tup [.int (a : Int), .int (b : Int), .int (c : Int)])) (.ref t) := ⟨t, [a, b, c], rfl, upd_same, rfl, fun n hn => by
  simp only [List.mem_cons, List.not_mem_nil, or_false] at hn
  rcases hn with rfl | rfl | rfl <;> omega⟩
section
variable {P : Program} {w : World} {K : PySem.W.Frag} {mg : Str → Option Value} {base : Heap}
noncomputable def sp_leaf : Sp := fun vs H Q _ => ∃ c : Int, vs = [.int c] ∧ ∀ t H', Same H H' → H t = none → TrA H' t 1 → Q (.ref t) H'
theorem ok__law_leaf (T : Txt K mg) : FnOk P w K mg base CX0 1 T.a__law_leaf T.fd__law_leaf ["_law_c"] sp_leaf := by
  refine T.F__law_leaf.ok sc__law_leaf (fun vs H Q E h => ?_) (fun cdv A outer s H vs Q E hr h => ?_)
  · obtain ⟨c, rfl, _⟩ := h
    rfl
  obtain ⟨c, rfl, q⟩ := h
  refine ⟨_, (pss_cons (ps_set (i := 1) sc__law_leaf.nd rfl (Or.inr rfl) (pe_lst (pa_cons (pe_tup (pa_cons pe_str pa_nil)) (pa_cons (pe_tup (pa_cons pe_str pa_nil)) (pa_cons (pe_tup (pa_cons pe_str (pa_cons (pe_tup pa_nil) pa_nil))) (pa_cons (pe_tup (pa_cons pe_str (pa_cons (pe_tup pa_nil) pa_nil))) pa_nil))))))
    (pss_cons (ps_set (i := 2) sc__law_leaf.nd rfl (Or.inl rfl) (pe_lst (pa_cons (pe_tup (pa_cons pe_int (pa_cons pe_int (pa_cons pe_int pa_nil)))) (pa_cons (pe_tup (pa_cons pe_int (pa_cons pe_int (pa_cons pe_int pa_nil)))) (pa_cons (pe_tup (pa_cons pe_int (pa_cons pe_int (pa_cons pe_int pa_nil)))) (pa_cons (pe_tup (pa_cons pe_int (pa_cons pe_int (pa_cons pe_int pa_nil)))) (pa_cons (pe_tup (pa_cons pe_int (pa_cons pe_int (pa_cons pe_int pa_nil)))) (pa_cons (pe_tup (pa_cons pe_int (pa_cons pe_int (pa_cons pe_int pa_nil)))) (pa_cons (pe_tup (pa_cons pe_int (pa_cons pe_int (pa_cons pe_int pa_nil)))) (pa_cons (pe_tup (pa_cons pe_int (pa_cons pe_int (pa_cons pe_int pa_nil)))) (pa_cons (pe_tup (pa_cons pe_int (pa_cons pe_int (pa_cons pe_int pa_nil)))) pa_nil)))))))))))
    (pss_one (ps_ret (pe_op op_cat (pe_lc rfl (blkC (x := "_law_k") ["_law_least"] [("_law_least", 1, s.heap.objs.size + 1)] rfl rfl (by decide +kernel) (by decide +kernel) rfl (by decide +kernel) rfl rfl (by intro p hp; simp only [List.mem_cons, List.not_mem_nil, or_false] at hp; rcases hp with rfl <;> exact ⟨rfl, rfl, rfl, rfl⟩)) (pi_tup (pe_ix xc_list (cv 2) (pe_op oc_mod (cv 0) pe_int) (fun _ _ => rfl))) (fun _ _ _ _ _ => pts_nil) (fun _ _ _ _ _ => (pe_ix xc_list (cv 1) (cv 0) (fun _ _ => rfl)))) (pe_lst (pa_cons pe_int (pa_cons pe_int pa_nil)))))))), ?_⟩
  have sl : sizeLine = 16777216 := sizeLine_eq
  refine ⟨(by show 1 ≤ sizeLine; decide), fun t1 h1 => ⟨(by show 1 ≤ sizeLine; decide), fun t2 h2 => ⟨(by show 0 ≤ sizeLine; decide), fun t3 h3 => ⟨(by show 2 ≤ sizeLine; decide), fun t4 h4 => ⟨(by show 0 ≤ sizeLine; decide), fun t5 h5 => ⟨(by show 2 ≤ sizeLine; decide), fun t6 h6 => ⟨(by show 4 ≤ sizeLine; decide), fun l0 h0 => ?_⟩⟩⟩⟩⟩⟩⟩
  obtain ⟨S0, I0⟩ := least_new h1 h2 h3 h4 h5 h6 h0
  have e0 := upd_same (H := (upd (upd (upd (upd (upd (upd H t1 (.tup [.str "any"])) t2 (.tup [.str "num"])) t3 (.tup [])) t4 (.tup [.str "rec", .ref t3])) t5 (.tup [])) t6 (.tup [.str "choice", .ref t5]))) (a := l0) (o := .lst [.ref t1, .ref t2, .ref t4, .ref t6])
  generalize upd (upd (upd (upd (upd (upd (upd H t1 (.tup [.str "any"])) t2 (.tup [.str "num"])) t3 (.tup [])) t4 (.tup [.str "rec", .ref t3])) t5 (.tup [])) t6 (.tup [.str "choice", .ref t5])) l0 (.lst [.ref t1, .ref t2, .ref t4, .ref t6]) = H0 at S0 I0 e0 ⊢
  generalize [V.ref t1, .ref t2, .ref t4, .ref t6] = xs0 at I0 e0 ⊢
  have x4 : xs0.length = 4 := I0.length
  clear h1 h2 h3 h4 h5 h6 h0
  dsimp only [gName]
  refine ⟨(by show 3 ≤ sizeLine; decide), fun r1 g1 => ⟨(by show 3 ≤ sizeLine; decide), fun r2 g2 => ⟨(by show 3 ≤ sizeLine; decide), fun r3 g3 => ⟨(by show 3 ≤ sizeLine; decide), fun r4 g4 => ⟨(by show 3 ≤ sizeLine; decide), fun r5 g5 => ⟨(by show 3 ≤ sizeLine; decide), fun r6 g6 => ⟨(by show 3 ≤ sizeLine; decide), fun r7 g7 => ⟨(by show 3 ≤ sizeLine; decide), fun r8 g8 => ⟨(by show 3 ≤ sizeLine; decide), fun r9 g9 => ⟨(by show 9 ≤ sizeLine; decide), fun rl grl => ?_⟩⟩⟩⟩⟩⟩⟩⟩⟩⟩
  have k1 := same_new g1 (.tup [.int 1, .int 1, .int 1])
  have p1 : Pr (upd H0 r1 (.tup [.int 1, .int 1, .int 1])) (.ref r1) := pr_new 1 1 1 (by decide)
  generalize upd H0 r1 (.tup [.int 1, .int 1, .int 1]) = M1 at *
  have k2 := same_new g2 (.tup [.int 2, .int 2, .int 2])
  have p2 : Pr (upd M1 r2 (.tup [.int 2, .int 2, .int 2])) (.ref r2) := pr_new 2 2 2 (by decide)
  generalize upd M1 r2 (.tup [.int 2, .int 2, .int 2]) = M2 at *
  have k3 := same_new g3 (.tup [.int 3, .int 1, .int 0])
  have p3 : Pr (upd M2 r3 (.tup [.int 3, .int 1, .int 0])) (.ref r3) := pr_new 3 1 0 (by decide)
  generalize upd M2 r3 (.tup [.int 3, .int 1, .int 0]) = M3 at *
  have k4 := same_new g4 (.tup [.int 3, .int 3, .int 2])
  have p4 : Pr (upd M3 r4 (.tup [.int 3, .int 3, .int 2])) (.ref r4) := pr_new 3 3 2 (by decide)
  generalize upd M3 r4 (.tup [.int 3, .int 3, .int 2]) = M4 at *
  have k5 := same_new g5 (.tup [.int 1, .int 1, .int 0])
  have p5 : Pr (upd M4 r5 (.tup [.int 1, .int 1, .int 0])) (.ref r5) := pr_new 1 1 0 (by decide)
  generalize upd M4 r5 (.tup [.int 1, .int 1, .int 0]) = M5 at *
  have k6 := same_new g6 (.tup [.int 0, .int 0, .int 0])
  have p6 : Pr (upd M5 r6 (.tup [.int 0, .int 0, .int 0])) (.ref r6) := pr_new 0 0 0 (by decide)
  generalize upd M5 r6 (.tup [.int 0, .int 0, .int 0]) = M6 at *
  have k7 := same_new g7 (.tup [.int 3, .int 3, .int 3])
  have p7 : Pr (upd M6 r7 (.tup [.int 3, .int 3, .int 3])) (.ref r7) := pr_new 3 3 3 (by decide)
  generalize upd M6 r7 (.tup [.int 3, .int 3, .int 3]) = M7 at *
  have k8 := same_new g8 (.tup [.int 3, .int 2, .int 0])
  have p8 : Pr (upd M7 r8 (.tup [.int 3, .int 2, .int 0])) (.ref r8) := pr_new 3 2 0 (by decide)
  generalize upd M7 r8 (.tup [.int 3, .int 2, .int 0]) = M8 at *
  have k9 := same_new g9 (.tup [.int 1, .int 2, .int 3])
  have p9 : Pr (upd M8 r9 (.tup [.int 1, .int 2, .int 3])) (.ref r9) := pr_new 1 2 3 (by decide)
  generalize upd M8 r9 (.tup [.int 1, .int 2, .int 3]) = M9 at *
  have k10 := same_new grl (.lst [.ref r1, .ref r2, .ref r3, .ref r4, .ref r5, .ref r6, .ref r7, .ref r8, .ref r9])
  have erl : (upd M9 rl (.lst [.ref r1, .ref r2, .ref r3, .ref r4, .ref r5, .ref r6, .ref r7, .ref r8, .ref r9])) rl = some (.lst [.ref r1, .ref r2, .ref r3, .ref r4, .ref r5, .ref r6, .ref r7, .ref r8, .ref r9]) := upd_same
  generalize upd M9 rl (.lst [.ref r1, .ref r2, .ref r3, .ref r4, .ref r5, .ref r6, .ref r7, .ref r8, .ref r9]) = M10 at *
  have z8 := k9.trans k10
  have z7 := k8.trans z8
  have z6 := k7.trans z7
  have z5 := k6.trans z6
  have z4 := k5.trans z5
  have z3 := k4.trans z4
  have z2 := k3.trans z3
  have z1 := k2.trans z2
  have S1 : Same H0 M10 := k1.trans z1
  have hp : ∀ v ∈ ([V.ref r1, V.ref r2, V.ref r3, V.ref r4, V.ref r5, V.ref r6, V.ref r7, V.ref r8, V.ref r9] : List V), Pr M10 v := fun v hv => by
    simp only [List.mem_cons, List.not_mem_nil, or_false] at hv
    rcases hv with rfl | rfl | rfl | rfl | rfl | rfl | rfl | rfl | rfl
    · exact p1.same z1
    · exact p2.same z2
    · exact p3.same z3
    · exact p4.same z4
    · exact p5.same z5
    · exact p6.same z6
    · exact p7.same z7
    · exact p8.same z8
    · exact p9.same k10
  clear p1 p2 p3 p4 p5 p6 p7 p8 p9 g1 g2 g3 g4 g5 g6 g7 g8 g9 grl z1 z2 z3 z4 z5 z6 z7 z8 k1 k2 k3 k4 k5 k6 k7 k8 k9 k10
  refine ⟨(by show (0 : Int) < 9; decide), _, erl, ?_⟩
  obtain ⟨v, av, mv⟩ := atI_lt ([V.ref r1, V.ref r2, V.ref r3, V.ref r4, V.ref r5, V.ref r6, V.ref r7, V.ref r8, V.ref r9] : List V) (c % 9) (Int.emod_nonneg _ (by decide)) (Int.emod_lt_of_pos _ (by decide))
  obtain ⟨t, ns, rfl, et, ln, hn⟩ := hp v mv
  refine onS_of av ⟨t, rfl, ⟨_, SqT.of et⟩, fun D hD => ?_⟩
  have I1 := I0.mono (Same.tk S1)
  have e1 := S1 _ _ e0
  refine lc_gen (ns.map fun n : Nat => V.int (n : Int)).length (by rw [List.length_map]; omega) (fun xs H => ∃ ks : List Kd, Ims H xs (ks.map Kd.d) ∧ ∀ k ∈ ks, k ∈ lsK) (fun xs H H' ⟨ks, h1, h2⟩ k => ⟨ks, h1.mono k, h2⟩) hD rfl (fun k H S hk => go_tup et S hk) (fun H S => st_tup et S) ⟨[], .nil, fun k hk => by simp at hk⟩ ?_ ?_
  · rintro k H2 v H3 xs Z S2 hk ⟨rfl, hv⟩ ⟨ks, h1, h2⟩ hl z
    have hv2 := hv _ (SqT.of (S2 _ _ et))
    rw [List.getElem?_map] at hv2
    cases e : ns[k]? with
    | none => rw [e] at hv2; cases hv2
    | some m =>
      rw [e] at hv2
      cases hv2
      have hm := hn m (List.mem_of_getElem? e)
      obtain ⟨x, hx⟩ : ∃ x, xs0[m]? = some x := ⟨_, List.getElem?_eq_getElem (by omega)⟩
      obtain ⟨d, hd, im⟩ := KK.Internal.Ims.atK (I1.mono (Same.tk S2)) hx
      rw [List.getElem?_map] at hd
      cases ek : lsK[m]? with
      | none => rw [ek] at hd; cases hd
      | some kk =>
        rw [ek] at hd
        cases hd
        refine ⟨_, S2 _ _ e1, onS_of (atI_nat hx) (z _ _ (Same.refl _) ⟨ks ++ [kk], ?_, fun y hy => ?_⟩)⟩
        · rw [List.map_append]
          exact h1.app (.cons im .nil)
        · rcases List.mem_append.mp hy with hy | hy
          · exact h2 y hy
          · rw [List.mem_singleton.mp hy]
            exact List.mem_of_getElem? ek
  · rintro H2 xs S2 ⟨ks, h1, h2⟩ hl eD
    rw [List.length_map] at hl
    have lk := h1.length
    rw [List.length_map] at lk
    refine ⟨(by show 2 ≤ sizeLine; decide), fun p hp2 => ?_⟩
    have s3 := same_new hp2 (.lst [.int 1, .int 1])
    refine ⟨D, p, xs, _, rfl, rfl, s3 _ _ eD, upd_same, (by show xs.length + 2 ≤ sizeLine; omega), fun f hf => ?_⟩
    have s4 := same_new hf (.lst (xs ++ [.int 1, .int 1]))
    refine q f _ (((S0.trans S1).trans S2).trans (s3.trans s4)) (((S0.trans S1).trans (S2.trans s3)).free hf) ⟨xs, ks, 1, 1, upd_same, h1.mono (Same.tk (s3.trans s4)), by omega, fun k hk => ?_, by decide, by decide⟩
    obtain ⟨o, z⟩ := lsK_ok k (h2 k hk)
    exact ⟨o, by rw [z]; decide⟩
noncomputable def Stk (H : Hp) (st : Addr) (N : List Addr) (n : Nat) : Prop := ∃ xs, H st = some (.lst xs) ∧ xs.length ≤ n ∧ ∀ v ∈ xs, ∃ t, v = .ref t ∧ t ∉ N ∧ TrA H t 20
theorem Stk.same {H H' : Hp} {st : Addr} {N : List Addr} {n : Nat} (h : Stk H st N n) (s : Same H H') : Stk H' st N n := by
  obtain ⟨xs, e, l, f⟩ := h
  exact ⟨xs, s _ _ e, l, fun v hv => let ⟨t, h1, h2, h3⟩ := f v hv; ⟨t, h1, h2, h3.same s⟩⟩
theorem Stk.more {H : Hp} {st a : Addr} {N : List Addr} {n : Nat} (h : Stk H st N n) (ha : H a = none) : Stk H st (a :: N) n := by
  obtain ⟨xs, e, l, f⟩ := h
  refine ⟨xs, e, l, fun v hv => ?_⟩
  obtain ⟨t, h1, h2, h3⟩ := f v hv
  obtain ⟨o, eo⟩ := h3.ex
  exact ⟨t, h1, fun z => (List.mem_cons.mp z).elim (ne_of_none eo ha) h2, h3⟩
theorem Stk.less {H : Hp} {st : Addr} {N M : List Addr} {n : Nat} (h : Stk H st N n) (s : ∀ a ∈ M, a ∈ N) : Stk H st M n := by
  obtain ⟨xs, e, l, f⟩ := h
  exact ⟨xs, e, l, fun v hv => let ⟨t, h1, h2, h3⟩ := f v hv; ⟨t, h1, fun z => h2 (s t z), h3⟩⟩
theorem Stk.put {H : Hp} {st a : Addr} {N : List Addr} {n : Nat} {xs ys : List V} (h : Stk H st N n) (ha : a ∈ N) (e : H a = some (.lst xs)) (ns : st ≠ a) : Stk (upd H a (.lst ys)) st N n := by
  obtain ⟨zs, e2, l, f⟩ := h
  exact ⟨zs, by rw [upd_ne ns]; exact e2, l, fun v hv => let ⟨t, h1, h2, h3⟩ := f v hv; ⟨t, h1, h2, h3.fk h2 (Fk.upd ha e)⟩⟩
noncomputable def sp_pop : Sp := fun vs H Q _ => ∃ (st : Addr) (N : List Addr) (n : Nat), vs = [.ref st] ∧ Stk H st N n ∧ st ∈ N ∧ (∀ a ∈ N, ∃ o, H a = some o) ∧ ∀ t H', Fk [st] H H' → Stk H' st N n → t ∉ N → TrA H' t 20 → Q (.ref t) H'
theorem ok__law_pop (T : Txt K mg) : FnOk P w K mg base CX0 2 T.a__law_pop T.fd__law_pop ["_law_stack"] sp_pop := by
  have G__law_leaf := ok__law_leaf (P := P) (w := w) (base := base) T
  refine T.F__law_pop.ok sc__law_pop (fun vs H Q E h => ?_) (fun cdv A outer s H vs Q E hr h => ?_)
  · obtain ⟨st, N, n, rfl, _⟩ := h
    rfl
  obtain ⟨st, N, n, rfl, hs, hm, hN, q⟩ := h
  refine ⟨_, (pss_cons (ps_if (ptc_cmpR oc_eq (pe_callB call_len_seq rfl T.z_len bt_len (pa_cons (cv 0) pa_nil)) pe_int (nomark _))
      (pss_one (ps_ret (pe_call G__law_leaf (hr.mono (by decide)) rfl T.m__law_leaf T.k__law_leaf T.b__law_leaf .nil pass0 (pa_cons pe_int pa_nil))))
      pss_nil)
    (pss_one (ps_ret (pe_bm0 PySem.F.plainAttrs_list PySem.F.slot_list_pop PySem.F.type_list_pop mt_pop (cv 0))))), ?_⟩
  obtain ⟨xs, e, l, f⟩ := id hs
  refine ⟨st, _, rfl, .inl (SqL.of e), ?_⟩
  dsimp only [tC, cEq, onB]
  by_cases h0 : xs.length = 0
  · rw [show (false ^^ decide (((xs.length : Nat) : Int) = 0)) = true from by rw [decide_eq_true (by omega)]; rfl]
    refine iteT ⟨0, rfl, fun t H' S ht tr => ?_⟩
    refine q t H' (Fk.same S) (hs.same S) (fun hN' => ?_) ?_
    · obtain ⟨o, eo⟩ := hN t hN'
      rw [ht] at eo
      cases eo
    · obtain ⟨a, b, c, d, h1, h2, h3, h4, h5, h6⟩ := tr
      exact ⟨a, b, c, d, h1, h2, h3, h4, h5, by omega⟩
  · rw [show (false ^^ decide (((xs.length : Nat) : Int) = 0)) = false from by rw [decide_eq_false (by omega)]; rfl]
    obtain ⟨v, hv⟩ : ∃ v, xs[xs.length - 1]? = some v := ⟨_, List.getElem?_eq_getElem (by omega)⟩
    refine iteF ⟨.inl ⟨rfl, _, SqL.of e⟩, st, xs, v, rfl, rfl, e, hv, ?_⟩
    obtain ⟨t, rfl, nt, tr⟩ := f v (List.mem_of_getElem? hv)
    have k := Fk.upd (N := [st]) (ys := xs.dropLast) (List.mem_singleton.mpr rfl) e
    have out : ∀ {t : Addr}, t ∉ N → t ∉ [st] := fun h z => h (by rw [List.mem_singleton.mp z]; exact hm)
    refine q t _ k ⟨xs.dropLast, upd_same, by rw [List.length_dropLast]; omega, fun v hv => ?_⟩ nt (tr.fk (out nt) k)
    obtain ⟨t', h1, h2, h3⟩ := f v (List.dropLast_subset _ hv)
    exact ⟨t', h1, h2, h3.fk (out h2) k⟩
end
end K51.Internal
namespace K51.Internal
open PySem L2.Internal BO.Internal KK.Internal
seal L2.Internal.PE L2.Internal.PA L2.Internal.PS L2.Internal.PSs L2.Internal.PT L2.Internal.PI
theorem for_enum {K : PySem.W.Frag} {a : Addr} {xs : List V} {g : TG} {tb : TS} {D : Ends} {σ : St} {H : Hp} (Pv : Nat → St → Hp → Prop) (h0 : Pv 0 σ H) (hl : ∀ i σ H, i ≤ xs.length → Pv i σ H → SqL K H a xs)
    (hs : ∀ (i : Nat) (x : V) (σ : St) (H : Hp) (T : Addr), xs[i]? = some x → Pv i σ H → H T = none → g (.ref T) σ (upd H T (.tup [.int (i : Int), x])) fun σ2 H2 => tb { D with nx := Pv (i + 1), ct := Pv (i + 1), bk := D.nx } σ2 H2) (hd : ∀ σ H, Pv xs.length σ H → D.nx σ H) :
    ∃ W : Nat → Nat → St → Hp → Prop, (∃ m, W 0 m σ H) ∧ ∀ i m σ H, W i m σ H →
      ((Ite K a).stop i H ∧ D.nx σ H) ∨ ((Ite K a).go i H ∧ ∃ N : St → Hp → Prop, (∀ σ' H', N σ' H' → ∃ m', m' < m ∧ W (i + 1) m' σ' H') ∧ ∀ x H', (Ite K a).yld i H x H' → g x σ H' fun σ2 H2 => tb { D with nx := N, ct := N, bk := D.nx } σ2 H2) := by
  refine ⟨fun i m σ H => m = xs.length - i ∧ i ≤ xs.length ∧ Pv i σ H, ⟨xs.length, by simp, Nat.zero_le _, h0⟩, ?_⟩
  rintro i m σ H ⟨rfl, hi, p⟩
  have q := hl i σ H hi p
  by_cases hlt : i < xs.length
  · refine .inr ⟨⟨xs, xs[i], q, by simp [hlt]⟩, Pv (i + 1), fun σ' H' p' => ⟨xs.length - (i + 1), by omega, rfl, hlt, p'⟩, fun v H' y => ?_⟩
    obtain ⟨T, x, rfl, hT, rfl, hx⟩ := y
    exact hs i x σ H T (hx xs q) p hT
  · have e : i = xs.length := by omega
    subst e
    exact .inl ⟨⟨xs, q, rfl⟩, hd σ H p⟩
theorem Wd.same {H H' : Hp} {l : Addr} (h : Wd H l) (S : Same H H') : Wd H' l := by
  obtain ⟨ws, e, n⟩ := h
  exact ⟨ws, S l _ e, n⟩
noncomputable def wat (ws : List Str) (i : Int) : Str := ws.getD (i % 16).toNat ""
theorem wat_at {ws : List Str} (n : ws.length = 16) (i : Int) : atI (ws.map V.str) (i % 16) = some (.str (wat ws i)) := by
  have h0 := Int.emod_nonneg i (show (16 : Int) ≠ 0 by decide)
  have h1 := Int.emod_lt_of_pos i (show (0 : Int) < 16 by decide)
  obtain ⟨r, er⟩ : ∃ r : Nat, i % 16 = (r : Int) := ⟨_, (Int.toNat_of_nonneg h0).symm⟩
  rw [wat, er, Int.toNat_natCast]
  refine atI_nat (j := r) ?_
  have hr : r < ws.length := by omega
  rw [List.getElem?_map, List.getD_eq_getElem?_getD, List.getElem?_eq_getElem hr]
  rfl
theorem wat_ne {ws : List Str} (n : ws.length = 16) (nd : ws.Nodup) {i j : Int} (h : i % 16 ≠ j % 16) : wat ws i ≠ wat ws j := by
  have h0 := Int.emod_nonneg i (show (16 : Int) ≠ 0 by decide)
  have h1 := Int.emod_lt_of_pos i (show (0 : Int) < 16 by decide)
  have g0 := Int.emod_nonneg j (show (16 : Int) ≠ 0 by decide)
  have g1 := Int.emod_lt_of_pos j (show (0 : Int) < 16 by decide)
  have hi : (i % 16).toNat < ws.length := by omega
  have hj : (j % 16).toNat < ws.length := by omega
  rw [wat, wat, List.getD_eq_getElem?_getD, List.getD_eq_getElem?_getD, List.getElem?_eq_getElem hi, List.getElem?_eq_getElem hj]
  have key := List.pairwise_iff_getElem.mp nd
  rcases Nat.lt_or_gt_of_ne (show (i % 16).toNat ≠ (j % 16).toNat by omega) with z | z
  · exact key _ _ hi hj z
  · exact (key _ _ hj hi z).symm
noncomputable def kys (ws : List Str) (a b : Int) (n : Nat) : List Str := (List.range n).map fun (k : Nat) => wat ws (a + b * (0 + (k : Int)))
theorem kys_nodup {ws : List Str} (n : ws.length = 16) (nd : ws.Nodup) {a b : Int} (hb : b = 1 ∨ b = 3 ∨ b = 5) {m : Nat} (hm : m ≤ 7) : (kys ws a b m).Nodup := by
  rw [kys, List.Nodup, List.pairwise_map]
  refine List.Pairwise.imp_of_mem (fun {x y} hx hy hlt => wat_ne n nd ?_) List.pairwise_lt_range
  have h1 := List.mem_range.mp hx
  have h2 := List.mem_range.mp hy
  rcases hb with z | z | z <;> subst z <;> omega
theorem kys_snoc (ws : List Str) (a b : Int) (n : Nat) : kys ws a b (n + 1) = kys ws a b n ++ [wat ws (a + b * (0 + (n : Int)))] := by
  rw [kys, kys, List.range_succ, List.map_append]
  rfl

noncomputable def TrJ (H : Hp) (t : Addr) (j : Int) : Prop := ∃ (xs : List V) (ks : List Kd) (i : Int), H t = some (.lst (xs ++ [.int i, .int j])) ∧ Ims H xs (ks.map Kd.d) ∧ ks.length = 3 ∧ (∀ k ∈ ks, k.ok ∧ (k.sz : Int) ≤ j) ∧ 1 ≤ j
theorem TrA.j {H : Hp} {t : Addr} {B : Int} (h : TrA H t B) : ∃ j, TrJ H t j ∧ 1 ≤ j ∧ j ≤ B := by
  obtain ⟨xs, ks, i, j, h1, h2, h3, h4, h5, h6⟩ := h
  exact ⟨j, ⟨xs, ks, i, h1, h2, h3, h4, h5⟩, h5, h6⟩
theorem TrJ.a {H : Hp} {t : Addr} {j : Int} (h : TrJ H t j) : TrA H t j := by
  obtain ⟨xs, ks, i, h1, h2, h3, h4, h5⟩ := h
  exact ⟨xs, ks, i, j, h1, h2, h3, h4, h5, Int.le_refl _⟩
theorem TrJ.fk {N : List Addr} {H H' : Hp} {t : Addr} {j : Int} (h : TrJ H t j) (n : t ∉ N) (k : Fk N H H') : TrJ H' t j := by
  obtain ⟨xs, ks, i, e, h1, h2⟩ := h
  exact ⟨xs, ks, i, k.1 _ _ e n, h1.mono k.2, h2⟩
theorem TrJ.at {H : Hp} {t : Addr} {j : Int} (h : TrJ H t j) : ∃ (l : List V) (i : Int), H t = some (.lst l) ∧ atI l 3 = some (.int i) ∧ atI l 4 = some (.int j) ∧ ∀ n : Nat, n < 3 → ∃ (v : V) (k : Kd), atI l (n : Int) = some v ∧ Im H v k.d ∧ k.ok ∧ (k.sz : Int) ≤ j := by
  obtain ⟨xs, ks, i, e, h1, h2, h3, h4⟩ := h
  have lx := h1.length
  rw [List.length_map, h2] at lx
  refine ⟨_, i, e, ?_, ?_, fun n hn => ?_⟩
  · exact atI_nat (j := 3) (by rw [List.getElem?_append_right (by omega), lx]; rfl)
  · exact atI_nat (j := 4) (by rw [List.getElem?_append_right (by omega), lx]; rfl)
  · obtain ⟨v, hv⟩ : ∃ v, xs[n]? = some v := ⟨_, List.getElem?_eq_getElem (by omega)⟩
    obtain ⟨d, hd, im⟩ := KK.Internal.Ims.atK h1 hv
    rw [List.getElem?_map] at hd
    cases ek : ks[n]? with
    | none => rw [ek] at hd; cases hd
    | some k =>
      rw [ek] at hd
      cases hd
      have := h3 k (List.mem_of_getElem? ek)
      exact ⟨v, k, atI_nat (by rw [List.getElem?_append_left (by omega)]; exact hv), im, this.1, this.2⟩
noncomputable def Rowf (H : Hp) (r : Addr) (ss : List Str) (S : Int) : Prop := ∃ (ys : List V) (l : List (Str × Kd)), H r = some (.lst ys) ∧ Ims H ys (l.map fD) ∧ (l.map Prod.fst).Sublist ss ∧ (∀ p ∈ l, p.2.ok) ∧ (szL l : Int) ≤ S
theorem Rowf.more {H : Hp} {r : Addr} {ss ss' : List Str} {S S' : Int} (h : Rowf H r ss S) (h1 : ss.Sublist ss') (h2 : S ≤ S') : Rowf H r ss' S' := by
  obtain ⟨ys, l, a, b, c, d, e⟩ := h
  exact ⟨ys, l, a, b, c.trans h1, d, Int.le_trans e h2⟩
theorem Rowf.same {H H' : Hp} {r : Addr} {ss : List Str} {S : Int} (h : Rowf H r ss S) (s : Same H H') : Rowf H' r ss S := by
  obtain ⟨ys, l, a, b, c⟩ := h
  exact ⟨ys, l, s _ _ a, b.mono (Same.tk s), c⟩
theorem Rowf.other {H : Hp} {r a : Addr} {ss : List Str} {S : Int} {xs zs : List V} (h : Rowf H r ss S) (e : H a = some (.lst xs)) (n : r ≠ a) : Rowf (upd H a (.lst zs)) r ss S := by
  obtain ⟨ys, l, h1, h2, h3⟩ := h
  exact ⟨ys, l, by rw [upd_ne n]; exact h1, h2.mono (fk_lst e).tk, h3⟩
theorem szL_app : ∀ l m : List (Str × Kd), szL (l ++ m) = szL l + szL m
  | [], m => by rw [List.nil_append, szL]; omega
  | p :: t, m => by rw [List.cons_append, szL, szL, szL_app t m]; omega
theorem Rowf.add {H : Hp} {r : Addr} {ss : List Str} {S J : Int} {ys : List V} {v : V} {x : Str} {k : Kd} (h : Rowf H r ss S) (e : H r = some (.lst ys)) (iv : Im H v (fD (x, k))) (ok : k.ok) (hJ : (k.sz : Int) ≤ J) : Rowf (upd H r (.lst (ys ++ [v]))) r (ss ++ [x]) (S + J) := by
  obtain ⟨ys', l, h1, h2, h3, h4, h5⟩ := h
  rw [e] at h1
  cases h1
  have tk := (fk_lst (o := .lst (ys ++ [v])) e).tk
  refine ⟨_, l ++ [(x, k)], upd_same, ?_, ?_, ?_, ?_⟩
  · rw [List.map_append]
    exact (h2.mono tk).app (.cons (iv.mono tk) .nil)
  · rw [List.map_append]
    exact h3.append (List.Sublist.refl _)
  · intro p hp
    rcases List.mem_append.mp hp with hp | hp
    · exact h4 p hp
    · rw [List.mem_singleton.mp hp]; exact ok
  · rw [szL_app]
    simp only [szL]
    omega
theorem sum_take {js : List Int} {i : Nat} {j : Int} (h : js[i]? = some j) : (js.take (i + 1)).sum = (js.take i).sum + j := by
  rw [List.take_add_one, h, List.sum_append]
  simp
theorem ss_take {ss : List Str} {i : Nat} {x : Str} (h : ss[i]? = some x) : ss.take (i + 1) = ss.take i ++ [x] := by
  rw [List.take_add_one, h]
  rfl
theorem sum_bound : ∀ l : List Int, (∀ n ∈ l, 1 ≤ n ∧ n ≤ 20) → 0 ≤ l.sum ∧ l.sum ≤ 20 * (l.length : Int)
  | [], _ => by simp
  | x :: l, h => by
    have h1 := h x (by simp)
    have h2 := sum_bound l fun n hn => h n (by simp [hn])
    rw [List.sum_cons, List.length_cons]
    omega
theorem Stk.fk {H H' : Hp} {st : Addr} {N M : List Addr} {n : Nat} (h : Stk H st N n) (k : Fk M H H') (hM : ∀ a ∈ M, a ∈ N) (hs : st ∉ M) : Stk H' st N n := by
  obtain ⟨xs, e, l, f⟩ := h
  exact ⟨xs, k.1 _ _ e hs, l, fun v hv => let ⟨t, h1, h2, h3⟩ := f v hv; ⟨t, h1, h2, h3.fk (fun z => h2 (hM t z)) k⟩⟩
theorem _root_.BO.Internal.All2.trj {M : List Addr} {H H' : Hp} {l : List Addr} {m : List Int} (h : All2 (TrJ H) l m) (hl : ∀ t ∈ l, t ∉ M) (k : Fk M H H') : All2 (TrJ H') l m := by
  induction h with
  | nil => exact .nil
  | cons h1 _ ih => exact .cons (h1.fk (hl _ (by simp)) k) (ih fun t ht => hl t (by simp [ht]))
theorem take_le {js : List Int} (h : ∀ j ∈ js, 1 ≤ j ∧ j ≤ 20) (i : Nat) : (js.take i).sum ≤ (js.take (i + 1)).sum := by
  rw [List.take_add_one, List.sum_append]
  cases e : js[i]? with
  | none => simp
  | some j =>
    have := h j (List.mem_of_getElem? e)
    simp
    omega
section
variable {P : Program} {w : World} {K : PySem.W.Frag} {mg : Str → Option Value} {base : Heap}
noncomputable def sp_fields : Sp := fun vs H Q _ => ∃ (wl st : Addr) (N : List Addr) (n : Nat) (sh : Str) (c : Int), vs = [.ref wl, .ref st, .str sh, .int c] ∧ Wd H wl ∧ wl ≠ st ∧ Stk H st N n ∧ st ∈ N ∧ (∀ a ∈ N, ∃ o, H a = some o) ∧ (sh = "rec" ∨ sh = "choice") ∧ ∀ t H', Fk [st] H H' → Stk H' st N n → t ∉ N → TrA H' t 200 → Q (.ref t) H'
theorem ok__law_fields (T : Txt K mg) : FnOk P w K mg base CX0 3 T.a__law_fields T.fd__law_fields ["_law_words_here", "_law_stack", "_law_shape", "_law_c"] sp_fields := by
  have G__law_pop := ok__law_pop (P := P) (w := w) (base := base) T
  have G__law_mix := ok__law_mix (P := P) (w := w) (base := base) T
  refine T.F__law_fields.ok sc__law_fields (fun vs H Q E h => ?_) (fun cdv A outer s H vs Q E hr h => ?_)
  · obtain ⟨wl, st, N, n, sh, c, rfl, _⟩ := h
    rfl
  obtain ⟨wl, st, N, n, sh, c, rfl, hw, nws, hs, hm, hN, hsh, q⟩ := h
  refine ⟨_, (pss_cons (ps_set (i := 4) sc__law_fields.nd rfl (Or.inl rfl) (pe_callB call_sortedS rfl T.z_sorted bt_sorted (pa_cons (pe_lc rfl (blkC (x := "_law_k") ["_law_words_here", "_law_c"] [("_law_words_here", 0, s.heap.objs.size + 1), ("_law_c", 3, s.heap.objs.size + 4)] rfl rfl (by decide +kernel) (by decide +kernel) rfl (by decide +kernel) rfl rfl (by intro p hp; simp only [List.mem_cons, List.not_mem_nil, or_false] at hp; rcases hp with rfl | rfl <;> exact ⟨rfl, rfl, rfl, rfl⟩)) (pi_range1 rfl T.z_range (pa_cons (pe_op oc_mod (cv 3) pe_int) pa_nil)) (fun _ _ _ _ _ => pts_nil) (fun _ _ _ _ _ => (pe_ix xc_list (cv 1) (pe_op oc_mod (pe_op oc_add (pe_op oc_fdiv (cv 2) pe_int) (pe_op oc_mul pe_int (cv 0))) pe_int) (fun _ _ => rfl)))) pa_nil)))
    (pss_cons (ps_setLC (j := 5) rfl (blkC (x := "_law_word") ["_law_stack"] [("_law_stack", 1, s.heap.objs.size + 2)] rfl rfl (by decide +kernel) (by decide +kernel) rfl (by decide +kernel) rfl rfl (by intro p hp; simp only [List.mem_cons, List.not_mem_nil, or_false] at hp; rcases hp with rfl <;> exact ⟨rfl, rfl, rfl, rfl⟩)) (pi_list (cv 4)) (fun _ _ _ _ _ => pts_nil) (fun _ _ _ _ _ => (pe_call G__law_pop (hr.mono (by decide)) rfl T.m__law_pop T.k__law_pop T.b__law_pop .nil pass0 (pa_cons (cv 1) pa_nil))) sc__law_fields.nd rfl (Or.inl rfl))
    (pss_cons (ps_set (i := 6) sc__law_fields.nd rfl (Or.inl rfl) (pe_lst (pa_cons (pe_lst pa_nil) (pa_cons (pe_lst pa_nil) (pa_cons (pe_lst pa_nil) pa_nil)))))
    (pss_cons (ps_for PassesOwn.never rfl (pi_enum rfl T.z_enumerate (pa_cons (cv 4) pa_nil)) (pg_tup rfl (pgs_cons (pg_name (i := 7) sc__law_fields.nd rfl (Or.inl rfl)) (pgs_cons (pg_name (i := 8) sc__law_fields.nd rfl (Or.inl rfl)) pgs_nil)))
      (pss_cons (ps_set (i := 9) sc__law_fields.nd rfl (Or.inl rfl) (pe_op oc_mod (pe_call G__law_mix (hr.mono (by decide)) rfl T.m__law_mix T.k__law_mix T.b__law_mix .nil pass0 (pa_cons (cv 3) (pa_cons (cv 7) pa_nil))) pe_int))
      (pss_one (ps_for PassesOwn.never rfl (pi_range1 rfl T.z_range (pa_cons pe_int pa_nil)) (pg_name (i := 10) sc__law_fields.nd rfl (Or.inl rfl))
        (pss_cons (ps_set (i := 11) sc__law_fields.nd rfl (Or.inl rfl) (pe_ifExp (ptc_cmpR oc_eq (cv 2) pe_str (nomark _)) (cv 10) (pe_op oc_sub pe_int (cv 10))))
        (pss_one (ps_if (PW.pt (pw_or (ptc_cmpR oc_eq (pe_op oc_mod (cv 9) pe_int) pe_int (nomark _)) (pw_or1 (ptc_cmpR oc_lt (cv 11) (pe_op oc_sub pe_int (cv 9)) (nomark _)))))
          (pss_one (ps_expr (pec_app (pe_bm PySem.F.plainAttrs_list PySem.F.slot_list_append PySem.F.type_list_append mt_append (PE.mono (pe_ix xc_list (cv 6) (cv 10) (fun _ _ => rfl))) (pa_cons (PE.mono (pe_tup (pa_cons (cv 8) (pa_cons (pe_ix xc_list (pe_ix xc_list (cv 5) (cv 7) (fun _ _ => rfl)) (cv 10) (fun _ _ => rfl)) pa_nil)))) pa_nil)))))
          pss_nil)))))))
    (pss_cons (ps_set (i := 12) sc__law_fields.nd rfl (Or.inl rfl) (pe_op oc_add pe_int (pe_maxD rfl rfl T.z_max (pa_cons (pe_lc rfl (blk0 (x := "_law_part") rfl (by decide +kernel) (by decide +kernel) rfl rfl) (pi_list (cv 5)) (fun _ _ _ _ _ => pts_nil) (fun _ _ _ _ _ => (pe_ix xc_list (cv 0) pe_int (fun _ _ => rfl)))) pa_nil) pe_int)))
    (pss_one (ps_ret (pe_op op_cat (pe_lc rfl (blkC (x := "_law_row") ["_law_shape"] [("_law_shape", 2, s.heap.objs.size + 3)] rfl rfl (by decide +kernel) (by decide +kernel) rfl (by decide +kernel) rfl rfl (by intro p hp; simp only [List.mem_cons, List.not_mem_nil, or_false] at hp; rcases hp with rfl <;> exact ⟨rfl, rfl, rfl, rfl⟩)) (pi_list (cv 6)) (fun _ _ _ _ _ => pts_nil) (fun _ _ _ _ _ => (pe_tup (pa_cons (cv 1) (pa_cons (pe_callTy (r := rTupOf K) call_tuple_of rfl T.z_tuple bt_tuple (pa_cons (cv 0) pa_nil)) pa_nil))))) (pe_lst (pa_cons (cv 12) (pa_cons (pe_op oc_add pe_int (pe_callB (call_sumX rfl) rfl T.z_sum bt_sum (pa_cons (pe_lc rfl (blk0 (x := "_law_part") rfl (by decide +kernel) (by decide +kernel) rfl rfl) (pi_list (cv 5)) (fun _ _ _ _ _ => pts_nil) (fun _ _ _ _ _ => (pe_ix xc_list (cv 0) pe_int (fun _ _ => rfl)))) pa_nil))) pa_nil))))))))))), ?_⟩
  have sl : sizeLine = 16777216 := sizeLine_eq
  obtain ⟨ws, ew, wn, wd, _⟩ := id hw
  -- the words
  refine ⟨(by show (0 : Int) < 7; decide), ?_⟩
  have r0 := Int.emod_nonneg c (show (7 : Int) ≠ 0 by decide)
  have r1 := Int.emod_lt_of_pos c (show (0 : Int) < 7 by decide)
  refine ⟨_, rfl, by omega, by omega, fun D0 hD0 => ?_⟩
  obtain ⟨r, er⟩ : ∃ r : Nat, c % 7 = (r : Int) := ⟨_, (Int.toNat_of_nonneg r0).symm⟩
  rw [er] at r1 ⊢
  rw [Int.toNat_natCast]
  refine lc_gen r (by omega) (fun xs _ => xs = (kys ws (c / 7) 3 xs.length).map V.str) (fun xs _ _ h _ => h) hD0 rfl (fun k H _ hk => hk) (fun H _ => Nat.le_refl _) rfl ?_ ?_
  · rintro k H2 v H3 xs Z S2 hk ⟨rfl, rfl⟩ hxs hl z
    refine ⟨⟨by decide, by decide⟩, .inl ⟨by decide, by decide⟩, (by show (0 : Int) < 16; decide), _, S2 _ _ ew, onS_of (wat_at wn _) (z _ _ (Same.refl _) ?_)⟩
    rw [List.length_append, List.length_singleton, kys_snoc, List.map_append, ← hxs, hl]
    rfl
  rintro H0 xs S0 hxs hl eD0
  have hkn : (kys ws (c / 7) 3 xs.length).Nodup := kys_nodup wn wd (.inr (.inl rfl)) (by omega)
  have hkl : (kys ws (c / 7) 3 xs.length).length = xs.length := by rw [kys, List.length_map, List.length_range]
  refine ⟨D0, kys ws (c / 7) 3 xs.length, rfl, SqL.of (by rw [← hxs]; exact eD0), by omega, fun cl ss hcl hperm hsrt => ?_⟩
  have hnd : ss.Nodup := hperm.nodup_iff.mpr hkn
  have hso : ss.Pairwise ltS := sorted_strict hsrt hnd
  have hsl : ss.length = r := by rw [hperm.length_eq, hkl, hl]
  have S1 := S0.trans (same_new hcl (.lst (ss.map V.str)))
  have ecl : (upd H0 cl (.lst (ss.map V.str))) cl = some (.lst (ss.map V.str)) := upd_same
  dsimp only [gName]
  generalize upd H0 cl (.lst (ss.map V.str)) = H1 at S1 ecl ⊢
  clear hxs hkn hkl hperm eD0
  have hs1 := hs.same S1
  obtain ⟨sx, esx, _⟩ := id hs1
  have ncs : cl ≠ st := fun z => by
    obtain ⟨o, eo⟩ := hN st hm
    have := S0 _ _ eo
    rw [← z, hcl] at this
    cases this
  -- the parts
  refine ⟨cl, rfl, ⟨_, SqL.of ecl⟩, fun D hD => ?_⟩
  have nDs : D ≠ st := Ne.symm (ne_of_none esx hD)
  have hN1 : ∀ a ∈ N, ∃ o, H1 a = some o := fun a ha => let ⟨o, e⟩ := hN a ha; ⟨o, S1 _ _ e⟩
  have base1 : Stk (upd H1 D (.lst [])) st (D :: N) n := (hs1.more hD).same (same_new hD _)
  refine ⟨fun k m σ' H2 => m = r - k ∧ k ≤ r ∧ (∃ o, σ' = [o, some (.ref st)]) ∧ Fk [st] H1 H2 ∧ Stk H2 st (D :: N) n ∧ (∀ a ∈ D :: N, ∃ o, H2 a = some o) ∧ ∃ (ts : List Addr) (js : List Int), H2 D = some (.lst (ts.map V.ref)) ∧ ts.length = k ∧ All2 (TrJ H2) ts js ∧ (∀ t ∈ ts, t ∉ D :: N) ∧ ∀ j ∈ js, 1 ≤ j ∧ j ≤ 20,
    ⟨r, by simp, Nat.zero_le _, ⟨none, rfl⟩, Fk.same (same_new hD _), base1, fun a ha => by
      rcases List.mem_cons.mp ha with rfl | ha
      · exact ⟨_, upd_same⟩
      · obtain ⟨o, e⟩ := hN1 a ha
        exact ⟨o, same_new hD _ _ _ e⟩, [], [], upd_same, rfl, .nil, fun t ht => by simp at ht, fun j hj => by simp at hj⟩, ?_⟩
  rintro k m σ' H2 ⟨rfl, hk, ⟨o, rfl⟩, F2, st2, ex2, ts, js, eD2, lts, tr2, nts, bjs⟩
  by_cases hlt : k < r
  · refine .inr ⟨⟨ss.map V.str, _, SqL.of (F2.1 _ _ ecl (by simpa using ncs)), List.getElem?_eq_getElem (by rw [List.length_map]; omega)⟩, ?_⟩
    rintro v H3 ⟨rfl, hv⟩
    refine ⟨st, D :: N, n, rfl, st2, List.mem_cons_of_mem _ hm, ex2, fun t H4 F4 st4 nt tr => ?_⟩
    have e4 := F4.1 _ _ eD2 (by simpa using nDs)
    have out : ∀ {t : Addr}, t ∉ D :: N → t ∉ [st] := fun h z => h (List.mem_cons_of_mem _ (by rw [List.mem_singleton.mp z]; exact hm))
    have outD : ∀ {t : Addr}, t ∉ D :: N → t ∉ [D] := fun h z => h (by rw [List.mem_singleton.mp z]; exact List.mem_cons_self)
    obtain ⟨j, hj, bj1, bj2⟩ := tr.j
    have uD := Fk.upd (N := [D]) (ys := ts.map V.ref ++ [.ref t]) (List.mem_singleton.mpr rfl) e4
    refine ⟨_, e4, by rw [List.length_map]; omega, r - (k + 1), by omega, rfl, hlt, ⟨_, rfl⟩, ?_, st4.put List.mem_cons_self e4 (Ne.symm nDs), fun a ha => ?_, ts ++ [t], js ++ [j], ?_, ?_, ?_, ?_, ?_⟩
    · have F14 := F2.trans F4
      refine ⟨fun a o e na => ?_, fun a xs e => uD.2 _ _ (F14.2 _ _ e)⟩
      rw [upd_ne (ne_of_none e hD)]
      exact F14.1 a o e na
    · by_cases ea : a = D
      · rw [ea]; exact ⟨_, upd_same⟩
      · rw [upd_ne ea]
        by_cases eb : a = st
        · rw [eb]
          obtain ⟨zs, ez, _⟩ := st4
          exact ⟨_, ez⟩
        · obtain ⟨o, eo⟩ := ex2 a ha
          exact ⟨o, F4.1 _ _ eo (by simpa using eb)⟩
    · rw [upd_same, List.map_append]
      rfl
    · rw [List.length_append, lts]; rfl
    · refine .snoc (hj.fk (outD nt) uD) ?_
      have go : ∀ {l : List Addr} {m : List Int}, (∀ t ∈ l, t ∉ D :: N) → All2 (TrJ H3) l m → All2 (TrJ (upd H4 D (.lst (ts.map V.ref ++ [.ref t])))) l m := fun {l m} hl h => by
        induction h with
        | nil => exact .nil
        | cons h1 _ ih => exact .cons ((h1.fk (out (hl _ (by simp))) F4).fk (outD (hl _ (by simp))) uD) (ih fun t ht => hl t (by simp [ht]))
      exact go nts tr2
    · intro x hx
      rcases List.mem_append.mp hx with hx | hx
      · exact nts x hx
      · rw [List.mem_singleton.mp hx]; exact nt
    · intro x hx
      rcases List.mem_append.mp hx with hx | hx
      · exact bjs x hx
      · rw [List.mem_singleton.mp hx]; exact ⟨bj1, bj2⟩
  have ek : k = r := by omega
  subst ek
  refine .inl ⟨⟨ss.map V.str, SqL.of (F2.1 _ _ ecl (by simpa using ncs)), by rw [List.length_map]; omega⟩, ?_⟩
  have ecl2 := F2.1 _ _ ecl (by simpa using ncs)
  have lj := tr2.length
  have z0 : (0 : Nat) ≤ sizeLine := by decide
  dsimp only [gName]
  -- the rows
  refine ⟨z0, fun a0 h0 => ⟨z0, fun a1 h1 => ⟨z0, fun a2 h2 => ⟨(by show 3 ≤ sizeLine; decide), fun rl hrl => ?_⟩⟩⟩⟩
  have n01 : a0 ≠ a1 := ne_of_none (upd_same (H := H2) (a := a0) (o := .lst [])) h1
  have n02 : a0 ≠ a2 := ne_of_none (same_new h1 (.lst []) _ _ (upd_same (H := H2) (a := a0) (o := .lst []))) h2
  have n12 : a1 ≠ a2 := ne_of_none (upd_same (H := upd H2 a0 (.lst [])) (a := a1) (o := .lst [])) h2
  have q1 := same_new h0 (.lst [])
  have q2 := same_new h1 (.lst [])
  have q3 := same_new h2 (.lst [])
  have q4 := same_new hrl (.lst [.ref a0, .ref a1, .ref a2])
  have f1 := q1.free h1
  have f2 := (q1.trans q2).free h2
  have S5 : Same H2 _ := ((q1.trans q2).trans q3).trans q4
  have ea0 : (upd (upd (upd (upd H2 a0 (.lst [])) a1 (.lst [])) a2 (.lst [])) rl (.lst [.ref a0, .ref a1, .ref a2])) a0 = some (.lst []) := ((q2.trans q3).trans q4) _ _ upd_same
  have ea1 : (upd (upd (upd (upd H2 a0 (.lst [])) a1 (.lst [])) a2 (.lst [])) rl (.lst [.ref a0, .ref a1, .ref a2])) a1 = some (.lst []) := (q3.trans q4) _ _ upd_same
  have ea2 : (upd (upd (upd (upd H2 a0 (.lst [])) a1 (.lst [])) a2 (.lst [])) rl (.lst [.ref a0, .ref a1, .ref a2])) a2 = some (.lst []) := q4 _ _ upd_same
  have erl : (upd (upd (upd (upd H2 a0 (.lst [])) a1 (.lst [])) a2 (.lst [])) rl (.lst [.ref a0, .ref a1, .ref a2])) rl = some (.lst [.ref a0, .ref a1, .ref a2]) := upd_same
  have nrl : rl ∉ [a0, a1, a2] := by
    simp only [List.mem_cons, List.not_mem_nil, or_false, not_or]
    exact ⟨Ne.symm (ne_of_none ((q2.trans q3) _ _ (upd_same (H := H2) (a := a0) (o := .lst []))) hrl), Ne.symm (ne_of_none (q3 _ _ (upd_same (H := upd H2 a0 (.lst [])) (a := a1) (o := .lst []))) hrl), Ne.symm (ne_of_none (upd_same (H := upd (upd H2 a0 (.lst [])) a1 (.lst [])) (a := a2) (o := .lst [])) hrl)⟩
  have old : ∀ {a : Addr} {o : HO}, H2 a = some o → a ∉ [a0, a1, a2] := fun {a o} e => by
    simp only [List.mem_cons, List.not_mem_nil, or_false, not_or]
    exact ⟨ne_of_none e h0, ne_of_none e f1, ne_of_none e f2⟩
  dsimp only [gName]
  generalize upd (upd (upd (upd H2 a0 (.lst [])) a1 (.lst [])) a2 (.lst [])) rl (.lst [.ref a0, .ref a1, .ref a2]) = H5 at S5 ea0 ea1 ea2 erl ⊢
  have tr5 : All2 (TrJ H5) ts js := tr2.trj (M := []) (fun t _ => by simp) (Fk.same S5)
  have tsR : ∀ t ∈ ts, t ∉ [a0, a1, a2] := fun t ht => by
    obtain ⟨i', hi'⟩ := List.mem_iff_getElem?.mp ht
    obtain ⟨j, _, hj⟩ := tr2.get hi'
    obtain ⟨o, eo⟩ := hj.a.ex
    exact old eo
  have eD5 := S5 _ _ eD2
  have ecl5 := S5 _ _ ecl2
  have row0 : ∀ (idx : Nat) (a : Addr), [a0, a1, a2][idx]? = some a → Rowf H5 a [] 0 := fun idx a h => by
    have mk : ∀ {a : Addr}, H5 a = some (.lst []) → Rowf H5 a [] 0 := fun e => ⟨[], [], e, .nil, List.Sublist.refl _, fun p hp => by simp at hp, by simp [szL]⟩
    match idx, h with
    | 0, h => cases h; exact mk ea0
    | 1, h => cases h; exact mk ea1
    | 2, h => cases h; exact mk ea2
  have R3 : ∀ {idx : Nat} {a : Addr}, [a0, a1, a2][idx]? = some a → idx < 3 := fun {idx a} h => (List.getElem?_eq_some_iff.mp h).1
  have Rne : ∀ {i' j' : Nat} {a b : Addr}, [a0, a1, a2][i']? = some a → [a0, a1, a2][j']? = some b → i' ≠ j' → a ≠ b := fun {i' j' a b} h1 h2 hne => by
    have := R3 h1
    have := R3 h2
    match i', j', h1, h2 with
    | 0, 1, h1, h2 => cases h1; cases h2; exact n01
    | 0, 2, h1, h2 => cases h1; cases h2; exact n02
    | 1, 0, h1, h2 => cases h1; cases h2; exact Ne.symm n01
    | 1, 2, h1, h2 => cases h1; cases h2; exact n12
    | 2, 0, h1, h2 => cases h1; cases h2; exact Ne.symm n02
    | 2, 1, h1, h2 => cases h1; cases h2; exact Ne.symm n12
    | 0, 0, _, _ => exact absurd rfl hne
    | 1, 1, _, _ => exact absurd rfl hne
    | 2, 2, _, _ => exact absurd rfl hne
  refine ⟨cl, rfl, ⟨_, SqL.of ecl5⟩, for_enum (xs := ss.map V.str) (fun i σ H6 => ∃ (o7 o8 o9 o10 o11 : Option V), σ = [some (.ref wl), some (.ref st), some (.str sh), some (.int c), some (.ref cl), some (.ref D), some (.ref rl), o7, o8, o9, o10, o11, none] ∧ Fk [a0, a1, a2] H5 H6 ∧ ∀ (idx : Nat) (a : Addr), [a0, a1, a2][idx]? = some a → Rowf H6 a (ss.take i) (js.take i).sum)
    ⟨none, none, none, none, none, rfl, Fk.same (Same.refl _), fun idx a h => by rw [List.take_zero, List.take_zero]; exact row0 idx a h⟩ (fun i σ H6 _ ⟨_, _, _, _, _, _, F, _⟩ => SqL.of (F.1 _ _ ecl5 (old ecl2))) ?_ ?_⟩
  · rintro i v σ H6 tt hv ⟨o7, o8, o9, o10, o11, rfl, F6, hrow⟩ htt
    obtain ⟨x, hx, rfl⟩ : ∃ x, ss[i]? = some x ∧ v = .str x := by
      rw [List.getElem?_map] at hv
      cases e : ss[i]? with
      | none => rw [e] at hv; cases hv
      | some x => rw [e] at hv; cases hv; exact ⟨x, rfl, rfl⟩
    have hi := (List.getElem?_eq_some_iff.mp hx).1
    have sT := same_new htt (.tup [.int (i : Int), .str x])
    refine ⟨tt, _, rfl, SqT.of upd_same, rfl, _, _, rfl, _, _, rfl, rfl, ?_⟩
    have F7 := F6.trans (Fk.same sT)
    have hrow7 : ∀ (idx : Nat) (a : Addr), [a0, a1, a2][idx]? = some a → Rowf (upd H6 tt (.tup [.int (i : Int), .str x])) a (ss.take i) (js.take i).sum := fun idx a h => (hrow idx a h).same sT
    generalize upd H6 tt (.tup [.int (i : Int), .str x]) = H7 at F7 hrow7 ⊢
    obtain ⟨t, ht⟩ : ∃ t, ts[i]? = some t := ⟨_, List.getElem?_eq_getElem (by omega)⟩
    obtain ⟨j, hj, trj⟩ := tr5.get ht
    have ntR := tsR t (List.mem_of_getElem? ht)
    refine ⟨c, (i : Int), rfl, by omega, by omega, fun lv0 _ _ => ⟨(by show (0 : Int) < 4; decide), ?_⟩⟩
    dsimp only [gName]
    generalize lv0 % 4 = lv
    refine ⟨3, rfl, by decide, by decide, for_range (fun jj σ H8 => ∃ (o10 o11 : Option V), σ = [some (.ref wl), some (.ref st), some (.str sh), some (.int c), some (.ref cl), some (.ref D), some (.ref rl), some (.int (i : Int)), some (.str x), some (.int lv), o10, o11, none] ∧ Fk [a0, a1, a2] H5 H8 ∧ ∀ (idx : Nat) (a : Addr), [a0, a1, a2][idx]? = some a → Rowf H8 a (if idx < jj then ss.take (i + 1) else ss.take i) (if idx < jj then (js.take (i + 1)).sum else (js.take i).sum))
      ⟨_, _, rfl, F7, fun idx a h => by rw [if_neg (Nat.not_lt_zero _), if_neg (Nat.not_lt_zero _)]; exact hrow7 idx a h⟩ ?_ ?_⟩
    · rintro jj σ H8 hjj ⟨o10, o11, rfl, F8, hrow8⟩
      have hjj3 : jj < 3 := hjj
      obtain ⟨a, ha⟩ : ∃ a, [a0, a1, a2][jj]? = some a := ⟨_, List.getElem?_eq_getElem hjj3⟩
      have harl : atI [V.ref a0, .ref a1, .ref a2] (0 + (jj : Int)) = some (.ref a) := by
        rw [Int.zero_add]
        refine atI_nat ?_
        have := congrArg (Option.map V.ref) ha
        rw [← List.getElem?_map] at this
        exact this
      have erl8 := F8.1 _ _ erl nrl
      have eD8 := F8.1 _ _ eD5 (old eD2)
      obtain ⟨tl, ti, et, _, _, hat⟩ := (trj.fk ntR F8).at
      obtain ⟨pv, pk, hpv, ipv, okp, szp'⟩ := hat jj hjj3
      have hra := hrow8 jj a ha
      rw [if_neg (Nat.lt_irrefl _), if_neg (Nat.lt_irrefl _)] at hra
      obtain ⟨ys, ll, ey, iy, sub, _, _⟩ := id hra
      have lys : ys.length ≤ 6 := by
        have h7 := iy.length
        rw [List.length_map] at h7
        have h8 := sub.length_le
        rw [List.length_map, List.length_take] at h8
        omega
      have nxt0 : Fk [a0, a1, a2] H5 H8 ∧ ∀ (idx : Nat) (a : Addr), [a0, a1, a2][idx]? = some a → Rowf H8 a (if idx < jj + 1 then ss.take (i + 1) else ss.take i) (if idx < jj + 1 then (js.take (i + 1)).sum else (js.take i).sum) := by
        refine ⟨F8, fun idx a' h => ?_⟩
        have h9 := hrow8 idx a' h
        by_cases e : idx = jj
        · rw [e] at h9 ⊢
          rw [if_neg (Nat.lt_irrefl _), if_neg (Nat.lt_irrefl _)] at h9
          rw [if_pos (Nat.lt_succ_self _), if_pos (Nat.lt_succ_self _)]
          exact h9.more (by rw [ss_take hx]; exact List.sublist_append_left _ _) (take_le bjs i)
        · by_cases e2 : idx < jj
          · rw [if_pos e2, if_pos e2] at h9
            rw [if_pos (by omega), if_pos (by omega)]
            exact h9
          · rw [if_neg e2, if_neg e2] at h9
            rw [if_neg (by omega), if_neg (by omega)]
            exact h9
      have nxt1 : ∀ t2, H8 t2 = none → Fk [a0, a1, a2] H5 (upd (upd H8 t2 (.tup [.str x, pv])) a (.lst (ys ++ [.ref t2]))) ∧ ∀ (idx : Nat) (a' : Addr), [a0, a1, a2][idx]? = some a' → Rowf (upd (upd H8 t2 (.tup [.str x, pv])) a (.lst (ys ++ [.ref t2]))) a' (if idx < jj + 1 then ss.take (i + 1) else ss.take i) (if idx < jj + 1 then (js.take (i + 1)).sum else (js.take i).sum) := fun t2 h2' => by
        have s9 := same_new h2' (.tup [.str x, pv])
        have i9 := im_newK (ds := [sD x, pk.d]) h2' (.cons (.flat rfl) (.cons ipv .nil))
        have ey9 := s9 _ _ ey
        refine ⟨(F8.trans (Fk.same s9)).trans (Fk.upd (List.mem_of_getElem? ha) ey9), fun idx a' h => ?_⟩
        by_cases e : idx = jj
        · subst e
          rw [ha] at h
          cases h
          rw [if_pos (Nat.lt_succ_self _), if_pos (Nat.lt_succ_self _), ss_take hx, sum_take hj]
          exact (hra.same s9).add (x := x) (k := pk) ey9 i9 okp szp'
        · have h9 := ((hrow8 idx a' h).same s9).other (zs := ys ++ [.ref t2]) ey9 (Rne h ha e)
          by_cases e2 : idx < jj
          · rw [if_pos e2, if_pos e2] at h9
            rw [if_pos (by omega), if_pos (by omega)]
            exact h9
          · rw [if_neg e2, if_neg e2] at h9
            rw [if_neg (by omega), if_neg (by omega)]
            exact h9
      have hati : atI (ts.map V.ref) (i : Int) = some (.ref t) := atI_nat (by rw [List.getElem?_map, ht]; rfl)
      have hpv' : atI tl (0 + (jj : Int)) = some pv := by rw [Int.zero_add]; exact hpv
      dsimp only [tC, cEq, onB]
      refine ite2 (fun _ => ?_) (fun _ => ?_)
      · refine ⟨(by show (0 : Int) < 3; decide), ite2 (fun _ => iteT ?_) (fun _ => ite2 (fun _ => ?_) (fun _ => ?_))⟩
        · refine ⟨_, erl8, onS_of harl ⟨⟨_, ey⟩, _, eD8, onS_of hati ⟨_, et, onS_of hpv' ⟨(by show 2 ≤ sizeLine; decide), fun t2 h2' => ⟨ys, same_new h2' _ _ _ ey, by omega, _, _, rfl, nxt1 t2 h2'⟩⟩⟩⟩⟩
        · refine ⟨_, erl8, onS_of harl ⟨⟨_, ey⟩, _, eD8, onS_of hati ⟨_, et, onS_of hpv' ⟨(by show 2 ≤ sizeLine; decide), fun t2 h2' => ⟨ys, same_new h2' _ _ _ ey, by omega, _, _, rfl, nxt1 t2 h2'⟩⟩⟩⟩⟩
        · exact ⟨_, _, rfl, nxt0⟩
      · refine ⟨(by show (0 : Int) < 3; decide), ite2 (fun _ => iteT ?_) (fun _ => ite2 (fun _ => ?_) (fun _ => ?_))⟩
        · refine ⟨_, erl8, onS_of harl ⟨⟨_, ey⟩, _, eD8, onS_of hati ⟨_, et, onS_of hpv' ⟨(by show 2 ≤ sizeLine; decide), fun t2 h2' => ⟨ys, same_new h2' _ _ _ ey, by omega, _, _, rfl, nxt1 t2 h2'⟩⟩⟩⟩⟩
        · refine ⟨_, erl8, onS_of harl ⟨⟨_, ey⟩, _, eD8, onS_of hati ⟨_, et, onS_of hpv' ⟨(by show 2 ≤ sizeLine; decide), fun t2 h2' => ⟨ys, same_new h2' _ _ _ ey, by omega, _, _, rfl, nxt1 t2 h2'⟩⟩⟩⟩⟩
        · exact ⟨_, _, rfl, nxt0⟩
    · rintro σ H8 ⟨o10', o11', rfl, F8, hrow8⟩
      refine ⟨_, _, _, _, _, rfl, F8, fun idx a h => ?_⟩
      have h9 := hrow8 idx a h
      rw [if_pos (show idx < (3 : Int).toNat from R3 h), if_pos (show idx < (3 : Int).toNat from R3 h)] at h9
      exact h9
  rintro σ H6 ⟨o7, o8, o9, o10, o11, rfl, F6, hrow⟩
  rw [List.length_map, List.take_length] at hrow
  have ljs : js.take ss.length = js := List.take_of_length_le (by omega)
  rw [ljs] at hrow
  have eD6 := F6.1 _ _ eD5 (old eD2)
  have erl6 := F6.1 _ _ erl nrl
  have tr6 := tr5.trj tsR F6
  have hsum := sum_bound js bjs
  dsimp only [tNext]
  -- the nest
  refine ⟨D, rfl, ⟨_, SqL.of eD6⟩, fun D3 hD3 => ?_⟩
  refine lc_gen (ts.map V.ref).length (by rw [List.length_map]; omega) (fun xs _ => ∃ is : List Int, xs = is.map V.int) (fun xs _ _ h _ => h) hD3 rfl (fun k H S hk => go_lst eD6 S hk) (fun H S => st_lst eD6 S) ⟨[], rfl⟩ ?_ ?_
  · rintro k' H7 v H8 xs Z S7 hk' ⟨rfl, hv⟩ ⟨is, rfl⟩ hl' z
    have hv2 := hv _ (SqL.of (S7 _ _ eD6))
    rw [List.getElem?_map] at hv2
    cases e : ts[k']? with
    | none => rw [e] at hv2; cases hv2
    | some t =>
      rw [e] at hv2
      cases hv2
      obtain ⟨j, _, trj⟩ := tr6.get e
      obtain ⟨tl, ti, et, h3, _, _⟩ := (trj.fk (N := []) (by simp) (Fk.same S7)).at
      exact ⟨_, et, onS_of h3 (z _ _ (Same.refl _) ⟨is ++ [ti], by rw [List.map_append]; rfl⟩)⟩
  rintro H7 xs7 S7 ⟨is, rfl⟩ _ eD3
  refine ⟨D3, is, 0, rfl, rfl, SqL.of eD3, fun nst => ?_⟩
  dsimp only [gName]
  -- the answer
  have hrow7 : ∀ (idx : Nat) (a : Addr), [a0, a1, a2][idx]? = some a → Rowf H7 a ss js.sum := fun idx a h => (hrow idx a h).same S7
  have erl7 := S7 _ _ erl6
  refine ⟨rl, rfl, ⟨_, SqL.of erl7⟩, fun D4 hD4 => ?_⟩
  refine lc_gen [V.ref a0, .ref a1, .ref a2].length (by show 3 < sizeLine; decide) (fun xs H => ∃ ks : List Kd, Ims H xs (ks.map Kd.d) ∧ ∀ k ∈ ks, k.ok ∧ (k.sz : Int) ≤ 1 + js.sum) (fun xs H H' ⟨ks, h1, h2⟩ k => ⟨ks, h1.mono k, h2⟩) hD4 rfl (fun k H S hk => go_lst erl7 S hk) (fun H S => st_lst erl7 S) ⟨[], .nil, fun k hk => by simp at hk⟩ ?_ ?_
  · rintro k' H8 v H9 xs Z S8 hk' ⟨rfl, hv⟩ ⟨ks, h1', h2'⟩ hl' z
    have hv2 := hv _ (SqL.of (S8 _ _ erl7))
    obtain ⟨a, ha, rfl⟩ : ∃ a, [a0, a1, a2][k']? = some a ∧ v = .ref a := by
      match k', hv2 with
      | 0, h => cases h; exact ⟨_, rfl, rfl⟩
      | 1, h => cases h; exact ⟨_, rfl, rfl⟩
      | 2, h => cases h; exact ⟨_, rfl, rfl⟩
    obtain ⟨ys, ll, ey, iy, sub, okl, szl⟩ := (hrow7 k' a ha).same S8
    have ndl : (ll.map Prod.fst).Nodup := sub.nodup hnd
    have lll : ll.length ≤ 10 := by
      have h7 := sub.length_le
      rw [List.length_map] at h7
      omega
    refine ⟨a, ys, rfl, .inl ⟨SqL.of ey, fun tp htp => ⟨(by show 2 ≤ sizeLine; decide), fun t2 h2 => ?_⟩⟩⟩
    have i1 : Im (upd H9 tp (.tup ys)) (.ref tp) (.tup (ll.map fD)) := im_newK htp iy
    have i2 : Im (upd (upd H9 tp (.tup ys)) t2 (.tup [.str sh, .ref tp])) (.ref t2) (.tup [sD sh, .tup (ll.map fD)]) := im_newK h2 (.cons (.flat rfl) (.cons i1 .nil))
    have s9 := (same_new htp (.tup ys)).trans (same_new h2 (.tup [.str sh, .ref tp]))
    have dl : (ofL ll).ds = ll.map fD := by rw [ds_toL, toL_ofL]
    have okL : (ofL ll).ok := (ok_toL _).mpr (by rw [toL_ofL]; exact okl)
    have szL' : (ofL ll).sz = szL ll := by rw [sz_toL, toL_ofL]
    rcases hsh with rfl | rfl
    · refine z _ _ s9 ⟨ks ++ [.rcd (ofL ll)], ?_, fun y hy => ?_⟩
      · rw [List.map_append]
        refine (h1'.mono (Same.tk s9)).app (.cons ?_ .nil)
        rw [Kd.d, dl]
        exact i2
      · rcases List.mem_append.mp hy with hy | hy
        · exact h2' y hy
        · rw [List.mem_singleton.mp hy, Kd.ok, Kd.sz, szL']
          exact ⟨⟨okL, by rw [toL_ofL]; exact ndl, by rw [toL_ofL]; exact lll, by rw [toL_ofL]; exact sub_fields sub hso⟩, by omega⟩
    · refine z _ _ s9 ⟨ks ++ [.ch (ofL ll)], ?_, fun y hy => ?_⟩
      · rw [List.map_append]
        refine (h1'.mono (Same.tk s9)).app (.cons ?_ .nil)
        rw [Kd.d, dl]
        exact i2
      · rcases List.mem_append.mp hy with hy | hy
        · exact h2' y hy
        · rw [List.mem_singleton.mp hy, Kd.ok, Kd.sz, szL']
          exact ⟨⟨okL, by rw [toL_ofL]; exact ndl, by rw [toL_ofL]; exact lll, by rw [toL_ofL]; exact sub_fields sub hso⟩, by omega⟩
  rintro H8 xs8 S8 ⟨ks, ik, hks⟩ hl8 eD4
  have S68 := S7.trans S8
  have eD8 := S68 _ _ eD6
  refine ⟨D, rfl, ⟨_, SqL.of eD8⟩, fun D5 hD5 => ?_⟩
  refine lc_gen (ts.map V.ref).length (by rw [List.length_map]; omega) (fun xs _ => xs = (js.take xs.length).map V.int) (fun xs _ _ h _ => h) hD5 rfl (fun k H S hk => go_lst eD8 S hk) (fun H S => st_lst eD8 S) rfl ?_ ?_
  · rintro k' H9 v H10 xs Z S9 hk' ⟨rfl, hv⟩ hxs hl' z
    have hv2 := hv _ (SqL.of (S9 _ _ eD8))
    rw [List.getElem?_map] at hv2
    cases e : ts[k']? with
    | none => rw [e] at hv2; cases hv2
    | some t =>
      rw [e] at hv2
      cases hv2
      obtain ⟨j, hj, trj⟩ := tr6.get e
      obtain ⟨tl, ti, et, _, h4, _⟩ := (trj.fk (N := []) (by simp) (Fk.same (S68.trans S9))).at
      refine ⟨_, et, onS_of h4 (z _ _ (Same.refl _) ?_)⟩
      rw [List.length_append, List.length_singleton, hl', List.take_add_one, hj, List.map_append]
      rw [hl'] at hxs
      rw [hxs]
      rfl
  rintro H9 xs9 S9 hxs9 hl9 eD5
  rw [hl9, List.length_map, List.take_of_length_le (by omega)] at hxs9
  subst hxs9
  have hjs6 : js.length ≤ 6 := by omega
  refine ⟨D5, js, rfl, SqL.of eD5, by omega, fun n hn => by have := bjs n hn; omega, ?_⟩
  refine ⟨(by show 2 ≤ sizeLine; decide), fun p hp => ?_⟩
  have s10 := same_new hp (.lst [.int (1 + nst), .int (1 + js.sum)])
  have lk8 := ik.length
  rw [List.length_map] at lk8
  refine ⟨D4, p, xs8, _, rfl, rfl, s10 _ _ (S9 _ _ eD4), upd_same, (by show xs8.length + 2 ≤ sizeLine; rw [hl8]; show 3 + 2 ≤ sizeLine; decide), fun f hf => ?_⟩
  have s11 := same_new hf (.lst (xs8 ++ [.int (1 + nst), .int (1 + js.sum)]))
  have S6f : Same H6 _ := ((S68.trans S9).trans s10).trans s11
  have F16 : Fk [st] H1 H6 := ⟨fun a o e na => F6.1 a o (S5 _ _ (F2.1 a o e na)) (old (F2.1 a o e na)), fun a xs e => F6.2 _ _ (Same.tk S5 _ _ (F2.2 _ _ e))⟩
  have Ff : Fk [st] H _ := ((Fk.same S1).trans F16).trans (Fk.same S6f)
  have stk6 : Stk H6 st N n := by
    have g1 : Stk H5 st (a0 :: a1 :: a2 :: (D :: N)) n := (((st2.more f2).more f1).more h0).same S5
    refine (g1.fk F6 (fun a ha => ?_) ?_).less (fun a ha => ?_)
    · simp only [List.mem_cons, List.not_mem_nil, or_false] at ha ⊢
      rcases ha with h | h | h
      · exact .inl h
      · exact .inr (.inl h)
      · exact .inr (.inr (.inl h))
    · obtain ⟨zs, ez, _⟩ := st2
      exact old ez
    · simp [ha]
  refine q f _ Ff (stk6.same S6f) (fun hfN => ?_) ⟨xs8, ks, 1 + nst, 1 + js.sum, upd_same, ik.mono (Same.tk ((S9.trans s10).trans s11)), by rw [← lk8, hl8]; rfl, hks, by omega, by omega⟩
  obtain ⟨o, eo⟩ := ex2 f (List.mem_cons_of_mem _ hfN)
  have e6 : ∃ o, H6 f = some o := by
    exact ⟨o, F6.1 _ _ (S5 _ _ eo) (old eo)⟩
  obtain ⟨o', e6⟩ := e6
  have := ((S68.trans S9).trans s10) _ _ e6
  rw [hf] at this
  cases this
end
end K51.Internal
namespace K51.Internal
open PySem L2.Internal BO.Internal KK.Internal
seal L2.Internal.PE L2.Internal.PA L2.Internal.PS L2.Internal.PSs L2.Internal.PT L2.Internal.PI
theorem TrA.weak {H : Hp} {t : Addr} {B C : Int} (h : TrA H t B) (hb : B ≤ C) : TrA H t C := by
  obtain ⟨a, b, c, d, h1, h2, h3, h4, h5, h6⟩ := h
  exact ⟨a, b, c, d, h1, h2, h3, h4, h5, by omega⟩
theorem ex_fk {H H' : Hp} {st : Addr} {N M : List Addr} {n : Nat} (hN : ∀ a ∈ N, ∃ o, H a = some o) (F : Fk [st] H H') (s : Stk H' st M n) : ∀ a ∈ N, ∃ o, H' a = some o := fun a ha => by
  by_cases e : a = st
  · rw [e]
    obtain ⟨xs, ex, _⟩ := s
    exact ⟨_, ex⟩
  · obtain ⟨o, eo⟩ := hN a ha
    exact ⟨o, F.1 _ _ eo (by simpa using e)⟩
theorem out_fresh {H H' : Hp} {N : List Addr} {t : Addr} (hN : ∀ a ∈ N, ∃ o, H a = some o) (S : Same H H') (h : H' t = none) : t ∉ N := fun hn => by
  obtain ⟨o, eo⟩ := hN t hn
  rw [S _ _ eo] at h
  cases h
section
variable {P : Program} {w : World} {K : PySem.W.Frag} {mg : Str → Option Value} {base : Heap}
noncomputable def sp_knit : Sp := fun vs H Q _ => ∃ (wl st : Addr) (N : List Addr) (n : Nat) (c : Int), vs = [.ref wl, .ref st, .int c] ∧ Wd H wl ∧ wl ≠ st ∧ Stk H st N n ∧ st ∈ N ∧ (∀ a ∈ N, ∃ o, H a = some o) ∧ ∀ t H', Fk [st] H H' → Stk H' st N n → t ∉ N → TrA H' t 200 → Q (.ref t) H'
theorem ok__law_knit (T : Txt K mg) : FnOk P w K mg base CX0 4 T.a__law_knit T.fd__law_knit ["_law_words_here", "_law_stack", "_law_c"] sp_knit := by
  have G__law_leaf := ok__law_leaf (P := P) (w := w) (base := base) T
  have G__law_pop := ok__law_pop (P := P) (w := w) (base := base) T
  have G__law_fields := ok__law_fields (P := P) (w := w) (base := base) T
  refine T.F__law_knit.ok sc__law_knit (fun vs H Q E h => ?_) (fun cdv A outer s H vs Q E hr h => ?_)
  · obtain ⟨wl, st, N, n, c, rfl, _⟩ := h
    rfl
  obtain ⟨wl, st, N, n, c, rfl, hw, nws, hs, hm, hN, q⟩ := h
  refine ⟨_, (pss_cons (ps_set (i := 3) sc__law_knit.nd rfl (Or.inl rfl) (pe_op oc_mod (cv 2) pe_int))
    (pss_cons (ps_if (ptc_cmpR oc_lt (cv 3) pe_int (nomark _))
      (pss_one (ps_ret (pe_call G__law_leaf (hr.mono (by decide)) rfl T.m__law_leaf T.k__law_leaf T.b__law_leaf .nil pass0 (pa_cons (pe_op oc_fdiv (cv 2) pe_int) pa_nil))))
      pss_nil)
    (pss_cons (ps_if (ptc_cmpR oc_lt (cv 3) pe_int (nomark _))
      (pss_cons (ps_set (i := 4) sc__law_knit.nd rfl (Or.inr rfl) (pe_call G__law_pop (hr.mono (by decide)) rfl T.m__law_pop T.k__law_pop T.b__law_pop .nil pass0 (pa_cons (cv 1) pa_nil)))
      (pss_cons (ps_set (i := 5) sc__law_knit.nd rfl (Or.inr rfl) (pe_call G__law_pop (hr.mono (by decide)) rfl T.m__law_pop T.k__law_pop T.b__law_pop .nil pass0 (pa_cons (cv 1) pa_nil)))
      (pss_cons (ps_setLC (j := 6) rfl (blkC (x := "_law_k") ["_law_other", "_law_one"] [("_law_other", 5, s.heap.objs.size + 2), ("_law_one", 4, s.heap.objs.size + 1)] rfl rfl (by decide +kernel) (by decide +kernel) rfl (by decide +kernel) rfl rfl (by intro p hp; simp only [List.mem_cons, List.not_mem_nil, or_false] at hp; rcases hp with rfl | rfl <;> exact ⟨rfl, rfl, rfl, rfl⟩)) (pi_range1 rfl T.z_range (pa_cons pe_int pa_nil)) (fun _ _ _ _ _ => pts_nil) (fun _ _ _ _ _ => (pe_tup (pa_cons pe_str (pa_cons (pe_ix xc_list (cv 2) (pe_op oc_sub pe_int (cv 0)) (fun _ _ => rfl)) (pa_cons (pe_ix xc_list (cv 1) (cv 0) (fun _ _ => rfl)) pa_nil))))) sc__law_knit.nd rfl (Or.inl rfl))
      (pss_one (ps_ret (pe_op op_cat (cv 6) (pe_lst (pa_cons (pe_op oc_add pe_int (pe_callB (call_max2 rfl) rfl T.z_max bt_max (pa_cons (pe_ix xc_list (cv 4) pe_int (fun _ _ => rfl)) (pa_cons (pe_ix xc_list (cv 5) pe_int (fun _ _ => rfl)) pa_nil)))) (pa_cons (pe_op oc_add (pe_op oc_add pe_int (pe_ix xc_list (cv 4) pe_int (fun _ _ => rfl))) (pe_ix xc_list (cv 5) pe_int (fun _ _ => rfl))) pa_nil)))))))))
      pss_nil)
    (pss_cons (ps_if (ptc_cmpR oc_eq (cv 3) pe_int (nomark _))
      (pss_cons (ps_set (i := 7) sc__law_knit.nd rfl (Or.inr rfl) (pe_call G__law_pop (hr.mono (by decide)) rfl T.m__law_pop T.k__law_pop T.b__law_pop .nil pass0 (pa_cons (cv 1) pa_nil)))
      (pss_one (ps_ret (pe_op op_cat (pe_lc rfl (blkC (x := "_law_k") ["_law_part"] [("_law_part", 7, s.heap.objs.size + 3)] rfl rfl (by decide +kernel) (by decide +kernel) rfl (by decide +kernel) rfl rfl (by intro p hp; simp only [List.mem_cons, List.not_mem_nil, or_false] at hp; rcases hp with rfl <;> exact ⟨rfl, rfl, rfl, rfl⟩)) (pi_range1 rfl T.z_range (pa_cons pe_int pa_nil)) (fun _ _ _ _ _ => pts_nil) (fun _ _ _ _ _ => (pe_tup (pa_cons pe_str (pa_cons (pe_ix xc_list (cv 1) (cv 0) (fun _ _ => rfl)) pa_nil))))) (pe_lst (pa_cons (pe_op oc_add pe_int (pe_ix xc_list (cv 7) pe_int (fun _ _ => rfl))) (pa_cons (pe_op oc_add pe_int (pe_ix xc_list (cv 7) pe_int (fun _ _ => rfl))) pa_nil)))))))
      pss_nil)
    (pss_one (ps_ret (pe_call G__law_fields (hr.mono (by decide)) rfl T.m__law_fields T.k__law_fields T.b__law_fields .nil pass0 (pa_cons (cv 0) (pa_cons (cv 1) (pa_cons (pe_ix xc_list (pe_lst (pa_cons pe_str (pa_cons pe_str pa_nil))) (pe_op oc_sub (cv 3) pe_int) (fun _ _ => rfl)) (pa_cons (pe_op oc_fdiv (cv 2) pe_int) pa_nil))))))))))), ?_⟩
  have sl : sizeLine = 16777216 := sizeLine_eq
  have c0 := Int.emod_nonneg c (show (8 : Int) ≠ 0 by decide)
  have c1 := Int.emod_lt_of_pos c (show (0 : Int) < 8 by decide)
  have out : ∀ {t : Addr}, t ∉ N → t ∉ [st] := fun h z => h (by rw [List.mem_singleton.mp z]; exact hm)
  refine ⟨(by show (0 : Int) < 8; decide), ?_⟩
  dsimp only [gName, tC, cI0, onB]
  refine ite2 (fun _ => ?_) (fun hn3 => ?_)
  · exact ⟨⟨by decide, by decide⟩, c / 8, rfl, fun t H' S ht tr => q t H' (Fk.same S) (hs.same S) (out_fresh hN (Same.refl _) ht) (tr.weak (by decide))⟩
  refine ite2 (fun _ => ?_) (fun hn5 => ?_)
  · refine ⟨st, N, n, rfl, hs, hm, hN, fun t1 H1 F1 st1 nt1 tr1 => ⟨st, N, n, rfl, st1, hm, ex_fk hN F1 st1, fun t2 H2 F2 st2 nt2 tr2 => ?_⟩⟩
    have hN2 := ex_fk (ex_fk hN F1 st1) F2 st2
    obtain ⟨j1, tj1, a1, b1⟩ := (tr1.fk (out nt1) F2).j
    obtain ⟨j2, tj2, a2, b2⟩ := tr2.j
    dsimp only [gName]
    refine ⟨3, rfl, by decide, by decide, fun D hD => ?_⟩
    refine lc_gen 3 (by omega) (fun xs H => ∃ ks : List Kd, Ims H xs (ks.map Kd.d) ∧ ∀ k ∈ ks, k.ok ∧ (k.sz : Int) ≤ 1 + j1 + j2) (fun xs H H' ⟨ks, h1, h2⟩ k => ⟨ks, h1.mono k, h2⟩) hD rfl (fun k H _ hk => hk) (fun H _ => Nat.le_refl _) ⟨[], .nil, fun k hk => by simp at hk⟩ ?_ ?_
    · rintro k H3 v H4 xs Z S3 hk ⟨rfl, rfl⟩ ⟨ks, h1, h2⟩ hl z
      obtain ⟨l1, i1, e1, _, _, at1⟩ := (tj1.fk (N := []) (by simp) (Fk.same S3)).at
      obtain ⟨l2, i2, e2, _, _, at2⟩ := (tj2.fk (N := []) (by simp) (Fk.same S3)).at
      obtain ⟨v1, k1, g1, m1, o1, z1⟩ := at1 (2 - k) (by omega)
      obtain ⟨v2, k2, g2, m2, o2, z2⟩ := at2 k hk
      refine ⟨_, e1, onS_of (v := v1) (by rw [show (2 - (0 + (k : Int))) = ((2 - k : Nat) : Int) by omega]; exact g1) ⟨_, e2, onS_of (v := v2) (by rw [Int.zero_add]; exact g2) ⟨(by show 3 ≤ sizeLine; decide), fun t ht => z _ _ (same_new ht _) ⟨ks ++ [.fn k1 k2], ?_, fun y hy => ?_⟩⟩⟩⟩
      · rw [List.map_append]
        refine (h1.mono (Same.tk (same_new ht _))).app (.cons ?_ .nil)
        rw [Kd.d]
        exact im_newK ht (.cons (.flat rfl) (.cons m1 (.cons m2 .nil)))
      · rcases List.mem_append.mp hy with hy | hy
        · exact h2 y hy
        · rw [List.mem_singleton.mp hy, Kd.ok, Kd.sz]
          exact ⟨⟨o1, o2⟩, by omega⟩
    rintro H3 xs S3 ⟨ks, ik, hk⟩ hl eD
    have lk := ik.length
    rw [List.length_map] at lk
    obtain ⟨l1, i1, e1, r1, s1, _⟩ := (tj1.fk (N := []) (by simp) (Fk.same S3)).at
    obtain ⟨l2, i2, e2, r2, s2, _⟩ := (tj2.fk (N := []) (by simp) (Fk.same S3)).at
    refine ⟨_, e1, onS_of r1 ⟨_, e2, onS_of r2 ⟨i1, i2, rfl, _, e1, onS_of s1 ⟨_, e2, onS_of s2 ⟨(by show 2 ≤ sizeLine; decide), fun p hp => ?_⟩⟩⟩⟩⟩
    have s4 := same_new hp (.lst [.int (1 + (if i2 > i1 then i2 else i1)), .int (1 + j1 + j2)])
    refine ⟨D, p, xs, _, rfl, rfl, s4 _ _ eD, upd_same, (by show xs.length + 2 ≤ sizeLine; omega), fun f hf => ?_⟩
    have s5 := same_new hf (.lst (xs ++ [.int (1 + (if i2 > i1 then i2 else i1)), .int (1 + j1 + j2)]))
    have Sf := (S3.trans s4).trans s5
    exact q f _ ((F1.trans F2).trans (Fk.same Sf)) (st2.same Sf) (out_fresh hN2 (S3.trans s4) hf) ⟨xs, ks, _, _, upd_same, ik.mono (Same.tk (s4.trans s5)), by omega, hk, by omega, by omega⟩
  dsimp only [gName, tC, cEq, onB]
  refine ite2 (fun _ => ?_) (fun hn6 => ?_)
  · refine ⟨st, N, n, rfl, hs, hm, hN, fun t1 H1 F1 st1 nt1 tr1 => ?_⟩
    have hN1 := ex_fk hN F1 st1
    obtain ⟨j1, tj1, a1, b1⟩ := tr1.j
    dsimp only [gName]
    refine ⟨3, rfl, by decide, by decide, fun D hD => ?_⟩
    refine lc_gen 3 (by omega) (fun xs H => ∃ ks : List Kd, Ims H xs (ks.map Kd.d) ∧ ∀ k ∈ ks, k.ok ∧ (k.sz : Int) ≤ 1 + j1) (fun xs H H' ⟨ks, h1, h2⟩ k => ⟨ks, h1.mono k, h2⟩) hD rfl (fun k H _ hk => hk) (fun H _ => Nat.le_refl _) ⟨[], .nil, fun k hk => by simp at hk⟩ ?_ ?_
    · rintro k H3 v H4 xs Z S3 hk ⟨rfl, rfl⟩ ⟨ks, h1, h2⟩ hl z
      obtain ⟨l1, i1, e1, _, _, at1⟩ := (tj1.fk (N := []) (by simp) (Fk.same S3)).at
      obtain ⟨v1, k1, g1, m1, o1, z1⟩ := at1 k hk
      refine ⟨_, e1, onS_of (v := v1) (by rw [Int.zero_add]; exact g1) ⟨(by show 2 ≤ sizeLine; decide), fun t ht => z _ _ (same_new ht _) ⟨ks ++ [.row k1], ?_, fun y hy => ?_⟩⟩⟩
      · rw [List.map_append]
        refine (h1.mono (Same.tk (same_new ht _))).app (.cons ?_ .nil)
        rw [Kd.d]
        exact im_newK ht (.cons (.flat rfl) (.cons m1 .nil))
      · rcases List.mem_append.mp hy with hy | hy
        · exact h2 y hy
        · rw [List.mem_singleton.mp hy, Kd.ok, Kd.sz]
          exact ⟨o1, by omega⟩
    rintro H3 xs S3 ⟨ks, ik, hk⟩ hl eD
    have lk := ik.length
    rw [List.length_map] at lk
    obtain ⟨l1, i1, e1, r1, s1, _⟩ := (tj1.fk (N := []) (by simp) (Fk.same S3)).at
    refine ⟨_, e1, onS_of r1 ⟨_, e1, onS_of s1 ⟨(by show 2 ≤ sizeLine; decide), fun p hp => ?_⟩⟩⟩
    have s4 := same_new hp (.lst [.int (1 + i1), .int (1 + j1)])
    refine ⟨D, p, xs, _, rfl, rfl, s4 _ _ eD, upd_same, (by show xs.length + 2 ≤ sizeLine; omega), fun f hf => ?_⟩
    have s5 := same_new hf (.lst (xs ++ [.int (1 + i1), .int (1 + j1)]))
    have Sf := (S3.trans s4).trans s5
    exact q f _ (F1.trans (Fk.same Sf)) (st1.same Sf) (out_fresh hN1 (S3.trans s4) hf) ⟨xs, ks, _, _, upd_same, ik.mono (Same.tk (s4.trans s5)), by omega, hk, by omega, by omega⟩
  · refine ⟨(by show 2 ≤ sizeLine; decide), fun p hp => ⟨_, upd_same, ?_⟩⟩
    have s1 := same_new hp (.lst [.str "rec", .str "choice"])
    have h67 : c % 8 = 6 ∨ c % 8 = 7 := by
      have h1 : ¬ c % 8 < 3 := fun z => hn3 (decide_eq_true z)
      have h2 : ¬ c % 8 < 5 := fun z => hn5 (decide_eq_true z)
      have h3 : ¬ c % 8 = 5 := fun z => hn6 (by rw [decide_eq_true z]; rfl)
      omega
    obtain ⟨sh, hat, hsh⟩ : ∃ sh : Str, atI [V.str "rec", V.str "choice"] (c % 8 - 6) = some (.str sh) ∧ (sh = "rec" ∨ sh = "choice") := by
      rcases h67 with h | h
      · rw [h]; exact ⟨"rec", atI_nat (j := 0) rfl, .inl rfl⟩
      · rw [h]; exact ⟨"choice", atI_nat (j := 1) rfl, .inr rfl⟩
    refine onS_of hat ⟨⟨by decide, by decide⟩, wl, st, N, n, sh, _, rfl, hw.same s1, nws, hs.same s1, hm, fun a ha => let ⟨o, eo⟩ := hN a ha; ⟨o, s1 _ _ eo⟩, hsh, fun t H' F2 st2 nt tr => q t H' ((Fk.same s1).trans F2) st2 nt tr⟩
noncomputable def sp_triples : Sp := fun vs H Q _ => ∃ (wl cl : Addr) (ns : List Int) (ne : Int), vs = [.ref wl, .ref cl, .int ne, .int 20] ∧ Wd H wl ∧ H cl = some (.lst (ns.map V.int)) ∧ ns.length ≤ 63 ∧ ∀ st H', Same H H' → H st = none → Stk H' st [st] 63 → Q (.ref st) H'
theorem ok__law_triples (T : Txt K mg) : FnOk P w K mg base CX0 5 T.a__law_triples T.fd__law_triples ["_law_words_here", "_law_cells", "_law_nest", "_law_size"] sp_triples := by
  have G__law_leaf := ok__law_leaf (P := P) (w := w) (base := base) T
  have G__law_knit := ok__law_knit (P := P) (w := w) (base := base) T
  refine T.F__law_triples.ok sc__law_triples (fun vs H Q E h => ?_) (fun cdv A outer s H vs Q E hr h => ?_)
  · obtain ⟨wl, cl, ns, ne, rfl, _⟩ := h
    rfl
  obtain ⟨wl, cl, ns, ne, rfl, hw, ecl, ln, q⟩ := h
  refine ⟨_, (pss_cons (ps_set (i := 4) sc__law_triples.nd rfl (Or.inl rfl) (pe_lst pa_nil))
    (pss_cons (ps_for PassesOwn.never rfl (pi_list (cv 1)) (pg_name (i := 5) sc__law_triples.nd rfl (Or.inl rfl))
      (pss_cons (ps_set (i := 6) sc__law_triples.nd rfl (Or.inl rfl) (pe_op oc_mod (cv 5) (pe_op oc_pow pe_int pe_int)))
      (pss_cons (ps_set (i := 7) sc__law_triples.nd rfl (Or.inl rfl) (pe_call G__law_knit (hr.mono (by decide)) rfl T.m__law_knit T.k__law_knit T.b__law_knit .nil pass0 (pa_cons (cv 0) (pa_cons (cv 4) (pa_cons (cv 6) pa_nil)))))
      (pss_cons (ps_if (PW.pt (pw_or (ptc_cmpR oc_gt (pe_ix xc_list (cv 7) pe_int (fun _ _ => rfl)) (cv 2) (nomark _)) (pw_or1 (ptc_cmpR oc_gt (pe_ix xc_list (cv 7) pe_int (fun _ _ => rfl)) (cv 3) (nomark _)))))
        (pss_one (ps_set (i := 7) sc__law_triples.nd rfl (Or.inl rfl) (pe_call G__law_leaf (hr.mono (by decide)) rfl T.m__law_leaf T.k__law_leaf T.b__law_leaf .nil pass0 (pa_cons (pe_op oc_fdiv (cv 6) pe_int) pa_nil))))
        pss_nil)
      (pss_one (ps_expr (pec_app (pe_bm PySem.F.plainAttrs_list PySem.F.slot_list_append PySem.F.type_list_append mt_append (PE.mono (cv 4)) (pa_cons (PE.mono (cv 7)) pa_nil)))))))))
    (pss_one (ps_ret (cv 4))))), ?_⟩
  have sl : sizeLine = 16777216 := sizeLine_eq
  obtain ⟨ws, ew, _⟩ := id hw
  refine ⟨(by show 0 ≤ sizeLine; decide), fun st hst => ?_⟩
  have s0 := same_new hst (.lst [])
  have nwst : wl ≠ st := ne_of_none ew hst
  have e0 : (upd H st (.lst [])) st = some (.lst []) := upd_same
  dsimp only [gName]
  generalize upd H st (.lst []) = H0 at s0 e0 ⊢
  refine ⟨cl, rfl, ⟨_, SqL.of (s0 _ _ ecl)⟩, for_list (xs := ns.map V.int) (fun i σ H2 => ∃ (o5 o6 o7 : Option V), σ = [some (.ref wl), some (.ref cl), some (.int ne), some (.int 20), some (.ref st), o5, o6, o7] ∧ Same H H2 ∧ Stk H2 st [st] i)
    ⟨none, none, none, rfl, s0, [], e0, Nat.le_refl _, fun v hv => by simp at hv⟩ (fun i σ H2 _ ⟨_, _, _, _, S, _⟩ => SqL.of (S _ _ ecl)) ?_ ?_⟩
  · rintro i v σ H2 hv ⟨o5, o6, o7, rfl, S2, st2⟩
    have hi := (List.getElem?_eq_some_iff.mp hv).1
    rw [List.length_map] at hi
    obtain ⟨x, rfl⟩ : ∃ x : Int, v = .int x := by
      rw [List.getElem?_map] at hv
      cases e : ns[i]? with
      | none => rw [e] at hv; cases hv
      | some m => rw [e] at hv; exact ⟨m, (Option.some.inj hv).symm⟩
    refine ⟨⟨by decide, by decide, by decide⟩, (by show (0 : Int) < 10 ^ (40 : Int).toNat; decide +kernel), ?_⟩
    dsimp only [gName]
    generalize x % 10 ^ (40 : Int).toNat = c
    have hN : ∀ a ∈ [st], ∃ o, H2 a = some o := fun a ha => by
      rw [List.mem_singleton.mp ha]
      obtain ⟨xs, e, _⟩ := st2
      exact ⟨_, e⟩
    refine ⟨wl, st, [st], i, c, rfl, hw.same S2, nwst, st2, List.mem_singleton.mpr rfl, hN, fun t H4 F4 st4 nt tr => ?_⟩
    have S4 : Same H H4 := fun a o e => F4.1 a o (S2 _ _ e) (by simpa using ne_of_none e hst)
    obtain ⟨xs3, ks, ti, tj, et, ik, lk, hk, t1, t2, r3, r4, _⟩ := tr.at
    dsimp only [gName]
    -- what is put upon the stack
    have fin : ∀ (t : Addr) (H5 : Hp) (o5 o6 o7 : Option V), Same H4 H5 → t ∉ [st] → TrA H5 t 20 → ∃ xs, H5 st = some (.lst xs) ∧ xs.length < sizeLine ∧ Same H (upd H5 st (.lst (xs ++ [.ref t]))) ∧ Stk (upd H5 st (.lst (xs ++ [.ref t]))) st [st] (i + 1) := fun t H5 o5 o6 o7 S5 nt tr => by
      obtain ⟨xs, e, l, f⟩ := st4.same S5
      have k := Fk.upd (N := [st]) (ys := xs ++ [.ref t]) (List.mem_singleton.mpr rfl) e
      refine ⟨xs, e, by omega, same_updK (S4.trans S5) hst _, xs ++ [.ref t], upd_same, by rw [List.length_append, List.length_singleton]; omega, fun v hv => ?_⟩
      rcases List.mem_append.mp hv with hv | hv
      · obtain ⟨t', h1, h2, h3⟩ := f v hv
        exact ⟨t', h1, h2, h3.fk h2 k⟩
      · rw [List.mem_singleton.mp hv]
        exact ⟨t, rfl, nt, tr.fk nt k⟩
    have hst4 : ∀ {H5 : Hp}, Same H4 H5 → ∃ xs, H5 st = some (.lst xs) := fun S5 => by
      obtain ⟨xs, e, _⟩ := st4
      exact ⟨xs, S5 _ _ e⟩
    have nst : ∀ {t' : Addr}, H4 t' = none → t' ∉ [st] := fun {t'} ht z => by
      obtain ⟨xs, e⟩ := hst4 (Same.refl _)
      rw [← List.mem_singleton.mp z, ht] at e
      cases e
    refine ⟨_, et, onS_of r3 ?_⟩
    dsimp only [cI0, onB]
    refine ite2 (fun _ => iteT ?_) (fun _ => ?_)
    · refine ⟨⟨by decide, by decide⟩, c / 8, rfl, fun t H5 S5 ht tr => ?_⟩
      obtain ⟨xs, e, hl, S6, st6⟩ := fin t H5 none none none S5 (nst ht) (tr.weak (by decide))
      exact ⟨⟨_, e⟩, xs, e, hl, _, _, _, rfl, S6, st6⟩
    · refine ⟨_, et, onS_of r4 ?_⟩
      dsimp only [cI0, onB]
      refine ite2 (fun _ => ?_) (fun hj => ?_)
      · refine ⟨⟨by decide, by decide⟩, c / 8, rfl, fun t H5 S5 ht tr => ?_⟩
        obtain ⟨xs, e, hl, S6, st6⟩ := fin t H5 none none none S5 (nst ht) (tr.weak (by decide))
        exact ⟨⟨_, e⟩, xs, e, hl, _, _, _, rfl, S6, st6⟩
      · have hj2 : tj ≤ 20 := by
          have h1 : ¬ (20 : Int) < tj := fun z => hj (decide_eq_true z)
          omega
        obtain ⟨xs, e, hl, S6, st6⟩ := fin t H4 none none none (Same.refl _) nt ⟨xs3, ks, ti, tj, et, ik, lk, hk, t1, hj2⟩
        exact ⟨⟨_, e⟩, xs, e, hl, _, _, _, rfl, S6, st6⟩
  · rintro σ H2 ⟨o5, o6, o7, rfl, S2, st2⟩
    rw [List.length_map] at st2
    obtain ⟨xs, e, l, f⟩ := st2
    exact q st H2 S2 hst ⟨xs, e, by omega, f⟩
end
end K51.Internal
namespace K51.Internal
open PySem L2.Internal BO.Internal KK.Internal
seal L2.Internal.PE L2.Internal.PA L2.Internal.PS L2.Internal.PSs L2.Internal.PT L2.Internal.PI
theorem cut_ints (ns : List Int) (lo hi : Option Int) : ∃ ms : List Int, cutV (ns.map V.int) lo hi = ms.map V.int ∧ ms.length ≤ ns.length := by
  refine ⟨(ns.drop (HT.Internal.sIx (ns.map V.int).length 0 lo)).take (HT.Internal.sIx (ns.map V.int).length (ns.map V.int).length hi - HT.Internal.sIx (ns.map V.int).length 0 lo), ?_, ?_⟩
  · unfold cutV
    rw [← List.map_drop, ← List.map_take]
  · rw [List.length_take, List.length_drop]
    omega
theorem cut3 {xs ys : List V} (h : xs.length = 3) : cutV (xs ++ ys) none (some 3) = xs := by
  unfold cutV
  rw [HT.Internal.sIx_none, show (some 3 : Option Int) = some ((3 : Nat) : Int) from rfl, HT.Internal.sIx_nat, List.drop_zero, List.length_append, h, Nat.sub_zero, Nat.min_eq_left (by omega), ← h, List.take_left]
noncomputable def FrD (D : Addr) (H H' : Hp) : Prop := ∀ a o, H a = some o → a ≠ D → H' a = some o
theorem lc_genF {J : It} {i : Nat} {te : TE} {Q : VK} {τ : St} {H1 : Hp} {D : Addr} (n : Nat) (hn : n < sizeLine) (R : List V → Hp → Prop) (hR : ∀ xs H H', R xs H → FrD D H H' → R xs H') (hD : H1 D = none) (hτ : τ.set i none = τ)
    (hgo : ∀ k H, Same H1 H → k < n → J.go k H) (hst : ∀ H, Same H1 H → J.stop n H) (h0 : R [] H1)
    (step : ∀ k H v H3 xs (Z : VK), Same H1 H → k < n → J.yld k H v H3 → R xs H → xs.length = k → H D = some (.lst xs) → (∀ y H5, Same H H5 → R (xs ++ [y]) H5 → Z y H5) → te (τ.set i (some v)) H3 Z)
    (hq : ∀ H' xs, Same H1 H' → R xs H' → xs.length = n → H' D = some (.lst xs) → Q (.ref D) H') : LcP J i tAlways te Q τ H1 D := by
  have nd : ∀ (H5 : Hp) (o : HO), FrD D H5 (upd H5 D o) := fun H5 o a u e n => by rw [upd_ne n]; exact e
  have up : ∀ {H : Hp} (o : HO), Same H1 H → Same H1 (upd H D o) := fun {H} o S b u e => by rw [upd_ne (ne_of_none e hD)]; exact S b u e
  refine ⟨fun k m σ' H2 => m = n - k ∧ k ≤ n ∧ (∃ o, σ' = τ.set i o) ∧ Same H1 H2 ∧ ∃ xs, H2 D = some (.lst xs) ∧ xs.length = k ∧ R xs H2, ⟨n, by simp, Nat.zero_le _, ⟨none, hτ.symm⟩, same_new hD _, [], upd_same, rfl, hR _ _ _ h0 (nd _ _)⟩, ?_⟩
  rintro k m σ' H2 ⟨rfl, hk, ⟨o, rfl⟩, S, xs, e, hl, hr⟩
  by_cases hlt : k < n
  · refine .inr ⟨hgo k H2 S hlt, fun v H3 y => ?_⟩
    rw [List.set_set]
    refine step k H2 v H3 xs _ S hlt y hr hl e fun y H5 S5 r5 => ?_
    refine ⟨xs, S5 D _ e, by omega, n - (k + 1), by omega, rfl, hlt, ⟨some v, rfl⟩, up _ (S.trans S5), xs ++ [y], upd_same, by rw [List.length_append, hl]; rfl, hR _ _ _ r5 (nd H5 _)⟩
  · have e1 : k = n := by omega
    subst e1
    exact .inl ⟨hst H2 S, hq H2 xs S hr hl e⟩
theorem eqV_rf : ∀ {v : V}, flatV v = true → eqV v v = true
  | .non, _ => rfl
  | .bl b, _ => by cases b <;> rfl
  | .int i, _ => by simp [eqV]
  | .str z, _ => by simp [eqV]
  | .ref _, h => absurd h Bool.false_ne_true
  | .byt _, h => by first | (simp [eqV]; done) | exact absurd h Bool.false_ne_true
mutual
theorem im_eq {H : Hp} : ∀ {v : V} {d : Dt}, Im H v d → eqD d d = true ∧ cmpD d d = true
  | v, _, .flat h => by
    refine ⟨?_, by simp [cmpD]⟩
    rw [eqD]
    exact eqV_rf (by cases v <;> first | rfl | cases h)
  | _, _, .tup _ hs => by
    obtain ⟨h1, h2⟩ := ims_eq hs
    exact ⟨by rw [eqD]; exact h1, by rw [cmpD]; exact h2⟩
theorem ims_eq {H : Hp} : ∀ {v : List V} {d : List Dt}, Ims H v d → eqDs d d = true ∧ cmpDs d d = true
  | _, _, .nil => ⟨by rw [eqDs], by simp [cmpDs]⟩
  | _, _, .cons h hs => by
    obtain ⟨h1, h2⟩ := im_eq h
    obtain ⟨h3, h4⟩ := ims_eq hs
    exact ⟨by rw [eqDs, h1, h3]; rfl, by rw [cmpDs, h2, h4]; rfl⟩
end
theorem lc_ofB {J : It} {xs : List V} {i : Nat} {tt : TT} {te : TE} {Q : VK} {τ : St} {H1 : Hp} {D : Addr} (p : V → Bool) (g : V → V) (hD : H1 D = none) (hz : xs.length ≤ sizeLine) (hτ : τ.set i none = τ)
    (hgo : ∀ k H, Same H1 H → k < xs.length → J.go k H) (hy : ∀ k H v H', Same H1 H → k < xs.length → J.yld k H v H' → H' = H ∧ xs[k]? = some v) (hst : ∀ H, Same H1 H → J.stop xs.length H)
    (htt : ∀ (k : Nat) v H R, xs[k]? = some v → Same H1 H → R (p v) H → tt (τ.set i (some v)) H R)
    (hte : ∀ (k : Nat) v H R, xs[k]? = some v → p v = true → Same H1 H → R (g v) H → te (τ.set i (some v)) H R)
    (hq : ∀ H', Same H1 H' → H' D = some (.lst ((xs.filter p).map g)) → Q (.ref D) H') : LcP J i tt te Q τ H1 D := by
  have sm : ∀ o, Same H1 (upd H1 D o) := fun o b u e => by rw [upd_ne (ne_of_none e hD)]; exact e
  refine ⟨fun k m σ' H2 => m = xs.length - k ∧ k ≤ xs.length ∧ (∃ o, σ' = τ.set i o) ∧ H2 = upd H1 D (.lst (((xs.take k).filter p).map g)), ⟨xs.length, by simp, Nat.zero_le _, ⟨none, hτ.symm⟩, by simp⟩, ?_⟩
  rintro k m σ' H2 ⟨rfl, hk, ⟨o, rfl⟩, rfl⟩
  by_cases hlt : k < xs.length
  · refine .inr ⟨hgo k _ (sm _) hlt, fun v H3 y => ?_⟩
    obtain ⟨e, hv⟩ := hy k _ v H3 (sm _) hlt y
    subst e
    rw [List.set_set]
    refine htt k v _ _ hv (sm _) ?_
    have tk : (xs.take (k + 1)).filter p = (xs.take k).filter p ++ (if p v then [v] else []) := take_succ_filter p xs k v hv
    have ll : ((xs.take k).filter p).length ≤ k := by
      refine Nat.le_trans (List.length_filter_le _ _) ?_
      rw [List.length_take]
      omega
    cases hp : p v with
    | true =>
      rw [if_pos rfl]
      refine hte k v _ _ hv hp (sm _) ?_
      refine ⟨_, upd_same, by rw [List.length_map]; omega, xs.length - (k + 1), by omega, rfl, hlt, ⟨some v, rfl⟩, ?_⟩
      rw [upd_upd, tk, hp, if_pos rfl, List.map_append]
      rfl
    | false =>
      rw [if_neg Bool.false_ne_true]
      refine ⟨xs.length - (k + 1), by omega, rfl, hlt, ⟨some v, rfl⟩, ?_⟩
      rw [tk, hp, if_neg Bool.false_ne_true, List.append_nil]
  · have e : k = xs.length := by omega
    subst e
    refine .inl ⟨hst _ (sm _), hq _ (sm _) ?_⟩
    rw [upd_same, List.take_length]

noncomputable def rowB (kl : List Kd) (k : Kd) : List V := kl.map fun b => V.bl (und k b)
noncomputable def RowsF (kl : List Kd) (D : Addr) (xs : List V) (H : Hp) : Prop := ∃ l : List Addr, xs = l.map V.ref ∧ ∀ (j : Nat) (a : Addr) (k : Kd), l[j]? = some a → kl[j]? = some k → a ≠ D ∧ H a = some (.lst (rowB kl k))
theorem and3 {t1 t2 t3 : TE} {σ : St} {H : Hp} {R : Bool → Hp → Prop} (x y : Bool) (h1 : ∀ Z : VK, Z (.bl x) H → t1 σ H Z) (h2 : ∀ Z : VK, Z (.bl y) H → t2 σ H Z) (h3 : x = true → y = true → ∀ Z : VK, Z (.bl false) H → t3 σ H Z) (hr : R false H) : tAnd (tB t1) (tAnd (tB t2) (cT t3)) σ H R := by
  refine h1 _ ⟨x, rfl, ?_⟩
  cases x with
  | false => exact hr
  | true =>
    refine h2 _ ⟨y, rfl, ?_⟩
    cases y with
    | false => exact hr
    | true => exact h3 rfl rfl _ hr
theorem and2 {t1 t2 : TE} {σ : St} {H : Hp} {R : Bool → Hp → Prop} (x : Bool) (h1 : ∀ Z : VK, Z (.bl x) H → t1 σ H Z) (h2 : x = true → ∀ Z : VK, Z (.bl false) H → t2 σ H Z) (hr : R false H) : tAnd (tB t1) (cT t2) σ H R := by
  refine h1 _ ⟨x, rfl, ?_⟩
  cases x with
  | false => exact hr
  | true => exact h2 rfl _ hr
theorem and_not {t1 t2 : TE} {σ : St} {H : Hp} {R : Bool → Hp → Prop} (x y : Bool) (h1 : ∀ Z : VK, Z (.bl x) H → t1 σ H Z) (h2 : ∀ Z : VK, Z (.bl y) H → t2 σ H Z) (hr : R (x && !y) H) : tAnd (tB t1) (tNot (tB t2)) σ H R := by
  refine h1 _ ⟨x, rfl, ?_⟩
  cases x with
  | false => exact hr
  | true => exact h2 _ ⟨y, rfl, hr⟩
noncomputable def lostP (kd : List Kd) (a c : Kd) : V → Bool
  | .int n => match kd[n.toNat]? with
    | some m => und c m && !und a m
    | none => false
  | _ => false
theorem lost_none {kd : List Kd} {a c : Kd} (hG : ∀ k ∈ kd, G k) (ha : G a) (hc : G c) (h : und a c = true) (v : V) : lostP kd a c v = false := by
  unfold lostP
  split
  · split
    · rename_i m hm
      have gm := hG m (List.mem_of_getElem? hm)
      cases e : und c m with
      | false => rfl
      | true => rw [und_trans _ a c m (Nat.le_refl _) ha hc gm h e]; rfl
    · rfl
  · rfl
section
variable {P : Program} {w : World} {K : PySem.W.Frag} {mg : Str → Option Value} {base : Heap}
theorem all_law (T : Txt K mg) {a : Addr} {fd : FuncData} (F : Fun K "law" "law" s_law a fd) : FnOk P w K mg base CX0 40 a fd ["_law_script"] (sp_law K) := by
  have G__law_words := ok__law_words (P := P) (w := w) (base := base) T
  have G__law_triples := ok__law_triples (P := P) (w := w) (base := base) T
  have G_under := ok_under (P := P) (w := w) (base := base) T
  refine F.ok sc_law (fun vs H Q E h => ?_) (fun cdv A outer s H vs Q E hr h => ?_)
  · obtain ⟨a, ns, rfl, _⟩ := h
    rfl
  obtain ⟨ad, ns, rfl, hsq, hlen, q⟩ := h
  refine ⟨_, (pss_cons (ps_set (i := 1) sc_law.nd rfl (Or.inl rfl) (pe_call G__law_words (hr.mono (by decide)) rfl T.m__law_words T.k__law_words T.b__law_words .nil pass0 (pa_cons (pe_callB (call_sumA rfl) rfl T.z_sum bt_sum (pa_cons (pe_slice sl_list (cv 0) po_none (po_some pe_int)) pa_nil)) pa_nil)))
    (pss_cons (ps_set (i := 2) sc_law.nd rfl (Or.inl rfl) (pe_tup (pa_cons pe_str pa_nil)))
    (pss_cons (ps_for PassesOwn.never rfl (pi_list (pe_call G__law_triples (hr.mono (by decide)) rfl T.m__law_triples T.k__law_triples T.b__law_triples .nil pass0 (pa_cons (cv 1) (pa_cons (pe_slice sl_list (cv 0) (po_some pe_int) po_none) (pa_cons pe_int (pa_cons pe_int pa_nil)))))) (pg_name (i := 3) sc_law.nd rfl (Or.inl rfl))
      (pss_cons (ps_set (i := 4) sc_law.nd rfl (Or.inr rfl) (pe_op op_cat (pe_slice sl_list (cv 3) po_none (po_some pe_int)) (pe_lst (pa_cons (cv 2) pa_nil))))
      (pss_cons (ps_set (i := 5) sc_law.nd rfl (Or.inr rfl) (pe_lcN rfl (blkCN (x := "_law_one") ["_law_kinds"] [("_law_kinds", 4, s.heap.objs.size + 1)] rfl rfl (fun _ _ => rfl) (fun _ => rfl) (by decide +kernel) (by decide +kernel) rfl (by decide +kernel) rfl rfl (by intro p hp; simp only [List.mem_cons, List.not_mem_nil, or_false] at hp; rcases hp with rfl <;> exact ⟨rfl, rfl, rfl, rfl⟩)) (pi_list (cv 4)) (fun _ _ _ _ _ => pts_nil) (fun c1 c2 c3 c4 c5 => (pe_lc (X := blkN _ ["_law_one", "_law_kinds"] _ _ "_law_one" c1 c2 c3 c4 c5) (f := fun σ => [none, σ.getD 0 none]) (wi := iList K (cV 1)) rfl (blkC (X := blkN _ ["_law_one", "_law_kinds"] _ _ "_law_one" c1 c2 c3 c4 c5) (x := "_law_other") ["_law_one"] [("_law_one", 0, c1 + 1)] rfl rfl (by decide +kernel) (by decide +kernel) rfl (by decide +kernel) rfl rfl (by intro p hp; simp only [List.mem_cons, List.not_mem_nil, or_false] at hp; rcases hp with rfl; exact ⟨rfl, rfl, rfl, rfl⟩)) (pi_list (cv 1)) (fun _ _ _ _ _ => pts_nil) (fun _ _ _ _ _ => (pe_call G_under (hr.mono (by decide)) rfl T.m_under T.k_under T.b_under .nil pass0 (pa_cons (cv 1) (pa_cons (cv 0) pa_nil))))))))
      (pss_cons (ps_for PassesOwn.never rfl (pi_range1 rfl T.z_range (pa_cons pe_int pa_nil)) (pg_name (i := 6) sc_law.nd rfl (Or.inr rfl))
        (pss_cons (ps_if (PW.pt (pw_or (ptc_cmpR oc_isnotB (pe_ix xc_list (pe_ix xc_list (cv 5) (cv 6) (fun _ _ => rfl)) (cv 6) (fun _ _ => rfl)) pe_bl (nomark _)) (pw_or1 (ptc_cmpR oc_isnotB (pe_call G_under (hr.mono (by decide)) rfl T.m_under T.k_under T.b_under .nil pass0 (pa_cons (pe_ix xc_list (cv 4) (cv 6) (fun _ _ => rfl)) (pa_cons (pe_tup (pa_cons pe_str pa_nil)) pa_nil))) pe_bl (nomark _)))))
          (pss_one (ps_ret pe_bl))
          pss_nil)
        (pss_cons (ps_if (ptc_cmpR oc_isnotB (pe_call G_under (hr.mono (by decide)) rfl T.m_under T.k_under T.b_under .nil pass0 (pa_cons (pe_tup (pa_cons pe_str (pa_cons (pe_tup pa_nil) pa_nil))) (pa_cons (pe_ix xc_list (cv 4) (cv 6) (fun _ _ => rfl)) pa_nil))) pe_bl (nomark _))
          (pss_one (ps_ret pe_bl))
          pss_nil)
        (pss_one (ps_for PassesOwn.never rfl (pi_range1 rfl T.z_range (pa_cons pe_int pa_nil)) (pg_name (i := 7) sc_law.nd rfl (Or.inr rfl))
          (pss_cons (ps_if (PW.pt (pw_and (pt_val (pe_ix xc_list (pe_ix xc_list (cv 5) (cv 6) (fun _ _ => rfl)) (cv 7) (fun _ _ => rfl))) (pw_and (pt_val (pe_ix xc_list (pe_ix xc_list (cv 5) (cv 7) (fun _ _ => rfl)) (cv 6) (fun _ _ => rfl))) (pw_and1 (ptc_cmpR (op_neD hr) (pe_ix xc_list (cv 4) (cv 6) (fun _ _ => rfl)) (pe_ix xc_list (cv 4) (cv 7) (fun _ _ => rfl)) (nomark _))))))
            (pss_one (ps_ret pe_bl))
            pss_nil)
          (pss_cons (ps_setLC (j := 8) rfl (blkC (x := "_law_n") ["_law_k", "_law_j", "_law_found"] [("_law_k", 7, s.heap.objs.size + 4), ("_law_j", 6, s.heap.objs.size + 3), ("_law_found", 5, s.heap.objs.size + 2)] rfl rfl (by decide +kernel) (by decide +kernel) rfl (by decide +kernel) rfl rfl (by intro p hp; simp only [List.mem_cons, List.not_mem_nil, or_false] at hp; rcases hp with rfl | rfl | rfl <;> exact ⟨rfl, rfl, rfl, rfl⟩)) (pi_range1 rfl T.z_range (pa_cons pe_int pa_nil)) (fun _ _ _ _ _ => (pts_one (PW.pt (pw_and (pt_val (pe_ix xc_list (pe_ix xc_list (cv 3) (cv 1) (fun _ _ => rfl)) (cv 0) (fun _ _ => rfl))) (pw_and1 (pt_not (pt_val (pe_ix xc_list (pe_ix xc_list (cv 3) (cv 2) (fun _ _ => rfl)) (cv 0) (fun _ _ => rfl))))))))) (fun _ _ _ _ _ => (cv 0)) sc_law.nd rfl (Or.inl rfl))
          (pss_one (ps_if (PW.pt (pw_and (pt_val (pe_ix xc_list (pe_ix xc_list (cv 5) (cv 6) (fun _ _ => rfl)) (cv 7) (fun _ _ => rfl))) (pw_and1 (ptc_cmpR oc_gt (pe_callB call_len_seq rfl T.z_len bt_len (pa_cons (cv 8) pa_nil)) pe_int (nomark _)))))
            (pss_one (ps_ret pe_bl))
            pss_nil)))))))))
      (pss_one (ps_set (i := 2) sc_law.nd rfl (Or.inl rfl) (pe_ix xc_list (cv 3) pe_int (fun _ _ => rfl))))))))
    (pss_one (ps_ret pe_bl))))), ?_⟩
  have sl : sizeLine = 16777216 := sizeLine_eq
  obtain ⟨ms, em, lm⟩ := cut_ints ns none (some 1)
  obtain ⟨ks, ek, lk⟩ := cut_ints ns (some 1) none
  refine ⟨_, rfl, ad, _, rfl, hsq, fun c1 hc1 => ⟨c1, ms, rfl, SqL.of (by rw [upd_same, em]), fun n0 => ⟨n0, rfl, fun wl H1 S1 _ hw => ?_⟩⟩⟩
  have Sw := (same_new hc1 (.lst (cutV (ns.map V.int) none (some 1)))).trans S1
  dsimp only [gName]
  refine ⟨(by show 1 ≤ sizeLine; decide), fun b hb => ?_⟩
  have S2 := same_new hb (.tup [.str "num"])
  have ib : Im (upd H1 b (.tup [.str "num"])) (.ref b) Kd.num.d := by
    rw [Kd.d]
    exact im_newK (ds := [sD "num"]) hb (.cons (.flat rfl) .nil)
  generalize upd H1 b (.tup [.str "num"]) = H2 at S2 ib ⊢
  dsimp only [gName]
  refine ⟨_, rfl, ad, _, rfl, (Sw.trans S2).seq hsq, fun c2 hc2 => ?_⟩
  have s3 := same_new hc2 (.lst (cutV (ns.map V.int) (some 1) none))
  have e3 : (upd H2 c2 (.lst (cutV (ns.map V.int) (some 1) none))) c2 = some (.lst (ks.map V.int)) := by rw [upd_same, ek]
  generalize upd H2 c2 (.lst (cutV (ns.map V.int) (some 1) none)) = H3 at s3 e3 ⊢
  refine ⟨wl, c2, ks, 4, rfl, (hw.same S2).same s3, e3, by omega, fun st H4 S4 _ stk => ?_⟩
  obtain ⟨xs, est, _, hxs⟩ := stk
  have ib4 := ib.mono (Same.tk (s3.trans S4))
  refine ⟨st, rfl, ⟨_, SqL.of est⟩, for_list (xs := xs) (fun i σ H5 => ∃ (b : V) (kb : Kd) (o3 o4 o5 o6 o7 o8 : Option V), σ = [some (.ref ad), some (.ref wl), some b, o3, o4, o5, o6, o7, o8] ∧ Same H4 H5 ∧ Im H5 b kb.d ∧ G kb)
    ⟨.ref b, .num, none, none, none, none, none, none, rfl, Same.refl _, ib4, by rw [Kd.ok]; trivial, by rw [Kd.sz]; decide⟩ (fun i σ H5 _ ⟨_, _, _, _, _, _, _, _, _, S, _⟩ => SqL.of (S _ _ est)) ?_ ?_⟩
  · rintro i v σ H5 hv ⟨b, kb, o3, o4, o5, o6, o7, o8, rfl, S5, ib5, gb⟩
    obtain ⟨t, rfl, _, tr⟩ := hxs v (List.mem_of_getElem? hv)
    have tr5 := tr.same S5
    obtain ⟨x3, k3, ti, tj, et, ik, lk3, hk3, j1, j20⟩ := id tr5
    have lx3 := ik.length
    rw [List.length_map, lk3] at lx3
    dsimp only [gName]
    refine ⟨_, rfl, t, _, rfl, SqL.of et, fun c3 hc3 => ?_⟩
    have s6 := same_new hc3 (.lst (cutV (x3 ++ [.int ti, .int tj]) none (some 3)))
    have e6 : (upd H5 c3 (.lst (cutV (x3 ++ [.int ti, .int tj]) none (some 3)))) c3 = some (.lst x3) := by rw [upd_same, cut3 lx3]
    generalize upd H5 c3 (.lst (cutV (x3 ++ [.int ti, .int tj]) none (some 3))) = H6 at s6 e6 ⊢
    refine ⟨(by show 1 ≤ sizeLine; decide), fun p hp => ?_⟩
    have s7 := same_new hp (.lst [b])
    refine ⟨c3, p, x3, _, rfl, rfl, s7 _ _ e6, upd_same, (by show x3.length + 1 ≤ sizeLine; omega), fun kl hkl => ?_⟩
    have s8 := same_new hkl (.lst (x3 ++ [b]))
    have S58 := (s6.trans s7).trans s8
    have ekl : (upd (upd H6 p (.lst [b])) kl (.lst (x3 ++ [b]))) kl = some (.lst (x3 ++ [b])) := upd_same
    have iks : Ims (upd (upd H6 p (.lst [b])) kl (.lst (x3 ++ [b]))) (x3 ++ [b]) ((k3 ++ [kb]).map Kd.d) := by
      rw [List.map_append]
      exact (ik.mono (Same.tk S58)).app (.cons (ib5.mono (Same.tk S58)) .nil)
    have hG : ∀ k ∈ k3 ++ [kb], G k := fun k hk => by
      rcases List.mem_append.mp hk with hk | hk
      · exact ⟨(hk3 k hk).1, by have := (hk3 k hk).2; omega⟩
      · rw [List.mem_singleton.mp hk]; exact gb
    have l4 : (k3 ++ [kb]).length = 4 := by rw [List.length_append, lk3]; rfl
    have lz4 : (x3 ++ [b]).length = 4 := by rw [List.length_append, lx3]; rfl
    dsimp only [gName]
    generalize upd (upd H6 p (.lst [b])) kl (.lst (x3 ++ [b])) = H8 at S58 ekl iks ⊢
    clear s6 e6 s7 s8 hp hkl hc3 ik
    have hd0 : ∃ k0, (k3 ++ [kb])[0]? = some k0 := ⟨_, List.getElem?_eq_getElem (by omega)⟩
    generalize hkd : k3 ++ [kb] = kd at iks hG l4 hd0
    generalize hzs : x3 ++ [b] = zs at ekl iks lz4 ⊢
    have kat : ∀ {n : Nat} {k : Kd} {H : Hp}, kd[n]? = some k → Same H8 H → ∃ v, zs[n]? = some v ∧ Im H v k.d := fun {n k H} hn S => by
      have ln : n < zs.length := by have := (List.getElem?_eq_some_iff.mp hn).1; omega
      obtain ⟨d, hd, im⟩ := KK.Internal.Ims.atK (iks.mono (Same.tk S)) (List.getElem?_eq_getElem ln)
      rw [List.getElem?_map, hn] at hd
      cases hd
      exact ⟨_, List.getElem?_eq_getElem ln, im⟩
    -- what was found
    refine ⟨kl, rfl, ⟨_, SqL.of ekl⟩, fun D hD => ?_⟩
    refine lc_genF zs.length (by omega) (RowsF kd D) (fun xs H H' ⟨l, h1, h2⟩ f => ⟨l, h1, fun j a k ha hk => ⟨(h2 j a k ha hk).1, f _ _ (h2 j a k ha hk).2 (h2 j a k ha hk).1⟩⟩) hD rfl (fun k H S hk => go_lst ekl S hk) (fun H S => st_lst ekl S) ⟨[], rfl, fun j a k h => by simp at h⟩ ?_ ?_
    · rintro k H9 v H10 ys Z S9 hk ⟨rfl, hv9⟩ ⟨l, rfl, hl⟩ hlk eD z
      have hv2 := hv9 _ (SqL.of (S9 _ _ ekl))
      have ekl9 := S9 _ _ ekl
      obtain ⟨k1, hk1⟩ : ∃ k1, kd[k]? = some k1 := ⟨_, List.getElem?_eq_getElem (by omega)⟩
      obtain ⟨v', hv', imv⟩ := kat hk1 S9
      rw [hv2] at hv'
      cases hv'
      refine ⟨kl, rfl, ⟨_, SqL.of ekl9⟩, fun D2 hD2 => ?_⟩
      refine lc_gen zs.length (by omega) (fun ys _ => ys = rowB (kd.take ys.length) k1) (fun xs _ _ h _ => h) hD2 rfl (fun k H S hk => go_lst ekl9 S hk) (fun H S => st_lst ekl9 S) rfl ?_ ?_
      · rintro k' H11 u H12 ys Z2 S11 hk' ⟨rfl, hu⟩ hys hlk' z2
        have hu2 := hu _ (SqL.of (S11 _ _ ekl9))
        obtain ⟨k2, hk2⟩ : ∃ k2, kd[k']? = some k2 := ⟨_, List.getElem?_eq_getElem (by omega)⟩
        obtain ⟨u', hu', imu⟩ := kat hk2 (S9.trans S11)
        rw [hu2] at hu'
        cases hu'
        refine ⟨v, u, k1, k2, rfl, imv.mono (Same.tk S11), imu, hG _ (List.mem_of_getElem? hk1), hG _ (List.mem_of_getElem? hk2), fun H13 S13 => z2 _ _ S13 ?_⟩
        rw [hlk'] at hys
        rw [List.length_append, List.length_singleton, hlk', List.take_add_one, hk2, hys, rowB, rowB, List.map_append]
        rfl
      · rintro H11 ys S11 hys hly eD2
        rw [hly, List.take_of_length_le (by omega)] at hys
        subst hys
        refine z _ _ S11 ⟨l ++ [D2], by rw [List.map_append]; rfl, fun j a k ha hka => ?_⟩
        rw [List.length_map] at hlk
        by_cases hj : j < l.length
        · rw [List.getElem?_append_left hj] at ha
          obtain ⟨h1, h2⟩ := hl j a k ha hka
          exact ⟨h1, S11 _ _ h2⟩
        · have hj2 : j = l.length := by
            have := (List.getElem?_eq_some_iff.mp ha).1
            rw [List.length_append, List.length_singleton] at this
            omega
          rw [hj2, List.getElem?_append_right (Nat.le_refl _), Nat.sub_self] at ha
          cases ha
          rw [hj2, hlk, hk1] at hka
          cases hka
          exact ⟨Ne.symm (ne_of_none eD hD2), eD2⟩
    rintro H9 ys S9 ⟨l, rfl, hl⟩ hly eD
    rw [List.length_map] at hly
    have ekl9 := S9 _ _ ekl
    dsimp only [gName]
    -- of two of them
    have fat : ∀ {H : Hp} {j k : Nat} {a b : Kd}, Same H9 H → kd[j]? = some a → kd[k]? = some b → ∃ r row, H D = some (.lst (l.map V.ref)) ∧ atI (l.map V.ref) (0 + (j : Int)) = some (.ref r) ∧ H r = some (.lst row) ∧ atI row (0 + (k : Int)) = some (.bl (und a b)) := fun {H j k a b} S hj hk => by
      have ln : j < l.length := by have := (List.getElem?_eq_some_iff.mp hj).1; omega
      have e1 : l[j]? = some l[j] := List.getElem?_eq_getElem ln
      obtain ⟨_, h2⟩ := hl j _ a e1 hj
      rw [Int.zero_add, Int.zero_add]
      exact ⟨l[j], _, S _ _ eD, atI_nat (by rw [List.getElem?_map, e1]; rfl), S _ _ h2, atI_nat (by rw [rowB, List.getElem?_map, hk]; rfl)⟩
    have zat : ∀ {H : Hp} {j : Nat} {a : Kd}, Same H9 H → kd[j]? = some a → ∃ v, H kl = some (.lst zs) ∧ atI zs (0 + (j : Int)) = some v ∧ Im H v a.d := fun {H j a} S hj => by
      obtain ⟨v, h1, h2⟩ := kat hj (S9.trans S)
      rw [Int.zero_add]
      exact ⟨v, S _ _ ekl9, atI_nat h1, h2⟩
    refine ⟨4, rfl, by decide, by decide, for_range (fun j σ H10 => ∃ (o6 o7 o8 : Option V), σ = [some (.ref ad), some (.ref wl), some b, some (.ref t), some (.ref kl), some (.ref D), o6, o7, o8] ∧ Same H9 H10)
      ⟨_, _, _, rfl, Same.refl _⟩ ?_ ?_⟩
    · rintro j σ H10 hj ⟨o6, o7, o8, rfl, S10⟩
      have hj4 : j < 4 := hj
      obtain ⟨a, ha⟩ : ∃ a, kd[j]? = some a := ⟨_, List.getElem?_eq_getElem (by omega)⟩
      have ga := hG a (List.mem_of_getElem? ha)
      obtain ⟨r, row, h1, h2, h3, h4⟩ := fat S10 ha ha
      rw [und_refl _ a (Nat.le_refl _) ga] at h4
      dsimp only [gName]
      refine ⟨_, h1, onS_of h2 ⟨_, h3, onS_of h4 ?_⟩⟩
      dsimp only [cNotB, onB, tC]
      obtain ⟨v, hz1, hz2, imv⟩ := zat S10 ha
      refine iteF ⟨_, hz1, onS_of hz2 ⟨(by show 1 ≤ sizeLine; decide), fun ta hta => ?_⟩⟩
      have s11 := same_new hta (.tup [.str "any"])
      have iany : Im (upd H10 ta (.tup [.str "any"])) (.ref ta) Kd.any.d := by
        rw [Kd.d]
        exact im_newK (ds := [sD "any"]) hta (.cons (.flat rfl) .nil)
      refine ⟨v, .ref ta, a, .any, rfl, imv.mono (Same.tk s11), iany, ga, ⟨by rw [Kd.ok]; trivial, by rw [Kd.sz]; decide⟩, fun H12 S12 => ?_⟩
      rw [und_any ga]
      dsimp only [cNotB, onB, tC]
      refine iteF ?_
      have S1012 := s11.trans S12
      -- under all
      refine ⟨(by show 0 ≤ sizeLine; decide), fun t0 ht0 => ⟨(by show 2 ≤ sizeLine; decide), fun t1 ht1 => ?_⟩⟩
      have i0 := im_newK (ds := []) ht0 .nil
      have ino : Im (upd (upd H12 t0 (.tup [])) t1 (.tup [.str "choice", .ref t0])) (.ref t1) (Kd.ch .nil).d := by
        rw [Kd.d, Kds.ds]
        exact im_newK (ds := [sD "choice", .tup []]) ht1 (.cons (.flat rfl) (.cons i0 .nil))
      have s13 := (same_new ht0 (.tup [])).trans (same_new ht1 (.tup [.str "choice", .ref t0]))
      generalize upd (upd H12 t0 (.tup [])) t1 (.tup [.str "choice", .ref t0]) = H13 at s13 ino ⊢
      have S13 := (S10.trans S1012).trans s13
      obtain ⟨v', hz1', hz2', imv'⟩ := zat S13 ha
      refine ⟨_, hz1', onS_of hz2' ⟨.ref t1, v', .ch .nil, a, rfl, ino, imv', ⟨by simp [Kd.ok, Kds.ok, Kds.toL], by simp [Kd.sz, Kds.sz]⟩, ga, fun H14 S14 => ?_⟩⟩
      rw [und_no ga]
      dsimp only [cNotB, onB, tC]
      refine iteF ?_
      have S914 := S13.trans S14
      refine ⟨4, rfl, by decide, by decide, for_range (fun k σ H15 => ∃ (o7 o8 : Option V), σ = [some (.ref ad), some (.ref wl), some b, some (.ref t), some (.ref kl), some (.ref D), some (.int (0 + (j : Int))), o7, o8] ∧ Same H9 H15)
        ⟨_, _, rfl, S914⟩ ?_ ?_⟩
      · rintro k σ H15 hk ⟨o7, o8, rfl, S15⟩
        have hk4 : k < 4 := hk
        obtain ⟨c, hc⟩ : ∃ c, kd[k]? = some c := ⟨_, List.getElem?_eq_getElem (by omega)⟩
        have gc := hG c (List.mem_of_getElem? hc)
        dsimp only [gName]
        refine and3 (und a c) (und c a) (fun Z hZ => ?_) (fun Z hZ => ?_) (fun u1 u2 Z hZ => ?_) (iteF ?_)
        · obtain ⟨r, row, h1, h2, h3, h4⟩ := fat S15 ha hc
          exact ⟨_, h1, onS_of h2 ⟨_, h3, onS_of h4 hZ⟩⟩
        · obtain ⟨r, row, h1, h2, h3, h4⟩ := fat S15 hc ha
          exact ⟨_, h1, onS_of h2 ⟨_, h3, onS_of h4 hZ⟩⟩
        · obtain rfl := und_eq ga gc u1 u2
          obtain ⟨v1, y1, y2, m1⟩ := zat S15 ha
          obtain ⟨v2, y3, y4, m2⟩ := zat S15 hc
          refine ⟨_, y1, onS_of y2 ⟨_, y3, onS_of y4 ?_⟩⟩
          obtain ⟨t1, rfl⟩ : ∃ t1, v1 = .ref t1 := by rw [d_eq] at m1; cases m1; exact ⟨_, rfl⟩
          obtain ⟨t2, rfl⟩ : ∃ t2, v2 = .ref t2 := by rw [d_eq] at m2; cases m2; exact ⟨_, rfl⟩
          have dd := im_eq m1
          refine ⟨t1, t2, a.d, a.d, rfl, rfl, im_at m1, im_at m2, dd.2, ?_, ?_⟩
          · have := dep_d a
            have := ga.2
            omega
          · show Z (.bl (!eqD a.d a.d)) _
            rw [dd.1]
            exact hZ
        -- what is lost
        refine ⟨4, rfl, by decide, by decide, fun D2 hD2 => ?_⟩
        refine lc_ofB (xs := (List.range 4).map fun n : Nat => V.int (0 + (n : Int))) (lostP kd a c) id hD2 (by show 4 ≤ sizeLine; decide) rfl (fun k H _ hk => show k < 4 from by rw [List.length_map, List.length_range] at hk; exact hk) (fun k H v H' _ hk y => ?_) (fun H _ => Nat.le_refl _) ?_ ?_ ?_
        · obtain ⟨rfl, rfl⟩ := y
          have h4 : k < 4 := by simpa using hk
          exact ⟨rfl, by rw [List.getElem?_map, List.getElem?_range h4]; rfl⟩
        · intro n v H16 R hn S16 hR
          obtain ⟨h4, rfl⟩ : n < 4 ∧ v = .int (0 + (n : Int)) := by
            have h4 : n < 4 := by simpa using (List.getElem?_eq_some_iff.mp hn).1
            rw [List.getElem?_map, List.getElem?_range h4] at hn
            exact ⟨h4, (Option.some.inj hn).symm⟩
          obtain ⟨m, hm⟩ : ∃ m, kd[n]? = some m := ⟨_, List.getElem?_eq_getElem (by omega)⟩
          have hp : lostP kd a c (.int (0 + (n : Int))) = (und c m && !und a m) := by
            rw [lostP, Int.zero_add, Int.toNat_natCast, hm]
          rw [hp] at hR
          refine and_not (und c m) (und a m) (fun Z hZ => ?_) (fun Z hZ => ?_) hR
          · obtain ⟨r, row, h1, h2, h3, h4⟩ := fat (S15.trans S16) hc hm
            exact ⟨_, h1, onS_of h2 ⟨_, h3, onS_of h4 hZ⟩⟩
          · obtain ⟨r, row, h1, h2, h3, h4⟩ := fat (S15.trans S16) ha hm
            exact ⟨_, h1, onS_of h2 ⟨_, h3, onS_of h4 hZ⟩⟩
        · intro n v H16 R hn _ S16 hR
          exact hR
        · intro H16 S16 eL
          dsimp only [gName]
          refine and2 (und a c) (fun Z hZ => ?_) (fun u1 Z hZ => ?_) (iteF ⟨_, _, rfl, S15.trans S16⟩)
          · obtain ⟨r, row, h1, h2, h3, h4⟩ := fat (S15.trans S16) ha hc
            exact ⟨_, h1, onS_of h2 ⟨_, h3, onS_of h4 hZ⟩⟩
          · rw [List.filter_eq_nil_iff.mpr (fun v _ => by rw [lost_none hG ga gc u1 v]; exact Bool.false_ne_true), List.map_nil] at eL
            exact ⟨D2, [], rfl, .inl (SqL.of eL), hZ⟩
      · rintro σ H15 ⟨o7', o8', rfl, S15⟩
        exact ⟨_, _, _, rfl, S15⟩
    · rintro σ H10 ⟨o6', o7', o8', rfl, S10⟩
      have hz := S10 _ _ (S9 _ _ (S58 _ _ et))
      obtain ⟨k0, hk0⟩ : ∃ k0, k3[0]? = some k0 := ⟨_, List.getElem?_eq_getElem (by omega)⟩
      obtain ⟨v0, hv0⟩ : ∃ v0, x3[0]? = some v0 := ⟨_, List.getElem?_eq_getElem (by omega)⟩
      have hm := hk3 k0 (List.mem_of_getElem? hk0)
      obtain ⟨v0', hv0', im0⟩ := kat (H := H10) (n := 0) (k := k0) (by rw [← hkd, List.getElem?_append_left (by omega)]; exact hk0) (S9.trans S10)
      rw [← hzs, List.getElem?_append_left (by omega), hv0] at hv0'
      cases hv0'
      refine ⟨_, hz, onS_of (atI_nat (j := 0) (by rw [List.getElem?_append_left (by omega)]; exact hv0)) ?_⟩
      dsimp only [gName]
      exact ⟨v0, k0, _, _, _, _, _, _, rfl, ((S5.trans S58).trans S9).trans S10, im0, hm.1, by have := hm.2; omega⟩
  · rintro σ H5 ⟨b, kb, o3, o4, o5, o6, o7, o8, rfl, S5, _⟩
    exact q _
end
end K51.Internal
namespace K51.Internal
open PySem L2.Internal
theorem all_mk {l : PySem.W.OpenLaw} {w : World} {K : PySem.W.Frag} {h : Heap} {mg : Str → Option Value} {fa fL : Addr} (X : K.In h) (G : h.Ns mainGlobals mg) (hfa : mg "law" = some (.ref fa))
    {f1 : Addr} {od1 an1 : Option Addr} {sl1 : Array (Option Value)} {oc1 kV1 dc1 pm1 cd1 ct1 : Value} {f2 : Addr} {od2 an2 : Option Addr} {sl2 : Array (Option Value)} {oc2 kV2 dc2 pm2 cd2 ct2 : Value} {f3 : Addr} {od3 an3 : Option Addr} {sl3 : Array (Option Value)} {oc3 kV3 dc3 pm3 cd3 ct3 : Value} {f4 : Addr} {od4 an4 : Option Addr} {sl4 : Array (Option Value)} {oc4 kV4 dc4 pm4 cd4 ct4 : Value} {f5 : Addr} {od5 an5 : Option Addr} {sl5 : Array (Option Value)} {oc5 kV5 dc5 pm5 cd5 ct5 : Value} {f6 : Addr} {od6 an6 : Option Addr} {sl6 : Array (Option Value)} {oc6 kV6 dc6 pm6 cd6 ct6 : Value} {f7 : Addr} {od7 an7 : Option Addr} {sl7 : Array (Option Value)} {oc7 kV7 dc7 pm7 cd7 ct7 : Value} {f8 : Addr} {od8 an8 : Option Addr} {sl8 : Array (Option Value)} {oc8 kV8 dc8 pm8 cd8 ct8 : Value} {f9 : Addr} {od9 an9 : Option Addr} {sl9 : Array (Option Value)} {oc9 kV9 dc9 pm9 cd9 ct9 : Value} {f10 : Addr} {od10 an10 : Option Addr} {sl10 : Array (Option Value)} {oc10 kV10 dc10 pm10 cd10 ct10 : Value} {f11 : Addr} {od11 an11 : Option Addr} {sl11 : Array (Option Value)} {oc11 kV11 dc11 pm11 cd11 ct11 : Value}
    {odL anL : Option Addr} {slL : Array (Option Value)} {ocL kVL dcL pmL cdL ctL : Value}
    (a1 : PySem.W.nsIn K mainGlobals "under" = some (some (.ref f1)))
    (l1 : K.lookup f1 = some ⟨oc1, od1, .func (PySem.W.fnOf "under" "under" (defArgs s_under) (defBody s_under) (defScope s_under) .none kV1 dc1 pm1 an1 cd1 ct1), sl1⟩)
    (c1 : PySem.W.codeIn K cd1 "under" = true)
    (k1 : PySem.W.keepIn K (.ref f1) = true)
    (a2 : PySem.W.nsIn K mainGlobals "pairs_wanted" = some (some (.ref f2)))
    (l2 : K.lookup f2 = some ⟨oc2, od2, .func (PySem.W.fnOf "pairs_wanted" "pairs_wanted" (defArgs s_pairs_wanted) (defBody s_pairs_wanted) (defScope s_pairs_wanted) .none kV2 dc2 pm2 an2 cd2 ct2), sl2⟩)
    (c2 : PySem.W.codeIn K cd2 "pairs_wanted" = true)
    (k2 : PySem.W.keepIn K (.ref f2) = true)
    (a3 : PySem.W.nsIn K mainGlobals "pairs_by_word" = some (some (.ref f3)))
    (l3 : K.lookup f3 = some ⟨oc3, od3, .func (PySem.W.fnOf "pairs_by_word" "pairs_by_word" (defArgs s_pairs_by_word) (defBody s_pairs_by_word) (defScope s_pairs_by_word) .none kV3 dc3 pm3 an3 cd3 ct3), sl3⟩)
    (c3 : PySem.W.codeIn K cd3 "pairs_by_word" = true)
    (k3 : PySem.W.keepIn K (.ref f3) = true)
    (a4 : PySem.W.nsIn K mainGlobals "_law_stem" = some (some (.ref f4)))
    (l4 : K.lookup f4 = some ⟨oc4, od4, .func (PySem.W.fnOf "_law_stem" "_law_stem" (defArgs s__law_stem) (defBody s__law_stem) (defScope s__law_stem) .none kV4 dc4 pm4 an4 cd4 ct4), sl4⟩)
    (c4 : PySem.W.codeIn K cd4 "_law_stem" = true)
    (k4 : PySem.W.keepIn K (.ref f4) = true)
    (a5 : PySem.W.nsIn K mainGlobals "_law_words" = some (some (.ref f5)))
    (l5 : K.lookup f5 = some ⟨oc5, od5, .func (PySem.W.fnOf "_law_words" "_law_words" (defArgs s__law_words) (defBody s__law_words) (defScope s__law_words) .none kV5 dc5 pm5 an5 cd5 ct5), sl5⟩)
    (c5 : PySem.W.codeIn K cd5 "_law_words" = true)
    (k5 : PySem.W.keepIn K (.ref f5) = true)
    (a6 : PySem.W.nsIn K mainGlobals "_law_mix" = some (some (.ref f6)))
    (l6 : K.lookup f6 = some ⟨oc6, od6, .func (PySem.W.fnOf "_law_mix" "_law_mix" (defArgs s__law_mix) (defBody s__law_mix) (defScope s__law_mix) .none kV6 dc6 pm6 an6 cd6 ct6), sl6⟩)
    (c6 : PySem.W.codeIn K cd6 "_law_mix" = true)
    (k6 : PySem.W.keepIn K (.ref f6) = true)
    (a7 : PySem.W.nsIn K mainGlobals "_law_leaf" = some (some (.ref f7)))
    (l7 : K.lookup f7 = some ⟨oc7, od7, .func (PySem.W.fnOf "_law_leaf" "_law_leaf" (defArgs s__law_leaf) (defBody s__law_leaf) (defScope s__law_leaf) .none kV7 dc7 pm7 an7 cd7 ct7), sl7⟩)
    (c7 : PySem.W.codeIn K cd7 "_law_leaf" = true)
    (k7 : PySem.W.keepIn K (.ref f7) = true)
    (a8 : PySem.W.nsIn K mainGlobals "_law_pop" = some (some (.ref f8)))
    (l8 : K.lookup f8 = some ⟨oc8, od8, .func (PySem.W.fnOf "_law_pop" "_law_pop" (defArgs s__law_pop) (defBody s__law_pop) (defScope s__law_pop) .none kV8 dc8 pm8 an8 cd8 ct8), sl8⟩)
    (c8 : PySem.W.codeIn K cd8 "_law_pop" = true)
    (k8 : PySem.W.keepIn K (.ref f8) = true)
    (a9 : PySem.W.nsIn K mainGlobals "_law_fields" = some (some (.ref f9)))
    (l9 : K.lookup f9 = some ⟨oc9, od9, .func (PySem.W.fnOf "_law_fields" "_law_fields" (defArgs s__law_fields) (defBody s__law_fields) (defScope s__law_fields) .none kV9 dc9 pm9 an9 cd9 ct9), sl9⟩)
    (c9 : PySem.W.codeIn K cd9 "_law_fields" = true)
    (k9 : PySem.W.keepIn K (.ref f9) = true)
    (a10 : PySem.W.nsIn K mainGlobals "_law_knit" = some (some (.ref f10)))
    (l10 : K.lookup f10 = some ⟨oc10, od10, .func (PySem.W.fnOf "_law_knit" "_law_knit" (defArgs s__law_knit) (defBody s__law_knit) (defScope s__law_knit) .none kV10 dc10 pm10 an10 cd10 ct10), sl10⟩)
    (c10 : PySem.W.codeIn K cd10 "_law_knit" = true)
    (k10 : PySem.W.keepIn K (.ref f10) = true)
    (a11 : PySem.W.nsIn K mainGlobals "_law_triples" = some (some (.ref f11)))
    (l11 : K.lookup f11 = some ⟨oc11, od11, .func (PySem.W.fnOf "_law_triples" "_law_triples" (defArgs s__law_triples) (defBody s__law_triples) (defScope s__law_triples) .none kV11 dc11 pm11 an11 cd11 ct11), sl11⟩)
    (c11 : PySem.W.codeIn K cd11 "_law_triples" = true)
    (k11 : PySem.W.keepIn K (.ref f11) = true)
    (z_dict : PySem.W.nsIn K mainGlobals "dict" = some none)
    (z_enumerate : PySem.W.nsIn K mainGlobals "enumerate" = some none)
    (z_len : PySem.W.nsIn K mainGlobals "len" = some none)
    (z_max : PySem.W.nsIn K mainGlobals "max" = some none)
    (z_range : PySem.W.nsIn K mainGlobals "range" = some none)
    (z_sorted : PySem.W.nsIn K mainGlobals "sorted" = some none)
    (z_sum : PySem.W.nsIn K mainGlobals "sum" = some none)
    (z_tuple : PySem.W.nsIn K mainGlobals "tuple" = some none)
    (aL : PySem.W.nsIn K mainGlobals "law" = some (some (.ref fL))) (lL : K.lookup fL = some ⟨ocL, odL, .func (PySem.W.fnOf "law" "law" (defArgs s_law) (defBody s_law) (defScope s_law) .none kVL dcL pmL anL cdL ctL), slL⟩) (cL : PySem.W.codeIn K cdL "law" = true) (kL : PySem.W.keepIn K (.ref fL) = true) :
    ∃ fd : FuncData, (∀ (s : Shared) (v : Value), BindsTo s fd ⟨[v], []⟩ [("_law_script", v)]) ∧ ∀ base : Heap, K.In base → base.Ns mainGlobals mg → FnOk l.prog w K mg base CX0 40 fa fd ["_law_script"] (sp_law K) := by
  have e := hfa.symm.trans (PySem.W.mg_of X G aL)
  cases e
  have T : Txt K mg := ⟨f1, _, fun_mk (st := s_under) l1 c1 k1, (fun_mk (st := s_under) l1 c1 k1).binds (ps := ["one", "other"]) (fun _ _ _ _ _ _ => lS (fun _ => lS (fun _ => l0 rfl))), PySem.W.mg_of X G a1, k1,
    f2, _, fun_mk (st := s_pairs_wanted) l2 c2 k2, (fun_mk (st := s_pairs_wanted) l2 c2 k2).binds (ps := ["one", "other"]) (fun _ _ _ _ _ _ => lS (fun _ => lS (fun _ => l0 rfl))), PySem.W.mg_of X G a2, k2,
    f3, _, fun_mk (st := s_pairs_by_word) l3 c3 k3, (fun_mk (st := s_pairs_by_word) l3 c3 k3).binds (ps := ["wanted", "ones", "others"]) (fun _ _ _ _ _ _ => lS (fun _ => lS (fun _ => lS (fun _ => l0 rfl)))), PySem.W.mg_of X G a3, k3,
    f4, _, fun_mk (st := s__law_stem) l4 c4 k4, (fun_mk (st := s__law_stem) l4 c4 k4).binds (ps := ["_law_cell", "_law_size"]) (fun _ _ _ _ _ _ => lS (fun _ => lS (fun _ => l0 rfl))), PySem.W.mg_of X G a4, k4,
    f5, _, fun_mk (st := s__law_words) l5 c5 k5, (fun_mk (st := s__law_words) l5 c5 k5).binds (ps := ["_law_cell"]) (fun _ _ _ _ _ _ => lS (fun _ => l0 rfl)), PySem.W.mg_of X G a5, k5,
    f6, _, fun_mk (st := s__law_mix) l6 c6 k6, (fun_mk (st := s__law_mix) l6 c6 k6).binds (ps := ["_law_cell", "_law_k"]) (fun _ _ _ _ _ _ => lS (fun _ => lS (fun _ => l0 rfl))), PySem.W.mg_of X G a6, k6,
    f7, _, fun_mk (st := s__law_leaf) l7 c7 k7, (fun_mk (st := s__law_leaf) l7 c7 k7).binds (ps := ["_law_c"]) (fun _ _ _ _ _ _ => lS (fun _ => l0 rfl)), PySem.W.mg_of X G a7, k7,
    f8, _, fun_mk (st := s__law_pop) l8 c8 k8, (fun_mk (st := s__law_pop) l8 c8 k8).binds (ps := ["_law_stack"]) (fun _ _ _ _ _ _ => lS (fun _ => l0 rfl)), PySem.W.mg_of X G a8, k8,
    f9, _, fun_mk (st := s__law_fields) l9 c9 k9, (fun_mk (st := s__law_fields) l9 c9 k9).binds (ps := ["_law_words_here", "_law_stack", "_law_shape", "_law_c"]) (fun _ _ _ _ _ _ => lS (fun _ => lS (fun _ => lS (fun _ => lS (fun _ => l0 rfl))))), PySem.W.mg_of X G a9, k9,
    f10, _, fun_mk (st := s__law_knit) l10 c10 k10, (fun_mk (st := s__law_knit) l10 c10 k10).binds (ps := ["_law_words_here", "_law_stack", "_law_c"]) (fun _ _ _ _ _ _ => lS (fun _ => lS (fun _ => lS (fun _ => l0 rfl)))), PySem.W.mg_of X G a10, k10,
    f11, _, fun_mk (st := s__law_triples) l11 c11 k11, (fun_mk (st := s__law_triples) l11 c11 k11).binds (ps := ["_law_words_here", "_law_cells", "_law_nest", "_law_size"]) (fun _ _ _ _ _ _ => lS (fun _ => lS (fun _ => lS (fun _ => lS (fun _ => l0 rfl))))), PySem.W.mg_of X G a11, k11,
    PySem.W.mg_none_of X G z_dict,
    PySem.W.mg_none_of X G z_enumerate,
    PySem.W.mg_none_of X G z_len,
    PySem.W.mg_none_of X G z_max,
    PySem.W.mg_none_of X G z_range,
    PySem.W.mg_none_of X G z_sorted,
    PySem.W.mg_none_of X G z_sum,
    PySem.W.mg_none_of X G z_tuple⟩
  exact ⟨PySem.W.fnOf "law" "law" (defArgs s_law) (defBody s_law) (defScope s_law) .none kVL dcL pmL anL cdL ctL, fun s v => .of_eq rfl, fun base _ _ => all_law T (fun_mk (st := s_law) lL cL kL)⟩
theorem walk {l : PySem.W.OpenLaw} {q : Program} {loose : List Str} {XP : (Str → Option Value) → Heap → Prop} {YP : World → Heap → Prop} {d : DefRec} {K : Params → PySem.W.Frag} (hn : l.most = some 63) (hdf : d.params.defaults = [])
    (hY : ∀ (w : World) (h : Heap), YP w h → (K w.params).In h)
    (F : ∀ (w : World) (mg : Str → Option Value) (fa : Addr) (h : Heap), (K w.params).In h → h.Ns mainGlobals mg → mg d.name = some (.ref fa) →
      ∃ fd : FuncData, (∀ (s : Shared) (u : Value), BindsTo s fd ⟨[u], []⟩ [("_law_script", u)]) ∧ ∀ base : Heap, (K w.params).In base → base.Ns mainGlobals mg → FnOk l.prog w (K w.params) mg base CX0 40 fa fd ["_law_script"] (sp_law (K w.params))) :
    PySem.W.WalkO q loose XP YP l.row.toRowW d [] (fun f vs => PySem.call f vs) :=
  L2.Internal.walk_of (n := 63) (k := 40) (x := "_law_script") (CX := fun _ => CX0) (sp := fun w => sp_law (K w.params)) hn (by decide) hdf ⟨rfl, by decide, by decide⟩ hY F (fun _ _ a ns hl _ hS => ⟨a, ns, rfl, hS, hl, fun _ => rfl⟩) fun _ _ _ _ _ z => z
end K51.Internal
open PySem PySem.W PyProof.Rows
set_option maxRecDepth 100000 in
set_option maxHeartbeats 0 in
theorem PySem.Challenge.cw_flowkinds_k51_under_is_an_order_holds : PySem.Challenge.rw_flowkinds_k51_under_is_an_order.Holds := by
  w_on; o_law; k_head; (case hw => w_witness2)
  k_fill
  refine K51.Internal.walk (l := PySem.Challenge.rw_flowkinds_k51_under_is_an_order) rfl rfl (fun w h Y => PySem.W.kIn_of Y) ?F
  case F =>
    intro w mg fa h KX G hmg
    refine' K51.Internal.all_mk KX G hmg ?a1 ?l1 ?c1 ?k1 ?a2 ?l2 ?c2 ?k2 ?a3 ?l3 ?c3 ?k3 ?a4 ?l4 ?c4 ?k4 ?a5 ?l5 ?c5 ?k5 ?a6 ?l6 ?c6 ?k6 ?a7 ?l7 ?c7 ?k7 ?a8 ?l8 ?c8 ?k8 ?a9 ?l9 ?c9 ?k9 ?a10 ?l10 ?c10 ?k10 ?a11 ?l11 ?c11 ?k11 ?z_dict ?z_enumerate ?z_len ?z_max ?z_range ?z_sorted ?z_sum ?z_tuple ?aL ?lL ?cL ?kL
    (case a1 => k_is)
    (case l1 => k_is)
    (case c1 => k_is)
    (case k1 => k_is)
    (case a2 => k_is)
    (case l2 => k_is)
    (case c2 => k_is)
    (case k2 => k_is)
    (case a3 => k_is)
    (case l3 => k_is)
    (case c3 => k_is)
    (case k3 => k_is)
    (case a4 => k_is)
    (case l4 => k_is)
    (case c4 => k_is)
    (case k4 => k_is)
    (case a5 => k_is)
    (case l5 => k_is)
    (case c5 => k_is)
    (case k5 => k_is)
    (case a6 => k_is)
    (case l6 => k_is)
    (case c6 => k_is)
    (case k6 => k_is)
    (case a7 => k_is)
    (case l7 => k_is)
    (case c7 => k_is)
    (case k7 => k_is)
    (case a8 => k_is)
    (case l8 => k_is)
    (case c8 => k_is)
    (case k8 => k_is)
    (case a9 => k_is)
    (case l9 => k_is)
    (case c9 => k_is)
    (case k9 => k_is)
    (case a10 => k_is)
    (case l10 => k_is)
    (case c10 => k_is)
    (case k10 => k_is)
    (case a11 => k_is)
    (case l11 => k_is)
    (case c11 => k_is)
    (case k11 => k_is)
    (case z_dict => k_is)
    (case z_enumerate => k_is)
    (case z_len => k_is)
    (case z_max => k_is)
    (case z_range => k_is)
    (case z_sorted => k_is)
    (case z_sum => k_is)
    (case z_tuple => k_is)
    (case aL => k_is)
    (case lL => k_is)
    (case cL => k_is)
    (case kL => k_is)
