import PyProof.Rows.All
import Wide.All
import OpenK.AllK
import Wide.FinOn
import Lean
import PyProof.EqAt
import PyProof.EqKinds
import PyProof.TupleCall
import PyProof.NeKinds
import PySem.Challenge.RW_flowkinds_k05_not_programs
set_option Elab.async false
set_option linter.all false
set_option maxRecDepth 100000
set_option maxHeartbeats 4000000
set_option genInjectivity false
set_option genSizeOf false
set_option bootstrap.genMatcherCode false
set_option compiler.extract_closed false
namespace L2.Internal
theorem auR (h : True = True := by rfl) : True := trivial
theorem auD (h : True := by decide) : True := trivial
theorem auI (h : True → True = True := by intro _; rfl) : True := trivial
theorem auL (h : True = True ∨ True := by first | exact .inl rfl | exact .inr rfl | assumption) : True := trivial
open PySem PySem.Spec PyProof.Rows

noncomputable abbrev Key := Sum Int Str
noncomputable def keyIs : Key → Value → Bool
  | .inl k, v => Value.isInt k v
  | .inr x, v => Value.isStrOf x v
noncomputable def keyH (w : World) : Key → Int
  | .inl k => hashInt k
  | .inr x => hashStr w x
theorem keyIs_shape : ∀ {k : Key} {v : Value}, keyIs k v = true → (∃ i t, k = Sum.inl i ∧ v = Value.int i t) ∨ (∃ x t, k = Sum.inr x ∧ v = Value.str x t)
  | .inl i, v, h => by
    obtain ⟨t, e⟩ := Value.isInt_shape (k := i) (v := v) h
    exact .inl ⟨i, t, rfl, e⟩
  | .inr x, v, h => by
    obtain ⟨t, e⟩ := Value.isStrOf_shape (x := x) (v := v) h
    exact .inr ⟨x, t, rfl, e⟩
theorem keyIs_int (i : Int) (t : Tok) : keyIs (.inl i) (.int i t) = true := by simp [keyIs, Value.isInt]
theorem keyIs_str (x : Str) (t : Tok) : keyIs (.inr x) (.str x t) = true := by simp [keyIs, Value.isStrOf]
theorem key_ll (a b : Int) : decide ((Sum.inl a : Key) = Sum.inl b) = (a == b) := by
  by_cases e : a = b
  · subst e; simp
  · have h : ¬ (Sum.inl a : Key) = Sum.inl b := fun q => e (Sum.inl.inj q)
    rw [decide_eq_false h]
    exact (beq_eq_false_iff_ne.mpr e).symm
theorem key_rr (a b : Str) : decide ((Sum.inr a : Key) = Sum.inr b) = decide (a = b) := by
  by_cases e : a = b
  · subst e; simp
  · have h : ¬ (Sum.inr a : Key) = Sum.inr b := fun q => e (Sum.inr.inj q)
    rw [decide_eq_false h, decide_eq_false e]
theorem key_lr (a : Int) (b : Str) : decide ((Sum.inl a : Key) = Sum.inr b) = false := decide_eq_false (fun q => nomatch q)
theorem key_rl (a : Str) (b : Int) : decide ((Sum.inr a : Key) = Sum.inl b) = false := decide_eq_false (fun q => nomatch q)

noncomputable def mixKind (prog : Program) (w : World) : PySem.KeyKind prog w Key where
  is := keyIs
  hash := keyH w
  inj := fun v a b ha hb => by
    rcases keyIs_shape ha with ⟨i, t, rfl, rfl⟩ | ⟨x, t, rfl, rfl⟩
    · rcases keyIs_shape hb with ⟨j, u, rfl, e⟩ | ⟨y, u, rfl, e⟩
      · injection e with e1 _; rw [e1]
      · exact nomatch e
    · rcases keyIs_shape hb with ⟨j, u, rfl, e⟩ | ⟨y, u, rfl, e⟩
      · exact nomatch e
      · injection e with e1 _; rw [e1]
  byValue := fun k v h => by
    rcases keyIs_shape h with ⟨i, t, rfl, rfl⟩ | ⟨x, t, rfl, rfl⟩ <;> rfl
  pyHash := fun hv h => by
    rcases keyIs_shape hv with ⟨i, t, rfl, rfl⟩ | ⟨x, t, rfl, rfl⟩
    · exact wpAny_pyHash_int h
    · exact wpAny_pyHash_str h
  eqBool := fun hu hv h => by
    rcases keyIs_shape hu with ⟨i, t, rfl, rfl⟩ | ⟨x, t, rfl, rfl⟩
    · rcases keyIs_shape hv with ⟨j, u, rfl, rfl⟩ | ⟨y, u, rfl, rfl⟩
      · rw [key_ll] at h; exact wpAny_eqBool_int h
      · rw [key_lr] at h; exact SeqAt.EqAt.int_str i t y u _ _ _ _ h
    · rcases keyIs_shape hv with ⟨j, u, rfl, rfl⟩ | ⟨y, u, rfl, rfl⟩
      · rw [key_rl] at h; exact SeqAt.EqAt.str_int x t j u _ _ _ _ h
      · rw [key_rr] at h; exact wpAny_eqBool_str h
  «strs» := fun k x t v h => by
    rcases keyIs_shape h with ⟨i, u, rfl, e⟩ | ⟨y, u, rfl, e⟩
    · exact nomatch e
    · injection e with e1 _
      subst e1
      cases v <;> rfl

theorem mixKind_int (prog : Program) (w : World) (i : Int) (t : Tok) : (mixKind prog w).is (.inl i) (.int i t) = true := keyIs_int i t
theorem mixKind_str (prog : Program) (w : World) (x : Str) (t : Tok) : (mixKind prog w).is (.inr x) (.str x t) = true := keyIs_str x t
end L2.Internal

namespace L2.Internal
open PySem PySem.Spec PyProof.Rows

set_option genInjectivity true in
inductive V where
  | non | bl (b : Bool) | int (i : Int) | str (x : Str) | byt (b : Array UInt8) | flt (b : UInt64) | ref (a : Addr) | ty (n : String)
  deriving DecidableEq

noncomputable def RelV : V → Value → Prop
  | .non, u => u = Value.none
  | .bl b, u => u = Value.bool b
  | .int i, u => ∃ t, u = Value.int i t
  | .str x, u => ∃ t, u = Value.str x t
  | .byt b, u => ∃ t, u = Value.bytes b t
  | .flt b, u => ∃ t, u = Value.float b t
  | .ref a, u => u = Value.ref a
  | .ty n, u => u = Value.type n

noncomputable abbrev Vals : List V → List Value → Prop := Paired RelV
theorem Vals.length {xs : List V} {us : List Value} (r : Vals xs us) : xs.length = us.length := Paired.length r
theorem Vals.get : ∀ {xs : List V} {us : List Value} {i : Nat} {x : V}, Vals xs us → xs[i]? = some x → ∃ u, us[i]? = some u ∧ RelV x u
  | _, _, _, _, .nil, e => by simp at e
  | _, _, 0, _, .cons r _, e => by simp at e; subst e; exact ⟨_, rfl, r⟩
  | _, _, i + 1, x, .cons _ t, e => by
    obtain ⟨u, h1, h2⟩ := Vals.get (i := i) (x := x) t (by simpa using e)
    exact ⟨u, by simpa using h1, h2⟩
theorem Vals.set {x : V} {u : Value} (r : RelV x u) : ∀ {xs : List V} {us : List Value} (i : Nat), Vals xs us → Vals (xs.set i x) (us.set i u)
  | _, _, _, .nil => .nil
  | _, _, 0, .cons _ t => .cons r t
  | _, _, i + 1, .cons q t => .cons q (Vals.set r i t)
theorem Vals.append : ∀ {xs ys : List V} {us ws : List Value}, Vals xs us → Vals ys ws → Vals (xs ++ ys) (us ++ ws)
  | _, _, _, _, .nil, s => s
  | _, _, _, _, .cons r t, s => .cons r (Vals.append t s)
theorem Vals.take : ∀ {xs : List V} {us : List Value} (n : Nat), Vals xs us → Vals (xs.take n) (us.take n)
  | _, _, 0, _ => .nil
  | _, _, _ + 1, .nil => .nil
  | _, _, n + 1, .cons r t => .cons r (Vals.take n t)
theorem Vals.drop : ∀ {xs : List V} {us : List Value} (n : Nat), Vals xs us → Vals (xs.drop n) (us.drop n)
  | _, _, 0, r => r
  | _, _, _ + 1, .nil => .nil
  | _, _, n + 1, .cons _ t => Vals.drop n t
noncomputable def RelO : Option V → Option Value → Prop
  | some v, some u => RelV v u
  | none, none => True
  | _, _ => False
noncomputable def KV {κ : Type} : List (κ × V) → List (κ × Value) → Prop := Paired fun (p : κ × V) (q : κ × Value) => p.1 = q.1 ∧ RelV p.2 q.2

noncomputable def kV : Key → V
  | .inl i => .int i
  | .inr x => .str x

inductive HO where
  /-- a list -/
  | lst (xs : List V)
  /-- a tuple (never changes) -/
  | tup (xs : List V)
  /-- a dict whose keys are ints and texts; one whose keys are tuples of ints and texts (the empty one is both) -/
  | dK (kvs : List (Key × V)) | dT (kvs : List (List Key × V))
  /-- a set of ints: its members, its size -/
  | set (S : Int → Bool) (n : Nat)
  /-- an instance of the class at C, its dict at dx, its attributes -/
  | ins (C dx : Addr) (fs : List (Str × V))
  /-- the dict of the instance at x -/
  | own (x : Addr)
  /-- the dict of an exception -/
  | xd (fs : List (Str × V))
  /-- a bound method, f of x -/
  | met (f x : Addr)
  /-- a range object lo, lo + 1, .. below hi -/
  | rng (lo hi : Int)
  /-- a thing that is known to the object (the script; a dict while a loop walks it): read, never written while it is so -/
  | frz (o : Obj) (u : HO)
  /-- a code object's table -/
  | tbl (ps : Array Value)
  /-- any other thing, by what is true of its one object (a def of one's own: SetO a S n := HO.ext fun h => ..) -/
  | ext (φ : Heap → Prop)

noncomputable abbrev Hp := Addr → Option HO
noncomputable def Tup0 (h : Heap) (a : Addr) (items : Array Value) : Prop := ∃ o, h.get? a = some o ∧ o.cls = .type "tuple" ∧ ∃ n, o.data = .seq items n ∧ o.dict = none
theorem Tup0.tup {h : Heap} {a : Addr} {items : Array Value} : Tup0 h a items → IsTup h a items
  | ⟨o, h1, h2, n, h3, _⟩ => ⟨o, h1, h2, n, h3⟩
theorem Tup0.lt {h : Heap} {a : Addr} {items : Array Value} (p : Tup0 h a items) : a < h.objs.size := by
  obtain ⟨o, e, _⟩ := p
  exact Heap.lt_size e
theorem Tup0.new (h : Heap) (items : Array Value) : Tup0 (h.push { cls := .type "tuple", data := .seq items }) h.objs.size items := ⟨_, Heap.get?_push_size _ rfl, rfl, _, rfl, rfl⟩
noncomputable def upd (H : Hp) (a : Addr) (o : HO) : Hp := fun b => if b = a then some o else H b
theorem upd_same {H : Hp} {a : Addr} {o : HO} : upd H a o a = some o := by unfold upd; rw [if_pos rfl]
theorem upd_ne {H : Hp} {a b : Addr} {o : HO} (h : b ≠ a) : upd H a o b = H b := by unfold upd; rw [if_neg h]
theorem upd_upd {H : Hp} {a : Addr} {o u : HO} : upd (upd H a o) a u = upd H a u := by
  funext b; unfold upd; split <;> rfl
theorem ne_of {H : Hp} {a b : Addr} {o u : HO} (h : H a = some o) (h' : H b = some u) (d : o ≠ u) : a ≠ b := by
  intro e; subst e; rw [h] at h'; exact d (Option.some.inj h')
theorem ne_of_none {H : Hp} {a b : Addr} {o : HO} (h : H a = some o) (h' : H b = none) : a ≠ b := by
  intro e; subst e; rw [h] at h'; cases h'

section
variable (P : Program) (w : World)
noncomputable def ObjOk (H : Hp) (h : Heap) (a : Addr) : HO → Prop
  | .lst xs => xs.length ≤ sizeLine ∧ ∃ (its : List Value) (n : Nat), Vals xs its ∧ h.get? a = some { cls := .type "list", data := .seq its.toArray n }
  | .tup xs => xs.length ≤ sizeLine ∧ ∃ its : List Value, Vals xs its ∧ Tup0 h a its.toArray
  | .dK kvs => kvs.length ≤ sizeLine ∧ (a == sysModules) = false ∧ ∃ vs, KV kvs vs ∧ h.DictOf (mixKind P w) a vs
  | .dT kvs => kvs.length ≤ sizeLine ∧ (a == sysModules) = false ∧ ∃ xs : List (List Key × Addr × Value),
      Paired (fun (p : List Key × V) (q : List Key × Addr × Value) => p.1 = q.1 ∧ H q.2.1 = some (.tup (p.1.map kV)) ∧ RelV p.2 q.2.2) kvs xs ∧
      ∃ o es ep, h.get? a = some o ∧ o.ExactDict ∧ o.data = .dict es ep ∧ es.toList = xs.map (entryOfKey (tupleKind (mixKind P w))) ∧ (xs.map (·.1)).Nodup
  | .set S n => h.SetOf (intKind P w) a S n
  | .ins C dx fs => H dx = some (.own a) ∧ fs.length ≤ 1000 ∧ dx ≠ a ∧ h.get? a = some (PySem.W.instObj C dx) ∧
      ∃ mA, h.Ns1 dx mA ∧ (∀ f, RelO (fs.lookup f) (mA f)) ∧ PySem.Within mA (fs.map (·.1))
  | .own _ => ∃ o, h.get? a = some o
  | .xd fs => ∃ mA, h.Ns1 a mA ∧ ∀ f, RelO (fs.lookup f) (mA f)
  | .rng lo hi => ∃ t u v, h.get? a = some { cls := .type "range", data := .fields #[.int lo t, .int hi u, .int 1 v] }
  | .frz o u => h.get? a = some o ∧ ObjOk H h a u
  | .tbl ps => h.get? a = some { cls := .none, data := .fields ps }
  | .met f x => h.get? a = some (PySem.W.methodObj (.ref f) (.ref x))
  | .ext φ => φ h ∧ (∃ o, h.get? a = some o) ∧ ∀ h1 h2 : Heap, φ h1 → (∀ o, h1.get? a = some o → h2.get? a = some o) → φ h2
noncomputable def HOk (H : Hp) (h : Heap) : Prop := ∀ a o, H a = some o → ObjOk P w H h a o
end

section
variable {P : Program} {w : World} {H H' : Hp} {h h' : Heap} {a : Addr} {o : HO}
theorem ObjOk.lt (x : ObjOk P w H h a o) : a < h.objs.size := by
  cases o with
  | lst xs => obtain ⟨_, _, _, _, e⟩ := x; exact Heap.lt_size e
  | tup xs => obtain ⟨_, _, _, p⟩ := x; exact p.lt
  | dK kvs => obtain ⟨_, _, _, _, o, _, _, e, _⟩ := x; exact Heap.lt_size e
  | dT kvs => obtain ⟨_, _, _, _, o, _, _, e, _⟩ := x; exact Heap.lt_size e
  | set S n => obtain ⟨o, _, _, _, e, _⟩ := x; exact Heap.lt_size e
  | ins C dx fs => obtain ⟨_, _, _, e, _⟩ := x; exact Heap.lt_size e
  | own y => obtain ⟨_, e⟩ := x; exact Heap.lt_size e
  | xd fs => obtain ⟨_, ⟨_, _, _, e, _⟩, _⟩ := x; exact Heap.lt_size e
  | rng lo hi => obtain ⟨_, _, _, e⟩ := x; exact Heap.lt_size e
  | frz ob u => obtain ⟨e, _⟩ := x; exact Heap.lt_size e
  | tbl ps => exact Heap.lt_size (show h.get? a = some _ from x)
  | met f y => exact Heap.lt_size (show h.get? a = some _ from x)
  | ext φ => obtain ⟨_, ⟨_, e⟩, _⟩ := x; exact Heap.lt_size e
theorem Paired.mapP {α β : Type} {F G : α → β → Prop} : ∀ {l₁ : List α} {l₂ : List β}, Paired F l₁ l₂ → (∀ a b, F a b → G a b) → Paired G l₁ l₂
  | _, _, .nil, _ => .nil
  | _, _, .cons r t, f => .cons (f _ _ r) (Paired.mapP t f)
theorem ObjOk.stay (x : ObjOk P w H h a o) (k : ∀ b u, (b = a ∨ H b = some (.own a)) → h.get? b = some u → h'.get? b = some u)
    (ho : ∀ b, H b = some (.own a) → H' b = some (.own a)) (ht : ∀ b xs, H b = some (.tup xs) → H' b = some (.tup xs)) : ObjOk P w H' h' a o := by
  induction o with
  | lst xs => obtain ⟨z, its, n, r, e⟩ := x; exact ⟨z, its, n, r, k _ _ (.inl rfl) e⟩
  | tup xs => obtain ⟨z, its, r, ob, e, c⟩ := x; exact ⟨z, its, r, ob, k _ _ (.inl rfl) e, c⟩
  | dK kvs => obtain ⟨z, y, vs, r, ob, es, ep, e, c⟩ := x; exact ⟨z, y, vs, r, ob, es, ep, k _ _ (.inl rfl) e, c⟩
  | dT kvs =>
    obtain ⟨z, y, xs, r, ob, es, ep, e, c⟩ := x
    exact ⟨z, y, xs, Paired.mapP r fun p q z => ⟨z.1, ht _ _ z.2.1, z.2.2⟩, ob, es, ep, k _ _ (.inl rfl) e, c⟩
  | set S n => obtain ⟨ob, es, ep, t, e, c⟩ := x; exact ⟨ob, es, ep, t, k _ _ (.inl rfl) e, c⟩
  | ins C dx fs =>
    obtain ⟨d, z, ne, e, mA, ⟨od, es, ep, e2, c⟩, r⟩ := x
    exact ⟨ho _ d, z, ne, k _ _ (.inl rfl) e, mA, ⟨od, es, ep, k _ _ (.inr d) e2, c⟩, r⟩
  | own y => obtain ⟨ob, e⟩ := x; exact ⟨ob, k _ _ (.inl rfl) e⟩
  | xd fs => obtain ⟨mA, ⟨od, es, ep, e, c⟩, r⟩ := x; exact ⟨mA, ⟨od, es, ep, k _ _ (.inl rfl) e, c⟩, r⟩
  | rng lo hi => obtain ⟨t, u, v, e⟩ := x; exact ⟨t, u, v, k _ _ (.inl rfl) e⟩
  | frz ob u ih => obtain ⟨e, q⟩ := x; exact ⟨k _ _ (.inl rfl) e, ih q⟩
  | tbl ps =>
    have e : h.get? a = some { cls := .none, data := .fields ps } := x
    show h'.get? a = some { cls := .none, data := .fields ps }
    exact k a _ (.inl rfl) e
  | met f y =>
    have e : h.get? a = some (PySem.W.methodObj (.ref f) (.ref y)) := x
    show h'.get? a = some (PySem.W.methodObj (.ref f) (.ref y))
    exact k a _ (.inl rfl) e
  | ext φ => obtain ⟨p, ⟨o, e⟩, st⟩ := x; exact ⟨st _ _ p fun o q => k _ _ (.inl rfl) q, ⟨o, k _ _ (.inl rfl) e⟩, st⟩
theorem HOk.lt (x : HOk P w H h) (e : H a = some o) : a < h.objs.size := (x a o e).lt
theorem HOk.fresh (x : HOk P w H h) (e : h.objs.size ≤ a) : H a = none := by
  cases q : H a with
  | none => rfl
  | some u => exact absurd (Nat.lt_of_lt_of_le (x.lt q) e) (Nat.lt_irrefl _)
theorem HOk.kept (x : HOk P w H h) (k : ∀ b u, h.get? b = some u → h'.get? b = some u) : HOk P w H h' := fun a o e =>
  (x a o e).stay (fun b u _ q => k b u q) (fun _ q => q) fun _ _ q => q
theorem HOk.laid (x : HOk P w H h) (k : ∀ b u, h.get? b = some u → h'.get? b = some u) (hp : h.objs.size ≤ a) (new : ObjOk P w (upd H a o) h' a o) : HOk P w (upd H a o) h' := fun b u e => by
  have hn := x.fresh hp
  by_cases hb : b = a
  · subst hb; rw [upd_same] at e; cases e; exact new
  · rw [upd_ne hb] at e
    exact (x b u e).stay (fun c v _ q => k c v q) (fun c q => by rw [upd_ne (ne_of_none q hn)]; exact q) fun c xs q => by rw [upd_ne (ne_of_none q hn)]; exact q
end

noncomputable def Rd (H : Hp) (a : Addr) (u : HO) : Prop := H a = some u ∨ ∃ o, H a = some (.frz o u)
theorem Rd.ok {P : Program} {w : World} {H : Hp} {h : Heap} {a : Addr} {u : HO} (r : Rd H a u) (x : HOk P w H h) : ObjOk P w H h a u := by
  rcases r with r | ⟨o, r⟩
  · exact x a u r
  · obtain ⟨_, q⟩ := x a _ r
    exact q
noncomputable def Mut : Option HO → Prop
  | some (.lst _) => True
  | some (.dK _) => True
  | some (.dT _) => True
  | some (.set _ _) => True
  | some (.ins _ _ _) => True
  | some (.ext _) => True
  | _ => False
section
variable {P : Program} {w : World} {H : Hp} {h h' : Heap} {x e : Addr} {o' : HO}
theorem HOk.write (ok : HOk P w H h) (mu : Mut (H x)) (he : e = x ∨ H e = some (.own x)) (k : ∀ b u, b ≠ e → h.get? b = some u → h'.get? b = some u) (heo : ∃ u, h'.get? e = some u)
    (new : ObjOk P w (upd H x o') h' x o') : HOk P w (upd H x o') h' := fun b u q => by
  have nown : ∀ c y, H c = some (.own y) → c ≠ x := fun c y r z => by subst z; rw [r] at mu; exact mu
  have ntup : ∀ c xs, H c = some (.tup xs) → c ≠ x := fun c xs r z => by subst z; rw [r] at mu; exact mu
  by_cases hb : b = x
  · subst hb; rw [upd_same] at q; cases q; exact new
  · rw [upd_ne hb] at q
    by_cases hbe : b = e
    · have q' : H b = some (.own x) := by
        rcases he with z | z
        · exact absurd (hbe.trans z) hb
        · rw [hbe]; exact z
      rw [q] at q'; cases q'
      obtain ⟨v, hv⟩ := heo
      exact ⟨v, by rw [hbe]; exact hv⟩
    · refine (ok b u q).stay (fun c v hc r => k c v ?_ r) (fun c r => by rw [upd_ne (nown c b r)]; exact r) fun c xs r => by rw [upd_ne (ntup c xs r)]; exact r
      rcases hc with rfl | hc
      · exact hbe
      · rintro rfl
        rcases he with z | z
        · exact nown c b hc z
        · rw [hc] at z; cases z; exact hb rfl
end

structure Un (fs ex : List Addr) (H H' : Hp) (h h' : Heap) : Prop where
  keep : ∀ b o, h.get? b = some o → H b = none → b ∉ fs → b ∉ ex → h'.get? b = some o
  slot : ∀ b o, h.get? b = some o → H b = none → b ∈ fs → b ∉ ex → ∃ sl, h'.get? b = some { o with slots := sl }
  free : ∀ b o, h.get? b = some o → H b = none → b ∉ ex → H' b = none
  there : ∀ b o, h.get? b = some o → b ∉ ex → ∃ o', h'.get? b = some o'
  tups : ∀ b xs, H b = some (.tup xs) → H' b = some (.tup xs)
  frzs : ∀ b o u, H b = some (.frz o u) → H' b = some (.frz o u)
  tbls : ∀ b ps, H b = some (.tbl ps) → ∃ more, H' b = some (.tbl (ps ++ more))
section
variable {fs fs' ex ex' : List Addr} {H H1 H2 : Hp} {h h1 h2 h' : Heap} {a x e : Addr} {o : HO}
theorem Un.any (u : Un fs ex H H1 h h1) {b : Addr} {ob : Obj} (q : h.get? b = some ob) (n : H b = none) (hx : b ∉ ex) : ∃ sl, h1.get? b = some { ob with slots := sl } := by
  by_cases hb : b ∈ fs
  · exact u.slot b ob q n hb hx
  · exact ⟨ob.slots, u.keep b ob q n hb hx⟩
theorem Un.trans (a : Un fs ex H H1 h h1) (b : Un fs ex H1 H2 h1 h2) : Un fs ex H H2 h h2 where
  keep := fun c ob q n hc hx => b.keep c ob (a.keep c ob q n hc hx) (a.free c ob q n hx) hc hx
  slot := fun c ob q n hc hx => by
    obtain ⟨sl, e1⟩ := a.slot c ob q n hc hx
    obtain ⟨sl', e2⟩ := b.slot c _ e1 (a.free c ob q n hx) hc hx
    exact ⟨sl', e2⟩
  free := fun c ob q n hx => by
    obtain ⟨o', e1⟩ := a.there c ob q hx
    exact b.free c o' e1 (a.free c ob q n hx) hx
  there := fun c ob q hx => by
    obtain ⟨o', e1⟩ := a.there c ob q hx
    exact b.there c o' e1 hx
  tups := fun c xs q => b.tups c xs (a.tups c xs q)
  frzs := fun c ob xs q => b.frzs c ob xs (a.frzs c ob xs q)
  tbls := fun c ps q => by
    obtain ⟨m1, e1⟩ := a.tbls c ps q
    obtain ⟨m2, e2⟩ := b.tbls c _ e1
    exact ⟨m1 ++ m2, by rw [e2, Array.append_assoc]⟩
theorem Un.kept (k : ∀ b u, h.get? b = some u → h'.get? b = some u) : Un fs ex H H h h' :=
  ⟨fun b ob q _ _ _ => k b ob q, fun b ob q _ _ _ => ⟨ob.slots, k b ob q⟩, fun _ _ _ n _ => n, fun b ob q _ => ⟨ob, k b ob q⟩, fun _ _ q => q, fun _ _ _ q => q, fun _ ps q => ⟨#[], by rw [q]; simp⟩⟩
theorem Un.refl : Un fs ex H H h h := Un.kept fun _ _ q => q
theorem Un.laid (k : ∀ b u, h.get? b = some u → h'.get? b = some u) (hp : h.objs.size ≤ a) (hn : H a = none) : Un fs ex H (upd H a o) h h' where
  keep := fun b u q _ _ _ => k b u q
  slot := fun b u q _ _ _ => ⟨u.slots, k b u q⟩
  free := fun b u q n _ => by rw [upd_ne (Nat.ne_of_lt (Nat.lt_of_lt_of_le (Heap.lt_size q) hp))]; exact n
  there := fun b u q _ => ⟨u, k b u q⟩
  tups := fun b xs q => by rw [upd_ne (ne_of_none q hn)]; exact q
  frzs := fun b u xs q => by rw [upd_ne (ne_of_none q hn)]; exact q
  tbls := fun b ps q => ⟨#[], by rw [upd_ne (ne_of_none q hn), q]; simp⟩
theorem Un.write (mu : Mut (H x)) (he : e = x ∨ H e = some (.own x)) (k : ∀ b u, b ≠ e → h.get? b = some u → h'.get? b = some u) (heo : ∃ u, h'.get? e = some u) : Un fs ex H (upd H x o) h h' := by
  have hx : ∀ b, H b = none → b ≠ x := fun b n z => by subst z; rw [n] at mu; exact mu
  have hb : ∀ b, H b = none → b ≠ e := fun b n z => by
    subst z
    rcases he with r | r
    · exact hx b n r
    · rw [n] at r; cases r
  have hm : ∀ b u, H b = some u → ¬ Mut (some u) → b ≠ x := fun b u q nm z => by subst z; rw [q] at mu; exact nm mu
  refine ⟨fun b u q n _ _ => k b u (hb b n) q, fun b u q n _ _ => ⟨u.slots, k b u (hb b n) q⟩, fun b u q n _ => by rw [upd_ne (hx b n)]; exact n, fun b u q _ => ?_,
    fun b xs q => by rw [upd_ne (hm b _ q fun z => z)]; exact q, fun b u xs q => by rw [upd_ne (hm b _ q fun z => z)]; exact q, fun b ps q => ⟨#[], by rw [upd_ne (hm b _ q fun z => z), q]; simp⟩⟩
  by_cases hbe : b = e
  · subst hbe; exact heo
  · exact ⟨u, k b u hbe q⟩
end

noncomputable def trk (h : Heap) (H : Hp) : List Addr := (List.range h.objs.size).filter fun a => (H a).isSome
noncomputable def hidT (h : Heap) (H : Hp) : Heap := PySem.W.hideAll h (trk h H)
theorem hidT_size (h : Heap) (H : Hp) : (hidT h H).objs.size = h.objs.size := PySem.W.hideAll_size _ _
theorem hidT_get {h : Heap} {H : Hp} {b : Addr} {o : Obj} (e : h.get? b = some o) (n : H b = none) : (hidT h H).get? b = some o :=
  PySem.W.hideAll_get _ e fun hm => by
    have q : (H b).isSome = true := (List.mem_filter.mp hm).2
    rw [n] at q; simp at q
theorem of_hidT {h : Heap} {H : Hp} {b : Addr} {o : Obj} (e : (hidT h H).get? b = some o) : h.get? b = some o ∧ H b = none := by
  have e' : h.get? b = some o := PySem.W.of_hideAll (trk h H) e
  refine ⟨e', ?_⟩
  cases q : H b with
  | none => rfl
  | some x =>
    have hm : b ∈ trk h H := List.mem_filter.mpr ⟨List.mem_range.mpr (Heap.lt_size e'), by simp [q]⟩
    have z : (hidT h H).get? b = none := PySem.W.hideAll_none (trk h H) hm
    rw [z] at e; cases e

end L2.Internal

namespace L2.Internal
open PySem PySem.Spec PyProof.Rows

structure Mod (K : PySem.W.Frag) (mg : Str → Option Value) (base : Heap) : Prop where
  kin : K.In base
  glob : base.Ns mainGlobals mg
  blt : ∃ mb, base.Ns builtinsNs mb ∧ ∀ x : Str, x ≠ "__name__" → mb x = bootBuiltins x
  nolimit : base.NoLimit

structure Cx where
  prog : Program
  w : World
  K : PySem.W.Frag
  mg : Str → Option Value
  base : Heap
  A : Around
  N : List Str
  s₀ : Shared
  H₀ : Hp
  env : Env
  outer : List Env
  stack : List Env
  ex : List Addr
  fn : Str → Bool
  calm : Bool
  pn : List (Addr × Obj)
  xe : Value → Shared → Prop
noncomputable def frs (l : List Env) : List Addr := l.filterMap (·.frame)
noncomputable abbrev Cx.fs (X : Cx) : List Addr := frs X.outer

noncomputable def Vis (sc : Scope) (x : Str) : Prop := sc.names.lookup x = some .local ∨ sc.names.lookup x = some .cell ∨ sc.names.lookup x = some .free
noncomputable def Loc (sc : Scope) (x : Str) : Prop := sc.names.lookup x = some .local ∨ sc.names.lookup x = some .cell
noncomputable def Look (env : Env) (h : Heap) (m : Str → Option Value) (x : Str) (u : Value) : Prop :=
  (env.kindOf x = some .local ∧ m x = some u) ∨ ((env.kindOf x = some .cell ∨ env.kindOf x = some .free) ∧ ∃ c, env.cells.lookup x = some c ∧ h.IsCell c (some u))

structure Cx.Ok (X : Cx) : Prop where
  mod : Mod X.K X.mg X.base
  kind : X.env.scope.kind = .function
  glob : X.env.globals = mainGlobals
  blt : X.env.builtins = builtinsNs
  above : X.s₀.heap.objs.size ≤ X.env.locals
  inj : ∀ x y c, X.env.cells.lookup x = some c → X.env.cells.lookup y = some c → x = y
  has : ∀ x, (X.env.kindOf x = some .cell ∨ X.env.kindOf x = some .free) → ∃ c, X.env.cells.lookup x = some c
  cab : ∀ x c, X.fn x = true → X.env.cells.lookup x = some c → X.s₀.heap.objs.size ≤ c
  hd : X.calm = true → X.A.handled = none
  frames : X.A.frames = some X.stack
  stk : X.stack = X.outer ∨ (X.stack = X.env :: X.outer ∧ X.env.frame = some X.env.locals)
  exf : ∀ b ∈ X.ex, b ≠ X.env.locals ∧ ∀ x c, X.env.cells.lookup x = some c → c ≠ b
  bs : ∀ b o, X.base.get? b = some o → X.s₀.heap.get? b = some o ∧ X.H₀ b = none
  bsz : X.base.objs.size ≤ X.s₀.heap.objs.size
  noex : ∀ b o, X.base.get? b = some o → b ∉ X.ex
  exfs : ∀ b ∈ X.ex, b ∉ X.fs
  funs : X.s₀.heap.FunFrames X.base X.outer
  frf : ∀ b ∈ X.fs, X.H₀ b = none

structure Inv (X : Cx) (pins : List (Addr × Obj)) (σ : List (Option V)) (H : Hp) (s : Shared) : Prop where
  ok : X.Ok
  os : s.os = X.s₀.os
  bare : AllBare s.gens
  base : Un X.fs X.ex X.H₀ H X.s₀.heap s.heap
  loc : ∃ m, s.heap.Ns X.env.locals m ∧ ∀ (i : Nat) (x : Str) (v : V), X.N[i]? = some x → σ[i]? = some (some v) → Vis X.env.scope x → ∃ u, RelV v u ∧ Look X.env s.heap m x u
  cell : ∀ x c, X.env.cells.lookup x = some c → ∃ v, s.heap.IsCell c v
  free : H X.env.locals = none
  freeC : ∀ x c, X.env.cells.lookup x = some c → H c = none
  pin : ∀ p ∈ X.pn ++ pins, s.heap.get? p.1 = some p.2 ∧ H p.1 = none ∧ p.1 ≠ X.env.locals ∧ p.1 ∉ X.fs ∧ ∀ v, p.2.data ≠ .cell v
  hok : HOk X.prog X.w H s.heap
  len : σ.length = X.N.length

section
variable {X : Cx} {pins : List (Addr × Obj)} {σ : List (Option V)} {H H' : Hp} {s : Shared} {h' : Heap}

theorem Cx.Ok.nofr (ok : X.Ok) {b : Addr} {o : Obj} (e : X.base.get? b = some o) : b ∉ X.fs := fun hb => by
  have := (ok.funs.mem hb).1
  rw [e] at this; cases this
theorem Inv.bs (I : Inv X pins σ H s) : ∀ b o, X.base.get? b = some o → s.heap.get? b = some o ∧ H b = none := fun b o e =>
  ⟨I.base.keep b o (I.ok.bs b o e).1 (I.ok.bs b o e).2 (I.ok.nofr e) (I.ok.noex b o e), I.base.free b o (I.ok.bs b o e).1 (I.ok.bs b o e).2 (I.ok.noex b o e)⟩
theorem Inv.bk (I : Inv X pins σ H s) : ∀ b o, X.base.get? b = some o → s.heap.get? b = some o := fun b o e => (I.bs b o e).1
theorem Inv.mod (I : Inv X pins σ H s) : Mod X.K X.mg X.base := I.ok.mod
theorem Inv.kIn (I : Inv X pins σ H s) : X.K.In s.heap := I.ok.mod.kin.keeps I.bk
theorem Inv.lt (I : Inv X pins σ H s) : X.env.locals < s.heap.objs.size := let ⟨_, hn, _⟩ := I.loc; hn.lt
theorem Inv.sz (I : Inv X pins σ H s) : X.s₀.heap.objs.size ≤ s.heap.objs.size := Nat.le_trans I.ok.above (Nat.le_of_lt I.lt)
theorem Inv.nofs (I : Inv X pins σ H s) {a : Addr} (h : s.heap.objs.size ≤ a) : a ∉ X.fs := fun hb => by
  obtain ⟨_, o, ho, _⟩ := I.ok.funs.mem hb
  exact absurd (Nat.lt_of_lt_of_le (Heap.lt_size ho) (Nat.le_trans I.sz h)) (Nat.lt_irrefl _)
theorem Inv.cne (I : Inv X pins σ H s) : ∀ x c, X.env.cells.lookup x = some c → c ≠ X.env.locals := fun x c e z => by
  obtain ⟨v, o, ho, hd⟩ := I.cell x c e
  obtain ⟨m, ⟨o', es, ep, ho', hd', _⟩, _⟩ := I.loc
  rw [z, ho'] at ho; cases ho; rw [hd'] at hd; cases hd
theorem Inv.funs (I : Inv X pins σ H s) : s.heap.FunFrames X.base X.outer := by
  have all : ∀ (l : List Env), (∀ b ∈ frs l, b ∈ X.fs) → X.s₀.heap.FunFrames X.base l → s.heap.FunFrames X.base l := by
    intro l
    induction l with
    | nil => intro _ _; trivial
    | cons env r ih =>
      intro hs hl
      obtain ⟨hk, ⟨L, o, hf, hn, ho, hd⟩, hr⟩ := hl
      have hL : L ∈ X.fs := hs L (by unfold frs; rw [List.filterMap_cons, hf]; exact List.mem_cons_self)
      obtain ⟨sl, e⟩ := I.base.slot L o ho (I.ok.frf L hL) hL fun z => I.ok.exfs L z hL
      exact ⟨hk, ⟨L, _, hf, hn, e, hd⟩, ih (fun b hb => hs b (by unfold frs; rw [List.filterMap_cons, hf]; exact List.mem_cons_of_mem _ hb)) hr⟩
  exact all X.outer (fun _ hb => hb) I.ok.funs

theorem Inv.stack (I : Inv X pins σ H s) : s.heap.FunFrames X.base X.stack := by
  rcases I.ok.stk with e | ⟨e, hf⟩
  · rw [e]; exact I.funs
  · rw [e]
    obtain ⟨m, hn, _⟩ := I.loc
    refine .cons (by rw [I.ok.kind]; decide) hf hn ?_ I.funs
    exact Heap.get?_none_of_le (Nat.le_trans I.ok.bsz I.ok.above)
theorem Inv.stkSub (I : Inv X pins σ H s) : ∀ b ∈ frs X.stack, b ∈ X.env.locals :: X.fs := fun b hb => by
  rcases I.ok.stk with e | ⟨e, hf⟩
  · rw [e] at hb; exact List.mem_cons_of_mem _ hb
  · rw [e] at hb
    unfold frs at hb
    rw [List.filterMap_cons, hf] at hb
    exact hb
theorem Inv.stkFree (I : Inv X pins σ H s) : ∀ b ∈ frs X.stack, H b = none := fun b hb => by
  rcases List.mem_cons.mp (I.stkSub b hb) with e | hb
  · rw [e]; exact I.free
  · obtain ⟨_, o, ho, _⟩ := I.ok.funs.mem hb
    exact I.base.free b o ho (I.ok.frf b hb) fun z => I.ok.exfs b z hb

theorem Inv.step {g' : Array GenState} {t' : Nat} {d' : Drawn} {ch : List Addr} (I : Inv X pins σ H s)
    (hch : ∀ b ∈ ch, (b ∈ X.ex ∨ X.s₀.heap.objs.size ≤ b) ∧ b ≠ X.env.locals ∧ (∀ x c, X.env.cells.lookup x = some c → c ≠ b) ∧ ∀ p ∈ X.pn ++ pins, p.1 ≠ b)
    (keep : ∀ b o, b ≠ X.env.locals → b ∉ X.fs → b ∉ ch → s.heap.get? b = some o → H b = none → h'.get? b = some o)
    (slot : ∀ b o, b ≠ X.env.locals → b ∈ X.fs → b ∉ ch → s.heap.get? b = some o → H b = none → ∃ sl, h'.get? b = some { o with slots := sl }) (free : ∀ b o, b ∉ ch → s.heap.get? b = some o → H b = none → H' b = none)
    (there : ∀ b o, b ∉ ch → s.heap.get? b = some o → ∃ o', h'.get? b = some o')
    (tups : ∀ b xs, H b = some (.tup xs) → H' b = some (.tup xs)) (frzs : ∀ b o u, H b = some (.frz o u) → H' b = some (.frz o u)) (tbls : ∀ b ps, H b = some (.tbl ps) → ∃ more, H' b = some (.tbl (ps ++ more)))
    (ns : ∀ m, s.heap.Ns X.env.locals m → h'.Ns X.env.locals m) (hok : HOk X.prog X.w H' h') (hg : AllBare g') :
    Inv X pins σ H' { s with heap := h', gens := g', drawn := d', toks := t' } := by
  have neL : ∀ b o, X.s₀.heap.get? b = some o → b ≠ X.env.locals := fun b o e => Nat.ne_of_lt (Nat.lt_of_lt_of_le (Heap.lt_size e) I.ok.above)
  have neC : ∀ b o, X.s₀.heap.get? b = some o → b ∉ X.ex → b ∉ ch := fun b o e hx hb => by
    rcases (hch b hb).1 with z | z
    · exact hx z
    · exact absurd (Nat.lt_of_lt_of_le (Heap.lt_size e) z) (Nat.lt_irrefl _)
  have cellK : ∀ x c, X.env.cells.lookup x = some c → ∀ v, s.heap.IsCell c v → h'.IsCell c v := fun x c e v ⟨o, ho, hd⟩ => by
    have nch : c ∉ ch := fun z => (hch c z).2.2.1 x c e rfl
    by_cases hc : c ∈ X.fs
    · obtain ⟨sl, q⟩ := slot c o (I.cne x c e) hc nch ho (I.freeC x c e)
      exact ⟨_, q, hd⟩
    · exact ⟨o, keep c o (I.cne x c e) hc nch ho (I.freeC x c e), hd⟩
  refine ⟨I.ok, I.os, hg, ⟨fun b o e n hb hx => ?_, fun b o e n hb hx => ?_, fun b o e n hx => ?_, fun b o e hx => ?_, fun b xs e => tups b xs (I.base.tups b xs e), fun b o xs e => frzs b o xs (I.base.frzs b o xs e), fun b ps e => ?_⟩, ?_, fun x c e => ?_, ?_, fun x c e => ?_, fun p hp => ?_, hok, I.len⟩
  · exact keep b o (neL b o e) hb (neC b o e hx) (I.base.keep b o e n hb hx) (I.base.free b o e n hx)
  · obtain ⟨sl, e1⟩ := I.base.slot b o e n hb hx
    obtain ⟨sl', e2⟩ := slot b _ (neL b o e) hb (neC b o e hx) e1 (I.base.free b o e n hx)
    exact ⟨sl', e2⟩
  · obtain ⟨o', e1⟩ := I.base.there b o e hx
    exact free b o' (neC b o e hx) e1 (I.base.free b o e n hx)
  · obtain ⟨o', e1⟩ := I.base.there b o e hx
    exact there b o' (neC b o e hx) e1
  · obtain ⟨m1, e1⟩ := I.base.tbls b ps e
    obtain ⟨m2, e2⟩ := tbls b _ e1
    exact ⟨m1 ++ m2, by rw [e2, Array.append_assoc]⟩
  · obtain ⟨m, hn, hl⟩ := I.loc
    refine ⟨m, ns m hn, fun i x v e1 e2 e3 => ?_⟩
    obtain ⟨u, r, l⟩ := hl i x v e1 e2 e3
    refine ⟨u, r, ?_⟩
    rcases l with l | ⟨k, c, e, z⟩
    · exact .inl l
    · exact .inr ⟨k, c, e, cellK x c e _ z⟩
  · obtain ⟨v, z⟩ := I.cell x c e
    exact ⟨v, cellK x c e v z⟩
  · obtain ⟨m, ⟨o, _, _, ho, _⟩, _⟩ := I.loc
    exact free _ o (fun z => (hch _ z).2.1 rfl) ho I.free
  · obtain ⟨v, o, ho, hd⟩ := I.cell x c e
    exact free c o (fun z => (hch c z).2.2.1 x c e rfl) ho (I.freeC x c e)
  · obtain ⟨e, n, ne, nf, d⟩ := I.pin p hp
    have nch : p.1 ∉ ch := fun z => (hch p.1 z).2.2.2 p hp rfl
    exact ⟨keep p.1 p.2 ne nf nch e n, free p.1 p.2 nch e n, ne, nf, d⟩
theorem Inv.un {t' : Nat} (I : Inv X pins σ H s) (u : Un X.fs [] H H' s.heap h') (hok : HOk X.prog X.w H' h') : Inv X pins σ H' { s with heap := h', toks := t' } := by
  obtain ⟨m, ⟨o, es, ep, ho, r⟩, _⟩ := id I.loc
  obtain ⟨sl, hL⟩ := u.any ho I.free (by simp)
  exact I.step (g' := s.gens) (d' := s.drawn) (ch := []) (fun _ z => nomatch z) (fun b o _ hb _ e n => u.keep b o e n hb (by simp)) (fun b o _ hb _ e n => u.slot b o e n hb (by simp)) (fun b o _ e n => u.free b o e n (by simp)) (fun b o _ e => u.there b o e (by simp)) u.tups u.frzs u.tbls (fun m' hm => by
    obtain ⟨o', es', ep', ho', r'⟩ := hm
    rw [ho] at ho'; cases ho'
    exact ⟨_, es', ep', hL, r'⟩) hok I.bare
theorem Inv.call {g' : Array GenState} {t' : Nat} {d' : Drawn} {ch : List Addr} (I : Inv X pins σ H s) (u : Un (frs X.stack) ch H H' s.heap h') (hok : HOk X.prog X.w H' h') (hg : AllBare g')
    (hch : ∀ b ∈ ch, (b ∈ X.ex ∨ X.s₀.heap.objs.size ≤ b) ∧ b ≠ X.env.locals ∧ (∀ x c, X.env.cells.lookup x = some c → c ≠ b) ∧ ∀ p ∈ X.pn ++ pins, p.1 ≠ b) :
    Inv X pins σ H' { s with heap := h', gens := g', drawn := d', toks := t' } := by
  obtain ⟨m, ⟨o, es, ep, ho, r⟩, _⟩ := id I.loc
  obtain ⟨sl, hL⟩ := u.any ho I.free fun z => (hch _ z).2.1 rfl
  exact I.step (ch := ch) hch (fun b o hL hb hc e n => u.keep b o e n (fun z => (List.mem_cons.mp (I.stkSub b z)).elim hL hb) hc) (fun b o _ _ hc e n => u.any e n hc) (fun b o hc e n => u.free b o e n hc) (fun b o hc e => u.there b o e hc) u.tups u.frzs u.tbls (fun m' hm => by
    obtain ⟨o', es', ep', ho', r'⟩ := hm
    rw [ho] at ho'; cases ho'
    exact ⟨_, es', ep', hL, r'⟩) hok hg
theorem Inv.turned {t' : Nat} {it : Addr} (I : Inv X pins σ H s) (k : ∀ b o, b ≠ it → s.heap.get? b = some o → h'.get? b = some o) (hn : H it = none) (hL : it ≠ X.env.locals)
    (h1 : it ∈ X.ex ∨ X.s₀.heap.objs.size ≤ it) (h2 : ∀ x c, X.env.cells.lookup x = some c → c ≠ it) (h3 : ∀ p ∈ X.pn ++ pins, p.1 ≠ it) : Inv X pins σ H { s with heap := h', toks := t' } := by
  have nit : ∀ b u, H b = some u → b ≠ it := fun b u e z => by rw [z, hn] at e; cases e
  refine I.step (g' := s.gens) (d' := s.drawn) (ch := [it]) (fun b hb => ?_) (fun b o _ _ hc e _ => k b o (fun z => hc (by simp [z])) e) (fun b o _ _ hc e _ => ⟨o.slots, k b o (fun z => hc (by simp [z])) e⟩) (fun _ _ _ _ n => n)
    (fun b o hc e => ⟨o, k b o (fun z => hc (by simp [z])) e⟩) (fun _ _ e => e) (fun _ _ _ e => e) (fun b ps e => ⟨#[], by rw [e]; simp⟩) (fun m hm => ?_) (fun b u e => ?_) I.bare
  · have e : b = it := by simpa using hb
    subst e
    exact ⟨h1, hL, h2, h3⟩
  · obtain ⟨o, es, ep, ho, r⟩ := hm
    exact ⟨o, es, ep, k _ o (Ne.symm hL) ho, r⟩
  · refine (I.hok b u e).stay (fun c v hc q => k c v ?_ q) (fun _ q => q) fun _ _ q => q
    rcases hc with z | z
    · rw [z]; exact nit b u e
    · exact nit c _ z
theorem Inv.tok (I : Inv X pins σ H s) (t : Nat) : Inv X pins σ H { s with toks := t } := I.un (h' := s.heap) (t' := t) Un.refl I.hok
theorem Inv.kept {t' : Nat} (I : Inv X pins σ H s) (k : ∀ b u, s.heap.get? b = some u → h'.get? b = some u) : Inv X pins σ H { s with heap := h', toks := t' } := I.un (Un.kept k) (I.hok.kept k)
theorem Inv.laid {a : Addr} {o : HO} {t' : Nat} (I : Inv X pins σ H s) (k : ∀ b u, s.heap.get? b = some u → h'.get? b = some u) (hp : s.heap.objs.size ≤ a) (new : ObjOk X.prog X.w (upd H a o) h' a o) :
    Inv X pins σ (upd H a o) { s with heap := h', toks := t' } := I.un (Un.laid k hp (I.hok.fresh hp)) (I.hok.laid k hp new)
theorem Inv.write {x e : Addr} {o : HO} {t' : Nat} (I : Inv X pins σ H s) (mu : Mut (H x)) (he : e = x ∨ H e = some (.own x)) (k : ∀ b u, b ≠ e → s.heap.get? b = some u → h'.get? b = some u) (heo : ∃ u, h'.get? e = some u)
    (new : ObjOk X.prog X.w (upd H x o) h' x o) : Inv X pins σ (upd H x o) { s with heap := h', toks := t' } := I.un (Un.write mu he k heo) (I.hok.write mu he k heo new)
theorem Inv.pins_of {pins' : List (Addr × Obj)} (I : Inv X pins σ H s) (h : ∀ p ∈ pins', s.heap.get? p.1 = some p.2 ∧ H p.1 = none ∧ p.1 ≠ X.env.locals ∧ p.1 ∉ X.fs ∧ ∀ v, p.2.data ≠ .cell v) : Inv X pins' σ H s :=
  ⟨I.ok, I.os, I.bare, I.base, I.loc, I.cell, I.free, I.freeC, fun p hp => (List.mem_append.mp hp).elim (fun z => I.pin p (List.mem_append_left _ z)) (h p), I.hok, I.len⟩

theorem nodup_ix {N : List Str} (hN : N.Nodup) {i j : Nat} {x : Str} (a : N[i]? = some x) (b : N[j]? = some x) : i = j := by
  obtain ⟨h1, e1⟩ := List.getElem?_eq_some_iff.mp a
  obtain ⟨h2, e2⟩ := List.getElem?_eq_some_iff.mp b
  exact (List.getElem_inj hN).mp (e1.trans e2.symm)

theorem store_ok2 {M : Model} {A : Around} {E : Value → Shared → Prop} {i : Nat} {x : Str} {v : V} {u : Value} {Q : Unit → Shared → Prop} (I : Inv X pins σ H s) (hN : X.N.Nodup) (hi : X.N[i]? = some x) (hx : Loc X.env.scope x) (r : RelV v u)
    (h : ∀ s', Inv X pins (σ.set i (some v)) H s' → (∃ a, Heap.SameBut a s.heap s'.heap ∧ (a = X.env.locals ∨ X.env.cells.lookup x = some a)) → Q () s') (hf : autoParam (X.fn x = true ∨ X.env.scope.names.lookup x = some .local) L2.Internal.auL._auto_1) : wpAny M A (storeName X.env x u) Q E s := by
  obtain ⟨m, hn, hl⟩ := id I.loc
  have hcls : (X.env.scope.kind == .class || (X.env.scope.kind == .module && X.env.locals != X.env.globals)) = false := by rw [I.ok.kind]; rfl
  have hiσ : i < σ.length := by rw [I.len]; exact (List.getElem?_eq_some_iff.mp hi).1
  have cne := I.cne
  have tracked : ∀ {a : Addr} {h' : Heap}, (∃ o, s.heap.get? a = some o ∧ H a = none) → Heap.SameBut a s.heap h' → HOk X.prog X.w H h' := fun {a h'} ha hs b ob e => by
    obtain ⟨_, _, hfree⟩ := ha
    refine (I.hok b ob e).stay (fun c w' hc q => (hs.2 c ?_).trans q) (fun _ q => q) fun _ _ q => q
    rintro rfl
    rcases hc with rfl | hc
    · rw [hfree] at e; cases e
    · rw [hfree] at hc; cases hc
  rcases hx with hk | hk
  · refine wpAny_storeName_local hk hn (fun h' hn' hs => ?_) hcls
    obtain ⟨oL, _, _, hoL, _⟩ := id hn
    refine h _ ⟨I.ok, I.os, I.bare, ⟨fun b o e n hb hx => ?_, fun b o e n hb hx => ?_, I.base.free, fun b o e hx => ?_, I.base.tups, I.base.frzs, I.base.tbls⟩, ⟨_, hn', fun j y v' e1 e2 e3 => ?_⟩, fun y c e => ?_, I.free, I.freeC, fun p hp => ?_, tracked ⟨oL, hoL, I.free⟩ hs, by simpa using I.len⟩ ⟨_, hs, .inl rfl⟩
    · exact (hs.2 b (Nat.ne_of_lt (Nat.lt_of_lt_of_le (Heap.lt_size e) I.ok.above))).trans (I.base.keep b o e n hb hx)
    · obtain ⟨sl, e1⟩ := I.base.slot b o e n hb hx
      exact ⟨sl, (hs.2 b (Nat.ne_of_lt (Nat.lt_of_lt_of_le (Heap.lt_size e) I.ok.above))).trans e1⟩
    · obtain ⟨o', e1⟩ := I.base.there b o e hx
      exact ⟨o', (hs.2 b (Nat.ne_of_lt (Nat.lt_of_lt_of_le (Heap.lt_size e) I.ok.above))).trans e1⟩
    · by_cases hj : j = i
      · subst hj
        rw [hi] at e1; cases e1
        rw [List.getElem?_set_self hiσ] at e2
        cases e2
        exact ⟨u, r, .inl ⟨hk, by simp⟩⟩
      · rw [List.getElem?_set_ne (Ne.symm hj)] at e2
        obtain ⟨u', r', q⟩ := hl j y v' e1 e2 e3
        refine ⟨u', r', ?_⟩
        rcases q with ⟨k, e⟩ | ⟨k, c, e, z⟩
        · refine .inl ⟨k, ?_⟩
          have : y ≠ x := fun e => hj (nodup_ix hN e1 (e ▸ hi))
          simp [this, e]
        · exact .inr ⟨k, c, e, z.sameBut hs (cne y c e)⟩
    · obtain ⟨w', z⟩ := I.cell y c e
      exact ⟨w', z.sameBut hs (cne y c e)⟩
    · obtain ⟨e, n, ne, nf, d⟩ := I.pin p hp
      exact ⟨(hs.2 p.1 ne).trans e, n, ne, nf, d⟩
  · have hfn : X.fn x = true := by
      rcases hf with z | z
      · exact z
      · rw [z] at hk; cases hk
    obtain ⟨c, hc⟩ := I.ok.has x (.inl hk)
    obtain ⟨w', z⟩ := I.cell x c hc
    refine wpAny_storeName_cell I.ok.kind hk hc z (fun h' hc' hs => ?_)
    obtain ⟨oc, hoc, hocd⟩ := id z
    refine h { s with heap := h' } ⟨I.ok, I.os, I.bare, ⟨fun b o e n hb hx => ?_, fun b o e n hb hx => ?_, I.base.free, fun b o e hx => ?_, I.base.tups, I.base.frzs, I.base.tbls⟩, ⟨m, hn.sameBut hs (Ne.symm (cne x c hc)), fun j y v' e1 e2 e3 => ?_⟩, fun y c' e => ?_, I.free, I.freeC, fun p hp => ?_, tracked ⟨oc, hoc, I.freeC x c hc⟩ hs, by simpa using I.len⟩ ⟨c, hs, .inr hc⟩
    · exact (hs.2 b (Nat.ne_of_lt (Nat.lt_of_lt_of_le (Heap.lt_size e) (I.ok.cab x c hfn hc)))).trans (I.base.keep b o e n hb hx)
    · obtain ⟨sl, e1⟩ := I.base.slot b o e n hb hx
      exact ⟨sl, (hs.2 b (Nat.ne_of_lt (Nat.lt_of_lt_of_le (Heap.lt_size e) (I.ok.cab x c hfn hc)))).trans e1⟩
    · obtain ⟨o', e1⟩ := I.base.there b o e hx
      exact ⟨o', (hs.2 b (Nat.ne_of_lt (Nat.lt_of_lt_of_le (Heap.lt_size e) (I.ok.cab x c hfn hc)))).trans e1⟩
    · by_cases hj : j = i
      · subst hj
        rw [hi] at e1; cases e1
        rw [List.getElem?_set_self hiσ] at e2
        cases e2
        exact ⟨u, r, .inr ⟨.inl hk, c, hc, hc'⟩⟩
      · rw [List.getElem?_set_ne (Ne.symm hj)] at e2
        obtain ⟨u', r', q⟩ := hl j y v' e1 e2 e3
        refine ⟨u', r', ?_⟩
        rcases q with q | ⟨k, c', e, z'⟩
        · exact .inl q
        · refine .inr ⟨k, c', e, z'.sameBut hs ?_⟩
          rintro rfl
          exact hj (nodup_ix hN e1 (I.ok.inj _ _ _ e hc ▸ hi))
    · by_cases hcc : c' = c
      · subst hcc; exact ⟨_, hc'⟩
      · obtain ⟨w2, z2⟩ := I.cell y c' e
        exact ⟨w2, z2.sameBut hs hcc⟩
    · obtain ⟨e, n, ne, nf, d⟩ := I.pin p hp
      refine ⟨(hs.2 p.1 ?_).trans e, n, ne, nf, d⟩
      intro q
      rw [q, hoc] at e
      have q' : oc = p.2 := Option.some.inj e
      exact d w' (by rw [← q']; exact hocd)
theorem store_ok {M : Model} {A : Around} {E : Value → Shared → Prop} {i : Nat} {x : Str} {v : V} {u : Value} {Q : Unit → Shared → Prop} (I : Inv X pins σ H s) (hN : X.N.Nodup) (hi : X.N[i]? = some x) (hx : Loc X.env.scope x) (r : RelV v u)
    (h : ∀ s', Inv X pins (σ.set i (some v)) H s' → Q () s') (hf : autoParam (X.fn x = true ∨ X.env.scope.names.lookup x = some .local) L2.Internal.auL._auto_1) : wpAny M A (storeName X.env x u) Q E s :=
  store_ok2 I hN hi hx r (fun s' I' _ => h s' I') hf
theorem Inv.call' {s' : Shared} {ch : List Addr} (I : Inv X pins σ H s) (ho : s'.os = s.os) (u : Un (frs X.stack) ch H H' s.heap s'.heap) (hok : HOk X.prog X.w H' s'.heap) (hg : AllBare s'.gens)
    (hch : ∀ b ∈ ch, (b ∈ X.ex ∨ X.s₀.heap.objs.size ≤ b) ∧ b ≠ X.env.locals ∧ (∀ x c, X.env.cells.lookup x = some c → c ≠ b) ∧ ∀ p ∈ X.pn ++ pins, p.1 ≠ b) : Inv X pins σ H' s' := by
  obtain ⟨h', g', d', t', o'⟩ := s'
  have e : o' = s.os := ho
  subst e
  exact I.call (g' := g') (t' := t') (d' := d') u hok hg hch
end

noncomputable abbrev XK := Value → Option Addr → Hp → Prop
noncomputable abbrev St := List (Option V)
noncomputable abbrev VK := V → Hp → Prop
noncomputable abbrev TE := St → Hp → VK → Prop
noncomputable abbrev TT := St → Hp → (Bool → Hp → Prop) → Prop
noncomputable abbrev TA := St → Hp → (List V → Hp → Prop) → Prop
structure Ends where
  nx : St → Hp → Prop
  rt : VK
  bk : St → Hp → Prop := fun _ _ => False
  ct : St → Hp → Prop := fun _ _ => False
noncomputable abbrev TS := Ends → St → Hp → Prop

noncomputable def EP (X : Cx) (pins : List (Addr × Obj)) (σ : St) (Q : VK) (u : Value) (s' : Shared) : Prop := ∃ v H', Inv X pins σ H' s' ∧ RelV v u ∧ Q v H'
noncomputable def TP (X : Cx) (pins : List (Addr × Obj)) (σ : St) (Q : Bool → Hp → Prop) (b : Bool) (s' : Shared) : Prop := ∃ H', Inv X pins σ H' s' ∧ Q b H'
noncomputable def AP (X : Cx) (pins : List (Addr × Obj)) (σ : St) (Q : List V → Hp → Prop) (us : List Value) (s' : Shared) : Prop := ∃ vs H', Inv X pins σ H' s' ∧ Vals vs us ∧ Q vs H'
noncomputable def SP.Internal (X : Cx) (pins : List (Addr × Obj)) (D : Ends) (f : Flow) (s' : Shared) : Prop :=
  match f with
  | .next => ∃ σ' H', Inv X pins σ' H' s' ∧ D.nx σ' H'
  | .brk => ∃ σ' H', Inv X pins σ' H' s' ∧ D.bk σ' H'
  | .cont => ∃ σ' H', Inv X pins σ' H' s' ∧ D.ct σ' H'
  | .ret u => ∃ v σ' H', Inv X pins σ' H' s' ∧ RelV v u ∧ D.rt v H'

noncomputable def PE (X : Cx) (e : Expr) (t : TE) : Prop :=
  ∀ (pins : List (Addr × Obj)) (s : Shared) (σ : St) (H : Hp) (Q : VK), Inv X pins σ H s → t σ H Q → wpAny (model X.prog X.w) X.A (eval e X.env) (EP X pins σ Q) X.xe s
noncomputable def PT (X : Cx) (e : Expr) (t : TT) : Prop :=
  ∀ (pins : List (Addr × Obj)) (s : Shared) (σ : St) (H : Hp) (Q : Bool → Hp → Prop), Inv X pins σ H s → t σ H Q → wpAny (model X.prog X.w) X.A (isTrue e X.env (eval e X.env)) (TP X pins σ Q) X.xe s
noncomputable def PW (X : Cx) (e : Expr) (t : TT) : Prop :=
  ∀ (whole : Sem Value) (pins : List (Addr × Obj)) (s : Shared) (σ : St) (H : Hp) (Q : Bool → Hp → Prop), Inv X pins σ H s → t σ H Q → wpAny (model X.prog X.w) X.A (isTrue e X.env whole) (TP X pins σ Q) X.xe s
theorem PW.pt {X : Cx} {e : Expr} {t : TT} (h : PW X e t) : PT X e t := h _
noncomputable def PA (X : Cx) (es : List Expr) (t : TA) : Prop :=
  ∀ (pos : Pos) (pins : List (Addr × Obj)) (s : Shared) (σ : St) (H : Hp) (Q : List V → Hp → Prop), Inv X pins σ H s → t σ H Q → wpAny (model X.prog X.w) X.A (spliced (backTo pos (starEach es X.env))) (AP X pins σ Q) X.xe s
noncomputable def PS (X : Cx) (st : Stmt) (t : TS) : Prop :=
  ∀ (pins : List (Addr × Obj)) (s : Shared) (σ : St) (H : Hp) (D : Ends), Inv X pins σ H s → t D σ H → wpAny (model X.prog X.w) X.A (exec st X.env) (SP.Internal X pins D) X.xe s
noncomputable def PSs (X : Cx) (st : List Stmt) (t : TS) : Prop :=
  ∀ (pins : List (Addr × Obj)) (s : Shared) (σ : St) (H : Hp) (D : Ends), Inv X pins σ H s → t D σ H → wpAny (model X.prog X.w) X.A (execs st X.env) (SP.Internal X pins D) X.xe s
theorem thn {α : Type} {t : Sem α} {Q Q' : α → Shared → Prop} {M : Model} {A : Around} {E : Value → Shared → Prop} {s : Shared} (h : wpAny M A t Q E s) (hQ : ∀ a s, Q a s → Q' a s) : wpAny M A t Q' E s := wpAny_mono h hQ fun _ _ x => x
end L2.Internal

namespace L2.Internal
open PySem PySem.Spec PyProof.Rows
section
variable {X : Cx}

noncomputable def tVar (i : Nat) : TE := fun σ H Q => ∃ v, σ[i]? = some (some v) ∧ Q v H
noncomputable def tC (v : V) : TE := fun _ H Q => Q v H
theorem pe_var {i : Nat} {x : Str} {pos : Pos} (hN : X.N[i]? = some x) (hv : Vis X.env.scope x) (hd : autoParam ((x == ("__debug__" : Str)) = false) L2.Internal.auD._auto_1) (hcd : autoParam ((x == ("__classdict__" : Str)) = false) L2.Internal.auD._auto_1) : PE X (.Name x pos) (tVar i) := by
  intro pins s σ H Q I h
  obtain ⟨v, e, h⟩ := h
  obtain ⟨m, hn, hl⟩ := I.loc
  obtain ⟨u, r, l⟩ := hl i x v hN e hv
  have fin : EP X pins σ Q u s := ⟨v, H, I, r, h⟩
  rcases l with ⟨hk, hm⟩ | ⟨hk, c, hc, hcell⟩
  · exact wpAny_Name (wpAny_loadName_local I.ok.kind hk hn hm fin) hd
  · rcases hk with hk | hk
    · exact wpAny_Name (wpAny_loadName_cell I.ok.kind hk hc hcell fin) hd
    · exact wpAny_Name (wpAny_loadName_free I.ok.kind hk hc hcell fin hcd) hd
theorem pe_int {i j pos} : PE X (.Constant (.int i) j pos) (tC (.int i)) := fun _ _ _ H _ I h => wpAny_Constant_int ⟨.int i, H, I.tok _, ⟨_, rfl⟩, h⟩
theorem pe_bl {b j pos} : PE X (.Constant (.bool b) j pos) (tC (.bl b)) := fun _ _ _ H _ I h => Constant_bool ⟨.bl b, H, I, rfl, h⟩
theorem pe_non {j pos} : PE X (.Constant .none j pos) (tC .non) := fun _ _ _ H _ I h => Constant_none ⟨.non, H, I, rfl, h⟩
theorem pe_str {x j pos} : PE X (.Constant (.str x) j pos) (tC (.str x)) := fun _ _ _ H _ I h => Calls.Constant_str ⟨.str x, H, I.tok _, ⟨_, rfl⟩, h⟩

noncomputable def Gl (X : Cx) (x : Str) : Prop := X.env.kindOf x = some .globalImplicit
theorem ld_glob {E : Value → Shared → Prop} {pins : List (Addr × Obj)} {s : Shared} {σ : St} {H : Hp} {x : Str} {u : Value} {pos : Pos} {Q : Value → Shared → Prop} (I : Inv X pins σ H s) (hg : Gl X x) (hm : X.mg x = some u) (h : Q u s)
    (hd : autoParam ((x == ("__debug__" : Str)) = false) L2.Internal.auD._auto_1) : wpAny (model X.prog X.w) X.A (eval (.Name x pos) X.env) Q E s :=
  Calls.Name_function_global I.ok.kind hg (Calls.loadGlobal_global (by rw [I.ok.glob]; exact I.mod.glob.keeps I.bk) hm h) hd
theorem ld_blt {E : Value → Shared → Prop} {pins : List (Addr × Obj)} {s : Shared} {σ : St} {H : Hp} {x : Str} {u : Value} {pos : Pos} {Q : Value → Shared → Prop} (I : Inv X pins σ H s) (hg : Gl X x) (hm : X.mg x = none) (hv : bootBuiltins x = some u) (h : Q u s)
    (hn : autoParam (x ≠ "__name__") L2.Internal.auD._auto_1) (hd : autoParam ((x == ("__debug__" : Str)) = false) L2.Internal.auD._auto_1) : wpAny (model X.prog X.w) X.A (eval (.Name x pos) X.env) Q E s := by
  obtain ⟨mb, h1, h2⟩ := I.mod.blt
  exact Calls.Name_function_global I.ok.kind hg (Calls.loadGlobal_builtin (by rw [I.ok.glob]; exact I.mod.glob.keeps I.bk) hm (by rw [I.ok.blt]; exact h1.keeps I.bk) ((h2 x hn).trans hv) h) hd
theorem pe_glob {x : Str} {v : V} {u : Value} {pos : Pos} (hg : Gl X x) (hm : X.mg x = some u) (r : RelV v u) (hd : autoParam ((x == ("__debug__" : Str)) = false) L2.Internal.auD._auto_1) : PE X (.Name x pos) (tC v) :=
  fun _ _ _ H _ I h => ld_glob I hg hm ⟨v, H, I, r, h⟩ hd
theorem pe_bltn {x : Str} {v : V} {u : Value} {pos : Pos} (hg : Gl X x) (hm : X.mg x = none) (hv : bootBuiltins x = some u) (r : RelV v u) (hn : autoParam (x ≠ "__name__") L2.Internal.auD._auto_1) (hd : autoParam ((x == ("__debug__" : Str)) = false) L2.Internal.auD._auto_1) : PE X (.Name x pos) (tC v) :=
  fun _ _ _ H _ I h => ld_blt I hg hm hv ⟨v, H, I, r, h⟩ hn hd

variable {a b : Expr} {ta tb : TE} {pos : Pos}
noncomputable def PC (X : Cx) (op : CmpOp) (a b : Expr) (t : TE) : Prop :=
  ∀ (pins : List (Addr × Obj)) (s : Shared) (σ : St) (H : Hp) (Q : VK), Inv X pins σ H s → t σ H Q →
    wpAny (model X.prog X.w) X.A (eval a X.env) (fun v s₁ => wpAny (model X.prog X.w) X.A (eval b X.env) (fun u s₂ => wpAny (model X.prog X.w) X.A (compareOp op v u) (EP X pins σ Q) X.xe s₂) X.xe s₁) X.xe s
noncomputable def tB (t : TE) : TT := fun σ H Q => t σ H fun x H1 => ∃ c, x = .bl c ∧ Q c H1
theorem pt_cmp {op : CmpOp} {t : TE} (h : PC X op a b t) (h1 : behindInMarks op b = false := by first | exact nobehind _ (by decide) (by decide) | rfl) : PT X (.Compare a [op] [b] pos) (tB t) := by
  intro pins s σ H Q I hw
  refine wpAny_isTrue_Compare1 (thn (h pins s σ H _ I hw) fun v s1 h1 => thn h1 fun u s2 h2 => thn h2 fun c s3 ⟨x, H1, I1, r1, q1⟩ => ?_) h1
  obtain ⟨d, rfl, q⟩ := q1
  cases r1
  exact wpAny_truthy_bool ⟨H1, I1, q⟩
theorem pt_val {e : Expr} {t : TE} (h : PE X e t) (he : autoParam (∀ whole, isTrue e X.env whole = (do let v ← whole; standAt e.pos; holding [v] (truthy v))) L2.Internal.auI._auto_1) : PT X e (tB t) := by
  intro pins s σ H Q I hw
  refine isTrue_plain (thn (h pins s σ H _ I hw) fun v s1 ⟨x, H1, I1, r1, q1⟩ => ?_) (he _)
  obtain ⟨d, rfl, q⟩ := q1
  cases r1
  exact wpAny_truthy_bool ⟨H1, I1, q⟩

variable {tA tB' : TT} {rest : List Expr}
noncomputable def tAnd (t u : TT) : TT := fun σ H Q => t σ H fun c H1 => if c = true then u σ H1 Q else Q false H1
noncomputable def tOr (t u : TT) : TT := fun σ H Q => t σ H fun c H1 => if c = true then Q true H1 else u σ H1 Q
noncomputable def tNot (t : TT) : TT := fun σ H Q => t σ H fun c H1 => Q (!c) H1
theorem pw_and1 (ha : PT X a tA) : PW X (.BoolOp .And [a] pos) tA := by
  intro wh pins s σ H Q I h
  refine isTrue_and (thn (ha pins s σ H Q I h) fun c s1 e => ?_)
  cases c with
  | true => exact isTrue_and_nil e
  | false => exact e
theorem pw_or1 (ha : PT X a tA) : PW X (.BoolOp .Or [a] pos) tA := by
  intro wh pins s σ H Q I h
  refine isTrue_or (thn (ha pins s σ H Q I h) fun c s1 e => ?_)
  cases c with
  | false => exact isTrue_or_nil e
  | true => exact e
theorem pw_and (ha : PT X a tA) (hb : PW X (.BoolOp .And (b :: rest) pos) tB') : PW X (.BoolOp .And (a :: b :: rest) pos) (tAnd tA tB') := by
  intro wh pins s σ H Q I h
  refine isTrue_and (thn (ha pins s σ H _ I h) fun c s1 ⟨H1, I1, q1⟩ => ?_)
  cases c with
  | true => exact hb wh pins s1 σ H1 Q I1 q1
  | false => exact ⟨H1, I1, q1⟩
theorem pw_or (ha : PT X a tA) (hb : PW X (.BoolOp .Or (b :: rest) pos) tB') : PW X (.BoolOp .Or (a :: b :: rest) pos) (tOr tA tB') := by
  intro wh pins s σ H Q I h
  refine isTrue_or (thn (ha pins s σ H _ I h) fun c s1 ⟨H1, I1, q1⟩ => ?_)
  cases c with
  | true => exact ⟨H1, I1, q1⟩
  | false => exact hb wh pins s1 σ H1 Q I1 q1
theorem pt_not (ha : PT X a tA) : PT X (.UnaryOp .Not a pos) (tNot tA) := by
  intro pins s σ H Q I h
  exact isTrue_not (ha pins s σ H (fun c H1 => Q (!c) H1) I h)
noncomputable def tAndV (ta tb : TE) : TE := fun σ H Q => ta σ H fun x H1 => ∃ c, x = .bl c ∧ if c = true then tb σ H1 Q else Q (.bl false) H1
noncomputable def tOrV (ta tb : TE) : TE := fun σ H Q => ta σ H fun x H1 => ∃ c, x = .bl c ∧ if c = true then Q (.bl true) H1 else tb σ H1 Q
noncomputable def tNotV (ta : TE) : TE := fun σ H Q => ta σ H fun x H1 => ∃ c, x = .bl c ∧ Q (.bl (!c)) H1
theorem pe_one {op} {t : TE} (h : PE X a t) : PE X (.BoolOp op [a] pos) t := fun pins s σ H Q I hw => BoolOp_one (h pins s σ H Q I hw)
theorem pe_and (ha : PE X a ta) (hb : PE X (.BoolOp .And (b :: rest) pos) tb) : PE X (.BoolOp .And (a :: b :: rest) pos) (tAndV ta tb) := by
  intro pins s σ H Q I h
  refine BoolOp_and (thn (ha pins s σ H _ I h) fun v s1 ⟨x, H1, I1, r1, q1⟩ => ?_)
  obtain ⟨c, rfl, q1⟩ := q1
  cases r1
  refine wpAny_truthy_bool ?_
  cases c with
  | true => exact hb pins s1 σ H1 Q I1 q1
  | false => exact ⟨.bl false, H1, I1, rfl, q1⟩
theorem pe_or (ha : PE X a ta) (hb : PE X (.BoolOp .Or (b :: rest) pos) tb) : PE X (.BoolOp .Or (a :: b :: rest) pos) (tOrV ta tb) := by
  intro pins s σ H Q I h
  refine BoolOp_or (thn (ha pins s σ H _ I h) fun v s1 ⟨x, H1, I1, r1, q1⟩ => ?_)
  obtain ⟨c, rfl, q1⟩ := q1
  cases r1
  refine wpAny_truthy_bool ?_
  cases c with
  | false => exact hb pins s1 σ H1 Q I1 q1
  | true => exact ⟨.bl true, H1, I1, rfl, q1⟩
theorem pe_not (ha : PE X a ta) : PE X (.UnaryOp .Not a pos) (tNotV ta) := by
  intro pins s σ H Q I h
  refine UnaryOp_ (thn (ha pins s σ H _ I h) fun v s1 ⟨x, H1, I1, r1, q1⟩ => ?_)
  obtain ⟨c, rfl, q1⟩ := q1
  cases r1
  exact not_of (wpAny_truthy_bool ⟨.bl (!c), H1, I1, rfl, q1⟩)
end
end L2.Internal

namespace L2.Internal
open PySem PySem.Spec PyProof.Rows

noncomputable def SqL (K : PySem.W.Frag) (H : Hp) (a : Addr) (xs : List V) : Prop :=
  Rd H a (.lst xs) ∨
    ∃ (o : Obj) (its : Array Value) (n : Nat), K.lookup a = some o ∧ o.cls = .type "list" ∧ o.dict = none ∧ o.data = .seq its n ∧ its.size ≤ sizeLine ∧ Vals xs its.toList
noncomputable def SqT (K : PySem.W.Frag) (H : Hp) (a : Addr) (xs : List V) : Prop :=
  Rd H a (.tup xs) ∨
    ∃ (o : Obj) (its : Array Value) (n : Nat), K.lookup a = some o ∧ o.cls = .type "tuple" ∧ o.data = .seq its n ∧ its.size ≤ sizeLine ∧ Vals xs its.toList
noncomputable def absV : Value → Option V
  | .none => some .non
  | .bool b => some (.bl b)
  | .int i _ => some (.int i)
  | .str x _ => some (.str x)
  | .bytes b _ => some (.byt b)
  | .float b _ => some (.flt b)
  | .ref a => some (.ref a)
  | .type n => some (.ty n)
  | _ => none
theorem RelV.abs {x : V} {u : Value} (r : RelV x u) : absV u = some x := by
  cases x with
  | non => cases r; rfl
  | bl _ => cases r; rfl
  | int _ => obtain ⟨t, rfl⟩ := r; rfl
  | str _ => obtain ⟨t, rfl⟩ := r; rfl
  | byt _ => obtain ⟨t, rfl⟩ := r; rfl
  | flt _ => obtain ⟨t, rfl⟩ := r; rfl
  | ref _ => cases r; rfl
  | ty _ => cases r; rfl
theorem RelV.inj {x y : V} {u : Value} (r : RelV x u) (q : RelV y u) : x = y := Option.some.inj (r.abs.symm.trans q.abs)
theorem Vals.inj : ∀ {xs ys : List V} {us : List Value}, Vals xs us → Vals ys us → xs = ys
  | _, _, _, .nil, .nil => rfl
  | _, _, _, .cons r t, .cons r' t' => by rw [r.inj r', Vals.inj t t']
section
variable {X : Cx} {pins : List (Addr × Obj)} {σ : St} {H : Hp} {s : Shared} {a : Addr} {xs ys : List V}
theorem SqL.of {K : PySem.W.Frag} (h : H a = some (.lst xs)) : SqL K H a xs := .inl (.inl h)
theorem SqT.of {K : PySem.W.Frag} (h : H a = some (.tup xs)) : SqT K H a xs := .inl (.inl h)
theorem Inv.list (I : Inv X pins σ H s) (h : SqL X.K H a xs) : ∃ its : List Value, Vals xs its ∧ PlainL s.heap a its.toArray ∧ xs.length ≤ sizeLine := by
  rcases h with h | ⟨o, its, n, hk, hc, hd, hs, hz, r⟩
  · obtain ⟨z, its, n, r, e⟩ := h.ok I.hok
    exact ⟨its, r, ⟨_, n, e, rfl, rfl, rfl⟩, z⟩
  · refine ⟨its.toList, r, ⟨o, n, I.kIn a o hk, hc, hd, by simpa using hs⟩, ?_⟩
    have e := r.length
    simp only [Array.length_toList] at e
    omega
theorem Inv.tuple (I : Inv X pins σ H s) (h : SqT X.K H a xs) : ∃ its : List Value, Vals xs its ∧ IsTup s.heap a its.toArray ∧ xs.length ≤ sizeLine := by
  rcases h with h | ⟨o, its, n, hk, hc, hs, hz, r⟩
  · obtain ⟨z, its, r, p⟩ := h.ok I.hok
    exact ⟨its, r, p.tup, z⟩
  · refine ⟨its.toList, r, ⟨o, I.kIn a o hk, hc, n, by simpa using hs⟩, ?_⟩
    have e := r.length
    simp only [Array.length_toList] at e
    omega
theorem Inv.list_inj (I : Inv X pins σ H s) (h : SqL X.K H a xs) (h' : SqL X.K H a ys) : xs = ys := by
  obtain ⟨its, r, ⟨o, n, e, _, _, d⟩, _⟩ := I.list h
  obtain ⟨its', r', ⟨o', n', e', _, _, d'⟩, _⟩ := I.list h'
  rw [e] at e'; cases e'
  rw [d] at d'
  injection d' with d1 _
  have : its = its' := by simpa using congrArg Array.toList d1
  subst this
  exact r.inj r'
theorem Inv.tuple_inj (I : Inv X pins σ H s) (h : SqT X.K H a xs) (h' : SqT X.K H a ys) : xs = ys := by
  obtain ⟨its, r, ⟨o, e, _, n, d⟩, _⟩ := I.tuple h
  obtain ⟨its', r', ⟨o', e', _, n', d'⟩, _⟩ := I.tuple h'
  rw [e] at e'; cases e'
  rw [d] at d'
  injection d' with d1 _
  have : its = its' := by simpa using congrArg Array.toList d1
  subst this
  exact r.inj r'
end

noncomputable abbrev Cx.wish (X : Cx) (E : Value → Shared → Prop) : Cx := { X with xe := E }
noncomputable abbrev Cx.nox (X : Cx) : Cx := X.wish fun _ _ => False
theorem Cx.Ok.wish {X : Cx} (ok : X.Ok) (E : Value → Shared → Prop) : (X.wish E).Ok :=
  ⟨ok.mod, ok.kind, ok.glob, ok.blt, ok.above, ok.inj, ok.has, ok.cab, ok.hd, ok.frames, ok.stk, ok.exf, ok.bs, ok.bsz, ok.noex, ok.exfs, ok.funs, ok.frf⟩
theorem Cx.Ok.unwish {X : Cx} {E : Value → Shared → Prop} (ok : (X.wish E).Ok) : X.Ok :=
  ⟨ok.mod, ok.kind, ok.glob, ok.blt, ok.above, ok.inj, ok.has, ok.cab, ok.hd, ok.frames, ok.stk, ok.exf, ok.bs, ok.bsz, ok.noex, ok.exfs, ok.funs, ok.frf⟩
section
variable {X : Cx} {pins : List (Addr × Obj)} {σ : St} {H : Hp} {s : Shared} {E : Value → Shared → Prop}
theorem Inv.wish (I : Inv X pins σ H s) (E : Value → Shared → Prop) : Inv (X.wish E) pins σ H s := ⟨I.ok.wish E, I.os, I.bare, I.base, I.loc, I.cell, I.free, I.freeC, I.pin, I.hok, I.len⟩
theorem Inv.unwish (I : Inv (X.wish E) pins σ H s) : Inv X pins σ H s := ⟨I.ok.unwish, I.os, I.bare, I.base, I.loc, I.cell, I.free, I.freeC, I.pin, I.hok, I.len⟩
theorem SP.Internal.unwish {D : Ends} {f : Flow} {s' : Shared} (h : SP.Internal (X.wish E) pins D f s') : SP.Internal X pins D f s' := by
  cases f with
  | next => obtain ⟨σ', H', I, q⟩ := h; exact ⟨σ', H', I.unwish, q⟩
  | brk => obtain ⟨σ', H', I, q⟩ := h; exact ⟨σ', H', I.unwish, q⟩
  | cont => obtain ⟨σ', H', I, q⟩ := h; exact ⟨σ', H', I.unwish, q⟩
  | ret u => obtain ⟨v, σ', H', I, r, q⟩ := h; exact ⟨v, σ', H', I.unwish, r, q⟩
theorem PSs.nox {st : List Stmt} {t : TS} (h : PSs X.nox st t) : PSs X st t := fun pins s σ H D I hw =>
  wpAny_mono (h pins s σ H D (I.wish _) hw) (fun _ _ q => q.unwish) fun _ _ z => False.elim z
end

section
variable {X : Cx} {st : Stmt} {rest : List Stmt} {t u : TS} {e : Expr} {te : TE} {pos : Pos}
noncomputable def tNext : TS := fun D σ H => D.nx σ H
noncomputable def tSeq (t u : TS) : TS := fun D σ H => t { D with nx := u D } σ H
theorem pss_nil : PSs X [] tNext := fun _ _ σ H _ I h => wpAny_execs_nil ⟨σ, H, I, h⟩
theorem pss_cons (h1 : PS X st t) (h2 : PSs X rest u) : PSs X (st :: rest) (tSeq t u) := by
  intro pins s σ H D I h
  refine wpAny_execs_cons (thn (h1 pins s σ H { D with nx := u D } I h) fun f s1 q => ?_)
  cases f with
  | next =>
    obtain ⟨σ', H', I', q⟩ := q
    exact h2 pins s1 σ' H' D I' q
  | ret v => exact q
  | brk => exact q
  | cont => exact q
theorem pss_one (h1 : PS X st t) : PSs X [st] t := by
  intro pins s σ H D I h
  refine wpAny_execs_cons (thn (h1 pins s σ H D I h) fun f s1 q => ?_)
  cases f with
  | next => exact wpAny_execs_nil q
  | ret v => exact q
  | brk => exact q
  | cont => exact q
theorem Inv.quiet {pins : List (Addr × Obj)} {σ : St} {H : Hp} {s : Shared} (I : Inv X pins σ H s) : interactive X.env = false := by simp [interactive, I.ok.kind]
noncomputable def tDrop (te : TE) : TS := fun D σ H => te σ H fun _ H1 => D.nx σ H1
theorem ps_expr (he : PE X e te) (hs : autoParam (swapsWith e none pos.line X.env = pure false) L2.Internal.auR._auto_1) : PS X (.Expr e pos) (tDrop te) := by
  intro pins s σ H D I h
  exact wpAny_Expr_any (thn (he pins s σ H _ I h) fun v s1 ⟨x, H1, I1, r1, q1⟩ => ⟨σ, H1, I1, q1⟩) I.quiet hs
noncomputable def tRet (te : TE) : TS := fun D σ H => te σ H D.rt
theorem ps_ret (he : PE X e te) : PS X (.Return (some e) pos) (tRet te) := by
  intro pins s σ H D I h
  exact wpAny_Return_some (thn (he pins s σ H _ I h) fun v s1 ⟨x, H1, I1, r1, q1⟩ => ⟨x, σ, H1, I1, r1, q1⟩)
noncomputable def tIfS (c : TT) (t u : TS) : TS := fun D σ H => c σ H fun b H1 => if b = true then t D σ H1 else u D σ H1
theorem ps_if {c : Expr} {a b : List Stmt} {tc : TT} (hc : PT X c tc) (ha : PSs X a t) (hb : PSs X b u) : PS X (.If c a b pos) (tIfS tc t u) := by
  intro pins s σ H D I h
  refine wpAny_If (thn (hc pins s σ H _ I h) fun d s1 ⟨H1, I1, q1⟩ => ?_)
  cases d with
  | true => exact ha pins s1 σ H1 D I1 q1
  | false => exact hb pins s1 σ H1 D I1 q1
noncomputable def tNever : TS := fun _ _ _ => False
theorem pss_never {sts : List Stmt} : PSs X sts tNever := fun _ _ _ _ _ _ h => h.elim
end

noncomputable abbrev TG := V → St → Hp → (St → Hp → Prop) → Prop
noncomputable abbrev TGs := List V → St → Hp → (St → Hp → Prop) → Prop
noncomputable def PG (X : Cx) (target : Expr) (t : TG) : Prop :=
  ∀ (pins : List (Addr × Obj)) (s : Shared) (σ : St) (H : Hp) (v : V) (u : Value) (Q : St → Hp → Prop), Inv X pins σ H s → RelV v u → t v σ H Q →
    wpAny (model X.prog X.w) X.A (assign target X.env u) (fun _ s' => ∃ σ' H', Inv X pins σ' H' s' ∧ Q σ' H') X.xe s
noncomputable def PGs (X : Cx) (ts : List Expr) (t : TGs) : Prop :=
  ∀ (pins : List (Addr × Obj)) (s : Shared) (σ : St) (H : Hp) (vs : List V) (us : List Value) (Q : St → Hp → Prop), Inv X pins σ H s → Vals vs us → t vs σ H Q →
    wpAny (model X.prog X.w) X.A (assignInOrder ((assignEach ts X.env).map (·.2)) us) (fun _ s' => ∃ σ' H', Inv X pins σ' H' s' ∧ Q σ' H') X.xe s
noncomputable abbrev TSet := V → V → V → Hp → (Hp → Prop) → Prop
noncomputable def PSet (X : Cx) (t : TSet) : Prop :=
  ∀ (pins : List (Addr × Obj)) (s : Shared) (σ : St) (H : Hp) (o i v : V) (ov iv u : Value) (Q : Hp → Prop), Inv X pins σ H s → RelV o ov → RelV i iv → RelV v u → t o i v H Q →
    wpAny (model X.prog X.w) X.A (setItem ov iv u) (fun _ s' => ∃ H', Inv X pins σ H' s' ∧ Q H') X.xe s
section
variable {X : Cx} {pos : Pos}
noncomputable def gName (i : Nat) : TG := fun v σ H Q => Q (σ.set i (some v)) H
theorem pg_name {i : Nat} {x : Str} (hN : X.N.Nodup) (hi : X.N[i]? = some x) (hx : Loc X.env.scope x) (hf : autoParam (X.fn x = true ∨ X.env.scope.names.lookup x = some .local) L2.Internal.auL._auto_1) : PG X (.Name x pos) (gName i) := by
  intro pins s σ H v u Q I r h
  exact wpAny_assign_Name (store_ok I hN hi hx r (fun s' I' => ⟨_, H, I', h⟩) hf)
noncomputable def gNil : TGs := fun vs σ H Q => vs = [] ∧ Q σ H
noncomputable def gCons (t : TG) (u : TGs) : TGs := fun vs σ H Q => ∃ v r, vs = v :: r ∧ t v σ H fun σ' H' => u r σ' H' Q
theorem pgs_nil : PGs X [] gNil := by
  intro pins s σ H vs us Q I r h
  obtain ⟨e, h⟩ := h
  subst e
  cases r
  exact assignInOrder_nil ⟨σ, H, I, h⟩
theorem pgs_cons {e : Expr} {es : List Expr} {t : TG} {u : TGs} (h1 : PG X e t) (h2 : PGs X es u)
    (hs : autoParam ((assignEach (e :: es) X.env).map (·.2) = assign e X.env :: (assignEach es X.env).map (·.2)) L2.Internal.auR._auto_1) : PGs X (e :: es) (gCons t u) := by
  intro pins s σ H vs us Q I r h
  obtain ⟨v, vr, e1, h⟩ := h
  subst e1
  cases r with
  | cons r rr =>
    rw [hs]
    refine assignInOrder_cons (thn (h1 pins s σ H _ _ _ I r h) fun _ s1 ⟨σ1, H1, I1, q1⟩ => ?_)
    exact h2 pins s1 σ1 H1 _ _ Q I1 rr q1
noncomputable def gSub (to ti : TE) (t : TSet) : TG := fun v σ H Q => to σ H fun o H1 => ti σ H1 fun i H2 => t o i v H2 fun H3 => Q σ H3
theorem pg_sub {o i : Expr} {to ti : TE} {t : TSet} (ho : PE X o to) (hi : PE X i ti) (hs : PSet X t)
    (ha : ∀ v, assign (.Subscript o i pos) X.env v = (do
      let ov ← holding [v] (eval o X.env)
      let iv ← holding [v, ov] (eval i X.env)
      standAt pos
      holding [v, ov, iv] (setItem ov iv v)
      release [v, ov, iv] []) := by intro _; rfl) : PG X (.Subscript o i pos) (gSub to ti t) := by
  intro pins s σ H v u Q I r h
  rw [ha]
  refine wpAny_bind (wpAny_holding (thn (ho pins s σ H _ I h) fun ov s1 ⟨x, H1, I1, r1, q1⟩ => ?_))
  refine wpAny_bind (wpAny_holding (thn (hi pins s1 σ H1 _ I1 q1) fun iv s2 ⟨y, H2, I2, r2, q2⟩ => ?_))
  refine wpAny_bind (wpAny_standAt (wpAny_bind (wpAny_holding (thn (hs pins s2 σ H2 x y v ov iv u _ I2 r1 r2 r q2) fun _ s3 ⟨H3, I3, q3⟩ => ?_))))
  exact wpAny_release ⟨σ, H3, I3, q3⟩
noncomputable def tAsg (te : TE) (g : TG) : TS := fun D σ H => te σ H fun x H1 => g x σ H1 D.nx
theorem ps_asg {tg e : Expr} {te : TE} {g : TG} (he : PE X e te) (hg : PG X tg g) (hs : autoParam (swapsWithSole [tg] e pos.line X.env = pure false) L2.Internal.auR._auto_1) (hw : autoParam (swappedStores [tg] e X.env = pure none) L2.Internal.auR._auto_1)
    (h1 : autoParam ((assignEach [tg] X.env).map (·.2) = [assign tg X.env]) L2.Internal.auR._auto_1) : PS X (.Assign [tg] e pos) (tAsg te g) := by
  intro pins s σ H D I h
  refine wpAny_Assign_stores (thn (he pins s σ H _ I h) fun v s1 ⟨x, H1, I1, r1, q1⟩ => ?_) hs hw
  rw [h1]
  exact thn (hg pins s1 σ H1 x v _ I1 r1 q1) fun _ s2 q => q
theorem ps_set {i : Nat} {x : Str} {e : Expr} {te : TE} {pos' : Pos} (hN : X.N.Nodup) (hi : X.N[i]? = some x) (hx : Loc X.env.scope x) (he : PE X e te) (hs : autoParam (swapsWith e (some (.Name x pos')) pos.line X.env = pure false) L2.Internal.auR._auto_1) (hf : autoParam (X.fn x = true ∨ X.env.scope.names.lookup x = some .local) L2.Internal.auL._auto_1) :
    PS X (.Assign [.Name x pos'] e pos) (tAsg te (gName i)) := by
  intro pins s σ H D I h
  refine wpAny_Assign_Name (thn (he pins s σ H _ I h) fun v s1 ⟨y, H1, I1, r1, q1⟩ => ?_) hs
  exact store_ok I1 hN hi hx r1 (fun s2 I2 => ⟨_, H1, I2, q1⟩) hf
end

section
variable {X : Cx} {pos : Pos}
noncomputable def tWhile (c : TT) (tb : TS) : TS := fun D σ H => ∃ W : Nat → St → Hp → Prop, (∃ m, W m σ H) ∧ ∀ m σ H, W m σ H →
  c σ H fun b H1 => if b = true then ∃ N : St → Hp → Prop, (∀ σ' H', N σ' H' → ∃ m', m' < m ∧ W m' σ' H') ∧ tb { D with nx := N, ct := N, bk := D.nx } σ H1 else D.nx σ H1
theorem ps_while {c : Expr} {body : List Stmt} {tc : TT} {tb : TS} (hp : PassesOwn (model X.prog X.w) X.A X.env X.xe) (hc : PT X c tc) (hb : PSs X body tb) : PS X (.While c body [] pos) (tWhile tc tb) := by
  intro pins s σ H D I h
  obtain ⟨W, ⟨m0, w0⟩, turn⟩ := h
  refine wpAny_While (codeAny_whileLoop (fun n s' => ∃ σ' H', Inv X pins σ' H' s' ∧ W n σ' H') ?_ m0 ⟨σ, H, I, w0⟩)
  rintro n s1 ⟨σ1, H1, I1, w1⟩
  refine wpAny_passesOwn hp (thn (hc pins s1 σ1 H1 _ I1 (turn n σ1 H1 w1)) fun b s2 ⟨H2, I2, q2⟩ => ?_)
  cases b with
  | true =>
    obtain ⟨N, hN, q2⟩ := q2
    rw [if_pos rfl]
    refine wpAny_passesOwn hp (thn (hb pins s2 σ1 H2 _ I2 q2) fun f s3 q3 => ?_)
    cases f with
    | next =>
      obtain ⟨σ3, H3, I3, n3⟩ := q3
      obtain ⟨m', hm, w3⟩ := hN σ3 H3 n3
      exact ⟨m', hm, σ3, H3, I3, w3⟩
    | cont =>
      obtain ⟨σ3, H3, I3, n3⟩ := q3
      obtain ⟨m', hm, w3⟩ := hN σ3 H3 n3
      exact ⟨m', hm, σ3, H3, I3, w3⟩
    | brk => exact q3
    | ret v => exact q3
  | false =>
    rw [if_neg Bool.false_ne_true]
    exact wpAny_execs_nil ⟨σ1, H2, I2, q2⟩
end

structure It where
  go : Nat → Hp → Prop
  yld : Nat → Hp → V → Hp → Prop
  stop : Nat → Hp → Prop
noncomputable def FpOk (X : Cx) (pins : List (Addr × Obj)) (H : Hp) (b : Addr) : Prop :=
  H b = none ∧ b ≠ X.env.locals ∧ b ∉ X.fs ∧ (b ∈ X.ex ∨ X.s₀.heap.objs.size ≤ b) ∧ (∀ x c, X.env.cells.lookup x = some c → c ≠ b) ∧ ∀ p ∈ X.pn ++ pins, p.1 ≠ b
theorem Inv.fpOk {X : Cx} {pins : List (Addr × Obj)} {σ : St} {H H' : Hp} {s : Shared} {b : Addr} (I : Inv X pins σ H s) (hb : s.heap.objs.size ≤ b) (hn : H' b = none) : FpOk X pins H' b := by
  refine ⟨hn, Nat.ne_of_gt (Nat.lt_of_lt_of_le I.lt hb), I.nofs hb, .inr (Nat.le_trans I.sz hb), fun x c e z => ?_, fun p hp z => ?_⟩
  · obtain ⟨v, q⟩ := I.cell x c e
    exact absurd (Nat.lt_of_lt_of_le q.lt (by rw [z]; exact hb)) (Nat.lt_irrefl _)
  · exact absurd (Nat.lt_of_lt_of_le (Heap.lt_size (I.pin p hp).1) (by rw [z]; exact hb)) (Nat.lt_irrefl _)
structure Turn (P : Program) (w : World) (K : PySem.W.Frag) (tg : Expr) (J : It) (fp : List Addr) (it : Addr) (tn : Nat → Heap → Prop) : Prop where
  mem : it ∈ fp
  obj : ∀ i h, tn i h → ∀ b ∈ fp, ∃ o, h.get? b = some o ∧ ∀ v, o.data ≠ .cell v
  keep : ∀ i h h', tn i h → (∀ b ∈ fp, ∀ o, h.get? b = some o → h'.get? b = some o) → tn i h'
  item : ∀ (X : Cx), X.prog = P → X.w = w → X.K = K → X.calm = true → ∀ (i : Nat) (pins : List (Addr × Obj)) (s : Shared) (σ : St) (H : Hp) (E : Value → Shared → Prop), Inv X pins σ H s → (∀ b ∈ fp, FpOk X pins H b) → tn i s.heap → J.go i H →
    wpAny (model P w) X.A (pyNext (.ref it)) (fun r s1 => ∃ u, r = some u ∧
      wpAny (model P w) X.A (letOwnedTupleGo tg (.ref it) u) (fun _ s2 => ∃ x H', Inv X pins σ H' s2 ∧ RelV x u ∧ J.yld i H x H' ∧ tn (i + 1) s2.heap ∧ ∀ b ∈ fp, H' b = none) E s1) E s
  done : ∀ (X : Cx), X.prog = P → X.w = w → X.K = K → X.calm = true → ∀ (i : Nat) (pins : List (Addr × Obj)) (s : Shared) (σ : St) (H : Hp) (E : Value → Shared → Prop), Inv X pins σ H s → (∀ b ∈ fp, FpOk X pins H b) → tn i s.heap → J.stop i H →
    wpAny (model P w) X.A (pyNext (.ref it)) (fun r s1 => r = none ∧ Inv X pins σ H s1) E s
  self : ∀ (A : Around) (i : Nat) (s : Shared) (Q : Value → Shared → Prop) (E : Value → Shared → Prop), tn i s.heap → Q (.ref it) s → wpAny (model P w) A (pyIter (.ref it)) Q E s
noncomputable abbrev TI := St → Hp → (It → Hp → Prop) → Prop
noncomputable def PIE (X : Cx) (pins : List (Addr × Obj)) (σ : St) (tg : Expr) (R : It → Hp → Prop) (itv : Value) (s2 : Shared) : Prop :=
  ∃ (it : Addr) (fp : List Addr) (tn : Nat → Heap → Prop) (J : It) (H' : Hp), itv = .ref it ∧ Inv X pins σ H' s2 ∧ Turn X.prog X.w X.K tg J fp it tn ∧ tn 0 s2.heap ∧ (∀ b ∈ fp, FpOk X pins H' b) ∧ R J H'
noncomputable def PI (X : Cx) (tg iter : Expr) (wi : TI) : Prop :=
  ∀ (pins : List (Addr × Obj)) (s : Shared) (σ : St) (H : Hp) (R : It → Hp → Prop), Inv X pins σ H s → wi σ H R →
    wpAny (model X.prog X.w) X.A (eval iter X.env) (fun v s1 => wpAny (model X.prog X.w) X.A (pyIter v) (PIE X pins σ tg R) X.xe s1) X.xe s

theorem go_of {M : Model} {A : Around} {E : Value → Shared → Prop} {s : Shared} {tg : Expr} {it : Addr} {u : Value} {o : Obj} {n : String} {vs : Array Value} {Q : Unit → Shared → Prop} (ho : s.heap.get? it = some o) (hc : o.cls = .type n) (hd : o.data = .fields vs)
    (hn : ["enumerate", "zip", "dict_itemiterator", "dict_reverseitemiterator", "odict_iterator", "itertools.zip_longest", "itertools.pairwise"].contains n = false) (hQ : Q () s) : wpAny M A (letOwnedTupleGo tg (.ref it) u) Q E s := by
  unfold letOwnedTupleGo
  cases tg <;> first
    | exact wpAny_pure hQ
    | (cases u <;> first
        | exact wpAny_pure hQ
        | (refine wpAny_bind (wpAny_load ho ?_)
           rw [hc, hd]
           show wpAny M A (if (["enumerate", "zip", "dict_itemiterator", "dict_reverseitemiterator", "odict_iterator", "itertools.zip_longest", "itertools.pairwise"].contains n && vs[0]? == some (rawInt _)) = true then _ else _) Q E s
           rw [if_neg (by intro h; rw [hn, Bool.false_and] at h; cases h)]
           exact wpAny_pure hQ))

noncomputable def Itl (K : PySem.W.Frag) (a : Addr) : It :=
  ⟨fun i H => ∃ xs x, SqL K H a xs ∧ xs[i]? = some x, fun i H x H' => H' = H ∧ ∀ xs, SqL K H a xs → xs[i]? = some x, fun i H => ∃ xs, SqL K H a xs ∧ xs.length ≤ i⟩
noncomputable def Itt (K : PySem.W.Frag) (a : Addr) : It :=
  ⟨fun i H => ∃ xs x, SqT K H a xs ∧ xs[i]? = some x, fun i H x H' => H' = H ∧ ∀ xs, SqT K H a xs → xs[i]? = some x, fun i H => ∃ xs, SqT K H a xs ∧ xs.length ≤ i⟩
noncomputable def Itr (lo : Int) (n : Nat) : It := ⟨fun i _ => i < n, fun i H x H' => H' = H ∧ x = .int (lo + i), fun i _ => n ≤ i⟩
theorem turn_list {P : Program} {w : World} {K : PySem.W.Frag} {tg : Expr} (a it : Addr) : Turn P w K tg (Itl K a) [it] it (fun i h => h.IsListIter it a i) where
  mem := by simp
  obj := fun i h st b hb => by
    have e : b = it := by simpa using hb
    subst e
    obtain ⟨o, e, c, d⟩ := st
    exact ⟨o, e, fun v z => by rw [d] at z; cases z⟩
  keep := fun i h h' st k => st.at fun o e => k it (by simp) o e
  item := by
    intro X hP hw hK hc i pins s σ H E I hf st hg
    subst hP hw hK
    obtain ⟨xs, x, hq, hx⟩ := hg
    obtain ⟨its, rv, p, hz⟩ := I.list hq
    obtain ⟨u, hu, ru⟩ := rv.get hx
    obtain ⟨f0, f1, f2, f3, f4, f5⟩ := hf it (by simp)
    refine wpAny_pyNext_list_item st p.isList (x := u) (by simpa using hu) fun h' st' sb => ?_
    have I1 : Inv X pins σ H { s with heap := h' } := I.turned (t' := s.toks) (fun b o hb e => (sb.2 b hb).trans e) f0 f1 f3 f4 f5
    obtain ⟨o, e, c, d⟩ := id st'
    exact ⟨u, rfl, go_of (s := { s with heap := h' }) e c d (by decide) ⟨x, H, I1, ru, ⟨rfl, fun ys hy => by rw [I.list_inj hy hq]; exact hx⟩, st', fun b hb => (hf b hb).1⟩⟩
  done := by
    intro X hP hw hK hc i pins s σ H E I hf st hg
    subst hP hw hK
    obtain ⟨xs, hq, hx⟩ := hg
    obtain ⟨its, rv, p, hz⟩ := I.list hq
    obtain ⟨f0, f1, f2, f3, f4, f5⟩ := hf it (by simp)
    have hl := rv.length
    exact wpAny_pyNext_list_end (I.ok.hd hc) st p.isList (by simp; omega) fun h' eb => ⟨rfl, I.turned (t' := s.toks) (fun b o hb e => eb b o hb e) f0 f1 f3 f4 f5⟩
  self := fun _ _ _ _ _ st h => wpAny_pyIter_listiter st h
theorem turn_tuple {P : Program} {w : World} {K : PySem.W.Frag} {tg : Expr} (a it : Addr) : Turn P w K tg (Itt K a) [it] it (fun i h => h.IsTupleIter it a i) where
  mem := by simp
  obj := fun i h st b hb => by
    have e : b = it := by simpa using hb
    subst e
    obtain ⟨o, e, c, d⟩ := st
    exact ⟨o, e, fun v z => by rw [d] at z; cases z⟩
  keep := fun i h h' st k => st.at fun o e => k it (by simp) o e
  item := by
    intro X hP hw hK hc i pins s σ H E I hf st hg
    subst hP hw hK
    obtain ⟨xs, x, hq, hx⟩ := hg
    obtain ⟨its, rv, p, hz⟩ := I.tuple hq
    obtain ⟨u, hu, ru⟩ := rv.get hx
    obtain ⟨f0, f1, f2, f3, f4, f5⟩ := hf it (by simp)
    refine wpAny_pyNext_tuple_item st (show s.heap.IsTuple a its.toArray from p) (x := u) (by simpa using hu) fun h' st' sb => ?_
    have I1 : Inv X pins σ H { s with heap := h' } := I.turned (t' := s.toks) (fun b o hb e => (sb.2 b hb).trans e) f0 f1 f3 f4 f5
    obtain ⟨o, e, c, d⟩ := id st'
    exact ⟨u, rfl, go_of (s := { s with heap := h' }) e c d (by decide) ⟨x, H, I1, ru, ⟨rfl, fun ys hy => by rw [I.tuple_inj hy hq]; exact hx⟩, st', fun b hb => (hf b hb).1⟩⟩
  done := by
    intro X hP hw hK hc i pins s σ H E I hf st hg
    subst hP hw hK
    obtain ⟨xs, hq, hx⟩ := hg
    obtain ⟨its, rv, p, hz⟩ := I.tuple hq
    obtain ⟨f0, f1, f2, f3, f4, f5⟩ := hf it (by simp)
    have hl := rv.length
    exact wpAny_pyNext_tuple_end (I.ok.hd hc) st (show s.heap.IsTuple a its.toArray from p) (by simp; omega) fun h' eb => ⟨rfl, I.turned (t' := s.toks) (fun b o hb e => eb b o hb e) f0 f1 f3 f4 f5⟩
  self := fun _ _ _ _ _ st h => wpAny_pyIter_tupleiter st h
theorem turn_range {P : Program} {w : World} {K : PySem.W.Frag} {tg : Expr} (it : Addr) (lo : Int) (n : Nat) : Turn P w K tg (Itr lo n) [it] it (fun i h => IsRangeIter h it (lo + (i : Nat) * 1) ((n : Int) - (i : Nat)) 1) where
  mem := by simp
  obj := fun i h st b hb => by
    have e : b = it := by simpa using hb
    subst e
    exact ⟨_, st, fun v z => by
      have z' : Data.fields _ = Data.cell v := z
      cases z'⟩
  keep := fun i h h' st k => k it (by simp) _ st
  item := by
    intro X hP hw hK hc i pins s σ H E I hf st hg
    subst hP hw hK
    obtain ⟨f0, f1, f2, f3, f4, f5⟩ := hf it (by simp)
    have W := Walks.range (prog := X.prog) (w := X.w) (I.ok.hd hc) it lo 1 n
    refine W.item i s _ _ hg st fun v h' tk hv st' kk => ?_
    obtain ⟨t, rfl⟩ := hv
    have I1 : Inv X pins σ H { s with heap := h', toks := tk } := I.turned (fun b o hb e => kk b o (by simpa using hb) e) f0 f1 f3 f4 f5
    refine ⟨_, rfl, go_of (s := { s with heap := h', toks := tk }) (n := "range_iterator") st' rfl rfl (by decide) ⟨.int (lo + i), H, I1, ⟨t, ?_⟩, ⟨rfl, rfl⟩, st', fun b hb => (hf b hb).1⟩⟩
    rw [Int.mul_one]
  done := by
    intro X hP hw hK hc i pins s σ H E I hf st hg
    subst hP hw hK
    obtain ⟨f0, f1, f2, f3, f4, f5⟩ := hf it (by simp)
    exact wpAny_pyNext_range_end (I.ok.hd hc) st (by have : n ≤ i := hg; omega) fun h' eb => ⟨rfl, I.turned (t' := s.toks) (fun b o hb e => eb b o hb e) f0 f1 f3 f4 f5⟩
  self := fun _ _ _ _ _ st h => wpAny_pyIter_rangeiter st h
end L2.Internal

namespace L2.Internal
open PySem PySem.Spec PyProof.Rows
section
variable {X : Cx} {tg : Expr}
noncomputable def iList (K : PySem.W.Frag) (tl : TE) : TI := fun σ H R => tl σ H fun x H1 => ∃ a, x = .ref a ∧ (∃ xs, SqL K H1 a xs) ∧ R (Itl K a) H1
noncomputable def iTup (K : PySem.W.Frag) (tl : TE) : TI := fun σ H R => tl σ H fun x H1 => ∃ a, x = .ref a ∧ (∃ xs, SqT K H1 a xs) ∧ R (Itt K a) H1
theorem pi_list {l : Expr} {tl : TE} (hl : PE X l tl) : PI X tg l (iList X.K tl) := by
  intro pins s σ H R I h
  refine thn (hl pins s σ H _ I h) fun v s1 ⟨x, H1, I1, r1, q1⟩ => ?_
  obtain ⟨a, e, ⟨xs, hq⟩, q⟩ := q1
  subst e
  cases r1
  obtain ⟨its, rv, p, hz⟩ := I1.list hq
  refine wpAny_pyIter_list p.isList ?_
  refine ⟨s1.heap.objs.size, [s1.heap.objs.size], _, _, H1, rfl, I1.kept (t' := s1.toks) fun b o e => Heap.get?_push_of_some _ e, turn_list a _, ⟨_, Heap.get?_push_size _ rfl, rfl, rfl⟩, fun b hb => ?_, q⟩
  have e : b = s1.heap.objs.size := by simpa using hb
  subst e
  exact I1.fpOk (Nat.le_refl _) (I1.hok.fresh (Nat.le_refl _))
theorem pi_tup {l : Expr} {tl : TE} (hl : PE X l tl) : PI X tg l (iTup X.K tl) := by
  intro pins s σ H R I h
  refine thn (hl pins s σ H _ I h) fun v s1 ⟨x, H1, I1, r1, q1⟩ => ?_
  obtain ⟨a, e, ⟨xs, hq⟩, q⟩ := q1
  subst e
  cases r1
  obtain ⟨its, rv, p, hz⟩ := I1.tuple hq
  refine wpAny_pyIter_tuple (show s1.heap.IsTuple a its.toArray from p) ?_
  refine ⟨s1.heap.objs.size, [s1.heap.objs.size], _, _, H1, rfl, I1.kept (t' := s1.toks) fun b o e => Heap.get?_push_of_some _ e, turn_tuple a _, ⟨_, Heap.get?_push_size _ rfl, rfl, rfl⟩, fun b hb => ?_, q⟩
  have e : b = s1.heap.objs.size := by simpa using hb
  subst e
  exact I1.fpOk (Nat.le_refl _) (I1.hok.fresh (Nat.le_refl _))
theorem range_it {pins : List (Addr × Obj)} {σ : St} {H : Hp} {s : Shared} {R : It → Hp → Prop} {E : Value → Shared → Prop} {lo hi : Int} {t u v : Tok} {tk : Nat} (I : Inv X pins σ H s) (h1 : -(2 ^ 62) ≤ lo) (h2 : lo < 2 ^ 62) (h3 : -(2 ^ 62) ≤ hi) (h4 : hi < 2 ^ 62)
    (q : R (Itr lo (hi - lo).toNat) H) : wpAny (model X.prog X.w) X.A (pyIter (.ref s.heap.objs.size)) (PIE X pins σ tg R) E { s with heap := s.heap.push { cls := .type "range", data := .fields #[.int lo t, .int hi u, .int 1 v] }, toks := tk } := by
  refine wpAny_pyIter_range (IsRange.new ..) (small_one h1 h2 h3 h4) ?_
  have I1 : Inv X pins σ H { s with heap := s.heap.push { cls := .type "range", data := .fields #[.int lo t, .int hi u, .int 1 v] }, toks := tk } := I.kept fun b o e => Heap.get?_push_of_some _ e
  refine ⟨(s.heap.push { cls := .type "range", data := .fields #[.int lo t, .int hi u, .int 1 v] }).objs.size, [(s.heap.push { cls := .type "range", data := .fields #[.int lo t, .int hi u, .int 1 v] }).objs.size], _, _, H, rfl,
    I1.kept (t' := tk) fun b o e => Heap.get?_push_of_some _ e, turn_range _ lo (hi - lo).toNat, ?_, fun b hb => ?_, q⟩
  · have e1 : lo + ((0 : Nat) : Int) * 1 = lo := by simp
    have e2 : (((hi - lo).toNat : Nat) : Int) - ((0 : Nat) : Int) = Builtin.Range.rangeSize lo hi 1 := by rw [rangeSize_one]; split <;> omega
    show IsRangeIter _ _ (lo + ((0 : Nat) : Int) * 1) ((((hi - lo).toNat : Nat) : Int) - ((0 : Nat) : Int)) 1
    rw [e1, e2]
    exact Heap.get?_push_size _ rfl
  · have e : b = (s.heap.push { cls := .type "range", data := .fields #[.int lo t, .int hi u, .int 1 v] }).objs.size := by simpa using hb
    subst e
    exact I1.fpOk (Nat.le_refl _) (I1.hok.fresh (Nat.le_refl _))
noncomputable def iRng1 (ta : TA) : TI := fun σ H R => ta σ H fun vs H1 => ∃ j : Int, vs = [.int j] ∧ -(2 ^ 62) ≤ j ∧ j < 2 ^ 62 ∧ R (Itr 0 j.toNat) H1
noncomputable def iRng2 (ta : TA) : TI := fun σ H R => ta σ H fun vs H1 => ∃ i j : Int, vs = [.int i, .int j] ∧ (-(2 ^ 62) ≤ i ∧ i < 2 ^ 62 ∧ -(2 ^ 62) ≤ j ∧ j < 2 ^ 62) ∧ R (Itr i (j - i).toNat) H1
theorem pi_range1 {a : Expr} {ta : TA} {p pos : Pos} (hg : Gl X "range") (hm : X.mg "range" = none) (ha : PA X [a] ta) (hs : autoParam (starEach [a] X.env = [(false, eval a X.env)]) L2.Internal.auR._auto_1) : PI X tg (.Call (.Name "range" p) [a] [] pos) (iRng1 ta) := by
  intro pins s σ H R I h
  refine Call_ (ld_blt I hg hm boot_range (PyProof.Rows.callWith_type1 (thn (ha pos pins s σ H _ I h) fun us s1 ⟨vs, H1, I1, r1, q1⟩ => ?_) hs rfl))
  obtain ⟨j, e, q1, q2, q⟩ := q1
  subst e
  cases r1 with
  | cons r rr =>
    cases rr
    obtain ⟨t, rfl⟩ := r
    exact call_range_1 (range_it I1 (by omega) (by omega) q1 q2 (by simpa using q))
theorem pi_range2 {a b : Expr} {ta : TA} {p pos : Pos} (hg : Gl X "range") (hm : X.mg "range" = none) (ha : PA X [a, b] ta) (hs : autoParam (starEach [a, b] X.env = [(false, eval a X.env), (false, eval b X.env)]) L2.Internal.auR._auto_1) (hs2 : autoParam (starEach [b] X.env = [(false, eval b X.env)]) L2.Internal.auR._auto_1) :
    PI X tg (.Call (.Name "range" p) [a, b] [] pos) (iRng2 ta) := by
  intro pins s σ H R I h
  refine Call_ (ld_blt I hg hm boot_range (PyProof.Rows.callWith_type1 (thn (ha pos pins s σ H _ I h) fun us s1 ⟨vs, H1, I1, r1, q1⟩ => ?_) (by rw [hs, hs2]) (by rw [hs2]; rfl)))
  obtain ⟨i, j, e, ⟨q1, q2, q3, q4⟩, q⟩ := q1
  subst e
  cases r1 with
  | cons r rr =>
    cases rr with
    | cons r' rr =>
      cases rr
      obtain ⟨t, rfl⟩ := r
      obtain ⟨t', rfl⟩ := r'
      exact call_range_2 (range_it I1 q1 q2 q3 q4 q)

noncomputable def tFor (wi : TI) (g : TG) (tb : TS) : TS := fun D σ H => wi σ H fun J H1 => ∃ W : Nat → Nat → St → Hp → Prop, (∃ m, W 0 m σ H1) ∧ ∀ i m σ H, W i m σ H →
  (J.stop i H ∧ D.nx σ H) ∨ (J.go i H ∧ ∃ N : St → Hp → Prop, (∀ σ' H', N σ' H' → ∃ m', m' < m ∧ W (i + 1) m' σ' H') ∧ ∀ x H', J.yld i H x H' → g x σ H' fun σ2 H2 => tb { D with nx := N, ct := N, bk := D.nx } σ2 H2)
noncomputable def pinsAt (fp : List Addr) (h : Heap) : List (Addr × Obj) := fp.filterMap fun b => (h.get? b).map fun o => (b, o)
theorem mem_pinsAt {fp : List Addr} {h : Heap} {b : Addr} {o : Obj} (hb : b ∈ fp) (e : h.get? b = some o) : (b, o) ∈ pinsAt fp h := List.mem_filterMap.mpr ⟨b, hb, by rw [e]; rfl⟩
theorem of_pinsAt {fp : List Addr} {h : Heap} {p : Addr × Obj} (hp : p ∈ pinsAt fp h) : p.1 ∈ fp ∧ h.get? p.1 = some p.2 := by
  obtain ⟨b, hb, e⟩ := List.mem_filterMap.mp hp
  cases q : h.get? b with
  | none => rw [q] at e; cases e
  | some o =>
    rw [q] at e
    have e' : (b, o) = p := Option.some.inj e
    subst e'
    exact ⟨hb, q⟩
theorem Inv.pinned {pins : List (Addr × Obj)} {σ : St} {H : Hp} {s : Shared} {fp : List Addr} (I : Inv X pins σ H s) (hf : ∀ b ∈ fp, FpOk X pins H b) (ho : ∀ b ∈ fp, ∃ o, s.heap.get? b = some o ∧ ∀ v, o.data ≠ .cell v) : Inv X (pins ++ pinsAt fp s.heap) σ H s :=
  I.pins_of fun p hp => (List.mem_append.mp hp).elim (fun z => I.pin p (List.mem_append_right _ z)) fun z => by
    obtain ⟨hb, e⟩ := of_pinsAt z
    obtain ⟨f0, f1, f2, _⟩ := hf p.1 hb
    obtain ⟨o, e', d⟩ := ho p.1 hb
    rw [e] at e'; cases e'
    exact ⟨e, f0, f1, f2, d⟩
theorem Inv.unpinned {pins pl : List (Addr × Obj)} {σ : St} {H : Hp} {s : Shared} (I : Inv X (pins ++ pl) σ H s) : Inv X pins σ H s := I.pins_of fun p hp => I.pin p (List.mem_append_right _ (List.mem_append_left _ hp))
theorem ps_for {iter : Expr} {body : List Stmt} {wi : TI} {g : TG} {tb : TS} {pos : Pos} (hp : PassesOwn (model X.prog X.w) X.A X.env X.xe) (hc : X.calm = true) (hi : PI X tg iter wi) (hg : PG X tg g) (hb : PSs X body tb)
    (hs : autoParam (∀ x, foldedSetIterable iter X.env x = pure x) L2.Internal.auI._auto_1) : PS X (.For tg iter body [] pos) (tFor wi g tb) := by
  intro pins s σ H D I h
  refine wpAny_For (thn (hi pins s σ H _ I h) fun v s1 h1 => thn h1 fun itv s2 h2 => ?_) hs
  obtain ⟨it, fp, tn, J, H2, e, I2, T, st2, f2, W, ⟨m0, w0⟩, turn⟩ := h2
  subst e
  -- what stays true of the iterator's objects through the loop
  have stat : ∀ {H' : Hp}, (∀ b ∈ fp, H' b = none) → ∀ b ∈ fp, FpOk X pins H' b := fun hn b hb => ⟨hn b hb, (f2 b hb).2⟩
  refine codeAny_forLoop_any (fun n s' => ∃ i σ' H', Inv X pins σ' H' s' ∧ tn i s'.heap ∧ (∀ b ∈ fp, H' b = none) ∧ W i n σ' H') ?_ m0 ⟨0, σ, H2, I2, st2, fun b hb => (f2 b hb).1, w0⟩
  rintro n s3 ⟨i, σ3, H3, I3, st3, fr3, w3⟩
  rcases turn i n σ3 H3 w3 with ⟨stop, qn⟩ | ⟨go, N, hN, step⟩
  · refine wpAny_passesOwn hp (thn (T.done X rfl rfl rfl hc i pins s3 σ3 H3 X.xe I3 (stat fr3) st3 stop) fun r s4 ⟨hr, I4⟩ => ?_)
    subst hr
    exact wpAny_execs_nil ⟨σ3, H3, I4, qn⟩
  · refine wpAny_passesOwn hp (thn (T.item X rfl rfl rfl hc i pins s3 σ3 H3 X.xe I3 (stat fr3) st3 go) fun r s4 ⟨u, hr, h4⟩ => ?_)
    subst hr
    refine wpAny_passesOwn hp (thn h4 fun _ s5 ⟨x, H5, I5, r5, y5, st5, fr5⟩ => ?_)
    have I5' := I5.pinned (stat fr5) (T.obj _ _ st5)
    refine wpAny_passesOwn hp (thn (hg _ s5 σ3 H5 x u _ I5' r5 (step x H5 y5)) fun _ s6 ⟨σ6, H6, I6, q6⟩ => ?_)
    refine wpAny_passesOwn hp (thn (hb _ s6 σ6 H6 _ I6 q6) fun f s7 q7 => ?_)
    have again : ∀ {σ7 : St} {H7 : Hp}, Inv X (pins ++ pinsAt fp s5.heap) σ7 H7 s7 → N σ7 H7 → ∃ m, m < n ∧ ∃ i σ' H', Inv X pins σ' H' s7 ∧ tn i s7.heap ∧ (∀ b ∈ fp, H' b = none) ∧ W i m σ' H' := fun {σ7 H7} I7 n7 => by
      obtain ⟨m', hm, w7⟩ := hN σ7 H7 n7
      refine ⟨m', hm, i + 1, σ7, H7, I7.unpinned, T.keep _ _ _ st5 fun b hb o e => (I7.pin (b, o) (List.mem_append_right _ (List.mem_append_right _ (mem_pinsAt hb e)))).1, fun b hb => ?_, w7⟩
      obtain ⟨o, e, d⟩ := T.obj _ _ st5 b hb
      exact (I7.pin (b, o) (List.mem_append_right _ (List.mem_append_right _ (mem_pinsAt hb e)))).2.1
    cases f with
    | next => obtain ⟨σ7, H7, I7, n7⟩ := q7; exact again I7 n7
    | cont => obtain ⟨σ7, H7, I7, n7⟩ := q7; exact again I7 n7
    | brk => obtain ⟨σ7, H7, I7, q7⟩ := q7; exact ⟨σ7, H7, I7.unpinned, q7⟩
    | ret v => obtain ⟨x7, σ7, H7, I7, r7, q7⟩ := q7; exact ⟨x7, σ7, H7, I7.unpinned, r7, q7⟩
end

theorem for_list {K : PySem.W.Frag} {a : Addr} {xs : List V} {g : TG} {tb : TS} {D : Ends} {σ : St} {H : Hp} (Pv : Nat → St → Hp → Prop) (h0 : Pv 0 σ H) (hl : ∀ i σ H, i ≤ xs.length → Pv i σ H → SqL K H a xs)
    (hs : ∀ i x σ H, xs[i]? = some x → Pv i σ H → g x σ H fun σ2 H2 => tb { D with nx := Pv (i + 1), ct := Pv (i + 1), bk := D.nx } σ2 H2) (hd : ∀ σ H, Pv xs.length σ H → D.nx σ H) :
    ∃ W : Nat → Nat → St → Hp → Prop, (∃ m, W 0 m σ H) ∧ ∀ i m σ H, W i m σ H →
      ((Itl K a).stop i H ∧ D.nx σ H) ∨ ((Itl K a).go i H ∧ ∃ N : St → Hp → Prop, (∀ σ' H', N σ' H' → ∃ m', m' < m ∧ W (i + 1) m' σ' H') ∧ ∀ x H', (Itl K a).yld i H x H' → g x σ H' fun σ2 H2 => tb { D with nx := N, ct := N, bk := D.nx } σ2 H2) := by
  refine ⟨fun i m σ H => m = xs.length - i ∧ i ≤ xs.length ∧ Pv i σ H, ⟨xs.length, by simp, Nat.zero_le _, h0⟩, ?_⟩
  rintro i m σ H ⟨rfl, hi, p⟩
  have q := hl i σ H hi p
  by_cases hlt : i < xs.length
  · refine .inr ⟨⟨xs, xs[i], q, by simp [hlt]⟩, Pv (i + 1), fun σ' H' p' => ⟨xs.length - (i + 1), by omega, rfl, hlt, p'⟩, fun x H' y => ?_⟩
    obtain ⟨e, y⟩ := y
    subst e
    exact hs i x σ _ (y xs q) p
  · have e : i = xs.length := by omega
    subst e
    exact .inl ⟨⟨xs, q, Nat.le_refl _⟩, hd σ H p⟩
theorem for_tup {K : PySem.W.Frag} {a : Addr} {xs : List V} {g : TG} {tb : TS} {D : Ends} {σ : St} {H : Hp} (Pv : Nat → St → Hp → Prop) (h0 : Pv 0 σ H) (hl : ∀ i σ H, i ≤ xs.length → Pv i σ H → SqT K H a xs)
    (hs : ∀ i x σ H, xs[i]? = some x → Pv i σ H → g x σ H fun σ2 H2 => tb { D with nx := Pv (i + 1), ct := Pv (i + 1), bk := D.nx } σ2 H2) (hd : ∀ σ H, Pv xs.length σ H → D.nx σ H) :
    ∃ W : Nat → Nat → St → Hp → Prop, (∃ m, W 0 m σ H) ∧ ∀ i m σ H, W i m σ H →
      ((Itt K a).stop i H ∧ D.nx σ H) ∨ ((Itt K a).go i H ∧ ∃ N : St → Hp → Prop, (∀ σ' H', N σ' H' → ∃ m', m' < m ∧ W (i + 1) m' σ' H') ∧ ∀ x H', (Itt K a).yld i H x H' → g x σ H' fun σ2 H2 => tb { D with nx := N, ct := N, bk := D.nx } σ2 H2) := by
  refine ⟨fun i m σ H => m = xs.length - i ∧ i ≤ xs.length ∧ Pv i σ H, ⟨xs.length, by simp, Nat.zero_le _, h0⟩, ?_⟩
  rintro i m σ H ⟨rfl, hi, p⟩
  have q := hl i σ H hi p
  by_cases hlt : i < xs.length
  · refine .inr ⟨⟨xs, xs[i], q, by simp [hlt]⟩, Pv (i + 1), fun σ' H' p' => ⟨xs.length - (i + 1), by omega, rfl, hlt, p'⟩, fun x H' y => ?_⟩
    obtain ⟨e, y⟩ := y
    subst e
    exact hs i x σ _ (y xs q) p
  · have e : i = xs.length := by omega
    subst e
    exact .inl ⟨⟨xs, q, Nat.le_refl _⟩, hd σ H p⟩
theorem for_range {lo : Int} {n : Nat} {g : TG} {tb : TS} {D : Ends} {σ : St} {H : Hp} (Pv : Nat → St → Hp → Prop) (h0 : Pv 0 σ H)
    (hs : ∀ i σ H, i < n → Pv i σ H → g (.int (lo + i)) σ H fun σ2 H2 => tb { D with nx := Pv (i + 1), ct := Pv (i + 1), bk := D.nx } σ2 H2) (hd : ∀ σ H, Pv n σ H → D.nx σ H) :
    ∃ W : Nat → Nat → St → Hp → Prop, (∃ m, W 0 m σ H) ∧ ∀ i m σ H, W i m σ H →
      ((Itr lo n).stop i H ∧ D.nx σ H) ∨ ((Itr lo n).go i H ∧ ∃ N : St → Hp → Prop, (∀ σ' H', N σ' H' → ∃ m', m' < m ∧ W (i + 1) m' σ' H') ∧ ∀ x H', (Itr lo n).yld i H x H' → g x σ H' fun σ2 H2 => tb { D with nx := N, ct := N, bk := D.nx } σ2 H2) := by
  refine ⟨fun i m σ H => m = n - i ∧ i ≤ n ∧ Pv i σ H, ⟨n, by simp, Nat.zero_le _, h0⟩, ?_⟩
  rintro i m σ H ⟨rfl, hi, p⟩
  by_cases hlt : i < n
  · refine .inr ⟨hlt, Pv (i + 1), fun σ' H' p' => ⟨n - (i + 1), by omega, rfl, hlt, p'⟩, fun x H' y => ?_⟩
    obtain ⟨e, y⟩ := y
    subst e y
    exact hs i σ _ hlt p
  · have e : i = n := by omega
    subst e
    exact .inl ⟨Nat.le_refl _, hd σ H p⟩
end L2.Internal

namespace L2.Internal
open PySem PySem.Spec PyProof.Rows

noncomputable abbrev R2 := V → V → Hp → VK → Prop
noncomputable def OpR (X : Cx) (f : Value → Value → Sem Value) (r : R2) : Prop :=
  ∀ (pins : List (Addr × Obj)) (s : Shared) (σ : St) (H : Hp) (x y : V) (v u : Value) (Q : VK), Inv X pins σ H s → RelV x v → RelV y u → r x y H Q →
    wpAny (model X.prog X.w) X.A (f v u) (EP X pins σ Q) X.xe s
noncomputable def UnR (X : Cx) (f : Value → Sem Value) (r : V → Hp → VK → Prop) : Prop :=
  ∀ (pins : List (Addr × Obj)) (s : Shared) (σ : St) (H : Hp) (x : V) (v : Value) (Q : VK), Inv X pins σ H s → RelV x v → r x H Q →
    wpAny (model X.prog X.w) X.A (f v) (EP X pins σ Q) X.xe s
noncomputable def CallR (X : Cx) (f : Value) (r : List V → Hp → VK → Prop) : Prop :=
  ∀ (pins : List (Addr × Obj)) (s : Shared) (σ : St) (H : Hp) (xs : List V) (us : List Value) (Q : VK), Inv X pins σ H s → Vals xs us → r xs H Q →
    wpAny (model X.prog X.w) X.A (call f us) (EP X pins σ Q) X.xe s
noncomputable def tOp (r : R2) (ta tb : TE) : TE := fun σ H Q => ta σ H fun x H1 => tb σ H1 fun y H2 => r x y H2 Q
noncomputable def tUn (r : V → Hp → VK → Prop) (ta : TE) : TE := fun σ H Q => ta σ H fun x H1 => r x H1 Q
noncomputable def rI (C : Int → Int → Prop) (g : Int → Int → V) : R2 := fun x y H Q => ∃ i j, x = .int i ∧ y = .int j ∧ C i j ∧ Q (g i j) H
noncomputable def rI0 (g : Int → Int → V) : R2 := fun x y H Q => ∃ i j, x = .int i ∧ y = .int j ∧ Q (g i j) H
noncomputable def rU (g : Int → V) : V → Hp → VK → Prop := fun x H Q => ∃ i, x = .int i ∧ Q (g i) H

section
variable {X : Cx} {a b c : Expr} {ta tb tc : TE} {pos : Pos}

theorem binT (ha : PE X a ta) (hb : PE X b tb) {pins : List (Addr × Obj)} {s : Shared} {σ : St} {H : Hp} {R : V → V → Hp → Prop} (I : Inv X pins σ H s)
    (h : ta σ H fun x H1 => tb σ H1 fun y H2 => R x y H2) {Q : Value → Shared → Prop} {f : Value → Value → Sem Value}
    (hf : ∀ v u s2 x y H2, Inv X pins σ H2 s2 → RelV x v → RelV y u → R x y H2 → wpAny (model X.prog X.w) X.A (f v u) Q X.xe s2) :
    wpAny (model X.prog X.w) X.A (eval a X.env) (fun v s₁ => wpAny (model X.prog X.w) X.A (eval b X.env) (fun u s₂ => wpAny (model X.prog X.w) X.A (f v u) Q X.xe s₂) X.xe s₁) X.xe s := by
  refine thn (ha pins s σ H _ I h) fun v s1 ⟨x, H1, I1, r1, q1⟩ => ?_
  refine thn (hb pins s1 σ H1 _ I1 q1) fun u s2 ⟨y, H2, I2, r2, q2⟩ => ?_
  exact hf v u s2 x y H2 I2 r1 r2 q2

theorem pe_op {op : Operator} {r : R2} (ho : OpR X (binaryOp op) r) (ha : PE X a ta) (hb : PE X b tb) : PE X (.BinOp a op b pos) (tOp r ta tb) := by
  intro pins s σ H Q I h
  exact wpAny_BinOp (binT ha hb I h fun v u s2 x y H2 I2 rx ry q => ho pins s2 σ H2 x y v u Q I2 rx ry q)
theorem pe_un {op : UnaryOp} {r : V → Hp → VK → Prop} (ho : UnR X (unaryOp op) r) (ha : PE X a ta) : PE X (.UnaryOp op a pos) (tUn r ta) := by
  intro pins s σ H Q I h
  exact UnaryOp_ (thn (ha pins s σ H _ I h) fun v s1 ⟨x, H1, I1, r1, q1⟩ => ho pins s1 σ H1 x v Q I1 r1 q1)
theorem opI {f : Value → Value → Sem Value} {C : Int → Int → Prop} {g : Int → Int → Int}
    (rule : ∀ (i j : Int) (t u : Tok) (s : Shared) (Q : Value → Shared → Prop) (E : Value → Shared → Prop), C i j → Q (.int (g i j) s.toks) { s with toks := s.toks + 1 } → wpAny (model X.prog X.w) X.A (f (.int i t) (.int j u)) Q E s) :
    OpR X f (rI C fun i j => .int (g i j)) := by
  intro pins s σ H x y v u Q I rx ry h
  obtain ⟨i, j, rfl, rfl, hc, q⟩ := h
  obtain ⟨t, rfl⟩ := rx
  obtain ⟨t', rfl⟩ := ry
  exact rule i j t t' s _ _ hc ⟨.int (g i j), H, I.tok _, ⟨_, rfl⟩, q⟩
theorem opI0 {f : Value → Value → Sem Value} {g : Int → Int → Int}
    (rule : ∀ (i j : Int) (t u : Tok) (s : Shared) (Q : Value → Shared → Prop) (E : Value → Shared → Prop), Q (.int (g i j) s.toks) { s with toks := s.toks + 1 } → wpAny (model X.prog X.w) X.A (f (.int i t) (.int j u)) Q E s) :
    OpR X f (rI0 fun i j => .int (g i j)) := by
  intro pins s σ H x y v u Q I rx ry h
  obtain ⟨i, j, rfl, rfl, q⟩ := h
  obtain ⟨t, rfl⟩ := rx
  obtain ⟨t', rfl⟩ := ry
  exact rule i j t t' s _ _ ⟨.int (g i j), H, I.tok _, ⟨_, rfl⟩, q⟩
theorem opB0 {f : Value → Value → Sem Value} {g : Int → Int → Bool}
    (rule : ∀ (i j : Int) (t u : Tok) (s : Shared) (Q : Value → Shared → Prop) (E : Value → Shared → Prop), Q (.bool (g i j)) s → wpAny (model X.prog X.w) X.A (f (.int i t) (.int j u)) Q E s) :
    OpR X f (rI0 fun i j => .bl (g i j)) := by
  intro pins s σ H x y v u Q I rx ry h
  obtain ⟨i, j, rfl, rfl, q⟩ := h
  obtain ⟨t, rfl⟩ := rx
  obtain ⟨t', rfl⟩ := ry
  exact rule i j t t' s _ _ ⟨.bl (g i j), H, I, rfl, q⟩

noncomputable def CDiv (i j : Int) : Prop := 0 < j ∧ j < 1073741824
noncomputable def CPow (i j : Int) : Prop := 0 ≤ j ∧ j ≤ 1000000 ∧ i.natAbs < 2 ^ 64
noncomputable def CMul (i j : Int) : Prop := (-(2 ^ 64) < i ∧ i < 2 ^ 64) ∨ (-(2 ^ 64) < j ∧ j < 2 ^ 64)
theorem CMul.ok {i j : Int} (h : CMul i j) : IntMulOk i j := by
  rcases h with ⟨h1, h2⟩ | ⟨h1, h2⟩
  · exact .of_left (intBits_le_64 h1 h2)
  · exact .of_right (intBits_le_64 h1 h2)
theorem op_add : OpR X (binaryOp .Add) (rI0 fun i j => .int (i + j)) := opI0 fun _ _ _ _ _ _ _ q => add_int q
theorem op_sub : OpR X (binaryOp .Sub) (rI0 fun i j => .int (i - j)) := opI0 fun _ _ _ _ _ _ _ q => sub_int q
theorem op_mul : OpR X (binaryOp .Mult) (rI CMul fun i j => .int (i * j)) := opI fun _ _ _ _ _ _ _ hc q => mul_int q hc.ok
theorem op_fdiv : OpR X (binaryOp .FloorDiv) (rI CDiv fun i j => .int (i / j)) := opI fun i j _ _ _ _ _ hc q => by
  have h1 : (0 : Int) < j := hc.1
  have h2 : j < 1073741824 := hc.2
  exact floordiv_int (by omega) (by rw [Int.fdiv_eq_ediv_of_nonneg i (by omega)]; exact q) (.inl (PyProof.noPylong_small (by omega)))
theorem op_mod : OpR X (binaryOp .Mod) (rI (fun _ j => 0 < j) fun i j => .int (i % j)) := opI fun i j _ _ _ _ _ hc q => by
  have h1 : (0 : Int) < j := hc
  exact mod_int' (by omega) (by rw [Int.fmod_eq_emod_of_nonneg i (by omega)]; exact q)
theorem op_pow : OpR X (binaryOp .Pow) (rI CPow fun i j => .int (i ^ j.toNat)) := opI fun _ _ _ _ _ _ _ hc q => pow_int_small hc.1 hc.2.1 hc.2.2 q
theorem unI {f : Value → Sem Value} {g : Int → Int}
    (rule : ∀ (i : Int) (t : Tok) (s : Shared) (Q : Value → Shared → Prop) (E : Value → Shared → Prop), Q (.int (g i) s.toks) { s with toks := s.toks + 1 } → wpAny (model X.prog X.w) X.A (f (.int i t)) Q E s) :
    UnR X f (rU fun i => .int (g i)) := by
  intro pins s σ H x v Q I rx h
  obtain ⟨i, rfl, q⟩ := h
  obtain ⟨t, rfl⟩ := rx
  exact rule i t s _ _ ⟨.int (g i), H, I.tok _, ⟨_, rfl⟩, q⟩
theorem un_neg : UnR X (unaryOp .USub) (rU fun i => .int (-i)) := unI fun _ _ _ _ _ q => neg_int q
end

noncomputable def scal : V → V → Bool
  | .non, .non => true | .non, .int _ => true | .int _, .non => true | .non, .bl _ => true | .bl _, .non => true | .non, .str _ => true | .str _, .non => true
  | .int _, .int _ => true | .bl _, .bl _ => true | .str _, .str _ => true | .byt _, .byt _ => true
  | .int _, .str _ => true | .str _, .int _ => true | .bl _, .str _ => true | .str _, .bl _ => true
  | _, _ => false
noncomputable def rEq : R2 := fun x y H Q => scal x y = true ∧ Q (.bl (decide (x = y))) H
noncomputable def rNe : R2 := fun x y H Q => scal x y = true ∧ Q (.bl (!decide (x = y))) H

theorem dec_int {i j : Int} : decide (V.int i = V.int j) = (i == j) := by
  rw [Bool.eq_iff_iff]
  simp
theorem dec_bl {i j : Bool} : decide (V.bl i = V.bl j) = (i == j) := by
  rw [Bool.eq_iff_iff]
  simp
theorem dec_str {i j : Str} : decide (V.str i = V.str j) = (i == j) := by
  rw [Bool.eq_iff_iff]
  simp
theorem dec_byt {i j : Array UInt8} : decide (V.byt i = V.byt j) = (i.toList == j.toList) := by
  rw [Bool.eq_iff_iff]
  cases i
  cases j
  simp

section
variable {X : Cx} {a b c : Expr} {ta tb tc : TE} {pos : Pos}
theorem fin_bl {pins : List (Addr × Obj)} {σ : St} {H : Hp} {s : Shared} {Q : VK} {k k' : Bool} (I : Inv X pins σ H s) (q : Q (.bl k) H) (e : k = k') : EP X pins σ Q (.bool k') s := by
  subst e
  exact ⟨.bl k, H, I, rfl, q⟩
theorem op_eq : OpR X (compareOp .Eq) rEq := by
  intro pins s σ H x y v u Q I rx ry h
  obtain ⟨hs, q⟩ := h
  cases x with
  | non =>
    cases rx
    cases y with
    | non => cases ry; exact PySem.EqNone.eq_none_none (fin_bl I q (by simp))
    | bl j => cases ry; exact PySem.EqNone.eq_none_bool (fin_bl I q (by simp))
    | int j => obtain ⟨t', rfl⟩ := ry; exact PySem.EqNone.eq_none_int (fin_bl I q (by simp))
    | str j => obtain ⟨t', rfl⟩ := ry; exact PySem.EqNone.eq_none_str (fin_bl I q (by simp))
    | _ => exact absurd (show false = true from hs) Bool.false_ne_true
  | bl i =>
    cases rx
    cases y with
    | non => cases ry; exact PySem.EqNone.eq_bool_none (fin_bl I q (by simp))
    | bl j => cases ry; exact eq_bool (fin_bl I q dec_bl)
    | str j => obtain ⟨t', rfl⟩ := ry; exact PySem.EqMixed.eq_bool_str (fin_bl I q (by simp))
    | _ => exact absurd (show false = true from hs) Bool.false_ne_true
  | int i =>
    obtain ⟨t, rfl⟩ := rx
    cases y with
    | non => cases ry; exact PySem.EqNone.eq_int_none (fin_bl I q (by simp))
    | int j => obtain ⟨t', rfl⟩ := ry; exact eq_int (fin_bl I q dec_int)
    | str j => obtain ⟨t', rfl⟩ := ry; exact PySem.EqMixed.eq_int_str (fin_bl I q (by simp))
    | _ => exact absurd (show false = true from hs) Bool.false_ne_true
  | str i =>
    obtain ⟨t, rfl⟩ := rx
    cases y with
    | non => cases ry; exact PySem.EqNone.eq_str_none (fin_bl I q (by simp))
    | bl j => cases ry; exact PySem.EqMixed.eq_str_bool (fin_bl I q (by simp))
    | int j => obtain ⟨t', rfl⟩ := ry; exact PySem.EqMixed.eq_str_int (fin_bl I q (by simp))
    | str j => obtain ⟨t', rfl⟩ := ry; exact eq_str (fin_bl I q dec_str)
    | _ => exact absurd (show false = true from hs) Bool.false_ne_true
  | byt i =>
    obtain ⟨t, rfl⟩ := rx
    cases y with
    | byt j => obtain ⟨t', rfl⟩ := ry; exact PySem.W.eq_bytes (fin_bl I q dec_byt)
    | _ => exact absurd (show false = true from hs) Bool.false_ne_true
  | _ => cases y <;> exact absurd (show false = true from hs) Bool.false_ne_true
theorem op_ne : OpR X (compareOp .NotEq) rNe := by
  intro pins s σ H x y v u Q I rx ry h
  obtain ⟨hs, q⟩ := h
  cases x with
  | non =>
    cases rx
    cases y with
    | non => cases ry; exact PySem.EqNone.ne_none_none (fin_bl I q (by simp))
    | bl j => cases ry; exact PySem.EqNone.ne_none_bool (fin_bl I q (by simp))
    | int j => obtain ⟨t', rfl⟩ := ry; exact PySem.EqNone.ne_none_int (fin_bl I q (by simp))
    | str j => obtain ⟨t', rfl⟩ := ry; exact PySem.EqNone.ne_none_str (fin_bl I q (by simp))
    | _ => exact absurd (show false = true from hs) Bool.false_ne_true
  | bl i =>
    cases rx
    cases y with
    | non => cases ry; exact PySem.EqNone.ne_bool_none (fin_bl I q (by simp))
    | bl j => cases ry; exact ne_bool (fin_bl I q (congrArg not dec_bl))
    | str j => obtain ⟨t', rfl⟩ := ry; exact PySem.EqMixed.ne_bool_str (fin_bl I q (by simp))
    | _ => exact absurd (show false = true from hs) Bool.false_ne_true
  | int i =>
    obtain ⟨t, rfl⟩ := rx
    cases y with
    | non => cases ry; exact PySem.EqNone.ne_int_none (fin_bl I q (by simp))
    | int j => obtain ⟨t', rfl⟩ := ry; exact ne_int (fin_bl I q (congrArg not dec_int))
    | str j => obtain ⟨t', rfl⟩ := ry; exact PySem.EqMixed.ne_int_str (fin_bl I q (by simp))
    | _ => exact absurd (show false = true from hs) Bool.false_ne_true
  | str i =>
    obtain ⟨t, rfl⟩ := rx
    cases y with
    | non => cases ry; exact PySem.EqNone.ne_str_none (fin_bl I q (by simp))
    | bl j => cases ry; exact PySem.EqMixed.ne_str_bool (fin_bl I q (by simp))
    | int j => obtain ⟨t', rfl⟩ := ry; exact PySem.EqMixed.ne_str_int (fin_bl I q (by simp))
    | str j => obtain ⟨t', rfl⟩ := ry; exact ne_str (fin_bl I q (congrArg not dec_str))
    | _ => exact absurd (show false = true from hs) Bool.false_ne_true
  | byt i =>
    obtain ⟨t, rfl⟩ := rx
    cases y with
    | byt j => obtain ⟨t', rfl⟩ := ry; exact PySem.W.ne_bytes (fin_bl I q (congrArg not dec_byt))
    | _ => exact absurd (show false = true from hs) Bool.false_ne_true
  | _ => cases y <;> exact absurd (show false = true from hs) Bool.false_ne_true

theorem op_lt : OpR X (compareOp .Lt) (rI0 fun i j => .bl (decide (i < j))) := opB0 fun _ _ _ _ _ _ _ q => lt_int q
theorem op_le : OpR X (compareOp .LtE) (rI0 fun i j => .bl (decide (i ≤ j))) := opB0 fun _ _ _ _ _ _ _ q => le_int q
theorem op_gt : OpR X (compareOp .Gt) (rI0 fun i j => .bl (decide (j < i))) := opB0 fun _ _ _ _ _ _ _ q => gt_int q
theorem op_in_str : OpR X (compareOp .In) (fun x y H Q => ∃ i j, x = .str i ∧ y = .str j ∧ Q (.bl (!(Builtin.Str.occurrences j i 0 j.length 1).isEmpty)) H) := by
  intro pins s σ H x y v u Q I rx ry h
  obtain ⟨i, j, rfl, rfl, q⟩ := h
  obtain ⟨t, rfl⟩ := rx
  obtain ⟨t', rfl⟩ := ry
  exact in_str (fin_bl I q rfl)

theorem op_notin_str : OpR X (compareOp .NotIn) (fun x y H Q => ∃ i j, x = .str i ∧ y = .str j ∧ Q (.bl (!(!(Builtin.Str.occurrences j i 0 j.length 1).isEmpty))) H) := by
  intro pins s σ H x y v u Q I rx ry h
  obtain ⟨i, j, rfl, rfl, q⟩ := h
  obtain ⟨t, rfl⟩ := rx
  obtain ⟨t', rfl⟩ := ry
  exact notIn_str (fin_bl I q rfl)
theorem nomark (b : Expr) {op : CmpOp} (h : autoParam (op ≠ .In) L2.Internal.auD._auto_1) (h2 : autoParam (op ≠ .NotIn) L2.Internal.auD._auto_1) : behindInMarks op b = false := by
  have e1 : (op == CmpOp.In) = false := by cases op <;> first | rfl | exact absurd rfl h
  have e2 : (op == CmpOp.NotIn) = false := by cases op <;> first | rfl | exact absurd rfl h2
  cases b <;> simp [behindInMarks, e1, e2]
theorem pe_cmpR {op : CmpOp} {r : R2} (ho : OpR X (compareOp op) r) (ha : PE X a ta) (hb : PE X b tb) (hm : behindInMarks op b = false) : PE X (.Compare a [op] [b] pos) (tOp r ta tb) := by
  intro pins s σ H Q I h
  exact wpAny_Compare1 (binT ha hb I h fun v u s2 x y H2 I2 rx ry q => ho pins s2 σ H2 x y v u Q I2 rx ry q) hm
noncomputable def tTest (t : TE) : TT := fun σ H Q => t σ H fun x H' => ∃ k, x = .bl k ∧ Q k H'
theorem pt_cmpR {op : CmpOp} {r : R2} (ho : OpR X (compareOp op) r) (ha : PE X a ta) (hb : PE X b tb) (hm : behindInMarks op b = false) : PT X (.Compare a [op] [b] pos) (tTest (tOp r ta tb)) := by
  intro pins s σ H Q I h
  refine wpAny_isTrue_Compare1 (thn (ha pins s σ H _ I h) fun v s1 ⟨x, H1, I1, r1, q1⟩ => thn (hb pins s1 σ H1 _ I1 q1) fun u s2 ⟨y, H2, I2, r2, q2⟩ =>
    thn (ho pins s2 σ H2 x y v u _ I2 r1 r2 q2) fun c s3 ⟨z, H3, I3, r3, k, e, q3⟩ => ?_) hm
  subst e
  cases r3
  exact wpAny_truthy_bool ⟨H3, I3, q3⟩
noncomputable def tChain (r r' : R2) (ta tb tc : TE) : TE := fun σ H Q => ta σ H fun x H1 => tb σ H1 fun y H2 => r x y H2 fun z H3 => ∃ k, z = .bl k ∧
  (if k = true then tc σ H3 fun w' H4 => r' y w' H4 Q else Q (.bl false) H3)
theorem pt_chain {op op' : CmpOp} {r r' : R2} (ho : OpR X (compareOp op) r) (ho' : OpR X (compareOp op') r') (ha : PE X a ta) (hb : PE X b tb) (hc : PE X c tc)
    (hm : lastMarks [op, op'] [b, c] = false := by with_unfolding_all rfl) : PT X (.Compare a [op, op'] [b, c] pos) (tTest (tChain r r' ta tb tc)) := by
  intro pins s σ H Q I h
  refine isTrue_chain (thn (ha pins s σ H _ I h) fun v s1 ⟨x, H1, I1, r1, q1⟩ => test_link (thn (hb pins s1 σ H1 _ I1 q1) fun u s2 ⟨y, H2, I2, r2, q2⟩ =>
    thn (ho pins s2 σ H2 x y v u _ I2 r1 r2 q2) fun d s3 ⟨z, H3, I3, r3, k, e, q3⟩ => ?_)) hm
  subst e
  cases r3
  refine wpAny_truthy_bool ?_
  cases k with
  | false =>
    obtain ⟨k', e', q'⟩ := q3
    cases e'
    exact ite_ff ⟨H3, I3, q'⟩
  | true =>
    refine ite_tt (test_last (thn (hc pins s3 σ H3 _ I3 q3) fun w' s4 ⟨z', H4, I4, r4, q4⟩ => thn (ho' pins s4 σ H4 y z' u w' _ I4 r2 r4 q4) fun d' s5 ⟨z2, H5, I5, r5, k2, e2, q5⟩ => ?_))
    subst e2
    cases r5
    exact wpAny_truthy_bool ⟨H5, I5, q5⟩

theorem line63 : (sizeLine : Nat) < 2 ^ 63 := by rw [sizeLine_eq]; decide
theorem op_add_str : OpR X (binaryOp .Add) (fun x y H Q => ∃ i j, x = .str i ∧ y = .str j ∧ i.length + j.length ≤ sizeLine ∧ Q (.str (i ++ j)) H) := by
  intro pins s σ H x y v u Q I rx ry h
  obtain ⟨i, j, rfl, rfl, hz, q⟩ := h
  obtain ⟨t, rfl⟩ := rx
  obtain ⟨t', rfl⟩ := ry
  exact add_str (fun t' tk => ⟨.str (i ++ j), H, I.tok _, ⟨_, rfl⟩, q⟩) hz
theorem vals1 {x : V} {us : List Value} (r : Vals [x] us) : ∃ u, us = [u] ∧ RelV x u := by
  cases r with
  | cons r1 r2 => cases r2; exact ⟨_, rfl, r1⟩
theorem vals2 {x y : V} {us : List Value} (r : Vals [x, y] us) : ∃ u w', us = [u, w'] ∧ RelV x u ∧ RelV y w' := by
  cases r with
  | cons r1 r2 =>
    cases r2 with
    | cons r3 r4 => cases r4; exact ⟨_, _, rfl, r1, r3⟩
end
end L2.Internal

namespace L2.Internal
open PySem PySem.Spec PyProof.Rows

structure ObjM (h : Heap) (x dx C : Addr) (mA : Str → Option Value) : Prop where
  obj : h.get? x = some (PySem.W.instObj C dx)
  ns : h.Ns1 dx mA
  ne : dx ≠ x

theorem lookIn_ns {h : Heap} {dx : Addr} {mA : Str → Option Value} (n : h.Ns1 dx mA) : ∃ od, h.get? dx = some od ∧ ∀ name, PySem.W.lookIn name od = some (mA name) := by
  obtain ⟨o, es, ep, ho, hd, hk, _, hm⟩ := n
  refine ⟨o, ho, fun name => ?_⟩
  have e := hm name
  unfold nsFind findBy at e
  rw [← Array.find?_toList] at e
  unfold PySem.W.lookIn
  rw [hd]
  dsimp only
  split
  · rename_i y q
    rw [q] at e
    exact congrArg some e
  · rename_i q
    rw [q] at e
    have a : es.toList.any (·.refKey) = false := by
      rw [List.any_eq_false]
      intro y hy
      obtain ⟨z, t, hkey⟩ := hk y (Array.mem_toList_iff.mp hy)
      simp [DictEntry.refKey, hkey]
    have a' : ¬ es.toList.any (·.refKey) = true := by rw [a]; exact Bool.false_ne_true
    rw [if_neg a']
    exact congrArg some e

theorem ObjM.look {h : Heap} {x dx C : Addr} {mA : Str → Option Value} (I : ObjM h x dx C mA) : ∃ od, PySem.W.InstAt h x (PySem.W.instObj C dx) C (some od) ∧ ∀ name, PySem.W.lookIn name od = some (mA name) :=
  let ⟨od, ho, hl⟩ := lookIn_ns I.ns
  ⟨od, ⟨I.obj, rfl, rfl, ho⟩, hl⟩

section
variable {prog : Program} {w : World} {A : Around} {E : Value → Shared → Prop} {s : Shared} {K : PySem.W.Frag} {x dx C f : Addr} {mA : Str → Option Value} {name : Str} {v : Value}

theorem get_map {expr : Bool} {Q : Value → Shared → Prop} (X : K.In s.heap) (I : ObjM s.heap x dx C mA) (hg : PySem.W.plainGet K C name = true) (hh : PySem.W.hasDictIn K C = true)
    (ha : PySem.W.findIn K (.ref C) name = some none) (hv : mA name = some v) (hv' : PySem.W.handedIn v = true) (h : Q v { s with toks := s.toks + 1 }) :
    wpAny (model prog w) A (getAttr (.ref x) name expr) Q E s := by
  obtain ⟨od, J, hl⟩ := I.look
  exact PySem.W.get_value X J (PySem.W.plainGet_of hg).1 (PySem.W.findObj_own hh ha rfl (by rw [hl, hv])) hv' h

theorem get_meth {pl : Sem Bool} {Q : Value × List Value → Shared → Prop} (X : K.In s.heap) (I : ObjM s.heap x dx C mA) (hg : PySem.W.plainGet K C name = true)
    (hf : PySem.W.findIn K (.ref C) name = some (some (.ref f))) (ht : PySem.W.isFn K (.ref f) = true) (hv : mA name = none) (h : Q (.ref f, [.ref x]) s) :
    wpAny (model prog w) A (getMethod (.ref x) name pl) Q E s := by
  obtain ⟨od, J, hl⟩ := I.look
  exact PySem.W.method_fn X J (PySem.W.plainGet_of hg).1 (PySem.W.plainGet_of hg).2 hf (beq_iff_eq.mp ht) (by show (PySem.W.lookIn name od).map (·.isSome) = some false; rw [hl, hv]; rfl) h

theorem set_map {ns : List Str} {Q : Unit → Shared → Prop} (X : K.In s.heap) (I : ObjM s.heap x dx C mA)
    (hs : PySem.W.findIn K (.ref C) "__setattr__" = some (some (.builtin "object.__setattr__"))) (hp : PySem.W.plainOver K C = true) (ht : PySem.W.takerIn K C name = some none) (hh : PySem.W.hasDictIn K C = true)
    (hw : PySem.Within mA ns) (hsz : ns.length ≤ sizeLine)
    (h : ∀ h', ObjM h' x dx C (fun y => if y = name then some v else mA y) → Heap.SameBut dx s.heap h' → Q () { s with heap := h', toks := s.toks + 2 }) :
    wpAny (model prog w) A (setAttr (.ref x) name v) Q E s := by
  obtain ⟨od, J, hl⟩ := I.look
  refine PySem.W.set_plain X J hs (PySem.W.osa_open (s := { s with toks := s.toks + 1 }) (r := none) X J hp ht fun b => ?_)
  obtain ⟨cd, hc, hd'⟩ := PySem.W.any_some hh
  have hx : s.heap.get? x = some ⟨.ref C, some dx, .plain, #[]⟩ := I.obj
  refine wpAny_bind (wpAny_pure (wpAny_bind (wpAny_bind (wpAny_loadPart hx (wpAny_bind (PySem.W.Looks.here (s := { s with toks := s.toks + 1 }) (PySem.W.looks_clsIn X hc) ?_))))))
  rw [hd']
  refine wpAny_pure (a := some dx) (wpAny_bind (wpAny_pure (wpAny_bind ?_)))
  refine wpAny_nsSet1 (s := { s with toks := s.toks + 1 }) I.ns fun h' hn2 hs2 => ?_
  obtain ⟨oD, esD, epD, hoD, hdD, hcD⟩ := hn2.count (PySem.Within.cons name v hw)
  refine wpAny_bind (wpAny_lookBehind hoD (by rw [hdD]; exact pastItsLine_dict (Nat.le_trans hcD (by rw [List.length_cons]; omega))) ?_)
  exact wpAny_pure (h _ ⟨(hs2.2 _ (Ne.symm I.ne)).trans I.obj, hn2, I.ne⟩ hs2)

theorem make_map {R : Result → Shared → Prop} {vs : List Value} {kw : List (Str × Value)} (X : K.In s.heap) (hm : PySem.W.makesIn K C = true)
    (hi : PySem.W.findIn K (.ref C) "__init__" = some (some (.ref f))) (hf : PySem.W.typeIn K (.ref f) = some (.type "function"))
    (h : codeAny (model prog w) (A.under (.builtin "type.__call__" ⟨.ref C :: vs, kw⟩)) (.call (.ref f) ⟨.ref (s.heap.objs.size + 1) :: vs, kw⟩) (PySem.W.InitBack (s.heap.objs.size + 1) R)
      { s with heap := (s.heap.push PySem.W.emptyDict).push (PySem.W.instObj C s.heap.objs.size) }) :
    codeAny (model prog w) A (.call (.ref C) ⟨vs, kw⟩) R s := by
  obtain ⟨hh, g, d, t, os⟩ := s
  exact PySem.W.make_core (PySem.W.makes_of X hm) (PySem.W.looks_findIn X hi) (fun self => PySem.W.bind_fn X self hf) (.inl rfl) h
end

noncomputable def putF (f : Str) (v : V) : List (Str × V) → List (Str × V)
  | [] => [(f, v)]
  | (g, x) :: r => if g = f then (g, v) :: r else (g, x) :: putF f v r
theorem lookup_putF (f g : Str) (v : V) : ∀ fs : List (Str × V), (putF f v fs).lookup g = if g = f then some v else fs.lookup g
  | [] => by
    show List.lookup g [(f, v)] = _
    by_cases h : g = f
    · have hb : (g == f) = true := beq_iff_eq.mpr h
      simp only [List.lookup, hb, if_pos h]
    · have hb : (g == f) = false := beq_eq_false_iff_ne.mpr h
      simp only [List.lookup, hb, if_neg h]
  | (k, x) :: r => by
    have ih := lookup_putF f g v r
    rw [show putF f v ((k, x) :: r) = (if k = f then (k, v) :: r else (k, x) :: putF f v r) from rfl]
    by_cases hk : k = f
    · rw [if_pos hk]
      by_cases h : g = k
      · have hb : (g == k) = true := beq_iff_eq.mpr h
        simp only [List.lookup, hb, if_pos (h.trans hk)]
      · have hb : (g == k) = false := beq_eq_false_iff_ne.mpr h
        simp only [List.lookup, hb, if_neg (fun e : g = f => h (e.trans hk.symm))]
    · rw [if_neg hk]
      by_cases h : g = k
      · have hb : (g == k) = true := beq_iff_eq.mpr h
        simp only [List.lookup, hb, if_neg (fun e : g = f => hk (h.symm.trans e))]
      · have hb : (g == k) = false := beq_eq_false_iff_ne.mpr h
        simp only [List.lookup, hb]
        exact ih
theorem keys_putF (f : Str) (v : V) : ∀ fs : List (Str × V), f ∈ (putF f v fs).map (·.1) ∧ ∀ g, g ∈ fs.map (·.1) → g ∈ (putF f v fs).map (·.1)
  | [] => ⟨by simp [putF], fun g h => by simp at h⟩
  | (k, x) :: r => by
    obtain ⟨i1, i2⟩ := keys_putF f v r
    rw [show putF f v ((k, x) :: r) = (if k = f then (k, v) :: r else (k, x) :: putF f v r) from rfl]
    by_cases hk : k = f
    · rw [if_pos hk]
      subst hk
      exact ⟨by simp, fun g h => by simpa using h⟩
    · rw [if_neg hk]
      refine ⟨?_, fun g h => ?_⟩
      · rw [List.map_cons]
        exact List.mem_cons_of_mem _ i1
      · rw [List.map_cons] at h ⊢
        rcases List.mem_cons.mp h with e | e
        · exact List.mem_cons.mpr (.inl e)
        · exact List.mem_cons_of_mem _ (i2 g e)
theorem length_putF (f : Str) (v : V) : ∀ fs : List (Str × V), (putF f v fs).length ≤ fs.length + 1
  | [] => by simp [putF]
  | (k, x) :: r => by
    have ih := length_putF f v r
    rw [show putF f v ((k, x) :: r) = (if k = f then (k, v) :: r else (k, x) :: putF f v r) from rfl]
    by_cases hk : k = f
    · rw [if_pos hk, List.length_cons, List.length_cons]; omega
    · rw [if_neg hk, List.length_cons, List.length_cons]; omega

theorem RelO.some_of {v : V} {o : Option Value} (r : RelO (some v) o) : ∃ u, o = some u ∧ RelV v u := by
  cases o with
  | none => exact (show False from r).elim
  | some u => exact ⟨u, rfl, r⟩
theorem RelO.none_of {o : Option Value} (r : RelO none o) : o = none := by
  cases o with
  | none => rfl
  | some u => exact (show False from r).elim
theorem handed_of {v : V} {u : Value} (r : RelV v u) : PySem.W.handedIn u = true := by
  cases v with
  | non => cases (show u = Value.none from r); rfl
  | bl b => cases (show u = Value.bool b from r); rfl
  | int i => obtain ⟨t, e⟩ := (show ∃ t, u = Value.int i t from r); cases e; rfl
  | str x => obtain ⟨t, e⟩ := (show ∃ t, u = Value.str x t from r); cases e; rfl
  | byt b => obtain ⟨t, e⟩ := (show ∃ t, u = Value.bytes b t from r); cases e; rfl
  | flt b => obtain ⟨t, e⟩ := (show ∃ t, u = Value.float b t from r); cases e; rfl
  | ref a => cases (show u = Value.ref a from r); rfl
  | ty n => cases (show u = Value.type n from r); rfl

section
variable {P : Program} {w : World} {H H' : Hp} {h h' : Heap} {a C dx : Addr} {fs fs' : List (Str × V)}
theorem ins_get (hok : HOk P w H h) (e : H a = some (.ins C dx fs)) : ∃ mA, ObjM h a dx C mA ∧ (∀ f, RelO (fs.lookup f) (mA f)) ∧ PySem.Within mA (fs.map (·.1)) ∧ fs.length ≤ 1000 ∧ H dx = some (.own a) := by
  obtain ⟨d, z, ne, ob, mA, n, r, q⟩ := (show ObjOk P w H h a (.ins C dx fs) from hok a _ e)
  exact ⟨mA, ⟨ob, n, ne⟩, r, q, z, d⟩
end

structure Cls (K : PySem.W.Frag) (C : Addr) : Prop where
  pg : PySem.W.plainGet K C Str.empty = true
  hd : PySem.W.hasDictIn K C = true
  po : PySem.W.plainOver K C = true
  sa : PySem.W.findIn K (.ref C) "__setattr__" = some (some (.builtin "object.__setattr__"))
theorem Cls.get {K : PySem.W.Frag} {C : Addr} (c : Cls K C) (f : Str) : PySem.W.plainGet K C f = true := c.pg
noncomputable def NoAttr (K : PySem.W.Frag) (C : Addr) (f : Str) : Prop := PySem.W.findIn K (.ref C) f = some none
theorem NoAttr.taker {K : PySem.W.Frag} {C : Addr} {f : Str} (n : NoAttr K C f) : PySem.W.takerIn K C f = some none := by
  unfold PySem.W.takerIn
  rw [show PySem.W.findIn K (.ref C) f = some none from n]
  rfl
structure Con (K : PySem.W.Frag) (C : Addr) (f : Str) (v : V) (u : Value) : Prop where
  at_ : PySem.W.findIn K (.ref C) f = some (some u)
  rel : RelV v u
  get : PySem.W.specialIn K u "__get__" = some none
  cp : PySem.W.copiedNames.contains f = false
structure Meth (K : PySem.W.Frag) (C : Addr) (m : Str) (f : Addr) : Prop where
  at_ : PySem.W.findIn K (.ref C) m = some (some (.ref f))
  fn : PySem.W.isFn K (.ref f) = true
  kp : PySem.W.keepIn K (.ref f) = true

section
variable {X : Cx} {pins : List (Addr × Obj)} {σ : St} {H : Hp} {s : Shared} {a C dx : Addr} {fs : List (Str × V)} {f : Str} {v : V} {A : Around} {E : Value → Shared → Prop}

theorem getattr_ok {b : Bool} {Q : Value → Shared → Prop} (I : Inv X pins σ H s) (e : H a = some (.ins C dx fs)) (c : Cls X.K C) (n : NoAttr X.K C f) (l : fs.lookup f = some v)
    (h : ∀ u s', Inv X pins σ H s' → RelV v u → Q u s') : wpAny (model X.prog X.w) A (getAttr (.ref a) f b) Q E s := by
  obtain ⟨mA, O, r, _, _, _⟩ := ins_get I.hok e
  obtain ⟨u, hu, ru⟩ := RelO.some_of (v := v) (o := mA f) (by rw [← l]; exact r f)
  exact get_map I.kIn O (c.get f) c.hd n hu (handed_of ru) (h u _ (I.tok _) ru)

theorem getmeth_ok {m : Str} {g : Addr} {pl : Sem Bool} {Q : Value × List Value → Shared → Prop} (I : Inv X pins σ H s) (e : H a = some (.ins C dx fs)) (c : Cls X.K C) (k : Meth X.K C m g) (l : fs.lookup m = none)
    (h : Q (.ref g, [.ref a]) s) : wpAny (model X.prog X.w) A (getMethod (.ref a) m pl) Q E s := by
  obtain ⟨mA, O, r, _, _, _⟩ := ins_get I.hok e
  have hn : mA m = none := RelO.none_of (by rw [← l]; exact r m)
  exact get_meth I.kIn O (c.get m) k.at_ k.fn hn h

theorem setattr_ok {y : V} {u : Value} {Q : Unit → Shared → Prop} (I : Inv X pins σ H s) (e : H a = some (.ins C dx fs)) (c : Cls X.K C) (n : NoAttr X.K C f) (hl : fs.length < 1000) (ry : RelV y u)
    (h : ∀ s', Inv X pins σ (upd H a (.ins C dx (putF f y fs))) s' → Q () s') : wpAny (model X.prog X.w) A (setAttr (.ref a) f u) Q E s := by
  obtain ⟨mA, O, r, wi, _, ho⟩ := ins_get I.hok e
  have hz : (fs.map (·.1)).length ≤ sizeLine := by rw [List.length_map, sizeLine_eq]; omega
  refine set_map I.kIn O c.sa c.po n.taker c.hd wi hz fun h' O' sb => h _ ?_
  have hd : ∃ o, h'.get? dx = some o := let ⟨o, _, _, e', _⟩ := O'.ns; ⟨o, e'⟩
  refine I.write (x := a) (e := dx) (by rw [e]; exact True.intro) (.inr ho) (fun b q hb z => (sb.2 b hb).trans z) hd ?_
  refine ⟨by rw [upd_ne O.ne]; exact ho, ?_, O.ne, O'.obj, _, O'.ns, fun g => ?_, fun g hg => ?_⟩
  · have := length_putF f y fs; omega
  · show RelO ((putF f y fs).lookup g) (if g = f then some u else mA g)
    rw [lookup_putF]
    by_cases q : g = f
    · rw [if_pos q, if_pos q]; exact ry
    · rw [if_neg q, if_neg q]; exact r g
  · by_cases q : g = f
    · rw [q]; exact (keys_putF f y fs).1
    · refine (keys_putF f y fs).2 g (wi g fun z => hg ?_)
      show (if g = f then some u else mA g) = none
      rw [if_neg q]; exact z

theorem Inv.made (I : Inv X pins σ H s) : Inv X pins σ (upd (upd H s.heap.objs.size (.own (s.heap.objs.size + 1))) (s.heap.objs.size + 1) (.ins C s.heap.objs.size []))
    { s with heap := (s.heap.push PySem.W.emptyDict).push (PySem.W.instObj C s.heap.objs.size) } := by
  have e1 : (s.heap.push PySem.W.emptyDict).get? s.heap.objs.size = some PySem.W.emptyDict := Heap.get?_push_size s.heap rfl
  have e2 : ((s.heap.push PySem.W.emptyDict).push (PySem.W.instObj C s.heap.objs.size)).get? (s.heap.objs.size + 1) = some (PySem.W.instObj C s.heap.objs.size) := by
    have := Heap.get?_push_size (s.heap.push PySem.W.emptyDict) (o := PySem.W.instObj C s.heap.objs.size) rfl
    rwa [Heap.size_push] at this
  have e3 : (s.heap.push PySem.W.emptyDict).Ns s.heap.objs.size (fun _ => none) := ⟨PySem.W.emptyDict, #[], _, e1, rfl, (fun e he => absurd he (by simp)), fun _ => rfl⟩
  have I1 := I.laid (a := s.heap.objs.size) (o := .own (s.heap.objs.size + 1)) (h' := s.heap.push PySem.W.emptyDict) (t' := s.toks) (fun b u q => Heap.get?_push_of_some _ q) (Nat.le_refl _) ⟨_, e1⟩
  refine I1.laid (a := s.heap.objs.size + 1) (o := .ins C s.heap.objs.size []) (t' := s.toks) (fun b u q => Heap.get?_push_of_some _ q) (Nat.le_of_eq (Heap.size_push _ _)) ?_
  have ne : s.heap.objs.size ≠ s.heap.objs.size + 1 := Nat.ne_of_lt (Nat.lt_succ_self _)
  refine ⟨by rw [upd_ne ne, upd_same], Nat.zero_le _, ne, e2, fun _ => none, (Heap.Ns1.of_empty e3).at fun o q => Heap.get?_push_of_some _ q, fun _ => True.intro, fun y hy => absurd rfl hy⟩

theorem attr_of {prog : Program} {w : World} {env : Env} {e : Expr} {f : Str} {pos : Pos} {s : Shared} {Q : Value → Shared → Prop} (hb : attributeBase e f env (eval e env) = eval e env)
    (h : wpAny (model prog w) A (eval e env) (fun o s₁ => wpAny (model prog w) A (getAttr o f true) Q E s₁) E s) : wpAny (model prog w) A (eval (.Attribute e f pos) env) Q E s :=
  Attribute_any_ h (by rw [arm_eval_Attribute, hb])
end

noncomputable def tFld (K : PySem.W.Frag) (ta : TE) (f : Str) : TE := fun σ H Q => ta σ H fun x H1 => ∃ a C dx fs v, x = .ref a ∧ H1 a = some (.ins C dx fs) ∧ Cls K C ∧ NoAttr K C f ∧ fs.lookup f = some v ∧ Q v H1
noncomputable def sFld (K : PySem.W.Frag) (ta tv : TE) (f : Str) : TS := fun D σ H => tv σ H fun y H1 => ta σ H1 fun x H2 => ∃ a C dx fs, x = .ref a ∧ H2 a = some (.ins C dx fs) ∧ Cls K C ∧ NoAttr K C f ∧ fs.length < 1000 ∧
  D.nx σ (upd H2 a (.ins C dx (putF f y fs)))
noncomputable def InOp (X : Cx) (op : Operator) (rd : V → V → Hp → VK → Prop) : Prop :=
  ∀ (pins : List (Addr × Obj)) (s : Shared) (σ : St) (H : Hp) (x y : V) (u v : Value) (Q : VK), Inv X pins σ H s → RelV x u → RelV y v → rd x y H Q → wpAny (model X.prog X.w) X.A (inplaceOp op u v) (EP X pins σ Q) X.xe s
noncomputable def sFldAug (K : PySem.W.Frag) (ta tv : TE) (rd : V → V → Hp → VK → Prop) (f : Str) : TS := fun D σ H => ta σ H fun x H1 => ∃ a C dx fs v, x = .ref a ∧ H1 a = some (.ins C dx fs) ∧ Cls K C ∧ NoAttr K C f ∧ fs.lookup f = some v ∧
  tv σ H1 fun y H2 => rd v y H2 fun z H3 => ∃ dx' fs', H3 a = some (.ins C dx' fs') ∧ fs'.length < 1000 ∧ D.nx σ (upd H3 a (.ins C dx' (putF f z fs')))

section
variable {X : Cx} {o e value : Expr} {f : Str} {pos pos' tpos : Pos} {ta tv : TE}
theorem pe_fld (he : PE X e ta) (hb : attributeBase e f X.env (eval e X.env) = eval e X.env) : PE X (.Attribute e f pos) (tFld X.K ta f) := by
  intro pins s σ H Q I h
  refine attr_of hb (thn (he pins s σ H _ I h) fun u s1 ⟨x, H1, I1, rx, a, C, dx, fs, v, ex, ea, c, n, l, q⟩ => ?_)
  subst ex
  obtain rfl : u = Value.ref a := rx
  exact getattr_ok I1 ea c n l fun u' s2 I2 ru => ⟨v, H1, I2, ru, q⟩
theorem ps_fld (ha : PE X o ta) (hv : PE X value tv) (hs : swapsWith value (some (.Attribute o f pos')) pos.line X.env = pure false) : PS X (.Assign [.Attribute o f pos'] value pos) (sFld X.K ta tv f) := by
  intro pins s σ H D I h
  refine plainObj_wpAny_Assign_Attribute (thn (hv pins s σ H _ I h) fun u s1 ⟨y, H1, I1, ry, q⟩ => thn (ha pins s1 σ H1 _ I1 q) fun ov s2 ⟨x, H2, I2, rx, a, C, dx, fs, ex, ea, c, n, l, q2⟩ => ?_) hs
  subst ex
  obtain rfl : ov = Value.ref a := rx
  exact setattr_ok I2 ea c n l ry fun s3 I3 => ⟨σ, _, I3, q2⟩
theorem ps_fldaug {op : Operator} {rd : V → V → Hp → VK → Prop} (ha : PE X o ta) (hv : PE X value tv) (hop : InOp X op rd) : PS X (.AugAssign (.Attribute o f tpos) op value pos) (sFldAug X.K ta tv rd f) := by
  intro pins s σ H D I h
  refine wpAny_AugAssign_AttributeAny (thn (ha pins s σ H _ I h) fun ov s1 ⟨x, H1, I1, rx, a, C, dx, fs, v, ex, ea, c, n, l, q⟩ => ?_)
  subst ex
  obtain rfl : ov = Value.ref a := rx
  refine getattr_ok I1 ea c n l fun u s2 I2 ru => thn (hv pins s2 σ H1 _ I2 q) fun w3 s3 ⟨y, H2, I3, ry, q3⟩ => thn (hop pins s3 σ H2 v y u w3 _ I3 ru ry q3) fun w4 s4 ⟨z, H3, I4, rz, dx', fs', ea', l', q4⟩ => ?_
  exact setattr_ok I4 ea' c n l' rz fun s5 I5 => ⟨σ, _, I5, q4⟩
noncomputable def rAdd : V → V → Hp → VK → Prop := fun x y H Q => ∃ i j, x = .int i ∧ y = .int j ∧ Q (.int (i + j)) H
theorem in_add : InOp X .Add rAdd := by
  rintro pins s σ H x y u v Q I rx ry ⟨i, j, rfl, rfl, q⟩
  obtain ⟨t, rfl⟩ := (show ∃ t, u = Value.int i t from rx)
  obtain ⟨t', rfl⟩ := (show ∃ t', v = Value.int j t' from ry)
  exact PyProof.Rows.iadd_int ⟨.int (i + j), H, I.tok _, ⟨_, rfl⟩, q⟩
end

section
variable {X : Cx} {pins : List (Addr × Obj)} {σ : St} {H : Hp} {s : Shared} {A : Around} {E : Value → Shared → Prop} {Q : Value → Shared → Prop} {c : Value} {b : Bool}
inductive TyOf (K : PySem.W.Frag) (H : Hp) : V → Value → Prop where
  | non : TyOf K H .non (.type "NoneType")
  | bl (x : Bool) : TyOf K H (.bl x) (.type "bool")
  | int (i : Int) : TyOf K H (.int i) (.type "int")
  | str (x : Str) : TyOf K H (.str x) (.type "str")
  | flt (x : UInt64) : TyOf K H (.flt x) (.type "float")
  | lst {a : Addr} {xs : List V} (e : H a = some (.lst xs)) : TyOf K H (.ref a) (.type "list")
  | frz {a : Addr} {o : Obj} {xs : List V} (e : H a = some (.frz o (.lst xs))) : TyOf K H (.ref a) (.type "list")
  | tup {a : Addr} {xs : List V} (e : H a = some (.tup xs)) : TyOf K H (.ref a) (.type "tuple")
  | dK {a : Addr} {kvs : List (Key × V)} (e : H a = some (.dK kvs)) : TyOf K H (.ref a) (.type "dict")
  | dT {a : Addr} {kvs : List (List Key × V)} (e : H a = some (.dT kvs)) : TyOf K H (.ref a) (.type "dict")
  | ins {a C dx : Addr} {fs : List (Str × V)} (e : H a = some (.ins C dx fs)) (cl : Cls K C) (ha : PySem.W.findIn K (.ref C) "__class__" = some (some (.builtin "object.__class__")))
      (hn : PySem.W.specialIn K (.builtin "object.__class__") "__get__" = some (some (.builtin "getset_descriptor.__get__"))) (htk : PySem.W.takesIn K (.builtin "object.__class__") = some true)
      (hm : PySem.W.mroIn K C (.type "object") = some true) : TyOf K H (.ref a) (.ref C)
theorem isinst_ok {x : V} {u t : Value} (I : Inv X pins σ H s) (rx : RelV x u) (ty : TyOf X.K H x t) (e : PySem.W.kitOne X.K t c = some b) (h : ∀ tk, Q (.bool b) { s with toks := tk }) :
    wpAny (model X.prog X.w) A (call (.builtin "isinstance") [u, c]) Q E s := by
  cases ty with
  | non => cases (show u = Value.none from rx); exact PySem.W.kia_one PySem.W.kitx_none I.kIn True.intro e (fun z => nomatch z) h
  | bl y => cases (show u = Value.bool y from rx); exact PySem.W.kia_one PySem.W.kitx_bool I.kIn True.intro e (fun z => nomatch z) h
  | int i => obtain ⟨t, q⟩ := (show ∃ t, u = Value.int i t from rx); cases q; exact PySem.W.kia_one PySem.W.kitx_int I.kIn True.intro e (fun z => nomatch z) h
  | str y => obtain ⟨t, q⟩ := (show ∃ t, u = Value.str y t from rx); cases q; exact PySem.W.kia_one PySem.W.kitx_str I.kIn True.intro e (fun z => nomatch z) h
  | flt y => obtain ⟨t, q⟩ := (show ∃ t, u = Value.float y t from rx); cases q; exact PySem.W.kia_one PySem.W.kitx_float I.kIn True.intro e (fun z => nomatch z) h
  | @lst a xs ea =>
    cases (show u = Value.ref a from rx)
    obtain ⟨_, _, n, _, h1⟩ := (show ObjOk X.prog X.w H s.heap a (.lst xs) from I.hok a _ ea)
    exact PySem.W.kia_one PySem.W.kitx_list I.kIn ⟨_, h1, rfl⟩ e (fun z => nomatch z) h
  | @frz a ob xs ea =>
    cases (show u = Value.ref a from rx)
    obtain ⟨_, _, _, n, _, h1⟩ := (show ObjOk X.prog X.w H s.heap a (.frz ob (.lst xs)) from I.hok a _ ea)
    exact PySem.W.kia_one PySem.W.kitx_list I.kIn ⟨_, h1, rfl⟩ e (fun z => nomatch z) h
  | @tup a xs ea =>
    cases (show u = Value.ref a from rx)
    obtain ⟨_, _, _, p⟩ := (show ObjOk X.prog X.w H s.heap a (.tup xs) from I.hok a _ ea)
    obtain ⟨o, h1, h2, _⟩ := p
    exact PySem.W.kia_one PySem.W.kitx_tuple I.kIn ⟨o, h1, h2⟩ e (fun z => nomatch z) h
  | @dK a kvs ea =>
    cases (show u = Value.ref a from rx)
    obtain ⟨_, _, vs, _, p⟩ := (show ObjOk X.prog X.w H s.heap a (.dK kvs) from I.hok a _ ea)
    obtain ⟨o, es, ep, h1, h2, _⟩ := p
    exact PySem.W.kia_one PySem.W.kitx_dict I.kIn ⟨o, h1, h2.1⟩ e (fun z => nomatch z) h
  | @dT a kvs ea =>
    cases (show u = Value.ref a from rx)
    obtain ⟨_, _, xs, _, o, es, ep, h1, h2, _⟩ := (show ObjOk X.prog X.w H s.heap a (.dT kvs) from I.hok a _ ea)
    exact PySem.W.kia_one PySem.W.kitx_dict I.kIn ⟨o, h1, h2.1⟩ e (fun z => nomatch z) h
  | @ins a C dx fs ea cl ha hn htk hm =>
    cases (show u = Value.ref a from rx)
    obtain ⟨mA, O, _⟩ := ins_get I.hok ea
    obtain ⟨od, J, _⟩ := O.look
    exact PySem.W.kia_one (PySem.W.kitx_own (cl.get _) cl.hd ha hn htk hm) I.kIn J e (fun z => nomatch z) h
end
end L2.Internal

namespace L2.Internal
open PySem PySem.Spec PyProof.Rows

structure Room (k : Nat) (A : Around) : Prop where
  hd : A.handled = none
  dp : A.depth + 3 * k + 5 < recursionLimit
  un : A.units + 16 * k + 200 < cLine
theorem Room.mono {j k : Nat} {A : Around} (r : Room k A) (h : j ≤ k) : Room j A := ⟨r.hd, by have := r.dp; omega, by have := r.un; omega⟩
theorem Room.deeper {k : Nat} {A : Around} (r : Room (k + 1) A) (env : Env) : Room k (A.deeper env) :=
  ⟨r.hd, by have := r.dp; show A.depth + 1 + 3 * k + 5 < _; omega, by have := r.un; show A.units + 3 + 16 * k + 200 < _; omega⟩
theorem make_depth {A : Around} {C : Addr} {us : List Value} {kw : List (Str × Value)} : (A.under (.builtin "type.__call__" ⟨.ref C :: us, kw⟩)).depth = A.depth + 1 := by
  first | rfl | simp [Around.under, Code.weight, Code.isCreation, Code.isGuard, Code.isCaller, Code.frames, Code.isFrame, guardIds]
theorem make_units {A : Around} {C : Addr} {us : List Value} {kw : List (Str × Value)} : (A.under (.builtin "type.__call__" ⟨.ref C :: us, kw⟩)).units = A.units + 1 := by
  first | rfl | simp [Around.under, Code.cUnits, Code.frames, Code.isFrame]
theorem Room.make {k : Nat} {A : Around} (r : Room (k + 1) A) (C : Addr) (us : List Value) (kw : List (Str × Value)) : Room k (A.under (.builtin "type.__call__" ⟨.ref C :: us, kw⟩)) :=
  ⟨r.hd, by have := r.dp; rw [make_depth]; omega, by have := r.un; rw [make_units]; omega⟩
theorem Room.depth {k : Nat} {A : Around} (r : Room k A) : A.depth < recursionLimit := by have := r.dp; omega
noncomputable def tNil : TA := fun _ H Q => Q [] H
noncomputable def tCons (ta : TE) (tr : TA) : TA := fun σ H Q => ta σ H fun x H1 => tr σ H1 fun xs H2 => Q (x :: xs) H2
section
variable {X : Cx} {e : Expr} {es : List Expr} {te : TE} {t : TA} {pos : Pos}
theorem pa_nil : PA X [] tNil := fun _ _ _ _ H Q I h => Calls.spliced_nil ⟨[], H, I, .nil, h⟩
theorem pa_cons (ha : PE X e te) (hr : PA X es t) (hs : autoParam (starEach (e :: es) X.env = (false, eval e X.env) :: starEach es X.env) L2.Internal.auR._auto_1) : PA X (e :: es) (tCons te t) := by
  intro pos pins s σ H Q I h
  rw [hs]
  show wpAny _ _ (spliced ((false, eval e X.env) :: backTo pos (starEach es X.env))) _ _ s
  refine Calls.spliced_cons (thn (ha pins s σ H _ I h) fun u s1 ⟨x, H1, I1, r1, q1⟩ => ?_)
  exact thn (hr pos pins s1 σ H1 _ I1 q1) fun us s2 ⟨xs, H2, I2, r2, q2⟩ => ⟨x :: xs, H2, I2, .cons r1 r2, q2⟩

noncomputable def tTup (t : TA) : TE := fun σ H Q => t σ H fun xs H1 => xs.length ≤ sizeLine ∧ ∀ p, H1 p = none → Q (.ref p) (upd H1 p (.tup xs))
noncomputable def tLst (t : TA) : TE := fun σ H Q => t σ H fun xs H1 => xs.length ≤ sizeLine ∧ ∀ p, H1 p = none → Q (.ref p) (upd H1 p (.lst xs))
theorem pe_tup {x1} (h : PA X es t) : PE X (.Tuple es x1 pos) (tTup t) := by
  intro pins s σ H Q I hq
  refine wpAny_Tuple_spliced (thn (h pos pins s σ H _ I hq) fun us s1 ⟨xs, H1, I1, r, z, q⟩ => ⟨by rw [← r.length]; exact z, ?_⟩)
  have hf : H1 s1.heap.objs.size = none := I1.hok.fresh (Nat.le_refl _)
  refine ⟨.ref s1.heap.objs.size, upd H1 s1.heap.objs.size (.tup xs), I1.laid (t' := s1.toks) (fun b u e => Heap.get?_push_of_some _ e) (Nat.le_refl _) ?_, rfl, q _ hf⟩
  exact ⟨z, us, r, ⟨_, Heap.get?_push_size _ rfl, rfl, _, rfl, rfl⟩⟩
theorem pe_lst (h : PA X es t) : PE X (.List es pos) (tLst t) := by
  intro pins s σ H Q I hq
  refine wpAny_List_spliced (thn (h pos pins s σ H _ I hq) fun us s1 ⟨xs, H1, I1, r, z, q⟩ => ⟨by rw [← r.length]; exact z, ?_⟩)
  have hf : H1 s1.heap.objs.size = none := I1.hok.fresh (Nat.le_refl _)
  refine ⟨.ref s1.heap.objs.size, upd H1 s1.heap.objs.size (.lst xs), I1.laid (t' := s1.toks) (fun b u e => Heap.get?_push_of_some _ e) (Nat.le_refl _) ?_, rfl, q _ hf⟩
  exact ⟨z, us, 0, r, Heap.get?_push_size _ rfl⟩
end

noncomputable abbrev Sp := List V → Hp → VK → XK → Prop
noncomputable abbrev CXT := List Env → Hp → Shared → XK → Value → Shared → Prop

structure Env0 (P : Program) (w : World) (K : PySem.W.Frag) (mg : Str → Option Value) (base : Heap) (A : Around) (outer : List Env) (s : Shared) (H : Hp) : Prop where
  frames : A.frames = some outer
  mod : Mod K mg base
  bs : ∀ b o, base.get? b = some o → s.heap.get? b = some o ∧ H b = none
  bsz : base.objs.size ≤ s.heap.objs.size
  funs : s.heap.FunFrames base outer
  frf : ∀ b ∈ frs outer, H b = none
  hok : HOk P w H s.heap
  bare : AllBare s.gens
noncomputable def CE (outer : List Env) (P : Program) (w : World) (H : Hp) (s : Shared) (Q : VK) (u : Value) (s' : Shared) : Prop :=
  ∃ v H', s'.os = s.os ∧ AllBare s'.gens ∧ Un (frs outer) [] H H' s.heap s'.heap ∧ HOk P w H' s'.heap ∧ RelV v u ∧ Q v H'
noncomputable def CR (CX : CXT) (outer : List Env) (P : Program) (w : World) (H : Hp) (s : Shared) (Q : VK) (E : XK) (r : Result) (s' : Shared) : Prop :=
  match r with
  | .ok (.ret u) => CE outer P w H s Q u s'
  | .ok _ => False
  | .error e => CX outer H s E e s'
structure FnOk (P : Program) (w : World) (K : PySem.W.Frag) (mg : Str → Option Value) (base : Heap) (CX : CXT) (k : Nat) (f : Addr) (fd : FuncData) (ps : List Str) (sp : Sp) : Prop where
  len : ∀ vs H Q E, sp vs H Q E → vs.length = ps.length
  run : ∀ (A : Around) (outer : List Env) (s : Shared) (H : Hp) (args : Args) (us : List Value) (vs : List V) (Q : VK) (E : XK), Room k A → Env0 P w K mg base A outer s H → BindsTo s fd args (ps.zip us) → Vals vs us → sp vs H Q E →
    codeAny (model P w) A (.call (.ref f) args) (CR CX outer P w H s Q E) s
theorem Env0.make {P : Program} {w : World} {K : PySem.W.Frag} {mg : Str → Option Value} {base : Heap} {A : Around} {outer : List Env} {s : Shared} {H : Hp} (e : Env0 P w K mg base A outer s H) (C : Addr) (us : List Value) (kw : List (Str × Value)) :
    Env0 P w K mg base (A.under (.builtin "type.__call__" ⟨.ref C :: us, kw⟩)) outer s H := ⟨by first | exact e.frames | (simpa [Around.under, Code.envs, Code.isFrame, pushEnvs] using e.frames), e.mod, e.bs, e.bsz, e.funs, e.frf, e.hok, e.bare⟩
section
variable {X : Cx} {pins : List (Addr × Obj)} {σ : St} {H : Hp} {s s' : Shared}
theorem Inv.env0 (I : Inv X pins σ H s) : Env0 X.prog X.w X.K X.mg X.base X.A X.stack s H :=
  ⟨I.ok.frames, I.ok.mod, I.bs, Nat.le_trans I.ok.bsz I.sz, I.stack, I.stkFree, I.hok, I.bare⟩
theorem Inv.after {Q : VK} {u : Value} (I : Inv X pins σ H s) (h : CE X.stack X.prog X.w H s Q u s') : EP X pins σ Q u s' := by
  obtain ⟨v, H', os, bare, un, hok, r, q⟩ := h
  obtain ⟨hh, g, d, t, os'⟩ := s'
  obtain rfl : os' = s.os := os
  exact ⟨v, H', I.call (h' := hh) (g' := g) (d' := d) (t' := t) (ch := []) un hok bare (fun b z => absurd z (by simp)), r, q⟩
end

noncomputable def tCall (sp : Sp) (dvs : List V) (E : XK) (t : TA) : TE := fun σ H Q => t σ H fun vs H1 => sp (vs ++ dvs) H1 Q E
noncomputable def tMeth (C : Addr) (m : Str) (sp : Sp) (dvs : List V) (E : XK) (ta : TE) (t : TA) : TE := fun σ H Q => ta σ H fun x H1 => ∃ a dx fs, x = .ref a ∧ H1 a = some (.ins C dx fs) ∧ fs.lookup m = none ∧
  t σ H1 fun vs H2 => sp (x :: (vs ++ dvs)) H2 Q E
noncomputable def tMake (C : Addr) (sp : Sp) (dvs : List V) (E : XK) (t : TA) : TE := fun σ H Q => t σ H fun vs H1 => ∀ x dx, H1 x = none → H1 dx = none → dx ≠ x →
  sp (.ref x :: (vs ++ dvs)) (upd (upd H1 dx (.own x)) x (.ins C dx [])) (fun v H2 => v = .non ∧ Q (.ref x) H2) E

noncomputable def Binds (K : PySem.W.Frag) (fd : FuncData) (ps : List Str) (ds : List Value) : Prop :=
  ∀ (s : Shared) (us : List Value), K.In s.heap → (us ++ ds).length = ps.length → BindsTo s fd ⟨us, []⟩ (ps.zip (us ++ ds))
theorem Binds.all {K : PySem.W.Frag} {fd : FuncData} {ps : List Str} (h : ∀ us : List Value, us.length = ps.length → bindArgs fd ⟨us, []⟩ = pure (ps.zip us)) : Binds K fd ps [] := fun s us _ hl => by
  rw [List.append_nil] at hl ⊢
  exact .of_eq (h us hl)

noncomputable def Passes (CX : CXT) (X : Cx) (E : XK) : Prop := ∀ (pins : List (Addr × Obj)) (σ : St) (H : Hp) (s : Shared) (e : Value) (s' : Shared), Inv X pins σ H s → CX X.stack H s E e s' → X.xe e s'

section
variable {X : Cx} {CX : CXT} {k : Nat} {f C : Addr} {fd : FuncData} {ps : List Str} {sp : Sp} {dvs : List V} {ds : List Value} {E : XK} {x m : Str} {p pos apos : Pos} {e o : Expr} {es : List Expr} {ta : TE} {t : TA}

theorem run_fn {pins : List (Addr × Obj)} {σ : St} {H : Hp} {s : Shared} {Q : VK} {us : List Value} {vs : List V} (F : FnOk X.prog X.w X.K X.mg X.base CX k f fd ps sp) (hr : Room k X.A) (hb : Binds X.K fd ps ds) (hd : Vals dvs ds) (hx : Passes CX X E)
    (I : Inv X pins σ H s) (r : Vals vs us) (h : sp (vs ++ dvs) H Q E) : wpAny (model X.prog X.w) X.A (call (.ref f) us) (EP X pins σ Q) X.xe s := by
  have r2 : Vals (vs ++ dvs) (us ++ ds) := r.append hd
  have hl : (us ++ ds).length = ps.length := by rw [← r2.length]; exact F.len _ _ _ _ h
  refine wpAny_call (codeAny_mono (F.run X.A X.stack s H ⟨us, []⟩ (us ++ ds) (vs ++ dvs) Q E hr I.env0 (hb s us I.kIn hl) r2 h) fun r s' hq => ?_)
  cases r with
  | error e => exact hx pins σ H s e s' I hq
  | ok fl =>
    cases fl with
    | ret u => exact I.after hq
    | next => exact False.elim hq
    | brk => exact False.elim hq
    | cont => exact False.elim hq

theorem pe_call (F : FnOk X.prog X.w X.K X.mg X.base CX k f fd ps sp) (hr : Room k X.A) (hg : Gl X x) (hm : X.mg x = some (.ref f)) (hk : PySem.W.keepIn X.K (.ref f) = true) (hb : Binds X.K fd ps ds) (hd : Vals dvs ds) (hx : Passes CX X E)
    (ha : PA X (e :: es) t) (hdb : autoParam ((x == ("__debug__" : Str)) = false) L2.Internal.auD._auto_1) (he : autoParam (starEach (e :: es) X.env = (false, eval e X.env) :: starEach es X.env) L2.Internal.auR._auto_1) (hpl : autoParam ((backTo pos (starEach es X.env)).any (·.1) = false) L2.Internal.auR._auto_1) :
    PE X (.Call (.Name x p) (e :: es) [] pos) (tCall sp dvs E t) := by
  intro pins s σ H Q I h
  refine wpAny_Call_Name_kw (ld_glob I hg hm ?_ hdb)
  refine PySem.W.callWith_K (h₀ := X.base) I.ok.mod.kin hk (thn (ha pos pins s σ H _ I h) fun us s1 ⟨vs, H1, I1, r, q⟩ => ⟨I1.kIn, ?_⟩) he hpl
  exact run_fn F hr hb hd hx I1 r q
theorem pe_meth {pl : Sem Bool} (he : PE X o ta) (c : Cls X.K C) (hm : Meth X.K C m f) (F : FnOk X.prog X.w X.K X.mg X.base CX k f fd ps sp) (hr : Room k X.A) (hb : Binds X.K fd ps ds) (hd : Vals dvs ds) (hx : Passes CX X E) (ha : PA X (e :: es) t)
    (hst : autoParam (starEach (e :: es) X.env = (false, eval e X.env) :: starEach es X.env) L2.Internal.auR._auto_1) (hpl : autoParam ((backTo pos (starEach es X.env)).any (·.1) = false) L2.Internal.auR._auto_1)
    (ht : eval (.Call (.Attribute o m apos) (e :: es) [] pos) X.env = (do
      let ov ← eval o X.env
      standAt apos.atName
      let (f, first) ← holding [ov] (getMethod ov m pl)
      callWith pos f first (backTo pos (starEach (e :: es) X.env)) (backToKw pos (keywordEach [] X.env))) := by rfl) :
    PE X (.Call (.Attribute o m apos) (e :: es) [] pos) (tMeth C m sp dvs E ta t) := by
  intro pins s σ H Q I h
  refine PySem.W.methodCall_KW (pl := pl) (thn (he pins s σ H _ I h) fun u s1 ⟨x, H1, I1, rx, a, dx, fs, ex, ea, l, q⟩ => ?_) ht
  subst ex
  obtain rfl : u = Value.ref a := rx
  refine getmeth_ok I1 ea c hm l ?_
  refine PySem.W.callWith_K (first := [.ref a]) (h₀ := X.base) I.ok.mod.kin hm.kp (thn (ha pos pins s1 σ H1 _ I1 q) fun us s2 ⟨vs, H2, I2, r, q2⟩ => ⟨I2.kIn, ?_⟩) hst hpl
  exact run_fn (us := .ref a :: us) (vs := .ref a :: vs) F hr hb hd hx I2 (.cons rfl r) q2
theorem pe_meth0 {pl : Sem Bool} (he : PE X o ta) (c : Cls X.K C) (hm : Meth X.K C m f) (F : FnOk X.prog X.w X.K X.mg X.base CX k f fd ps sp) (hr : Room k X.A) (hb : Binds X.K fd ps ds) (hd : Vals dvs ds) (hx : Passes CX X E)
    (ht : eval (.Call (.Attribute o m apos) [] [] pos) X.env = (do
      let ov ← eval o X.env
      standAt apos.atName
      let (f, first) ← holding [ov] (getMethod ov m pl)
      callWith pos f first (backTo pos (starEach [] X.env)) (backToKw pos (keywordEach [] X.env))) := by rfl) :
    PE X (.Call (.Attribute o m apos) [] [] pos) (tMeth C m sp dvs E ta tNil) := by
  intro pins s σ H Q I h
  refine PySem.W.methodCall_KW (pl := pl) (thn (he pins s σ H _ I h) fun u s1 ⟨x, H1, I1, rx, a, dx, fs, ex, ea, l, q⟩ => ?_) ht
  subst ex
  obtain rfl : u = Value.ref a := rx
  refine getmeth_ok I1 ea c hm l ?_
  exact PySem.W.callWith_K0 (first := [.ref a]) I1.kIn hm.kp (run_fn (us := [.ref a]) (vs := [.ref a]) F hr hb hd hx I1 (.cons rfl .nil) q)

structure Mk (K : PySem.W.Frag) (C f : Addr) : Prop where
  makes : PySem.W.makesIn K C = true
  init : PySem.W.findIn K (.ref C) "__init__" = some (some (.ref f))
  fn : PySem.W.isFn K (.ref f) = true
  kp : PySem.W.keepIn K (.ref C) = true

theorem run_make {pins : List (Addr × Obj)} {σ : St} {H : Hp} {s : Shared} {Q : VK} {us : List Value} {vs : List V} (M : Mk X.K C f) (F : FnOk X.prog X.w X.K X.mg X.base CX k f fd ps sp) (hr : Room (k + 1) X.A) (hb : Binds X.K fd ps ds) (hd : Vals dvs ds)
    (hx : Passes CX X E) (I : Inv X pins σ H s) (r : Vals vs us)
    (h : ∀ x dx, H x = none → H dx = none → dx ≠ x → sp (.ref x :: (vs ++ dvs)) (upd (upd H dx (.own x)) x (.ins C dx [])) (fun v H2 => v = .non ∧ Q (.ref x) H2) E) :
    wpAny (model X.prog X.w) X.A (call (.ref C) us) (EP X pins σ Q) X.xe s := by
  have hq := h (s.heap.objs.size + 1) s.heap.objs.size (I.hok.fresh (Nat.le_succ _)) (I.hok.fresh (Nat.le_refl _)) (Nat.ne_of_lt (Nat.lt_succ_self _))
  have I2 := Inv.made (C := C) I
  have r2 : Vals (V.ref (s.heap.objs.size + 1) :: (vs ++ dvs)) (Value.ref (s.heap.objs.size + 1) :: (us ++ ds)) := .cons rfl (r.append hd)
  have hl : (Value.ref (s.heap.objs.size + 1) :: us ++ ds).length = ps.length := by
    have e := r2.length
    rw [F.len _ _ _ _ hq] at e
    exact e.symm
  refine wpAny_call (make_map (f := f) I.kIn M.makes M.init (beq_iff_eq.mp M.fn) (codeAny_mono (F.run _ X.stack _ _ ⟨Value.ref (s.heap.objs.size + 1) :: us, []⟩ (Value.ref (s.heap.objs.size + 1) :: (us ++ ds)) _ _ E (hr.make C us [])
    (I2.env0.make C us []) (hb _ (Value.ref (s.heap.objs.size + 1) :: us) I2.kIn hl) r2 hq) fun r s' hq' => ?_))
  cases r with
  | error e => exact hx pins σ _ _ e s' I2 hq'
  | ok fl =>
    cases fl with
    | ret u =>
      obtain ⟨v, H', I3, rv, ev, q3⟩ := I2.after hq'
      subst ev
      exact ⟨rv, ⟨V.ref (s.heap.objs.size + 1), H', I3, rfl, q3⟩⟩
    | next => exact False.elim hq'
    | brk => exact False.elim hq'
    | cont => exact False.elim hq'
theorem pe_make (M : Mk X.K C f) (F : FnOk X.prog X.w X.K X.mg X.base CX k f fd ps sp) (hr : Room (k + 1) X.A) (hg : Gl X x) (hm : X.mg x = some (.ref C)) (hb : Binds X.K fd ps ds) (hd : Vals dvs ds) (hx : Passes CX X E)
    (ha : PA X (e :: es) t) (hdb : autoParam ((x == ("__debug__" : Str)) = false) L2.Internal.auD._auto_1) (he : autoParam (starEach (e :: es) X.env = (false, eval e X.env) :: starEach es X.env) L2.Internal.auR._auto_1) (hpl : autoParam ((backTo pos (starEach es X.env)).any (·.1) = false) L2.Internal.auR._auto_1) :
    PE X (.Call (.Name x p) (e :: es) [] pos) (tMake C sp dvs E t) := by
  intro pins s σ H Q I h
  refine wpAny_Call_Name_kw (ld_glob I hg hm ?_ hdb)
  refine PySem.W.callWith_K (h₀ := X.base) I.ok.mod.kin M.kp (thn (ha pos pins s σ H _ I h) fun us s1 ⟨vs, H1, I1, r, q⟩ => ⟨I1.kIn, ?_⟩) he hpl
  exact run_make M F hr hb hd hx I1 r q
end

section
variable {X : Cx} {CX : CXT} {k : Nat} {f C : Addr} {fd : FuncData} {ps ks : List Str} {sp : Sp} {E : XK} {x m : Str} {p pos apos kpos : Pos} {e o : Expr} {es : List Expr} {kws : List Keyword} {te ta : TE} {t tk : TA} {nm : Option Str}
structure KBinds (K : PySem.W.Frag) (fd : FuncData) (ps ks : List Str) (g : List Value → List Value → List Value) (gV : List V → List V → List V) : Prop where
  to : ∀ (s : Shared) (us ws : List Value), K.In s.heap → (g us ws).length = ps.length → BindsTo s fd ⟨us, ks.zip ws⟩ (ps.zip (g us ws))
  rel : ∀ {vs : List V} {us : List Value} {zs : List V} {ws : List Value}, Vals vs us → Vals zs ws → Vals (gV vs zs) (g us ws)
variable {g : List Value → List Value → List Value} {gV : List V → List V → List V}
end

structure FnScope (N P : List Str) (sc : Scope) : Prop where
  kind : sc.kind = .function
  co : sc.isCoroutine = false
  gen : sc.isGenerator = false
  nd : N.Nodup
  pre : N.take P.length = P
  par : ∀ x ∈ P, sc.names.lookup x = some .local ∨ sc.names.lookup x = some .cell
  nofree : ∀ y ∈ sc.names, y.2 ≠ .free

theorem bindL_out {kindOf : Str → Option NameKind} {x : Str} : ∀ {binds : List (Str × Value)} {m : Str → Option Value}, (∀ v, (x, v) ∉ binds) → bindL kindOf binds m x = m x
  | [], _, _ => rfl
  | (n, v) :: r, m, h => by
    unfold bindL
    rw [bindL_out fun w hw => h w (List.mem_cons_of_mem _ hw)]
    split
    · have : x ≠ n := by rintro rfl; exact h v List.mem_cons_self
      simp [this]
    · rfl
theorem bindC_out {kindOf : Str → Option NameKind} {x : Str} : ∀ {binds : List (Str × Value)} {m : Str → Option Value}, (∀ v, (x, v) ∉ binds) → bindC kindOf binds m x = m x
  | [], _, _ => rfl
  | (n, v) :: r, m, h => by
    unfold bindC
    rw [bindC_out fun w hw => h w (List.mem_cons_of_mem _ hw)]
    split
    · rfl
    · have : x ≠ n := by rintro rfl; exact h v List.mem_cons_self
      simp [this]
theorem bindL_get {kindOf : Str → Option NameKind} {x : Str} {v : Value} : ∀ {P : List Str} {vs : List Value} {i : Nat} {m : Str → Option Value}, P.Nodup → P[i]? = some x → vs[i]? = some v → kindOf x = some .local →
    bindL kindOf (P.zip vs) m x = some v
  | [], _, _, _, _, h, _, _ => by simp at h
  | _ :: _, [], _, _, _, _, h, _ => by simp at h
  | p :: P, w :: vs, 0, m, nd, h1, h2, hk => by
    simp at h1 h2; subst h1; subst h2
    show bindL kindOf ((p, w) :: P.zip vs) m p = _
    unfold bindL
    rw [bindL_out fun v hv => (List.nodup_cons.mp nd).1 (List.of_mem_zip hv).1, if_pos hk]
    simp
  | p :: P, w :: vs, i + 1, m, nd, h1, h2, hk => by
    show bindL kindOf ((p, w) :: P.zip vs) m x = _
    unfold bindL
    exact bindL_get (i := i) (List.nodup_cons.mp nd).2 (by simpa using h1) (by simpa using h2) hk
theorem bindC_get {kindOf : Str → Option NameKind} {x : Str} {v : Value} : ∀ {P : List Str} {vs : List Value} {i : Nat} {m : Str → Option Value}, P.Nodup → P[i]? = some x → vs[i]? = some v → kindOf x ≠ some .local →
    bindC kindOf (P.zip vs) m x = some v
  | [], _, _, _, _, h, _, _ => by simp at h
  | _ :: _, [], _, _, _, _, h, _ => by simp at h
  | p :: P, w :: vs, 0, m, nd, h1, h2, hk => by
    simp at h1 h2; subst h1; subst h2
    show bindC kindOf ((p, w) :: P.zip vs) m p = _
    unfold bindC
    rw [bindC_out fun v hv => (List.nodup_cons.mp nd).1 (List.of_mem_zip hv).1, if_neg hk]
    simp
  | p :: P, w :: vs, i + 1, m, nd, h1, h2, hk => by
    show bindC kindOf ((p, w) :: P.zip vs) m x = _
    unfold bindC
    exact bindC_get (i := i) (List.nodup_cons.mp nd).2 (by simpa using h1) (by simpa using h2) hk

noncomputable def start (N : List Str) (vs : List V) : St := vs.map some ++ List.replicate (N.length - vs.length) none

noncomputable def cxOf (CX : CXT) (P : Program) (w : World) (K : PySem.W.Frag) (mg : Str → Option Value) (base : Heap) (N : List Str) (qual : Str) (scope : Scope) (f : Addr) (cd : Value) (A : Around) (outer : List Env) (s : Shared) (H : Hp) (E : XK) : Cx where
  prog := P
  w := w
  K := K
  mg := mg
  base := base
  A := A.deeper (envOfC qual scope s.heap.objs.size f cd)
  N := N
  s₀ := s
  H₀ := H
  env := envOfC qual scope s.heap.objs.size f cd
  outer := outer
  stack := envOfC qual scope s.heap.objs.size f cd :: outer
  ex := []
  calm := true
  fn := fun _ => true
  pn := []
  xe := fun e s' => wpAny (model P w) (A.deeper (envOfC qual scope s.heap.objs.size f cd)) (leaving (envOfC qual scope s.heap.objs.size f cd) e) (fun _ s'' => CX outer H s E e s'') (fun e' s'' => CX outer H s E e' s'') s'

theorem cell_has {sc : Scope} {n : Nat} {x : Str} (h : sc.names.lookup x = some .cell) : ∃ c, (cellsFrom n sc.names []).lookup x = some c := by
  have q := PySem.W.cellsFrom_some sc.names n [] (.inl h)
  exact Option.isSome_iff_exists.mp q

theorem inv_start {CX : CXT} {P : Program} {w : World} {K : PySem.W.Frag} {mg : Str → Option Value} {base : Heap} {N ps : List Str} {qual : Str} {scope : Scope} {f : Addr} {cd : Value} {A : Around} {outer : List Env} {s s1 : Shared} {H : Hp} {E : XK} {us : List Value} {vs : List V}
    (S : FnScope N ps scope) (hd : A.handled = none) (e0 : Env0 P w K mg base A outer s H) (hl : vs.length = ps.length) (r : Vals vs us)
    (x : InCallC s s.heap.objs.size (bindL (envOfC qual scope s.heap.objs.size f cd).kindOf (ps.zip us) fun _ => none) (cellsFrom (s.heap.objs.size + 1) scope.names []) (bindC (envOfC qual scope s.heap.objs.size f cd).kindOf (ps.zip us) fun _ => none) s1) :
    Inv (cxOf CX P w K mg base N qual scope f cd A outer s H E) [] (start N vs) H s1 := by
  have hpl : ps.length ≤ N.length := by have := congrArg List.length S.pre; rw [List.length_take] at this; omega
  obtain ⟨h1, tk, rfl, hk⟩ := x.done
  have noA : ∀ b : Addr, b ∉ (cxOf CX P w K mg base N qual scope f cd A outer s H E).ex := fun b z => absurd (show b ∈ ([] : List Addr) from z) (by simp)
  refine ⟨⟨e0.mod, S.kind, rfl, rfl, Nat.le_refl _, fun y z c h1 h2 => ?_, fun y hy => ?_, fun y c _ h => ?_, fun _ => hd, Around.frames_deeper e0.frames, .inr ⟨rfl, rfl⟩, fun b z => absurd z (noA b), e0.bs, e0.bsz, fun b _ _ => noA b, fun b z => absurd z (noA b), e0.funs, e0.frf⟩,
    rfl, e0.bare, Un.kept hk, ⟨_, x.toInCall.ns, fun i y v h1 h2 h3 => ?_⟩, fun y c h => ⟨_, x.cell y c h⟩, e0.hok.fresh (Nat.le_refl _), fun y c h => ?_, fun p hp => absurd (show p ∈ ([] : List (Addr × Obj)) from hp) (by simp), e0.hok.kept hk, ?_⟩
  · exact name_of_addr x.apart (PySem.mem_of_lookup h1) (PySem.mem_of_lookup h2)
  · have hy : scope.names.lookup y = some .cell ∨ scope.names.lookup y = some .free := hy
    rcases hy with hy | hy
    · exact cell_has hy
    · exact absurd rfl (S.nofree _ (PySem.mem_of_lookup hy))
  · exact Nat.le_of_lt (x.above y c (PySem.mem_of_lookup h))
  · have hi : i < vs.length := by
      unfold start at h2
      by_cases hi : i < vs.length
      · exact hi
      · rw [List.getElem?_append_right (by simpa using hi)] at h2
        rw [List.getElem?_replicate] at h2
        split at h2 <;> cases h2
    have ha : vs[i]? = some v := by
      unfold start at h2
      rw [List.getElem?_append_left (by simpa using hi), List.getElem?_map] at h2
      cases e : vs[i]? with
      | none => rw [e] at h2; cases h2
      | some a => rw [e] at h2; cases h2; rfl
    obtain ⟨u, hu, rv⟩ := r.get ha
    have hp : ps[i]? = some y := by
      rw [← S.pre, List.getElem?_take_of_lt (by omega)]; exact h1
    have ndP : ps.Nodup := by rw [← S.pre]; exact S.nd.sublist (List.take_sublist _ _)
    refine ⟨u, rv, ?_⟩
    rcases S.par y (List.mem_of_getElem? hp) with k | k
    · exact .inl ⟨k, bindL_get ndP hp hu k⟩
    · obtain ⟨c, e⟩ := cell_has (n := s.heap.objs.size + 1) k
      refine .inr ⟨.inl k, c, e, ?_⟩
      have q := x.cell y c e
      rw [bindC_get ndP hp hu (by show scope.names.lookup y ≠ _; rw [k]; decide)] at q
      exact q
  · exact e0.hok.fresh (Nat.le_of_lt (x.above y c (PySem.mem_of_lookup h)))
  · unfold start
    show _ = N.length
    rw [List.length_append, List.length_map, List.length_replicate]
    omega

theorem fn_of {CX : CXT} {P : Program} {w : World} {K : PySem.W.Frag} {mg : Str → Option Value} {base : Heap} {k : Nat} {f : Addr} {name qual : Str} {params : Arguments} {body : List Stmt} {scope : Scope} {dV kV doc pm cdv ct oc : Value} {an od : Option Addr}
    {osl : Array (Option Value)} {N ps : List Str} {sp : Sp} (lk : K.lookup f = some ⟨oc, od, .func (PySem.W.fnOf name qual params body scope dV kV doc pm an cdv ct), osl⟩) (hcd : PySem.W.codeIn K cdv qual = true) (S : FnScope N ps scope)
    (len : ∀ vs H Q E, sp vs H Q E → vs.length = ps.length)
    (hbody : ∀ (A : Around) (outer : List Env) (s : Shared) (H : Hp) (vs : List V) (Q : VK) (E : XK), Room k (A.deeper (envOfC qual scope s.heap.objs.size f cdv)) → sp vs H Q E →
      ∃ t, PSs (cxOf CX P w K mg base N qual scope f cdv A outer s H E) body t ∧ t { nx := fun _ H' => Q .non H', rt := Q } (start N vs) H) :
    FnOk P w K mg base CX (k + 1) f (PySem.W.fnOf name qual params body scope dV kV doc pm an cdv ct) ps sp := by
  refine ⟨len, fun A outer s H args us vs Q E hr e0 hb r hsp => ?_⟩
  have hl := len _ _ _ _ hsp
  have KX : K.In s.heap := e0.mod.kin.keeps fun b o e => (e0.bs b o e).1
  have lim : s.heap.NoLimit := e0.mod.nolimit.keeps fun b o e => (e0.bs b o e).1
  have hkind : ∀ y ∈ ps.zip us, scope.names.lookup y.1 = some .local ∨ (scope.names.lookup y.1 = some .cell ∧ ((cellsFrom (s.heap.objs.size + 1) scope.names []).lookup y.1).isSome = true) := fun ⟨n, v⟩ hy => by
    rcases S.par n (List.of_mem_zip hy).1 with q | q
    · exact .inl q
    · exact .inr ⟨q, PySem.W.cellsFrom_some _ _ _ (.inl q)⟩
  refine codeAny_call_function hr.depth (KX _ _ lk) rfl S.co S.gen rfl (PySem.W.codeRec_of KX hcd) (hb _ _ _ _ ?_)
  refine wpAny_newFunctionEnv_cells S.kind hkind fun env he s1 x => ?_
  subst he
  refine ⟨lim.keeps x.toInCall.keep, codeAny_func ?_⟩
  obtain ⟨t, ht, hq⟩ := hbody A outer s H vs Q E (hr.deeper _) hsp
  have I : Inv (cxOf CX P w K mg base N qual scope f cdv A outer s H E) [] (start N vs) H s1 := inv_start S hr.hd e0 hl r x
  refine wpAny_mono (ht [] s1 (start N vs) H _ I hq) (fun fl s' hs => ?_) fun e s' hs => hs
  have fin : ∀ {σ' : St} {H' : Hp} {v : V} {u : Value}, Inv (cxOf CX P w K mg base N qual scope f cdv A outer s H E) [] σ' H' s' → RelV v u → Q v H' → CE outer P w H s Q u s' :=
    fun {σ' H' v u} J rv q => ⟨v, H', J.os, J.bare, J.base, J.hok, rv, q⟩
  cases fl with
  | ret u =>
    obtain ⟨v, σ', H', J, rv, q⟩ := hs
    exact fin J rv q
  | next =>
    obtain ⟨σ', H', J, q⟩ := hs
    exact fin (v := V.non) (u := Value.none) J rfl q
  | brk =>
    obtain ⟨_, _, _, q⟩ := hs
    exact False.elim q
  | cont =>
    obtain ⟨_, _, _, q⟩ := hs
    exact False.elim q
end L2.Internal

namespace L2.Internal
open PySem PySem.Spec PyProof.Rows
section
variable {X : Cx} {x : Str} {p pos : Pos} {e : Expr} {es : List Expr} {t : TA} {id T : String} {r : List V → Hp → VK → Prop}

noncomputable def tCB (r : List V → Hp → VK → Prop) (t : TA) : TE := fun σ H Q => t σ H fun vs H1 => r vs H1 Q
theorem pe_callB (hc : CallR X (.builtin id) r) (hg : Gl X x) (hm : X.mg x = none) (hv : bootBuiltins x = some (.builtin id)) (ha : PA X (e :: es) t) (hn : autoParam (x ≠ "__name__") L2.Internal.auD._auto_1) (hdb : autoParam ((x == ("__debug__" : Str)) = false) L2.Internal.auD._auto_1)
    (he : autoParam (starEach (e :: es) X.env = (false, eval e X.env) :: starEach es X.env) L2.Internal.auR._auto_1) (hpl : autoParam ((backTo pos (starEach es X.env)).any (·.1) = false) L2.Internal.auR._auto_1) : PE X (.Call (.Name x p) (e :: es) [] pos) (tCB r t) := by
  intro pins s σ H Q I h
  refine wpAny_Call_Name_kw (ld_blt I hg hm hv ?_ hn hdb)
  exact PyProof.Rows.callWith_builtin1 (thn (ha pos pins s σ H _ I h) fun us s1 ⟨vs, H1, I1, r1, q1⟩ => hc pins s1 σ H1 vs us Q I1 r1 q1) he hpl
theorem pe_callTy (hc : CallR X (.type T) r) (hg : Gl X x) (hm : X.mg x = none) (hv : bootBuiltins x = some (.type T)) (ha : PA X (e :: es) t) (hn : autoParam (x ≠ "__name__") L2.Internal.auD._auto_1) (hdb : autoParam ((x == ("__debug__" : Str)) = false) L2.Internal.auD._auto_1)
    (he : autoParam (starEach (e :: es) X.env = (false, eval e X.env) :: starEach es X.env) L2.Internal.auR._auto_1) (hpl : autoParam ((backTo pos (starEach es X.env)).any (·.1) = false) L2.Internal.auR._auto_1) : PE X (.Call (.Name x p) (e :: es) [] pos) (tCB r t) := by
  intro pins s σ H Q I h
  refine wpAny_Call_Name_kw (ld_blt I hg hm hv ?_ hn hdb)
  exact PyProof.Rows.callWith_type1 (thn (ha pos pins s σ H _ I h) fun us s1 ⟨vs, H1, I1, r1, q1⟩ => hc pins s1 σ H1 vs us Q I1 r1 q1) he hpl
end
end L2.Internal

namespace L2.Internal
open PySem PySem.Spec PyProof.Rows

section
variable {κ : Type} [DecidableEq κ]
noncomputable def valV (kvs : List (κ × V)) (k : κ) : Option V := (kvs.find? fun kv => decide (kv.1 = k)).map (·.2)
noncomputable def putK (kvs : List (κ × V)) (k : κ) (v : V) : List (κ × V) :=
  if (kvs.any fun kv => decide (kv.1 = k)) = true then kvs.map (fun kv => if kv.1 = k then (kv.1, v) else kv) else kvs ++ [(k, v)]
theorem valV_pos {p : κ × V} {r : List (κ × V)} {k : κ} (e : p.1 = k) : valV (p :: r) k = some p.2 := by simp [valV, List.find?_cons, e]
theorem valV_neg {p : κ × V} {r : List (κ × V)} {k : κ} (e : ¬ p.1 = k) : valV (p :: r) k = valV r k := by simp [valV, List.find?_cons, e]
theorem RelO.isSome_eq {o : Option V} {u : Option Value} (r : RelO o u) : o.isSome = u.isSome := by
  cases o with
  | none => cases u with
    | none => rfl
    | some _ => exact (show False from r).elim
  | some _ => cases u with
    | none => exact (show False from r).elim
    | some _ => rfl
theorem KV.val {kvs : List (κ × V)} {vs : List (κ × Value)} (r : KV kvs vs) (k : κ) : RelO (valV kvs k) (valueAt vs k) := by
  unfold KV at r
  induction r with
  | nil => exact True.intro
  | @cons p q ps qs h t ih =>
    obtain ⟨h1, h2⟩ := h
    by_cases e : p.1 = k
    · have e' : q.1 = k := h1.symm.trans e
      have b : valueAt (q :: qs) k = some q.2 := by simp [valueAt, List.find?_cons, e']
      rw [valV_pos e, b]; exact h2
    · have e' : ¬ q.1 = k := fun z => e (h1.trans z)
      have b : valueAt (q :: qs) k = valueAt qs k := by simp [valueAt, List.find?_cons, e']
      rw [valV_neg e, b]; exact ih
end


theorem kV_is {P : Program} {w : World} {k : Key} {u : Value} (r : RelV (kV k) u) : (mixKind P w).is k u = true := by
  cases k with
  | inl i => obtain ⟨t, e⟩ := (show ∃ t, u = Value.int i t from r); subst e; exact mixKind_int P w i t
  | inr x => obtain ⟨t, e⟩ := (show ∃ t, u = Value.str x t from r); subst e; exact mixKind_str P w x t
section
variable {P : Program} {w : World} {H : Hp} {h : Heap} {a : Addr}
theorem rd_of {u : HO} (ok : HOk P w H h) (e : Rd H a u) : ObjOk P w H h a u := e.ok ok
theorem dk_rd {kvs : List (Key × V)} (ok : HOk P w H h) (e : Rd H a (.dK kvs)) : kvs.length ≤ sizeLine ∧ (a == sysModules) = false ∧ ∃ vs, KV kvs vs ∧ h.DictOf (mixKind P w) a vs :=
  show ObjOk P w H h a (.dK kvs) from rd_of ok e
theorem dk_of {kvs : List (Key × V)} (ok : HOk P w H h) (e : H a = some (.dK kvs)) : kvs.length ≤ sizeLine ∧ (a == sysModules) = false ∧ ∃ vs, KV kvs vs ∧ h.DictOf (mixKind P w) a vs := dk_rd ok (.inl e)
end

noncomputable def DGet (H : Hp) (a : Addr) (y : V) (r : Option V) : Prop :=
  (∃ kvs k, Rd H a (.dK kvs) ∧ y = kV k ∧ r = valV kvs k) ∨ ∃ kvs k b, Rd H a (.dT kvs) ∧ y = .ref b ∧ H b = some (.tup (k.map kV)) ∧ r = valV kvs k
noncomputable def DPut (H : Hp) (a : Addr) (y v : V) (H' : Hp) : Prop :=
  (∃ kvs k, H a = some (.dK kvs) ∧ y = kV k ∧ kvs.length < sizeLine ∧ H' = upd H a (.dK (putK kvs k v))) ∨
  ∃ kvs k b, H a = some (.dT kvs) ∧ y = .ref b ∧ H b = some (.tup (k.map kV)) ∧ kvs.length < sizeLine ∧ H' = upd H a (.dT (putK kvs k v))
theorem DGet.k {H : Hp} {a : Addr} {kvs : List (Key × V)} {k : Key} (e : H a = some (.dK kvs)) : DGet H a (kV k) (valV kvs k) := .inl ⟨kvs, k, .inl e, rfl, rfl⟩
theorem DPut.k {H : Hp} {a : Addr} {kvs : List (Key × V)} {k : Key} {v : V} (e : H a = some (.dK kvs)) (hl : kvs.length < sizeLine) : DPut H a (kV k) v (upd H a (.dK (putK kvs k v))) := .inl ⟨kvs, k, e, rfl, hl, rfl⟩
section
variable {X : Cx} {pins : List (Addr × Obj)} {σ : St} {H : Hp} {s : Shared} {a : Addr} {y v : V} {u r : Value} {o : Option V} {A : Around} {E : Value → Shared → Prop}

end

section
variable {X : Cx} {pins : List (Addr × Obj)} {σ : St} {H : Hp} {s : Shared} {a : Addr} {kvs : List (Key × V)} {k : Key} {u : Value} {A : Around} {E : Value → Shared → Prop}
end


noncomputable def NoSl (i : Expr) : Prop := ∀ ov iv, subscripted i false ov iv = operate [ov, iv] (getItem ov iv)
theorem subD_of {prog : Program} {w : World} {A : Around} {E : Value → Shared → Prop} {s : Shared} {env : Env} {value slice : Expr} {pos : Pos} {T id : String} {Q : Value → Shared → Prop}
    (hl : typeLookup (.type T) "__getitem__" = pure (some (.builtin id))) (hs : NoSl slice)
    (h : wpAny (model prog w) A (eval value env) (fun o s₁ => wpAny (model prog w) A (eval slice env) (fun i s₂ => s₂.TypeIs o T ∧ wpAny (model prog w) A (getItem o i) Q E s₂) E s₁) E s) :
    wpAny (model prog w) A (eval (.Subscript value slice pos) env) Q E s := by
  refine Subscript_ (wpAny_mono h (fun o s₁ h₁ => wpAny_mono h₁ (fun i s₂ h₂ => ?_) fun _ _ x => x) fun _ _ x => x)
  obtain ⟨hT, h₂⟩ := h₂
  unfold subscriptTail
  refine wpAny_bind ?_
  rw [getitemInPython_of_ne hT.not_modules]
  refine wpAny_bind (wpAny_specialOf hT hl ?_)
  have fin : wpAny (model prog w) A (subscripted slice false o i) (fun r s₃ => wpAny (model prog w) A (letTemporaryGo value o r >>= fun _ => pure r) Q E s₃) E s₂ := by
    rw [hs o i]
    exact wpAny_operating (wpAny_mono h₂ (fun r s₃ h₃ => wpAny_bind (wpAny_letTemporaryGo (wpAny_pure h₃))) fun _ _ x => x)
  first
    | exact wpAny_pure (wpAny_bind fin)
    | exact wpAny_bind (wpAny_pure (wpAny_bind fin))
    | exact wpAny_bind fin

section
variable {X : Cx} {o i e value : Expr} {pos pos' tpos : Pos} {td ty tv : TE}
end


section
variable {X : Cx} {pos : Pos}
end

structure M1 (X : Cx) (o : Expr) (m : Str) (apos : Pos) (e : Expr) (cpos : Pos) : Prop where
  base : attributeBase o m X.env (eval o X.env) = eval o X.env
  few : ((backTo cpos (starEach [e] X.env)).all (fun x => !x.1) && (backToKw cpos (keywordEach [] X.env)).all (fun x => x.1.isSome)
    && decide (([e] : List Expr).length + ([] : List Keyword).length + (if ([] : List Keyword).isEmpty then 0 else 1) < 30)) = true
  line : (apos.endLine == cpos.line) = true
  trees : backTo cpos (starEach [e] X.env) = [(false, eval e X.env)]
structure M2 (X : Cx) (o : Expr) (m : Str) (apos : Pos) (e f : Expr) (cpos : Pos) : Prop where
  base : attributeBase o m X.env (eval o X.env) = eval o X.env
  few : ((backTo cpos (starEach [e, f] X.env)).all (fun x => !x.1) && (backToKw cpos (keywordEach [] X.env)).all (fun x => x.1.isSome)
    && decide (([e, f] : List Expr).length + ([] : List Keyword).length + (if ([] : List Keyword).isEmpty then 0 else 1) < 30)) = true
  line : (apos.endLine == cpos.line) = true
  trees : backTo cpos (starEach [e, f] X.env) = [(false, eval e X.env), (false, eval f X.env)]

section
variable {X : Cx} {pins : List (Addr × Obj)} {σ : St} {H : Hp} {s : Shared} {a : Addr} {y d : V} {u r : Value} {o : Option V} {A : Around} {E : Value → Shared → Prop}
end

section
variable {X : Cx} {o e f : Expr} {apos cpos : Pos} {td ty tx : TE}
end

section
variable {X : Cx} {pins : List (Addr × Obj)} {σ : St} {H : Hp} {s : Shared} {a : Addr} {kvs : List (Key × V)} {A : Around} {E : Value → Shared → Prop}
end


section
variable {X : Cx} {pins : List (Addr × Obj)} {σ : St} {H : Hp} {s : Shared} {a : Addr} {y : V} {u : Value} {A : Around} {E : Value → Shared → Prop}
end
end L2.Internal

namespace HT.Internal
open PySem PyProof.Rows

section
open PySem.SeqAt
open PySem.AutoSeq1 (wpAny_loadPart')
open PySem.MeetsSeq PySem.MeetsSeq2 PySem.MeetsSeq3

end

section
variable {prog : Program} {w : World} {A : Around} {E : Value → Shared → Prop} {s : Shared}

theorem cat_tup {t b : Addr} {vs ws : List Value} {Q : Value → Shared → Prop} (ht : IsTup s.heap t vs.toArray) (hb : IsTup s.heap b ws.toArray) (hv : vs ≠ [])
    (h1 : ws = [] → Q (.ref t) s) (h2 : ws ≠ [] → Q (.ref s.heap.objs.size) { s with heap := s.heap.push { cls := .type "tuple", data := .seq (vs ++ ws).toArray } })
    (hsz : vs.length + ws.length ≤ sizeLine) : wpAny (model prog w) A (binaryOp .Add (.ref t) (.ref b)) Q E s := by
  obtain ⟨⟨cls, dd, data, sl⟩, ho, hc, n, hd⟩ := id ht
  obtain ⟨⟨cls2, dd2, data2, sl2⟩, ho2, hc2, n2, hd2⟩ := id hb
  simp only at hc hd hc2 hd2
  subst hc hd hc2 hd2
  have e : vs.toArray ++ ws.toArray = (vs ++ ws).toArray := by simp
  by_cases hw : ws = []
  · exact concat_meets ⟨_, ho, rfl⟩ ⟨_, ho2, rfl⟩ noFill_tuple_add seq_tuple_add PySem.F.slot_tuple_add PySem.F.entry_tuple_add (PySem.F.args_tuple_add_2 _ _)
      (tuple_addW1 t b vs.toArray ws.toArray n n2 dd dd2 sl sl2 (by simpa using hv) (by simp [hw])) ⟨ho, ho2, h1 hw⟩
  · refine concat_meets ⟨_, ho, rfl⟩ ⟨_, ho2, rfl⟩ noFill_tuple_add seq_tuple_add PySem.F.slot_tuple_add PySem.F.entry_tuple_add (PySem.F.args_tuple_add_2 _ _)
      (tuple_addW2 t b vs.toArray ws.toArray n n2 dd dd2 sl sl2 (by simpa using hv) (by simpa using hw) (by rw [List.size_toArray, List.size_toArray]; exact hsz)) ⟨ho, ho2, ?_⟩
    rw [e]
    exact h2 hw

noncomputable def sIx (n d : Nat) : Option Int → Nat
  | none => d
  | some v => if v < 0 then (v + (n : Int)).toNat else min v.toNat n
theorem sIx_none (n d : Nat) : sIx n d none = d := rfl
theorem sIx_nat (n d k : Nat) : sIx n d (some (k : Int)) = min k n := by
  show (if (k : Int) < 0 then ((k : Int) + (n : Int)).toNat else min (k : Int).toNat n) = min k n
  rw [if_neg (by omega), Int.toNat_natCast]
end
end HT.Internal

namespace L2.Internal
open PySem PySem.Spec PyProof.Rows

noncomputable abbrev TO := St → Hp → (Option Int → Hp → Prop) → Prop
noncomputable def PO (X : Cx) (e : Option Expr) (t : TO) : Prop :=
  ∀ (pins : List (Addr × Obj)) (s : Shared) (σ : St) (H : Hp) (Q : Option Int → Hp → Prop), Inv X pins σ H s → t σ H Q →
    wpAny (model X.prog X.w) X.A (evalPart e X.env) (fun u s' => ∃ o H', Inv X pins σ H' s' ∧ IsPart u o ∧ Q o H') X.xe s
noncomputable def tNoPart : TO := fun _ H Q => Q none H
noncomputable def tPart (t : TE) : TO := fun σ H Q => t σ H fun x H1 => ∃ i, x = .int i ∧ Q (some i) H1

theorem intsAre_of {ns : List Int} : ∀ {us : List Value}, Vals (ns.map V.int) us → IntsAre us ns := by
  induction ns with
  | nil => intro us r; rw [List.map_nil] at r; cases r; exact .nil
  | cons n ns ih =>
    intro us r
    rw [List.map_cons] at r
    cases r with
    | cons r1 r2 =>
      obtain ⟨t, e⟩ := r1
      subst e
      exact .cons n t (ih r2)

section
variable {X : Cx} {e : Expr} {te : TE} {lo hi : Option Expr} {tl th : TO} {pos p2 : Pos}

theorem po_none : PO X none tNoPart := by
  intro pins s σ H Q I h
  rw [evalPart_none]
  exact wpAny_pure ⟨none, H, I, .none, h⟩
theorem po_some (h : PE X e te) : PO X (some e) (tPart te) := by
  intro pins s σ H Q I hw
  rw [evalPart_some]
  refine thn (h pins s σ H _ I hw) fun u s1 ⟨x, H1, I1, r1, q1⟩ => ?_
  obtain ⟨i, rfl, q⟩ := q1
  obtain ⟨t, rfl⟩ := r1
  exact ⟨some i, H1, I1, .int i t, q⟩

noncomputable def SlR (X : Cx) (r : V → Option Int → Option Int → Hp → VK → Prop) : Prop :=
  ∀ (pins : List (Addr × Obj)) (s : Shared) (σ : St) (H : Hp) (x : V) (v vl vu : Value) (lo hi : Option Int) (sl : Addr) (Q : VK), Inv X pins σ H s → RelV x v → s.heap.IsSliceOf sl vl vu .none → IsPart vl lo → IsPart vu hi → r x lo hi H Q →
    ∃ T id, typeLookup (.type T) "__getitem__" = pure (some (.builtin id)) ∧ s.TypeIs v T ∧ wpAny (model X.prog X.w) X.A (getItem v (.ref sl)) (EP X pins σ Q) X.xe s
noncomputable def tSl (r : V → Option Int → Option Int → Hp → VK → Prop) (te : TE) (tl th : TO) : TE := fun σ H Q => te σ H fun x H1 => tl σ H1 fun l H2 => th σ H2 fun u H3 => r x l u H3 Q
theorem pe_slice {r : V → Option Int → Option Int → Hp → VK → Prop} (hr : SlR X r) (he : PE X e te) (hl : PO X lo tl) (hu : PO X hi th) : PE X (.Subscript e (.Slice lo hi none p2) pos) (tSl r te tl th) := by
  intro pins s σ H Q I h
  refine Subscript_ (thn (he pins s σ H _ I h) fun v s1 ⟨x, H1, I1, r1, q1⟩ => ?_)
  refine wpAny_Slice (thn (hl pins s1 σ H1 _ I1 q1) fun vl s2 ⟨l, H2, I2, pl, q2⟩ => thn (hu pins s2 σ H2 _ I2 q2) fun vu s3 ⟨u, H3, I3, pu, q3⟩ => ?_)
  rw [evalPart_none]
  refine wpAny_pure ?_
  have I4 : Inv X pins σ H3 { s3 with heap := s3.heap.push { cls := .type "slice", data := .fields #[vl, vu, .none] } } := I3.kept (t' := s3.toks) fun b ob q => Heap.get?_push_of_some _ q
  obtain ⟨T, id, hT, ht, hg⟩ := hr pins { s3 with heap := s3.heap.push { cls := .type "slice", data := .fields #[vl, vu, .none] } } σ H3 x v vl vu l u s3.heap.objs.size Q I4 r1 (Heap.IsSliceOf.new ..) pl pu q3
  show wpAny (model X.prog X.w) X.A (subscriptTail e (.Slice lo hi none p2) v (.ref s3.heap.objs.size)) (EP X pins σ Q) X.xe { s3 with heap := s3.heap.push { cls := .type "slice", data := .fields #[vl, vu, .none] } }
  exact tail_any (ops := [.ref s3.heap.objs.size, v]) ht hT hg (by with_unfolding_all rfl)

noncomputable def cutV (xs : List V) (lo hi : Option Int) : List V := (xs.drop (HT.Internal.sIx xs.length 0 lo)).take (HT.Internal.sIx xs.length xs.length hi - HT.Internal.sIx xs.length 0 lo)
theorem cutV_length (xs : List V) (lo hi : Option Int) : (cutV xs lo hi).length ≤ xs.length := by
  unfold cutV
  rw [List.length_take, List.length_drop]
  omega
noncomputable def rCatT (K : PySem.W.Frag) : R2 := fun x y H Q => ∃ a b xs ys, x = .ref a ∧ y = .ref b ∧ SqT K H a xs ∧ SqT K H b ys ∧ xs ≠ [] ∧ xs.length + ys.length ≤ sizeLine ∧
  (ys = [] → Q (.ref a) H) ∧ (ys ≠ [] → ∀ p, H p = none → Q (.ref p) (upd H p (.tup (xs ++ ys))))
theorem Vals.nil_iff {xs : List V} {us : List Value} (r : Vals xs us) : us = [] ↔ xs = [] := by
  cases r with
  | nil => simp
  | cons _ _ => simp
theorem op_catT : OpR X (binaryOp .Add) (rCatT X.K) := by
  intro pins s σ H x y v u Q I rx ry h
  obtain ⟨a, b, xs, ys, rfl, rfl, ha, hb, hx, hz, q1, q2⟩ := h
  cases rx
  cases ry
  obtain ⟨its, r1, p1, _⟩ := I.tuple ha
  obtain ⟨its2, r2, p2, _⟩ := I.tuple hb
  refine HT.Internal.cat_tup p1 p2 (fun z => hx (r1.nil_iff.mp z)) (fun z => ⟨.ref a, H, I, rfl, q1 (r2.nil_iff.mp z)⟩) (fun z => ?_) (by rw [← r1.length, ← r2.length]; exact hz)
  refine ⟨.ref s.heap.objs.size, _, I.laid (t' := s.toks) (o := .tup (xs ++ ys)) (fun b ob q => Heap.get?_push_of_some _ q) (Nat.le_refl _) ?_, rfl, q2 (fun w => z (r2.nil_iff.mpr w)) _ (I.hok.fresh (Nat.le_refl _))⟩
  exact ⟨by rw [List.length_append]; exact hz, _, r1.append r2, Tup0.new _ _⟩
end
end L2.Internal

namespace L2.Internal
open PySem PySem.Spec PyProof.Rows

noncomputable def ixN (n : Nat) (i : Int) : Option Nat := if 0 ≤ i then (if i < n then some i.toNat else none) else if -(n : Int) ≤ i then some (i + n).toNat else none
noncomputable def atI {α : Type} (xs : List α) (i : Int) : Option α := (ixN xs.length i).bind fun j => xs[j]?
theorem ixN_seq {n : Nat} {i : Int} {j : Nat} (h : ixN n i = some j) : seqIndex? i n = some j ∧ j < n ∧ -(n : Int) ≤ i ∧ i < n := by
  unfold ixN at h
  by_cases h0 : 0 ≤ i
  · rw [if_pos h0] at h
    by_cases h1 : i < n
    · rw [if_pos h1] at h
      have e : i.toNat = j := Option.some.inj h
      exact ⟨by rw [seqIndex_of h0 h1, e], by omega, by omega, h1⟩
    · rw [if_neg h1] at h; cases h
  · rw [if_neg h0] at h
    by_cases h1 : -(n : Int) ≤ i
    · rw [if_pos h1] at h
      have e : (i + n).toNat = j := Option.some.inj h
      exact ⟨by rw [seqIndex_neg (by omega) h1, e], by omega, h1, by omega⟩
    · rw [if_neg h1] at h; cases h
theorem atI_get {α : Type} {xs : List α} {i : Int} {v : α} (h : atI xs i = some v) : ∃ j, seqIndex? i xs.length = some j ∧ xs[j]? = some v ∧ j < xs.length ∧ -(xs.length : Int) ≤ i ∧ i < xs.length := by
  unfold atI at h
  cases e : ixN xs.length i with
  | none => rw [e] at h; cases h
  | some j =>
    rw [e] at h
    obtain ⟨h1, h2, h3, h4⟩ := ixN_seq e
    exact ⟨j, h1, h, h2, h3, h4⟩
theorem atI_nat {α : Type} {xs : List α} {j : Nat} {v : α} (h : xs[j]? = some v) : atI xs (j : Int) = some v := by
  have hj : j < xs.length := (List.getElem?_eq_some_iff.mp h).1
  have e : ixN xs.length (j : Int) = some j := by
    unfold ixN
    rw [if_pos (by omega), if_pos (by omega)]; simp
  unfold atI; rw [e]; exact h
theorem atI_last {α : Type} (xs : List α) (v : α) : atI (xs ++ [v]) (-1) = some v := by
  have hl : (xs ++ [v]).length = xs.length + 1 := by simp
  have e : ixN (xs ++ [v]).length (-1) = some xs.length := by
    unfold ixN
    rw [hl, if_neg (by decide), if_pos (by omega)]
    congr 1
    omega
  unfold atI
  rw [e]
  show (xs ++ [v])[xs.length]? = some v
  simp

noncomputable def PlainIx (b : Expr) : Prop := ∀ o i, subscripted b false o i = operate [o, i] (getItem o i)
noncomputable def IxR (X : Cx) (r : R2) : Prop :=
  ∀ (value slice : Expr) (pins : List (Addr × Obj)) (s : Shared) (σ : St) (H : Hp) (x y : V) (v u : Value) (Q : VK), Inv X pins σ H s → RelV x v → RelV y u → r x y H Q →
    subscripted slice false v u = operate [v, u] (getItem v u) → wpAny (model X.prog X.w) X.A (subscriptTail value slice v u) (EP X pins σ Q) X.xe s
noncomputable def MtR (X : Cx) (id : String) (r : V → List V → Hp → VK → Prop) : Prop :=
  ∀ (pins : List (Addr × Obj)) (s : Shared) (σ : St) (H : Hp) (x : V) (xs : List V) (v : Value) (us : List Value) (Q : VK), Inv X pins σ H s → RelV x v → Vals xs us → r x xs H Q →
    wpAny (model X.prog X.w) X.A (call (.builtin id) (v :: us)) (EP X pins σ Q) X.xe s
section
variable {X : Cx} {a b : Expr} {ta tb : TE} {pos : Pos}
theorem pe_ix {r : R2} (hr : IxR X r) (ha : PE X a ta) (hb : PE X b tb) (hs : PlainIx b) : PE X (.Subscript a b pos) (tOp r ta tb) := by
  intro pins s σ H Q I h
  exact Subscript_ (binT ha hb I h fun v u s2 x y H2 I2 rx ry q => hr a b pins s2 σ H2 x y v u Q I2 rx ry q (hs _ _))

noncomputable def rIxL (K : PySem.W.Frag) : R2 := fun x y H Q => ∃ p xs i v, x = .ref p ∧ y = .int i ∧ SqL K H p xs ∧ atI xs i = some v ∧ Q v H
noncomputable def rIxS : R2 := fun x y H Q => ∃ z i c, x = .str z ∧ y = .int i ∧ z.length ≤ sizeLine ∧ atI z.cps.toList i = some c ∧ Q (.str ⟨#[c]⟩) H
theorem ix_list : IxR X (rIxL X.K) := by
  intro value slice pins s σ H x y v u Q I rx ry h hs
  obtain ⟨p, xs, i, z, rfl, rfl, hq, he, q⟩ := h
  cases rx
  obtain ⟨t, rfl⟩ := ry
  obtain ⟨its, r, pl, hz⟩ := I.list hq
  obtain ⟨j, h1, h2, h3, h4, h5⟩ := atI_get he
  obtain ⟨w, ew, rw'⟩ := r.get h2
  have hl := r.length
  have hn := line63
  have fin : EP X pins σ Q w s := ⟨z, H, I, rw', q⟩
  by_cases h0 : 0 ≤ i
  · have hj : i.toNat = j := by
      rw [seqIndex_of h0 h5] at h1
      exact Option.some.inj h1
    exact item_listR pl.isList h0 (by omega) (by rw [hj]; simpa using ew) fin hs
  · have hj : (i + (its.toArray.size : Int)).toNat = j := by
      rw [seqIndex_neg (by omega) h4] at h1
      rw [List.size_toArray, ← hl]
      exact Option.some.inj h1
    exact subscriptTail_builtinR (x := w) pl.isList.typeIs slot_list_getitem.lookup
      (wpAny_getItem_list_neg (Q := fun r s' => r = w ∧ EP X pins σ Q r s') pl.isList (by omega) (by rw [List.size_toArray] <;> omega) (by omega) (by rw [hj]; simpa using ew) ⟨rfl, fin⟩) hs
theorem ix_str : IxR X rIxS := by
  intro value slice pins s σ H x y v u Q I rx ry h hs
  obtain ⟨z, i, c, rfl, rfl, hz, he, q⟩ := h
  obtain ⟨t, rfl⟩ := rx
  obtain ⟨t', rfl⟩ := ry
  obtain ⟨j, h1, h2, h3, h4, h5⟩ := atI_get he
  have hl : z.cps.toList.length = z.length := by simp [Str.length]
  rw [hl] at h1 h4 h5
  have hn := line63
  exact tail_any (typeIs_str s z t) slot_str_getitem.lookup (getItem_str (c := c) (by
    have e1 : decide (i < -(2 ^ 63 : Int)) = false := decide_eq_false (by omega)
    have e2 : decide (i ≥ 2 ^ 63) = false := decide_eq_false (by omega)
    rw [e1, e2, Bool.or_false]) (by rw [h1]; simpa using h2) ⟨.str ⟨#[c]⟩, H, I.tok _, ⟨_, rfl⟩, q⟩) hs
theorem mapSeq_set (its : List Value) (n j : Nat) (u : Value) : Obj.mapSeq (·.setIfInBounds j u) { cls := .type "list", data := .seq its.toArray n } = { cls := .type "list", data := .seq (its.set j u).toArray n } := by
  simp [Obj.mapSeq]
theorem Inv.lst {pins : List (Addr × Obj)} {σ : St} {H : Hp} {s : Shared} {p : Addr} {xs : List V} (I : Inv X pins σ H s) (h : H p = some (.lst xs)) :
    ∃ (its : List Value) (n : Nat), Vals xs its ∧ s.heap.get? p = some { cls := .type "list", data := .seq its.toArray n } ∧ xs.length ≤ sizeLine := by
  obtain ⟨z, its, n, r, e⟩ := I.hok p _ h
  exact ⟨its, n, r, e, z⟩
theorem Inv.lstUpd {pins : List (Addr × Obj)} {σ : St} {H : Hp} {s : Shared} {p : Addr} {xs ys : List V} {its its' : List Value} {n n' : Nat} {f : Obj → Obj} (I : Inv X pins σ H s) (h : H p = some (.lst xs))
    (ho : s.heap.get? p = some { cls := .type "list", data := .seq its.toArray n }) (hf : f { cls := .type "list", data := .seq its.toArray n } = { cls := .type "list", data := .seq its'.toArray n' }) (r : Vals ys its') (hz : ys.length ≤ sizeLine) (t : Nat) :
    Inv X pins σ (upd H p (.lst ys)) { s with heap := s.heap.update p f, toks := t } := by
  have e : (s.heap.update p f).get? p = some { cls := .type "list", data := .seq its'.toArray n' } := by
    rw [Heap.get?_update_self f ho (by rw [hf] <;> rfl), hf]
  refine I.write (x := p) (e := p) (by rw [h]; trivial) (.inl rfl) (fun b u hb q => (Heap.get?_update_other _ _ (Ne.symm hb)).trans q) ⟨_, e⟩ ?_
  exact ⟨hz, its', n', r, e⟩
noncomputable def rSetL : V → V → V → Hp → (Hp → Prop) → Prop := fun o i v H Q => ∃ p xs k j, o = .ref p ∧ i = .int k ∧ H p = some (.lst xs) ∧ ixN xs.length k = some j ∧ Q (upd H p (.lst (xs.set j v)))
theorem set_list : PSet X rSetL := by
  intro pins s σ H o i v ov iv u Q I ro ri rv h
  obtain ⟨p, xs, k, j, rfl, rfl, hp, hj, q⟩ := h
  cases ro
  obtain ⟨t, rfl⟩ := ri
  obtain ⟨its, n, r, ho, hz⟩ := I.lst hp
  obtain ⟨h1, h2, h3, h4⟩ := ixN_seq hj
  have hl := r.length
  have hn := line63
  have I' : Inv X pins σ (upd H p (.lst (xs.set j v))) { s with heap := s.heap.update p (Obj.mapSeq (·.setIfInBounds j u)) } :=
    I.lstUpd hp ho (mapSeq_set its n j u) (r.set rv j) (by rw [List.length_set]; exact hz) s.toks
  by_cases h0 : 0 ≤ k
  · have hk : k.toNat = j := by
      rw [seqIndex_of h0 h4] at h1
      exact Option.some.inj h1
    exact PySem.W.ki_setAt ho h0 (by omega) (by rw [List.size_toArray, ← hl]; exact h4) (by rw [hk]; exact ⟨_, I', q⟩)
  · have hk : (k + (its.toArray.size : Int)).toNat = j := by
      rw [seqIndex_neg (by omega) h3] at h1
      rw [List.size_toArray, ← hl]
      exact Option.some.inj h1
    exact PySem.W.ki_setBack ho (by omega) (by rw [List.size_toArray, ← hl]; exact h3) (by omega) (by rw [hk]; exact ⟨_, I', q⟩)

theorem slice_bounds (lo hi : Option Int) (n : Nat) : (sliceBounds lo hi none n).1 = ((HT.Internal.sIx n 0 lo : Nat) : Int) ∧ (sliceBounds lo hi none n).2.1 = ((HT.Internal.sIx n n hi : Nat) : Int) ∧ (sliceBounds lo hi none n).2.2 = 1 := by
  refine ⟨?_, ?_, rfl⟩
  · cases lo with
    | none => simp [sliceBounds, HT.Internal.sIx]
    | some i =>
      simp only [sliceBounds, HT.Internal.sIx, Option.getD_none, show (1 : Int) > 0 by decide, if_true]
      by_cases h : i < 0
      · simp only [h, if_true] <;> omega
      · simp only [h, if_false] <;> omega
  · cases hi with
    | none => simp [sliceBounds, HT.Internal.sIx]
    | some i =>
      simp only [sliceBounds, HT.Internal.sIx, Option.getD_none, show (1 : Int) > 0 by decide, if_true]
      by_cases h : i < 0
      · simp only [h, if_true] <;> omega
      · simp only [h, if_false] <;> omega
theorem slicePick_cut (its : List Value) (lo hi : Option Int) : slicePick its.toArray lo hi none = ((its.drop (HT.Internal.sIx its.length 0 lo)).take (HT.Internal.sIx its.length its.length hi - HT.Internal.sIx its.length 0 lo)).toArray := by
  obtain ⟨h1, h2, h3⟩ := slice_bounds lo hi its.toArray.size
  unfold slicePick
  rw [h1, h2, h3]
  simp only [sliceRange_one, pick_run, List.size_toArray] <;> rfl
noncomputable def rSlL (K : PySem.W.Frag) : V → Option Int → Option Int → Hp → VK → Prop := fun x lo hi H Q => ∃ a xs, x = .ref a ∧ SqL K H a xs ∧ ∀ p, H p = none → Q (.ref p) (upd H p (.lst (cutV xs lo hi)))
theorem sl_list : SlR X (rSlL X.K) := by
  intro pins s σ H x v vl vu lo hi sl Q I rx hs pl pu h
  obtain ⟨a, xs, rfl, hx, q⟩ := h
  cases rx
  obtain ⟨its, r, ht, hz⟩ := I.list hx
  have hlen := r.length
  refine ⟨"list", _, slot_list_getitem.lookup, ht.isList.typeIs, ?_⟩
  refine wpAny_getItem_list_slice ht.isList hs pl pu .none (by simp) ?_ (by rw [List.size_toArray] <;> omega)
  rw [slicePick_cut, ← hlen]
  refine ⟨.ref s.heap.objs.size, _, I.laid (t' := s.toks) (o := .lst (cutV xs lo hi)) (fun b ob q => Heap.get?_push_of_some _ q) (Nat.le_refl _) ?_, rfl, q _ (I.hok.fresh (Nat.le_refl _))⟩
  exact ⟨Nat.le_trans (cutV_length xs lo hi) hz, _, 0, (r.drop (HT.Internal.sIx xs.length 0 lo)).take (HT.Internal.sIx xs.length xs.length hi - HT.Internal.sIx xs.length 0 lo), Heap.get?_push_size _ rfl⟩

noncomputable def flatV : V → Bool
  | .non => true
  | .bl _ => true
  | .int _ => true
  | .str _ => true
  | _ => false
noncomputable def eqV : V → V → Bool
  | .non, .non => true
  | .bl a, .bl b => a == b
  | .bl a, .int b => (if a then 1 else 0) == b
  | .int a, .bl b => a == (if b then 1 else 0)
  | .int a, .int b => a == b
  | .str a, .str b => a == b
  | _, _ => false
theorem eqAt_V {A : Around} {s : Shared} {y x : V} {u v : Value} (ry : RelV y u) (rx : RelV x v) (fy : flatV y = true) (fx : flatV x = true) : SeqAt.EqAt A s u v (eqV y x) := by
  cases y with
  | non =>
    cases ry
    cases x with
    | non => cases rx; exact SeqAt.EqAt.same _
    | bl b => cases rx; exact SeqAt.EqAt.none_bool b
    | int b => obtain ⟨t, rfl⟩ := rx; exact SeqAt.EqAt.none_int b t
    | str b => obtain ⟨t, rfl⟩ := rx; exact SeqAt.EqAt.none_str b t
    | _ => exact absurd (show false = true from fx) Bool.false_ne_true
  | bl a =>
    cases ry
    cases x with
    | non => cases rx; exact SeqAt.EqAt.bool_none a
    | bl b => cases rx; exact SeqAt.EqAt.bool_bool a b
    | int b => obtain ⟨t, rfl⟩ := rx; exact SeqAt.EqAt.bool_int a b t
    | str b => obtain ⟨t, rfl⟩ := rx; exact SeqAt.EqAt.bool_str a b t
    | _ => exact absurd (show false = true from fx) Bool.false_ne_true
  | int a =>
    obtain ⟨t', rfl⟩ := ry
    cases x with
    | non => cases rx; exact SeqAt.EqAt.int_none a t'
    | bl b => cases rx; exact SeqAt.EqAt.int_bool a t' b
    | int b => obtain ⟨t, rfl⟩ := rx; exact SeqAt.EqAt.int_int a t' b t
    | str b => obtain ⟨t, rfl⟩ := rx; exact SeqAt.EqAt.int_str a t' b t
    | _ => exact absurd (show false = true from fx) Bool.false_ne_true
  | str a =>
    obtain ⟨t', rfl⟩ := ry
    cases x with
    | non => cases rx; exact SeqAt.EqAt.str_none a t'
    | bl b => cases rx; exact SeqAt.EqAt.str_bool a t' b
    | int b => obtain ⟨t, rfl⟩ := rx; exact SeqAt.EqAt.str_int a t' b t
    | str b => obtain ⟨t, rfl⟩ := rx; exact SeqAt.EqAt.str_str a t' b t
    | _ => exact absurd (show false = true from fx) Bool.false_ne_true
  | _ => exact absurd (show false = true from fy) Bool.false_ne_true
noncomputable def eqU (x : V) (u : Value) : Bool := match u with
  | .none => eqV .non x
  | .bool b => eqV (.bl b) x
  | .int i _ => eqV (.int i) x
  | .str z _ => eqV (.str z) x
  | _ => false
theorem eqU_of {x y : V} {u : Value} (r : RelV y u) (f : flatV y = true) : eqU x u = eqV y x := by
  cases y with
  | non => cases r; rfl
  | bl b => cases r; rfl
  | int i => obtain ⟨t, rfl⟩ := r; rfl
  | str z => obtain ⟨t, rfl⟩ := r; rfl
  | _ => exact absurd (show false = true from f) Bool.false_ne_true
theorem any_eqU {x : V} : ∀ {xs : List V} {us : List Value}, Vals xs us → xs.all flatV = true → us.any (eqU x) = xs.any fun y => eqV y x
  | _, _, .nil, _ => rfl
  | y :: xs, u :: us, .cons r t, f => by
    rw [List.all_cons, Bool.and_eq_true] at f
    rw [List.any_cons, List.any_cons, eqU_of r f.1, any_eqU t f.2]
theorem mem_eqAt {A : Around} {s : Shared} {x : V} {v : Value} (rx : RelV x v) (fx : flatV x = true) : ∀ {xs : List V} {us : List Value}, Vals xs us → xs.all flatV = true → ∀ u ∈ us, SeqAt.EqAt A s u v (eqU x u)
  | _, _, .nil, _ => fun u hu => by cases hu
  | y :: xs, u :: us, .cons r t, f => fun u' hu => by
    rw [List.all_cons, Bool.and_eq_true] at f
    rcases List.mem_cons.mp hu with rfl | hu
    · rw [eqU_of r f.1]; exact eqAt_V r rx f.1 fx
    · exact mem_eqAt rx fx t f.2 u' hu
noncomputable def inV (x : V) (xs : List V) : Bool := xs.any fun y => eqV y x
noncomputable def rIn (K : PySem.W.Frag) (neg : Bool) : R2 := fun x y H Q => ∃ p xs, y = .ref p ∧ (SqL K H p xs ∨ SqT K H p xs) ∧ flatV x = true ∧ xs.all flatV = true ∧ Q (.bl (if neg then !inV x xs else inV x xs)) H
theorem op_in_seq : OpR X (compareOp .In) (rIn X.K false) := by
  intro pins s σ H x y v u Q I rx ry h
  obtain ⟨p, xs, rfl, hq, fx, fs, q⟩ := h
  cases ry
  rcases hq with hq | hq
  · obtain ⟨its, r, pl, hz⟩ := I.list hq
    refine SeqAt.in_listAt (eqU x) pl.isList (fun w hw => mem_eqAt rx fx r fs w (by simpa using hw)) ⟨.bl _, H, I, rfl, ?_⟩
    rw [show its.toArray.any (eqU x) = its.any (eqU x) by simp, any_eqU r fs]
    exact q
  · obtain ⟨its, r, pl, hz⟩ := I.tuple hq
    refine SeqAt.in_tupleAt (eqU x) pl (fun w hw => mem_eqAt rx fx r fs w (by simpa using hw)) ⟨.bl _, H, I, rfl, ?_⟩
    rw [show its.toArray.any (eqU x) = its.any (eqU x) by simp, any_eqU r fs]
    exact q
theorem op_notIn_seq : OpR X (compareOp .NotIn) (rIn X.K true) := by
  intro pins s σ H x y v u Q I rx ry h
  obtain ⟨p, xs, rfl, hq, fx, fs, q⟩ := h
  cases ry
  rcases hq with hq | hq
  · obtain ⟨its, r, pl, hz⟩ := I.list hq
    refine SeqAt.notIn_listAt (eqU x) pl.isList (fun w hw => mem_eqAt rx fx r fs w (by simpa using hw)) ⟨.bl _, H, I, rfl, ?_⟩
    rw [show its.toArray.any (eqU x) = its.any (eqU x) by simp, any_eqU r fs]
    exact q
  · obtain ⟨its, r, pl, hz⟩ := I.tuple hq
    refine SeqAt.notIn_tupleAt (eqU x) pl (fun w hw => mem_eqAt rx fx r fs w (by simpa using hw)) ⟨.bl _, H, I, rfl, ?_⟩
    rw [show its.toArray.any (eqU x) = its.any (eqU x) by simp, any_eqU r fs]
    exact q
theorem call_len_seq : CallR X (.builtin "len") (fun xs H Q => ∃ p ys, xs = [.ref p] ∧ (SqL X.K H p ys ∨ SqT X.K H p ys) ∧ Q (.int ys.length) H) := by
  intro pins s σ H xs us Q I r h
  obtain ⟨p, ys, rfl, hq, q⟩ := h
  obtain ⟨u, rfl, rx⟩ := vals1 r
  cases rx
  have hn := line63
  rcases hq with hq | hq
  · obtain ⟨its, r', pl, hz⟩ := I.list hq
    have hlen := r'.length
    exact Calls.call_len_list pl.isList (by simp only [List.size_toArray] <;> omega) ⟨.int ys.length, H, I.tok _, ⟨s.toks + 1, by rw [List.size_toArray, hlen]⟩, q⟩
  · obtain ⟨its, r', pl, hz⟩ := I.tuple hq
    have hlen := r'.length
    exact len_tuple pl (by simp only [List.size_toArray] <;> omega) ⟨.int ys.length, H, I.tok _, ⟨s.toks + 1, by rw [List.size_toArray, hlen]⟩, q⟩
theorem call_len_str : CallR X (.builtin "len") (fun xs H Q => ∃ z, xs = [.str z] ∧ z.length ≤ sizeLine ∧ Q (.int z.length) H) := by
  intro pins s σ H xs us Q I r h
  obtain ⟨z, rfl, hz, q⟩ := h
  obtain ⟨u, rfl, t, rfl⟩ := vals1 r
  have hn := line63
  exact len_str (by omega) ⟨.int z.length, H, I.tok _, ⟨_, rfl⟩, q⟩
theorem call_tuple_of : CallR X (.type "tuple") (fun xs H Q => ∃ p ys, xs = [.ref p] ∧ ((SqL X.K H p ys ∧ ∀ l, H l = none → Q (.ref l) (upd H l (.tup ys))) ∨ (SqT X.K H p ys ∧ Q (.ref p) H))) := by
  intro pins s σ H xs us Q I r h
  obtain ⟨p, ys, rfl, h⟩ := h
  obtain ⟨u, rfl, rx⟩ := vals1 r
  cases rx
  rcases h with ⟨hq, q⟩ | ⟨hq, q⟩
  · obtain ⟨its, r', pl, hz⟩ := I.list hq
    have hlen := r'.length
    refine call_tuple_list pl.isList (fun h' kp => ?_) (by simp only [List.size_toArray] <;> omega)
    have I1 : Inv X pins σ H { s with heap := h' } := I.kept (t' := s.toks) kp
    have I2 : Inv X pins σ (upd H h'.objs.size (.tup ys)) { s with heap := h'.push { cls := .type "tuple", data := .seq its.toArray } } :=
      I1.laid (t' := s.toks) (fun b o e => Heap.get?_push_of_some _ e) (Nat.le_refl _) (show ObjOk X.prog X.w _ _ _ (.tup ys) from ⟨hz, its, r', Tup0.new _ _⟩)
    exact ⟨.ref h'.objs.size, _, I2, rfl, q _ (I1.hok.fresh (Nat.le_refl _))⟩
  · obtain ⟨its, r', pl, hz⟩ := I.tuple hq
    exact call_tuple_same pl ⟨.ref p, H, I, rfl, q⟩

noncomputable def tyV (K : PySem.W.Frag) (T : String) (x : V) (H : Hp) : Prop := match x with
  | .str _ => T = "str"
  | .int _ => T = "int"
  | .ref p => (T = "list" ∧ ∃ xs, SqL K H p xs) ∨ (T = "tuple" ∧ ∃ o, K.lookup p = some o ∧ o.cls = .type "tuple" ∧ o.dict = none) ∨
      (T = "dict" ∧ ((∃ kvs, H p = some (.dK kvs)) ∨ ∃ kvs, H p = some (.dT kvs))) ∨ (T = "set" ∧ ∃ S n, H p = some (.set S n))
  | _ => False
theorem tyV_is {pins : List (Addr × Obj)} {σ : St} {H : Hp} {s : Shared} {T : String} {x : V} {v : Value} (I : Inv X pins σ H s) (r : RelV x v) (ty : tyV X.K T x H) :
    s.TypeIs v T ∧ ∀ a, v = .ref a → ∃ ob, s.heap.get? a = some ob ∧ ob.dict = none := by
  cases x with
  | str z =>
    obtain ⟨t, rfl⟩ := r
    cases (show T = "str" from ty)
    exact ⟨typeIs_str s z t, fun _ e => nomatch e⟩
  | int i =>
    obtain ⟨t, rfl⟩ := r
    cases (show T = "int" from ty)
    exact ⟨typeIs_int s i t, fun _ e => nomatch e⟩
  | ref p =>
    cases r
    rcases ty with ⟨rfl, xs, hq⟩ | ⟨rfl, o, hk, hc, hd⟩ | ⟨rfl, hk⟩ | ⟨rfl, S, n, hk⟩
    · obtain ⟨its, _, pl, _⟩ := I.list hq
      refine ⟨pl.isList.typeIs, fun a e => ?_⟩
      cases e
      obtain ⟨o, n, e, c, hd, _⟩ := pl
      exact ⟨o, e, hd⟩
    · refine ⟨⟨o, I.kIn p o hk, hc⟩, fun a e => ?_⟩
      cases e
      exact ⟨o, I.kIn _ o hk, hd⟩
    · have z : ∃ o, s.heap.get? p = some o ∧ o.ExactDict := by
        rcases hk with ⟨kvs, hk⟩ | ⟨kvs, hk⟩
        · obtain ⟨_, _, _, _, o, _, _, e, ex, _⟩ := I.hok p _ hk
          exact ⟨o, e, ex⟩
        · obtain ⟨_, _, _, _, o, _, _, e, ex, _⟩ := I.hok p _ hk
          exact ⟨o, e, ex⟩
      obtain ⟨o, e, ex⟩ := z
      refine ⟨⟨o, e, ex.1⟩, fun a e2 => ?_⟩
      cases e2
      exact ⟨o, e, ex.2.1⟩
    · obtain ⟨o, _, _, _, e, ex, _⟩ := I.hok p _ hk
      refine ⟨⟨o, e, ex.1⟩, fun a e2 => ?_⟩
      cases e2
      exact ⟨o, e, ex.2.1⟩
  | _ => exact False.elim ty
noncomputable def tBM0 (K : PySem.W.Frag) (T : String) (r : V → List V → Hp → VK → Prop) (to : TE) : TE := fun σ H Q => to σ H fun x H1 => tyV K T x H1 ∧ r x [] H1 Q
noncomputable def tBM (K : PySem.W.Frag) (T : String) (r : V → List V → Hp → VK → Prop) (to : TE) (t : TA) : TE := fun σ H Q => to σ H fun x H1 => tyV K T x H1 ∧ t σ H1 fun xs H2 => r x xs H2 Q
variable {o e : Expr} {es : List Expr} {to : TE} {t : TA} {name : Str} {apos cpos : Pos} {T id : String} {r : V → List V → Hp → VK → Prop}
theorem pe_bm0 (pa : PlainAttrs T) (slot : Slot T name id) (hty : typeOf (.builtin id) = pure (.type "method_descriptor")) (hm : MtR X id r) (ho : PE X o to)
    (hbase : autoParam (attributeBase o name X.env (eval o X.env) = eval o X.env) L2.Internal.auR._auto_1) (hline : autoParam ((apos.endLine == cpos.line) = true) L2.Internal.auR._auto_1) : PE X (.Call (.Attribute o name apos) [] [] cpos) (tBM0 X.K T r to) := by
  intro pins s σ H Q I h
  refine wpAny_Call_method0_late hbase hline (thn (ho pins s σ H _ I h) fun v s1 ⟨x, H1, I1, r1, ty, q1⟩ => ?_)
  obtain ⟨h1, h2⟩ := tyV_is I1 r1 ty
  exact ⟨T, id, pa, slot, hty, h1, h2, Calls.callWith_builtin rfl (PySem.evalArgs_none (hm pins s1 σ H1 x [] v [] Q I1 r1 .nil q1))⟩
theorem pe_bm (pa : PlainAttrs T) (slot : Slot T name id) (hty : typeOf (.builtin id) = pure (.type "method_descriptor")) (hm : MtR X id r) (ho : PE X o to) (ha : PA X (e :: es) t)
    (hbase : autoParam (attributeBase o name X.env (eval o X.env) = eval o X.env) L2.Internal.auR._auto_1)
    (hfew : ((backTo cpos (starEach (e :: es) X.env)).all (fun x => !x.1) && (backToKw cpos (keywordEach [] X.env)).all (fun x => x.1.isSome)
      && decide ((e :: es).length + ([] : List Keyword).length + (if ([] : List Keyword).isEmpty then 0 else 1) < 30)) = true := by rfl)
    (hline : autoParam ((apos.endLine == cpos.line) = true) L2.Internal.auR._auto_1) (hs : autoParam (starEach (e :: es) X.env = (false, eval e X.env) :: starEach es X.env) L2.Internal.auR._auto_1) (hplain : autoParam ((backTo cpos (starEach es X.env)).any (·.1) = false) L2.Internal.auR._auto_1) :
    PE X (.Call (.Attribute o name apos) (e :: es) [] cpos) (tBM X.K T r to t) := by
  intro pins s σ H Q I h
  refine wpAny_Call_method_late hbase hfew hline rfl (thn (ho pins s σ H _ I h) fun v s1 ⟨x, H1, I1, r1, ty, q1⟩ => ?_)
  obtain ⟨h1, h2⟩ := tyV_is I1 r1 ty
  refine ⟨T, id, pa, slot, hty, h1, h2, ?_⟩
  have hA := ha cpos pins s1 σ H1 _ I1 q1
  rw [hs] at hA ⊢
  refine Calls.callWith_builtin (by show (false || (backTo cpos (starEach es X.env)).any (·.1)) = false; rw [hplain] <;> rfl) (Calls.evalArgs_plain ?_)
  exact thn hA fun us s2 ⟨vs, H2, I2, r2, q2⟩ => hm pins s2 σ H2 x vs v us Q I2 r1 r2 q2
/- xs.append(e), list.index on a module's tuple .. are MtR facts of 06m -/
end
end L2.Internal

namespace L2.Internal
open PySem PySem.Spec PyProof.Rows

noncomputable def MtM (X : Cx) (id : String) (r : V → List V → Hp → VK → Prop) : Prop :=
  ∀ (pins : List (Addr × Obj)) (s : Shared) (σ : St) (H : Hp) (x : V) (xs : List V) (v : Value) (us : List Value) (Q : VK), Inv X pins σ H s → RelV x v → Vals xs us → r x xs H Q →
    wpAny (model X.prog X.w) X.A (call (.builtin id) (v :: us)) (EP X pins σ Q) X.xe s

theorem Vals.one : ∀ {x : V} {us : List Value}, Vals [x] us → ∃ u, us = [u] ∧ RelV x u
  | _, _, .cons r .nil => ⟨_, rfl, r⟩
theorem Vals.zero : ∀ {us : List Value}, Vals [] us → us = []
  | _, .nil => rfl
theorem Vals.dropLast {xs : List V} {us : List Value} (h : Vals xs us) : Vals xs.dropLast us.dropLast := by
  induction h with
  | nil => exact .nil
  | cons r t ih =>
    cases t with
    | nil => exact .nil
    | cons q t' => exact .cons r ih
theorem erase_last {α : Type} (l : List α) : l.eraseIdx (l.length - 1) = l.dropLast := by
  induction l with
  | nil => rfl
  | cons a r ih =>
    cases r with
    | nil => rfl
    | cons b r =>
      have e : (a :: b :: r).length - 1 = ((b :: r).length - 1) + 1 := by
        have h1 : (a :: b :: r).length = r.length + 2 := rfl
        have h2 : (b :: r).length = r.length + 1 := rfl
        omega
      rw [e, List.eraseIdx_cons_succ, ih]
      all_goals rfl
section
variable {X : Cx} {pins : List (Addr × Obj)} {σ : St} {H : Hp} {s : Shared} {l b : Addr} {xs ys zs : List V}

theorem Inv.lset {its its' : List Value} {n : Nat} {f : Array Value → Array Value} {t' : Nat} (I : Inv X pins σ H s) (hH : H l = some (.lst xs))
    (e : s.heap.get? l = some { cls := .type "list", data := .seq its.toArray n }) (hf : f its.toArray = its'.toArray) (hv : Vals ys its') (hz : ys.length ≤ sizeLine) :
    Inv X pins σ (upd H l (.lst ys)) { s with heap := s.heap.update l (Obj.mapSeq f), toks := t' } := by
  have q := PySem.IsL.update e f
  rw [hf] at q
  refine I.write (x := l) (e := l) (by rw [hH]; exact trivial) (.inl rfl) (fun b' u hb hu => (Heap.get?_update_other s.heap (Obj.mapSeq f) (Ne.symm hb)).trans hu) ⟨_, q⟩ ?_
  exact ⟨hz, its', _, hv, q⟩
theorem Inv.lnew {its : List Value} {t' : Nat} (I : Inv X pins σ H s) (hv : Vals ys its) (hz : ys.length ≤ sizeLine) :
    Inv X pins σ (upd H s.heap.objs.size (.lst ys)) { s with heap := s.heap.push { cls := .type "list", data := .seq its.toArray }, toks := t' } :=
  I.laid (fun _ _ q => Heap.get?_push_of_some _ q) (Nat.le_refl _) ⟨hz, its, 0, hv, Heap.get?_push_size _ rfl⟩
theorem Inv.fresh (I : Inv X pins σ H s) : H s.heap.objs.size = none := I.hok.fresh (Nat.le_refl _)
theorem Inv.lstM (I : Inv X pins σ H s) (hH : H l = some (.lst xs)) : xs.length ≤ sizeLine ∧ ∃ (its : List Value) (n : Nat), Vals xs its ∧ xs.length = its.length ∧ s.heap.get? l = some { cls := .type "list", data := .seq its.toArray n } := by
  obtain ⟨z, its, n, r, e⟩ := I.hok l _ hH
  exact ⟨z, its, n, r, r.length, e⟩

end

section
variable {X : Cx}

noncomputable def rAppend : V → List V → Hp → VK → Prop := fun x vs H Q => ∃ l xs y, x = .ref l ∧ vs = [y] ∧ H l = some (.lst xs) ∧ xs.length < sizeLine ∧ Q .non (upd H l (.lst (xs ++ [y])))
theorem mt_append : MtM X "list.append" rAppend := by
  intro pins s σ H x vs v us Q I rx rv h
  obtain ⟨l, xs, y, rfl, rfl, hH, hz, q⟩ := h
  cases rx
  obtain ⟨u, rfl, ru⟩ := rv.one
  obtain ⟨z, its, n, r, hl, e⟩ := I.lstM hH
  refine call_meets F.slot_list_append ⟨_, e, rfl⟩ F.entry_list_append (F.args_list_append_2 _ _) (PySem.list_append l its.toArray n u (by rw [List.size_toArray]; omega)) ⟨e, ?_⟩
  refine ⟨.non, _, I.lset (its' := its ++ [u]) hH e (by simp) (r.append (.cons ru .nil)) ?_, rfl, q⟩
  rw [List.length_append, List.length_singleton]
  omega

noncomputable def rPop : V → List V → Hp → VK → Prop := fun x vs H Q => ∃ l xs y, x = .ref l ∧ vs = [] ∧ H l = some (.lst xs) ∧ xs[xs.length - 1]? = some y ∧ Q y (upd H l (.lst xs.dropLast))
theorem mt_pop : MtM X "list.pop" rPop := by
  intro pins s σ H x vs v us Q I rx rv h
  obtain ⟨l, xs, y, rfl, rfl, hH, hy, q⟩ := h
  cases rx
  have hus := rv.zero
  subst hus
  obtain ⟨z, its, n, r, hl, e⟩ := I.lstM hH
  obtain ⟨u, hu, ru⟩ := r.get hy
  have hy' : its.toArray[its.toArray.size - 1]? = some u := by
    show its.toArray[its.length - 1]? = some u
    rw [← Array.getElem?_toList, ← hl]
    exact hu
  refine call_meets F.slot_list_pop ⟨_, e, rfl⟩ F.entry_list_pop (F.args_list_pop_1 _) (MeetsSeq.list_pop_last l its.toArray n u hy' (by rw [List.size_toArray]; omega)) ⟨e, ?_⟩
  refine ⟨y, _, I.lset (its' := its.dropLast) hH e ?_ r.dropLast ?_, ru, q⟩
  · show its.toArray.eraseIdxIfInBounds (its.toArray.size - 1) = its.dropLast.toArray
    rw [List.size_toArray, List.eraseIdxIfInBounds_toArray, erase_last]
  · rw [List.length_dropLast]
    omega

noncomputable def rCat : R2 := fun x y H Q => ∃ l b xs zs, x = .ref l ∧ y = .ref b ∧ H l = some (.lst xs) ∧ H b = some (.lst zs) ∧ xs.length + zs.length ≤ sizeLine ∧ ∀ p, H p = none → Q (.ref p) (upd H p (.lst (xs ++ zs)))
theorem op_cat : OpR X (binaryOp .Add) rCat := by
  intro pins s σ H x y v u Q I rx ry h
  obtain ⟨l, b, xs, zs, rfl, rfl, hH, hB, hz, q⟩ := h
  cases rx
  cases ry
  obtain ⟨z, its, n, r, hl, e⟩ := I.lstM hH
  obtain ⟨z2, its2, n2, r2, hl2, e2⟩ := I.lstM hB
  refine PySem.P.add_list e e2 ?_ (by rw [List.size_toArray, List.size_toArray]; omega)
  have ea : its.toArray ++ its2.toArray = (its ++ its2).toArray := by simp
  rw [ea]
  exact ⟨.ref _, _, I.lnew (t' := s.toks) (r.append r2) (by rw [List.length_append]; omega), rfl, q _ I.fresh⟩
end

section
variable {prog : Program} {w : World} {A : Around} {E : Value → Shared → Prop} {s : Shared}
set_option maxRecDepth 100000 in
end

section
variable {X : Cx}
end
end L2.Internal

namespace Att.Internal
open PySem PySem.W PySem.Calls PyProof.Rows

theorem ints_of_wellAll {P : Params} {h : Heap} : ∀ (ns : List Int) (vs : List Value), WellAll P h vs (ns.map WData.int) → IntsAre vs ns := by
  intro ns
  induction ns with
  | nil =>
    intro vs w
    rw [List.map_nil] at w
    cases w
    exact .nil
  | cons n ns ih =>
    intro vs w
    rw [List.map_cons] at w
    cases w with
    | cons a b =>
      cases a
      exact .cons _ _ (ih _ b)

theorem script_of {l : OpenLaw} {n : Nat} (hn : l.most = some n) {P : Params} {h : Heap} {args : List WData} {vals : List Value}
    (hpre : l.row.toRowW.claim.pre args = true) (hwl : WellAll P h vals args) :
    ∃ a vs ns, vals = [Value.ref a] ∧ args = [WData.list (ns.map WData.int)] ∧ h.get? a = some { cls := .type "list", data := .seq vs.toArray } ∧ IntsAre vs ns ∧ ns.length ≤ n := by
  have hsh : WShape.hasAll [] args [.list .int] = true := (pre_splitW hpre).1
  have hc : l.pre.holds [] { args := args } = true := (pre_splitW hpre).2
  obtain ⟨d, r, rfl, h1, h2⟩ := hasAllW_cons hsh
  obtain rfl := hasAllW_nil h2
  obtain ⟨xs, rfl, h3⟩ := hasW_list h1
  obtain ⟨ns, rfl⟩ := items_int h3
  have hlen : ns.length ≤ n := by
    unfold OpenLaw.pre at hc
    have h4 : (WTm.not (.lt (.lit (.int (n : Int))) (.len (.arg 0)))).holds [] { args := [.list (ns.map .int)] } = true := by
      have h4 := (holds_andW hc).1
      rw [hn] at h4
      exact h4
    have h5 := condW_of h4 (w_not (w_lt w_lit (w_len_list (w_arg rfl))))
    rw [List.length_map] at h5
    refine Nat.le_of_not_lt fun q => ?_
    have q' : (n : Int) < ((ns.length : Nat) : Int) := by omega
    first
      | (rw [decide_eq_true q'] at h5; exact absurd h5 (by decide))
      | (simp at h5; omega)
  cases hwl with
  | cons w1 w2 =>
    cases w2
    cases w1 with
    | list ho hall => exact ⟨_, _, ns, rfl, rfl, ho, ints_of_wellAll ns _ hall, hlen⟩

theorem post_true (l : OpenLaw) (args : List WData) : l.row.toRowW.claim.post args (.bool true) args = true :=
  postW_of (r := l.row.toRowW) (X := (true == true))
    (show WShape.has [] (.bool true) .bool = true by first | rfl | decide | simp [WShape.has, WShape.arms, WShape.armsAll])
    (show (WTm.eq .res (.lit (.bool true))).value [] { args := args, res := some (.bool true), after := args } = some (.bool (true == true)) from w_eq_bool (w_res rfl) w_lit) rfl

theorem attach_call {l : OpenLaw} {n : Nat} {q : Program} {loose : List Str} {XP : (Str → Option Value) → Heap → Prop} {YP : World → Heap → Prop} {d : DefRec}
    (hn : l.most = some n) (hdf : d.params.defaults = [])
    (call : ∀ (w : World) (s₀ s₁ : Shared) (mg mb : Str → Option Value) (fa : Addr) (o : Obj) (pm cd doc : Value) (a : Addr) (vs : List Value) (ns : List Int),
      Ground q loose [] XP w s₀ mg mb s₁.heap → YP w s₁.heap →
      s₁.heap.get? fa = some o → o.data = .func (docDef d.name d.params d.body d.scope pm cd doc) → s₁.heap.CodeRec cd d.name → mg d.name = some (.ref fa) →
      s₁.heap.get? a = some { cls := .type "list", data := .seq vs.toArray } → IntsAre vs ns → ns.length ≤ n → s₁.gens = #[] →
      codeAny (model l.prog w) callerA (.call (.ref fa) ⟨[.ref a], []⟩) (fun r s' => r = .ok (.ret (.bool true)) ∧ OldK s₁.heap s'.heap ∧ s'.os = s₁.os ∧ AllBare s'.gens) s₁) :
    WalkO q loose XP YP l.row.toRowW d [] (fun f vs => PySem.call f vs) := by
  intro w s₀ s₁ mg mb G Y fa o pm cd doc dV kV ho hd hcd hD hmg hg args vals as hpre hlay hrd hwl hlo
  obtain rfl : dV = .none := Dflts.none hD hdf
  obtain rfl : kV = .none := Dflts.noKw hD
  obtain ⟨a, vs, ns, rfl, rfl, hobj, hints, hlen⟩ := script_of hn hpre hwl
  refine enter_call (codeAny_mono (call w s₀ s₁ mg mb fa o pm cd doc a vs ns G Y ho (fd_plain hd) hcd hmg hobj hints hlen hg) fun r s' hq => ?_)
  obtain ⟨rfl, h2, h3, h4⟩ := hq
  exact ⟨.inl ⟨.bool true, .bool true, [], rfl, fun _ => rfl, .bool true, post_true l _, fun _ => ⟨List.Pairwise.nil, fun _ hm => (nomatch hm)⟩⟩, h2, h3, h4⟩

section
variable {prog : Program} {w : World} {A : Around} {E : Value → Shared → Prop} {s : Shared} {K : Frag}

end
end Att.Internal

namespace L2.Internal
open PySem PySem.Spec PyProof.Rows

theorem vals_ints : ∀ {vs : List Value} {ns : List Int}, IntsAre vs ns → Vals (ns.map V.int) vs
  | _, _, .nil => .nil
  | _, _, .cons n t h => .cons ⟨t, rfl⟩ (vals_ints h)

noncomputable def Only (H : Hp) : Prop := ∀ b, H b = none ∨ ∃ o xs, H b = some (.frz o (.lst xs))

theorem law_call {P : Program} {w : World} {K : PySem.W.Frag} {mg mb : Str → Option Value} {CX : CXT} {k : Nat} {fa a : Addr} {fd : FuncData} {x : Str} {sp : Sp} {s₁ : Shared} {vs : List Value} {ns : List Int}
    (KX : K.In s₁.heap) (hns : s₁.heap.Ns mainGlobals mg) (hb : s₁.heap.Ns builtinsNs mb) (hbb : ∀ x : Str, x ≠ "__name__" → mb x = bootBuiltins x) (hlim : s₁.heap.NoLimit) (hg : s₁.gens = #[])
    (ha : s₁.heap.get? a = some { cls := .type "list", data := .seq vs.toArray }) (hi : IntsAre vs ns) (hl : ns.length ≤ sizeLine) (hr : Room k callerA)
    (F : ∀ base : Heap, K.In base → base.Ns mainGlobals mg → FnOk P w K mg base CX k fa fd [x] sp) (hbind : ∀ (s : Shared) (u : Value), BindsTo s fd ⟨[u], []⟩ [(x, u)])
    (hsp : ∀ H : Hp, Only H → SqL K H a (ns.map V.int) → sp [.ref a] H (fun v _ => v = .bl true) fun _ _ _ => False)
    (hCX : ∀ H e s', CX [] H s₁ (fun _ _ _ => False) e s' → False) :
    codeAny (model P w) callerA (.call (.ref fa) ⟨[.ref a], []⟩) (fun r s' => r = .ok (.ret (.bool true)) ∧ OldK s₁.heap s'.heap ∧ s'.os = s₁.os ∧ AllBare s'.gens) s₁ := by
  have rv := vals_ints hi
  have lenV := hi.length
  -- from an abstract heap in which nothing but the script may be tracked
  have core : ∀ H : Hp, Only H → SqL K H a (ns.map V.int) → HOk P w H s₁.heap → (∀ b, H b ≠ none → b = a) → (H a ≠ none → K.lookup a = none) →
      codeAny (model P w) callerA (.call (.ref fa) ⟨[.ref a], []⟩) (fun r s' => r = .ok (.ret (.bool true)) ∧ OldK s₁.heap s'.heap ∧ s'.os = s₁.os ∧ AllBare s'.gens) s₁ := by
    intro H hO hS hok hA hK
    have base_of : ∀ {b : Addr} {o : Obj}, s₁.heap.get? b = some o → H b = none → (hidT s₁.heap H).get? b = some o := fun e n => hidT_get e n
    have noA : ∀ {b : Addr} {o : Obj} {es : Array DictEntry} {ep : Nat}, s₁.heap.get? b = some o → o.data = .dict es ep → H b = none := fun {b o es ep} e d => by
      cases q : H b with
      | none => rfl
      | some u =>
        have e' : b = a := hA b (by rw [q]; simp)
        subst e'
        rw [ha] at e; cases e
        have d' : Data.seq vs.toArray _ = Data.dict es ep := d
        cases d'
    have nsK : ∀ {b : Addr} {m : Str → Option Value}, s₁.heap.Ns b m → (hidT s₁.heap H).Ns b m := fun {b m} ⟨o, es, ep, e, d, r⟩ => ⟨o, es, ep, base_of e (noA e d), d, r⟩
    have hKb : K.In (hidT s₁.heap H) := fun b o e => base_of (KX b o e) (by
      cases q : H b with
      | none => rfl
      | some u =>
        have e' : b = a := hA b (by rw [q]; simp)
        subst e'
        rw [hK (by rw [q]; simp)] at e; cases e)
    have hM : Mod K mg (hidT s₁.heap H) := ⟨hKb, nsK hns, ⟨mb, nsK hb, hbb⟩, let ⟨mc, h1, h2⟩ := hlim; ⟨mc, nsK h1, h2⟩⟩
    have e0 : Env0 P w K mg (hidT s₁.heap H) callerA [] s₁ H := ⟨rfl, hM, fun b o e => of_hidT e, Nat.le_of_eq (hidT_size _ _), trivial, fun b hb => absurd (show b ∈ ([] : List Addr) from hb) (by simp), hok, .of_eq hg⟩
    refine codeAny_mono ((F _ hKb (nsK hns)).run callerA [] s₁ H ⟨[.ref a], []⟩ [.ref a] [.ref a] _ _ hr e0 (hbind s₁ (.ref a)) (.cons rfl .nil) (hsp H hO hS)) fun r s' h => ?_
    cases r with
    | error e => exact (hCX H e s' h).elim
    | ok fl =>
      cases fl with
      | next => exact False.elim h
      | brk => exact False.elim h
      | cont => exact False.elim h
      | ret u =>
        obtain ⟨v, H', os, bare, un, hok', r', q⟩ := h
        have q' : v = .bl true := q
        subst q'
        obtain rfl : u = Value.bool true := r'
        refine ⟨rfl, OldK.of_keep fun b o e => ?_, os, bare⟩
        cases q : H b with
        | none => exact un.keep b o e q (by intro z; exact absurd (show b ∈ ([] : List Addr) from z) (by simp)) (by simp)
        | some u =>
          rcases hO b with z | ⟨ob, xs, z⟩
          · rw [q] at z; cases z
          · have z2 := un.frzs b ob _ z
            obtain ⟨e1, _⟩ := hok b _ z
            obtain ⟨e2, _⟩ := hok' b _ z2
            rw [e] at e1; cases e1
            exact e2
  cases hk : K.lookup a with
  | some o =>
    -- the script is one of the module's own objects
    have e := KX a o hk
    rw [ha] at e
    cases e
    refine core (fun _ => none) (fun _ => .inl rfl) (.inr ⟨_, vs.toArray, _, hk, rfl, rfl, rfl, by rw [List.size_toArray, lenV]; exact hl, by simpa using rv⟩) (fun b u z => by have z' : (none : Option HO) = some u := z; cases z') (fun b z => absurd rfl z) fun z => absurd rfl z
  | none =>
    refine core (fun b => if b = a then some (.frz { cls := .type "list", data := .seq vs.toArray } (.lst (ns.map V.int))) else none) (fun b => ?_) (.inl (.inr ⟨{ cls := .type "list", data := .seq vs.toArray }, if_pos rfl⟩)) (fun b u z => ?_) (fun b z => ?_) fun _ => hk
    · by_cases hb : b = a
      · exact .inr ⟨_, _, if_pos hb⟩
      · exact .inl (if_neg hb)
    · by_cases hb : b = a
      · have z' := (if_pos hb).symm.trans z
        cases z'
        subst hb
        exact ⟨ha, by rw [List.length_map]; exact hl, vs, _, rv, ha⟩
      · have z' := (if_neg hb).symm.trans z
        cases z'
    · by_cases hb : b = a
      · exact hb
      · exact absurd (if_neg hb) z
end L2.Internal

namespace L2.Internal
open PySem PySem.Spec PyProof.Rows

theorem walk_of {l : PySem.W.OpenLaw} {n k : Nat} {q : Program} {loose : List Str} {XP : (Str → Option Value) → Heap → Prop} {YP : World → Heap → Prop} {d : DefRec} {K : Params → PySem.W.Frag} {CX : World → CXT} {sp : World → Sp} {x : Str}
    (hn : l.most = some n) (hn2 : n ≤ sizeLine) (hdf : d.params.defaults = []) (hr : Room k callerA)
    (hY : ∀ (w : World) (h : Heap), YP w h → (K w.params).In h)
    (F : ∀ (w : World) (mg : Str → Option Value) (fa : Addr) (h : Heap), (K w.params).In h → h.Ns mainGlobals mg → mg d.name = some (.ref fa) →
      ∃ fd : FuncData, (∀ (s : Shared) (u : Value), BindsTo s fd ⟨[u], []⟩ [(x, u)]) ∧
        ∀ base : Heap, (K w.params).In base → base.Ns mainGlobals mg → FnOk l.prog w (K w.params) mg base (CX w) k fa fd [x] (sp w))
    (hsp : ∀ (w : World) (H : Hp) (a : Addr) (ns : List Int), ns.length ≤ n → Only H → SqL (K w.params) H a (ns.map V.int) → sp w [.ref a] H (fun v _ => v = .bl true) fun _ _ _ => False)
    (hCX : ∀ (w : World) (H : Hp) (s : Shared) (e : Value) (s' : Shared), CX w [] H s (fun _ _ _ => False) e s' → False) :
    PySem.W.WalkO q loose XP YP l.row.toRowW d [] (fun f vs => PySem.call f vs) := by
  refine Att.Internal.attach_call hn hdf fun w s₀ s₁ mg mb fa o pm cd doc a vs ns G Y ho hd hcd hmg hobj hints hlen hg => ?_
  have KX := hY w _ Y
  obtain ⟨fd, hb, hF⟩ := F w mg fa _ KX G.T.g hmg
  exact law_call KX G.T.g G.T.b G.T.builtins G.T.nolimit hg hobj hints (Nat.le_trans hlen hn2) hr hF hb (fun H hO hS => hsp w H a ns hlen hO hS) fun H e s' => hCX w H s₁ e s'
end L2.Internal

/- THE LAST THEOREM (shape; LID, My.* are yours):
   My.Adr: a structure of the addresses that your layer names (classes, functions); My.Txt K t: a structure (Prop) of the equations over K;
   My.txt_mk : {K} {implicit addresses ..} (e1 : nsIn K mainGlobals "law" = some (some (.ref f))) (e2 : K.lookup f = some ⟨oc, od, .func (fnOf "law" "law" params body scope dV kV doc pm an cdv ct), sl⟩) (e3 : codeIn K cdv "law" = true) .. : ∃ t, My.Txt K t

set_option maxRecDepth 100000 in
set_option maxHeartbeats 0 in
theorem PySem.Challenge.cw_LID_holds : PySem.Challenge.rw_LID.Holds := by
  w_on; o_law; k_head; (case hw => w_witness2)
  k_fill
  refine L2.Internal.walk_of (l := PySem.Challenge.rw_LID) (n := 63) (k := 40) (x := "script") (CX := fun w => ..) (sp := fun _ => My.sp_law) rfl (by decide) rfl ⟨rfl, by decide, by decide⟩ (fun w h Y => PySem.W.kIn_of Y) ?F ?S ?C
  case F =>
    intro w mg fa h KX G hmg
    have T : ∃ t, My.Txt (L2.Internal.KOf KX) t := by
      dsimp only [L2.Internal.KOf]                          -- K must stand as «<heap const> w.params» for k_is
      refine' My.txt_mk ?e1 ?e2 ?e3 ..
      (case e1 => PySem.W.k_is)                    -- in the order: a name -> its address -> its object -> its parts
      (case e2 => PySem.W.k_is)
      ..
    obtain ⟨t, T⟩ := T
    have e0 := hmg.symm.trans (PySem.W.mg_of KX G T.law)
    cases e0                                       -- fa is the law's own address
    exact ⟨_, fun s u => .of_eq rfl, fun base kb nb => My.law_fn T kb nb⟩     -- if «.of_eq rfl» comes too early: refine' ⟨_, ?b, fun base kb nb => My.law_fn T kb nb⟩; exact fun s u => .of_eq rfl
  case S => exact fun w H a ns hl hO hS => ..
  case C => exact ..
(the tactic k_is has no namespace: write k_is) -/

namespace L2.Internal
open PySem PySem.Spec PyProof.Rows

noncomputable def inClass (s : Stmt) (j : Nat) : Stmt := match s with
  | .ClassDef _ _ _ body _ _ _ _ _ _ _ => body.getD j (.Pass ⟨0, 0, 0, 0⟩)
  | _ => .Pass ⟨0, 0, 0, 0⟩
noncomputable def defArgs (s : Stmt) : Arguments := match s with
  | .FunctionDef _ a _ _ _ _ _ _ _ _ => a
  | _ => { posonlyargs := [], args := [], vararg := none, kwonlyargs := [], kw_defaults := [], kwarg := none, defaults := [] }
noncomputable def defBody (s : Stmt) : List Stmt := match s with
  | .FunctionDef _ _ b _ _ _ _ _ _ _ => b
  | _ => []
noncomputable def defScope (s : Stmt) : Scope := match s with
  | .FunctionDef _ _ _ _ _ _ sc _ _ _ => sc
  | _ => { kind := .function, names := [], isGenerator := false, isCoroutine := false }

noncomputable abbrev CX0 : CXT := fun _ _ _ _ _ _ => False
noncomputable abbrev E0 : XK := fun _ _ _ => False
theorem pass0 {X : Cx} : Passes CX0 X E0 := fun _ _ _ _ _ _ _ h => h.elim

structure Fun (K : PySem.W.Frag) (x qual : Str) (st : Stmt) (f : Addr) (fd : FuncData) : Prop where
  ex : ∃ (oc : Value) (od : Option Addr) (kV doc pm : Value) (an : Option Addr) (cdv ct : Value) (osl : Array (Option Value)),
    fd = PySem.W.fnOf x qual (defArgs st) (defBody st) (defScope st) .none kV doc pm an cdv ct ∧ K.lookup f = some ⟨oc, od, .func fd, osl⟩ ∧ PySem.W.codeIn K cdv qual = true
  kp : PySem.W.keepIn K (.ref f) = true
section
variable {P : Program} {w : World} {K : PySem.W.Frag} {mg : Str → Option Value} {base : Heap}
theorem Fun.ok {x qual : Str} {st : Stmt} {f : Addr} {fd : FuncData} {N ps : List Str} {k : Nat} {sp : Sp} (F : Fun K x qual st f fd) (S : FnScope N ps (defScope st)) (len : ∀ vs H Q E, sp vs H Q E → vs.length = ps.length)
    (hbody : ∀ (cdv : Value) (A : Around) (outer : List Env) (s : Shared) (H : Hp) (vs : List V) (Q : VK) (E : XK), Room k (A.deeper (envOfC qual (defScope st) s.heap.objs.size f cdv)) → sp vs H Q E →
      ∃ t, PSs (cxOf CX0 P w K mg base N qual (defScope st) f cdv A outer s H E).nox (defBody st) t ∧ t { nx := fun _ H' => Q .non H', rt := Q } (start N vs) H) : FnOk P w K mg base CX0 (k + 1) f fd ps sp := by
  obtain ⟨oc, od, kV, doc, pm, an, cdv, ct, osl, rfl, lk, hcd⟩ := F.ex
  refine fn_of lk hcd S len fun A outer s H vs Q E hr hsp => ?_
  obtain ⟨t, h, q⟩ := hbody cdv A outer s H vs Q E hr hsp
  exact ⟨t, h.nox, q⟩
theorem Fun.binds {x qual : Str} {st : Stmt} {f : Addr} {fd : FuncData} {ps : List Str} (F : Fun K x qual st f fd)
    (h : ∀ (kV doc pm : Value) (an : Option Addr) (cdv ct : Value) (us : List Value), us.length = ps.length → bindArgs (PySem.W.fnOf x qual (defArgs st) (defBody st) (defScope st) .none kV doc pm an cdv ct) ⟨us, []⟩ = pure (ps.zip us)) : Binds K fd ps [] := by
  obtain ⟨oc, od, kV, doc, pm, an, cdv, ct, osl, rfl, lk, hcd⟩ := F.ex
  exact .all (h kV doc pm an cdv ct)
theorem fun_mk {x qual : Str} {st : Stmt} {f : Addr} {oc : Value} {od an : Option Addr} {osl : Array (Option Value)} {kV doc pm cdv ct : Value} (l : K.lookup f = some ⟨oc, od, .func (PySem.W.fnOf x qual (defArgs st) (defBody st) (defScope st) .none kV doc pm an cdv ct), osl⟩)
    (c : PySem.W.codeIn K cdv qual = true) (k : PySem.W.keepIn K (.ref f) = true) : Fun K x qual st f (PySem.W.fnOf x qual (defArgs st) (defBody st) (defScope st) .none kV doc pm an cdv ct) := ⟨⟨oc, od, kV, doc, pm, an, cdv, ct, osl, rfl, l, c⟩, k⟩
end
section
variable {X : Cx}
theorem pv (i : Nat) {x : Str} {pos : Pos} (hN : autoParam (X.N[i]? = some x) L2.Internal.auR._auto_1) (hv : Vis X.env.scope x := by first | exact Or.inl rfl | exact Or.inr (Or.inl rfl) | exact Or.inr (Or.inr rfl)) (hd : autoParam ((x == ("__debug__" : Str)) = false) L2.Internal.auD._auto_1)
    (hcd : autoParam ((x == ("__classdict__" : Str)) = false) L2.Internal.auD._auto_1) : PE X (.Name x pos) (tVar i) := pe_var hN hv hd hcd
end

theorem iteF {A B : Prop} (h : B) : if false = true then A else B := by
  rw [if_neg Bool.false_ne_true]
  exact h
theorem iteT {A B : Prop} (h : A) : if true = true then A else B := by
  rw [if_pos rfl]
  exact h
theorem ite2 {c A B : Prop} [Decidable c] (h1 : c → A) (h2 : ¬ c → B) : if c then A else B := by
  by_cases h : c
  · rw [if_pos h]
    exact h1 h
  · rw [if_neg h]
    exact h2 h
theorem iteNS {c A B : Prop} [Decidable c] (hc : c) (h : B) : if (!decide c) = true then A else B := by
  rw [decide_eq_true hc]
  exact iteF h

noncomputable def Same (H H' : Hp) : Prop := ∀ b o, H b = some o → H' b = some o
theorem Same.refl (H : Hp) : Same H H := fun _ _ h => h
theorem Same.trans {H H1 H2 : Hp} (a : Same H H1) (b : Same H1 H2) : Same H H2 := fun c o h => b c o (a c o h)
theorem Same.free {H H' : Hp} (e : Same H H') {l : Addr} (h : H' l = Option.none) : H l = Option.none := by
  cases q : H l with
  | none => rfl
  | some o =>
    rw [e l o q] at h
    cases h
theorem Same.seq {K : PySem.W.Frag} {H H' : Hp} {a : Addr} {xs : List V} (e : Same H H') (h : SqL K H a xs) : SqL K H' a xs := by
  rcases h with (h | ⟨o, h⟩) | h
  · exact .inl (.inl (e _ _ h))
  · exact .inl (.inr ⟨o, e _ _ h⟩)
  · exact .inr h

section
variable {X : Cx}
end
section
variable {κ : Type} [DecidableEq κ]
end
end L2.Internal
namespace L2.Internal
open PySem PySem.Spec PyProof.Rows

section
variable {X : Cx}
theorem pe_gI {x : Str} {i : Int} {t : Tok} {pos : Pos} (hg : Gl X x) (hm : X.mg x = some (.int i t)) (hd : autoParam ((x == ("__debug__" : Str)) = false) L2.Internal.auD._auto_1) : PE X (.Name x pos) (tC (.int i)) := pe_glob hg hm (show RelV (.int i) _ from ⟨t, rfl⟩) hd
theorem pe_gS {x y : Str} {t : Tok} {pos : Pos} (hg : Gl X x) (hm : X.mg x = some (.str y t)) (hd : autoParam ((x == ("__debug__" : Str)) = false) L2.Internal.auD._auto_1) : PE X (.Name x pos) (tC (.str y)) := pe_glob hg hm (show RelV (.str y) _ from ⟨t, rfl⟩) hd
theorem pe_gR {x : Str} {a : Addr} {pos : Pos} (hg : Gl X x) (hm : X.mg x = some (.ref a)) (hd : autoParam ((x == ("__debug__" : Str)) = false) L2.Internal.auD._auto_1) : PE X (.Name x pos) (tC (.ref a)) := pe_glob hg hm (show RelV (.ref a) _ from rfl) hd
theorem pe_bty {x : Str} {n : String} {pos : Pos} (hg : Gl X x) (hm : X.mg x = none) (hv : bootBuiltins x = some (.type n)) (hn : autoParam (x ≠ "__name__") L2.Internal.auD._auto_1) (hd : autoParam ((x == ("__debug__" : Str)) = false) L2.Internal.auD._auto_1) : PE X (.Name x pos) (tC (.ty n)) := pe_bltn hg hm hv (show RelV (.ty n) _ from rfl) hn hd
end
theorem bt_len : bootBuiltins "len" = some (.builtin "len") := by decide +kernel
theorem bt_all : bootBuiltins "all" = some (.builtin "all") := by decide +kernel
theorem bt_sum : bootBuiltins "sum" = some (.builtin "sum") := by decide +kernel
theorem bt_isinstance : bootBuiltins "isinstance" = some (.builtin "isinstance") := by decide +kernel
theorem bt_int : bootBuiltins "int" = some (.type "int") := by decide +kernel
theorem bt_str : bootBuiltins "str" = some (.type "str") := by decide +kernel
theorem bt_list : bootBuiltins "list" = some (.type "list") := by decide +kernel
theorem bt_tuple : bootBuiltins "tuple" = some (.type "tuple") := by decide +kernel
theorem bt_ValueError : bootBuiltins "ValueError" = some (.type "ValueError") := by decide +kernel

noncomputable def strsOf : List Expr → Option (List Str)
  | [] => some []
  | .Constant (.str x) _ _ :: r => (strsOf r).map (x :: ·)
  | _ => none
noncomputable def tStrs (xs : List Str) : TA := fun _ H Q => Q (xs.map V.str) H
theorem pa_strs {X : Cx} : ∀ {es : List Expr} {xs : List Str}, strsOf es = some xs → PA X es (tStrs xs)
  | [], xs, h => by
    have e : xs = [] := (Option.some.inj h).symm
    subst e
    exact pa_nil
  | .Constant (.str x) k p :: r, xs, h => by
    have h' : (strsOf r).map (x :: ·) = some xs := h
    obtain ⟨ys, hy, e⟩ := Option.map_eq_some_iff.mp h'
    subst e
    have ih := pa_strs (X := X) hy
    intro pos pins s σ H Q I q
    exact pa_cons (te := tC (.str x)) (t := tStrs ys) pe_str ih rfl pos pins s σ H Q I q

noncomputable def Its (x : Str) : It := ⟨fun i _ => i < x.cps.size, fun i H v H' => H' = H ∧ ∃ c, x.cps[i]? = some c ∧ v = .str ⟨#[c]⟩, fun i _ => i = x.cps.size⟩
theorem turn_str {P : Program} {w : World} {K : PySem.W.Frag} {tg : Expr} (it : Addr) (T : String) (x : Str) (t : Tok)
    (hT : ["enumerate", "zip", "dict_itemiterator", "dict_reverseitemiterator", "odict_iterator", "itertools.zip_longest", "itertools.pairwise"].contains T = false)
    (W : ∀ A : Around, A.handled = none → Walks P w A it [it] [it] x.cps.size (SignAt x) (fun i h => h.IsStrIter it T x t i))
    (hself : ∀ (A : Around) (i : Nat) (s : Shared) (Q : Value → Shared → Prop) (E : Value → Shared → Prop), s.heap.IsStrIter it T x t i → Q (.ref it) s → wpAny (model P w) A (pyIter (.ref it)) Q E s) :
    Turn P w K tg (Its x) [it] it (fun i h => h.IsStrIter it T x t i) where
  mem := by simp
  obj := fun i h st b hb => by
    have e : b = it := by simpa using hb
    subst e
    obtain ⟨o, e, c, d⟩ := st
    exact ⟨o, e, fun v z => by rw [d] at z; cases z⟩
  keep := fun i h h' st k => by
    obtain ⟨o, e, r⟩ := st
    exact ⟨o, k it (by simp) o e, r⟩
  item := by
    intro X hP hw hK hc i pins s σ H E I hf st hg
    subst hP hw hK
    obtain ⟨f0, f1, f2, f3, f4, f5⟩ := hf it (by simp)
    refine (W X.A (I.ok.hd hc)).item i s _ _ hg st fun v h' tk hv st' kk => ?_
    obtain ⟨c, u, hc', rfl⟩ := hv
    have I1 : Inv X pins σ H { s with heap := h', toks := tk } := I.turned (fun b o hb e => kk b o (by simpa using hb) e) f0 f1 f3 f4 f5
    obtain ⟨o, e, c1, d⟩ := id st'
    exact ⟨_, rfl, go_of (s := { s with heap := h', toks := tk }) e c1 d hT ⟨.str ⟨#[c]⟩, H, I1, ⟨u, rfl⟩, ⟨rfl, c, hc', rfl⟩, st', fun b hb => (hf b hb).1⟩⟩
  done := by
    intro X hP hw hK hc i pins s σ H E I hf st hg
    subst hP hw hK
    obtain ⟨f0, f1, f2, f3, f4, f5⟩ := hf it (by simp)
    have hg' : i = x.cps.size := hg
    subst hg'
    exact (W X.A (I.ok.hd hc)).done s _ _ st fun h' tk kk => ⟨rfl, I.turned (fun b o hb e => kk b o (by simpa using hb) e) f0 f1 f3 f4 f5⟩
  self := fun A i s Q E st h => hself A i s Q E st h
section
variable {X : Cx} {tg : Expr}
noncomputable def iStr (tl : TE) : TI := fun σ H R => tl σ H fun v H1 => ∃ x, v = .str x ∧ R (Its x) H1
theorem pi_str {l : Expr} {tl : TE} (hl : PE X l tl) : PI X tg l (iStr tl) := by
  intro pins s σ H R I h
  refine thn (hl pins s σ H _ I h) fun v s1 ⟨y, H1, I1, r1, q1⟩ => ?_
  obtain ⟨x, e, q⟩ := q1
  subst e
  obtain ⟨t, rfl⟩ := r1
  have fp : ∀ b ∈ [s1.heap.objs.size], FpOk X pins H1 b := fun b hb => by
    have e : b = s1.heap.objs.size := by simpa using hb
    subst e
    exact I1.fpOk (Nat.le_refl _) (I1.hok.fresh (Nat.le_refl _))
  cases ha : x.cps.all (· < 128)
  · refine wpAny_pyIter_wide ha ?_
    exact ⟨s1.heap.objs.size, [s1.heap.objs.size], _, _, H1, rfl, I1.kept (t' := s1.toks) fun b o e => Heap.get?_push_of_some _ e,
      turn_str _ "str_iterator" x t (by decide) (fun A hA => Walks.strWide hA _ x t) (fun _ _ _ _ _ st h => wpAny_pyIter_striter_wide st h), ⟨_, Heap.get?_push_size _ rfl, rfl, rfl⟩, fp, q⟩
  · refine wpAny_pyIter_ascii ha ?_
    exact ⟨s1.heap.objs.size, [s1.heap.objs.size], _, _, H1, rfl, I1.kept (t' := s1.toks) fun b o e => Heap.get?_push_of_some _ e,
      turn_str _ "str_ascii_iterator" x t (by decide) (fun A hA => Walks.strAscii hA _ x t) (fun _ _ _ _ _ st h => wpAny_pyIter_striter_ascii st h), ⟨_, Heap.get?_push_size _ rfl, rfl, rfl⟩, fp, q⟩
end
noncomputable def blk (X : Cx) (N : List Str) (scope : Scope) (cl : List (Str × Addr)) (C : Addr) (s₀ : Shared) (H₀ : Hp) (ex : List Addr) (pins : List (Addr × Obj)) : Cx :=
  { X with N := N, s₀ := s₀, H₀ := H₀, env := compEnvC scope cl C X.env, outer := X.stack, stack := X.stack, ex := ex, fn := fun _ => false, pn := X.pn ++ pins, xe := fun _ _ => False }
noncomputable def PTs (X : Cx) (cs : List Expr) (t : TT) : Prop :=
  ∀ (pins : List (Addr × Obj)) (s : Shared) (σ : St) (H : Hp) (Q : Bool → Hp → Prop), Inv X pins σ H s → t σ H Q →
    wpAny (model X.prog X.w) X.A (forIn cs true fun c r => if r = true then do let ok ← isTrue c X.env (eval c X.env); pure (ForInStep.yield ok) else pure (ForInStep.yield r)) (TP X pins σ Q) X.xe s
noncomputable def tAlways : TT := fun _ H Q => Q true H
theorem pts_nil {X : Cx} : PTs X [] tAlways := fun pins s σ H Q I h => wpAny_pure ⟨H, I, h⟩
theorem pts_one {X : Cx} {c : Expr} {t : TT} (h : PT X c t) : PTs X [c] t := fun pins s σ H Q I hw => wpAny_tests_one (h pins s σ H Q I hw)

structure BlkOk (X : Cx) (N : List Str) (scope : Scope) (cl : List (Str × Addr)) (f : St → St) (i : Nat) (x : Str) : Prop where
  kind : scope.kind = .function
  cell : ∀ y ∈ scope.names, y.2 ≠ .cell
  names : ∀ y ∈ scope.names, y.2 = .local → scope.names.lookup y.1 = some .local
  clos : closureFor scope X.env = pure cl
  lk : ∀ y c, cl.lookup y = some c → X.env.cells.lookup y = some c
  has : ∀ y, ((relabel scope X.env).names.lookup y = some .cell ∨ (relabel scope X.env).names.lookup y = some .free) → ∃ c, cl.lookup y = some c
  nd : N.Nodup
  ix : N[i]? = some x
  loc : scope.names.lookup x = some .local
  len : ∀ σ, σ.length = X.N.length → (f σ).length = N.length
  val : ∀ (σ : St) (k : Nat) (y : Str) (v : V), N[k]? = some y → (f σ)[k]? = some (some v) → ∃ j : Nat, X.N[j]? = some y ∧ σ[j]? = some (some v) ∧ X.env.scope.names.lookup y = some .cell ∧ (relabel scope X.env).names.lookup y = some .cell

theorem inv_blk {X : Cx} {N : List Str} {scope : Scope} {cl : List (Str × Addr)} {f : St → St} {i : Nat} {x : Str} (B : BlkOk X N scope cl f i x) {pins : List (Addr × Obj)} {σ : St} {H : Hp} {s : Shared} {h₁ : Heap} {tk : Nat} {m : Str → Option Value} {ex : List Addr}
    (I : Inv X pins σ H s) (hex : ∀ b ∈ ex, FpOk X pins H b ∧ b < s.heap.objs.size) (keep : ∀ b o, s.heap.get? b = some o → h₁.get? b = some o) (hn : h₁.Ns s.heap.objs.size m) :
    Inv (blk X N scope cl s.heap.objs.size s H ex pins) [] (f σ) H { s with heap := h₁, toks := tk } := by
  have nst : ∀ b, b ≠ X.env.locals → b ∉ X.fs → b ∉ frs X.stack := fun b h1 h2 hb => (List.mem_cons.mp (I.stkSub b hb)).elim h1 h2
  have ltC : ∀ y c, X.env.cells.lookup y = some c → c < s.heap.objs.size := fun y c e => by
    obtain ⟨v, o, ho, _⟩ := I.cell y c e
    exact Heap.lt_size ho
  refine ⟨⟨I.ok.mod, B.kind, I.ok.glob, I.ok.blt, Nat.le_refl _, fun y z c h1 h2 => I.ok.inj y z c (B.lk y c h1) (B.lk z c h2), fun y hy => B.has y hy, fun y c h => (nomatch h), I.ok.hd, I.ok.frames, .inl rfl, fun b hb => ?_, I.bs, Nat.le_trans I.ok.bsz I.sz, fun b o e hb => ?_, fun b hb => ?_, I.stack, I.stkFree⟩,
    rfl, I.bare, Un.kept keep, ⟨m, hn, fun k y v e1 e2 e3 => ?_⟩, fun y c e => ?_, I.hok.fresh (Nat.le_refl _), fun y c e => I.freeC y c (B.lk y c e), fun p hp => ?_, I.hok.kept keep, B.len σ I.len⟩
  · obtain ⟨⟨_, _, _, _, hc, _⟩, lt⟩ := hex b hb
    exact ⟨Nat.ne_of_lt lt, fun y c e => hc y c (B.lk y c e)⟩
  · obtain ⟨⟨_, _, _, h4, _, _⟩, _⟩ := hex b hb
    rcases h4 with z | z
    · exact I.ok.noex b o e z
    · exact absurd (Nat.lt_of_lt_of_le (Heap.lt_size (I.ok.bs b o e).1) z) (Nat.lt_irrefl _)
  · obtain ⟨⟨_, h2, h3, _, _, _⟩, _⟩ := hex b hb
    exact nst b h2 h3
  · obtain ⟨j, h1, h2, h3, h4⟩ := B.val σ k y v e1 e2
    obtain ⟨m', _, hl⟩ := I.loc
    obtain ⟨u, r, l⟩ := hl j y v h1 h2 (.inr (.inl h3))
    refine ⟨u, r, ?_⟩
    rcases l with ⟨hk, _⟩ | ⟨_, c, hc, z⟩
    · have hk' : X.env.scope.names.lookup y = some .local := hk
      rw [h3] at hk'
      cases hk'
    · obtain ⟨c', hc'⟩ := B.has y (.inl h4)
      have e : c' = c := Option.some.inj ((B.lk y c' hc').symm.trans hc)
      subst e
      obtain ⟨o, ho, hd⟩ := z
      exact .inr ⟨.inl h4, c', hc', o, keep _ o ho, hd⟩
  · obtain ⟨v, o, ho, hd⟩ := I.cell y c (B.lk y c e)
    exact ⟨v, o, keep _ o ho, hd⟩
  · rw [List.append_nil] at hp
    obtain ⟨e, n, ne, nf, d⟩ := I.pin p hp
    exact ⟨keep _ _ e, n, Nat.ne_of_lt (Heap.lt_size e), nst _ ne nf, d⟩

theorem lookup_relabel {env : Env} : ∀ {names : List (Str × NameKind)} {x : Str} {k : NameKind},
    (names.map fun (n, k) => if (k == NameKind.free && env.scope.kind == .function && env.kindOf n == some .cell) then (n, NameKind.cell) else (n, k)).lookup x = some k →
    ∃ k0, names.lookup x = some k0 ∧ (k = k0 ∨ (k0 = .free ∧ k = .cell))
  | [], _, _, h => by simp at h
  | (n, k0) :: r, x, k, h => by
    have ih := @lookup_relabel env r x k
    have h : List.lookup x ((if (k0 == NameKind.free && env.scope.kind == .function && env.kindOf n == some .cell) = true then (n, NameKind.cell) else (n, k0)) :: (r.map fun (n, k) => if (k == NameKind.free && env.scope.kind == .function && env.kindOf n == some .cell) then (n, NameKind.cell) else (n, k))) = some k := h
    cases hx : x == n with
    | true =>
      by_cases hc : (k0 == NameKind.free && env.scope.kind == .function && env.kindOf n == some .cell) = true
      · rw [if_pos hc] at h
        simp only [List.lookup_cons, hx] at h ⊢
        have hf : k0 = .free := by
          have hc' := hc
          simp only [Bool.and_eq_true] at hc'
          exact eq_of_beq hc'.1.1
        exact ⟨k0, rfl, .inr ⟨hf, (Option.some.inj h).symm⟩⟩
      · rw [if_neg hc] at h
        simp only [List.lookup_cons, hx] at h ⊢
        exact ⟨k0, rfl, .inl (Option.some.inj h).symm⟩
    | false =>
      have h2 : (r.map fun (n, k) => if (k == NameKind.free && env.scope.kind == .function && env.kindOf n == some .cell) then (n, NameKind.cell) else (n, k)).lookup x = some k := by
        by_cases hc : (k0 == NameKind.free && env.scope.kind == .function && env.kindOf n == some .cell) = true
        · rw [if_pos hc] at h; simp only [List.lookup_cons, hx] at h; exact h
        · rw [if_neg hc] at h; simp only [List.lookup_cons, hx] at h; exact h
      obtain ⟨k1, e1, e2⟩ := ih h2
      exact ⟨k1, by simp only [List.lookup_cons, hx]; exact e1, e2⟩
theorem lookup_relabel_free {env : Env} (hk : env.scope.kind = .function) : ∀ {names : List (Str × NameKind)} {x : Str}, env.scope.names.lookup x = some .cell → names.lookup x = some .free →
    (names.map fun (n, k) => if (k == NameKind.free && env.scope.kind == .function && env.kindOf n == some .cell) then (n, NameKind.cell) else (n, k)).lookup x = some .cell
  | [], _, _, h => by simp at h
  | (n, k0) :: r, x, hc, h => by
    have ih := @lookup_relabel_free env hk r x hc
    show List.lookup x ((if (k0 == NameKind.free && env.scope.kind == .function && env.kindOf n == some .cell) = true then (n, NameKind.cell) else (n, k0)) :: _) = _
    cases hx : x == n with
    | true =>
      simp only [List.lookup_cons, hx] at h
      cases h
      have e : x = n := eq_of_beq hx
      have hc' : env.kindOf n = some .cell := by rw [← e]; exact hc
      simp [List.lookup_cons, hx, hk, hc']
    | false =>
      simp only [List.lookup_cons, hx] at h
      by_cases hq : (k0 == NameKind.free && env.scope.kind == .function && env.kindOf n == some .cell) = true
      · rw [if_pos hq]; simp only [List.lookup_cons, hx]; exact ih h
      · rw [if_neg hq]; simp only [List.lookup_cons, hx]; exact ih h
theorem blk0 {X : Cx} {scope : Scope} {x : Str} (hk : scope.kind = .function) (hn : ∀ p ∈ scope.names, p.2 ≠ .cell ∧ p.2 ≠ .free) (hl : ∀ y ∈ scope.names, y.2 = .local → scope.names.lookup y.1 = some .local)
    (hx : scope.names.lookup x = some .local) (hc : closureFor scope X.env = pure []) : BlkOk X [x] scope [] (fun _ => [none]) 0 x where
  kind := hk
  cell := fun y hy => (hn y hy).1
  names := hl
  clos := hc
  lk := fun y c h => by simp at h
  has := fun y h => by
    rcases h with h | h
    · obtain ⟨k0, e, z⟩ := lookup_relabel h
      have m := hn _ (PySem.mem_of_lookup e)
      rcases z with z | ⟨z, _⟩
      · exact absurd z.symm m.1
      · exact absurd z m.2
    · obtain ⟨k0, e, z⟩ := lookup_relabel h
      have m := hn _ (PySem.mem_of_lookup e)
      rcases z with z | ⟨z, _⟩
      · exact absurd z.symm m.2
      · exact absurd z m.2
  nd := by simp
  ix := rfl
  loc := hx
  len := fun _ _ => rfl
  val := fun σ k y v h1 h2 => by
    cases k with
    | zero => simp at h2
    | succ k => simp at h2
theorem blk1 {X : Cx} {scope : Scope} {x y : Str} {j : Nat} {c0 : Addr} (hk : scope.kind = .function) (hn : ∀ p ∈ scope.names, p.2 ≠ .cell ∧ (p.2 = .free → p.1 = y)) (hl : ∀ y ∈ scope.names, y.2 = .local → scope.names.lookup y.1 = some .local)
    (hx : scope.names.lookup x = some .local) (hy : scope.names.lookup y = some .free) (hc : closureFor scope X.env = pure [(y, c0)]) (hc0 : X.env.cells.lookup y = some c0) (hok : X.env.scope.kind = .function) (hyo : X.env.scope.names.lookup y = some .cell)
    (hj : X.N[j]? = some y) : BlkOk X [x, y] scope [(y, c0)] (fun σ => [none, σ.getD j none]) 0 x where
  kind := hk
  cell := fun y hy => (hn y hy).1
  names := hl
  clos := hc
  lk := fun z c h => by
    cases e : z == y with
    | true =>
      simp only [List.lookup_cons, e] at h
      have ez : z = y := eq_of_beq e
      rw [ez, hc0]
      exact h
    | false => simp only [List.lookup_cons, e, List.lookup_nil] at h; cases h
  has := fun z h => by
    have ez : z = y := by
      rcases h with h | h
      · obtain ⟨k0, e, q⟩ := lookup_relabel h
        have m := hn _ (PySem.mem_of_lookup e)
        rcases q with q | ⟨q, _⟩
        · exact absurd q.symm m.1
        · exact m.2 q
      · obtain ⟨k0, e, q⟩ := lookup_relabel h
        have m := hn _ (PySem.mem_of_lookup e)
        rcases q with q | ⟨q, _⟩
        · exact m.2 q.symm
        · exact m.2 q
    exact ⟨c0, by rw [ez]; simp [List.lookup_cons]⟩
  nd := by
    have e : x ≠ y := fun e => by rw [e, hy] at hx; cases hx
    simp [e]
  ix := rfl
  loc := hx
  len := fun _ _ => rfl
  val := fun σ k z v h1 h2 => by
    cases k with
    | zero => simp at h2
    | succ k =>
      cases k with
      | zero =>
        have ez : z = y := by simpa using h1.symm
        subst ez
        have e : σ.getD j none = some v := by simpa using h2
        rw [List.getD_eq_getElem?_getD] at e
        refine ⟨j, hj, ?_, hyo, lookup_relabel_free hok hyo hy⟩
        cases q : σ[j]? with
        | none => rw [q] at e; cases e
        | some o => rw [q] at e; exact congrArg some e
      | succ k => simp at h2

noncomputable def LcP (J : It) (i : Nat) (tt : TT) (te : TE) (Q : VK) (τ : St) (H1 : Hp) (D : Addr) : Prop :=
  ∃ W : Nat → Nat → St → Hp → Prop, (∃ m, W 0 m τ (upd H1 D (.lst []))) ∧ ∀ k m σ' H2, W k m σ' H2 →
    (J.stop k H2 ∧ Q (.ref D) H2) ∨ (J.go k H2 ∧ ∀ v H3, J.yld k H2 v H3 → tt (σ'.set i (some v)) H3 fun ok H4 => if ok = true
      then te (σ'.set i (some v)) H4 fun y H5 => ∃ xs, H5 D = some (.lst xs) ∧ xs.length < sizeLine ∧ ∃ m', m' < m ∧ W (k + 1) m' (σ'.set i (some v)) (upd H5 D (.lst (xs ++ [y])))
      else ∃ m', m' < m ∧ W (k + 1) m' (σ'.set i (some v)) H4)
noncomputable def tLC (wi : TI) (f : St → St) (i : Nat) (tt : TT) (te : TE) : TE := fun σ H Q => wi σ H fun J H1 => ∀ D, H1 D = none → LcP J i tt te Q (f σ) H1 D

theorem pe_lc {X : Cx} {elt iter : Expr} {x : Str} {px : Pos} {ifs : List Expr} {scope : Scope} {pos : Pos} {N : List Str} {cl : List (Str × Addr)} {f : St → St} {i : Nat} {wi : TI} {tt : TT} {te : TE}
    (hc : X.calm = true) (B : BlkOk X N scope cl f i x) (hi : PI X (.Name x px) iter wi)
    (htt : ∀ C s₀ H₀ ex pins, PTs (blk X N scope cl C s₀ H₀ ex pins) ifs tt) (hte : ∀ C s₀ H₀ ex pins, PE (blk X N scope cl C s₀ H₀ ex pins) elt te)
    (hs : autoParam (∀ x, foldedSetIterable iter X.env x = pure x) L2.Internal.auI._auto_1) : PE X (.ListComp elt [⟨.Name x px, iter, ifs, 0⟩] scope pos) (tLC wi f i tt te) := by
  intro pins s σ H Q I h
  rw [eval_ListComp]
  refine wpAny_comprehension_free (use := none) rfl hs B.clos B.kind B.names (thn (hi pins s σ H _ I h) fun xv s1 h1 => thn h1 fun itv s2 h2 => ?_)
  obtain ⟨it, fp, tn, J, H2, rfl, I2, T, st2, f2, q⟩ := h2
  have hD : H2 s2.heap.objs.size = none := I2.fresh
  obtain ⟨W, ⟨m0, w0⟩, turn⟩ := q _ hD
  refine wpAny_newObj_type (wpAny_newFunctionEnv B.cell (by intro y hy; simp at hy) (fun h₁ hns₁ hsb₁ => ?_) B.kind)
  have I3 : Inv X pins σ (upd H2 s2.heap.objs.size (.lst [])) { s2 with heap := s2.heap.push { cls := .type "list", data := .seq ([] : List Value).toArray } } := I2.lnew (its := []) (ys := []) (t' := s2.toks) .nil (Nat.zero_le _)
  have lt2 : ∀ b ∈ fp, b < s2.heap.objs.size := fun b hb => by
    obtain ⟨o, ho, _⟩ := T.obj _ _ st2 b hb
    exact Heap.lt_size ho
  have fp3 : ∀ b ∈ fp, FpOk X pins (upd H2 s2.heap.objs.size (.lst [])) b := fun b hb => by
    refine ⟨?_, (f2 b hb).2⟩
    rw [upd_ne (Nat.ne_of_lt (lt2 b hb))]
    exact (f2 b hb).1
  generalize hs3 : ({ s2 with heap := s2.heap.push { cls := .type "list", data := .seq ([] : List Value).toArray } } : Shared) = s3 at I3 hns₁ hsb₁ ⊢
  have eh : s2.heap.push { cls := .type "list", data := .seq ([] : List Value).toArray } = s3.heap := by rw [← hs3]
  have lt3 : ∀ b ∈ fp, b < s3.heap.objs.size := fun b hb => by
    rw [← eh, Heap.size_push]
    exact Nat.lt_succ_of_lt (lt2 b hb)
  have old : ∀ b o, s3.heap.get? b = some o → h₁.get? b = some o := fun b o e => hsb₁.extBut b o (Nat.ne_of_lt (Heap.lt_size e)) (Heap.get?_push_of_some _ e)
  have I4 := inv_blk (tk := s3.toks + ([] : List (Str × Value)).length) B I3 (ex := fp) (fun b hb => ⟨fp3 b hb, lt3 b hb⟩) old hns₁
  have st4 : tn 0 h₁ := T.keep _ _ _ st2 fun b _ o e => old b o (by rw [← eh]; exact Heap.get?_push_of_some _ e)
  -- the iterators in the block
  have fpB : ∀ {H' : Hp}, (∀ b ∈ fp, H' b = none) → ∀ b ∈ fp, FpOk (blk X N scope cl s3.heap.objs.size s3 (upd H2 s2.heap.objs.size (.lst [])) fp pins) [] H' b := fun {H'} hn b hb => by
    obtain ⟨_, g2, g3, g4, g5, g6⟩ := f2 b hb
    refine ⟨hn b hb, Nat.ne_of_lt (lt3 b hb), fun z => (List.mem_cons.mp (I3.stkSub b z)).elim g2 g3, .inl hb, fun y c e => g5 y c (B.lk y c e), fun p hp => ?_⟩
    rw [List.append_nil] at hp
    exact g6 p hp
  have loop : ∀ s4 : Shared, s4 = { s3 with heap := h₁, toks := s3.toks + ([] : List (Str × Value)).length } →
      codeAny (model X.prog X.w) X.A (.compLoop (.ListComp elt [⟨.Name x px, iter, ifs, 0⟩] scope pos) 0 (.ref it) (.ref s2.heap.objs.size) (compEnvC scope cl s3.heap.objs.size X.env))
        (compPost (model X.prog X.w) X.A X.xe none (EP X pins σ Q) (.ref s2.heap.objs.size) s3.heap.objs.size) s4 := by
    rintro s4 rfl
    refine codeAny_compLoop_tests (I := fun n s' => ∃ k σ' H', Inv (blk X N scope cl s3.heap.objs.size s3 (upd H2 s2.heap.objs.size (.lst [])) fp pins) [] σ' H' s' ∧ tn k s'.heap ∧ (∀ b ∈ fp, H' b = none) ∧ W k n σ' H') ?_ m0
      ⟨0, f σ, _, I4, st4, fun b hb => (fp3 b hb).1, w0⟩
    rintro n s5 ⟨k, σ5, H5, I5, st5, fr5, w5⟩
    rcases turn k n σ5 H5 w5 with ⟨stop, qn⟩ | ⟨go, step⟩
    · refine wpAny_mono (T.done (blk X N scope cl s3.heap.objs.size s3 (upd H2 s2.heap.objs.size (.lst [])) fp pins) rfl rfl rfl hc k [] s5 σ5 H5 _ I5 (fpB fr5) st5 stop) (fun r s6 h6 => ?_) fun _ _ z => z
      obtain ⟨hr, I6⟩ := h6
      subst hr
      obtain ⟨m6, hn6, _⟩ := id I6.loc
      refine ⟨m6, hn6, fun h' sb => ?_⟩
      have nC : ∀ b o, s3.heap.get? b = some o → b ≠ s3.heap.objs.size := fun b o e => Nat.ne_of_lt (Heap.lt_size e)
      have u6 : Un (frs X.stack) fp (upd H2 s2.heap.objs.size (.lst [])) H5 s3.heap s6.heap := I6.base
      have u7 : Un (frs X.stack) fp (upd H2 s2.heap.objs.size (.lst [])) H5 s3.heap h' :=
        ⟨fun b o e z1 z2 z3 => (sb.2 b (nC b o e)).trans (u6.keep b o e z1 z2 z3), fun b o e z1 z2 z3 => by
          obtain ⟨sl, e1⟩ := u6.slot b o e z1 z2 z3
          exact ⟨sl, (sb.2 b (nC b o e)).trans e1⟩, u6.free, fun b o e z => by
          obtain ⟨o', e1⟩ := u6.there b o e z
          exact ⟨o', (sb.2 b (nC b o e)).trans e1⟩, u6.tups, u6.frzs, u6.tbls⟩
      have hok7 : HOk X.prog X.w H5 h' := fun b o e => (I6.hok b o e).stay (fun c w' hcc e1 => (sb.2 c (fun z => by
          have fr : H5 s3.heap.objs.size = none := I6.free
          rcases hcc with y | y
          · rw [← y, z, fr] at e; cases e
          · rw [z, fr] at y; cases y)).trans e1) (fun _ z => z) fun _ _ z => z
      have I7 : Inv X pins σ H5 { s6 with heap := h' } := I3.call' (s' := { s6 with heap := h' }) (ch := fp) I6.os u7 hok7 I6.bare fun b hb => by
        obtain ⟨_, g2, g3, g4, g5, g6⟩ := f2 b hb
        exact ⟨g4, g2, g5, g6⟩
      exact ⟨.ref s2.heap.objs.size, H5, I7, rfl, qn⟩
    · refine wpAny_mono (T.item (blk X N scope cl s3.heap.objs.size s3 (upd H2 s2.heap.objs.size (.lst [])) fp pins) rfl rfl rfl hc k [] s5 σ5 H5 _ I5 (fpB fr5) st5 go) (fun r s6 h6 => ?_) fun _ _ z => z
      obtain ⟨u, hr, h6⟩ := h6
      subst hr
      show wpAny _ _ (pure () >>= fun _ => assign (.Name x px) (compEnvC scope cl s3.heap.objs.size X.env) u) _ _ s6
      refine wpAny_bind (wpAny_mono (show wpAny _ _ (pure ()) _ _ s6 from h6) (fun _ s7 h7 => ?_) fun _ _ z => z)
      obtain ⟨v, H7, I7, r7, y7, st7, fr7⟩ := h7
      have I7' := I7.pinned (fpB fr7) (T.obj _ _ st7)
      refine wpAny_assign_Name (store_ok (X := blk X N scope cl s3.heap.objs.size s3 (upd H2 s2.heap.objs.size (.lst [])) fp pins) I7' B.nd B.ix (.inl (lookup_relabel_local B.loc)) r7 (fun s8 I8 => ?_) (.inr (lookup_relabel_local B.loc)))
      have back : ∀ {σ9 : St} {H9 : Hp} {s9 : Shared}, Inv (blk X N scope cl s3.heap.objs.size s3 (upd H2 s2.heap.objs.size (.lst [])) fp pins) ([] ++ pinsAt fp s7.heap) σ9 H9 s9 → (∃ m', m' < n ∧ W (k + 1) m' σ9 H9) →
          ∃ m', m' < n ∧ ∃ k σ' H', Inv (blk X N scope cl s3.heap.objs.size s3 (upd H2 s2.heap.objs.size (.lst [])) fp pins) [] σ' H' s9 ∧ tn k s9.heap ∧ (∀ b ∈ fp, H' b = none) ∧ W k m' σ' H' := fun {σ9 H9 s9} I9 q9 => by
        obtain ⟨m', hm, w9⟩ := q9
        refine ⟨m', hm, k + 1, σ9, H9, I9.unpinned, T.keep _ _ _ st7 fun b hb o e => (I9.pin (b, o) (List.mem_append_right _ (List.mem_append_right _ (mem_pinsAt hb e)))).1, fun b hb => ?_, w9⟩
        obtain ⟨o, e, d⟩ := T.obj _ _ st7 b hb
        exact (I9.pin (b, o) (List.mem_append_right _ (List.mem_append_right _ (mem_pinsAt hb e)))).2.1
      refine wpAny_mono (htt _ _ _ _ _ _ s8 _ H7 _ I8 (step v H7 y7)) (fun ok s9 h9 => ?_) fun _ _ z => False.elim z
      obtain ⟨H9, I9, q9⟩ := h9
      cases ok with
      | false =>
        rw [if_neg Bool.false_ne_true]
        rw [if_neg Bool.false_ne_true] at q9
        exact back I9 q9
      | true =>
        rw [if_pos rfl]
        rw [if_pos rfl] at q9
        refine wpAny_mono (hte _ _ _ _ _ _ s9 _ H9 _ I9 q9) (fun y s10 h10 => ?_) fun _ _ z => False.elim z
        obtain ⟨v10, H10, I10, r10, xs, hx10, hz, q10⟩ := h10
        refine wpAny_mono (mt_append (X := blk X N scope cl s3.heap.objs.size s3 (upd H2 s2.heap.objs.size (.lst [])) fp pins) _ s10 _ H10 (.ref s2.heap.objs.size) [v10] _ [y] (fun _ H11 => H11 = upd H10 s2.heap.objs.size (.lst (xs ++ [v10]))) I10 rfl (.cons r10 .nil) ⟨_, xs, v10, rfl, rfl, hx10, hz, rfl⟩) (fun _ s11 h11 => ?_) fun _ _ z => False.elim z
        obtain ⟨_, H11, I11, _, e11⟩ := h11
        subst e11
        exact back I11 q10
  exact codeAny_compStart_list (loop _ rfl) (T.self _ 0 _ _ _ st4 (loop _ rfl))

theorem lc_of {J : It} {xs : List V} {i : Nat} {tt : TT} {te : TE} {Q : VK} {τ : St} {H1 : Hp} {D : Addr} (p : V → Bool) (g : V → V) (hD : H1 D = none) (hz : xs.length ≤ sizeLine) (hτ : τ.set i none = τ)
    (hgo : ∀ k H, Same H1 H → k < xs.length → J.go k H) (hy : ∀ k H v H', Same H1 H → J.yld k H v H' → H' = H ∧ xs[k]? = some v) (hst : ∀ H, Same H1 H → J.stop xs.length H)
    (htt : ∀ (k : Nat) v H R, xs[k]? = some v → Same H1 H → R (p v) H → tt (τ.set i (some v)) H R)
    (hte : ∀ (k : Nat) v H R, xs[k]? = some v → p v = true → Same H1 H → R (g v) H → te (τ.set i (some v)) H R)
    (hq : ∀ H', Same H1 H' → H' D = some (.lst ((xs.filter p).map g)) → Q (.ref D) H') : LcP J i tt te Q τ H1 D := by
  have sm : ∀ o, Same H1 (upd H1 D o) := fun o b u e => by rw [upd_ne (ne_of_none e hD)]; exact e
  refine ⟨fun k m σ' H2 => m = xs.length - k ∧ k ≤ xs.length ∧ (∃ o, σ' = τ.set i o) ∧ H2 = upd H1 D (.lst (((xs.take k).filter p).map g)), ⟨xs.length, by simp, Nat.zero_le _, ⟨none, hτ.symm⟩, by simp⟩, ?_⟩
  rintro k m σ' H2 ⟨rfl, hk, ⟨o, rfl⟩, rfl⟩
  by_cases hlt : k < xs.length
  · refine .inr ⟨hgo k _ (sm _) hlt, fun v H3 y => ?_⟩
    obtain ⟨e, hv⟩ := hy k _ v H3 (sm _) y
    subst e
    rw [List.set_set]
    refine htt k v _ _ hv (sm _) ?_
    have tk : (xs.take (k + 1)).filter p = (xs.take k).filter p ++ (if p v then [v] else []) := take_succ_filter p xs k v hv
    have ll : ((xs.take k).filter p).length ≤ k := by
      refine Nat.le_trans (List.length_filter_le _ _) ?_
      rw [List.length_take]
      omega
    cases hp : p v with
    | true =>
      rw [if_pos rfl]
      refine hte k v _ _ hv hp (sm _) ?_
      refine ⟨_, upd_same, by rw [List.length_map]; omega, xs.length - (k + 1), by omega, rfl, hlt, ⟨some v, rfl⟩, ?_⟩
      rw [upd_upd, tk, hp, if_pos rfl, List.map_append]
      rfl
    | false =>
      rw [if_neg Bool.false_ne_true]
      refine ⟨xs.length - (k + 1), by omega, rfl, hlt, ⟨some v, rfl⟩, ?_⟩
      rw [tk, hp, if_neg Bool.false_ne_true, List.append_nil]
  · have e : k = xs.length := by omega
    subst e
    refine .inl ⟨hst _ (sm _), hq _ (sm _) ?_⟩
    rw [upd_same, List.take_length]

section
variable {X : Cx}
theorem bools_of {bs : List Bool} : ∀ {us : List Value}, Vals (bs.map V.bl) us → us = bs.map Value.bool := by
  induction bs with
  | nil => intro us r; rw [List.map_nil] at r; cases r; rfl
  | cons n ns ih =>
    intro us r
    rw [List.map_cons] at r
    cases r with
    | cons r1 r2 =>
      cases (show _ = Value.bool n from r1)
      rw [ih r2]
      rfl
theorem range_all' (bs : List Bool) : ((List.range bs.length).all fun i => (bs[i]?).getD true) = bs.all id := by
  induction bs with
  | nil => rfl
  | cons b r ih =>
    rw [List.length_cons, List.range_succ_eq_map, List.all_cons, List.all_map, List.all_cons, ← ih]
    rfl
theorem kept_iter' {h h' : Heap} {o : Obj} (hk : ∀ b x, b ∉ [h.objs.size] → (h.push o).get? b = some x → h'.get? b = some x) : ∀ b x, h.get? b = some x → h'.get? b = some x :=
  fun b x e => hk b x (fun hm => by rw [List.mem_singleton.mp hm] at e; exact Nat.lt_irrefl _ (Heap.lt_size e)) (Heap.get?_push_of_some _ e)
theorem call_all (hc : X.calm = true) : CallR X (.builtin "all") (fun xs H Q => ∃ (a : Addr) (bs : List Bool), xs = [.ref a] ∧ SqL X.K H a (bs.map V.bl) ∧ Q (.bl (bs.all id)) H) := by
  intro pins s σ H xs us Q I r h
  obtain ⟨a, bs, rfl, ha, q⟩ := h
  obtain ⟨u, rfl, ru⟩ := vals1 r
  cases ru
  obtain ⟨its, rv, pl, hz⟩ := I.list ha
  have ei := bools_of rv
  subst ei
  have hl : s.heap.IsList a (bs.map Value.bool).toArray := pl.isList
  have hlt : a < s.heap.objs.size := by obtain ⟨_, e, _⟩ := hl; exact Heap.lt_size e
  refine call_all_walk (wpAny_pyIter_list hl ?_)
  refine ⟨s.heap.objs.size, [s.heap.objs.size, a], [s.heap.objs.size], (bs.map Value.bool).toArray.size, _, _, fun i => (bs[i]?).getD true, rfl, Walks.list (A := X.A.in1) (I.ok.hd hc) _ a (Nat.ne_of_lt hlt) (bs.map Value.bool).toArray,
    ⟨⟨_, Heap.get?_push_size _ rfl, rfl, rfl⟩, hl.push _⟩, fun i v s' Q' E' hP hQ => ?_, fun h' tk hk => ?_⟩
  · have hv : (bs.map Value.bool)[i]? = some v := by simpa using hP
    rw [List.getElem?_map] at hv
    cases e : bs[i]? with
    | none => rw [e] at hv; cases hv
    | some b =>
      rw [e] at hv
      have e2 : v = Value.bool b := (Option.some.inj hv).symm
      subst e2
      simp only [e, Option.getD_some] at hQ
      exact wpAny_truthy_bool hQ
  · have e : ((List.range (bs.map Value.bool).toArray.size).all fun i => (bs[i]?).getD true) = bs.all id := by
      rw [List.size_toArray, List.length_map]; exact range_all' bs
    rw [e]
    exact ⟨.bl (bs.all id), H, I.kept (kept_iter' hk), rfl, q⟩

theorem call_isi : CallR X (.builtin "isinstance") (fun xs H Q => ∃ x v c t b, xs = [x, v] ∧ (∀ u, RelV v u → u = c) ∧ TyOf X.K H x t ∧ PySem.W.kitOne X.K t c = some b ∧ Q (.bl b) H) := by
  intro pins s σ H xs us Q I r h
  obtain ⟨x, v, c, t, b, rfl, hc, ht, hk, q⟩ := h
  obtain ⟨u, u', rfl, ru, ru'⟩ := vals2 r
  cases hc u' ru'
  exact isinst_ok I ru ht hk fun tk => ⟨.bl b, H, I.tok tk, rfl, q⟩
end
end L2.Internal
namespace L2.Internal
open PySem PySem.Spec PyProof.Rows
section
variable {X : Cx}
open Builtin Builtin.Str in
theorem splitP {prog : Program} {w : World} {A : Around} {E : Value → Shared → Prop} {s : Shared} {x y : Str} {t u : Tok} {Q : Value → Shared → Prop} (hy : (y.length == 0) = false)
    (h : ∀ l k, l.map (·.1) = Txt.split x y → Q (.ref s.heap.objs.size) { s with heap := s.heap.push { cls := .type "list", data := .seq (strValues l).toArray }, toks := k }) (hsz : x.length + 2 ≤ sizeLine) :
    wpAny (model prog w) A (call (.builtin "str.split") [.str x t, .str y u]) Q E s := by
  have hn : (partsBetween x (occurrences x y 0 x.length (x.length + 1)) y.length).length ≤ sizeLine := by
    have e1 := StrLaws.occ_length_le x y 0 x.length (x.length + 1)
    rw [length_partsBetween]; omega
  cases h1 : (decide (x.length < y.length) || decide (strKind x < strKind y))
  · cases hf : (occurrences x y 0 x.length (x.length + 1)).isEmpty
    · refine call_meets F.slot_str_split (typeIs_str _ _ _) F.entry_str_split (F.args_str_split_2 _ _) (meets_str_split_sep x y t u h1 hy hf (by omega) hn) ?_
      show wants Q E _ { s with toks := _, heap := s.heap.push { cls := .type "list", data := .seq (strsFrom s.toks (partsBetween x (occurrences x y 0 x.length (x.length + 1)) y.length)).toArray } }
      rw [strsFrom_eq]
      exact h (numbered s.toks _) _ ((numbered_texts _ _).trans ((if_neg (ne_true_of_eq_false h1)).trans (if_neg (ne_true_of_eq_false hf))).symm)
    · exact call_meets F.slot_str_split (typeIs_str _ _ _) F.entry_str_split (F.args_str_split_2 _ _) (meets_str_split_not_found x y t u h1 hy hf)
        (h [(x, t)] s.toks ((if_neg (ne_true_of_eq_false h1)).trans (if_pos hf)).symm)
  · exact call_meets F.slot_str_split (typeIs_str _ _ _) F.entry_str_split (F.args_str_split_2 _ _) (meets_str_split_cannot_occur x y t u h1)
      (h [(x, t)] s.toks (if_pos h1).symm)
theorem vals_strs : ∀ l : List (Str × Tok), Vals ((l.map (·.1)).map V.str) (strValues l)
  | [] => .nil
  | p :: r => .cons ⟨p.2, rfl⟩ (vals_strs r)
theorem split_short (x y : Str) : (Txt.split x y).length ≤ x.length + 2 := by
  unfold Txt.split
  split
  · show 1 ≤ _; omega
  · split
    · show 1 ≤ _; omega
    · have e1 := StrLaws.occ_length_le x y 0 x.length (x.length + 1)
      rw [length_partsBetween]; omega
noncomputable def rSplit : V → List V → Hp → VK → Prop := fun x xs H Q => ∃ z y, x = .str z ∧ xs = [.str y] ∧ (y.length == 0) = false ∧ z.length + 2 ≤ sizeLine ∧ ∀ l, H l = none → Q (.ref l) (upd H l (.lst ((Txt.split z y).map V.str)))
theorem mt_split : MtR X "str.split" rSplit := by
  intro pins s σ H x xs v us Q I rx rs h
  obtain ⟨z, y, rfl, rfl, hy, hz, q⟩ := h
  obtain ⟨t, rfl⟩ := rx
  obtain ⟨u, rfl, ru⟩ := vals1 rs
  obtain ⟨t', rfl⟩ := ru
  refine splitP hy (fun l k hl => ?_) hz
  have hv := vals_strs l
  rw [hl] at hv
  exact ⟨.ref s.heap.objs.size, _, I.lnew hv (by rw [List.length_map]; exact Nat.le_trans (split_short z y) hz), rfl, q _ I.fresh⟩

noncomputable def PE1 (X : Cx) (e : Expr) (t : TE) : Prop :=
  ∀ (pins : List (Addr × Obj)) (s : Shared) (σ : St) (H : Hp) (Q : VK), Inv X pins σ H s → 1 ≤ s.toks → t σ H Q → wpAny (model X.prog X.w) X.A (eval e X.env) (fun u s' => 1 ≤ s'.toks ∧ EP X pins σ Q u s') X.xe s
theorem PE.one {e : Expr} {t : TE} (h : PE X e t) : PE1 X e t := fun pins s σ H Q I ht hw => wpAny_mono (wpAny_toks_of ht (h pins s σ H Q I hw)) (fun _ _ z => z) fun _ _ z => z.2
noncomputable def tRepl (to : TE) (y z : Str) : TE := fun σ H Q => to σ H fun v H1 => ∃ x, v = .str x ∧ x.length + (x.length + 1) * z.length ≤ 16777216 ∧ Q (.str (Txt.replace x y z)) H1
theorem pe1_repl {o : Expr} {to : TE} {y z : Str} {k1 k2 p1 p2 apos cpos} (ho : PE1 X o to) (hyz : (y == z) = false)
    (hbase : autoParam (attributeBase o "replace" X.env (eval o X.env) = eval o X.env) L2.Internal.auR._auto_1)
    (hfew : ((backTo cpos (starEach [.Constant (.str y) k1 p1, .Constant (.str z) k2 p2] X.env)).all (fun x => !x.1) && (backToKw cpos (keywordEach [] X.env)).all (fun x => x.1.isSome)
      && decide (([.Constant (.str y) k1 p1, .Constant (.str z) k2 p2] : List Expr).length + ([] : List Keyword).length + (if ([] : List Keyword).isEmpty then 0 else 1) < 30)) = true := by rfl)
    (hline : autoParam ((apos.endLine == cpos.line) = true) L2.Internal.auR._auto_1) : PE1 X (.Call (.Attribute o "replace" apos) [.Constant (.str y) k1 p1, .Constant (.str z) k2 p2] [] cpos) (tRepl to y z) := by
  intro pins s σ H Q I ht h
  refine wpAny_Call_method_late hbase hfew hline rfl (thn (ho pins s σ H _ I ht h) fun v s1 q1 => ?_)
  obtain ⟨ht1, v1, H1, I1, r1, x, rfl, hb, q⟩ := q1
  obtain ⟨t, rfl⟩ := r1
  refine ⟨"str", "str.replace", F.plainAttrs_str, F.slot_str_replace, F.type_str_replace, typeIs_str _ _ _, (fun _ e => nomatch e), ?_⟩
  refine Calls.callWith_builtin rfl (Calls.evalArgs_plain ?_)
  show wpAny _ _ (spliced ((false, eval (.Constant (.str y) k1 p1) X.env) :: backTo cpos (starEach [.Constant (.str z) k2 p2] X.env))) _ _ s1
  refine Calls.spliced_cons (Calls.Constant_str ?_)
  show wpAny _ _ (spliced ((false, eval (.Constant (.str z) k2 p2) X.env) :: backTo cpos (starEach [] X.env))) _ _ _
  refine Calls.spliced_cons (Calls.Constant_str (Calls.spliced_nil ?_))
  refine wpAny_mono (wpAny_toks_of (n := 1) (by show 1 ≤ s1.toks + 1 + 1; omega) (SC.replace (Q := EP X pins σ Q) (E := X.xe) (u := s1.toks) (v := s1.toks + 1) (Nat.pos_iff_ne_zero.mp ht1) (Nat.succ_ne_zero _) (Nat.ne_of_lt (Nat.lt_succ_self _)) hyz hb fun t' k => ⟨.str _, H1, ?_, ⟨t', rfl⟩, q⟩)) (fun _ _ z => z) fun _ _ z => z.2
  exact I1.tok k
noncomputable def PSs1 (X : Cx) (st : List Stmt) (t : TS) : Prop :=
  ∀ (pins : List (Addr × Obj)) (s : Shared) (σ : St) (H : Hp) (D : Ends), Inv X pins σ H s → 1 ≤ s.toks → t D σ H → wpAny (model X.prog X.w) X.A (execs st X.env) (SP.Internal X pins D) X.xe s
theorem pss1_set {i : Nat} {x : Str} {e : Expr} {te : TE} {pos pos' : Pos} {rest : List Stmt} {u : TS} (hN : X.N.Nodup) (hi : X.N[i]? = some x) (hx : Loc X.env.scope x) (he : PE1 X e te) (hr : PSs X rest u)
    (hs : autoParam (swapsWith e (some (.Name x pos')) pos.line X.env = pure false) L2.Internal.auR._auto_1) (hf : autoParam (X.fn x = true ∨ X.env.scope.names.lookup x = some .local) L2.Internal.auL._auto_1) :
    PSs1 X (.Assign [.Name x pos'] e pos :: rest) (tSeq (tAsg te (gName i)) u) := by
  intro pins s σ H D I ht h
  refine wpAny_execs_cons (wpAny_Assign_Name (thn (he pins s σ H _ I ht h) fun v s1 q1 => ?_) hs)
  obtain ⟨_, y, H1, I1, r1, q⟩ := q1
  exact store_ok I1 hN hi hx r1 (fun s2 I2 => hr pins s2 _ H1 D I2 q) hf
theorem PSs1.nox {st : List Stmt} {t : TS} (h : PSs1 X.nox st t) : PSs1 X st t := fun pins s σ H D I ht hw =>
  wpAny_mono (h pins s σ H D (I.wish _) ht hw) (fun _ _ q => q.unwish) fun _ _ z => False.elim z
end
theorem fn_of1 {CX : CXT} {P : Program} {w : World} {K : PySem.W.Frag} {mg : Str → Option Value} {base : Heap} {k : Nat} {f : Addr} {name qual p : Str} {params : Arguments} {body : List Stmt} {scope : Scope} {dV kV doc pm cdv ct oc : Value} {an od : Option Addr}
    {osl : Array (Option Value)} {N : List Str} {sp : Sp} (lk : K.lookup f = some ⟨oc, od, .func (PySem.W.fnOf name qual params body scope dV kV doc pm an cdv ct), osl⟩) (hcd : PySem.W.codeIn K cdv qual = true) (S : FnScope N [p] scope)
    (nc : ∀ x ∈ scope.names, x.2 ≠ .cell) (nc2 : ∀ n, cellsFrom n scope.names [] = []) (len : ∀ vs H Q E, sp vs H Q E → vs.length = 1)
    (hbody : ∀ (A : Around) (outer : List Env) (s : Shared) (H : Hp) (vs : List V) (Q : VK) (E : XK), Room k (A.deeper (envOfC qual scope s.heap.objs.size f cdv)) → sp vs H Q E →
      ∃ t, PSs1 (cxOf CX P w K mg base N qual scope f cdv A outer s H E) body t ∧ t { nx := fun _ H' => Q .non H', rt := Q } (start N vs) H) :
    FnOk P w K mg base CX (k + 1) f (PySem.W.fnOf name qual params body scope dV kV doc pm an cdv ct) [p] sp := by
  refine ⟨len, fun A outer s H args us vs Q E hr e0 hb r hsp => ?_⟩
  have hl := len _ _ _ _ hsp
  have hul : us.length = 1 := by rw [← r.length]; exact hl
  obtain ⟨u, rfl⟩ : ∃ u, us = [u] := by
    match us, hul with
    | [u], _ => exact ⟨u, rfl⟩
  have KX : K.In s.heap := e0.mod.kin.keeps fun b o e => (e0.bs b o e).1
  have lim : s.heap.NoLimit := e0.mod.nolimit.keeps fun b o e => (e0.bs b o e).1
  have hpl : scope.names.lookup p = some .local := by
    rcases S.par p (by simp) with q | q
    · exact q
    · exact absurd rfl (nc _ (PySem.mem_of_lookup q))
  refine codeAny_call_function hr.depth (KX _ _ lk) rfl S.co S.gen rfl (PySem.W.codeRec_of KX hcd) (hb _ _ _ _ ?_)
  refine wpAny_newFunctionEnv nc (fun x hx => ?_) (fun h' hn hs => ?_) S.kind
  · have e : x = (p, u) := by simpa using hx
    rw [e]
    exact hpl
  have keep : ∀ b o, s.heap.get? b = some o → h'.get? b = some o := fun b o e => hs.extBut b o (Nat.ne_of_lt (Heap.lt_size e)) (Heap.get?_push_of_some _ e)
  refine ⟨lim.keeps keep, codeAny_func ?_⟩
  obtain ⟨t, ht, hq⟩ := hbody A outer s H vs Q E (hr.deeper _) hsp
  have em : (fun x => (List.zip [p] [u]).reverse.lookup x) = bindL (envOfC qual scope s.heap.objs.size f cdv).kindOf (List.zip [p] [u]) fun _ => none := by
    funext x
    show (match x == p with | true => some u | false => none) = (if (envOfC qual scope s.heap.objs.size f cdv).kindOf p = some .local then fun y => if y = p then some u else none else fun _ => none) x
    rw [if_pos (show (envOfC qual scope s.heap.objs.size f cdv).kindOf p = some .local from hpl)]
    cases e : x == p with
    | true => rw [if_pos (eq_of_beq e)]
    | false => rw [if_neg (ne_of_beq_false e)]
  have x : InCallC s s.heap.objs.size (bindL (envOfC qual scope s.heap.objs.size f cdv).kindOf (List.zip [p] [u]) fun _ => none) (cellsFrom (s.heap.objs.size + 1) scope.names []) (bindC (envOfC qual scope s.heap.objs.size f cdv).kindOf (List.zip [p] [u]) fun _ => none)
      { s with heap := h', toks := s.toks + (List.zip [p] [u]).length } := by
    rw [nc2]
    refine ⟨⟨⟨h', _, rfl⟩, ?_, keep, Nat.le_refl _⟩, fun n c e => by simp at e, List.Pairwise.nil, fun n c e => by simp at e⟩
    rw [← em]
    exact hn
  have I : Inv (cxOf CX P w K mg base N qual scope f cdv A outer s H E) [] (start N vs) H { s with heap := h', toks := s.toks + (List.zip [p] [u]).length } := inv_start S hr.hd e0 hl r x
  have eenv : newEnv (PySem.W.fnOf name qual params body scope dV kV doc pm an cdv ct).scope s.heap.objs.size (PySem.W.fnOf name qual params body scope dV kV doc pm an cdv ct).globals (PySem.W.fnOf name qual params body scope dV kV doc pm an cdv ct).closure
      ((PySem.W.fnOf name qual params body scope dV kV doc pm an cdv ct).qualname ++ ".<locals>.") (some f) (PySem.W.fnOf name qual params body scope dV kV doc pm an cdv ct).code none (PySem.W.fnOf name qual params body scope dV kV doc pm an cdv ct).builtins = envOfC qual scope s.heap.objs.size f cdv := by
    unfold envOfC
    rw [nc2]
    rfl
  rw [eenv]
  have go := ht [] _ (start N vs) H _ I (by show 1 ≤ s.toks + 1; omega) hq
  refine wpAny_mono go (fun fl s' hs => ?_) fun e s' hs => hs
  have fin : ∀ {σ' : St} {H' : Hp} {v : V} {u : Value}, Inv (cxOf CX P w K mg base N qual scope f cdv A outer s H E) [] σ' H' s' → RelV v u → Q v H' → CE outer P w H s Q u s' :=
    fun {σ' H' v u} J rv q => ⟨v, H', J.os, J.bare, J.base, J.hok, rv, q⟩
  cases fl with
  | ret u =>
    obtain ⟨v, σ', H', J, rv, q⟩ := hs
    exact fin J rv q
  | next =>
    obtain ⟨σ', H', J, q⟩ := hs
    exact fin (v := V.non) (u := Value.none) J rfl q
  | brk =>
    obtain ⟨_, _, _, q⟩ := hs
    exact False.elim q
  | cont =>
    obtain ⟨_, _, _, q⟩ := hs
    exact False.elim q
end L2.Internal
namespace L2.Internal
open PySem PySem.Spec PyProof.Rows
section
variable {X : Cx} {st : Stmt} {rest : List Stmt} {t u : TS}
end
end L2.Internal
namespace L2.Internal
open PySem PySem.Spec PyProof.Rows
section
variable {P : Program} {w : World} {H H' : Hp} {h h' : Heap} {a : Addr} {o : HO}
theorem ObjOk.there (x : ObjOk P w H h a o) : ∃ ob, h.get? a = some ob := by
  cases o with
  | lst xs => obtain ⟨_, _, _, _, e⟩ := x; exact ⟨_, e⟩
  | tup xs => obtain ⟨_, _, _, ⟨ob, e, _⟩⟩ := x; exact ⟨ob, e⟩
  | dK kvs => obtain ⟨_, _, _, _, ob, _, _, e, _⟩ := x; exact ⟨ob, e⟩
  | dT kvs => obtain ⟨_, _, _, _, ob, _, _, e, _⟩ := x; exact ⟨ob, e⟩
  | set S n => obtain ⟨ob, _, _, _, e, _⟩ := x; exact ⟨ob, e⟩
  | ins C dx fs => obtain ⟨_, _, _, e, _⟩ := x; exact ⟨_, e⟩
  | own y => exact x
  | xd fs => obtain ⟨_, ⟨ob, _, _, e, _⟩, _⟩ := x; exact ⟨ob, e⟩
  | rng lo hi => obtain ⟨_, _, _, e⟩ := x; exact ⟨_, e⟩
  | frz ob u => obtain ⟨e, _⟩ := x; exact ⟨_, e⟩
  | tbl ps => exact ⟨_, x⟩
  | met f y => exact ⟨_, x⟩
  | ext φ => exact x.2.1
end

structure Fl (P : Program) (w : World) (outer : List Env) (H : Hp) (s : Shared) (B : Heap) (H' : Hp) (s' : Shared) : Prop where
  os : s'.os = s.os
  bare : AllBare s'.gens
  un : Un (frs outer) [] H H' s.heap s'.heap
  hok : HOk P w H' s'.heap
  stay : B.StaysIn s'.heap
  trk : ∀ b u, H' b = some u → ∃ o, B.get? b = some o
  old : ∀ b o, s.heap.get? b = some o → b ∉ frs outer → ∃ o', B.get? b = some o'
noncomputable def CXE (P : Program) (w : World) : CXT := fun outer H s E e s' => ∃ (ea : Addr) (cls a0 : Value) (B : Heap) (H' : Hp), e = .ref ea ∧ Fl P w outer H s B H' s' ∧ Heap.FlyingW B outer ea cls a0 s'.heap ∧ E cls none H'

section
variable {X : Cx} {pins : List (Addr × Obj)} {σ : St} {H H' : Hp} {s s' : Shared} {B h : Heap}
theorem Inv.nst (I : Inv X pins σ H s) {b : Addr} (h1 : b ≠ X.env.locals) (h2 : b ∉ X.fs) : b ∉ frs X.stack := fun hb => (List.mem_cons.mp (I.stkSub b hb)).elim h1 h2
theorem Inv.oldNe (I : Inv X pins σ H s) {b : Addr} {o : Obj} (e : X.s₀.heap.get? b = some o) : b ≠ X.env.locals := Nat.ne_of_lt (Nat.lt_of_lt_of_le (Heap.lt_size e) I.ok.above)
theorem Inv.flown (I : Inv X pins σ H s) (F : Fl X.prog X.w X.stack H s B H' s') (st : B.StaysIn h) (up : s'.heap.UpToSlots h) : Inv X pins σ H' { s' with heap := h } := by
  have J : Inv X pins σ H' s' := I.call' (ch := []) F.os F.un F.hok F.bare (fun b hb => nomatch hb)
  have ex : ∀ b o o0, s'.heap.get? b = some o → s.heap.get? b = some o0 → b ∉ frs X.stack → h.get? b = some o := fun b o o0 e e0 hb => by
    obtain ⟨o1, e1⟩ := F.old b o0 e0 hb
    have e2 := F.stay b o1 e1
    rw [e] at e2
    cases e2
    exact st b o e1
  have fr : ∀ b o, b ∈ frs X.stack → s'.heap.get? b = some o → ∃ sl, h.get? b = some { o with slots := sl } := fun b o hb e => by
    obtain ⟨_, o1, e1, hd⟩ := J.stack.mem hb
    rw [e] at e1
    cases e1
    exact up b o e hd
  have cellK : ∀ c v, s'.heap.IsCell c v → h.IsCell c v := fun c v ⟨o, ho, hd⟩ => by
    obtain ⟨sl, e⟩ := up c o ho (fun vs z => by rw [hd] at z; cases z)
    exact ⟨_, e, hd⟩
  refine ⟨J.ok, J.os, J.bare, ⟨fun b o e n hf hx => ?_, fun b o e n hf hx => ?_, J.base.free, fun b o e hx => ?_, J.base.tups, J.base.frzs, J.base.tbls⟩, ?_, fun y c e => ?_, J.free, J.freeC, fun p hp => ?_, fun b u e => ?_, J.len⟩
  · exact ex b o o (J.base.keep b o e n hf hx) (I.base.keep b o e n hf hx) (I.nst (I.oldNe e) hf)
  · obtain ⟨sl, e1⟩ := J.base.slot b o e n hf hx
    obtain ⟨_, o1, e2, hd⟩ := J.funs.mem hf
    rw [e1] at e2
    cases e2
    obtain ⟨sl', e3⟩ := up b _ e1 hd
    exact ⟨sl', e3⟩
  · obtain ⟨o', e1⟩ := J.base.there b o e hx
    by_cases hb : b ∈ frs X.stack
    · obtain ⟨sl, e2⟩ := fr b o' hb e1
      exact ⟨_, e2⟩
    · obtain ⟨o0, e0⟩ := I.base.there b o e hx
      exact ⟨o', ex b o' o0 e1 e0 hb⟩
  · obtain ⟨m, hn, hl⟩ := J.loc
    refine ⟨m, up.ns hn, fun i x v e1 e2 e3 => ?_⟩
    obtain ⟨u, r, l⟩ := hl i x v e1 e2 e3
    refine ⟨u, r, ?_⟩
    rcases l with l | ⟨k, c, e, z⟩
    · exact .inl l
    · exact .inr ⟨k, c, e, cellK _ _ z⟩
  · obtain ⟨v, z⟩ := J.cell y c e
    exact ⟨v, cellK _ _ z⟩
  · obtain ⟨e, n, ne, nf, d⟩ := J.pin p hp
    exact ⟨ex p.1 p.2 p.2 e (I.pin p hp).1 (I.nst ne nf), n, ne, nf, d⟩
  · refine (J.hok b u e).stay (fun c v hc q => ?_) (fun _ z => z) fun _ _ z => z
    have tr : ∃ u', H' c = some u' := by
      rcases hc with z | z
      · rw [z]; exact ⟨u, e⟩
      · exact ⟨_, z⟩
    obtain ⟨u', hu⟩ := tr
    obtain ⟨o1, e1⟩ := F.trk c u' hu
    have e2 := F.stay c o1 e1
    rw [q] at e2
    cases e2
    exact st c v e1
theorem Inv.track {ea : Addr} {o : HO} (I : Inv X pins σ H s) (hn : H ea = none) (h0 : X.s₀.heap.get? ea = none) (hL : ea ≠ X.env.locals) (hC : ∀ x c, X.env.cells.lookup x = some c → c ≠ ea) (hP : ∀ p ∈ X.pn ++ pins, p.1 ≠ ea)
    (new : ObjOk X.prog X.w (upd H ea o) s.heap ea o) : Inv X pins σ (upd H ea o) s := by
  have ne : ∀ b u, H b = some u → b ≠ ea := fun b u e z => by rw [z, hn] at e; cases e
  refine ⟨I.ok, I.os, I.bare, ⟨I.base.keep, I.base.slot, fun b ob e n hx => ?_, I.base.there, fun b xs e => ?_, fun b ob u e => ?_, fun b ps e => ?_⟩, I.loc, I.cell, ?_, fun x c e => ?_, fun p hp => ?_, fun b u e => ?_, I.len⟩
  · rw [upd_ne (fun z => by rw [z, h0] at e; cases e)]
    exact I.base.free b ob e n hx
  · have e1 := I.base.tups b xs e
    rw [upd_ne (ne b _ e1)]
    exact e1
  · have e1 := I.base.frzs b ob u e
    rw [upd_ne (ne b _ e1)]
    exact e1
  · obtain ⟨more, e1⟩ := I.base.tbls b ps e
    exact ⟨more, by rw [upd_ne (ne b _ e1)]; exact e1⟩
  · rw [upd_ne (Ne.symm hL)]
    exact I.free
  · rw [upd_ne (hC x c e)]
    exact I.freeC x c e
  · obtain ⟨e, n, n2, nf, d⟩ := I.pin p hp
    exact ⟨e, by rw [upd_ne (hP p hp)]; exact n, n2, nf, d⟩
  · by_cases hb : b = ea
    · subst hb
      rw [upd_same] at e
      cases e
      exact new
    · rw [upd_ne hb] at e
      exact (I.hok b u e).stay (fun _ _ _ q => q) (fun c z => by rw [upd_ne (ne c _ z)]; exact z) fun c xs z => by rw [upd_ne (ne c _ z)]; exact z
theorem unbind_ok {M : Model} {A : Around} {E : Value → Shared → Prop} {i : Nat} {x : Str} {pos : Pos} {Q : Unit → Shared → Prop} (I : Inv X pins σ H s) (hN : X.N.Nodup) (hi : X.N[i]? = some x) (hx : X.env.scope.names.lookup x = some .local)
    (h : ∀ s', Inv X pins (σ.set i none) H s' → Q () s') : wpAny M A (do bindName X.env x .none; unbindBehindTheSuite X.env x pos) Q E s := by
  obtain ⟨m, hn, hl⟩ := id I.loc
  have hcls : (X.env.scope.kind == .class || (X.env.scope.kind == .module && X.env.locals != X.env.globals)) = false := by rw [I.ok.kind]; rfl
  refine wpAny_nameGoes_keeps hx hn hcls fun h' v hn' hs => ?_
  have old : ∀ b o, X.s₀.heap.get? b = some o → h'.get? b = s.heap.get? b := fun b o e => hs.2 b (I.oldNe e)
  have tr : ∀ b u, H b = some u → h'.get? b = s.heap.get? b := fun b u e => hs.2 b (fun z => by rw [z, I.free] at e; cases e)
  refine h _ ⟨I.ok, I.os, I.bare, ⟨fun b o e n hf hx' => ?_, fun b o e n hf hx' => ?_, I.base.free, fun b o e hx' => ?_, I.base.tups, I.base.frzs, I.base.tbls⟩, ⟨_, hn', fun j y v' e1 e2 e3 => ?_⟩, fun y c e => ?_, I.free, I.freeC, fun p hp => ?_, fun b u e => ?_, by simpa using I.len⟩
  · show h'.get? b = _
    rw [old b o e]
    exact I.base.keep b o e n hf hx'
  · show ∃ sl, h'.get? b = _
    rw [old b o e]
    exact I.base.slot b o e n hf hx'
  · show ∃ o', h'.get? b = _
    rw [old b o e]
    exact I.base.there b o e hx'
  · have hj : j ≠ i := fun z => by
      rw [z] at e2
      have hiσ : i < σ.length := by rw [I.len]; exact (List.getElem?_eq_some_iff.mp hi).1
      rw [List.getElem?_set_self hiσ] at e2
      cases e2
    rw [List.getElem?_set_ne (Ne.symm hj)] at e2
    obtain ⟨u, r, q⟩ := hl j y v' e1 e2 e3
    refine ⟨u, r, ?_⟩
    rcases q with ⟨k, e⟩ | ⟨k, c, e, z⟩
    · have yx : y ≠ x := fun e => hj (nodup_ix hN e1 (e ▸ hi))
      exact .inl ⟨k, by show (if y = x then v else m y) = some u; rw [if_neg yx]; exact e⟩
    · exact .inr ⟨k, c, e, z.sameBut hs (I.cne y c e)⟩
  · obtain ⟨w', z⟩ := I.cell y c e
    exact ⟨w', z.sameBut hs (I.cne y c e)⟩
  · obtain ⟨e, n, ne, nf, d⟩ := I.pin p hp
    exact ⟨(hs.2 p.1 ne).trans e, n, ne, nf, d⟩
  · refine (I.hok b u e).stay (fun c v hc q => ?_) (fun _ z => z) fun _ _ z => z
    show h'.get? c = _
    rcases hc with z | z
    · rw [z] at q ⊢
      rw [tr b u e]
      exact q
    · rw [tr c _ z]
      exact q
end

section
variable {P : Program} {w : World} {K : PySem.W.Frag} {mg : Str → Option Value} {base : Heap} {N : List Str} {qual : Str} {scope : Scope} {f : Addr} {cd : Value} {A : Around} {outer : List Env} {s₀ : Shared} {H₀ : Hp} {E : XK}
theorem passE : Passes (CXE P w) (cxOf (CXE P w) P w K mg base N qual scope f cd A outer s₀ H₀ E) E := by
  intro pins σ H s e s' I hx
  obtain ⟨ea, cls, a0, B, H', rfl, F, fl, q⟩ := hx
  show wpAny _ _ (leaving _ (.ref ea)) _ _ s'
  refine wpAny_leaves_onW (outer := outer) I.ok.frames rfl fl fun h' fl' up => ?_
  have J := I.flown F fl'.1 up
  refine ⟨ea, cls, a0, B, H', rfl, ⟨J.os, J.bare, J.base, J.hok, fl'.1, F.trk, fun b o e hb => ?_⟩, fl', q⟩
  obtain ⟨o1, e1⟩ := I.base.there b o e (fun z => nomatch z)
  exact F.old b o1 e1 (I.nst (I.oldNe e) hb)
theorem raiseE {pins : List (Addr × Obj)} {σ : St} {H : Hp} {s : Shared} {h' : Heap} {ea : Addr} {cls : Value} {vs : List Value}
    (I : Inv (cxOf (CXE P w) P w K mg base N qual scope f cd A outer s₀ H₀ E) pins σ H s) (hx : Heap.MadeExcOf s.heap h' ea cls vs) (q : E cls none H) :
    (cxOf (CXE P w) P w K mg base N qual scope f cd A outer s₀ H₀ E).xe (.ref ea) { s with heap := h' } := by
  generalize hX : cxOf (CXE P w) P w K mg base N qual scope f cd A outer s₀ H₀ E = X at I
  have hst : X.stack = envOfC qual scope s₀.heap.objs.size f cd :: outer := by rw [← hX]; rfl
  have B1 : ∀ b o, s.heap.get? b = some o → b ∉ frs X.stack → (PySem.W.hideAll s.heap (frs X.stack)).get? b = some o := fun b o e hb => PySem.W.hideAll_get _ e hb
  have F : Fl X.prog X.w X.stack H s (PySem.W.hideAll s.heap (frs X.stack)) H { s with heap := h' } := by
    refine ⟨rfl, I.bare, Un.kept hx.keeps, I.hok.kept hx.keeps, fun b o e => hx.keeps b o (PySem.W.of_hideAll _ e), fun b u e => ?_, fun b o e hb => ⟨o, B1 b o e hb⟩⟩
    obtain ⟨ob, eo⟩ := (I.hok b u e).there
    exact ⟨ob, B1 b ob eo fun hb => by rw [I.stkFree b hb] at e; cases e⟩
  have fr : s.heap.FunFrames (PySem.W.hideAll s.heap (frs X.stack)) X.stack := PySem.W.funFrames_hide I.stack fun env he a ha => List.mem_filterMap.mpr ⟨env, he, ha⟩
  have hA : X.A.frames = some X.stack := I.ok.frames
  rw [hst] at fr hA F B1
  subst hX
  show wpAny _ _ (leaving _ (.ref ea)) _ _ _
  refine wpAny_leaves_madeW (outer := outer) hA rfl (fun b o e => PySem.W.of_hideAll _ e) fr hx fun h'' t fl _ _ up => ?_
  have J := I.flown F fl.1 up
  refine ⟨ea, cls, _, _, H, rfl, ⟨J.os, J.bare, J.base, J.hok, fl.1, F.trk, fun b o e hb => ?_⟩, fl, q⟩
  obtain ⟨o1, e1⟩ := I.base.there b o e (fun z => nomatch z)
  exact F.old b o1 e1 (I.nst (I.oldNe e) hb)
end

theorem exc_obj {K : PySem.W.Frag} {h : Heap} {C : Addr} {bmB : List Value} {newId : String} (hk : K.In h) (z : PySem.W.excIn K C bmB newId = true) :
    ∃ bm N nm q bs hdct sn sub ab col dd k0 k1 k2 k3 k5 mN, h.get? C = some (excClassObj nm q C N bs bm hdct sn sub ab col dd k0 k1 k2 k3 k5 newId) ∧ h.Ns N mN ∧ mN "__init__" = none ∧ OwnTail h bmB bm := by
  unfold PySem.W.excIn at z
  split at z
  case h_2 => cases z
  rename_i d1 c1 l1 look
  split at z
  case h_2 => cases z
  rename_i C1 tail a0 a1 a2 a3 nid a5 hmro hslots
  simp only [Bool.and_eq_true, beq_iff_eq, Bool.not_eq_true'] at z
  obtain ⟨⟨⟨⟨⟨rfl, rfl⟩, z3⟩, z4⟩, z5⟩, z6⟩ := z
  obtain ⟨x1, x2, x3, x4, x5, x6, x7, x8, x9, x10, x11⟩ := c1
  dsimp only at hmro z3 z5 z6
  subst hmro z3
  obtain ⟨ll⟩ := l1
  have hll : ll = [a0, a1, a2, a3, some (.builtin nid), a5] := hslots
  subst hll
  exact ⟨tail, x4, x1, x5, x2, x6, x7, x8, x9, x10, d1, a0, a1, a2, a3, a5, _, hk _ _ look, .of_isNs (PySem.W.isNs_of_in hk z5), PySem.W.nsMap_none_of_in hk z5 z6, PySem.W.tail_of_in hk z4⟩
noncomputable def VEbm : List Value := [.type "ValueError", .type "Exception", .type "BaseException", .type "object"]
noncomputable abbrev ExcV (K : PySem.W.Frag) (C : Addr) : Prop := PySem.W.excIn K C VEbm "ValueError.__new__" = true
section
variable {X : Cx} {C : Addr} {E : XK} {x : Str} {np cpos pos : Pos} {e : Expr} {es : List Expr} {t : TA}
noncomputable def Leaves (X : Cx) (E : XK) : Prop := ∀ (pins : List (Addr × Obj)) (σ : St) (H : Hp) (s : Shared) (h' : Heap) (ea : Addr) (cls : Value) (vs : List Value), Inv X pins σ H s → Heap.MadeExcOf s.heap h' ea cls vs → E cls none H → X.xe (.ref ea) { s with heap := h' }
theorem leavesE {P : Program} {w : World} {K : PySem.W.Frag} {mg : Str → Option Value} {base : Heap} {N : List Str} {qual : Str} {scope : Scope} {f : Addr} {cd : Value} {A : Around} {outer : List Env} {s₀ : Shared} {H₀ : Hp} {E : XK} :
    Leaves (cxOf (CXE P w) P w K mg base N qual scope f cd A outer s₀ H₀ E) E := fun _ _ _ _ _ _ _ _ I hx q => raiseE I hx q
noncomputable def tRaise (C : Addr) (E : XK) (t : TA) : TS := fun _ σ H => t σ H fun vs H1 => vs.length ≤ sizeLine ∧ E (.ref C) none H1
theorem ps_raise (hc : X.calm = true) (hl : Leaves X E) (xc : ExcV X.K C) (hg : Gl X x) (hm : X.mg x = some (.ref C)) (ha : PA X (e :: es) t) (hst : autoParam (starEach (e :: es) X.env = (false, eval e X.env) :: starEach es X.env) L2.Internal.auR._auto_1)
    (hpl : autoParam ((backTo cpos (starEach es X.env)).any (·.1) = false) L2.Internal.auR._auto_1) (hd : autoParam ((x == ("__debug__" : Str)) = false) L2.Internal.auD._auto_1) : PS X (.Raise (some (.Call (.Name x np) (e :: es) [] cpos)) none pos) (tRaise C E t) := by
  intro pins s σ H D I h
  obtain ⟨tl, N, nm, q, bs, hdct, sn, sub, ab, col, dd, k0, k1, k2, k3, k5, mN, hC, hN, hni, T⟩ := exc_obj I.mod.kin xc
  have kp : ∀ {s1 : Shared} {H1 : Hp}, Inv X pins σ H1 s1 → ∀ b o, X.base.get? b = some o → s1.heap.get? b = some o := fun I1 => I1.bk
  refine wpAny_Raise_call_subT (C := C) (nm := nm) (q := q) (N := N) (bs := bs) (bm := tl) (hdct := hdct) (sn := sn) (sub := sub) (ab := ab) (col := col) (dd := dd) (k0 := k0) (k1 := k1) (k2 := k2) (k3 := k3) (k5 := k5)
    PySem.F.excBase_ValueError (mN := mN) (T.hasType PySem.F.excBase_ValueError.hasBase) (I.ok.hd hc) ?_ hni (ld_glob I hg hm ⟨rfl, ?_⟩ hd)
  · rw [hst]
    show (false || (backTo cpos (starEach es X.env)).any (·.1)) = false
    rw [hpl]
    rfl
  have h2 := ha cpos pins s σ H _ I h
  rw [hst] at h2 ⊢
  refine Calls.evalArgs_plain (wpAny_mono h2 (fun us s1 h3 => ?_) fun _ _ z => z)
  obtain ⟨vs, H1, I1, r, hz, q1⟩ := h3
  refine ⟨rfl, by rw [← r.length]; exact hz, kp I1 _ _ hC, hN.keeps (kp I1), T.keeps (kp I1), fun h' ea hx => hl pins σ H1 s1 h' ea _ us I1 hx q1⟩
end

section
variable {P : Program} {w : World} {K : PySem.W.Frag} {mg : Str → Option Value} {base : Heap}
theorem Fun.okE {x qual : Str} {st : Stmt} {f : Addr} {fd : FuncData} {N ps : List Str} {k : Nat} {sp : Sp} (F : Fun K x qual st f fd) (S : FnScope N ps (defScope st)) (len : ∀ vs H Q E, sp vs H Q E → vs.length = ps.length)
    (hbody : ∀ (cdv : Value) (A : Around) (outer : List Env) (s : Shared) (H : Hp) (vs : List V) (Q : VK) (E : XK), Room k (A.deeper (envOfC qual (defScope st) s.heap.objs.size f cdv)) → sp vs H Q E →
      ∃ t, PSs (cxOf (CXE P w) P w K mg base N qual (defScope st) f cdv A outer s H E) (defBody st) t ∧ t { nx := fun _ H' => Q .non H', rt := Q } (start N vs) H) : FnOk P w K mg base (CXE P w) (k + 1) f fd ps sp := by
  obtain ⟨oc, od, kV, doc, pm, an, cdv, ct, osl, efd, lk, hcd⟩ := F.ex
  subst efd
  exact fn_of lk hcd S len (fun A outer s H vs Q E hr h => hbody cdv A outer s H vs Q E hr h)
end

noncomputable def excO (ea : Addr) (cls : Value) : HO := .ext fun h => ∃ o, h.get? ea = some o ∧ o.cls = cls
theorem excO_ok {P : Program} {w : World} {H : Hp} {h : Heap} {ea : Addr} {cls : Value} {o : Obj} (e : h.get? ea = some o) (c : o.cls = cls) : ObjOk P w H h ea (excO ea cls) :=
  ⟨⟨o, e, c⟩, ⟨o, e⟩, fun h1 h2 ⟨o1, e1, c1⟩ k => ⟨o1, k o1 e1, c1⟩⟩
noncomputable abbrev Cx.hand (X : Cx) (ea : Addr) : Cx := { X with A := X.A.mark (some (.ref ea)), calm := false, xe := fun _ _ => False }
section
variable {X : Cx} {pins : List (Addr × Obj)} {σ : St} {H : Hp} {s : Shared}
theorem Inv.hand (I : Inv X pins σ H s) (ea : Addr) : Inv (X.hand ea) pins σ H s :=
  ⟨⟨I.ok.mod, I.ok.kind, I.ok.glob, I.ok.blt, I.ok.above, I.ok.inj, I.ok.has, I.ok.cab, (fun z => nomatch z), I.ok.frames, I.ok.stk, I.ok.exf, I.ok.bs, I.ok.bsz, I.ok.noex, I.ok.exfs, I.ok.funs, I.ok.frf⟩, I.os, I.bare, I.base, I.loc, I.cell, I.free, I.freeC, I.pin, I.hok, I.len⟩
theorem Inv.unhand {ea : Addr} (I : Inv (X.hand ea) pins σ H s) (ok : X.Ok) : Inv X pins σ H s :=
  ⟨ok, I.os, I.bare, I.base, I.loc, I.cell, I.free, I.freeC, I.pin, I.hok, I.len⟩
end
section
variable {X : Cx} {CX : CXT} {k : Nat} {f Y : Addr} {fd : FuncData} {ps : List Str} {sp : Sp} {dvs : List V} {ds : List Value} {E : XK} {x y n : Str} {p pos pos' py hpos tpos : Pos} {e : Expr} {es : List Expr} {t : TA} {b₀ : Stmt} {body : List Stmt} {tb : TS} {i : Nat}
theorem run_fnE {E' : Value → Shared → Prop} {pins : List (Addr × Obj)} {σ : St} {H : Hp} {s : Shared} {Q : VK} {us : List Value} {vs : List V} (F : FnOk X.prog X.w X.K X.mg X.base CX k f fd ps sp) (hr : Room k X.A) (hb : Binds X.K fd ps ds) (hd : Vals dvs ds)
    (hx : ∀ e s', CX X.stack H s E e s' → E' e s') (I : Inv X pins σ H s) (r : Vals vs us) (h : sp (vs ++ dvs) H Q E) : wpAny (model X.prog X.w) X.A (call (.ref f) us) (EP X pins σ Q) E' s := by
  have r2 : Vals (vs ++ dvs) (us ++ ds) := r.append hd
  have hl : (us ++ ds).length = ps.length := by rw [← r2.length]; exact F.len _ _ _ _ h
  refine wpAny_call (codeAny_mono (F.run X.A X.stack s H ⟨us, []⟩ (us ++ ds) (vs ++ dvs) Q E hr I.env0 (hb s us I.kIn hl) r2 h) fun r s' hq => ?_)
  cases r with
  | error e => exact hx e s' hq
  | ok fl =>
    cases fl with
    | ret u => exact I.after hq
    | next => exact False.elim hq
    | brk => exact False.elim hq
    | cont => exact False.elim hq
theorem caught {pins : List (Addr × Obj)} {σ : St} {H : Hp} {s s' : Shared} {D : Ends} {ev : Value} (hN : X.N.Nodup) (hi : X.N[i]? = some n) (hn : X.env.scope.names.lookup n = some .local) (hgY : Gl X y) (hmY : X.mg y = some (.ref Y)) (hy : (y == ("__debug__" : Str)) = false)
    (hfr : X.stack = X.env :: X.outer ∧ X.env.frame = some X.env.locals) (hex : X.ex = []) (hb : ∀ ea, PSs (X.hand ea) (b₀ :: body) tb) (I : Inv X pins σ H s)
    (hx : CXE X.prog X.w X.stack H s (fun cls _ H2 => PySem.W.exmOne X.K cls (.ref Y) = some true ∧ ∀ ea, H2 ea = none → tb { nx := fun σ' H' => D.nx (σ'.set i none) H', rt := D.rt, bk := fun σ' H' => D.bk (σ'.set i none) H', ct := fun σ' H' => D.ct (σ'.set i none) H' } (σ.set i (some (.ref ea))) (upd H2 ea (excO ea cls))) ev s') :
    wpAny (model X.prog X.w) X.A (noteFrame ev X.env) (fun _ s₂ => wpAny (model X.prog X.w) X.A (setFlight ev none) (fun _ s₃ => wpAny (model X.prog X.w) X.A (handleBy ev X.env [.ExceptHandler (some (.Name y py)) (some n) (b₀ :: body) hpos]) (SP.Internal X pins D) X.xe s₃) X.xe s₂) X.xe s' := by
  obtain ⟨ea, cls, a0, B, H', rfl, F, fl, hm, q⟩ := hx
  have hA : X.A.frames = some (X.env :: X.outer) := by rw [← hfr.1]; exact I.ok.frames
  have fl' := fl
  rw [hfr.1] at fl'
  refine wpAny_looks_onW (outer := X.outer) hA hfr.2 fl' fun h4 held4 up4 => ?_
  refine wpAny_landsW held4 fun h5 fl5 up5 => ?_
  have I5 := I.flown F fl5.1 (up4.trans up5)
  obtain ⟨ob5, eo5, ec5⟩ := fl5.there
  have LT : PySem.W.Looks (model X.prog X.w) h5 (typeOf (.ref ea)) cls := by
    have z : PySem.W.Looks (model X.prog X.w) h5 (typeOf (.ref ea)) ob5.cls := (PySem.W.Looks.ld eo5).andThen .now
    rw [ec5] at z
    exact z
  refine wpAny_handleBy_cons (codeAny_handlers_test (ld_glob (X := X.hand ea) (I5.hand ea) hgY hmY ?_ hy)) (by intro z; cases z)
  refine (PySem.W.exm_one I5.kIn LT hm) _ _ _ _ (fun _ _ z => z) ?_
  refine codeAny_handlers_suite_as ?_
  refine lands_againW fl5 fun h6 fl6 up6 => ?_
  have I6 := I.flown F fl6.1 ((up4.trans up5).trans up6)
  obtain ⟨oe, ws, eo6, ec6, ed6, _⟩ := fl6.first
  have Bn : B.get? ea = none := fl6.2.1
  have hn' : H' ea = none := by
    cases z : H' ea with
    | none => rfl
    | some u =>
      obtain ⟨o1, e1⟩ := F.trk ea u z
      rw [Bn] at e1
      cases e1
  have nfr : ea ∉ frs X.stack := fun z => by
    obtain ⟨_, o1, e1, hd⟩ := I6.stack.mem z
    have e2 : h6.get? ea = some o1 := e1
    rw [eo6] at e2
    cases e2
    exact hd ws ed6
  have olds : ∀ o, s.heap.get? ea = some o → False := fun o e => by
    obtain ⟨o1, e1⟩ := F.old ea o e nfr
    rw [Bn] at e1
    cases e1
  have I7 : Inv X pins σ (upd H' ea (excO ea cls)) { s' with heap := h6 } := by
    refine I6.track hn' ?_ ?_ ?_ ?_ (excO_ok eo6 ec6)
    · cases z : X.s₀.heap.get? ea with
      | none => rfl
      | some o =>
        obtain ⟨o1, e1⟩ := I.base.there ea o z (by rw [hex]; exact fun y => nomatch y)
        exact (olds o1 e1).elim
    · intro z
      obtain ⟨m, ⟨o, _, _, ho, _⟩, _⟩ := I.loc
      rw [← z] at ho
      exact olds o ho
    · intro x c e z
      obtain ⟨v, o, ho, _⟩ := I.cell x c e
      rw [z] at ho
      exact olds o ho
    · intro p hp z
      have e := (I.pin p hp).1
      rw [z] at e
      exact olds _ e
  refine store_ok (X := X.hand ea) (i := i) (v := .ref ea) (I7.hand ea) hN hi (.inl hn) rfl (fun s8 I8 => ?_) (.inr hn)
  refine wpAny_mono (hb ea pins s8 _ _ _ I8 (q ea hn')) (fun fw s9 h9 => ?_) fun _ _ z => z.elim
  have fin : ∀ {σ9 : St} {H9 : Hp} (Z : Shared → Prop), Inv (X.hand ea) pins σ9 H9 s9 → (∀ s10, Inv X pins (σ9.set i none) H9 s10 → Z s10) → wpAny (model X.prog X.w) X.A (do bindName X.env n .none; unbindBehindTheSuite X.env n hpos) (fun _ s10 => Z s10) X.xe s9 :=
    fun Z I9 hz => unbind_ok (I9.unhand I.ok) hN hi hn hz
  cases fw with
  | next =>
    obtain ⟨σ9, H9, I9, q9⟩ := h9
    exact fin (fun s10 => SP.Internal X pins D .next s10) I9 fun s10 I10 => ⟨_, H9, I10, q9⟩
  | brk =>
    obtain ⟨σ9, H9, I9, q9⟩ := h9
    exact fin (fun s10 => SP.Internal X pins D .brk s10) I9 fun s10 I10 => ⟨_, H9, I10, q9⟩
  | cont =>
    obtain ⟨σ9, H9, I9, q9⟩ := h9
    exact fin (fun s10 => SP.Internal X pins D .cont s10) I9 fun s10 I10 => ⟨_, H9, I10, q9⟩
  | ret u =>
    obtain ⟨v9, σ9, H9, I9, r9, q9⟩ := h9
    exact fin (fun s10 => SP.Internal X pins D (.ret u) s10) I9 fun s10 I10 => ⟨v9, _, H9, I10, r9, q9⟩
noncomputable def tTryAs (K : PySem.W.Frag) (Y : Addr) (sp : Sp) (dvs : List V) (i : Nat) (t : TA) (tb : TS) : TS := fun D σ H => t σ H fun vs H1 => sp (vs ++ dvs) H1 (fun _ H2 => D.nx σ H2)
  (fun cls _ H2 => PySem.W.exmOne K cls (.ref Y) = some true ∧ ∀ ea, H2 ea = none → tb { nx := fun σ' H' => D.nx (σ'.set i none) H', rt := D.rt, bk := fun σ' H' => D.bk (σ'.set i none) H', ct := fun σ' H' => D.ct (σ'.set i none) H' } (σ.set i (some (.ref ea))) (upd H2 ea (excO ea cls)))
theorem ps_tryAs (F : FnOk X.prog X.w X.K X.mg X.base (CXE X.prog X.w) k f fd ps sp) (hr : Room k X.A) (hg : Gl X x) (hm : X.mg x = some (.ref f)) (hk : PySem.W.keepIn X.K (.ref f) = true) (hbd : Binds X.K fd ps ds) (hd : Vals dvs ds)
    (ha : PA X.nox (e :: es) t) (hN : X.N.Nodup) (hi : X.N[i]? = some n) (hn : X.env.scope.names.lookup n = some .local) (hgY : Gl X y) (hmY : X.mg y = some (.ref Y))
    (hfr : X.stack = X.env :: X.outer ∧ X.env.frame = some X.env.locals) (hex : X.ex = []) (hb : ∀ ea, PSs (X.hand ea) (b₀ :: body) tb)
    (hdb : autoParam ((x == ("__debug__" : Str)) = false) L2.Internal.auD._auto_1) (hdy : autoParam ((y == ("__debug__" : Str)) = false) L2.Internal.auD._auto_1) (he : autoParam (starEach (e :: es) X.env = (false, eval e X.env) :: starEach es X.env) L2.Internal.auR._auto_1) (hpl : autoParam ((backTo pos (starEach es X.env)).any (·.1) = false) L2.Internal.auR._auto_1)
    (hs : autoParam (swapsWith (.Call (.Name x p) (e :: es) [] pos) none pos'.line X.env = pure false) L2.Internal.auR._auto_1) :
    PS X (.Try [.Expr (.Call (.Name x p) (e :: es) [] pos) pos'] [.ExceptHandler (some (.Name y py)) (some n) (b₀ :: body) hpos] [] [] tpos) (tTryAs X.K Y sp dvs i t tb) := by
  intro pins s σ H D I h
  refine wpAny_Try_except (wpAny_execs_cons (wpAny_Expr_any (wpAny_Call_Name_kw (ld_glob I hg hm ?_ hdb)) I.quiet hs))
  refine PySem.W.callWith_K (h₀ := X.base) I.ok.mod.kin hk (wpAny_mono (ha pos pins s σ H _ (I.wish _) h) (fun us s1 ⟨vs, H1, I1, r, q⟩ => ⟨I1.kIn, ?_⟩) fun _ _ z => z.elim) he hpl
  have I1' : Inv X pins σ H1 s1 := I1.unwish
  refine wpAny_mono (run_fnE F hr hbd hd (fun ev s' hx => caught (py := py) (hpos := hpos) hN hi hn hgY hmY hdy hfr hex hb I1' hx) I1' r q) (fun u s2 ⟨v2, H2, I2, _, q2⟩ => ?_) fun _ _ z => z
  exact wpAny_execs_nil (wpAny_execs_nil ⟨σ, H2, I2, q2⟩)
end

section
variable {X : Cx} {e : Expr} {es : List Expr} {te : TE} {pos : Pos}
noncomputable def tFV (te : TE) : TE := fun σ H Q => te σ H fun v H1 => (∃ x, v = .str x ∧ x.length ≤ sizeLine ∧ Q (.str x) H1) ∨ ∃ i : Int, v = .int i ∧ i.natAbs.log2 < 1920 ∧ Q (.str (toString i)) H1
theorem pe_fv (he : PE X e te) : PE X (.FormattedValue e (-1) none pos) (tFV te) := by
  intro pins s σ H Q I h
  refine wpAny_FormattedValue_plain (thn (he pins s σ H _ I h) fun u s1 ⟨v, H1, I1, r, q⟩ => ?_)
  rcases q with ⟨x, rfl, hz, q⟩ | ⟨i, rfl, hl, q⟩
  · obtain ⟨t, rfl⟩ := r
    exact formatField_str (fun t' tk => ⟨.str x, H1, I1.tok tk, ⟨t', rfl⟩, q⟩) hz
  · obtain ⟨t, rfl⟩ := r
    exact wpAny_formatField_int hl ⟨.str _, H1, I1.tok _, ⟨_, rfl⟩, q⟩
noncomputable def tFVr (te : TE) : TE := fun σ H Q => te σ H fun v H1 => ∃ x, v = .str x ∧ (reprText x).length ≤ sizeLine ∧ Q (.str (reprText x)) H1
theorem pe_fvr (he : PE X e te) : PE X (.FormattedValue e 114 none pos) (tFVr te) := by
  intro pins s σ H Q I h
  refine wpAny_FormattedValue_repr (thn (he pins s σ H _ I h) fun u s1 ⟨v, H1, I1, r, q⟩ => ?_)
  obtain ⟨x, rfl, hz, q⟩ := q
  obtain ⟨t, rfl⟩ := r
  exact wpAny_pyReprObj_str (formatField_str (fun t' tk => ⟨.str _, H1, I1.tok tk, ⟨t', rfl⟩, q⟩) hz) hz
noncomputable def PJ (X : Cx) (es : List Expr) (t : Str → TE) : Prop :=
  ∀ (pins : List (Addr × Obj)) (s : Shared) (σ : St) (H : Hp) (Q : VK) (acc : Str), Inv X pins σ H s → t acc σ H Q → wpAny (model X.prog X.w) X.A (joinParts acc (evalEach es X.env)) (EP X pins σ Q) X.xe s
noncomputable def tJ0 : Str → TE := fun acc _ H Q => acc.length ≤ sizeLine ∧ Q (.str acc) H
noncomputable def tJ (te : TE) (t : Str → TE) : Str → TE := fun acc σ H Q => te σ H fun v H1 => ∃ y, v = .str y ∧ (acc ++ y).length ≤ sizeLine ∧ t (acc ++ y) σ H1 Q
theorem pj_nil : PJ X [] tJ0 := fun pins s σ H Q acc I h => joinParts_nil ⟨.str acc, H, I.tok _, ⟨_, rfl⟩, h.2⟩ h.1
theorem pj_cons {t : Str → TE} (he : PE X e te) (hr : PJ X es t) : PJ X (e :: es) (tJ te t) := by
  intro pins s σ H Q acc I h
  refine joinParts_cons (thn (he pins s σ H _ I h) fun u s1 ⟨v, H1, I1, r, q⟩ => ?_)
  obtain ⟨y, rfl, hz, q⟩ := q
  obtain ⟨t', rfl⟩ := r
  exact ⟨hz, hr pins s1 σ H1 Q _ I1 q⟩
theorem pe_join {e2 : Expr} {t : Str → TE} (h : PJ X (e :: e2 :: es) t) : PE X (.JoinedStr (e :: e2 :: es) pos) (t Str.empty) := fun pins s σ H Q I hw => JoinedStr_many (h pins s σ H Q _ I hw)
end
end L2.Internal
namespace L2.Internal
open PySem PySem.Spec PyProof.Rows
theorem passF {P : Program} {w : World} {X : Cx} : Passes (CXE P w) X E0 := fun _ _ _ _ _ _ _ h => by
  obtain ⟨_, _, _, _, _, _, _, _, z⟩ := h
  exact z.elim
section
variable {X : Cx}
theorem call_int_str : CallR X (.type "int") (fun xs H Q => ∃ x n, xs = [.str x] ∧ intText? x = some n ∧ x.length ≤ 640 ∧ Q (.int n) H) := by
  intro pins s σ H xs us Q I r h
  obtain ⟨x, n, rfl, hn, hl, q⟩ := h
  obtain ⟨u, rfl, rx⟩ := vals1 r
  obtain ⟨t, rfl⟩ := rx
  exact PySem.W.KIN.call_text hn hl ⟨.int n, H, I.tok _, ⟨_, rfl⟩, q⟩
end
inductive Dt where
  | flat (v : V)
  | tup (l : List Dt)
  | lst (l : List Dt)
mutual
inductive At (K : PySem.W.Frag) (H : Hp) : V → Dt → Prop where
  | flat {v : V} (h : flatV v = true) : At K H v (.flat v)
  | tup {a : Addr} {xs : List V} {ds : List Dt} (h : SqT K H a xs) (hs : Ats K H xs ds) : At K H (.ref a) (.tup ds)
  | lst {a : Addr} {xs : List V} {ds : List Dt} (h : SqL K H a xs) (hs : Ats K H xs ds) : At K H (.ref a) (.lst ds)
inductive Ats (K : PySem.W.Frag) (H : Hp) : List V → List Dt → Prop where
  | nil : Ats K H [] []
  | cons {x : V} {d : Dt} {xs : List V} {ds : List Dt} (h : At K H x d) (hs : Ats K H xs ds) : Ats K H (x :: xs) (d :: ds)
end
mutual
noncomputable def eqD : Dt → Dt → Bool
  | .flat a, .flat b => eqV a b
  | .tup l, .tup m => eqDs l m
  | .lst l, .lst m => eqDs l m
  | _, _ => false
noncomputable def eqDs : List Dt → List Dt → Bool
  | [], [] => true
  | x :: xs, y :: ys => eqD x y && eqDs xs ys
  | _, _ => false
end
mutual
noncomputable def depD : Dt → Nat
  | .flat _ => 0
  | .tup l => depDs l + 1
  | .lst l => depDs l + 1
noncomputable def depDs : List Dt → Nat
  | [] => 0
  | x :: xs => max (depD x) (depDs xs)
end
theorem Ats.length {K : PySem.W.Frag} {H : Hp} : ∀ {xs : List V} {ds : List Dt}, Ats K H xs ds → xs.length = ds.length
  | _, _, .nil => rfl
  | _, _, .cons _ t => by rw [List.length_cons, List.length_cons, Ats.length t]
theorem Ats.get {K : PySem.W.Frag} {H : Hp} : ∀ {xs : List V} {ds : List Dt} {j : Nat} {x : V}, Ats K H xs ds → xs[j]? = some x → ∃ d, ds[j]? = some d ∧ At K H x d
  | _, _, 0, _, .cons h _, e => ⟨_, rfl, by cases e; exact h⟩
  | _, _, j + 1, _, .cons _ t, e => Ats.get (j := j) t e
  | _, _, _, _, .nil, e => by simp at e
theorem eqDs_len : ∀ (l m : List Dt), l.length ≠ m.length → eqDs l m = false
  | [], [], h => absurd rfl h
  | x :: xs, y :: ys, h => by
    rw [eqDs, eqDs_len xs ys (fun e => h (by rw [List.length_cons, List.length_cons, e])), Bool.and_false]
  | [], y :: ys, _ => by rw [eqDs]; all_goals simp
  | x :: xs, [], _ => by rw [eqDs]; all_goals simp
noncomputable def eqDat (l m : List Dt) (j : Nat) : Bool := match l[j]?, m[j]? with
  | some a, some b => eqD a b
  | _, _ => false
theorem eqDs_range : ∀ (l m : List Dt), l.length = m.length → ((List.range l.length).all fun j => eqDat l m j) = eqDs l m
  | [], [], _ => by rw [eqDs]; rfl
  | x :: xs, y :: ys, h => by
    have ih := eqDs_range xs ys (by simpa using h)
    rw [List.length_cons, List.range_succ_eq_map, List.all_cons, List.all_map, eqDs, ← ih]
    rfl
  | [], _ :: _, h => by simp at h
  | _ :: _, [], h => by simp at h
theorem depDs_get : ∀ {l : List Dt} {j : Nat} {a : Dt}, l[j]? = some a → depD a ≤ depDs l
  | x :: xs, 0, a, e => by cases e; rw [depDs]; exact Nat.le_max_left ..
  | x :: xs, j + 1, a, e => by rw [depDs]; exact Nat.le_trans (depDs_get (j := j) e) (Nat.le_max_right ..)
  | [], _, _, e => by simp at e
theorem flat_same {v : V} (h : flatV v = true) : eqV v v = true := by
  cases v with
  | non => rfl
  | bl b => show (b == b) = true; simp
  | int i => show (i == i) = true; simp
  | str x => show (x == x) = true; simp
  | _ => exact absurd h Bool.false_ne_true
section
variable {X : Cx} {pins : List (Addr × Obj)} {σ : St} {H : Hp} {s : Shared}
noncomputable def Els (K : PySem.W.Frag) (H : Hp) (A : Around) (s : Shared) (ds es : List Dt) : Prop :=
  ∀ (j : Nat) (d1 d2 : Dt) (x y : V) (u v : Value), ds[j]? = some d1 → es[j]? = some d2 → RelV x u → RelV y v → At K H x d1 → At K H y d2 → SeqAt.EqAt A s u v (eqD d1 d2)
theorem els {A : Around} {xs ys : List V} {its its2 : List Value} {ds es : List Dt} (r : Vals xs its) (r2 : Vals ys its2) (hs : Ats X.K H xs ds) (hs' : Ats X.K H ys es) (EL : Els X.K H A s ds es) :
    ∀ j (h1 : j < its.toArray.size) (h2 : j < its2.toArray.size), SeqAt.EqAt A s its.toArray[j] its2.toArray[j] (eqDat ds es j) := fun j h1 h2 => by
  have l1 := r.length
  have l2 := r2.length
  have h1' : j < xs.length := by simp only [List.size_toArray] at h1; omega
  have h2' : j < ys.length := by simp only [List.size_toArray] at h2; omega
  obtain ⟨w1, e1, q1⟩ := r.get (List.getElem?_eq_getElem h1')
  obtain ⟨w2, e2, q2⟩ := r2.get (List.getElem?_eq_getElem h2')
  obtain ⟨d1, f1, p1⟩ := hs.get (List.getElem?_eq_getElem h1')
  obtain ⟨d2, f2, p2⟩ := hs'.get (List.getElem?_eq_getElem h2')
  have g1 : its.toArray[j] = w1 := by simpa using (List.getElem?_eq_some_iff.mp e1).2
  have g2 : its2.toArray[j] = w2 := by simpa using (List.getElem?_eq_some_iff.mp e2).2
  have ed : eqDat ds es j = eqD d1 d2 := by unfold eqDat; rw [f1, f2]
  rw [g1, g2, ed]
  exact EL j d1 d2 _ _ _ _ f1 f2 q1 q2 p1 p2
theorem tup_ans {ds es : List Dt} {n m : Nat} (h1 : n = ds.length) (h2 : m = es.length) : ((List.range (min n m)).all (eqDat ds es) && n == m) = eqD (.tup ds) (.tup es) := by
  subst h1 h2
  rw [eqD]
  by_cases hl : ds.length = es.length
  · rw [← eqDs_range ds es hl, ← hl, Nat.min_self]
    simp
  · rw [eqDs_len ds es hl, beq_eq_false_iff_ne.mpr hl, Bool.and_false]
theorem rc_tup {A : Around} {a b : Addr} {xs ys : List V} {ds es : List Dt} (I : Inv X pins σ H s) (h : SqT X.K H a xs) (hs : Ats X.K H xs ds) (h' : SqT X.K H b ys) (hs' : Ats X.K H ys es) (hu : A.units < cLine) (EL : Els X.K H A.in1 s ds es) :
    SeqAt.RcAt A s (.ref a) (.ref b) (eqD (.tup ds) (.tup es)) ∧ SeqAt.RcNeAt A s (.ref a) (.ref b) (!eqD (.tup ds) (.tup es)) := by
  obtain ⟨its, r, pl, _⟩ := I.tuple h
  obtain ⟨its2, r2, pl2, _⟩ := I.tuple h'
  have e := els r r2 hs hs' EL
  have l1 : its.toArray.size = ds.length := by rw [List.size_toArray, ← r.length, hs.length]
  have l2 : its2.toArray.size = es.length := by rw [List.size_toArray, ← r2.length, hs'.length]
  have k1 := SeqAt.RcAt.tuples (A := A) (s := s) pl pl2 hu e
  have k2 := SeqAt.RcNeAt.tuples (A := A) (s := s) pl pl2 hu e
  rw [tup_ans l1 l2] at k1 k2
  exact ⟨k1, k2⟩
end
section
variable {X : Cx}
end
end L2.Internal
namespace L2.Internal
open PySem PySem.Spec PyProof.Rows
noncomputable def KDict (P : Program) (w : World) (K : PySem.W.Frag) (a : Addr) (kvs : List (Key × V)) : Prop := (a == sysModules) = false ∧ ∃ vs, KV kvs vs ∧ ∀ h : Heap, K.In h → h.DictOf (mixKind P w) a vs
theorem kdict_of {P : Program} {w : World} {K : PySem.W.Frag} {a : Addr} {es : Array DictEntry} {n : Nat} {l : List (Str × Tok × Addr)} (ha : (a == sysModules) = false) (hl : K.lookup a = some ⟨.type "dict", none, .dict es n, #[]⟩)
    (he : es.toList = l.map fun p => ⟨PyData.keyHash w.params p.1, .str p.1 p.2.1, .ref p.2.2⟩) (hn : (l.map (·.1)).Nodup) : KDict P w K a (l.map fun p => (Sum.inr p.1, V.ref p.2.2)) := by
  refine ⟨ha, l.map fun p => (Sum.inr p.1, Value.ref p.2.2), ?_, fun h hk => ?_⟩
  · clear he hn
    induction l with
    | nil => exact .nil
    | cons p r ih => exact .cons ⟨rfl, rfl⟩ ih
  · refine ⟨_, es, n, hk _ _ hl, ⟨rfl, rfl, rfl⟩, rfl, fun e hm => ?_, ?_, ?_⟩
    · have hm' : e ∈ es.toList := by simpa using hm
      rw [he] at hm'
      obtain ⟨p, _, rfl⟩ := List.mem_map.mp hm'
      exact ⟨Sum.inr p.1, keyIs_str p.1 p.2.1, rfl⟩
    · rw [he]
      clear he hn
      induction l with
      | nil => exact .nil
      | cons p r ih => exact .cons (keyIs_str p.1 p.2.1) rfl ih
    · rw [List.map_map]
      have e : (List.map ((fun (x : Key × Value) => x.1) ∘ fun (p : Str × Tok × Addr) => ((Sum.inr p.1 : Key), Value.ref p.2.2)) l) = (l.map (·.1)).map (Sum.inr : Str → Key) := by
        rw [List.map_map]
        rfl
      rw [e]
      exact List.Pairwise.map _ (fun a b h z => h (Sum.inr.inj z)) hn
noncomputable def tKNotIn (a : Addr) (kvs : List (Key × V)) (ty td : TE) : TE := fun σ H Q => ty σ H fun y H1 => td σ H1 fun x H2 => ∃ k, x = .ref a ∧ y = kV k ∧ Q (.bl (!(valV kvs k).isSome)) H2
noncomputable def tKGet (a : Addr) (kvs : List (Key × V)) (td ty : TE) : TE := fun σ H Q => td σ H fun x H1 => ty σ H1 fun y H2 => ∃ k v, x = .ref a ∧ y = kV k ∧ valV kvs k = some v ∧ Q v H2
section
variable {X : Cx} {o i : Expr} {pos : Pos} {td ty : TE} {a : Addr} {kvs : List (Key × V)}
theorem pc_knotin (d : KDict X.prog X.w X.K a kvs) (hi : PE X i ty) (ho : PE X o td) : PC X .NotIn i o (tKNotIn a kvs ty td) := by
  intro pins s σ H Q I h
  refine thn (hi pins s σ H _ I h) fun iv s1 ⟨y, H1, I1, ry, q1⟩ => thn (ho pins s1 σ H1 _ I1 q1) fun u s2 ⟨x, H2, I2, rx, k, ex, ey, q2⟩ => ?_
  subst ex ey
  obtain rfl : u = Value.ref a := rx
  obtain ⟨hs, vs, rel, dd⟩ := d
  refine wpAny_notIn_of (kV_is ry) hs (dd _ I2.kIn).mapOf ?_
  rw [← (rel.val k).isSome_eq]
  exact ⟨.bl _, H2, I2.tok _, rfl, q2⟩
theorem pe_kget (d : KDict X.prog X.w X.K a kvs) (ho : PE X o td) (hi : PE X i ty) (hs : NoSl i) : PE X (.Subscript o i pos) (tKGet a kvs td ty) := by
  intro pins s σ H Q I h
  refine subD_of PySem.F.slot_dict_getitem.lookup hs (thn (ho pins s σ H _ I h) fun u s1 ⟨x, H1, I1, rx, q1⟩ => thn (hi pins s1 σ H1 _ I1 q1) fun iv s2 ⟨y, H2, I2, ry, k, v, ex, ey, hv, q2⟩ => ?_)
  subst ex ey
  obtain rfl : u = Value.ref a := rx
  obtain ⟨_, vs, rel, dd⟩ := d
  obtain ⟨w', hw, rw'⟩ := RelO.some_of (v := v) (o := valueAt vs k) (by rw [← hv]; exact rel.val k)
  exact ⟨(dd _ I2.kIn).typeIs, wpAny_getItem_of (kV_is ry) (dd _ I2.kIn).mapOf hw ⟨v, H2, I2.tok _, rw', q2⟩⟩
end
end L2.Internal
namespace L2.Internal
open PySem PySem.Spec PyProof.Rows
section
variable {X : Cx}
noncomputable def repS (x : Str) (n : Nat) : Str := ⟨(List.replicate n x.cps).foldl (· ++ ·) #[]⟩
theorem rep_acc (a : Array Nat) : ∀ (k : Nat) (acc : Array Nat), ((List.replicate k a).foldl (· ++ ·) acc).size = acc.size + k * a.size
  | 0, acc => by simp
  | k + 1, acc => by
    rw [List.replicate_succ, List.foldl_cons, rep_acc a k, Array.size_append, Nat.succ_mul]
    omega
theorem rep_len (x : Str) (k : Nat) : (repS x k).length = k * x.length := by
  have z := rep_acc x.cps k #[]
  have e0 : (#[] : Array Nat).size = 0 := rfl
  rw [e0, Nat.zero_add] at z
  exact z
theorem op_rep_str : OpR X (binaryOp .Mult) (fun x y H Q => ∃ (i : Str) (n : Int), x = .str i ∧ y = .int n ∧ 2 ≤ n ∧ n < 100 ∧ 1 ≤ i.length ∧ i.length ≤ 1000 ∧ Q (.str (repS i n.toNat)) H) := by
  intro pins s σ H x y v u Q I rx ry h
  obtain ⟨i, n, rfl, rfl, h2, h9, hl, hm, q⟩ := h
  obtain ⟨t, rfl⟩ := rx
  obtain ⟨t', rfl⟩ := ry
  refine PySem.P.mul_str (by simp only [Bool.or_eq_false_iff, decide_eq_false_iff_not]; omega) (fun _ _ => ?_) (fun _ _ => ?_) ?_
  · intro z
    have z' : (2 ^ 63 - 1 : Int) / n < (i.length : Int) := z
    rw [Int.ediv_lt_iff_lt_mul (by omega)] at z'
    have : (i.length : Int) * n ≤ 1000 * 100 := Int.mul_le_mul (by omega) (by omega) (by omega) (by omega)
    omega
  · show decide _ = false
    refine decide_eq_false ?_
    have sl : sizeLine = 16777216 := sizeLine_eq
    have : i.length * n.toNat ≤ 1000 * 100 := Nat.mul_le_mul hm (by omega)
    omega
  · rw [if_neg (by omega), if_neg (by simp; omega)]
    refine ⟨?_, .str (repS i n.toNat), H, I.tok _, ⟨_, rfl⟩, q⟩
    have sl : sizeLine = 16777216 := sizeLine_eq
    have e : (repS i n.toNat).length = n.toNat * i.length := rep_len i _
    have e2 : n.toNat * i.length ≤ 100 * 1000 := Nat.mul_le_mul (by omega) hm
    show (repS i n.toNat).length ≤ _
    omega
end
section
variable {X : Cx} {k : Nat} {f Y : Addr} {fd : FuncData} {ps : List Str} {sp : Sp} {dvs : List V} {ds : List Value} {x y n : Str} {p pos pos' py hpos tpos pn : Pos} {e : Expr} {es : List Expr} {t : TA} {b₀ : Stmt} {body : List Stmt} {tb : TS} {i : Nat}
end
end L2.Internal
namespace L2.Internal
end L2.Internal
namespace L2.Internal
open PySem PySem.Spec PyProof.Rows
end L2.Internal
namespace L2.Internal
open PySem PySem.Spec PyProof.Rows

section
variable {X : Cx} {pins : List (Addr × Obj)} {σ : St} {H : Hp} {s : Shared} {h' : Heap}
end

section
variable {X : Cx}
end

section
variable {X : Cx}
end

theorem lookup_cap {z : Str} : ∀ {cap : List (Str × Nat × Addr)}, z ∈ cap.map (·.1) → ∃ c, (cap.map fun p => (p.1, p.2.2)).lookup z = some c
  | [], h => by simp at h
  | p :: r, h => by
    cases e : z == p.1 with
    | true => exact ⟨p.2.2, by simp only [List.map_cons, List.lookup_cons, e]⟩
    | false =>
      have q : z ∈ r.map (·.1) := by
        rcases List.mem_cons.mp h with y | y
        · rw [y] at e; simp at e
        · exact y
      obtain ⟨c, hc⟩ := lookup_cap q
      exact ⟨c, by simp only [List.map_cons, List.lookup_cons, e]; exact hc⟩
theorem blkC {X : Cx} {scope : Scope} {x : Str} (ns : List Str) (cap : List (Str × Nat × Addr)) (hns : cap.map (·.1) = ns) (hk : scope.kind = .function) (hn : ∀ p ∈ scope.names, p.2 ≠ .cell ∧ (p.2 = .free → p.1 ∈ ns)) (hl : ∀ y ∈ scope.names, y.2 = .local → scope.names.lookup y.1 = some .local)
    (hx : scope.names.lookup x = some .local) (hnd : (x :: ns).Nodup) (hc : closureFor scope X.env = pure (cap.map fun p => (p.1, p.2.2))) (hok : X.env.scope.kind = .function)
    (h : ∀ p ∈ cap, scope.names.lookup p.1 = some .free ∧ X.env.cells.lookup p.1 = some p.2.2 ∧ X.env.scope.names.lookup p.1 = some .cell ∧ X.N[p.2.1]? = some p.1) :
    BlkOk X (x :: ns) scope (cap.map fun p => (p.1, p.2.2)) (fun σ => none :: cap.map fun p => σ.getD p.2.1 none) 0 x where
  kind := hk
  cell := fun y hy => (hn y hy).1
  names := hl
  clos := hc
  lk := fun z c q => by
    have m := PySem.mem_of_lookup q
    obtain ⟨p, hp, e⟩ := List.mem_map.mp m
    cases e
    exact (h p hp).2.1
  has := fun z q => by
    refine lookup_cap ?_
    rw [hns]
    rcases q with q | q
    · obtain ⟨k0, e, q⟩ := lookup_relabel q
      have m := hn _ (PySem.mem_of_lookup e)
      rcases q with q | ⟨q, _⟩
      · exact absurd q.symm m.1
      · exact m.2 q
    · obtain ⟨k0, e, q⟩ := lookup_relabel q
      have m := hn _ (PySem.mem_of_lookup e)
      rcases q with q | ⟨q, _⟩
      · exact m.2 q.symm
      · exact m.2 q
  nd := hnd
  ix := rfl
  loc := hx
  len := fun _ _ => by simp [← hns]
  val := fun σ k z v h1 h2 => by
    cases k with
    | zero => simp at h2
    | succ k =>
      rw [← hns, List.getElem?_cons_succ, List.getElem?_map] at h1
      rw [List.getElem?_cons_succ, List.getElem?_map] at h2
      cases e : cap[k]? with
      | none => rw [e] at h1; cases h1
      | some p =>
        rw [e] at h1 h2
        have ez : p.1 = z := Option.some.inj h1
        have ev : σ.getD p.2.1 none = some v := Option.some.inj h2
        subst ez
        obtain ⟨a1, a2, a3, a4⟩ := h p (List.mem_of_getElem? e)
        rw [List.getD_eq_getElem?_getD] at ev
        refine ⟨p.2.1, a4, ?_, a3, lookup_relabel_free hok a3 a1⟩
        cases q : σ[p.2.1]? with
        | none => rw [q] at ev; cases ev
        | some o => rw [q] at ev; exact congrArg some ev

section
variable {X : Cx}
end

structure ClsM (K : PySem.W.Frag) (C : Addr) (m : Str) (f : Addr) : Prop where
  ga : PySem.W.specialIn K (.ref C) "__getattribute__" = some (some (.builtin "type.__getattribute__"))
  rd : ∃ mc, PySem.W.readsIn K C mc = true ∧ PySem.W.findCls K (.ref C) mc m = some (.val (.ref f))
  kp : PySem.W.keepIn K (.ref f) = true
section
variable {X : Cx} {CX : CXT} {k : Nat} {f C : Addr} {fd : FuncData} {ps : List Str} {sp : Sp} {dvs : List V} {ds : List Value} {E : XK} {m : Str} {pos apos : Pos} {e o : Expr} {es : List Expr} {t : TA}
end

section
variable {X : Cx}
theorem bt_max : bootBuiltins "max" = some (.builtin "max") := by decide +kernel
theorem call_sumA (hc : X.calm = true) : CallR X (.builtin "sum") (fun xs H Q => ∃ (a : Addr) (ns : List Int), xs = [.ref a] ∧ SqL X.K H a (ns.map V.int) ∧ ∀ n, Q (.int n) H) := by
  intro pins s σ H xs us Q I r h
  obtain ⟨a, ns, rfl, hq, q⟩ := h
  obtain ⟨u, rfl, ru⟩ := vals1 r
  cases ru
  obtain ⟨its, rv, p, hz⟩ := I.list hq
  obtain ⟨zs, e⟩ := (intsAre_of rv).allInts.items
  have l := p.isList
  rw [e] at l
  exact sum_intListG (I.ok.hd hc) l fun h' tk t' hk => ⟨.int _, H, I.kept (t' := tk) hk, ⟨_, rfl⟩, q _⟩
end

theorem ps_setLC {X : Cx} {elt iter : Expr} {x y : Str} {j : Nat} {py spos : Pos} {px : Pos} {ifs : List Expr} {scope : Scope} {pos : Pos} {N : List Str} {cl : List (Str × Addr)} {f : St → St} {i : Nat} {wi : TI} {tt : TT} {te : TE}
    (hc : X.calm = true) (B : BlkOk X N scope cl f i x) (hi : PI X (.Name x px) iter wi)
    (htt : ∀ C s₀ H₀ ex pins, PTs (blk X N scope cl C s₀ H₀ ex pins) ifs tt) (hte : ∀ C s₀ H₀ ex pins, PE (blk X N scope cl C s₀ H₀ ex pins) elt te)
    (hN : X.N.Nodup) (hj : X.N[j]? = some y) (hy : Loc X.env.scope y) (hsw : autoParam (swapsWith (.ListComp elt [⟨.Name x px, iter, ifs, 0⟩] scope pos) (some (.Name y py)) spos.line X.env = pure true) L2.Internal.auR._auto_1) (hs : autoParam (∀ x, foldedSetIterable iter X.env x = pure x) L2.Internal.auI._auto_1)
    (hf : autoParam (X.fn y = true ∨ X.env.scope.names.lookup y = some .local) L2.Internal.auL._auto_1) : PS X (.Assign [.Name y py] (.ListComp elt [⟨.Name x px, iter, ifs, 0⟩] scope pos) spos) (tAsg (tLC wi f i tt te) (gName j)) := by
  intro pins s σ H En I h
  rw [exec_Assign_Name_used _ _ _ _ hsw]
  refine wpAny_bind (wpAny_standAt (wpAny_bind ?_))
  show wpAny _ X.A (do let _ ← comprehension (.ListComp elt [⟨.Name x px, iter, ifs, 0⟩] scope pos) scope X.env _ (newList []) false (eval iter X.env) (some (assign (.Name y py) X.env))) _ _ s
  refine wpAny_bind (wpAny_mono (wpAny_comprehension_free (use := some (assign (.Name y py) X.env)) (Q := fun _ s' => SP.Internal X pins En .next s') rfl hs B.clos B.kind B.names (thn (hi pins s σ H _ I h) fun xv s1 h1 => thn h1 fun itv s2 h2 => ?_)) (fun _ s' hq => wpAny_pure (wpAny_pure hq)) fun _ _ e => e)
  obtain ⟨it, fp, tn, J, H2, rfl, I2, T, st2, f2, q⟩ := h2
  have hD : H2 s2.heap.objs.size = none := I2.fresh
  obtain ⟨W, ⟨m0, w0⟩, turn⟩ := q _ hD
  refine wpAny_newObj_type (wpAny_newFunctionEnv B.cell (by intro y hy; simp at hy) (fun h₁ hns₁ hsb₁ => ?_) B.kind)
  have I3 : Inv X pins σ (upd H2 s2.heap.objs.size (.lst [])) { s2 with heap := s2.heap.push { cls := .type "list", data := .seq ([] : List Value).toArray } } := I2.lnew (its := []) (ys := []) (t' := s2.toks) .nil (Nat.zero_le _)
  have lt2 : ∀ b ∈ fp, b < s2.heap.objs.size := fun b hb => by
    obtain ⟨o, ho, _⟩ := T.obj _ _ st2 b hb
    exact Heap.lt_size ho
  have fp3 : ∀ b ∈ fp, FpOk X pins (upd H2 s2.heap.objs.size (.lst [])) b := fun b hb => by
    refine ⟨?_, (f2 b hb).2⟩
    rw [upd_ne (Nat.ne_of_lt (lt2 b hb))]
    exact (f2 b hb).1
  generalize hs3 : ({ s2 with heap := s2.heap.push { cls := .type "list", data := .seq ([] : List Value).toArray } } : Shared) = s3 at I3 hns₁ hsb₁ ⊢
  have eh : s2.heap.push { cls := .type "list", data := .seq ([] : List Value).toArray } = s3.heap := by rw [← hs3]
  have lt3 : ∀ b ∈ fp, b < s3.heap.objs.size := fun b hb => by
    rw [← eh, Heap.size_push]
    exact Nat.lt_succ_of_lt (lt2 b hb)
  have old : ∀ b o, s3.heap.get? b = some o → h₁.get? b = some o := fun b o e => hsb₁.extBut b o (Nat.ne_of_lt (Heap.lt_size e)) (Heap.get?_push_of_some _ e)
  have I4 := inv_blk (tk := s3.toks + ([] : List (Str × Value)).length) B I3 (ex := fp) (fun b hb => ⟨fp3 b hb, lt3 b hb⟩) old hns₁
  have st4 : tn 0 h₁ := T.keep _ _ _ st2 fun b _ o e => old b o (by rw [← eh]; exact Heap.get?_push_of_some _ e)
  -- the iterators in the block
  have fpB : ∀ {H' : Hp}, (∀ b ∈ fp, H' b = none) → ∀ b ∈ fp, FpOk (blk X N scope cl s3.heap.objs.size s3 (upd H2 s2.heap.objs.size (.lst [])) fp pins) [] H' b := fun {H'} hn b hb => by
    obtain ⟨_, g2, g3, g4, g5, g6⟩ := f2 b hb
    refine ⟨hn b hb, Nat.ne_of_lt (lt3 b hb), fun z => (List.mem_cons.mp (I3.stkSub b z)).elim g2 g3, .inl hb, fun y c e => g5 y c (B.lk y c e), fun p hp => ?_⟩
    rw [List.append_nil] at hp
    exact g6 p hp
  have loop : ∀ s4 : Shared, s4 = { s3 with heap := h₁, toks := s3.toks + ([] : List (Str × Value)).length } →
      codeAny (model X.prog X.w) X.A (.compLoop (.ListComp elt [⟨.Name x px, iter, ifs, 0⟩] scope pos) 0 (.ref it) (.ref s2.heap.objs.size) (compEnvC scope cl s3.heap.objs.size X.env))
        (compPost (model X.prog X.w) X.A X.xe (some (assign (.Name y py) X.env)) (fun _ s' => SP.Internal X pins En .next s') (.ref s2.heap.objs.size) s3.heap.objs.size) s4 := by
    rintro s4 rfl
    refine codeAny_compLoop_tests (I := fun n s' => ∃ k σ' H', Inv (blk X N scope cl s3.heap.objs.size s3 (upd H2 s2.heap.objs.size (.lst [])) fp pins) [] σ' H' s' ∧ tn k s'.heap ∧ (∀ b ∈ fp, H' b = none) ∧ W k n σ' H') ?_ m0
      ⟨0, f σ, _, I4, st4, fun b hb => (fp3 b hb).1, w0⟩
    rintro n s5 ⟨k, σ5, H5, I5, st5, fr5, w5⟩
    rcases turn k n σ5 H5 w5 with ⟨stop, qn⟩ | ⟨go, step⟩
    · refine wpAny_mono (T.done (blk X N scope cl s3.heap.objs.size s3 (upd H2 s2.heap.objs.size (.lst [])) fp pins) rfl rfl rfl hc k [] s5 σ5 H5 _ I5 (fpB fr5) st5 stop) (fun r s6 h6 => ?_) fun _ _ z => z
      obtain ⟨hr, I6⟩ := h6
      subst hr
      obtain ⟨m6, hn6, _⟩ := id I6.loc
      have I7 : Inv X pins σ H5 s6 := I3.call' (s' := s6) (ch := fp) I6.os I6.base I6.hok I6.bare fun b hb => by
        obtain ⟨_, g2, g3, g4, g5, g6⟩ := f2 b hb
        exact ⟨g4, g2, g5, g6⟩
      obtain ⟨oC, es, ep, hoC, hdC, hkC⟩ := id hn6
      have hCL : s3.heap.objs.size ≠ X.env.locals := Nat.ne_of_gt I3.lt
      have I8 : Inv X (pins ++ [(s3.heap.objs.size, oC)]) σ H5 s6 := I7.pins_of fun p hp => (List.mem_append.mp hp).elim (fun z => I7.pin p (List.mem_append_right _ z)) fun z => by
        have ez : p = (s3.heap.objs.size, oC) := by simpa using z
        subst ez
        exact ⟨hoC, I6.free, hCL, I3.nofs (Nat.le_refl _), fun v q => by rw [hdC] at q; cases q⟩
      show wpAny _ X.A (assign (.Name y py) X.env (.ref s2.heap.objs.size)) _ _ s6
      refine wpAny_assign_Name (store_ok (X := X) I8 hN hj hy (v := .ref s2.heap.objs.size) rfl (fun s7 I9 => ?_) hf)
      have pC := I9.pin (s3.heap.objs.size, oC) (List.mem_append_right _ (List.mem_append_right _ (by simp)))
      refine ⟨m6, ⟨oC, es, ep, pC.1, hdC, hkC⟩, fun h' sb => ?_⟩
      refine ⟨σ.set j (some (.ref s2.heap.objs.size)), H5, ?_, qn⟩
      exact Inv.turned (h' := h') (t' := s7.toks) (it := s3.heap.objs.size) I9.unpinned (fun b o hb e => (sb.2 b hb).trans e) pC.2.1 hCL (.inr I3.sz) (fun z c e q => by
        obtain ⟨v, q2⟩ := I3.cell z c e
        exact absurd (q ▸ q2.lt) (Nat.lt_irrefl _)) fun p hp q => absurd (q ▸ Heap.lt_size (I3.pin p hp).1) (Nat.lt_irrefl _)
    · refine wpAny_mono (T.item (blk X N scope cl s3.heap.objs.size s3 (upd H2 s2.heap.objs.size (.lst [])) fp pins) rfl rfl rfl hc k [] s5 σ5 H5 _ I5 (fpB fr5) st5 go) (fun r s6 h6 => ?_) fun _ _ z => z
      obtain ⟨u, hr, h6⟩ := h6
      subst hr
      show wpAny _ _ (pure () >>= fun _ => assign (.Name x px) (compEnvC scope cl s3.heap.objs.size X.env) u) _ _ s6
      refine wpAny_bind (wpAny_mono (show wpAny _ _ (pure ()) _ _ s6 from h6) (fun _ s7 h7 => ?_) fun _ _ z => z)
      obtain ⟨v, H7, I7, r7, y7, st7, fr7⟩ := h7
      have I7' := I7.pinned (fpB fr7) (T.obj _ _ st7)
      refine wpAny_assign_Name (store_ok (X := blk X N scope cl s3.heap.objs.size s3 (upd H2 s2.heap.objs.size (.lst [])) fp pins) I7' B.nd B.ix (.inl (lookup_relabel_local B.loc)) r7 (fun s8 I8 => ?_) (.inr (lookup_relabel_local B.loc)))
      have back : ∀ {σ9 : St} {H9 : Hp} {s9 : Shared}, Inv (blk X N scope cl s3.heap.objs.size s3 (upd H2 s2.heap.objs.size (.lst [])) fp pins) ([] ++ pinsAt fp s7.heap) σ9 H9 s9 → (∃ m', m' < n ∧ W (k + 1) m' σ9 H9) →
          ∃ m', m' < n ∧ ∃ k σ' H', Inv (blk X N scope cl s3.heap.objs.size s3 (upd H2 s2.heap.objs.size (.lst [])) fp pins) [] σ' H' s9 ∧ tn k s9.heap ∧ (∀ b ∈ fp, H' b = none) ∧ W k m' σ' H' := fun {σ9 H9 s9} I9 q9 => by
        obtain ⟨m', hm, w9⟩ := q9
        refine ⟨m', hm, k + 1, σ9, H9, I9.unpinned, T.keep _ _ _ st7 fun b hb o e => (I9.pin (b, o) (List.mem_append_right _ (List.mem_append_right _ (mem_pinsAt hb e)))).1, fun b hb => ?_, w9⟩
        obtain ⟨o, e, d⟩ := T.obj _ _ st7 b hb
        exact (I9.pin (b, o) (List.mem_append_right _ (List.mem_append_right _ (mem_pinsAt hb e)))).2.1
      refine wpAny_mono (htt _ _ _ _ _ _ s8 _ H7 _ I8 (step v H7 y7)) (fun ok s9 h9 => ?_) fun _ _ z => False.elim z
      obtain ⟨H9, I9, q9⟩ := h9
      cases ok with
      | false =>
        rw [if_neg Bool.false_ne_true]
        rw [if_neg Bool.false_ne_true] at q9
        exact back I9 q9
      | true =>
        rw [if_pos rfl]
        rw [if_pos rfl] at q9
        refine wpAny_mono (hte _ _ _ _ _ _ s9 _ H9 _ I9 q9) (fun y s10 h10 => ?_) fun _ _ z => False.elim z
        obtain ⟨v10, H10, I10, r10, xs, hx10, hz, q10⟩ := h10
        refine wpAny_mono (mt_append (X := blk X N scope cl s3.heap.objs.size s3 (upd H2 s2.heap.objs.size (.lst [])) fp pins) _ s10 _ H10 (.ref s2.heap.objs.size) [v10] _ [y] (fun _ H11 => H11 = upd H10 s2.heap.objs.size (.lst (xs ++ [v10]))) I10 rfl (.cons r10 .nil) ⟨_, xs, v10, rfl, rfl, hx10, hz, rfl⟩) (fun _ s11 h11 => ?_) fun _ _ z => False.elim z
        obtain ⟨_, H11, I11, _, e11⟩ := h11
        subst e11
        exact back I11 q10
  exact codeAny_compStart_list (loop _ rfl) (T.self _ 0 _ _ _ st4 (loop _ rfl))

end L2.Internal
namespace L2.Internal
open PySem PySem.Spec PyProof.Rows

section
variable {prog : Program} {w : World} {A : Around} {E : Value → Shared → Prop} {s : Shared}
end

section
variable {prog : Program} {w : World} {A : Around} {E : Value → Shared → Prop} {s : Shared}
end

section
variable {X : Cx}
end
end L2.Internal
namespace L2.Internal
open PySem PySem.Spec PyProof.Rows
section
variable {prog : Program} {w : World} {A : Around} {E : Value → Shared → Prop} {s : Shared}
end

inductive Prs (H : Hp) : List V → List (Str × V) → Prop
  | nil : Prs H [] []
  | cons {a : Addr} {p : Str × V} {l : List V} {m : List (Str × V)} : H a = some (.tup [.str p.1, p.2]) → Prs H l m → Prs H (.ref a :: l) (p :: m)
section
variable {X : Cx} {pins : List (Addr × Obj)} {σ : St} {H : Hp} {d it t : Addr} {vs : List V} {A : Around} {R : Result → Shared → Prop}
end
section
variable {X : Cx}
end
end L2.Internal
namespace BO.Internal
open PySem L2.Internal
theorem sz {n : Nat} (h : n ≤ 100000) : n ≤ sizeLine := Nat.le_trans h (by decide)
theorem same_new {H : Hp} {p : Addr} (h : H p = none) (o : HO) : Same H (upd H p o) := fun b u q => by rw [upd_ne (ne_of_none q h)]; exact q
theorem atI_lt {α : Type} (l : List α) (i : Int) (h0 : 0 ≤ i) (h1 : i < (l.length : Int)) : ∃ c, atI l i = some c ∧ c ∈ l := by
  have e : i = ((i.toNat : Nat) : Int) := by omega
  have hi : i.toNat < l.length := by omega
  refine ⟨l[i.toNat], ?_, List.getElem_mem hi⟩
  have z : atI l ((i.toNat : Nat) : Int) = some l[i.toNat] := atI_nat (List.getElem?_eq_getElem hi)
  rw [← e] at z
  exact z
noncomputable def flN : V → Bool
  | .non => true
  | .int _ => true
  | .str _ => true
  | _ => false
mutual
inductive Im (H : Hp) : V → Dt → Prop where
  | flat {v : V} (h : flN v = true) : Im H v (.flat v)
  | tup {a : Addr} {xs : List V} {ds : List Dt} (h : H a = some (.tup xs)) (hs : Ims H xs ds) : Im H (.ref a) (.tup ds)
inductive Ims (H : Hp) : List V → List Dt → Prop where
  | nil : Ims H [] []
  | cons {x : V} {d : Dt} {xs : List V} {ds : List Dt} (h : Im H x d) (hs : Ims H xs ds) : Ims H (x :: xs) (d :: ds)
end
mutual
inductive Dta (H : Hp) : V → Dt → Prop where
  | flat {v : V} (h : flN v = true) : Dta H v (.flat v)
  | tup {a : Addr} {xs : List V} {ds : List Dt} (h : H a = some (.tup xs)) (hs : Dtas H xs ds) : Dta H (.ref a) (.tup ds)
  | lst {a : Addr} {xs : List V} {ds : List Dt} (h : H a = some (.lst xs)) (hs : Dtas H xs ds) : Dta H (.ref a) (.lst ds)
inductive Dtas (H : Hp) : List V → List Dt → Prop where
  | nil : Dtas H [] []
  | cons {x : V} {d : Dt} {xs : List V} {ds : List Dt} (h : Dta H x d) (hs : Dtas H xs ds) : Dtas H (x :: xs) (d :: ds)
end
noncomputable def TK (H H' : Hp) : Prop := ∀ a xs, H a = some (.tup xs) → H' a = some (.tup xs)
theorem Same.tk {H H' : Hp} (s : Same H H') : TK H H' := fun a xs e => s a _ e
mutual
theorem Im.mono {H H' : Hp} (k : TK H H') : ∀ {v : V} {d : Dt}, Im H v d → Im H' v d
  | _, _, .flat h => .flat h
  | _, _, .tup h hs => .tup (k _ _ h) (Ims.mono k hs)
theorem Ims.mono {H H' : Hp} (k : TK H H') : ∀ {v : List V} {d : List Dt}, Ims H v d → Ims H' v d
  | _, _, .nil => .nil
  | _, _, .cons h hs => .cons (Im.mono k h) (Ims.mono k hs)
end
mutual
theorem Dta.same {H H' : Hp} (k : Same H H') : ∀ {v : V} {d : Dt}, Dta H v d → Dta H' v d
  | _, _, .flat h => .flat h
  | _, _, .tup h hs => .tup (k _ _ h) (Dtas.same k hs)
  | _, _, .lst h hs => .lst (k _ _ h) (Dtas.same k hs)
theorem Dtas.same {H H' : Hp} (k : Same H H') : ∀ {v : List V} {d : List Dt}, Dtas H v d → Dtas H' v d
  | _, _, .nil => .nil
  | _, _, .cons h hs => .cons (Dta.same k h) (Dtas.same k hs)
end
theorem Dtas.get {H : Hp} : ∀ {xs : List V} {ds : List Dt} {j : Nat} {x : V}, Dtas H xs ds → xs[j]? = some x → ∃ d, ds[j]? = some d ∧ Dta H x d
  | _, _, 0, _, .cons h _, e => ⟨_, rfl, by cases e; exact h⟩
  | _, _, j + 1, _, .cons _ t, e => by
    rw [List.getElem?_cons_succ] at e
    obtain ⟨d, e1, e2⟩ := Dtas.get t e
    exact ⟨d, by rw [List.getElem?_cons_succ]; exact e1, e2⟩
inductive All2 {α β : Type} (F : α → β → Prop) : List α → List β → Prop
  | nil : All2 F [] []
  | cons {a : α} {b : β} {l : List α} {m : List β} : F a b → All2 F l m → All2 F (a :: l) (b :: m)
theorem All2.imp {α β : Type} {F G : α → β → Prop} (f : ∀ a b, F a b → G a b) : ∀ {l : List α} {m : List β}, All2 F l m → All2 G l m
  | _, _, .nil => .nil
  | _, _, .cons h t => .cons (f _ _ h) (All2.imp f t)
theorem All2.get {α β : Type} {F : α → β → Prop} : ∀ {l : List α} {m : List β} {j : Nat} {x : α}, All2 F l m → l[j]? = some x → ∃ y, m[j]? = some y ∧ F x y
  | _, _, 0, _, .cons h _, e => ⟨_, rfl, by cases e; exact h⟩
  | _, _, j + 1, _, .cons _ t, e => by
    rw [List.getElem?_cons_succ] at e
    obtain ⟨d, e1, e2⟩ := All2.get t e
    exact ⟨d, by rw [List.getElem?_cons_succ]; exact e1, e2⟩

mutual
noncomputable def okD : Dt → Prop
  | .flat _ => True
  | .tup l => l.length ≤ 100000 ∧ okDs l
  | .lst l => l.length ≤ 100000 ∧ okDs l
noncomputable def okDs : List Dt → Prop
  | [] => True
  | x :: xs => okD x ∧ okDs xs
end
noncomputable def prL (p : Str × Int) : Dt := .tup [.flat (.str p.1), .flat (.int p.2)]
noncomputable def prD (l : List (Str × Int)) : Dt := .tup (l.map prL)
inductive Us where
  | num (a p s : Int)
  | call (a p s x y : Int)
  | take (a p s : Int) (l : List (Str × Int))
  | case (a p s : Int) (l : List (Str × Int))
  | row (a p s x : Int)
noncomputable def hdD (n : Str) (a p s : Int) : List Dt := [.flat (.str n), .flat (.int a), .flat (.int p), .flat (.int s)]
noncomputable def Us.d : Us → Dt
  | .num a p s => .tup (hdD "num" a p s)
  | .call a p s x y => .tup (hdD "call" a p s ++ [.flat (.int x), .flat (.int y)])
  | .take a p s l => .tup (hdD "take" a p s ++ [prD l])
  | .case a p s l => .tup (hdD "case" a p s ++ [prD l])
  | .row a p s x => .tup (hdD "row" a p s ++ [.flat (.int x)])
structure Mkg where
  s : Str
  f : Dt
  a : Int
  p : Int
noncomputable def Mkg.d (m : Mkg) : Dt := .tup [.flat (.str m.s), m.f, .flat (.int m.a), .flat (.int m.p)]
noncomputable def fU (a p s : V) : List (Str × V) := [("at", a), ("place", p), ("slot", s)]
noncomputable def fU1 (n : Str) (a p s x : V) : List (Str × V) := [("at", a), ("place", p), ("slot", s), (n, x)]
noncomputable def fU2 (a p s x y : V) : List (Str × V) := [("at", a), ("place", p), ("slot", s), ("arg", x), ("out", y)]
noncomputable def fM (s f a p : V) : List (Str × V) := [("shape", s), ("parts", f), ("at", a), ("place", p)]
noncomputable def fB (p0 p1 p2 p3 : Addr) (r : V) : List (Str × V) := [("points", .ref p0), ("makes", .ref p1), ("uses", .ref p2), ("flows", .ref p3), ("root", r)]
structure Cs where
  M : Addr
  N : Addr
  C : Addr
  T : Addr
  K : Addr
  R : Addr
  B : Addr
noncomputable def UsAt (c : Cs) (H : Hp) (v : V) : Us → Prop
  | .num a p s => ∃ x dx, v = .ref x ∧ H x = some (.ins c.N dx (fU (.int a) (.int p) (.int s)))
  | .call a p s y z => ∃ x dx, v = .ref x ∧ H x = some (.ins c.C dx (fU2 (.int a) (.int p) (.int s) (.int y) (.int z)))
  | .take a p s l => ∃ x dx f, v = .ref x ∧ H x = some (.ins c.T dx (fU1 "fields" (.int a) (.int p) (.int s) f)) ∧ Im H f (prD l) ∧ l.length ≤ 10
  | .case a p s l => ∃ x dx f, v = .ref x ∧ H x = some (.ins c.K dx (fU1 "arms" (.int a) (.int p) (.int s) f)) ∧ Im H f (prD l) ∧ l.length ≤ 10
  | .row a p s y => ∃ x dx, v = .ref x ∧ H x = some (.ins c.R dx (fU1 "out" (.int a) (.int p) (.int s) (.int y)))
noncomputable def MkAt (c : Cs) (H : Hp) (v : V) (m : Mkg) : Prop := ∃ x dx f, v = .ref x ∧ H x = some (.ins c.M dx (fM (.str m.s) f (.int m.a) (.int m.p))) ∧ Im H f m.f ∧ depD m.f ≤ 2 ∧ okD m.f
noncomputable def Fz : HO → Prop
  | .tup _ => True
  | .ins _ _ fs => fs.length ≠ 5 ∨ ∃ v r, fs = (("at" : Str), v) :: r
  | _ => False
noncomputable def FK (H H' : Hp) : Prop := ∀ a o, H a = some o → Fz o → H' a = some o
theorem FK.tk {H H' : Hp} (k : FK H H') : TK H H' := fun a xs e => k a _ e trivial
theorem FK.trans {H H1 H2 : Hp} (a : FK H H1) (b : FK H1 H2) : FK H H2 := fun c o e f => b c o (a c o e f) f
theorem UsAt.mono {c : Cs} {H H' : Hp} {v : V} (k : FK H H') : ∀ {u : Us}, UsAt c H v u → UsAt c H' v u
  | .num _ _ _, ⟨x, dx, e, h⟩ => ⟨x, dx, e, k _ _ h (.inr ⟨_, _, rfl⟩)⟩
  | .call _ _ _ _ _, ⟨x, dx, e, h⟩ => ⟨x, dx, e, k _ _ h (.inr ⟨_, _, rfl⟩)⟩
  | .take _ _ _ _, ⟨x, dx, f, e, h, i, n⟩ => ⟨x, dx, f, e, k _ _ h (.inr ⟨_, _, rfl⟩), i.mono k.tk, n⟩
  | .case _ _ _ _, ⟨x, dx, f, e, h, i, n⟩ => ⟨x, dx, f, e, k _ _ h (.inr ⟨_, _, rfl⟩), i.mono k.tk, n⟩
  | .row _ _ _ _, ⟨x, dx, e, h⟩ => ⟨x, dx, e, k _ _ h (.inr ⟨_, _, rfl⟩)⟩
theorem MkAt.mono {c : Cs} {H H' : Hp} {v : V} {m : Mkg} (k : FK H H') : MkAt c H v m → MkAt c H' v m
  | ⟨x, dx, f, e, h, i, d⟩ => ⟨x, dx, f, e, k _ _ h (.inl (by show 4 ≠ 5; decide)), i.mono k.tk, d⟩

theorem lc_gen {J : It} {i : Nat} {te : TE} {Q : VK} {τ : St} {H1 : Hp} {D : Addr} (n : Nat) (hn : n < sizeLine) (R : List V → Hp → Prop) (hR : ∀ xs H H', R xs H → TK H H' → R xs H') (hD : H1 D = none) (hτ : τ.set i none = τ)
    (hgo : ∀ k H, Same H1 H → k < n → J.go k H) (hst : ∀ H, Same H1 H → J.stop n H) (h0 : R [] H1)
    (step : ∀ k H v H3 xs (Z : VK), Same H1 H → k < n → J.yld k H v H3 → R xs H → xs.length = k → (∀ y H5, Same H H5 → R (xs ++ [y]) H5 → Z y H5) → te (τ.set i (some v)) H3 Z)
    (hq : ∀ H' xs, Same H1 H' → R xs H' → xs.length = n → H' D = some (.lst xs) → Q (.ref D) H') : LcP J i tAlways te Q τ H1 D := by
  have nd : ∀ (H5 : Hp) (xs ys : List V), H5 D = some (.lst xs) → TK H5 (upd H5 D (.lst ys)) := fun H5 xs ys e a zs q => by rw [upd_ne (ne_of q e (fun z => nomatch z))]; exact q
  have up : ∀ {H : Hp} (o : HO), Same H1 H → Same H1 (upd H D o) := fun {H} o S b u e => by rw [upd_ne (ne_of_none e hD)]; exact S b u e
  refine ⟨fun k m σ' H2 => m = n - k ∧ k ≤ n ∧ (∃ o, σ' = τ.set i o) ∧ Same H1 H2 ∧ ∃ xs, H2 D = some (.lst xs) ∧ xs.length = k ∧ R xs H2, ⟨n, by simp, Nat.zero_le _, ⟨none, hτ.symm⟩, same_new hD _, [], upd_same, rfl, hR _ _ _ h0 (Same.tk (same_new hD _))⟩, ?_⟩
  rintro k m σ' H2 ⟨rfl, hk, ⟨o, rfl⟩, S, xs, e, hl, hr⟩
  by_cases hlt : k < n
  · refine .inr ⟨hgo k H2 S hlt, fun v H3 y => ?_⟩
    rw [List.set_set]
    refine step k H2 v H3 xs _ S hlt y hr hl fun y H5 S5 r5 => ?_
    refine ⟨xs, S5 D _ e, by omega, n - (k + 1), by omega, rfl, hlt, ⟨some v, rfl⟩, up _ (S.trans S5), xs ++ [y], upd_same, by rw [List.length_append, hl]; rfl, hR _ _ _ r5 (nd H5 _ _ (S5 D _ e))⟩
  · have e1 : k = n := by omega
    subst e1
    exact .inl ⟨hst H2 S, hq H2 xs S hr hl e⟩
theorem go_rng {lo : Int} {n k : Nat} {H : Hp} (h : k < n) : (Itr lo n).go k H := h
theorem go_lst {K : PySem.W.Frag} {a : Addr} {xs : List V} {k : Nat} {H1 H : Hp} (e : H1 a = some (.lst xs)) (S : Same H1 H) (h : k < xs.length) : (Itl K a).go k H := ⟨xs, xs[k], SqL.of (S a _ e), List.getElem?_eq_getElem h⟩
theorem st_lst {K : PySem.W.Frag} {a : Addr} {xs : List V} {H1 H : Hp} (e : H1 a = some (.lst xs)) (S : Same H1 H) : (Itl K a).stop xs.length H := ⟨xs, SqL.of (S a _ e), Nat.le_refl _⟩
inductive Ls (H : Hp) : List Addr → List (List V) → Prop
  | nil : Ls H [] []
  | cons {a : Addr} {c : List V} {l : List Addr} {m : List (List V)} : H a = some (.lst c) → Ls H l m → Ls H (a :: l) (c :: m)
theorem Ls.frame {H H' : Hp} {M : List Addr} (k : ∀ a o, H a = some o → a ∉ M → H' a = some o) : ∀ {l : List Addr} {m : List (List V)}, Ls H l m → (∀ a ∈ l, a ∉ M) → Ls H' l m
  | _, _, .nil, _ => .nil
  | _, _, .cons (a := a) h t, n => .cons (k _ _ h (n a (by simp))) (Ls.frame k t fun b hb => n b (by simp [hb]))
theorem Ls.get {H : Hp} : ∀ {l : List Addr} {m : List (List V)} {i : Nat} {a : Addr}, Ls H l m → l[i]? = some a → ∃ c, m[i]? = some c ∧ H a = some (.lst c)
  | _, _, 0, _, .cons h _, e => ⟨_, rfl, by cases e; exact h⟩
  | _, _, j + 1, _, .cons _ t, e => by
    rw [List.getElem?_cons_succ] at e
    obtain ⟨d, e1, e2⟩ := Ls.get t e
    exact ⟨d, by rw [List.getElem?_cons_succ]; exact e1, e2⟩
structure Sd where
  b : Addr
  dx : Addr
  p0 : Addr
  p1 : Addr
  p2 : Addr
  p3 : Addr
  d : Addr
  q0 : Addr
  q1 : Addr
  q2 : Addr
  q3 : Addr
noncomputable def Sd.ls (S : Sd) : List Addr := [S.p0, S.p1, S.p2, S.p3, S.d, S.q0, S.q1, S.q2, S.q3]
structure Bd where
  pts : List Int
  mks : List Mkg
  uss : List Us
  fls : List (Int × Int)
  root : Int
noncomputable def flD (p : Int × Int) : Dt := .tup [.flat (.int p.1), .flat (.int p.2)]
structure BSx (c : Cs) (H : Hp) (S : Sd) (E D : Bd) : Prop where
  nd : S.ls.Nodup
  ob : H S.b = some (.ins c.B S.dx (fB S.p0 S.p1 S.p2 S.p3 (.int D.root)))
  st : ∃ mv uv fv mv' uv' fv' : List V, Ls H S.ls [D.pts.map V.int, mv, uv, fv, [.ref S.q0, .ref S.q1, .ref S.q2, .ref S.q3, .int E.root], E.pts.map V.int, mv', uv', fv'] ∧
    All2 (MkAt c H) mv D.mks ∧ All2 (UsAt c H) uv D.uss ∧ Ims H fv (D.fls.map flD) ∧ Ims H mv' (E.mks.map Mkg.d) ∧ Ims H uv' (E.uss.map Us.d) ∧ Ims H fv' (E.fls.map flD)
theorem Ls.at {H : Hp} {l : List Addr} {m : List (List V)} (L : Ls H l m) {i : Nat} {a : Addr} {c : List V} (h1 : l[i]? = some a) (h2 : m[i]? = some c) : H a = some (.lst c) := by
  obtain ⟨d, e1, e2⟩ := L.get h1
  rw [h2] at e1
  cases e1
  exact e2
theorem fk_lst {H : Hp} {a : Addr} {xs : List V} {o : HO} (h : H a = some (.lst xs)) : FK H (upd H a o) := fun b u e f => by
  rw [upd_ne (ne_of e h (fun z => by rw [z] at f; exact f))]
  exact e
section
variable {c : Cs} {H H' : Hp} {S : Sd} {E D : Bd}
theorem BSx.frame {M : List Addr} (B : BSx c H S E D) (k : ∀ a o, H a = some o → a ∉ M → H' a = some o) (hb : S.b ∉ M) (hl : ∀ a ∈ S.ls, a ∉ M) (fk : FK H H') : BSx c H' S E D := by
  obtain ⟨nd, ob, mv, uv, fv, mv', uv', fv', L, h1, h2, h3, h4, h5, h6⟩ := B
  exact ⟨nd, k _ _ ob hb, mv, uv, fv, mv', uv', fv', L.frame k hl, h1.imp fun _ _ => MkAt.mono fk, h2.imp fun _ _ => UsAt.mono fk, h3.mono fk.tk, h4.mono fk.tk, h5.mono fk.tk, h6.mono fk.tk⟩
end
theorem BSx.hl {c : Cs} {H : Hp} {S : Sd} {E D : Bd} {l : Addr} {xs : List V} {o : HO} (B : BSx c H S E D) (hn : l ∉ S.ls) (e : H l = some (.lst xs)) : BSx c (upd H l o) S E D := by
  refine B.frame (M := [l]) (fun a u q n => ?_) (fun z => ?_) (fun a ha z => ?_) (fk_lst e)
  · rw [upd_ne (fun z => n (by simp [z]))]; exact q
  · have z' : S.b = l := by simpa using z
    have q := B.ob
    rw [z', e] at q
    cases q
  · have z' : a = l := by simpa using z
    rw [z'] at ha
    exact hn ha
noncomputable def Frm (M : List Addr) (H H' : Hp) : Prop := ∀ a o, H a = some o → a ∉ M → H' a = some o
theorem Frm.trans {M : List Addr} {H H1 H2 : Hp} (a : Frm M H H1) (b : Frm M H1 H2) : Frm M H H2 := fun c o e n => b c o (a c o e n) n
end BO.Internal
namespace BO.Internal
open PySem L2.Internal
noncomputable def lk : List (Str × Int) → Str → Option Int
  | [], _ => none
  | p :: t, w => if p.1 = w then some p.2 else lk t w
inductive Mf where
  | num
  | fn (x y : Int)
  | rcd (l : List (Str × Int))
  | tag (w : Str) (x : Int)
  | row (x : Int)
  | any
noncomputable def Mf.s : Mf → Str
  | .num => "num"
  | .fn _ _ => "fn"
  | .rcd _ => "rec"
  | .tag _ _ => "tag"
  | .row _ => "row"
  | .any => "any"
noncomputable def Mf.f : Mf → Dt
  | .num => .tup []
  | .fn x y => .tup [.flat (.int x), .flat (.int y)]
  | .rcd l => prD l
  | .tag w x => .tup [.flat (.str w), .flat (.int x)]
  | .row x => .tup [.flat (.int x)]
  | .any => .tup []
noncomputable def fnd (m : List (Str × Int)) (p : Str × Int) : Option (Int × Int) := (lk m p.1).map fun x => (x, p.2)
noncomputable def taken (l m : List (Str × Int)) : Option (List (Int × Int)) := if (l.filterMap (fnd m)).length = l.length then some (l.filterMap (fnd m)) else none
end BO.Internal
namespace L2.Internal
open PySem PySem.Spec PyProof.Rows
section
variable {X : Cx} {e a b o f : Expr} {st : Stmt} {ta tb td ty tx to : TE} {pos apos cpos : Pos}
theorem PE.weak {t t' : TE} (h : PE X e t) (m : ∀ σ H Q, t' σ H Q → t σ H Q) : PE X e t' := fun pins s σ H Q I q => h pins s σ H Q I (m σ H Q q)
theorem PT.weak {t t' : TT} (h : PT X e t) (m : ∀ σ H Q, t' σ H Q → t σ H Q) : PT X e t' := fun pins s σ H Q I q => h pins s σ H Q I (m σ H Q q)
theorem OpR.weak {g : Value → Value → Sem Value} {r r' : R2} (h : OpR X g r) (m : ∀ x y H Q, r' x y H Q → r x y H Q) : OpR X g r' := fun pins s σ H x y v u Q I rx ry q => h pins s σ H x y v u Q I rx ry (m x y H Q q)
theorem IxR.weak {r r' : R2} (h : IxR X r) (m : ∀ x y H Q, r' x y H Q → r x y H Q) : IxR X r' := fun value slice pins s σ H x y v u Q I rx ry q hs => h value slice pins s σ H x y v u Q I rx ry (m x y H Q q) hs
noncomputable def mT (t : TE) : TE := fun σ H Q => ∃ Q0 : VK, t σ H Q0 ∧ ∀ x H1, Q0 x H1 → Q x H1
theorem PE.mono {t : TE} (h : PE X e t) : PE X e (mT t) := fun pins s σ H Q I ⟨Q0, h0, m⟩ => thn (h pins s σ H Q0 I h0) fun v s1 ⟨x, H1, I1, r1, q1⟩ => ⟨x, H1, I1, r1, m x H1 q1⟩
noncomputable def mR (r : R2) : R2 := fun x y H Q => ∃ Q0 : VK, r x y H Q0 ∧ ∀ x H1, Q0 x H1 → Q x H1
theorem OpR.mono {g : Value → Value → Sem Value} {r : R2} (h : OpR X g r) : OpR X g (mR r) := fun pins s σ H x y v u Q I rx ry ⟨Q0, h0, m⟩ => thn (h pins s σ H x y v u Q0 I rx ry h0) fun v s1 ⟨x, H1, I1, r1, q1⟩ => ⟨x, H1, I1, r1, m x H1 q1⟩
noncomputable def onV : Option (Option V) → (V → Prop) → Prop
  | some (some v), k => k v
  | _, _ => False
noncomputable def onS {α : Type} : Option α → (α → Prop) → Prop
  | some v, k => k v
  | none, _ => False
theorem onS_of {α : Type} {x : Option α} {v : α} {k : α → Prop} (h : x = some v) (q : k v) : onS x k := by rw [h]; exact q
theorem onS_ex {α : Type} {x : Option α} {k : α → Prop} (h : onS x k) : ∃ v, x = some v ∧ k v := by
  cases x with
  | none => exact h.elim
  | some v => exact ⟨v, rfl, h⟩
noncomputable def cV (i : Nat) : TE := fun σ H Q => onV σ[i]? fun v => Q v H
theorem cv (i : Nat) {x : Str} {pos : Pos} (hN : autoParam (X.N[i]? = some x) L2.Internal.auR._auto_1) (hv : Vis X.env.scope x := by first | exact Or.inl rfl | exact Or.inr (Or.inl rfl) | exact Or.inr (Or.inr rfl)) (hd : autoParam ((x == ("__debug__" : Str)) = false) L2.Internal.auD._auto_1)
    (hcd : autoParam ((x == ("__classdict__" : Str)) = false) L2.Internal.auD._auto_1) : PE X (.Name x pos) (cV i) := (pv i hN hv hd hcd).weak fun σ H Q h => by
  unfold cV at h
  cases q : σ[i]? with
  | none => rw [q] at h; exact h.elim
  | some o =>
    rw [q] at h
    cases o with
    | none => exact h.elim
    | some v => exact ⟨v, q, h⟩
noncomputable def cI0 (g : Int → Int → V) : R2 := fun x y H Q => match x, y with
  | .int i, .int j => Q (g i j) H
  | _, _ => False
noncomputable def cI (C : Int → Int → Prop) (g : Int → Int → V) : R2 := fun x y H Q => match x, y with
  | .int i, .int j => C i j ∧ Q (g i j) H
  | _, _ => False
theorem cI0_of {g : Int → Int → V} : ∀ x y H Q, cI0 g x y H Q → rI0 g x y H Q := fun x y H Q h => by
  unfold cI0 at h
  split at h
  · exact ⟨_, _, rfl, rfl, h⟩
  · exact h.elim
theorem cI_of {C : Int → Int → Prop} {g : Int → Int → V} : ∀ x y H Q, cI C g x y H Q → rI C g x y H Q := fun x y H Q h => by
  unfold cI at h
  split at h
  · exact ⟨_, _, rfl, rfl, h.1, h.2⟩
  · exact h.elim
theorem oc_add : OpR X (binaryOp .Add) (cI0 fun i j => .int (i + j)) := op_add.weak cI0_of
theorem oc_sub : OpR X (binaryOp .Sub) (cI0 fun i j => .int (i - j)) := op_sub.weak cI0_of
theorem oc_mul : OpR X (binaryOp .Mult) (cI CMul fun i j => .int (i * j)) := op_mul.weak cI_of
theorem oc_fdiv : OpR X (binaryOp .FloorDiv) (cI CDiv fun i j => .int (i / j)) := op_fdiv.weak cI_of
theorem oc_mod : OpR X (binaryOp .Mod) (cI (fun _ j => 0 < j) fun i j => .int (i % j)) := op_mod.weak cI_of
theorem oc_pow : OpR X (binaryOp .Pow) (cI CPow fun i j => .int (i ^ j.toNat)) := op_pow.weak cI_of
theorem oc_lt : OpR X (compareOp .Lt) (cI0 fun i j => .bl (decide (i < j))) := op_lt.weak cI0_of
theorem oc_le : OpR X (compareOp .LtE) (cI0 fun i j => .bl (decide (i ≤ j))) := op_le.weak cI0_of
theorem oc_gt : OpR X (compareOp .Gt) (cI0 fun i j => .bl (decide (j < i))) := op_gt.weak cI0_of
noncomputable def cEq (n : Bool) : R2 := fun x y H Q => match x, y with
  | .int i, .int j => Q (.bl (xor n (decide (i = j)))) H
  | .str i, .str j => Q (.bl (xor n (decide (i = j)))) H
  | _, _ => False
theorem decS {i j : Str} : decide (V.str i = V.str j) = decide (i = j) := by
  rw [Bool.eq_iff_iff]
  simp
theorem decI {i j : Int} : decide (V.int i = V.int j) = decide (i = j) := by
  rw [Bool.eq_iff_iff]
  simp
theorem oc_eq : OpR X (compareOp .Eq) (cEq false) := op_eq.weak fun x y H Q h => by
  unfold cEq at h
  split at h
  · refine ⟨rfl, ?_⟩; rw [decI]; rw [Bool.false_xor] at h; exact h
  · refine ⟨rfl, ?_⟩; rw [decS]; rw [Bool.false_xor] at h; exact h
  · exact h.elim
noncomputable def onB : V → (Bool → Prop) → Prop
  | .bl k, q => q k
  | _, _ => False
theorem onB_ex {x : V} {k : Bool → Prop} (h : onB x k) : ∃ c, x = .bl c ∧ k c := by
  cases x <;> first | exact ⟨_, rfl, h⟩ | exact h.elim
noncomputable def cT (t : TE) : TT := fun σ H Q => t σ H fun x H' => onB x fun k => Q k H'
theorem ptc_cmpR {op : CmpOp} {r : R2} (ho : OpR X (compareOp op) r) (ha : PE X a ta) (hb : PE X b tb) (hm : behindInMarks op b = false) : PT X (.Compare a [op] [b] pos) (cT (tOp r ta tb)) :=
  (pt_cmpR ho.mono ha.mono hb.mono hm).weak fun σ H Q h => ⟨_, h, fun x H1 h1 => ⟨_, h1, fun y H2 h2 => ⟨_, h2, fun z H' h3 => onB_ex h3⟩⟩⟩
noncomputable def cIxL : R2 := fun x y H Q => match x, y with
  | .ref p, .int i => ∃ xs, H p = some (.lst xs) ∧ onS (atI xs i) fun v => Q v H
  | _, _ => False
noncomputable def cIxS : R2 := fun x y H Q => match x, y with
  | .str z, .int i => z.length ≤ sizeLine ∧ onS (atI z.cps.toList i) fun c => Q (.str ⟨#[c]⟩) H
  | _, _ => False
theorem xc_list : IxR X cIxL := ix_list.weak fun x y H Q h => by
  unfold cIxL at h
  split at h
  · obtain ⟨xs, e, h⟩ := h
    obtain ⟨v, ev, h⟩ := onS_ex h
    exact ⟨_, xs, _, v, rfl, rfl, SqL.of e, ev, h⟩
  · exact h.elim
theorem xc_str : IxR X cIxS := ix_str.weak fun x y H Q h => by
  unfold cIxS at h
  split at h
  · obtain ⟨e, h⟩ := h
    obtain ⟨v, ev, h⟩ := onS_ex h
    exact ⟨_, _, v, rfl, rfl, e, ev, h⟩
  · exact h.elim
noncomputable def cS : R2 := fun x y H Q => match x, y with
  | .str i, .str j => i.length + j.length ≤ sizeLine ∧ Q (.str (i ++ j)) H
  | _, _ => False
theorem oc_addS : OpR X (binaryOp .Add) cS := op_add_str.weak fun x y H Q h => by
  unfold cS at h
  split at h
  · exact ⟨_, _, rfl, rfl, h.1, h.2⟩
  · exact h.elim
noncomputable def cApp (to ta : TE) : TE := fun σ H Q => to σ H fun x H1 => match x with
  | .ref l => (∃ xs, H1 l = some (.lst xs)) ∧ ta σ H1 fun y H2 => ∃ xs, H2 l = some (.lst xs) ∧ xs.length < sizeLine ∧ Q .non (upd H2 l (.lst (xs ++ [y])))
  | _ => False
theorem pec_app (h : PE X e (tBM X.K "list" rAppend (mT to) (tCons (mT ta) tNil))) : PE X e (cApp to ta) := h.weak fun σ H Q h => ⟨_, h, fun x H1 h1 => by
    cases x with
    | ref l =>
      obtain ⟨⟨xs, e⟩, q⟩ := h1
      exact ⟨.inl ⟨rfl, xs, SqL.of e⟩, _, q, fun y H2 ⟨xs, e, hl, q2⟩ => ⟨l, xs, y, rfl, rfl, e, hl, q2⟩⟩
    | _ => exact h1.elim⟩
end
end L2.Internal
namespace BO.Internal
open PySem L2.Internal
noncomputable def wd : Bool → Str
  | true => "goes"
  | false => "here"
structure Rw where
  w : Bool
  a : Int
  b : Int
  y : Option (Int × Int)
noncomputable def Rw.k (r : Rw) : List Key := [.inr (wd r.w), .inl r.a, .inl r.b]
noncomputable def whyD : Option (Int × Int) → Dt
  | none => .flat .non
  | some p => flD p
noncomputable def Rw.d (r : Rw) : Dt := .tup [.flat (.str (wd r.w)), .flat (.int r.a), .flat (.int r.b), whyD r.y]
structure DL (H : Hp) (d : Addr) (L : List Addr) (f : Int → List V) (k : Nat) : Prop where
  ex : ∃ kvs : List (Key × V), H d = some (.dK kvs) ∧ kvs.length ≤ k ∧ (∀ p, valV kvs (.inl p) = none → f p = []) ∧
    (∀ p v, valV kvs (.inl p) = some v → ∃ l, l ∈ L ∧ v = .ref l ∧ H l = some (.lst (f p))) ∧ (∀ p q v, valV kvs (.inl p) = some v → valV kvs (.inl q) = some v → p = q)
noncomputable def putf (f : Int → List V) (p : Int) (x : V) : Int → List V := fun q => if q = p then f p ++ [x] else f q
structure Sda (H : Hp) (d : Addr) (L : List Addr) (f : Int → List V) (k : Nat) (p : Int) (l : Addr) (H1 : Hp) : Prop where
  here : H1 l = some (.lst (f p))
  fin : ∀ H2 x, Same H1 H2 → ∃ L', (∀ a ∈ L', a ∈ L ∨ a = l) ∧ DL (upd H2 l (.lst (f p ++ [x]))) d L' (putf f p x) (k + 1)
  fr : ∀ a o, H a = some o → a ≠ d → H1 a = some o
  own : l ∈ L ∨ H l = none
theorem DL.get {H : Hp} {d : Addr} {L : List Addr} {f : Int → List V} {k : Nat} (W : DL H d L f k) (p : Int) {z : Addr} (hz : H z = none) :
    ∃ kvs l, (upd H z (.lst [])) d = some (.dK kvs) ∧ (valV kvs (.inl p)).getD (.ref z) = .ref l ∧ (upd H z (.lst [])) l = some (.lst (f p)) ∧ (l ∈ L ∨ H l = none) := by
  obtain ⟨kvs, e, hl, h1, h2, h3⟩ := W
  have s := same_new hz (.lst [])
  cases ev : valV kvs (.inl p) with
  | none => exact ⟨kvs, z, s _ _ e, by rw [ev]; rfl, by rw [h1 p ev]; exact upd_same, .inr hz⟩
  | some v =>
    obtain ⟨l, m, rfl, el⟩ := h2 p v ev
    exact ⟨kvs, l, s _ _ e, by rw [ev]; rfl, s _ _ el, .inl m⟩
end BO.Internal
namespace BO.Internal
open PySem L2.Internal
open Classical in
noncomputable def putR (R : List Rw) (ρ : Rw) : List Rw := if ρ.k ∈ R.map Rw.k then R else R ++ [ρ]
noncomputable def putsR (R l : List Rw) : List Rw := l.foldl putR R
end BO.Internal
namespace L2.Internal
open PySem PySem.Spec PyProof.Rows
section
variable {X : Cx}
end
end L2.Internal
namespace L2.Internal
open PySem PySem.Spec PyProof.Rows
section
variable {X : Cx}
theorem draw_list {prog : Program} {w : World} {A : Around} {E : Value → Shared → Prop} {it t : Addr} {items : Array Value} (hne : t ≠ it) : ∀ (n i : Nat) (s : Shared) (Q : List Value → Shared → Prop), s.heap.IsListIter it t i → s.heap.IsList t items → i + n ≤ items.size →
    (∀ h', h'.IsListIter it t (i + n) → Heap.SameBut it s.heap h' → Q ((items.toList.drop i).take n) { s with heap := h' }) → wpAny (model prog w) A (draw (.ref it) n) Q E s
  | 0, i, s, Q, hit, _, _, hQ => by
    show wpAny _ _ (pure []) Q E s
    exact wpAny_pure (by simpa using hQ s.heap hit (Heap.SameBut.refl ..))
  | n + 1, i, s, Q, hit, ht, hle, hQ => by
    have hlt : i < items.size := by omega
    show wpAny _ _ (pyNext (.ref it) >>= _) Q E s
    refine wpAny_bind (wpAny_pyNext_list_item hit ht (x := items[i]) (by simp [hlt]) fun h₁ hit₁ hs₁ => ?_)
    refine wpAny_bind (wpAny_holding (draw_list hne n (i + 1) _ _ hit₁ (ht.at fun o e => (hs₁.2 t hne).trans e) (by omega) fun h₂ hit₂ hs₂ => wpAny_pure ?_))
    have hd : items.toList.drop i = items[i] :: items.toList.drop (i + 1) := by simp [List.drop_eq_getElem_cons, hlt]
    have := hQ h₂ (by rw [show i + (n + 1) = i + 1 + n by omega]; exact hit₂) (hs₁.trans hs₂)
    rw [hd, List.take_succ_cons] at this
    exact this
theorem unpackItems_list {prog : Program} {w : World} {A : Around} {E : Value → Shared → Prop} {s : Shared} {t : Addr} {items : Array Value} {Q : List Value → Shared → Prop} (hh : A.handled = none) (ht : s.heap.IsList t items)
    (hQ : ∀ h', Heap.ExtBut s.heap.objs.size s.heap h' → Q items.toList { s with heap := h' }) : wpAny (model prog w) A (unpackItems (.ref t) items.size none) Q E s := by
  have hlt : t ≠ s.heap.objs.size := by obtain ⟨o, ho, _⟩ := ht; exact Nat.ne_of_lt (Heap.lt_size ho)
  unfold unpackItems
  refine wpAny_bind ?_
  · unfold notIterableAtAll
    refine wpAny_bind (wpAny_specialOf ht.typeIs F.slot_list_iter.lookup ?_)
    refine wpAny_pure ?_
    simp only [Bool.false_eq_true, if_false]
    refine wpAny_bind (wpAny_holding (wpAny_pyIter_list ht ?_))
    have htp : (s.heap.push { cls := .type "list_iterator", data := .fields #[.ref t, .int 0 0] }).IsList t items := ht.at fun o e => Heap.get?_push_of_some _ e
    refine wpAny_bind (wpAny_holding (draw_list hlt items.size 0 _ _ ⟨_, Heap.get?_push_size _ rfl, rfl, rfl⟩ htp (by omega) fun h₁ hit₁ hs₁ => ?_))
    have hall : List.take items.size (List.drop 0 items.toList) = items.toList := by
      rw [List.drop_zero]; exact List.take_of_length_le (by simp)
    rw [hall]
    rw [if_neg (by simp)]
    have ht₁ : h₁.IsList t items := htp.at fun o e => (hs₁.2 t hlt).trans e
    refine wpAny_bind (wpAny_holding (wpAny_pyNext_list_end hh hit₁ ht₁ (by simp) fun h₂ he₂ => ?_))
    simp only [Option.isSome_none, Bool.false_eq_true, if_false]
    refine wpAny_pure (hQ h₂ fun b o hb e => he₂ b o hb (hs₁.extBut b o hb (Heap.get?_push_of_some _ e)))
theorem assign_Tuple_list {prog : Program} {w : World} {A : Around} {E : Value → Shared → Prop} {s : Shared} {env : Env} {elts : List Expr} {x1} {pos : Pos} {t : Addr} {items : Array Value} {Q : Unit → Shared → Prop} (hh : A.handled = none) (ht : s.heap.IsList t items)
    (hn : (assignEach elts env).length = items.size) (hstar : (assignEach elts env).findIdx? (·.1) = none)
    (h : ∀ h', Heap.ExtBut s.heap.objs.size s.heap h' → wpAny (model prog w) A (assignInOrder ((assignEach elts env).map (·.2)) items.toList) Q E { s with heap := h' }) :
    wpAny (model prog w) A (assign (.Tuple elts x1 pos) env (.ref t)) Q E s := by
  rw [assign_Tuple]
  refine wpAny_bind (wpAny_standAt ?_)
  unfold unpack
  rw [hn, hstar]
  exact wpAny_bind (wpAny_holding (unpackItems_list hh ht h))
noncomputable def gLst (K : PySem.W.Frag) (n : Nat) (t : TGs) : TG := fun v σ H Q => ∃ a xs, v = .ref a ∧ SqL K H a xs ∧ xs.length = n ∧ t xs σ H Q
theorem pg_lst {es : List Expr} {k : Nat} {t : TGs} {n : Nat} {pos : Pos} (hc : X.calm = true) (h : PGs X es t)
    (hn : autoParam ((assignEach es X.env).length = n) L2.Internal.auR._auto_1) (hst : autoParam ((assignEach es X.env).findIdx? (·.1) = none) L2.Internal.auR._auto_1) : PG X (.Tuple es k pos) (gLst X.K n t) := by
  intro pins s σ H v u Q I r hw
  obtain ⟨a, xs, e1, hq, hl, hw⟩ := hw
  subst e1
  cases r
  obtain ⟨its, rv, ht, hz⟩ := I.list hq
  refine assign_Tuple_list (I.ok.hd hc) ht.isList (by simp [hn, ← hl, rv.length]) hst fun h' hx => ?_
  have I1 : Inv X pins σ H { s with heap := h' } := I.kept (t' := s.toks) fun b o e => hx b o (Nat.ne_of_lt (Heap.lt_size e)) e
  exact h pins _ σ H xs _ Q I1 (by simpa using rv) hw
end
end L2.Internal
namespace L2.Internal
open PySem PySem.Spec PyProof.Rows
section
variable {X : Cx}
end
section
variable {X : Cx} {pins : List (Addr × Obj)} {σ : St} {H : Hp} {s : Shared}
end
section
variable {prog : Program} {w : World} {A : Around} {R : Result → Shared → Prop} {I : Addr} {fp wr : List Addr} {n : Nat} {P : Nat → Value → Prop} {St : Nat → Heap → Prop}
end
section
variable {prog : Program} {w : World} {A : Around} {E : Value → Shared → Prop} {s : Shared} {l : Addr} {xs : Array (Int × Tok)}
end
section
variable {X : Cx}
end
end L2.Internal
namespace L2.Internal
open PySem PySem.Spec PyProof.Rows
section
variable {X : Cx}
theorem call_sumX (hc : X.calm = true) : CallR X (.builtin "sum") (fun xs H Q => ∃ (a : Addr) (ns : List Int), xs = [.ref a] ∧ SqL X.K H a (ns.map V.int) ∧ ns.length ≤ 100 ∧ (∀ n ∈ ns, 0 ≤ n ∧ n ≤ 1000) ∧ Q (.int ns.sum) H) := by
  intro pins s σ H xs us Q I r h
  obtain ⟨a, ns, rfl, hq, hl, hb, q⟩ := h
  obtain ⟨u, rfl, ru⟩ := vals1 r
  cases ru
  obtain ⟨its, rv, p, hz⟩ := I.list hq
  obtain ⟨zs, e⟩ := (intsAre_of rv).allInts.items
  have l := p.isList
  rw [e] at l
  have hn : ∀ j, numAt zs j = ns.getD j 0 := fun j => by
    have h1 : its.toArray[j]? = (intItems zs)[j]? := by rw [e]
    by_cases hj : j < ns.length
    · obtain ⟨v, hv, rv'⟩ := rv.get (show (ns.map V.int)[j]? = some (.int ns[j]) by rw [List.getElem?_map, List.getElem?_eq_getElem hj]; rfl)
      obtain ⟨t, rfl⟩ := rv'
      rw [List.getElem?_toArray, hv] at h1
      obtain ⟨t2, e2⟩ := intItems_at h1.symm
      injection e2 with e2 _
      rw [← e2, List.getD_eq_getElem?_getD, List.getElem?_eq_getElem hj]
      rfl
    · have hlen := rv.length
      rw [List.length_map] at hlen
      rw [List.getElem?_toArray, List.getElem?_eq_none (by omega)] at h1
      have h2 : zs[j]? = none := by
        simp only [intItems, Array.getElem?_map] at h1
        cases h3 : zs[j]? with
        | none => rfl
        | some z => rw [h3] at h1; cases h1
      rw [List.getD_eq_getElem?_getD, List.getElem?_eq_none (by omega)]
      simp [numAt, h2]
  have hsz : zs.size = ns.length := by
    have h1 := congrArg Array.size e
    simp only [intItems, List.size_toArray, Array.size_map] at h1
    have hlen := rv.length
    rw [List.length_map] at hlen
    omega
  have pre : ∀ j, j ≤ ns.length → preSum (numAt zs) j = (ns.take j).sum := fun j => by
    induction j with
    | zero => intro _; simp [preSum]
    | succ j ih =>
      intro hj
      rw [preSum, ih (by omega), hn, List.take_add_one, List.getElem?_eq_getElem (show j < ns.length by omega), List.sum_append, List.getD_eq_getElem?_getD, List.getElem?_eq_getElem (show j < ns.length by omega)]
      simp
  have bnd : ∀ l : List Int, (∀ n ∈ l, 0 ≤ n ∧ n ≤ 1000) → 0 ≤ l.sum ∧ l.sum ≤ 1000 * (l.length : Int) := fun l => by
    induction l with
    | nil => intro _; simp
    | cons x l ih =>
      intro h
      have h1 := h x (by simp)
      have h2 := ih fun n hn => h n (by simp [hn])
      rw [List.sum_cons, List.length_cons]
      omega
  refine sum_intList (I.ok.hd hc) l (fun j hj => ?_) fun h2 tk t2 hk => ⟨.int ns.sum, H, I.kept (t' := tk) hk, ⟨t2, ?_⟩, q⟩
  · rw [hsz] at hj
    have b1 := hb (ns.getD j 0) (by rw [List.getD_eq_getElem?_getD, List.getElem?_eq_getElem hj]; exact List.getElem_mem hj)
    have b2 := bnd (ns.take (j + 1)) fun n hm => hb n (List.mem_of_mem_take hm)
    have b3 : (ns.take (j + 1)).length ≤ 100 := by rw [List.length_take]; omega
    rw [hn, pre (j + 1) hj]
    constructor <;> constructor <;> omega
  · rw [hsz, pre ns.length (Nat.le_refl _), List.take_length]
end
end L2.Internal
namespace L2.Internal
open PySem PySem.Spec PyProof.Rows
section
variable {prog : Program} {w : World} {A : Around} {s : Shared}
end
section
variable {X : Cx}
end
end L2.Internal
namespace L2.Internal
open PySem PySem.Spec PyProof.Rows PySem.W
section
variable {prog : Program} {w : World} {A : Around} {E : Value → Shared → Prop} {s : Shared}
end
section
variable {X : Cx}
end
end L2.Internal
namespace L2.Internal
open PySem PySem.Spec PyProof.Rows PySem.W
section
variable {fs ex : List Addr} {H H' : Hp} {h h' : Heap}
end
section
variable {X : Cx} {pins : List (Addr × Obj)} {σ : St} {H H' : Hp} {s : Shared} {h' : Heap}
end
section
variable {X : Cx}
end
end L2.Internal
namespace L2.Internal
open PySem PySem.Spec PyProof.Rows
mutual
noncomputable def nlD : Dt → Bool
  | .flat _ => true
  | .tup l => nlDs l
  | .lst _ => false
noncomputable def nlDs : List Dt → Bool
  | [] => true
  | x :: xs => nlD x && nlDs xs
end
theorem nlDs_get : ∀ {l : List Dt} {j : Nat} {a : Dt}, nlDs l = true → l[j]? = some a → nlD a = true
  | x :: xs, 0, a, h, e => by
    cases e
    rw [nlDs, Bool.and_eq_true] at h
    exact h.1
  | x :: xs, j + 1, a, h, e => by
    rw [nlDs, Bool.and_eq_true] at h
    exact nlDs_get h.2 e
  | [], j, a, _, e => by simp at e
section
variable {X : Cx} {pins : List (Addr × Obj)} {σ : St} {H : Hp} {s : Shared}
mutual
theorem at_same (I : Inv X pins σ H s) : ∀ {x : V} {d e : Dt}, At X.K H x d → At X.K H x e → nlD d = true → nlD e = true → eqD d e = true
  | _, _, _, .flat h, .flat _, _, _ => by rw [eqD]; exact flat_same h
  | _, _, _, .tup h hs, .tup h' hs', n, n' => by
    have e := I.tuple_inj h h'
    subst e
    rw [nlD] at n n'
    rw [eqD]
    exact ats_same I hs hs' n n'
  | _, _, _, .flat h, .tup _ _, _, _ => absurd h Bool.false_ne_true
  | _, _, _, .tup _ _, .flat h, _, _ => absurd h Bool.false_ne_true
  | _, _, _, .lst _ _, _, n, _ => by rw [nlD] at n; cases n
  | _, _, _, _, .lst _ _, _, n => by rw [nlD] at n; cases n
theorem ats_same (I : Inv X pins σ H s) : ∀ {xs : List V} {l m : List Dt}, Ats X.K H xs l → Ats X.K H xs m → nlDs l = true → nlDs m = true → eqDs l m = true
  | _, _, _, .nil, .nil, _, _ => by rw [eqDs]
  | _, _, _, .cons h t, .cons h' t', n, n' => by
    rw [nlDs, Bool.and_eq_true] at n n'
    rw [eqDs, at_same I h h' n.1 n'.1, ats_same I t t' n.2 n'.2]
    rfl
end
theorem eq_flat_tup {A : Around} (I : Inv X pins σ H s) {x : V} {u : Value} {b : Addr} {ys : List V} (r : RelV x u) (hx : flatV x = true) (h : SqT X.K H b ys) (hu : A.units < cLine) : SeqAt.EqAt A s u (.ref b) false ∧ SeqAt.EqAt A s (.ref b) u false := by
  obtain ⟨its, _, pl, _⟩ := I.tuple h
  cases x with
  | non => cases r; exact ⟨.none_tuple pl hu, .tuple_none pl hu⟩
  | bl k => cases r; exact ⟨.bool_tuple _ pl hu, .tuple_bool _ pl hu⟩
  | int i => obtain ⟨t, rfl⟩ := r; exact ⟨.int_tuple _ _ pl hu, .tuple_int _ _ pl hu⟩
  | str z => obtain ⟨t, rfl⟩ := r; exact ⟨.str_tuple _ _ pl hu, .tuple_str _ _ pl hu⟩
  | _ => cases hx
theorem eqAt_M (I : Inv X pins σ H s) : ∀ (n : Nat) (A : Around) {x y : V} {u v : Value} {d e : Dt}, RelV x u → RelV y v → At X.K H x d → At X.K H y e → nlD d = true → nlD e = true → depD d ≤ n → A.units + n < cLine → SeqAt.EqAt A s u v (eqD d e) := by
  intro n
  induction n with
  | zero =>
    intro A x y u v d e rx ry hx hy n1 n2 hd hu
    cases hx with
    | flat h =>
      cases hy with
      | flat h' => rw [eqD]; exact eqAt_V rx ry h h'
      | tup h' _ => cases ry; simp only [eqD]; exact (eq_flat_tup I rx h h' (by omega)).1
      | lst _ _ => rw [nlD] at n2; cases n2
    | tup _ _ => rw [depD] at hd; omega
    | lst _ _ => rw [depD] at hd; omega
  | succ n ih =>
    intro A x y u v d e rx ry hx hy n1 n2 hd hu
    cases hx with
    | flat h =>
      cases hy with
      | flat h' => rw [eqD]; exact eqAt_V rx ry h h'
      | tup h' _ => cases ry; simp only [eqD]; exact (eq_flat_tup I rx h h' (by omega)).1
      | lst _ _ => rw [nlD] at n2; cases n2
    | lst _ _ => rw [nlD] at n1; cases n1
    | @tup a xs ds h hs =>
      cases hy with
      | flat h' => cases rx; simp only [eqD]; exact (eq_flat_tup I ry h' h (by omega)).2
      | lst _ _ => rw [nlD] at n2; cases n2
      | @tup b ys es h' hs' =>
        cases rx
        cases ry
        by_cases hab : a = b
        · subst hab
          rw [at_same I (.tup h hs) (.tup h' hs') n1 n2]
          exact SeqAt.EqAt.same _
        · rw [depD] at hd
          rw [nlD] at n1 n2
          refine SeqAt.EqAt.of_refs hab (rc_tup I h hs h' hs' (by omega) fun j d1 d2 x y u v f1 f2 q1 q2 p1 p2 => ?_).1
          exact ih A.in1 q1 q2 p1 p2 (nlDs_get n1 f1) (nlDs_get n2 f2) (Nat.le_trans (depDs_get f1) (by omega)) (by show A.units + 1 + n < cLine; omega)
end
section
variable {X : Cx}
end
end L2.Internal
namespace L2.Internal
open PySem PySem.Spec PyProof.Rows
section
open PySem.SeqAt
open PySem.AutoSeq1 (wpAny_loadPart')
open PySem.MeetsSeq PySem.MeetsSeq2 PySem.MeetsSeq3
end
section
variable {X : Cx}
end
end L2.Internal
namespace L2.Internal
open PySem PySem.Spec PyProof.Rows
theorem argBest_max (f : Nat → Int) : ∀ n, argBest (fun i j => decide (f i > f j)) n ≤ n ∧ ∀ k, k ≤ n → f k ≤ f (argBest (fun i j => decide (f i > f j)) n)
  | 0 => ⟨Nat.le_refl _, fun k hk => by
      have : k = 0 := by omega
      subst this
      exact Int.le_refl _⟩
  | n + 1 => by
    obtain ⟨h1, h2⟩ := argBest_max f n
    rw [argBest]
    by_cases h : f (n + 1) > f (argBest (fun i j => decide (f i > f j)) n)
    · rw [if_pos (decide_eq_true h)]
      refine ⟨Nat.le_refl _, fun k hk => ?_⟩
      by_cases e : k = n + 1
      · rw [e]; exact Int.le_refl _
      · have := h2 k (by omega)
        omega
    · rw [if_neg (by simpa using h)]
      refine ⟨by omega, fun k hk => ?_⟩
      by_cases e : k = n + 1
      · rw [e]; omega
      · exact h2 k (by omega)
section
variable {X : Cx}
theorem call_maxX (hc : X.calm = true) : CallR X (.builtin "max") (fun xs H Q => ∃ (a : Addr) (ns : List Int), xs = [.ref a] ∧ SqL X.K H a (ns.map V.int) ∧ ns ≠ [] ∧ ∀ n, n ∈ ns → (∀ m ∈ ns, m ≤ n) → Q (.int n) H) := by
  intro pins s σ H xs us Q I r h
  obtain ⟨a, ns, rfl, hq, hn, q⟩ := h
  obtain ⟨u, rfl, ru⟩ := vals1 r
  cases ru
  obtain ⟨its, rv, p, hz⟩ := I.list hq
  obtain ⟨zs, e⟩ := (intsAre_of rv).allInts.items
  have l := p.isList
  have hlen := rv.length
  rw [List.length_map] at hlen
  have hsz : zs.size = ns.length := by
    have h1 := congrArg Array.size e
    simp only [intItems, List.size_toArray, Array.size_map] at h1
    omega
  have hnum : ∀ j, j < ns.length → numAt zs j = ns.getD j 0 := fun j hj => by
    have h1 : its.toArray[j]? = (intItems zs)[j]? := by rw [e]
    obtain ⟨v, hv, rv'⟩ := rv.get (show (ns.map V.int)[j]? = some (.int ns[j]) by rw [List.getElem?_map, List.getElem?_eq_getElem hj]; rfl)
    obtain ⟨t, rfl⟩ := rv'
    rw [List.getElem?_toArray, hv] at h1
    obtain ⟨t2, e2⟩ := intItems_at h1.symm
    injection e2 with e2 _
    rw [← e2, List.getD_eq_getElem?_getD, List.getElem?_eq_getElem hj]
    rfl
  have e3 : 0 < ns.length := List.length_pos_iff.mpr hn
  rw [e] at l
  refine max_intList (I.ok.hd hc) l (by omega) fun v h' tk hv hk => ?_
  obtain ⟨t, rfl⟩ := intItems_at hv
  obtain ⟨b1, b2⟩ := argBest_max (numAt zs) (zs.size - 1)
  refine ⟨.int _, H, I.kept (t' := tk) hk, ⟨_, rfl⟩, q _ ?_ fun m hm => ?_⟩
  · rw [hnum _ (by omega), List.getD_eq_getElem?_getD, List.getElem?_eq_getElem (by omega)]
    exact List.getElem_mem _
  · obtain ⟨j, hj⟩ := List.mem_iff_getElem?.mp hm
    have hjl := (List.getElem?_eq_some_iff.mp hj).1
    have := b2 j (by omega)
    rw [hnum j hjl, List.getD_eq_getElem?_getD, hj] at this
    exact this
end
end L2.Internal
namespace L2.Internal
open PySem PySem.Spec PyProof.Rows
section
variable {X : Cx}
noncomputable def rIndexI (K : PySem.W.Frag) : V → List V → Hp → VK → Prop := fun x vs H Q => ∃ (l : Addr) (ns : List Int) (n : Int) (j : Nat), x = .ref l ∧ vs = [.int n] ∧ SqL K H l (ns.map V.int) ∧ ns.length ≤ 1000 ∧ ns[j]? = some n ∧ (∀ m : Nat, m < j → ns[m]? ≠ some n) ∧ Q (.int (j : Int)) H
noncomputable def isInt (n : Int) : Value → Bool
  | .int i _ => decide (i = n)
  | _ => false
theorem mt_indexI {k : Nat} (hr : Room k X.A) : MtR X "list.index" (rIndexI X.K) := by
  intro pins s σ H x vs v us Q I rx rv h
  obtain ⟨l, ns, n, j, rfl, rfl, hq, hl, hj, hno, q⟩ := h
  cases rx
  obtain ⟨u, rfl, ru⟩ := rv.one
  have hu := hr.un
  have sl0 : sizeLine = 16777216 := sizeLine_eq
  obtain ⟨its, r, pl, hz⟩ := I.list hq
  have lz := r.length
  rw [List.length_map] at lz
  have hjl := (List.getElem?_eq_some_iff.mp hj).1
  obtain ⟨⟨cls, dd, data, sl⟩, ho, hcl, n', hd⟩ := id pl.isList
  simp only at hcl hd
  subst hcl hd
  have rel : ∀ (i : Nat) (hi : i < its.length), ∃ z t, ns[i]? = some z ∧ its[i] = Value.int z t := fun i hi => by
    obtain ⟨z, hz⟩ : ∃ z, ns[i]? = some z := ⟨_, List.getElem?_eq_getElem (by omega)⟩
    obtain ⟨w, hw, rw'⟩ := r.get (show (ns.map V.int)[i]? = some (.int z) by rw [List.getElem?_map, hz]; rfl)
    rw [List.getElem?_eq_getElem hi] at hw
    cases hw
    obtain ⟨t, et⟩ := rw'
    exact ⟨z, t, hz, et⟩
  refine call_meets PySem.F.slot_list_index ⟨_, ho, rfl⟩ PySem.F.entry_list_index (PySem.F.args_list_index_2 _ _)
    (SeqAt.list_indexAt l its.toArray n' dd sl u (isInt n) j (by rw [List.size_toArray]; omega) (by omega) ?_ ?_) ⟨ho, fun w hw => ?_, ⟨.int (j : Int), H, I.tok _, ⟨_, rfl⟩, q⟩⟩
  · obtain ⟨z, t, hz1, hz2⟩ := rel j (by omega)
    rw [hj] at hz1
    cases hz1
    show isInt n its[j] = true
    rw [hz2]
    exact decide_eq_true rfl
  · intro m hm hmj
    rw [List.size_toArray] at hm
    obtain ⟨z, t, hz1, hz2⟩ := rel m hm
    show isInt n its[m] = false
    rw [hz2]
    refine decide_eq_false fun e => hno m hmj ?_
    rw [hz1, e]
  · have hw' : w ∈ its := by simpa using hw
    obtain ⟨i, hi, rfl⟩ := List.getElem_of_mem hw'
    obtain ⟨z, t, hz1, hz2⟩ := rel i hi
    have rz : RelV (.int z) its[i] := ⟨t, hz2⟩
    have := eqAt_M I 100 X.A.in1 rz ru (At.flat (K := X.K) rfl) (At.flat rfl) rfl rfl (by simp [depD]) (by show X.A.units + 1 + 100 < cLine; omega)
    have e : isInt n its[i] = eqD (.flat (.int z)) (.flat (.int n)) := by
      rw [hz2]
      show decide (z = n) = _
      rw [eqD]
      show decide (z = n) = (z == n)
      rw [Bool.eq_iff_iff]
      simp
    rw [e]
    exact this
end
end L2.Internal
namespace L2.Internal
open PySem PySem.Spec PyProof.Rows
theorem vals_texts : ∀ {ys : List Str} {its : List Value}, Vals (ys.map V.str) its → ∃ l : List (Str × Tok), its = strValues l ∧ l.map (·.1) = ys
  | [], its, h => by
    cases its with
    | nil => exact ⟨[], rfl, rfl⟩
    | cons a b => exact absurd h.length (by simp)
  | y :: ys, its, h => by
    cases its with
    | nil => exact absurd h.length (by simp)
    | cons u its =>
      obtain ⟨t, rfl⟩ : ∃ t, u = .str y t := by
        obtain ⟨v, hv, r⟩ := h.get (i := 0) (show ((y :: ys).map V.str)[0]? = some (.str y) from rfl)
        cases hv
        exact r
      obtain ⟨l, e1, e2⟩ := vals_texts (ys := ys) (its := its) (by
        cases h with
        | cons _ h => exact h)
      exact ⟨(y, t) :: l, by rw [e1]; rfl, by rw [List.map_cons, e2]⟩
section
variable {X : Cx}
noncomputable def rJoin (K : PySem.W.Frag) : V → List V → Hp → VK → Prop := fun x xs H Q => ∃ (z : Str) (a : Addr) (ys : List Str), x = .str z ∧ xs = [.ref a] ∧ SqL K H a (ys.map V.str) ∧ (ys.map (·.length)).sum + ys.length * z.length ≤ sizeLine ∧ Q (.str (Str.join z ys)) H
theorem mt_join : MtR X "str.join" (rJoin X.K) := by
  intro pins s σ H x xs v us Q I rx rs h
  obtain ⟨z, a, ys, rfl, rfl, hq, hz, q⟩ := h
  obtain ⟨t, rfl⟩ := rx
  obtain ⟨u, rfl, ru⟩ := vals1 rs
  cases ru
  obtain ⟨its, rv, p, _⟩ := I.list hq
  obtain ⟨l, e1, e2⟩ := vals_texts rv
  have hl := p.isList
  rw [e1] at hl
  refine SC.join hl e2 ?_ fun t' k => ?_
  · unfold JoinOk
    rw [StrLaws.joinTotal]
    have : ¬ (ys.map (·.length)).sum + ys.length * z.length > sizeLine := by omega
    show (!Builtin.Str.tooLong _) = true
    unfold Builtin.Str.tooLong
    rw [decide_eq_false this]
    rfl
  · have e : Txt.join z ys = Str.join z ys := StrLaws.glued_eq_join z ys
    rw [e]
    exact ⟨.str _, H, I.tok k, ⟨_, rfl⟩, q⟩
end
end L2.Internal
namespace L2.Internal
open PySem PySem.Spec PyProof.Rows
section
variable {X : Cx}
theorem call_strX : CallR X (.type "str") (fun xs H Q => (∃ i, xs = [.int i] ∧ i.natAbs.log2 < 1920 ∧ Q (.str (toString i)) H) ∨ ∃ x, xs = [.str x] ∧ Q (.str x) H) := by
  intro pins s σ H xs us Q I r h
  rcases h with ⟨i, rfl, hz, q⟩ | ⟨x, rfl, q⟩
  · obtain ⟨u, rfl, t, rfl⟩ := vals1 r
    exact PySem.P.str_of_int hz ⟨.str _, H, I.tok _, ⟨_, rfl⟩, q⟩
  · obtain ⟨u, rfl, t, rfl⟩ := vals1 r
    exact PySem.P.str_of_str ⟨.str x, H, I, ⟨_, rfl⟩, q⟩
end
end L2.Internal
namespace L2.Internal
open PySem PySem.Spec PyProof.Rows
section
variable {X : Cx}
noncomputable def rgV (n : Nat) : List V := (List.range n).map fun k : Nat => V.int (k : Int)
theorem vals_rg : ∀ {n : Nat} {xs : List V} {vs : List Value}, xs.length = n → vs.length = n → (∀ (j : Nat) x v, xs[j]? = some x → vs[j]? = some v → RelV x v) → Vals xs vs
  | 0, [], [], _, _, _ => .nil
  | n + 1, x :: xs, v :: vs, h1, h2, h => .cons (h 0 x v rfl rfl) (vals_rg (n := n) (by simpa using h1) (by simpa using h2) fun j x v hx hv => h (j + 1) x v hx hv)
noncomputable def tLRg (ta : TA) : TE := fun σ H Q => ta σ H fun vs H1 => ∃ j : Int, vs = [.int j] ∧ 0 ≤ j ∧ j ≤ 100000 ∧ ∀ l, H1 l = none → Q (.ref l) (upd H1 l (.lst (rgV j.toNat)))
theorem pe_listRng {a : Expr} {ta : TA} {p pos p2 pos2 : Pos} (hc : X.calm = true) (hg : Gl X "list") (hm : X.mg "list" = none) (hg2 : Gl X "range") (hm2 : X.mg "range" = none) (ha : PA X [a] ta)
    (hs : autoParam (starEach [a] X.env = [(false, eval a X.env)]) L2.Internal.auR._auto_1) (hs2 : autoParam (starEach [.Call (.Name "range" p2) [a] [] pos2] X.env = [(false, eval (.Call (.Name "range" p2) [a] [] pos2) X.env)]) L2.Internal.auR._auto_1) :
    PE X (.Call (.Name "list" p) [.Call (.Name "range" p2) [a] [] pos2] [] pos) (tLRg ta) := by
  intro pins s σ H Q I h
  refine wpAny_Call_Name_kw (ld_blt I hg hm bt_list ?_ (by decide) (by decide))
  refine PyProof.Rows.callWith_type1 ?_ hs2 rfl
  rw [hs2]
  refine Calls.spliced_cons ?_
  refine Call_ (ld_blt I hg2 hm2 boot_range (PyProof.Rows.callWith_type1 (thn (ha pos2 pins s σ H _ I h) fun us s1 ⟨vs, H1, I1, r1, q1⟩ => ?_) hs rfl))
  obtain ⟨j, e, q1, q2, q⟩ := q1
  subst e
  cases r1 with
  | cons r rr =>
    cases rr
    obtain ⟨t, rfl⟩ := r
    refine call_range_1 ?_
    refine Calls.spliced_nil ?_
    refine call_list_range (n := j.toNat) (I1.ok.hd hc) (IsRange.new ..) (small_one (by omega) (by omega) (by omega) (by omega)) (by rw [rangeSize_one]; split <;> omega) (by omega) fun h2 tk acc c2 hk hD hacc => ?_
    have kp : ∀ b o, s1.heap.get? b = some o → h2.get? b = some o := fun b o e => hk b o (Heap.get?_push_of_some _ e)
    have sz : ∀ o : Obj, (s1.heap.push o).objs.size = s1.heap.objs.size + 1 := fun o => Heap.size_push ..
    have hs3 : acc.size = j.toNat := hacc.1
    have hv : Vals (rgV j.toNat) acc.toList := by
      refine vals_rg (n := j.toNat) (by unfold rgV; simp) (by simpa using hs3) fun i x v hx hv => ?_
      rw [Array.getElem?_toList] at hv
      obtain ⟨t, rfl⟩ := hacc.2 i v hv
      unfold rgV at hx
      rw [List.getElem?_map] at hx
      obtain ⟨k, hk, rfl⟩ := Option.map_eq_some_iff.mp hx
      obtain ⟨hlt, rfl⟩ := List.getElem?_eq_some_iff.mp hk
      rw [List.getElem_range]
      have e1 : (0 : Int) + (i : Int) * 1 = (i : Int) := by omega
      rw [e1]
      exact ⟨_, rfl⟩
    refine ⟨.ref (s1.heap.objs.size + 1), _, ?_, by rw [sz]; rfl, q (s1.heap.objs.size + 1) (I1.hok.fresh (Nat.le_succ _))⟩
    have sl : sizeLine = 16777216 := sizeLine_eq
    refine I1.laid (a := s1.heap.objs.size + 1) (t' := tk) kp (Nat.le_succ _) ⟨by unfold rgV; rw [List.length_map, List.length_range]; omega, acc.toList, c2, hv, ?_⟩
    rw [sz] at hD
    simpa using hD
end
end L2.Internal
namespace L2.Internal
open PySem PySem.Spec PyProof.Rows
section
variable {prog : Program} {w : World} {A : Around} {E : Value → Shared → Prop} {h : Heap} {g : Array GenState} {d : Drawn} {t : Nat} {os : OsState} {a D : Addr} {o : Obj} {K : PySem.W.Frag}
structure XCls (K : PySem.W.Frag) (D : Addr) : Prop where
  ga : PySem.W.findIn K (.ref D) "__getattribute__" = some (some (.builtin "BaseException.__getattribute__"))
  gn : PySem.W.findIn K (.ref D) "__getattr__" = some none
  cl : PySem.W.findIn K (.ref D) "__class__" = some (some (.builtin "object.__class__"))
  sb : PySem.W.subIn K (.ref D) (.type "BaseException") = some true
  so : PySem.W.subIn K (.ref D) (.type "object") = some true
  is : PySem.W.hasDictIn K D = true
theorem xc_get {R : Result → Shared → Prop} (X : K.In h) (C : XCls K D) (hx : h.get? a = some o) (hc : o.cls = .ref D) (hq : R (.ok (.ret (.ref D))) ⟨h, g, d, t, os⟩) :
    codeAny (model prog w) A (.call (.builtin "getset_descriptor.__get__") ⟨[.builtin "object.__class__", .ref a, .ref D], []⟩) R ⟨h, g, d, t, os⟩ := by
  have hT5 : (⟨h, g, d, t, os⟩ : Shared).TypeIs (.builtin "object.__class__") "getset_descriptor" := F.typeOf_object_class
  have L := PySem.W.looks_subIn (M := model prog w) X C.so
  refine codeAny_call_builtin F.slot_gs_get.plain F.entry_gs_get (F.slot_gs_get.check _ _ _ _ _ _ _ _ hT5 (F.args_gs_get _ _ _) ?_)
  repeat (any_goals (first | assumption | (with_reducible refine wpAny_loadPart_at hx ?_; rw [hc]) | (rw [F.owner_object_class]) | (with_reducible refine L.at ?_) | wp_step))
  refine ⟨Code.quiet_builtin _ (by decide +kernel), codeAny_builtin F.entry_object_class ?_⟩
  repeat (any_goals (first | assumption | (with_reducible refine wpAny_loadPart_at hx ?_; rw [hc]) | wp_step))
theorem xc_entry {tk : Tok} {Q : Fin → Shared → Prop} (X : K.In h) (C : XCls K D) (hx : h.get? a = some o) (hc : o.cls = .ref D) (hq : Q (.done (.ret (.ref D))) ⟨h, g, d, t, os⟩) :
    wpAny (model prog w) A (Builtin.«object.__getattribute__» ⟨[.ref a, .str "__class__" tk], []⟩) Q E ⟨h, g, d, t, os⟩ := by
  have hT5 : (⟨h, g, d, t, os⟩ : Shared).TypeIs (.builtin "object.__class__") "getset_descriptor" := F.typeOf_object_class
  have f5 := F.typeOf_object_class
  have f6 := F.slot_gs_get.lookup
  have f7 := F.slot_gs_set.lookup
  have L := PySem.W.looks_findIn (M := model prog w) X C.cl
  repeat (any_goals (first | assumption | (with_reducible refine wpAny_loadPart_at hx ?_; rw [hc]) | (with_reducible refine L.at ?_) | wp_step))
  refine xc_get X C hx hc ?_
  repeat (any_goals (first | assumption | wp_step))
theorem xc_check {M : Model} {nameV : Value} {Q : Unit → Shared → Prop} (X : K.In h) (C : XCls K D) (hx : h.get? a = some o) (hc : o.cls = .ref D) (hq : Q () ⟨h, g, d, t, os⟩) : wpAny M A (checkBuiltinCall "BaseException.__getattribute__" ⟨[.ref a, nameV], []⟩) Q E ⟨h, g, d, t, os⟩ := by
  have hk : builtinKind "BaseException.__getattribute__" = some .slot := by decide +kernel
  have hsplit : splitId "BaseException.__getattribute__" = some ("BaseException", "__getattribute__") := by decide +kernel
  have ha := F.args_bexc_ga (.ref a) nameV
  have L := PySem.W.looks_subIn (M := M) X C.sb
  simp only [checkBuiltinCall, hk, hsplit]
  refine wpAny_bind ?_
  · unfold isInstance
    repeat (first | (with_reducible refine wpAny_loadPart_at hx ?_; rw [hc]) | (with_reducible refine L.at ?_) | wp_step)
    exact hq
theorem xc_call {tk : Tok} {R : Result → Shared → Prop} (X : K.In h) (C : XCls K D) (hx : h.get? a = some o) (hc : o.cls = .ref D) (hq : R (.ok (.ret (.ref D))) ⟨h, g, d, t, os⟩) :
    codeAny (model prog w) A (.call (.builtin "BaseException.__getattribute__") ⟨[.ref a, .str "__class__" tk], []⟩) R ⟨h, g, d, t, os⟩ :=
  codeAny_call_builtin F.excAttr_ValueError.ga.plain F.entry_bexc_ga (xc_check X C hx hc (xc_entry X C hx hc hq))
theorem xc_by {tk : Tok} {fill expr : Bool} {Q : Value → Shared → Prop} (X : K.In h) (C : XCls K D) (hx : h.get? a = some o) (hc : o.cls = .ref D) (hq : Q (.ref D) ⟨h, g, d, t, os⟩) :
    wpAny (model prog w) A (getAttrBy (.ref a) (.str "__class__" tk) fill expr) Q E ⟨h, g, d, t, os⟩ := by
  have f3 := F.excAttr_ValueError.ga.bind (.ref a)
  have hx0 : (expr && onTheHeap (Value.builtin "BaseException.__getattribute__")) = false := by cases expr <;> rfl
  have hx2 : (Value.builtin "BaseException.__getattribute__" == Value.builtin "object.__getattribute__") = false := by decide +kernel
  have hx1 : (onTheHeap (Value.ref D) && Value.builtin "BaseException.__getattribute__" == Value.builtin "object.__getattribute__") = false := by rw [hx2]; rfl
  have L1 := PySem.W.looks_findIn (M := model prog w) X C.ga
  have L2.Internal := PySem.W.looks_findIn (M := model prog w) X C.gn
  repeat (any_goals (first | assumption | (with_reducible refine wpAny_loadPart_at hx ?_; rw [hc]) | (with_reducible refine L1.at ?_) | (with_reducible refine L2.Internal.at ?_) | wp_step))
  refine xc_call X C hx hc ?_
  repeat (any_goals (first | assumption | wp_step))
theorem xc_attr {Q : Option Value → Shared → Prop} (X : K.In h) (C : XCls K D) (hx : h.get? a = some o) (hc : o.cls = .ref D) (hq : Q (some (.ref D)) ⟨h, g, d, t + 1, os⟩) : wpAny (model prog w) A (getAttr? (.ref a) "__class__") Q E ⟨h, g, d, t, os⟩ := by
  unfold getAttr? getAttrBy?
  repeat (any_goals (first | assumption | with_reducible apply xc_by X C hx hc | wp_step))
theorem kitx_exc (C : XCls K D) : PySem.W.KitX K (.ref a) (.ref D) (fun h => ∃ o, h.get? a = some o ∧ o.cls = .ref D) where
  ty := fun M h _ ⟨o, e, c⟩ => by
    have z : PySem.W.Looks M h (typeOf (.ref a)) o.cls := (PySem.W.Looks.ld e).andThen .now
    rw [c] at z
    exact z
  it := fun _ _ X _ => by
    obtain ⟨cd, hc, _⟩ := PySem.W.any_some C.is
    unfold PySem.W.clsIn at hc
    split at hc
    · rename_i c' d' cd' sl' ho
      intro A' Q' E' s' k q
      unfold isType loadHead
      exact wpAny_bind (wpAny_loadPart (k _ _ (X _ _ ho)) (wpAny_pure q))
    · cases hc
  ne := fun h tp dd its n sl X htp => by
    obtain ⟨cd, hc, _⟩ := PySem.W.any_some C.is
    refine Bool.eq_false_iff.mpr fun q => ?_
    have e : D = tp := Value.ref.inj (beq_iff_eq.mp q)
    subst e
    unfold PySem.W.clsIn at hc
    split at hc
    · rename_i c' d' cd' sl' ho
      have z := (X _ _ ho).symm.trans htp
      cases z
    · cases hc
  ca := fun {_ _ _ _ _ s} X ⟨o, e, c⟩ k => by
    obtain ⟨h, g, d, t, os⟩ := s
    exact xc_attr X C e c k
end
section
variable {X : Cx}
theorem call_isiE : CallR X (.builtin "isinstance") (fun xs H Q => ∃ ea D v c b, xs = [.ref ea, v] ∧ (∀ u, RelV v u → u = c) ∧ H ea = some (excO ea (.ref D)) ∧ XCls X.K D ∧ PySem.W.kitOne X.K (.ref D) c = some b ∧ Q (.bl b) H) := by
  intro pins s σ H xs us Q I r h
  obtain ⟨ea, D, v, c, b, rfl, hc, he, C, hk, q⟩ := h
  obtain ⟨u, u', rfl, ru, ru'⟩ := vals2 r
  cases hc u' ru'
  cases ru
  obtain ⟨h1, _, _⟩ := (show ObjOk X.prog X.w H s.heap ea (excO ea (.ref D)) from I.hok ea _ he)
  exact PySem.W.kia_one (kitx_exc C) I.kIn h1 hk (fun z => nomatch z) fun tk => ⟨.bl b, H, I.tok tk, rfl, q⟩
end
end L2.Internal
namespace T1
open PySem
noncomputable def sub (c : Nat) (z : List Nat) (l : List Nat) : List Nat := l.flatMap fun k => if k = c then z else [k]
theorem sub_append (c : Nat) (z a b : List Nat) : sub c z (a ++ b) = sub c z a ++ sub c z b := List.flatMap_append ..
theorem sub_free (c : Nat) (z : List Nat) : ∀ l : List Nat, ¬ c ∈ l → sub c z l = l
  | [], _ => rfl
  | k :: r, h => by
    have h1 : ¬ k = c := fun e => h (e ▸ List.mem_cons_self ..)
    have h2 : ¬ c ∈ r := fun m => h (List.mem_cons_of_mem _ m)
    show (if k = c then z else [k]) ++ sub c z r = k :: r
    rw [if_neg h1, sub_free c z r h2]
    rfl
theorem sub_one (c : Nat) (z : List Nat) : sub c z [c] = z := by simp [sub]
theorem sub_join (c : Nat) (z : Str) : ∀ parts : List Str, (∀ p ∈ parts, ¬ c ∈ p.cps.toList) → sub c z.cps.toList (Str.join ⟨#[c]⟩ parts).cps.toList = (Str.join z parts).cps.toList
  | [], _ => rfl
  | [p], h => sub_free c _ _ (h p (List.mem_singleton.mpr rfl))
  | p :: q :: r, h => by
    have ih := sub_join c z (q :: r) fun a ha => h a (List.mem_cons_of_mem _ ha)
    show sub c z.cps.toList (p ++ ⟨#[c]⟩ ++ Str.join ⟨#[c]⟩ (q :: r)).cps.toList = (p ++ z ++ Str.join z (q :: r)).cps.toList
    simp only [Str.cps_append, Array.toList_append]
    rw [sub_append, sub_append, ih, sub_free c _ _ (h p (List.mem_cons_self ..))]
    have e : sub c z.cps.toList [c] = z.cps.toList := sub_one c _
    rw [e]
noncomputable def cut (c : Nat) : List Nat → List (List Nat)
  | [] => [[]]
  | k :: r => if k = c then [] :: cut c r else match cut c r with
    | h :: t => (k :: h) :: t
    | [] => [[k]]
theorem cut_free (c : Nat) : ∀ l : List Nat, ¬ c ∈ l → cut c l = [l]
  | [], _ => rfl
  | k :: r, h => by
    have h1 : ¬ k = c := fun e => h (e ▸ List.mem_cons_self ..)
    have h2 : ¬ c ∈ r := fun m => h (List.mem_cons_of_mem _ m)
    unfold cut
    rw [if_neg h1, cut_free c r h2]
theorem cut_more (c : Nat) : ∀ (p r : List Nat), ¬ c ∈ p → cut c (p ++ c :: r) = p :: cut c r
  | [], r, _ => by show (if c = c then [] :: cut c r else _) = _; rw [if_pos rfl]
  | k :: p, r, h => by
    have h1 : ¬ k = c := fun e => h (e ▸ List.mem_cons_self ..)
    have h2 : ¬ c ∈ p := fun m => h (List.mem_cons_of_mem _ m)
    show (if k = c then _ else match cut c (p ++ c :: r) with | h :: t => (k :: h) :: t | [] => [[k]]) = _
    rw [if_neg h1, cut_more c p r h2]
theorem cut_join (c : Nat) : ∀ parts : List Str, parts ≠ [] → (∀ p ∈ parts, ¬ c ∈ p.cps.toList) → cut c (Str.join ⟨#[c]⟩ parts).cps.toList = parts.map (·.cps.toList)
  | [], h, _ => absurd rfl h
  | [p], _, h => cut_free c _ (h p (List.mem_singleton.mpr rfl))
  | p :: q :: r, _, h => by
    have ih := cut_join c (q :: r) (by simp) fun a ha => h a (List.mem_cons_of_mem _ ha)
    show cut c (p ++ ⟨#[c]⟩ ++ Str.join ⟨#[c]⟩ (q :: r)).cps.toList = _
    simp only [Str.cps_append, Array.toList_append]
    have e : p.cps.toList ++ [c] ++ (Str.join ⟨#[c]⟩ (q :: r)).cps.toList = p.cps.toList ++ c :: (Str.join ⟨#[c]⟩ (q :: r)).cps.toList := by simp
    show cut c (p.cps.toList ++ [c] ++ (Str.join ⟨#[c]⟩ (q :: r)).cps.toList) = _
    rw [e, cut_more c _ _ (h p (List.mem_cons_self ..)), ih]
    rfl
noncomputable def step (a : List (List Nat) × List Nat) (k : Nat) : List (List Nat) × List Nat :=
  if k = 32 then (if a.2 = [] then (a.1, []) else (a.1 ++ [a.2], [])) else (a.1, a.2 ++ [k])
noncomputable def scan (l : List Nat) : List (List Nat) × List Nat := l.foldl step ([], [])
noncomputable def all (a : List (List Nat) × List Nat) : List (List Nat) := if a.2 = [] then a.1 else a.1 ++ [a.2]
theorem scan_append (a b : List Nat) : scan (a ++ b) = b.foldl step (scan a) := by unfold scan; rw [List.foldl_append]
theorem cut_ne (c : Nat) : ∀ l, cut c l ≠ []
  | [] => by simp [cut]
  | k :: r => by
    unfold cut
    split
    · simp
    · split <;> simp
theorem cut_snoc_c (c : Nat) : ∀ l, cut c (l ++ [c]) = cut c l ++ [[]]
  | [] => by simp [cut]
  | k :: r => by
    have ih := cut_snoc_c c r
    show (if k = c then [] :: cut c (r ++ [c]) else match cut c (r ++ [c]) with | h :: t => (k :: h) :: t | [] => [[k]]) = (if k = c then [] :: cut c r else match cut c r with | h :: t => (k :: h) :: t | [] => [[k]]) ++ [[]]
    rw [ih]
    split
    · rfl
    · cases e : cut c r with
      | nil => exact absurd e (cut_ne c r)
      | cons h t => rfl
theorem cut_snoc (c : Nat) {k : Nat} (hk : ¬ k = c) : ∀ l (A : List (List Nat)) (b : List Nat), cut c l = A ++ [b] → cut c (l ++ [k]) = A ++ [b ++ [k]]
  | [], A, b, h => by
    have e : A = [] ∧ b = [] := by
      cases A with
      | nil =>
        have h' : [[]] = [b] := h
        injection h' with h1 _
        exact ⟨rfl, h1.symm⟩
      | cons x A =>
        have h' : [[]] = x :: (A ++ [b]) := h
        injection h' with _ h2
        simp at h2
    obtain ⟨rfl, rfl⟩ := e
    show (if k = c then _ else match cut c [] with | h :: t => (k :: h) :: t | [] => [[k]]) = _
    rw [if_neg hk]
    rfl
  | x :: r, A, b, h => by
    have h : (if x = c then [] :: cut c r else match cut c r with | h :: t => (x :: h) :: t | [] => [[x]]) = A ++ [b] := h
    show (if x = c then [] :: cut c (r ++ [k]) else match cut c (r ++ [k]) with | h :: t => (x :: h) :: t | [] => [[x]]) = A ++ [b ++ [k]]
    by_cases e : x = c
    · rw [if_pos e] at h ⊢
      cases A with
      | nil =>
        have h' : [] :: cut c r = [b] := h
        injection h' with _ h2
        exact absurd h2 (cut_ne c r)
      | cons y A =>
        have h' : [] :: cut c r = y :: (A ++ [b]) := h
        injection h' with h1 h2
        rw [cut_snoc c hk r A b h2, ← h1]
        rfl
    · rw [if_neg e] at h ⊢
      cases q : cut c r with
      | nil => exact absurd q (cut_ne c r)
      | cons g t =>
        rw [q] at h
        have h : (x :: g) :: t = A ++ [b] := h
        cases A with
        | nil =>
          have h' : (x :: g) :: t = [b] := h
          injection h' with h1 h2
          rw [cut_snoc c hk r [] g (by rw [q, h2]; rfl), ← h1]
          rfl
        | cons y A =>
          have h' : (x :: g) :: t = y :: (A ++ [b]) := h
          injection h' with h1 h2
          rw [cut_snoc c hk r (g :: A) b (by rw [q, h2]; rfl), ← h1]
          rfl
theorem cut_scan (l : List Nat) : ∃ A, cut 32 l = A ++ [(scan l).2] ∧ A.filter (fun p => decide (p ≠ [])) = (scan l).1 := by
  suffices H : ∀ n (l : List Nat), l.length = n → ∃ A, cut 32 l = A ++ [(scan l).2] ∧ A.filter (fun p => decide (p ≠ [])) = (scan l).1 from H _ l rfl
  intro n
  induction n with
  | zero =>
    intro l h
    have e : l = [] := List.length_eq_zero_iff.mp h
    subst e
    exact ⟨[], rfl, rfl⟩
  | succ n ih =>
    intro l h
    obtain ⟨m, k, rfl⟩ : ∃ m k, l = m ++ [k] := by
      have hne : l ≠ [] := by intro e; rw [e] at h; simp at h
      exact ⟨l.dropLast, l.getLast hne, (List.dropLast_concat_getLast hne).symm⟩
    obtain ⟨A, h1, h2⟩ := ih m (by simp at h; exact h)
    rw [scan_append]
    show ∃ A, cut 32 (m ++ [k]) = A ++ [(step (scan m) k).2] ∧ A.filter (fun p => decide (p ≠ [])) = (step (scan m) k).1
    by_cases e : k = 32
    · subst e
      refine ⟨A ++ [(scan m).2], ?_, ?_⟩
      · rw [cut_snoc_c, h1]
        unfold step
        rw [if_pos rfl]
        split <;> rfl
      · rw [List.filter_append, h2]
        unfold step
        rw [if_pos rfl]
        by_cases e2 : (scan m).2 = []
        · rw [if_pos e2, e2]; simp
        · rw [if_neg e2]; simp [e2]
    · refine ⟨A, ?_, ?_⟩
      · unfold step
        rw [if_neg e]
        exact cut_snoc 32 e m A _ h1
      · unfold step
        rw [if_neg e]
        exact h2
theorem words_cut (l : List Nat) : (cut 32 l).filter (fun p => decide (p ≠ [])) = all (scan l) := by
  obtain ⟨A, h1, h2⟩ := cut_scan l
  rw [h1, List.filter_append, h2]
  unfold all
  by_cases e : (scan l).2 = []
  · rw [if_pos e, e]; simp
  · rw [if_neg e]; simp [e]
noncomputable def ex (k : Nat) : List Nat := if k = 40 then [32, 40, 32] else if k = 41 then [32, 41, 32] else if k = 10 then [32] else [k]
noncomputable def spaced (l : List Nat) : List Nat := l.flatMap ex
theorem spaced_append (a b : List Nat) : spaced (a ++ b) = spaced a ++ spaced b := List.flatMap_append ..
theorem spaced_sub : ∀ l : List Nat, sub 10 [32] (sub 41 [32, 41, 32] (sub 40 [32, 40, 32] l)) = spaced l
  | [] => rfl
  | k :: r => by
    have ih := spaced_sub r
    have e : ∀ (c : Nat) (z : List Nat) (l : List Nat) (k : Nat), sub c z (k :: l) = (if k = c then z else [k]) ++ sub c z l := fun _ _ _ _ => rfl
    have e2 : spaced (k :: r) = ex k ++ spaced r := rfl
    rw [e, sub_append, sub_append, ih, e2]
    congr 1
    unfold ex
    by_cases h1 : k = 40
    · rw [if_pos h1, if_pos h1]; rfl
    · rw [if_neg h1, if_neg h1]
      by_cases h2 : k = 41
      · rw [if_pos h2, h2]; rfl
      · rw [if_neg h2, e, if_neg h2]
        show sub 10 [32] ([k] ++ []) = _
        rw [List.append_nil, e]
        by_cases h3 : k = 10
        · rw [if_pos h3]; rfl
        · rw [if_neg h3]; rfl
noncomputable def W (l : List Nat) : List (List Nat) × List Nat := scan (spaced l)
theorem W_append (a b : List Nat) : W (a ++ b) = (spaced b).foldl step (W a) := by unfold W; rw [spaced_append, scan_append]
theorem W_gap (a : List Nat) {k : Nat} (hk : k = 32 ∨ k = 10) : W (a ++ [k]) = (all (W a), []) := by
  rw [W_append]
  have e : spaced [k] = [32] := by rcases hk with e | e <;> subst e <;> rfl
  rw [e]
  show step (W a) 32 = _
  unfold step all
  rw [if_pos rfl]
  split <;> rfl
theorem W_run (a : List Nat) : ∀ p : List Nat, (∀ k ∈ p, k ≠ 32 ∧ k ≠ 10 ∧ k ≠ 40 ∧ k ≠ 41) → W (a ++ p) = ((W a).1, (W a).2 ++ p) := by
  intro p hp
  rw [W_append]
  have e : spaced p = p := by
    induction p with
    | nil => rfl
    | cons k r ih =>
      obtain ⟨h1, h2, h3, h4⟩ := hp k (List.mem_cons_self ..)
      have e2 : spaced (k :: r) = ex k ++ spaced r := rfl
      rw [e2, ih fun x hx => hp x (List.mem_cons_of_mem _ hx)]
      unfold ex
      rw [if_neg h3, if_neg h4, if_neg h2]
      rfl
  rw [e]
  generalize W a = b
  induction p generalizing b with
  | nil => show b = _; rw [List.append_nil]
  | cons k r ih =>
    obtain ⟨h1, h2, h3, h4⟩ := hp k (List.mem_cons_self ..)
    show r.foldl step (step b k) = _
    have e1 : step b k = (b.1, b.2 ++ [k]) := by unfold step; rw [if_neg h1]
    have e3 : spaced r = r := by
      have e2 : spaced (k :: r) = ex k ++ spaced r := rfl
      have e4 : ex k = [k] := by unfold ex; rw [if_neg h3, if_neg h4, if_neg h2]
      rw [e2, e4] at e
      injection e
    rw [e1, ih (fun x hx => hp x (List.mem_cons_of_mem _ hx)) e3]
    simp
end T1
namespace T1
open PySem
open Builtin Builtin.Str
theorem replace_codes (x z : Str) (c : Nat) : (Txt.replace x ⟨#[c]⟩ z).cps.toList = sub c z.cps.toList x.cps.toList := by
  rw [StrLaws.replace_one, ← sub_join c z _ (StrLaws.split_free x c), StrLaws.join_split]
theorem split_ne (x y : Str) : Txt.split x y ≠ [] := by
  unfold Txt.split
  split
  · simp
  · split
    · simp
    · rename_i h
      cases e : occurrences x y 0 x.length (x.length + 1) with
      | nil => rw [e] at h; exact absurd rfl h
      | cons a r => simp [partsBetween]
theorem split_codes (x : Str) (c : Nat) : (Txt.split x ⟨#[c]⟩).map (·.cps.toList) = cut c x.cps.toList := by
  have h := cut_join c (Txt.split x ⟨#[c]⟩) (split_ne x _) (StrLaws.split_free x c)
  rw [StrLaws.join_split] at h
  exact h.symm
theorem flat_len (f : Nat → List Nat) (n : Nat) (h : ∀ k, (f k).length ≤ n) : ∀ l : List Nat, (l.flatMap f).length ≤ n * l.length
  | [] => by simp
  | k :: r => by
    rw [List.flatMap_cons, List.length_append, List.length_cons]
    have h1 := h k
    have h2 := flat_len f n h r
    rw [Nat.mul_succ]
    omega
theorem str_ext {x y : Str} (h : x.cps.toList = y.cps.toList) : x = y := by
  obtain ⟨a⟩ := x
  obtain ⟨b⟩ := y
  have e : a = b := Array.toList_inj.mp h
  rw [e]
theorem len_codes (x : Str) : x.cps.toList.length = x.length := by rw [Array.length_toList]; rfl
end T1
namespace T1
open PySem
theorem dig_len : ∀ (k m : Nat), m < 10 ^ (k + 1) → (Nat.toDigits 10 m).length ≤ k + 1 := by
  intro k
  induction k with
  | zero =>
    intro m h
    rw [Nat.toDigits_of_lt_base (by simpa using h)]
    exact Nat.le_refl _
  | succ k ih =>
    intro m h
    by_cases h10 : m < 10
    · rw [Nat.toDigits_of_lt_base h10]
      show 1 ≤ _
      omega
    · have hm : m % 10 < 10 := Nat.mod_lt m (by decide)
      have t : Nat.toDigits 10 (m / 10) ++ Nat.toDigits 10 (m % 10) = Nat.toDigits 10 (10 * (m / 10) + m % 10) := Nat.toDigits_append_toDigits (by decide) (by omega) hm
      rw [Nat.div_add_mod] at t
      rw [← t, List.length_append, Nat.toDigits_of_lt_base hm]
      have hq : m / 10 < 10 ^ (k + 1) := by
        rw [Nat.div_lt_iff_lt_mul (by decide)]
        rw [Nat.pow_succ] at h
        exact h
      have := ih (m / 10) hq
      show _ + 1 ≤ _
      omega
end T1
namespace GR.Internal
open PySem L2.Internal
theorem sz {n : Nat} (h : n ≤ 100000) : n ≤ sizeLine := Nat.le_trans h (by decide)
theorem same_new {H : Hp} {p : Addr} (h : H p = none) (o : HO) : Same H (upd H p o) := fun b u q => by rw [upd_ne (ne_of_none q h)]; exact q
theorem atI_lt {α : Type} (l : List α) (i : Int) (h0 : 0 ≤ i) (h1 : i < (l.length : Int)) : ∃ c, atI l i = some c ∧ c ∈ l := by
  have e : i = ((i.toNat : Nat) : Int) := by omega
  have hi : i.toNat < l.length := by omega
  refine ⟨l[i.toNat], ?_, List.getElem_mem hi⟩
  have z : atI l ((i.toNat : Nat) : Int) = some l[i.toNat] := atI_nat (List.getElem?_eq_getElem hi)
  rw [← e] at z
  exact z
noncomputable def wV (w : List Nat) : V := .str ⟨w.toArray⟩
noncomputable def wordsV (l : List Nat) : List V := (T1.all (T1.W l)).map wV
theorem wordsV_str (l : List Nat) : wordsV l = ((T1.all (T1.W l)).map fun w => (⟨w.toArray⟩ : Str)).map V.str := by
  unfold wordsV
  rw [List.map_map]
  rfl
noncomputable def KWV : List V := [.str "def", .str "fn", .str "call", .str "let", .str "rec", .str "get", .str "tag", .str "case", .str "row", .str "at", .str "join", .str "size", .str "add", .str "sub", .str "less"]
noncomputable def SM : Str := "abcdefghijklmnopqrstuvwxyz"
noncomputable def FG : Str := "0123456789"
noncomputable def allIn (x y : Str) : Bool := x.cps.toList.all fun c => decide (c ∈ y.cps.toList)
noncomputable def firstIn (x y : Str) : Bool := match x.cps.toList with
  | [] => false
  | c :: _ => decide (c ∈ y.cps.toList)
noncomputable def isName (x : Str) : Bool := decide (1 ≤ x.length) && decide (x.length ≤ 12) && !inV (.str x) KWV && firstIn x SM && allIn x (SM ++ FG)
theorem first_of {x : Str} (h : 1 ≤ x.length) : ∃ c r, x.cps.toList = c :: r := by
  have e := T1.len_codes x
  cases q : x.cps.toList with
  | nil => rw [q] at e; simp at e; omega
  | cons c r => exact ⟨c, r, rfl⟩
theorem at0 {c : Nat} {r : List Nat} : atI (c :: r) (0 : Int) = some c := atI_nat (j := 0) rfl
noncomputable def first0 (x : Str) : Bool := match x.cps.toList with
  | [] => false
  | c :: _ => c == 48
noncomputable def isNum (x : Str) : Bool := decide (1 ≤ x.length) && decide (x.length ≤ 60) && allIn x FG && (!first0 x || decide (x = "0"))
noncomputable def intOf (x : Str) : Int := (intText? x).getD 0
theorem one_eq0 (c : Nat) : decide (V.str ⟨#[c]⟩ = V.str "0") = (c == 48) := by
  by_cases h : c = 48
  · subst h
    rfl
  · have h1 : ¬ V.str ⟨#[c]⟩ = V.str "0" := fun z => by
      injection z with z
      have e : (⟨#[c]⟩ : Str).cps.toList = ("0" : Str).cps.toList := by rw [z]
      have e2 : [c] = [48] := e
      injection e2 with e3 _
      exact h e3
    rw [decide_eq_false h1]
    exact (beq_eq_false_iff_ne.mpr h).symm
theorem fg_digit : ∀ c ∈ FG.cps.toList, 48 ≤ c ∧ c ≤ 57 := by decide +kernel
theorem allIn_mem {x y : Str} (h : allIn x y = true) : ∀ c ∈ x.cps.toList, c ∈ y.cps.toList := fun c hc => of_decide_eq_true (List.all_eq_true.mp h c hc)
theorem int_of_fig {x : Str} (h1 : 1 ≤ x.length) (h2 : x.length ≤ 100) (h : allIn x FG = true) : intText? x = some (intOf x) := by
  have hd : PySem.NumText.AllDigits x.cps.toList := fun c hc => fg_digit c (allIn_mem h c hc)
  have hne : x.cps.toList ≠ [] := by
    obtain ⟨c, r, e⟩ := first_of h1
    rw [e]
    exact List.cons_ne_nil _ _
  have e := PySem.intText_digits hd hne (by omega)
  unfold intOf
  rw [e]
  rfl
theorem isNum_parts {x : Str} (h : isNum x = true) : 1 ≤ x.length ∧ x.length ≤ 60 ∧ allIn x FG = true := by
  unfold isNum at h
  simp only [Bool.and_eq_true, decide_eq_true_eq] at h
  exact ⟨h.1.1.1, h.1.1.2, h.1.2⟩
theorem ixN_nat {n j : Nat} (h : j < n) : ixN n (j : Int) = some j := by
  unfold ixN
  rw [if_pos (by omega), if_pos (by omega)]
  simp
noncomputable def fR (wl : Addr) (k : Int) (rl : Addr) : List (Str × V) := [("words", .ref wl), ("taken", .int k), ("rows", .ref rl)]
theorem fR_mk (wl : Addr) (k : Int) (rl : Addr) : putF "rows" (.ref rl) (putF "taken" (.int k) (putF "words" (.ref wl) [])) = fR wl k rl := by
  have h1 : ¬ (("words" : Str) = "taken") := by decide +kernel
  have h2 : ¬ (("words" : Str) = "rows") := by decide +kernel
  have h3 : ¬ (("taken" : Str) = "rows") := by decide +kernel
  simp only [putF, if_neg h1, if_neg h2, if_neg h3, fR]
theorem fR_put (wl : Addr) (k j : Int) (rl : Addr) : putF "taken" (.int j) (fR wl k rl) = fR wl j rl := by
  have h1 : ¬ (("words" : Str) = "taken") := by decide +kernel
  simp only [putF, fR, if_neg h1, if_pos]
theorem fR_words (wl : Addr) (k : Int) (rl : Addr) : (fR wl k rl).lookup ("words" : Str) = some (.ref wl) := by
  unfold fR
  rw [List.lookup_cons, show (("words" : Str) == "words") = true by decide +kernel]
theorem fR_taken (wl : Addr) (k : Int) (rl : Addr) : (fR wl k rl).lookup ("taken" : Str) = some (.int k) := by
  unfold fR
  rw [List.lookup_cons, show (("taken" : Str) == "words") = false by decide +kernel, List.lookup_cons, show (("taken" : Str) == "taken") = true by decide +kernel]
theorem fR_rows (wl : Addr) (k : Int) (rl : Addr) : (fR wl k rl).lookup ("rows" : Str) = some (.ref rl) := by
  unfold fR
  rw [List.lookup_cons, show (("rows" : Str) == "words") = false by decide +kernel, List.lookup_cons, show (("rows" : Str) == "taken") = false by decide +kernel, List.lookup_cons, show (("rows" : Str) == "rows") = true by decide +kernel]
theorem fR_no (wl : Addr) (k : Int) (rl : Addr) {m : Str} (h1 : (m == "words") = false) (h2 : (m == "taken") = false) (h3 : (m == "rows") = false) : (fR wl k rl).lookup m = none := by
  unfold fR
  rw [List.lookup_cons, h1, List.lookup_cons, h2, List.lookup_cons, h3]
  rfl
structure RdAt (C : Addr) (H : Hp) (p dx wl rl : Addr) (ws : List Str) (k : Nat) (rows : List V) : Prop where
  ob : H p = some (.ins C dx (fR wl (k : Int) rl))
  wd : H wl = some (.lst (ws.map V.str))
  rw : H rl = some (.lst rows)
  ne : wl ≠ rl
structure WOk (ws : List Str) : Prop where
  len : ws.length ≤ 30000
  one : ∀ x ∈ ws, x ≠ "" ∧ x.length ≤ 30000 ∧ ∀ c ∈ x.cps.toList, c < 16 ^ 8
theorem repr_fits {ws : List Str} (W : WOk ws) {x : Str} (h : x ∈ ws) : (reprText x).length ≤ 300002 := by
  obtain ⟨_, h1, h2⟩ := W.one x h
  have := StrLaws.reprText_len x h2
  omega
theorem cat1 {a : Str} (h : a.length ≤ 300002) : (Str.empty ++ a).length ≤ sizeLine := by
  have sl : sizeLine = 16777216 := sizeLine_eq
  rw [Str.length_append]
  show 0 + _ ≤ _
  omega
theorem cat2 {a b : Str} (h : a.length ≤ 300002) (h2 : b.length ≤ 100) : (Str.empty ++ a ++ b).length ≤ sizeLine := by
  have sl : sizeLine = 16777216 := sizeLine_eq
  rw [Str.length_append, Str.length_append]
  show 0 + _ + _ ≤ _
  omega
theorem cat3 {a b c : Str} (h : a.length ≤ 300002) (h2 : b.length ≤ 100) (h3 : c.length ≤ 300002) : (Str.empty ++ a ++ b ++ c).length ≤ sizeLine := by
  have sl : sizeLine = 16777216 := sizeLine_eq
  rw [Str.length_append, Str.length_append, Str.length_append]
  show 0 + _ + _ + _ ≤ _
  omega
theorem cat4 {a b c d : Str} (h : a.length ≤ 300002) (h2 : b.length ≤ 100) (h3 : c.length ≤ 300002) (h4 : d.length ≤ 100) : (Str.empty ++ a ++ b ++ c ++ d).length ≤ sizeLine := by
  have sl : sizeLine = 16777216 := sizeLine_eq
  rw [Str.length_append, Str.length_append, Str.length_append, Str.length_append]
  show 0 + _ + _ + _ + _ ≤ _
  omega
noncomputable def fP (a b c : Addr) : List (Str × V) := [("names", .ref a), ("roots", .ref b), ("rows", .ref c)]
theorem fP_mk (a b c : Addr) : putF "rows" (.ref c) (putF "roots" (.ref b) (putF "names" (.ref a) [])) = fP a b c := by
  have h1 : ¬ (("names" : Str) = "roots") := by decide +kernel
  have h2 : ¬ (("names" : Str) = "rows") := by decide +kernel
  have h3 : ¬ (("roots" : Str) = "rows") := by decide +kernel
  simp only [putF, if_neg h1, if_neg h2, if_neg h3, fP]
theorem fg_in {c : Nat} (h1 : 48 ≤ c) (h2 : c ≤ 57) : c ∈ FG.cps.toList := by
  have e : FG.cps.toList = [48, 49, 50, 51, 52, 53, 54, 55, 56, 57] := by decide +kernel
  rw [e]
  have : c = 48 ∨ c = 49 ∨ c = 50 ∨ c = 51 ∨ c = 52 ∨ c = 53 ∨ c = 54 ∨ c = 55 ∨ c = 56 ∨ c = 57 := by omega
  rcases this with rfl | rfl | rfl | rfl | rfl | rfl | rfl | rfl | rfl | rfl <;> decide
theorem str_fig {n : Int} {k : Nat} (h0 : 0 ≤ n) (h1 : n < 10 ^ (k + 1)) : (∀ c ∈ (PySem.Str.ofString (toString n)).cps.toList, c ∈ FG.cps.toList) ∧ 1 ≤ (PySem.Str.ofString (toString n)).length ∧ (PySem.Str.ofString (toString n)).length ≤ k + 1 := by
  obtain ⟨m, rfl⟩ := Int.eq_ofNat_of_zero_le h0
  have hm : m < 10 ^ (k + 1) := by
    have z : ((m : Nat) : Int) < ((10 ^ (k + 1) : Nat) : Int) := by rw [Int.natCast_pow]; exact h1
    exact Int.ofNat_lt.mp z
  have e := PySem.W.KIN.signs_num m
  have el := T1.len_codes (PySem.Str.ofString (toString ((m : Nat) : Int)))
  rw [e, List.length_map] at el
  refine ⟨fun c hc => ?_, ?_, ?_⟩
  · rw [e] at hc
    obtain ⟨ch, hch, rfl⟩ := List.mem_map.mp hc
    obtain ⟨r1, r2⟩ := PyProof.Rows.digit_range (Nat.isDigit_of_mem_toDigits (by decide) (by decide) hch)
    exact fg_in r1 r2
  · have z := PySem.toDigits_len_ge 10 m
    omega
  · have z := T1.dig_len k m hm
    omega
theorem log_ok {n : Int} (h0 : 0 ≤ n) (h1 : n < 10 ^ 70) : n.natAbs.log2 < 1920 := by
  by_cases hz : n.natAbs = 0
  · rw [hz]
    decide
  · rw [Nat.log2_lt hz]
    have a : n.natAbs < 10 ^ 70 := by omega
    exact Nat.lt_trans a (by decide +kernel)
theorem app_codes (x y : Str) : (x ++ y).cps.toList = x.cps.toList ++ y.cps.toList := by rw [Str.cps_append, Array.toList_append]
theorem RdAt.ne1 {C p dx wl rl : Addr} {H : Hp} {ws : List Str} {k : Nat} {rows : List V} (R : RdAt C H p dx wl rl ws k rows) : p ≠ wl := ne_of R.ob R.wd (fun z => nomatch z)
theorem RdAt.ne2 {C p dx wl rl : Addr} {H : Hp} {ws : List Str} {k : Nat} {rows : List V} (R : RdAt C H p dx wl rl ws k rows) : p ≠ rl := ne_of R.ob R.rw (fun z => nomatch z)
theorem RdAt.next {C p dx wl rl : Addr} {H : Hp} {ws : List Str} {k : Nat} {rows : List V} (R : RdAt C H p dx wl rl ws k rows) (j : Nat) : RdAt C (upd H p (.ins C dx (fR wl (j : Int) rl))) p dx wl rl ws j rows :=
  ⟨upd_same, by rw [upd_ne (Ne.symm R.ne1)]; exact R.wd, by rw [upd_ne (Ne.symm R.ne2)]; exact R.rw, R.ne⟩
theorem RdAt.same {C p dx wl rl : Addr} {H H' : Hp} {ws : List Str} {k : Nat} {rows : List V} (R : RdAt C H p dx wl rl ws k rows) (S : Same H H') : RdAt C H' p dx wl rl ws k rows := ⟨S _ _ R.ob, S _ _ R.wd, S _ _ R.rw, R.ne⟩
theorem tn0 {σ : St} {H : Hp} {Q : List V → Hp → Prop} (h : Q [] H) : tNil σ H Q := h
theorem tc1 {v : V} {σ : St} {H : Hp} {Q : List V → Hp → Prop} (h : Q [v] H) : tCons (tC v) tNil σ H Q := h
theorem fR_meth (wl : Addr) (k : Int) (rl : Addr) (m : Str) (h : m = "ahead" ∨ m = "pass_over" ∨ m = "take_name" ∨ m = "take_expr" ∨ m = "take" ∨ m = "take_row" ∨ m = "take_steady" ∨ m = "take_fields" ∨ m = "take_arms" ∨ m = "take_things" ∨ m = "take_form") : (fR wl k rl).lookup m = none := by
  rcases h with rfl | rfl | rfl | rfl | rfl | rfl | rfl | rfl | rfl | rfl | rfl <;> exact fR_no _ _ _ (by decide +kernel) (by decide +kernel) (by decide +kernel)
theorem same_at {H H' : Hp} {p : Addr} (o : HO) (h : H p = none) (S : Same H H') : Same H (upd H' p o) := fun b u e => by rw [upd_ne (ne_of_none e h)]; exact S b u e
end GR.Internal
namespace GR.Internal
open PySem L2.Internal
noncomputable abbrev Rs := List Str × List Dt
noncomputable def steadyA (pe : List Str → List Dt → Option Rs) : List Bool → List Dt → List Str → List Dt → Option (List Dt × Rs)
  | [], acc, ws, rows => some (acc, ws, rows)
  | true :: ps, acc, ws, rows => match ws with
    | [] => none
    | x :: r => if isName x = true then steadyA pe ps (acc ++ [.flat (.str x)]) r rows else none
  | false :: ps, acc, ws, rows => match pe ws rows with
    | none => none
    | some (r, rows') => steadyA pe ps (acc ++ [.flat (.int (rows.length : Int))]) r rows'
noncomputable def manyA (item : List Str → List Dt → Option (Dt × Rs)) (ws : List Str) (rows acc : List Dt) : Option (List Dt × Rs) :=
  if ws.head? = some ")" then some (acc, ws, rows) else match item ws rows with
    | none => none
    | some (d, r, rows') => if h : r.length < ws.length then manyA item r rows' (acc ++ [d]) else none
termination_by ws.length
noncomputable def itemS (pe : List Str → List Dt → Option Rs) (ps : List Bool) (ws : List Str) (rows : List Dt) : Option (Dt × Rs) := match steadyA pe ps [] ws rows with
  | none => none
  | some (ds, r) => some (.tup ds, r)
noncomputable def itemE (pe : List Str → List Dt → Option Rs) (ws : List Str) (rows : List Dt) : Option (Dt × Rs) := match pe ws rows with
  | none => none
  | some r => some (.flat (.int (rows.length : Int)), r)
noncomputable def chk (lo hi : Nat) (o : Option (List Dt × Rs)) : Option (List Dt × Rs) := match o with
  | none => none
  | some (l, r) => if lo ≤ l.length ∧ l.length ≤ hi then some (l, r) else none
noncomputable def stT : List (Str × List Bool) := [("fn", [true, false]), ("call", [false, false]), ("let", [true, false, false]), ("get", [false, true]), ("tag", [true, false]), ("at", [false, false, false]),
  ("join", [false, false]), ("size", [false]), ("add", [false, false]), ("sub", [false, false]), ("less", [false, false])]
noncomputable def stP (h : Str) : Option (List Bool) := (stT.find? fun p => decide (p.1 = h)).map (·.2)
noncomputable def formA (pe : List Str → List Dt → Option Rs) (h : Str) (ws : List Str) (rows : List Dt) : Option (List Dt × Rs) :=
  if h = "rec" then match chk 0 6 (manyA (itemS pe [true, false]) ws rows []) with
    | none => none
    | some (l, r) => some ([.flat (.str "rec"), .tup l], r)
  else if h = "case" then match pe ws rows with
    | none => none
    | some (r1, rows1) => match chk 1 6 (manyA (itemS pe [true, true, false]) r1 rows1 []) with
      | none => none
      | some (l, r) => some ([.flat (.str "case"), .flat (.int (rows.length : Int)), .tup l], r)
  else if h = "row" then match chk 0 8 (manyA (itemE pe) ws rows []) with
    | none => none
    | some (l, r) => some ([.flat (.str "row"), .tup l], r)
  else match stP h with
    | none => none
    | some ps => match steadyA pe ps [] ws rows with
      | none => none
      | some (ds, r) => some (.flat (.str h) :: ds, r)
noncomputable def closeA (o : Option (List Dt × Rs)) : Option (List Dt × Rs) := match o with
  | none => none
  | some (ds, r, rows) => match r with
    | [] => none
    | y :: r' => if y = ")" then some (ds, r', rows) else none
noncomputable def rowA (pe : List Str → List Dt → Option Rs) (ws : List Str) (rows : List Dt) : Option (List Dt × Rs) := match ws with
  | [] => none
  | x :: r => if isNum x = true then some ([.flat (.str "num"), .flat (.int (intOf x))], r, rows)
    else if isName x = true then some ([.flat (.str "name"), .flat (.str x)], r, rows)
    else if x = "(" then (match r with
      | [] => none
      | h :: r2 => closeA (formA pe h r2 rows))
    else none
noncomputable def exprA : Nat → List Str → List Dt → Option Rs
  | 0, _, _ => none
  | f + 1, ws, rows => if rows.length = 160 then none else match rowA (exprA f) ws (rows ++ [.flat .non]) with
    | none => none
    | some (ds, r, rows') => some (r, rows'.set rows.length (.tup ds))
noncomputable def defsA (ws : List Str) (rows : List Dt) (names : List Str) (roots : List Dt) : Option (List Str × List Dt × List Dt) := match ws with
  | [] => some (names, roots, rows)
  | [_] => none
  | [_, _] => none
  | a :: b :: c :: r => if a = "(" ∧ b = "def" ∧ isName c = true then (match exprA 24 r rows with
      | none => none
      | some (r2, rows2) => match r2 with
        | [] => none
        | y :: r3 => if y = ")" then (if h : r3.length < r.length + 3 then defsA r3 rows2 (names ++ [c]) (roots ++ [.flat (.int (rows.length : Int))]) else none) else none) else none
termination_by ws.length
decreasing_by simp_wf; omega
noncomputable def readA (ws : List Str) : Option (List Str × List Dt × List Dt) := match defsA ws [] [] [] with
  | none => none
  | some (n, r, rows) => if 1 ≤ n.length ∧ n.length ≤ 12 then some (n, r, rows) else none
structure Step (ws : List Str) (rows : List Dt) (r : Rs) : Prop where
  le : r.1.length ≤ ws.length
  up : rows.length ≤ r.2.length
  most : rows.length ≤ 160 → r.2.length ≤ 160
  suf : ∃ u, ws = u ++ r.1
theorem Step.refl (ws : List Str) (rows : List Dt) : Step ws rows (ws, rows) := ⟨Nat.le_refl _, Nat.le_refl _, fun h => h, [], rfl⟩
theorem Step.trans {ws : List Str} {rows : List Dt} {r s : Rs} (a : Step ws rows r) (b : Step r.1 r.2 s) : Step ws rows s := by
  obtain ⟨u, e⟩ := a.suf
  obtain ⟨v, e'⟩ := b.suf
  exact ⟨Nat.le_trans b.le a.le, Nat.le_trans a.up b.up, fun h => b.most (a.most h), u ++ v, by rw [List.append_assoc, ← e', ← e]⟩
theorem Step.drop {x : Str} {r : List Str} {rows : List Dt} : Step (x :: r) rows (r, rows) := ⟨Nat.le_succ _, Nat.le_refl _, fun h => h, [x], rfl⟩
noncomputable def Good (pe : List Str → List Dt → Option Rs) : Prop := ∀ ws rows r, pe ws rows = some r → Step ws rows r ∧ r.1.length < ws.length ∧ rows.length < r.2.length
theorem steady_step {pe : List Str → List Dt → Option Rs} (g : Good pe) : ∀ (ps : List Bool) (acc : List Dt) (ws : List Str) (rows ds : List Dt) (r : Rs), steadyA pe ps acc ws rows = some (ds, r) → Step ws rows r ∧ (ps ≠ [] → r.1.length < ws.length) ∧ ds.length = acc.length + ps.length
  | [], acc, ws, rows, ds, r, h => by
    rw [steadyA] at h
    cases h
    exact ⟨Step.refl _ _, fun z => absurd rfl z, rfl⟩
  | true :: ps, acc, [], rows, ds, r, h => by
    rw [steadyA] at h
    cases h
  | true :: ps, acc, x :: ws, rows, ds, r, h => by
    rw [steadyA] at h
    split at h
    · obtain ⟨s, _, l⟩ := steady_step g ps _ _ _ _ _ h
      have s' := (Step.drop (x := x)).trans s
      refine ⟨s', fun _ => ?_, ?_⟩
      · have := s.le
        simp only [List.length_cons]
        omega
      · simp only [List.length_append, List.length_cons, List.length_nil] at l ⊢
        omega
    · cases h
  | false :: ps, acc, ws, rows, ds, r, h => by
    rw [steadyA] at h
    split at h
    · cases h
    · rename_i r1 rows1 e
      obtain ⟨s1, lt, _⟩ := g _ _ _ e
      obtain ⟨s, _, l⟩ := steady_step g ps _ _ _ _ _ h
      refine ⟨s1.trans s, fun _ => Nat.lt_of_le_of_lt s.le lt, ?_⟩
      simp only [List.length_append, List.length_cons, List.length_nil] at l ⊢
      omega
noncomputable def GoodI (item : List Str → List Dt → Option (Dt × Rs)) : Prop := ∀ ws rows d r, item ws rows = some (d, r) → Step ws rows r ∧ r.1.length < ws.length
theorem itemS_good {pe : List Str → List Dt → Option Rs} (g : Good pe) (ps : List Bool) (h : ps ≠ []) : GoodI (itemS pe ps) := by
  intro ws rows d r e
  unfold itemS at e
  split at e
  · cases e
  · rename_i ds r' e'
    cases e
    obtain ⟨s, l, _⟩ := steady_step g ps _ _ _ _ _ e'
    exact ⟨s, l h⟩
theorem itemE_good {pe : List Str → List Dt → Option Rs} (g : Good pe) : GoodI (itemE pe) := by
  intro ws rows d r e
  unfold itemE at e
  split at e
  · cases e
  · rename_i r' e'
    cases e
    obtain ⟨s, l, _⟩ := g _ _ _ e'
    exact ⟨s, l⟩
theorem many_eq {item : List Str → List Dt → Option (Dt × Rs)} (g : GoodI item) (ws : List Str) (rows acc : List Dt) (h : ws.head? ≠ some ")") :
    manyA item ws rows acc = match item ws rows with
      | none => none
      | some (d, r, rows') => manyA item r rows' (acc ++ [d]) := by
  rw [manyA, if_neg h]
  cases e : item ws rows with
  | none => rfl
  | some x =>
    obtain ⟨d, r, rows'⟩ := x
    have l := (g _ _ _ _ e).2
    show (if h : r.length < ws.length then _ else _) = _
    rw [dif_pos l]
theorem many_end {item : List Str → List Dt → Option (Dt × Rs)} (ws : List Str) (rows acc : List Dt) (h : ws.head? = some ")") : manyA item ws rows acc = some (acc, ws, rows) := by
  rw [manyA, if_pos h]
theorem many_step {item : List Str → List Dt → Option (Dt × Rs)} (g : GoodI item) : ∀ (n : Nat) (ws : List Str) (rows acc l : List Dt) (r : Rs), ws.length ≤ n → manyA item ws rows acc = some (l, r) → Step ws rows r := by
  intro n
  induction n with
  | zero =>
    intro ws rows acc l r hn h
    by_cases hh : ws.head? = some ")"
    · rw [many_end _ _ _ hh] at h
      cases h
      exact Step.refl _ _
    · rw [many_eq g _ _ _ hh] at h
      split at h
      · cases h
      · rename_i d r' rows' e
        have l := (g _ _ _ _ e).2
        omega
  | succ n ih =>
    intro ws rows acc l r hn h
    by_cases hh : ws.head? = some ")"
    · rw [many_end _ _ _ hh] at h
      cases h
      exact Step.refl _ _
    · rw [many_eq g _ _ _ hh] at h
      split at h
      · cases h
      · rename_i d r' rows' e
        obtain ⟨s, lt⟩ := g _ _ _ _ e
        exact s.trans (ih _ _ _ _ _ (by omega) h)
theorem chk_some {lo hi : Nat} {o : Option (List Dt × Rs)} {l : List Dt} {r : Rs} (h : chk lo hi o = some (l, r)) : o = some (l, r) ∧ lo ≤ l.length ∧ l.length ≤ hi := by
  unfold chk at h
  split at h
  · cases h
  · split at h
    · cases h
      rename_i z
      exact ⟨rfl, z⟩
    · cases h
theorem form_step {pe : List Str → List Dt → Option Rs} (g : Good pe) {h : Str} {ws : List Str} {rows ds : List Dt} {r : Rs} (e : formA pe h ws rows = some (ds, r)) : Step ws rows r := by
  unfold formA at e
  split at e
  · split at e
    · cases e
    · rename_i l r' e'
      cases e
      exact many_step (itemS_good g _ (by simp)) _ _ _ _ _ _ (Nat.le_refl _) (chk_some e').1
  split at e
  · split at e
    · cases e
    · rename_i r1 rows1 e1
      split at e
      · cases e
      · rename_i l r' e'
        cases e
        exact (g _ _ _ e1).1.trans (many_step (itemS_good g _ (by simp)) _ _ _ _ _ _ (Nat.le_refl _) (chk_some e').1)
  split at e
  · split at e
    · cases e
    · rename_i l r' e'
      cases e
      exact many_step (itemE_good g) _ _ _ _ _ _ (Nat.le_refl _) (chk_some e').1
  split at e
  · cases e
  · split at e
    · cases e
    · rename_i ds' r' e'
      cases e
      exact (steady_step g _ _ _ _ _ _ e').1
theorem close_step {o : Option (List Dt × Rs)} {ds : List Dt} {r : Rs} {ws : List Str} {rows : List Dt} (h : ∀ ds' r', o = some (ds', r') → Step ws rows r') (e : closeA o = some (ds, r)) : Step ws rows r := by
  unfold closeA at e
  split at e
  · cases e
  · rename_i ds' r' rows'
    split at e
    · cases e
    · split at e
      · cases e
        exact (h _ _ rfl).trans Step.drop
      · cases e
theorem row_step {pe : List Str → List Dt → Option Rs} (g : Good pe) {ws : List Str} {rows ds : List Dt} {r : Rs} (e : rowA pe ws rows = some (ds, r)) : Step ws rows r ∧ r.1.length < ws.length := by
  unfold rowA at e
  split at e
  · cases e
  · rename_i x ws'
    split at e
    · cases e
      exact ⟨Step.drop, Nat.lt_succ_self _⟩
    split at e
    · cases e
      exact ⟨Step.drop, Nat.lt_succ_self _⟩
    split at e
    · split at e
      · cases e
      · rename_i hh h r2
        have s := close_step (fun ds' r' z => form_step g z) e
        have s2 := (Step.drop (x := h)).trans s
        exact ⟨(Step.drop (x := x)).trans s2, Nat.lt_of_le_of_lt s2.le (Nat.lt_succ_self _)⟩
    · cases e
theorem expr_good : ∀ f : Nat, Good (exprA f)
  | 0 => fun ws rows r e => by rw [exprA] at e; cases e
  | f + 1 => fun ws rows r e => by
    rw [exprA] at e
    split at e
    · cases e
    · rename_i hne
      split at e
      · cases e
      · rename_i ds r' rows' e'
        cases e
        obtain ⟨s, lt⟩ := row_step (expr_good f) e'
        have up := s.up
        simp only [List.length_append, List.length_cons, List.length_nil] at up
        refine ⟨⟨s.le, ?_, fun h => ?_, s.suf⟩, lt, ?_⟩
        · show rows.length ≤ (rows'.set _ _).length
          rw [List.length_set]
          omega
        · show (rows'.set _ _).length ≤ 160
          rw [List.length_set]
          refine s.most ?_
          simp only [List.length_append, List.length_cons, List.length_nil]
          omega
        · show rows.length < (rows'.set _ _).length
          rw [List.length_set]
          omega
section
variable {pe : List Str → List Dt → Option Rs} {x : Str} {r : List Str} {rows : List Dt}
theorem row_num (h : isNum x = true) : rowA pe (x :: r) rows = some ([.flat (.str "num"), .flat (.int (intOf x))], r, rows) := by unfold rowA; exact if_pos h
theorem row_name (h1 : ¬ isNum x = true) (h : isName x = true) : rowA pe (x :: r) rows = some ([.flat (.str "name"), .flat (.str x)], r, rows) := by unfold rowA; exact (if_neg h1).trans (if_pos h)
theorem row_no (h1 : ¬ isNum x = true) (h2 : ¬ isName x = true) (h : ¬ x = "(") : rowA pe (x :: r) rows = none := by unfold rowA; exact (if_neg h1).trans ((if_neg h2).trans (if_neg h))
theorem row_par {y : Str} (h1 : ¬ isNum x = true) (h2 : ¬ isName x = true) (h : x = "(") : rowA pe (x :: y :: r) rows = closeA (formA pe y r rows) := by unfold rowA; exact (if_neg h1).trans ((if_neg h2).trans (if_pos h))
theorem row_par0 (h1 : ¬ isNum x = true) (h2 : ¬ isName x = true) (h : x = "(") : rowA pe [x] rows = none := by unfold rowA; exact (if_neg h1).trans ((if_neg h2).trans (if_pos h))
end
section
variable {rows : List Dt} {names : List Str} {roots : List Dt}
theorem defs_nil : defsA [] rows names roots = some (names, roots, rows) := by rw [defsA]
theorem defs_no1 {ws : List Str} (h0 : ws ≠ []) (h : ws.head? ≠ some "(") : defsA ws rows names roots = none := by
  match ws, h0, h with
  | [_], _, _ => rw [defsA]
  | [_, _], _, _ => rw [defsA]
  | a :: b :: c :: r, _, h =>
    rw [defsA, if_neg]
    exact fun z => h (congrArg some z.1)
theorem defs_no2 {r : List Str} (h : r.head? ≠ some "def") : defsA ("(" :: r) rows names roots = none := by
  match r, h with
  | [], _ => rw [defsA]
  | [_], _ => rw [defsA]
  | b :: c :: r, h =>
    rw [defsA, if_neg]
    exact fun z => h (congrArg some z.2.1)
theorem defs_no3 {r : List Str} (h : ∀ x r', r = x :: r' → isName x = false) : defsA ("(" :: "def" :: r) rows names roots = none := by
  match r, h with
  | [], _ => rw [defsA]
  | c :: r, h =>
    rw [defsA, if_neg]
    intro z
    have := h c r rfl
    rw [z.2.2] at this
    cases this
theorem defs_no4 {c : Str} {r : List Str} (hc : isName c = true) (e : exprA 24 r rows = none) : defsA ("(" :: "def" :: c :: r) rows names roots = none := by
  rw [defsA, if_pos ⟨rfl, rfl, hc⟩, e]
theorem defs_no5 {c : Str} {r r2 : List Str} {rows2 : List Dt} (hc : isName c = true) (e : exprA 24 r rows = some (r2, rows2)) (h : r2.head? ≠ some ")") : defsA ("(" :: "def" :: c :: r) rows names roots = none := by
  rw [defsA, if_pos ⟨rfl, rfl, hc⟩, e]
  match r2, h with
  | [], _ => rfl
  | y :: r3, h => exact if_neg fun z => h (congrArg some z)
theorem defs_yes {c : Str} {r r3 : List Str} {rows2 : List Dt} (hc : isName c = true) (e : exprA 24 r rows = some ((")" : Str) :: r3, rows2)) : defsA ("(" :: "def" :: c :: r) rows names roots = defsA r3 rows2 (names ++ [c]) (roots ++ [.flat (.int (rows.length : Int))]) := by
  rw [defsA, if_pos ⟨rfl, rfl, hc⟩, e]
  have l : ((")" : Str) :: r3).length < r.length := (expr_good 24 _ _ _ e).2.1
  have l2 : r3.length < r.length + 3 := by
    rw [List.length_cons] at l
    omega
  show (if (")" : Str) = ")" then (if h : r3.length < r.length + 3 then _ else _) else _) = _
  rw [if_pos rfl, dif_pos l2]
end
end GR.Internal
namespace GR.Internal
open PySem L2.Internal
mutual
inductive TAt (K : PySem.W.Frag) (H : Hp) : V → Dt → Prop where
  | flat {v : V} (h : flatV v = true) : TAt K H v (.flat v)
  | tup {a : Addr} {xs : List V} {ds : List Dt} (h : H a = some (.tup xs)) (hs : TAts K H xs ds) : TAt K H (.ref a) (.tup ds)
inductive TAts (K : PySem.W.Frag) (H : Hp) : List V → List Dt → Prop where
  | nil : TAts K H [] []
  | cons {x : V} {d : Dt} {xs : List V} {ds : List Dt} (h : TAt K H x d) (hs : TAts K H xs ds) : TAts K H (x :: xs) (d :: ds)
end
section
variable {K : PySem.W.Frag} {H H' : Hp}
mutual
theorem TAt.mono (k : ∀ a xs, H a = some (.tup xs) → H' a = some (.tup xs)) : ∀ {x : V} {d : Dt}, TAt K H x d → TAt K H' x d
  | _, _, .flat h => .flat h
  | _, _, .tup h hs => .tup (k _ _ h) (TAts.mono k hs)
theorem TAts.mono (k : ∀ a xs, H a = some (.tup xs) → H' a = some (.tup xs)) : ∀ {xs : List V} {ds : List Dt}, TAts K H xs ds → TAts K H' xs ds
  | _, _, .nil => .nil
  | _, _, .cons h hs => .cons (TAt.mono k h) (TAts.mono k hs)
end
mutual
theorem TAt.at : ∀ {x : V} {d : Dt}, TAt K H x d → At K H x d
  | _, _, .flat h => .flat h
  | _, _, .tup h hs => .tup (.inl (.inl h)) (TAts.ats hs)
theorem TAts.ats : ∀ {xs : List V} {ds : List Dt}, TAts K H xs ds → Ats K H xs ds
  | _, _, .nil => .nil
  | _, _, .cons h hs => .cons (TAt.at h) (TAts.ats hs)
end
theorem TAts.length : ∀ {xs : List V} {ds : List Dt}, TAts K H xs ds → xs.length = ds.length
  | _, _, .nil => rfl
  | _, _, .cons _ t => by rw [List.length_cons, List.length_cons, TAts.length t]
theorem TAts.app : ∀ {xs ys : List V} {ds es : List Dt}, TAts K H xs ds → TAts K H ys es → TAts K H (xs ++ ys) (ds ++ es)
  | _, _, _, _, .nil, q => q
  | _, _, _, _, .cons h t, q => .cons h (TAts.app t q)
theorem TAts.snoc {xs : List V} {ds : List Dt} {x : V} {d : Dt} (a : TAts K H xs ds) (b : TAt K H x d) : TAts K H (xs ++ [x]) (ds ++ [d]) := a.app (.cons b .nil)
theorem TAts.set : ∀ {xs : List V} {ds : List Dt} {x : V} {d : Dt} (j : Nat), TAts K H xs ds → TAt K H x d → TAts K H (xs.set j x) (ds.set j d)
  | _, _, _, _, _, .nil, _ => .nil
  | _, _, _, _, 0, .cons _ t, q => .cons q t
  | _, _, _, _, j + 1, .cons h t, q => .cons h (TAts.set j t q)
end
noncomputable def K2 (p q : Addr) (H H' : Hp) : Prop := ∀ b o, H b = some o → b ≠ p → b ≠ q → H' b = some o
theorem K2.refl (p q : Addr) (H : Hp) : K2 p q H H := fun _ _ e _ _ => e
theorem K2.trans {p q : Addr} {H H1 H2 : Hp} (a : K2 p q H H1) (b : K2 p q H1 H2) : K2 p q H H2 := fun c o e h1 h2 => b c o (a c o e h1 h2) h1 h2
theorem Same.k2 {p q : Addr} {H H' : Hp} (s : Same H H') : K2 p q H H' := fun b o e _ _ => s b o e
theorem K2.upd1 {p q : Addr} {H H' : Hp} (k : K2 p q H H') (o : HO) : K2 p q H (upd H' p o) := fun b u e h1 h2 => by rw [upd_ne h1]; exact k b u e h1 h2
theorem K2.upd2 {p q : Addr} {H H' : Hp} (k : K2 p q H H') (o : HO) : K2 p q H (upd H' q o) := fun b u e h1 h2 => by rw [upd_ne h2]; exact k b u e h1 h2
theorem K2.sqT {K : PySem.W.Frag} {p q : Addr} {H H' : Hp} {o1 o2 : HO} (k : K2 p q H H') (h1 : H p = some o1) (h2 : H q = some o2) (n1 : ∀ xs, o1 ≠ .tup xs ∧ ∀ o, o1 ≠ .frz o (.tup xs)) (n2 : ∀ xs, o2 ≠ .tup xs ∧ ∀ o, o2 ≠ .frz o (.tup xs)) {a : Addr} {xs : List V} (s : SqT K H a xs) : SqT K H' a xs := by
  rcases s with s | s
  · refine .inl ?_
    rcases s with s | ⟨o, s⟩
    · exact .inl (k _ _ s (ne_of s h1 (Ne.symm (n1 xs).1)) (ne_of s h2 (Ne.symm (n2 xs).1)))
    · exact .inr ⟨o, k _ _ s (ne_of s h1 (Ne.symm ((n1 xs).2 o))) (ne_of s h2 (Ne.symm ((n2 xs).2 o)))⟩
  · exact .inr s
noncomputable def RS (K : PySem.W.Frag) (C : Addr) (H : Hp) (p dx wl rl : Addr) (ws rest : List Str) (rows : List Dt) : Prop :=
  ∃ k rv, RdAt C H p dx wl rl ws k rv ∧ ws.drop k = rest ∧ k ≤ ws.length ∧ TAts K H rv rows
section
variable {K : PySem.W.Frag} {C p dx wl rl : Addr} {H H' : Hp} {ws rest : List Str} {rows : List Dt}
theorem RdAt.sqT {k : Nat} {rv : List V} (R : RdAt C H p dx wl rl ws k rv) (kk : K2 p rl H H') {a : Addr} {xs : List V} (s : SqT K H a xs) : SqT K H' a xs :=
  kk.sqT R.ob R.rw (fun _ => ⟨(fun z => nomatch z), fun _ z => nomatch z⟩) (fun _ => ⟨(fun z => nomatch z), fun _ z => nomatch z⟩) s
theorem RdAt.tpT {k : Nat} {rv : List V} (R : RdAt C H p dx wl rl ws k rv) (kk : K2 p rl H H') {a : Addr} {xs : List V} (s : H a = some (.tup xs)) : H' a = some (.tup xs) :=
  kk _ _ s (ne_of s R.ob (fun z => nomatch z)) (ne_of s R.rw (fun z => nomatch z))
theorem RS.tat (R : RS K C H p dx wl rl ws rest rows) (kk : K2 p rl H H') {x : V} {d : Dt} (t : TAt K H x d) : TAt K H' x d := by
  obtain ⟨k, rv, R, _⟩ := R
  exact t.mono fun a xs s => RdAt.tpT R kk s
theorem RS.tats (R : RS K C H p dx wl rl ws rest rows) (kk : K2 p rl H H') {xs : List V} {ds : List Dt} (t : TAts K H xs ds) : TAts K H' xs ds := by
  obtain ⟨k, rv, R, _⟩ := R
  exact t.mono fun a xs s => RdAt.tpT R kk s
theorem RS.same (R : RS K C H p dx wl rl ws rest rows) (s : Same H H') : RS K C H' p dx wl rl ws rest rows := by
  obtain ⟨k, rv, R, h1, h2, h3⟩ := R
  exact ⟨k, rv, ⟨s _ _ R.ob, s _ _ R.wd, s _ _ R.rw, R.ne⟩, h1, h2, h3.mono fun a xs t => RdAt.tpT R (Same.k2 s) t⟩
theorem RS.other {a : Addr} {l : List V} {o : HO} (R : RS K C H p dx wl rl ws rest rows) (ha : H a = some (.lst l)) (n1 : a ≠ p) (n2 : a ≠ wl) (n3 : a ≠ rl) : RS K C (upd H a o) p dx wl rl ws rest rows := by
  obtain ⟨k, rv, R, h1, h2, h3⟩ := R
  refine ⟨k, rv, ⟨by rw [upd_ne (Ne.symm n1)]; exact R.ob, by rw [upd_ne (Ne.symm n2)]; exact R.wd, by rw [upd_ne (Ne.symm n3)]; exact R.rw, R.ne⟩, h1, h2, h3.mono fun b xs t => ?_⟩
  rw [upd_ne (ne_of t ha (fun z => nomatch z))]
  exact t
theorem TAts.other {a : Addr} {l : List V} {o : HO} (ha : H a = some (.lst l)) {xs : List V} {ds : List Dt} (t : TAts K H xs ds) : TAts K (upd H a o) xs ds := t.mono fun b xs t => by
  rw [upd_ne (ne_of t ha (fun z => nomatch z))]
  exact t
theorem drop_cons {k : Nat} {x : Str} {r : List Str} (h : ws.drop k = x :: r) : ws[k]? = some x ∧ ws.drop (k + 1) = r ∧ k < ws.length := by
  have hk : k < ws.length := by
    by_cases z : k < ws.length
    · exact z
    · rw [List.drop_of_length_le (by omega)] at h
      cases h
  rw [List.drop_eq_getElem_cons hk] at h
  injection h with h1 h2
  exact ⟨by rw [List.getElem?_eq_getElem hk, h1], h2, hk⟩
theorem drop_nil {k : Nat} (h : ws.drop k = []) : ws[k]? = none := by
  rw [List.drop_eq_nil_iff] at h
  exact List.getElem?_eq_none h
theorem RS.len (R : RS K C H p dx wl rl ws rest rows) : ∃ rv, H rl = some (.lst rv) ∧ rv.length = rows.length := by
  obtain ⟨k, rv, R, _, _, t⟩ := R
  exact ⟨rv, R.rw, t.length⟩
theorem RS.mem (R : RS K C H p dx wl rl ws rest rows) : ∀ x ∈ rest, x ∈ ws := by
  obtain ⟨k, rv, _, h, _⟩ := R
  intro x hx
  rw [← h] at hx
  exact List.mem_of_mem_drop hx
theorem RS.short (R : RS K C H p dx wl rl ws rest rows) : rest.length ≤ ws.length := by
  obtain ⟨k, rv, _, h, _⟩ := R
  rw [← h, List.length_drop]
  omega
theorem RS.ob (R : RS K C H p dx wl rl ws rest rows) : ∃ k : Int, H p = some (.ins C dx (fR wl k rl)) := by
  obtain ⟨k, rv, R, _⟩ := R
  exact ⟨_, R.ob⟩
theorem sqT_other {H : Hp} {a b : Addr} {l xs : List V} {o : HO} (ha : H a = some (.lst l)) (t : SqT K H b xs) : SqT K (upd H a o) b xs := by
  rcases t with t | t
  · refine .inl ?_
    rcases t with t | ⟨o', t⟩
    · exact .inl (by rw [upd_ne (ne_of t ha (fun z => nomatch z))]; exact t)
    · exact .inr ⟨o', by rw [upd_ne (ne_of t ha (fun z => nomatch z))]; exact t⟩
  · exact .inr t
theorem RS.sqt (R : RS K C H p dx wl rl ws rest rows) (kk : K2 p rl H H') {a : Addr} {xs : List V} (t : SqT K H a xs) : SqT K H' a xs := by
  obtain ⟨k, rv, R, _⟩ := R
  exact RdAt.sqT R kk t
theorem k2_new {p q a : Addr} {H H' : Hp} {o : HO} (ha : H a = none) (k : K2 p q H H') : K2 p q H (upd H' a o) := fun b u e h1 h2 => by rw [upd_ne (ne_of_none e ha)]; exact k b u e h1 h2
theorem RS.apart {fl : Addr} (R : RS K C H p dx wl rl ws rest rows) (hfl : H fl = none) : fl ≠ p ∧ fl ≠ rl ∧ fl ≠ wl := by
  obtain ⟨k, rv, R, _⟩ := R
  exact ⟨Ne.symm (ne_of_none R.ob hfl), Ne.symm (ne_of_none R.rw hfl), Ne.symm (ne_of_none R.wd hfl)⟩
end
end GR.Internal
namespace GR.Internal
open PySem L2.Internal
noncomputable abbrev Pe := List Str → List Dt → Option Rs
noncomputable def Rd (p : Pe) (ok : Bool) (n : Nat) (ts : List Str) : Prop := ∀ (rest : List Str) (rows : List Dt), rows.length ≤ 160 →
  (ok = true → rows.length + n ≤ 160 → ∃ rows', p (ts ++ rest) rows = some (rest, rows') ∧ rows'.length = rows.length + n) ∧ (¬ (ok = true ∧ rows.length + n ≤ 160) → p (ts ++ rest) rows = none)
noncomputable def SRd (pe : Pe) (ps : List Bool) (ok : Bool) (n : Nat) (ts : List Str) : Prop := ∀ (acc : List Dt) (rest : List Str) (rows : List Dt), rows.length ≤ 160 →
  (ok = true → rows.length + n ≤ 160 → ∃ ds rows', steadyA pe ps acc (ts ++ rest) rows = some (ds, rest, rows') ∧ rows'.length = rows.length + n) ∧ (¬ (ok = true ∧ rows.length + n ≤ 160) → steadyA pe ps acc (ts ++ rest) rows = none)
theorem SRd.nil {pe : Pe} : SRd pe [] true 0 [] := fun acc rest rows h => ⟨fun _ _ => ⟨acc, rows, by rw [steadyA]; rfl, rfl⟩, fun z => absurd ⟨rfl, h⟩ z⟩
theorem SRd.name {pe : Pe} {ps : List Bool} {ok : Bool} {n : Nat} {ts : List Str} {x : Str} (hx : isName x = true) (r : SRd pe ps ok n ts) : SRd pe (true :: ps) ok n (x :: ts) := fun acc rest rows h => by
  have e : steadyA pe (true :: ps) acc (x :: ts ++ rest) rows = steadyA pe ps (acc ++ [.flat (.str x)]) (ts ++ rest) rows := by
    rw [List.cons_append, steadyA, if_pos hx]
  rw [e]
  exact r _ rest rows h
theorem SRd.expr {pe : Pe} {ps : List Bool} {ok1 ok2 : Bool} {n1 n2 : Nat} {t1 t2 : List Str} (a : Rd pe ok1 n1 t1) (r : SRd pe ps ok2 n2 t2) : SRd pe (false :: ps) (ok1 && ok2) (n1 + n2) (t1 ++ t2) := fun acc rest rows h => by
  have ea : t1 ++ t2 ++ rest = t1 ++ (t2 ++ rest) := List.append_assoc ..
  obtain ⟨y, no⟩ := a (t2 ++ rest) rows h
  rw [ea]
  by_cases h1 : ok1 = true ∧ rows.length + n1 ≤ 160
  · obtain ⟨rows1, e1, l1⟩ := y h1.1 h1.2
    have e : steadyA pe (false :: ps) acc (t1 ++ (t2 ++ rest)) rows = steadyA pe ps (acc ++ [.flat (.int (rows.length : Int))]) (t2 ++ rest) rows1 := by rw [steadyA, e1]
    rw [e]
    obtain ⟨y2, no2⟩ := r (acc ++ [.flat (.int (rows.length : Int))]) rest rows1 (by omega)
    refine ⟨fun ho hn => ?_, fun z => no2 fun z2 => z ⟨by rw [h1.1, z2.1]; rfl, by omega⟩⟩
    rw [h1.1, Bool.true_and] at ho
    obtain ⟨ds, rows', e2, l2⟩ := y2 ho (by omega)
    exact ⟨ds, rows', e2, by omega⟩
  · have e1 := no h1
    refine ⟨fun ho hn => absurd ⟨(Bool.and_eq_true _ _ ▸ ho).1, by omega⟩ h1, fun _ => by rw [steadyA, e1]⟩
noncomputable def MRd (item : List Str → List Dt → Option (Dt × Rs)) (ok : Bool) (n m : Nat) (ts : List Str) : Prop := ∀ (acc : List Dt) (rest : List Str) (rows : List Dt), rows.length ≤ 160 →
  (ok = true → rows.length + n ≤ 160 → ∃ ds rows', manyA item (ts ++ (")" : Str) :: rest) rows acc = some (ds, (")" : Str) :: rest, rows') ∧ ds.length = acc.length + m ∧ rows'.length = rows.length + n) ∧ (¬ (ok = true ∧ rows.length + n ≤ 160) → manyA item (ts ++ (")" : Str) :: rest) rows acc = none)
theorem MRd.nil {item : List Str → List Dt → Option (Dt × Rs)} : MRd item true 0 0 [] := fun acc rest rows h => ⟨fun _ _ => ⟨acc, rows, many_end _ _ _ rfl, rfl, rfl⟩, fun z => absurd ⟨rfl, h⟩ z⟩
theorem MRd.cons {item : List Str → List Dt → Option (Dt × Rs)} (g : GoodI item) {ok1 ok2 : Bool} {n1 n2 m : Nat} {t1 t2 : List Str} {x : Str} {t : List Str} (ht : t1 = x :: t) (hx : x ≠ ")")
    (a : ∀ (rest : List Str) (rows : List Dt), rows.length ≤ 160 → (ok1 = true → rows.length + n1 ≤ 160 → ∃ d rows', item (t1 ++ rest) rows = some (d, rest, rows') ∧ rows'.length = rows.length + n1) ∧ (¬ (ok1 = true ∧ rows.length + n1 ≤ 160) → item (t1 ++ rest) rows = none))
    (r : MRd item ok2 n2 m t2) : MRd item (ok1 && ok2) (n1 + n2) (m + 1) (t1 ++ t2) := fun acc rest rows h => by
  have ea : t1 ++ t2 ++ (")" : Str) :: rest = t1 ++ (t2 ++ (")" : Str) :: rest) := List.append_assoc ..
  have hh : (t1 ++ (t2 ++ (")" : Str) :: rest)).head? ≠ some ")" := by
    rw [ht]
    exact fun z => hx (Option.some.inj z)
  obtain ⟨y, no⟩ := a (t2 ++ (")" : Str) :: rest) rows h
  rw [ea, many_eq g _ _ _ hh]
  by_cases h1 : ok1 = true ∧ rows.length + n1 ≤ 160
  · obtain ⟨d, rows1, e1, l1⟩ := y h1.1 h1.2
    rw [e1]
    obtain ⟨y2, no2⟩ := r (acc ++ [d]) rest rows1 (by omega)
    refine ⟨fun ho hn => ?_, fun z => no2 fun z2 => z ⟨by rw [h1.1, z2.1]; rfl, by omega⟩⟩
    rw [h1.1, Bool.true_and] at ho
    obtain ⟨ds, rows', e2, l2, l3⟩ := y2 ho (by omega)
    refine ⟨ds, rows', e2, ?_, by omega⟩
    rw [List.length_append] at l2
    have : [d].length = 1 := rfl
    omega
  · rw [no h1]
    exact ⟨fun ho hn => absurd ⟨(Bool.and_eq_true _ _ ▸ ho).1, by omega⟩ h1, fun _ => rfl⟩
theorem item_s {pe : Pe} {ps : List Bool} {ok : Bool} {n : Nat} {ts : List Str} (s : SRd pe ps ok n ts) : ∀ (rest : List Str) (rows : List Dt), rows.length ≤ 160 → (ok = true → rows.length + n ≤ 160 → ∃ d rows', itemS pe ps (ts ++ rest) rows = some (d, rest, rows') ∧ rows'.length = rows.length + n) ∧ (¬ (ok = true ∧ rows.length + n ≤ 160) → itemS pe ps (ts ++ rest) rows = none) := fun rest rows h => by
  obtain ⟨y, no⟩ := s [] rest rows h
  refine ⟨fun ho hn => ?_, fun z => by rw [itemS, no z]⟩
  obtain ⟨ds, rows', e, l⟩ := y ho hn
  exact ⟨_, rows', by rw [itemS, e], l⟩
theorem item_e {pe : Pe} {ok : Bool} {n : Nat} {ts : List Str} (s : Rd pe ok n ts) : ∀ (rest : List Str) (rows : List Dt), rows.length ≤ 160 → (ok = true → rows.length + n ≤ 160 → ∃ d rows', itemE pe (ts ++ rest) rows = some (d, rest, rows') ∧ rows'.length = rows.length + n) ∧ (¬ (ok = true ∧ rows.length + n ≤ 160) → itemE pe (ts ++ rest) rows = none) := fun rest rows h => by
  obtain ⟨y, no⟩ := s rest rows h
  refine ⟨fun ho hn => ?_, fun z => by rw [itemE, no z]⟩
  obtain ⟨rows', e, l⟩ := y ho hn
  exact ⟨_, rows', by rw [itemE, e], l⟩
noncomputable def FRd (pe : Pe) (h : Str) (ok : Bool) (n : Nat) (ts : List Str) : Prop := ∀ (rest : List Str) (rows : List Dt), rows.length ≤ 160 →
  (ok = true → rows.length + n ≤ 160 → ∃ ds rows', formA pe h (ts ++ (")" : Str) :: rest) rows = some (ds, (")" : Str) :: rest, rows') ∧ rows'.length = rows.length + n) ∧ (¬ (ok = true ∧ rows.length + n ≤ 160) → formA pe h (ts ++ (")" : Str) :: rest) rows = none)
theorem FRd.steady {pe : Pe} {h : Str} {ps : List Bool} {ok : Bool} {n : Nat} {ts : List Str} (h1 : ¬ h = "rec") (h2 : ¬ h = "case") (h3 : ¬ h = "row") (hp : stP h = some ps) (s : SRd pe ps ok n ts) : FRd pe h ok n ts := fun rest rows hr => by
  have e : formA pe h (ts ++ (")" : Str) :: rest) rows = match steadyA pe ps [] (ts ++ (")" : Str) :: rest) rows with
      | none => none
      | some (ds, r) => some (.flat (.str h) :: ds, r) := by
    rw [formA, if_neg h1, if_neg h2, if_neg h3, hp]
    all_goals rfl
  obtain ⟨y, no⟩ := s [] ((")" : Str) :: rest) rows hr
  refine ⟨fun ho hn => ?_, fun z => by rw [e, no z]⟩
  obtain ⟨ds, rows', e2, l⟩ := y ho hn
  exact ⟨_, rows', by rw [e, e2], l⟩
theorem FRd.rowd {pe : Pe} {ok : Bool} {n m : Nat} {ts : List Str} (s : MRd (itemE pe) ok n m ts) : FRd pe "row" (ok && decide (m ≤ 8)) n ts := fun rest rows hr => by
  have e : formA pe "row" (ts ++ (")" : Str) :: rest) rows = match chk 0 8 (manyA (itemE pe) (ts ++ (")" : Str) :: rest) rows []) with
    | none => none
    | some (l, r) => some ([.flat (.str "row"), .tup l], r) := by rw [formA, if_neg (by decide +kernel), if_neg (by decide +kernel), if_pos rfl] <;> rfl
  obtain ⟨y, no⟩ := s [] rest rows hr
  by_cases h1 : ok = true ∧ rows.length + n ≤ 160
  · obtain ⟨ds, rows', e2, l2, l3⟩ := y h1.1 h1.2
    have l2' : ds.length = m := l2.trans (Nat.zero_add m)
    by_cases hm : m ≤ 8
    · refine ⟨fun _ _ => ⟨_, rows', by rw [e, e2, chk, if_pos (by omega)], l3⟩, fun z => absurd ⟨by rw [h1.1, decide_eq_true hm]; rfl, h1.2⟩ z⟩
    · refine ⟨fun z => (by rw [h1.1, decide_eq_false hm] at z; cases z), fun _ => by rw [e, e2, chk, if_neg (by omega)]⟩
  · exact ⟨fun z hn => absurd ⟨(Bool.and_eq_true _ _ ▸ z).1, hn⟩ h1, fun _ => by rw [e, no h1]; rfl⟩
theorem FRd.cased {pe : Pe} {ok1 ok : Bool} {n1 n m : Nat} {t1 ts : List Str} (a : Rd pe ok1 n1 t1) (s : MRd (itemS pe [true, true, false]) ok n m ts) : FRd pe "case" (ok1 && ok && decide (1 ≤ m ∧ m ≤ 6)) (n1 + n) (t1 ++ ts) := fun rest rows hr => by
  have ea : t1 ++ ts ++ (")" : Str) :: rest = t1 ++ (ts ++ (")" : Str) :: rest) := List.append_assoc ..
  rw [ea]
  have e : formA pe "case" (t1 ++ (ts ++ (")" : Str) :: rest)) rows = match pe (t1 ++ (ts ++ (")" : Str) :: rest)) rows with
    | none => none
    | some (r1, rows1) => match chk 1 6 (manyA (itemS pe [true, true, false]) r1 rows1 []) with
      | none => none
      | some (l, r) => some ([.flat (.str "case"), .flat (.int (rows.length : Int)), .tup l], r) := by rw [formA, if_neg (by decide +kernel), if_pos rfl] <;> rfl
  obtain ⟨ya, na⟩ := a (ts ++ (")" : Str) :: rest) rows hr
  by_cases h0 : ok1 = true ∧ rows.length + n1 ≤ 160
  · obtain ⟨rows1, e1, l1⟩ := ya h0.1 h0.2
    obtain ⟨y, no⟩ := s [] rest rows1 (by omega)
    have e' : formA pe "case" (t1 ++ (ts ++ (")" : Str) :: rest)) rows = match chk 1 6 (manyA (itemS pe [true, true, false]) (ts ++ (")" : Str) :: rest) rows1 []) with
      | none => none
      | some (l, r) => some ([.flat (.str "case"), .flat (.int (rows.length : Int)), .tup l], r) := by rw [e, e1]
    by_cases h1 : ok = true ∧ rows1.length + n ≤ 160
    · obtain ⟨ds, rows', e2, l2, l3⟩ := y h1.1 h1.2
      have l2' : ds.length = m := l2.trans (Nat.zero_add m)
      by_cases hm : 1 ≤ m ∧ m ≤ 6
      · refine ⟨fun _ _ => ⟨_, rows', by rw [e', e2, chk, if_pos (by omega)], by omega⟩, fun z => absurd ⟨by rw [h0.1, h1.1, decide_eq_true hm]; rfl, by omega⟩ z⟩
      · refine ⟨fun z => (by rw [h0.1, h1.1, decide_eq_false hm] at z; cases z), fun _ => by rw [e', e2, chk, if_neg (by omega)]⟩
    · refine ⟨fun z hn => absurd ⟨?_, by omega⟩ h1, fun _ => by rw [e', no h1]; rfl⟩
      simp only [Bool.and_eq_true] at z
      exact z.1.2
  · refine ⟨fun z hn => absurd ⟨?_, by omega⟩ h0, fun _ => by rw [e, na h0]⟩
    simp only [Bool.and_eq_true] at z
    exact z.1.1
theorem paren_no : ¬ isNum "(" = true ∧ ¬ isName "(" = true := by decide +kernel
theorem Rd.form {f : Nat} {h : Str} {ok : Bool} {n : Nat} {ts : List Str} (s : FRd (exprA f) h ok n ts) : Rd (exprA (f + 1)) ok (n + 1) (("(" : Str) :: h :: (ts ++ [(")" : Str)])) := fun rest rows hr => by
  have ea : (("(" : Str) :: h :: (ts ++ [(")" : Str)])) ++ rest = ("(" : Str) :: h :: (ts ++ (")" : Str) :: rest) := by simp
  rw [ea]
  by_cases h160 : rows.length = 160
  · exact ⟨fun _ hn => absurd hn (by omega), fun _ => by rw [exprA, if_pos h160]⟩
  · have lr : (rows ++ [Dt.flat .non]).length = rows.length + 1 := by rw [List.length_append]; rfl
    have er : rowA (exprA f) (("(" : Str) :: h :: (ts ++ (")" : Str) :: rest)) (rows ++ [.flat .non]) = closeA (formA (exprA f) h (ts ++ (")" : Str) :: rest) (rows ++ [.flat .non])) := row_par paren_no.1 paren_no.2 rfl
    obtain ⟨y, no⟩ := s rest (rows ++ [.flat .non]) (by omega)
    refine ⟨fun ho hn => ?_, fun z => ?_⟩
    · obtain ⟨ds, rows', e, l⟩ := y ho (by omega)
      refine ⟨rows'.set rows.length (.tup ds), ?_, by rw [List.length_set]; omega⟩
      rw [exprA, if_neg h160, er, e, show closeA (some (ds, (")" : Str) :: rest, rows')) = some (ds, rest, rows') by unfold closeA; exact if_pos rfl]
    · rw [exprA, if_neg h160, er, no fun z2 => z ⟨z2.1, by omega⟩]
      rfl
theorem Rd.zero {n : Nat} {ts : List Str} : Rd (exprA 0) false n ts := fun rest rows hr => ⟨fun z => (by cases z), fun _ => by rw [exprA]⟩
theorem Rd.word {f : Nat} {x : Str} (hx : isNum x = true ∨ isName x = true) : Rd (exprA (f + 1)) true 1 [x] := fun rest rows hr => by
  by_cases h160 : rows.length = 160
  · exact ⟨fun _ hn => absurd hn (by omega), fun _ => by rw [exprA, if_pos h160]⟩
  · refine ⟨fun _ _ => ?_, fun z => absurd ⟨rfl, by omega⟩ z⟩
    have lr : (rows ++ [Dt.flat .non]).length = rows.length + 1 := by rw [List.length_append]; rfl
    by_cases h1 : isNum x = true
    · refine ⟨_, by rw [exprA, if_neg h160]; rw [List.singleton_append, row_num h1], by rw [List.length_set]; omega⟩
    · have h2 : isName x = true := hx.resolve_left h1
      refine ⟨_, by rw [exprA, if_neg h160]; rw [List.singleton_append, row_name h1 h2], by rw [List.length_set]; omega⟩
structure Ex (d n : Nat) (ts : List Str) : Prop where
  pos : 1 ≤ d
  hd : ∃ x t, ts = x :: t ∧ x ≠ ")"
  rd : ∀ f, f ≤ 24 → Rd (exprA f) (decide (d ≤ f)) n ts
theorem Ex.word {x : Str} (hx : isNum x = true ∨ isName x = true) (hc : x ≠ ")") : Ex 1 1 [x] := ⟨Nat.le_refl _, ⟨x, [], rfl, hc⟩, fun f _ => by
  cases f with
  | zero => exact Rd.zero
  | succ f =>
    rw [decide_eq_true (show 1 ≤ f + 1 by omega)]
    exact Rd.word hx⟩
theorem par_ne : ("(" : Str) ≠ ")" := by decide +kernel
theorem Ex.form {d n : Nat} {h : Str} {ts : List Str} (hd : 1 ≤ d) (s : ∀ f, f ≤ 23 → ∃ ok, FRd (exprA f) h ok n ts ∧ ok = decide (d ≤ f + 1)) : Ex d (n + 1) (("(" : Str) :: h :: (ts ++ [(")" : Str)])) := ⟨hd, ⟨_, _, rfl, par_ne⟩, fun f hf => by
  cases f with
  | zero =>
    rw [decide_eq_false (show ¬ d ≤ 0 by omega)]
    exact Rd.zero
  | succ f =>
    obtain ⟨ok, r, e⟩ := s f (by omega)
    rw [← e]
    exact Rd.form r⟩
noncomputable def DRd (ok : Bool) (n m : Nat) (ts : List Str) : Prop := ∀ (rest : List Str) (rows : List Dt) (names : List Str) (roots : List Dt), rows.length ≤ 160 →
  (ok = true → rows.length + n ≤ 160 → ∃ rows' names' roots', defsA (ts ++ rest) rows names roots = defsA rest rows' names' roots' ∧ rows'.length = rows.length + n ∧ names'.length = names.length + m) ∧ (¬ (ok = true ∧ rows.length + n ≤ 160) → defsA (ts ++ rest) rows names roots = none)
theorem DRd.nil : DRd true 0 0 [] := fun rest rows names roots h => ⟨fun _ _ => ⟨rows, names, roots, rfl, rfl, rfl⟩, fun z => absurd ⟨rfl, h⟩ z⟩
theorem DRd.read {ok : Bool} {n m : Nat} {ts : List Str} (a : DRd ok n m ts) :
    (ok = true → n ≤ 160 → 1 ≤ m → m ≤ 12 → ∃ names roots rows, readA ts = some (names, roots, rows) ∧ rows.length = n) ∧ (¬ (ok = true ∧ n ≤ 160 ∧ 1 ≤ m ∧ m ≤ 12) → readA ts = none) := by
  obtain ⟨y, no⟩ := a [] [] [] [] (Nat.zero_le _)
  rw [List.append_nil] at y no
  have l0 : ([] : List Dt).length = 0 := rfl
  have l1 : ([] : List Str).length = 0 := rfl
  by_cases h1 : ok = true ∧ ([] : List Dt).length + n ≤ 160
  · obtain ⟨rows, names, roots, e, l, k⟩ := y h1.1 h1.2
    rw [defs_nil] at e
    by_cases h2 : 1 ≤ m ∧ m ≤ 12
    · refine ⟨fun _ _ _ _ => ⟨names, roots, rows, by rw [readA, e]; exact if_pos (by omega), by omega⟩, fun z => absurd ⟨h1.1, by omega, h2⟩ z⟩
    · exact ⟨fun _ _ z1 z2 => absurd ⟨z1, z2⟩ h2, fun _ => by rw [readA, e]; exact if_neg (by omega)⟩
  · exact ⟨fun ho hn _ _ => absurd ⟨ho, by omega⟩ h1, fun _ => by rw [readA, no h1]⟩
end GR.Internal
namespace GR.Internal
open PySem L2.Internal T1
noncomputable def St1 (w : List Nat) : Str := ⟨w.toArray⟩
noncomputable def toks (x : Str) : List Str := (all (W x.cps.toList)).map St1
theorem toks_v (x : Str) : wordsV x.cps.toList = (toks x).map V.str := wordsV_str _
theorem fold_pre : ∀ (s : List Nat) (p : List (List Nat)) (c : List Nat), s.foldl step (p, c) = (p ++ (s.foldl step ([], c)).1, (s.foldl step ([], c)).2)
  | [], p, c => by simp
  | k :: s, p, c => by
    have e1 : (k :: s).foldl step (p, c) = s.foldl step (step (p, c) k) := rfl
    have e2 : (k :: s).foldl step ([], c) = s.foldl step (step ([], c) k) := rfl
    rw [e1, e2]
    have e3 : step (p, c) k = (p ++ (step ([], c) k).1, (step ([], c) k).2) := by
      unfold T1.step
      split
      · split <;> simp
      · simp
    rw [e3]
    generalize step ([], c) k = q
    obtain ⟨q1, q2⟩ := q
    rw [fold_pre s (p ++ q1) q2, fold_pre s q1 q2, List.append_assoc]
theorem W_gapped {a b : List Nat} (h : (W a).2 = []) : W (a ++ b) = ((W a).1 ++ (W b).1, (W b).2) := by
  rw [W_append]
  have e : W a = ((W a).1, []) := by rw [← h]
  rw [e, fold_pre]
  rfl
noncomputable def Gp (x : Str) (ts : List Str) : Prop := (W x.cps.toList).2 = [] ∧ (W x.cps.toList).1.map St1 = ts
noncomputable def Op (x : Str) (ts : List Str) : Prop := toks x = ts
theorem Gp.app_op {x y : Str} {ts us : List Str} (h : Gp x ts) (k : Op y us) : Op (x ++ y) (ts ++ us) := by
  unfold Op toks at *
  rw [app_codes, W_gapped h.1, ← h.2, ← k]
  unfold all
  by_cases z : (W y.cps.toList).2 = []
  · rw [if_pos z, if_pos z, List.map_append]
  · rw [if_neg z, if_neg z]
    simp only [List.map_append, List.append_assoc]
theorem Op.gap {x : Str} {ts : List Str} (h : Op x ts) : Gp (x ++ " ") ts := by
  unfold Gp
  have e : (x ++ " ").cps.toList = x.cps.toList ++ [32] := app_codes x " "
  rw [e, W_gap _ (.inl rfl)]
  exact ⟨rfl, h⟩
theorem cat_assoc (x y z : Str) : x ++ y ++ z = x ++ (y ++ z) := T1.str_ext (by rw [app_codes, app_codes, app_codes, app_codes, List.append_assoc])
theorem Op.word {x : Str} (h0 : x.cps.toList ≠ []) (h : ∀ k ∈ x.cps.toList, k ≠ 32 ∧ k ≠ 10 ∧ k ≠ 40 ∧ k ≠ 41) : Op x [x] := by
  unfold Op toks
  have e : W x.cps.toList = ([], x.cps.toList) := W_run [] x.cps.toList h
  rw [e]
  show (if x.cps.toList = [] then _ else _ : List (List Nat)).map St1 = _
  rw [if_neg h0]
  show [St1 x.cps.toList] = [x]
  exact congrArg (fun z => [z]) (T1.str_ext rfl)
theorem dig_first : ∀ m : Nat, 0 < m → (Nat.toDigits 10 m).head? ≠ some '0'
  | m, h => by
    by_cases h10 : m < 10
    · rw [Nat.toDigits_of_lt_base h10]
      have : m = 1 ∨ m = 2 ∨ m = 3 ∨ m = 4 ∨ m = 5 ∨ m = 6 ∨ m = 7 ∨ m = 8 ∨ m = 9 := by omega
      rcases this with rfl | rfl | rfl | rfl | rfl | rfl | rfl | rfl | rfl <;> decide
    · have hm : m % 10 < 10 := Nat.mod_lt m (by decide)
      have t : Nat.toDigits 10 (m / 10) ++ Nat.toDigits 10 (m % 10) = Nat.toDigits 10 (10 * (m / 10) + m % 10) := Nat.toDigits_append_toDigits (by decide) (by omega) hm
      rw [Nat.div_add_mod] at t
      have ih := dig_first (m / 10) (by omega)
      rw [← t]
      cases e : Nat.toDigits 10 (m / 10) with
      | nil =>
        have := PySem.toDigits_len_ge 10 (m / 10)
        rw [e] at this
        simp at this
      | cons a r =>
        rw [e] at ih
        exact ih
termination_by m => m
theorem num_is {n : Int} {k : Nat} (h0 : 0 ≤ n) (h1 : n < 10 ^ (k + 1)) (hk : k + 1 ≤ 60) : isNum (PySem.Str.ofString (toString n)) = true := by
  obtain ⟨f1, f2, f3⟩ := str_fig h0 h1
  obtain ⟨m, rfl⟩ := Int.eq_ofNat_of_zero_le h0
  have e := PySem.W.KIN.signs_num m
  unfold isNum
  have z : (!first0 (PySem.Str.ofString (toString ((m : Nat) : Int))) || decide (PySem.Str.ofString (toString ((m : Nat) : Int)) = "0")) = true := by
    by_cases hm : m = 0
    · subst hm
      decide +kernel
    · have d := dig_first m (by omega)
      have : first0 (PySem.Str.ofString (toString ((m : Nat) : Int))) = false := by
        unfold first0
        rw [e]
        cases q : Nat.toDigits 10 m with
        | nil => rfl
        | cons a r =>
          rw [q] at d
          show (a.toNat == 48) = false
          refine beq_eq_false_iff_ne.mpr fun w => d ?_
          show some a = some '0'
          exact congrArg some (Char.toNat_inj.mp w)
      rw [this]
      rfl
  rw [z, decide_eq_true f2, decide_eq_true (show _ ≤ 60 by omega)]
  simp only [Bool.true_and, Bool.and_true]
  exact List.all_eq_true.mpr fun c hc => decide_eq_true (f1 c hc)
structure EX (x : Str) (d n L : Nat) : Prop where
  asc : ∀ c ∈ x.cps.toList, c < 128
  len : x.length ≤ L
  ex : ∃ ts, Op x ts ∧ Ex d n ts
section
variable {d n : Nat} {ts : List Str}
theorem z0 : isNum "0" = true ∨ isName "0" = true := by decide +kernel
theorem ex0 : Ex 1 1 (["0"] : List Str) := Ex.word z0 (by decide +kernel)
theorem bool1 (f : Nat) : (decide (d ≤ f) && true) = decide (d + 1 ≤ f + 1) := by simp
theorem bool2 (h : 1 ≤ d) (f : Nat) : (decide (1 ≤ f) && (decide (d ≤ f) && true)) = decide (d + 1 ≤ f + 1) := by
  by_cases z : d ≤ f <;> simp [z] <;> omega
theorem bool3 (h : 1 ≤ d) (f : Nat) : (decide (d ≤ f) && (decide (1 ≤ f) && true)) = decide (d + 1 ≤ f + 1) := by
  by_cases z : d ≤ f <;> simp [z] <;> omega
theorem Ex.tag {h c : Str} (hh : h = "tag" ∨ h = "fn") (hc : isName c = true) (x : Ex d n ts) : Ex (d + 1) (n + 1) ((["(", h, c] : List Str) ++ ts ++ ([")"] : List Str)) := by
  have hp : stP h = some [true, false] ∧ ¬ h = "rec" ∧ ¬ h = "case" ∧ ¬ h = "row" := by rcases hh with rfl | rfl <;> decide +kernel
  have z := Ex.form (d := d + 1) (n := n + 0) (h := h) (ts := c :: (ts ++ [])) (by omega) fun f hf => ⟨_, FRd.steady hp.2.1 hp.2.2.1 hp.2.2.2 hp.1 (SRd.name hc (SRd.expr (x.rd f (by omega)) SRd.nil)), bool1 f⟩
  simpa using z
theorem Ex.get {c : Str} (hc : isName c = true) (x : Ex d n ts) : Ex (d + 1) (n + 1) ((["(", "get"] : List Str) ++ ts ++ ([c, ")"] : List Str)) := by
  have hp : stP "get" = some [false, true] ∧ ¬ ("get" : Str) = "rec" ∧ ¬ ("get" : Str) = "case" ∧ ¬ ("get" : Str) = "row" := by decide +kernel
  have z := Ex.form (d := d + 1) (n := n + 0) (h := "get") (ts := ts ++ [c]) (by omega) fun f hf => ⟨_, FRd.steady hp.2.1 hp.2.2.1 hp.2.2.2 hp.1 (SRd.expr (x.rd f (by omega)) (SRd.name hc SRd.nil)), bool1 f⟩
  simpa using z
theorem Ex.size (x : Ex d n ts) : Ex (d + 1) (n + 1) ((["(", "size"] : List Str) ++ ts ++ ([")"] : List Str)) := by
  have hp : stP "size" = some [false] ∧ ¬ ("size" : Str) = "rec" ∧ ¬ ("size" : Str) = "case" ∧ ¬ ("size" : Str) = "row" := by decide +kernel
  have z := Ex.form (d := d + 1) (n := n + 0) (h := "size") (ts := ts ++ []) (by omega) fun f hf => ⟨_, FRd.steady hp.2.1 hp.2.2.1 hp.2.2.2 hp.1 (SRd.expr (x.rd f (by omega)) SRd.nil), bool1 f⟩
  simpa using z
theorem Ex.add {c : Str} (hc : Ex 1 1 [c]) (x : Ex d n ts) : Ex (d + 1) (n + 2) ((["(", "add", c] : List Str) ++ ts ++ ([")"] : List Str)) := by
  have hp : stP "add" = some [false, false] ∧ ¬ ("add" : Str) = "rec" ∧ ¬ ("add" : Str) = "case" ∧ ¬ ("add" : Str) = "row" := by decide +kernel
  have z := Ex.form (d := d + 1) (n := 1 + (n + 0)) (h := "add") (ts := [c] ++ (ts ++ [])) (by omega) fun f hf => ⟨_, FRd.steady hp.2.1 hp.2.2.1 hp.2.2.2 hp.1 (SRd.expr (hc.rd f (by omega)) (SRd.expr (x.rd f (by omega)) SRd.nil)), bool2 x.pos f⟩
  rw [show n + 2 = 1 + (n + 0) + 1 by omega]
  simpa using z
theorem Ex.call (x : Ex d n ts) : Ex (d + 1) (n + 2) ((["(", "call"] : List Str) ++ ts ++ (["0", ")"] : List Str)) := by
  have hp : stP "call" = some [false, false] ∧ ¬ ("call" : Str) = "rec" ∧ ¬ ("call" : Str) = "case" ∧ ¬ ("call" : Str) = "row" := by decide +kernel
  have z := Ex.form (d := d + 1) (n := n + (1 + 0)) (h := "call") (ts := ts ++ ((["0"] : List Str) ++ [])) (by omega) fun f hf => ⟨_, FRd.steady hp.2.1 hp.2.2.1 hp.2.2.2 hp.1 (SRd.expr (x.rd f (by omega)) (SRd.expr (ex0.rd f (by omega)) SRd.nil)), bool3 x.pos f⟩
  simpa using z
end
end GR.Internal
namespace GR.Internal
open PySem L2.Internal T1
noncomputable instance {x : Str} {ts : List Str} : Decidable (Gp x ts) := inferInstanceAs (Decidable (_ ∧ _))
noncomputable instance {x : Str} {ts : List Str} : Decidable (Op x ts) := inferInstanceAs (Decidable (_ = _))
theorem nmA : isName "a" = true ∧ isName "t" = true ∧ isName "x" = true ∧ isName "b" = true := by decide +kernel
section
variable {d n : Nat} {ts : List Str}
end
noncomputable def armT (l : List Str) : List Str := l.flatMap fun c => [c, "x", "x"]
theorem nm_ne {c : Str} (h : isName c = true) : c ≠ ")" := fun z => by
  rw [z] at h
  exact absurd h (by decide +kernel)
theorem armM {f : Nat} (hf : f ≤ 24) : ∀ l : List Str, (∀ c ∈ l, isName c = true) → MRd (itemS (exprA f) [true, true, false]) (decide (l = [] ∨ 1 ≤ f)) l.length l.length (armT l)
  | [], _ => by
    rw [decide_eq_true (.inl rfl)]
    exact MRd.nil
  | c :: l, h => by
    have hc := h c (List.mem_cons_self ..)
    have ex1 : Ex 1 1 ["x"] := Ex.word (by decide +kernel) (by decide +kernel)
    have z := MRd.cons (itemS_good (expr_good f) _ (by simp)) rfl (nm_ne hc) (item_s (SRd.name hc (SRd.name nmA.2.2.1 (SRd.expr (ex1.rd f hf) SRd.nil)))) (armM hf l fun c hc => h c (List.mem_cons_of_mem _ hc))
    have e : (decide (1 ≤ f) && true && decide (l = [] ∨ 1 ≤ f)) = decide (c :: l = [] ∨ 1 ≤ f) := by
      by_cases q : 1 ≤ f <;> simp [q]
    rw [e, show 1 + 0 + l.length = l.length + 1 by omega] at z
    exact z
theorem rowM {f : Nat} (hf : f ≤ 24) {c : Str} (hc : isNum c = true) (hn : c ≠ ")") : ∀ m : Nat, MRd (itemE (exprA f)) (decide (m = 0 ∨ 1 ≤ f)) m m (List.replicate m c)
  | 0 => by
    rw [decide_eq_true (.inl rfl)]
    exact MRd.nil
  | m + 1 => by
    have ex1 : Ex 1 1 [c] := Ex.word (.inl hc) hn
    have z := MRd.cons (itemE_good (expr_good f)) rfl hn (item_e (ex1.rd f hf)) (rowM hf hc hn m)
    have e : (decide (1 ≤ f) && decide (m = 0 ∨ 1 ≤ f)) = decide (m + 1 = 0 ∨ 1 ≤ f) := by
      by_cases q : 1 ≤ f <;> simp [q]
    rw [e, show 1 + m = m + 1 by omega] at z
    exact z
noncomputable def dRec (m : Nat) : Nat := if m = 0 then 1 else if m ≤ 6 then 2 else 25
noncomputable def dCase (m : Nat) : Nat := if 1 ≤ m ∧ m ≤ 6 then 2 else 25
noncomputable def dRow (m : Nat) : Nat := if m = 0 then 1 else if m ≤ 8 then 2 else 25
theorem Ex.cases {l : List Str} (h : ∀ c ∈ l, isName c = true) : Ex (dCase l.length) (l.length + 2) (("(" : Str) :: ("case" : Str) :: ("0" : Str) :: (armT l ++ [(")" : Str)])) := by
  have hd : 1 ≤ dCase l.length := by unfold dCase; split <;> decide
  have z := Ex.form (d := dCase l.length) (n := 1 + l.length) (h := "case") (ts := (["0"] : List Str) ++ armT l) hd fun f hf => ⟨_, FRd.cased (ex0.rd f (by omega)) (armM (by omega) l h), by
    unfold dCase
    cases l with
    | nil => simp; omega
    | cons c l =>
      simp only [List.length_cons]
      by_cases q : l.length + 1 ≤ 6 <;> simp [q] <;> omega⟩
  rw [show l.length + 2 = 1 + l.length + 1 by omega]
  simpa using z
theorem Ex.rows {c : Str} (hc : isNum c = true) (hn : c ≠ ")") (m : Nat) : Ex (dRow m) (m + 1) (("(" : Str) :: ("row" : Str) :: (List.replicate m c ++ [(")" : Str)])) := by
  have hd : 1 ≤ dRow m := by unfold dRow; split; · exact Nat.le_refl _
                             split <;> decide
  refine Ex.form hd fun f hf => ⟨_, FRd.rowd (rowM (by omega) hc hn m), ?_⟩
  unfold dRow
  by_cases z : m = 0
  · subst z
    simp
  · by_cases q : m ≤ 8 <;> simp [q, z] <;> omega
noncomputable def Ap (x : Str) (ts : List Str) : Prop := ∀ y us, Op y us → Op (y ++ x) (us ++ ts)
theorem Ap.nil : Ap "" [] := fun y us h => by
  have e : y ++ "" = y := T1.str_ext (by rw [app_codes]; exact List.append_nil _)
  rw [e, List.append_nil]
  exact h
theorem Ap.word {x w z : Str} {ts : List Str} (h : Ap x ts) (hz : z = " " ++ w) (hw : Op w [w]) : Ap (x ++ z) (ts ++ [w]) := fun y us o => by
  rw [hz, ← cat_assoc, ← cat_assoc, ← List.append_assoc]
  exact (h y us o).gap.app_op hw
structure PGm (x : Str) (due : Bool) (n : Nat) : Prop where
  asc : ∀ c ∈ x.cps.toList, c < 128
  len : x.length ≤ 9999
  yes : due = true → ∃ names roots rows, readA (toks x) = some (names, roots, rows) ∧ rows.length = n
  no : due = false → readA (toks x) = none
structure DX (x : Str) (ok : Bool) (n m L : Nat) : Prop where
  asc : ∀ c ∈ x.cps.toList, c < 128
  len : x.length ≤ L
  rd : ∃ ts, Gp x ts ∧ DRd ok n m ts
end GR.Internal
namespace GR.Internal
open PySem L2.Internal T1
structure Wr (h t : Str) (k : Nat) : Prop where
  hl : h.length ≤ 15
  tl : t.length ≤ 5
  k3 : k ≤ 3
  on : ∀ x d n L, EX x d n L → EX (h ++ x ++ t) (d + 1) (n + k) (L + 20)
end GR.Internal
namespace TM.Internal
open PySem L2.Internal GR.Internal
inductive Kn
  | num (n : Int)
  | name (w : Str)
  | fn (w : Str)
  | tag (w : Str)
  | lt (w : Str)
  | get (w : Str)
  | rcd (l : List Str)
  | case (l : List (Str × Str))
  | row (m : Nat)
  | op (s : Str) (m : Nat)
inductive Tr
  | mk (κ : Kn) (ks : List Tr)
noncomputable def ops : List (Str × Nat) := [("call", 2), ("at", 3), ("join", 2), ("size", 1), ("add", 2), ("sub", 2), ("less", 2)]
noncomputable def Kn.ar : Kn → Nat
  | .num _ => 0
  | .name _ => 0
  | .fn _ => 1
  | .tag _ => 1
  | .lt _ => 2
  | .get _ => 1
  | .rcd l => l.length
  | .case l => l.length + 1
  | .row m => m
  | .op _ m => m
noncomputable def numS (n : Int) : Str := PySem.Str.ofString (toString n)
noncomputable def Kn.ok : Kn → Prop
  | .num n => 0 ≤ n ∧ n < 10 ^ 60
  | .name w => isName w = true
  | .fn w => isName w = true
  | .tag w => isName w = true
  | .lt w => isName w = true
  | .get w => isName w = true
  | .rcd l => l.length ≤ 6 ∧ ∀ w ∈ l, isName w = true
  | .case l => 1 ≤ l.length ∧ l.length ≤ 6 ∧ ∀ p ∈ l, isName p.1 = true ∧ isName p.2 = true
  | .row m => m ≤ 8
  | .op s m => (s, m) ∈ ops
mutual
noncomputable def Tr.sz : Tr → Nat
  | .mk _ ks => 1 + szs ks
noncomputable def szs : List Tr → Nat
  | [] => 0
  | t :: ts => t.sz + szs ts
end
mutual
noncomputable def Tr.nest : Tr → Nat
  | .mk _ ks => 1 + nests ks
noncomputable def nests : List Tr → Nat
  | [] => 0
  | t :: ts => max t.nest (nests ts)
end
mutual
noncomputable def Tr.ok : Tr → Prop
  | .mk κ ks => κ.ok ∧ ks.length = κ.ar ∧ oks ks
noncomputable def oks : List Tr → Prop
  | [] => True
  | t :: ts => t.ok ∧ oks ts
end
noncomputable def wv1 : List Str → List (List Str) → List Str
  | w :: l, k :: ks => w :: (k ++ wv1 l ks)
  | _, _ => []
noncomputable def wv2 : List (Str × Str) → List (List Str) → List Str
  | p :: l, k :: ks => p.1 :: p.2 :: (k ++ wv2 l ks)
  | _, _ => []
noncomputable def Kn.ws : Kn → List (List Str) → List Str
  | .fn w, ks => w :: ks.flatten
  | .tag w, ks => w :: ks.flatten
  | .lt w, ks => w :: ks.flatten
  | .get w, ks => ks.flatten ++ [w]
  | .rcd l, ks => wv1 l ks
  | .case l, k :: ks => k ++ wv2 l ks
  | _, ks => ks.flatten
noncomputable def Kn.s : Kn → Str
  | .num _ => "num"
  | .name _ => "name"
  | .fn _ => "fn"
  | .tag _ => "tag"
  | .lt _ => "let"
  | .get _ => "get"
  | .rcd _ => "rec"
  | .case _ => "case"
  | .row _ => "row"
  | .op s _ => s
noncomputable def Kn.tk (κ : Kn) (ks : List (List Str)) : List Str := match κ with
  | .num n => [numS n]
  | .name w => [w]
  | κ => ("(" : Str) :: κ.s :: (κ.ws ks ++ [(")" : Str)])
mutual
noncomputable def Tr.tk : Tr → List Str
  | .mk κ ks => κ.tk (tks ks)
noncomputable def tks : List Tr → List (List Str)
  | [] => []
  | t :: ts => t.tk :: tks ts
end
noncomputable def sD (s : Str) : Dt := .flat (.str s)
noncomputable def kD (k : Nat) : Dt := .flat (.int (k : Int))
noncomputable def Kn.rw (κ : Kn) (ps : List Nat) : List Dt := match κ, ps with
  | .num n, _ => [sD "num", .flat (.int n)]
  | .name w, _ => [sD "name", sD w]
  | .fn w, ps => sD "fn" :: sD w :: ps.map kD
  | .tag w, ps => sD "tag" :: sD w :: ps.map kD
  | .lt w, ps => sD "let" :: sD w :: ps.map kD
  | .get w, ps => sD "get" :: (ps.map kD ++ [sD w])
  | .rcd l, ps => [sD "rec", .tup ((l.zip ps).map fun p => .tup [sD p.1, kD p.2])]
  | .case l, p :: ps => [sD "case", kD p, .tup ((l.zip ps).map fun p => .tup [sD p.1.1, sD p.1.2, kD p.2])]
  | .case _, [] => []
  | .row _, ps => [sD "row", .tup (ps.map kD)]
  | .op s _, ps => sD s :: ps.map kD
noncomputable def offs : List Tr → Nat → List Nat
  | [], _ => []
  | t :: ts, p => p :: offs ts (p + t.sz)
mutual
noncomputable def Tr.rw : Tr → Nat → List Dt
  | .mk κ ks, p => .tup (κ.rw (offs ks (p + 1))) :: rws ks (p + 1)
noncomputable def rws : List Tr → Nat → List Dt
  | [], _ => []
  | t :: ts, p => t.rw p ++ rws ts (p + t.sz)
end
theorem offs_len : ∀ (ts : List Tr) (p : Nat), (offs ts p).length = ts.length
  | [], _ => rfl
  | t :: ts, p => by rw [offs, List.length_cons, List.length_cons, offs_len ts]
mutual
theorem Tr.rw_len : ∀ (t : Tr) (p : Nat), (t.rw p).length = t.sz
  | .mk κ ks, p => by rw [Tr.rw, List.length_cons, rws_len ks, Tr.sz]; omega
theorem rws_len : ∀ (ts : List Tr) (p : Nat), (rws ts p).length = szs ts
  | [], _ => by rw [rws, szs]; rfl
  | t :: ts, p => by rw [rws, szs, List.length_append, Tr.rw_len t, rws_len ts]
end
theorem close_no : isName ")" = false ∧ isNum ")" = false := by decide +kernel
theorem name_nc {w : Str} (h : isName w = true) : w ≠ ")" := fun z => by rw [z, close_no.1] at h; cases h
noncomputable def RdT (pe : Pe) (t : Tr) : Prop := ∀ (rest : List Str) (rows : List Dt), rows.length + t.sz ≤ 160 → pe (t.tk ++ rest) rows = some (rest, rows ++ t.rw rows.length)
noncomputable def RdTs (pe : Pe) (ts : List Tr) : Prop := ∀ t ∈ ts, RdT pe t
theorem st_name {pe : Pe} {ps : List Bool} {acc rows : List Dt} {x : Str} {r : List Str} (h : isName x = true) : steadyA pe (true :: ps) acc (x :: r) rows = steadyA pe ps (acc ++ [sD x]) r rows := by
  rw [steadyA]
  exact if_pos h
theorem st_expr {pe : Pe} {ps : List Bool} {acc rows rows' : List Dt} {ws r : List Str} (h : pe ws rows = some (r, rows')) : steadyA pe (false :: ps) acc ws rows = steadyA pe ps (acc ++ [kD rows.length]) r rows' := by
  rw [steadyA, h]
  rfl
theorem st_exprs {pe : Pe} : ∀ (ts : List Tr), RdTs pe ts → ∀ (ps : List Bool) (acc : List Dt) (rest : List Str) (rows : List Dt), rows.length + szs ts ≤ 160 →
    steadyA pe (List.replicate ts.length false ++ ps) acc ((tks ts).flatten ++ rest) rows = steadyA pe ps (acc ++ (offs ts rows.length).map kD) rest (rows ++ rws ts rows.length)
  | [], _, ps, acc, rest, rows, _ => by simp [tks, offs, rws]
  | t :: ts, h, ps, acc, rest, rows, hl => by
    rw [szs] at hl
    have h1 := h t List.mem_cons_self ((tks ts).flatten ++ rest) rows (by omega)
    rw [tks, List.flatten_cons, List.append_assoc, List.length_cons, List.replicate_succ, List.cons_append, steadyA, h1]
    dsimp only
    have hlen : (rows ++ t.rw rows.length).length = rows.length + t.sz := by rw [List.length_append, Tr.rw_len]
    rw [st_exprs ts (fun x hx => h x (List.mem_cons_of_mem _ hx)) ps _ rest _ (by rw [hlen]; omega), hlen, offs, rws, List.map_cons, List.append_assoc, List.append_assoc]
    rfl
theorem head_nc : ∀ (t : Tr), t.ok → ∃ x r, t.tk = x :: r ∧ x ≠ ")"
  | .mk κ ks, h => by
    rw [Tr.ok] at h
    rw [Tr.tk]
    cases κ with
    | num n =>
      refine ⟨_, _, rfl, fun z => ?_⟩
      have hf := str_fig (k := 59) h.1.1 h.1.2
      have : (41 : Nat) ∈ (numS n).cps.toList := by rw [z]; decide +kernel
      have := hf.1 41 this
      exact absurd this (by decide +kernel)
    | name w => exact ⟨_, _, rfl, name_nc h.1⟩
    | _ => exact ⟨_, _, rfl, by decide +kernel⟩
theorem many_go {item : List Str → List Dt → Option (Dt × Rs)} {ws r : List Str} {rows rows' acc : List Dt} {d : Dt} (h : ∃ x r, ws = x :: r ∧ x ≠ (")" : Str)) (hi : item ws rows = some (d, r, rows')) (hl : r.length < ws.length) : manyA item ws rows acc = manyA item r rows' (acc ++ [d]) := by
  obtain ⟨x, r0, rfl, hx⟩ := h
  have h' : ¬ (x :: r0).head? = some (")" : Str) := fun z => hx (Option.some.inj z)
  rw [manyA]
  refine (if_neg h').trans ?_
  rw [hi]
  exact dif_pos hl
theorem many_stop {item : List Str → List Dt → Option (Dt × Rs)} {r : List Str} {rows acc : List Dt} : manyA item ((")" : Str) :: r) rows acc = some (acc, (")" : Str) :: r, rows) := many_end _ _ _ rfl
theorem many_rows {pe : Pe} : ∀ (ts : List Tr), RdTs pe ts → oks ts → ∀ (acc : List Dt) (rest : List Str) (rows : List Dt), rows.length + szs ts ≤ 160 →
    manyA (itemE pe) ((tks ts).flatten ++ (")" : Str) :: rest) rows acc = some (acc ++ (offs ts rows.length).map kD, (")" : Str) :: rest, rows ++ rws ts rows.length)
  | [], _, _, acc, rest, rows, _ => by
    show manyA _ ((")" : Str) :: rest) rows acc = _
    rw [many_stop]
    simp [offs, rws]
  | t :: ts, h, ho, acc, rest, rows, hl => by
    rw [szs] at hl
    rw [oks] at ho
    obtain ⟨x, r, ex, hx⟩ := head_nc t ho.1
    have h1 := h t List.mem_cons_self ((tks ts).flatten ++ (")" : Str) :: rest) rows (by omega)
    have hlen : (rows ++ t.rw rows.length).length = rows.length + t.sz := by rw [List.length_append, Tr.rw_len]
    rw [tks, List.flatten_cons, List.append_assoc]
    rw [many_go (d := kD rows.length) (r := (tks ts).flatten ++ (")" : Str) :: rest) (rows' := rows ++ t.rw rows.length) ⟨x, _, by rw [ex]; rfl, hx⟩ (by unfold itemE; rw [h1]; rfl) (by rw [ex, List.cons_append, List.length_cons, List.length_append (as := r)]; omega), many_rows ts (fun x hx => h x (List.mem_cons_of_mem _ hx)) ho.2 _ rest _ (by rw [hlen]; omega), hlen, offs, rws, List.map_cons, List.append_assoc, List.append_assoc]
    rfl
theorem many_fields {pe : Pe} : ∀ (l : List Str) (ts : List Tr), l.length = ts.length → (∀ w ∈ l, isName w = true) → RdTs pe ts → ∀ (acc : List Dt) (rest : List Str) (rows : List Dt), rows.length + szs ts ≤ 160 →
    manyA (itemS pe [true, false]) (wv1 l (tks ts) ++ (")" : Str) :: rest) rows acc = some (acc ++ (l.zip (offs ts rows.length)).map (fun p => .tup [sD p.1, kD p.2]), (")" : Str) :: rest, rows ++ rws ts rows.length)
  | [], [], _, _, _, acc, rest, rows, _ => by
    show manyA _ ((")" : Str) :: rest) rows acc = _
    rw [many_stop]
    simp [offs, rws]
  | w :: l, t :: ts, hl0, hw, h, acc, rest, rows, hl => by
    rw [szs] at hl
    have h1 := h t List.mem_cons_self (wv1 l (tks ts) ++ (")" : Str) :: rest) rows (by omega)
    have hn := hw w List.mem_cons_self
    have hlen : (rows ++ t.rw rows.length).length = rows.length + t.sz := by rw [List.length_append, Tr.rw_len]
    rw [tks, wv1, List.cons_append, List.append_assoc]
    have hi : itemS pe [true, false] (w :: (t.tk ++ (wv1 l (tks ts) ++ (")" : Str) :: rest))) rows = some (.tup [sD w, kD rows.length], wv1 l (tks ts) ++ (")" : Str) :: rest, rows ++ t.rw rows.length) := by
      have e : steadyA pe [true, false] [] (w :: (t.tk ++ (wv1 l (tks ts) ++ (")" : Str) :: rest))) rows = some ([sD w, kD rows.length], wv1 l (tks ts) ++ (")" : Str) :: rest, rows ++ t.rw rows.length) := by
        rw [st_name hn, st_expr h1]
        rfl
      unfold itemS
      rw [e]
    rw [many_go ⟨_, _, rfl, name_nc hn⟩ hi (by simp only [List.length_cons, List.length_append]; omega), many_fields l ts (by simpa using hl0) (fun x hx => hw x (List.mem_cons_of_mem _ hx)) (fun x hx => h x (List.mem_cons_of_mem _ hx)) _ rest _ (by rw [hlen]; omega), hlen, offs, rws, List.zip_cons_cons, List.map_cons, List.append_assoc, List.append_assoc]
    rfl
theorem many_arms {pe : Pe} : ∀ (l : List (Str × Str)) (ts : List Tr), l.length = ts.length → (∀ p ∈ l, isName p.1 = true ∧ isName p.2 = true) → RdTs pe ts → ∀ (acc : List Dt) (rest : List Str) (rows : List Dt), rows.length + szs ts ≤ 160 →
    manyA (itemS pe [true, true, false]) (wv2 l (tks ts) ++ (")" : Str) :: rest) rows acc = some (acc ++ (l.zip (offs ts rows.length)).map (fun p => .tup [sD p.1.1, sD p.1.2, kD p.2]), (")" : Str) :: rest, rows ++ rws ts rows.length)
  | [], [], _, _, _, acc, rest, rows, _ => by
    show manyA _ ((")" : Str) :: rest) rows acc = _
    rw [many_stop]
    simp [offs, rws]
  | w :: l, t :: ts, hl0, hw, h, acc, rest, rows, hl => by
    rw [szs] at hl
    have h1 := h t List.mem_cons_self (wv2 l (tks ts) ++ (")" : Str) :: rest) rows (by omega)
    obtain ⟨hn, hn2⟩ := hw w List.mem_cons_self
    have hlen : (rows ++ t.rw rows.length).length = rows.length + t.sz := by rw [List.length_append, Tr.rw_len]
    rw [tks, wv2, List.cons_append, List.cons_append, List.append_assoc]
    have hi : itemS pe [true, true, false] (w.1 :: w.2 :: (t.tk ++ (wv2 l (tks ts) ++ (")" : Str) :: rest))) rows = some (.tup [sD w.1, sD w.2, kD rows.length], wv2 l (tks ts) ++ (")" : Str) :: rest, rows ++ t.rw rows.length) := by
      have e : steadyA pe [true, true, false] [] (w.1 :: w.2 :: (t.tk ++ (wv2 l (tks ts) ++ (")" : Str) :: rest))) rows = some ([sD w.1, sD w.2, kD rows.length], wv2 l (tks ts) ++ (")" : Str) :: rest, rows ++ t.rw rows.length) := by
        rw [st_name hn, st_name hn2, st_expr h1]
        rfl
      unfold itemS
      rw [e]
    rw [many_go ⟨_, _, rfl, name_nc hn⟩ hi (by simp only [List.length_cons, List.length_append]; omega), many_arms l ts (by simpa using hl0) (fun x hx => hw x (List.mem_cons_of_mem _ hx)) (fun x hx => h x (List.mem_cons_of_mem _ hx)) _ rest _ (by rw [hlen]; omega), hlen, offs, rws, List.zip_cons_cons, List.map_cons, List.append_assoc, List.append_assoc]
    rfl
theorem set_at {rows more : List Dt} {x y : Dt} : (rows ++ [x] ++ more).set rows.length y = rows ++ y :: more := by
  rw [List.append_assoc, List.set_append_right _ _ (Nat.le_refl _), Nat.sub_self]
  rfl
theorem rd_form {f : Nat} {h : Str} {ws rest : List Str} {rows ds more : List Dt} (hr : rows.length < 160) (hf : formA (exprA f) h (ws ++ (")" : Str) :: rest) (rows ++ [.flat .non]) = some (ds, (")" : Str) :: rest, rows ++ [.flat .non] ++ more)) :
    exprA (f + 1) (("(" : Str) :: h :: (ws ++ [(")" : Str)]) ++ rest) rows = some (rest, rows ++ .tup ds :: more) := by
  rw [exprA, if_neg (by omega)]
  show (match rowA (exprA f) (("(" : Str) :: h :: ((ws ++ [(")" : Str)]) ++ rest)) (rows ++ [Dt.flat .non]) with | none => none | some (ds, r, rows') => some (r, rows'.set rows.length (Dt.tup ds))) = _
  rw [row_par paren_no.1 paren_no.2 rfl, List.append_assoc]
  show (match closeA (formA (exprA f) h (ws ++ (")" : Str) :: rest) (rows ++ [Dt.flat .non])) with | none => none | some (ds, r, rows') => some (r, rows'.set rows.length (Dt.tup ds))) = _
  rw [hf]
  show (match (if (")" : Str) = ")" then some (ds, rest, rows ++ [Dt.flat .non] ++ more) else none) with | none => none | some (ds, r, rows') => some (r, rows'.set rows.length (Dt.tup ds))) = _
  rw [if_pos rfl]
  show some (rest, (rows ++ [Dt.flat .non] ++ more).set rows.length (Dt.tup ds)) = _
  rw [set_at]
theorem form_steady {pe : Pe} {h : Str} {ps : List Bool} {ws r : List Str} {rows ds rows' : List Dt} (h1 : ¬ h = "rec") (h2 : ¬ h = "case") (h3 : ¬ h = "row") (hp : stP h = some ps) (s : steadyA pe ps [] ws rows = some (ds, r, rows')) : formA pe h ws rows = some (sD h :: ds, r, rows') := by
  unfold formA
  rw [if_neg h1, if_neg h2, if_neg h3, hp]
  dsimp only
  rw [s]
  rfl
theorem ops_st : ∀ p ∈ ops, stP p.1 = some (List.replicate p.2 false) ∧ ¬ p.1 = "rec" ∧ ¬ p.1 = "case" ∧ ¬ p.1 = "row" := by decide +kernel
theorem num_is {n : Int} (h0 : 0 ≤ n) (h1 : n < 10 ^ 60) : isNum (numS n) = true ∧ intOf (numS n) = n := by
  refine ⟨GR.Internal.num_is (k := 59) h0 h1 (by decide), ?_⟩
  obtain ⟨f1, f2, f3⟩ := str_fig (k := 59) h0 h1
  have hd : PySem.NumText.AllDigits (numS n).cps.toList := fun c hc => fg_digit c (f1 c hc)
  have hne : (numS n).cps.toList ≠ [] := by
    obtain ⟨c, r, e⟩ := first_of (x := numS n) f2
    rw [e]
    exact List.cons_ne_nil _ _
  have hl : (numS n).length ≤ 60 := f3
  have e := PySem.intText_digits hd hne (by omega)
  unfold intOf
  rw [e]
  obtain ⟨m, rfl⟩ := Int.eq_ofNat_of_zero_le h0
  unfold numS
  rw [PySem.W.KIN.signs_num, PySem.W.KIN.val_back]
  rfl
theorem sm_fg : ∀ c ∈ SM.cps.toList, ¬ c ∈ FG.cps.toList := by decide +kernel
theorem name_nn {w : Str} (h : isName w = true) : ¬ isNum w = true := fun z => by
  obtain ⟨z1, _, z3⟩ := isNum_parts z
  obtain ⟨c, r, ec⟩ := first_of z1
  unfold isName at h
  simp only [Bool.and_eq_true] at h
  have hf := h.1.2
  unfold firstIn at hf
  rw [ec] at hf
  exact sm_fg c (of_decide_eq_true hf) (allIn_mem z3 c (by rw [ec]; exact List.mem_cons_self))
theorem rd_all : ∀ (f : Nat) (t : Tr), t.ok → t.nest ≤ f → RdT (exprA f) t
  | 0, .mk κ ks, _, hn => by rw [Tr.nest] at hn; omega
  | f + 1, .mk κ ks, ho, hn => by
    intro rest rows hl
    rw [Tr.ok] at ho
    rw [Tr.nest] at hn
    rw [Tr.sz] at hl
    obtain ⟨h1, h2, h3⟩ := ho
    have ih : RdTs (exprA f) ks := by
      intro t ht
      have : t.ok ∧ t.nest ≤ nests ks := by
        clear hl h1 h2
        induction ks with
        | nil => cases ht
        | cons x xs ih =>
          rw [oks] at h3
          rw [nests] at hn ⊢
          rcases List.mem_cons.mp ht with e | e
          · subst e
            exact ⟨h3.1, Nat.le_max_left _ _⟩
          · have := ih (by omega) h3.2 e
            exact ⟨this.1, by omega⟩
      exact rd_all f t this.1 (by omega)
    have r1 : (rows ++ [Dt.flat .non]).length = rows.length + 1 := by rw [List.length_append]; rfl
    have hs : ∀ (s : Str) (ps : List Bool), ps = List.replicate ks.length false → stP s = some ps → (¬ s = "rec" ∧ ¬ s = "case" ∧ ¬ s = "row") → formA (exprA f) s ((tks ks).flatten ++ (")" : Str) :: rest) (rows ++ [.flat .non]) = some (sD s :: (offs ks (rows.length + 1)).map kD, (")" : Str) :: rest, rows ++ [.flat .non] ++ rws ks (rows.length + 1)) := fun s ps e1 e2 e3 => by
      refine form_steady e3.1 e3.2.1 e3.2.2 e2 ?_
      have := st_exprs ks ih [] [] ((")" : Str) :: rest) (rows ++ [.flat .non]) (by rw [r1]; omega)
      rw [List.append_nil] at this
      rw [e1, this, r1, steadyA]
      rfl
    have hn1 : ∀ (s w : Str), isName w = true → stP s = some (true :: List.replicate ks.length false) → (¬ s = "rec" ∧ ¬ s = "case" ∧ ¬ s = "row") → formA (exprA f) s (w :: (tks ks).flatten ++ (")" : Str) :: rest) (rows ++ [.flat .non]) = some (sD s :: sD w :: (offs ks (rows.length + 1)).map kD, (")" : Str) :: rest, rows ++ [.flat .non] ++ rws ks (rows.length + 1)) := fun s w hw e2 e3 => by
      refine form_steady e3.1 e3.2.1 e3.2.2 e2 ?_
      rw [List.cons_append, st_name hw]
      have := st_exprs ks ih [] [sD w] ((")" : Str) :: rest) (rows ++ [.flat .non]) (by rw [r1]; omega)
      rw [List.append_nil] at this
      show steadyA (exprA f) (List.replicate ks.length false) [sD w] _ _ = _
      rw [this, r1, steadyA]
      rfl
    rw [Tr.tk, Tr.rw]
    cases κ with
    | num n =>
      have e : ks = [] := List.eq_nil_of_length_eq_zero h2
      subst e
      obtain ⟨n1, n2⟩ := num_is h1.1 h1.2
      rw [exprA, if_neg (by omega)]
      show (match rowA (exprA f) (numS n :: rest) (rows ++ [Dt.flat .non]) with | none => none | some (ds, r, rows') => some (r, rows'.set rows.length (Dt.tup ds))) = _
      rw [row_num n1, n2]
      show some (rest, (rows ++ [Dt.flat .non]).set rows.length (Dt.tup _)) = _
      have := set_at (rows := rows) (more := []) (x := Dt.flat .non) (y := Dt.tup [Dt.flat (.str "num"), Dt.flat (.int n)])
      rw [List.append_nil] at this
      rw [this]
      rfl
    | name w =>
      have e : ks = [] := List.eq_nil_of_length_eq_zero h2
      subst e
      have hw : isName w = true := h1
      have hnn : ¬ isNum w = true := name_nn hw
      rw [exprA, if_neg (by omega)]
      show (match rowA (exprA f) (w :: rest) (rows ++ [Dt.flat .non]) with | none => none | some (ds, r, rows') => some (r, rows'.set rows.length (Dt.tup ds))) = _
      rw [row_name hnn hw]
      show some (rest, (rows ++ [Dt.flat .non]).set rows.length (Dt.tup _)) = _
      have := set_at (rows := rows) (more := []) (x := Dt.flat .non) (y := Dt.tup [Dt.flat (.str "name"), Dt.flat (.str w)])
      rw [List.append_nil] at this
      rw [this]
      rfl
    | fn w => exact rd_form (by omega) (hn1 "fn" w h1 (by rw [h2]; exact (show stP "fn" = some (true :: List.replicate 1 false) from by decide +kernel)) (by decide +kernel))
    | tag w => exact rd_form (by omega) (hn1 "tag" w h1 (by rw [h2]; exact (show stP "tag" = some (true :: List.replicate 1 false) from by decide +kernel)) (by decide +kernel))
    | lt w => exact rd_form (by omega) (hn1 "let" w h1 (by rw [h2]; exact (show stP "let" = some (true :: List.replicate 2 false) from by decide +kernel)) (by decide +kernel))
    | get w =>
      refine rd_form (by omega) ?_
      refine form_steady (h := "get") (by decide +kernel) (by decide +kernel) (by decide +kernel) (show stP "get" = some (List.replicate ks.length false ++ [true]) by rw [h2]; exact (show stP "get" = some (List.replicate 1 false ++ [true]) from by decide +kernel)) ?_
      have := st_exprs ks ih [true] [] (w :: (")" : Str) :: rest) (rows ++ [.flat .non]) (by rw [r1]; omega)
      show steadyA (exprA f) _ [] (((tks ks).flatten ++ [w]) ++ (")" : Str) :: rest) _ = _
      rw [List.append_assoc]
      show steadyA (exprA f) _ [] ((tks ks).flatten ++ (w :: (")" : Str) :: rest)) _ = _
      rw [this, r1, st_name (show isName w = true from h1), steadyA]
      rfl
    | rcd l =>
      refine rd_form (by omega) ?_
      have := many_fields l ks h2.symm h1.2 ih [] rest (rows ++ [.flat .non]) (by rw [r1]; omega)
      show formA (exprA f) "rec" _ _ = _
      unfold formA
      rw [if_pos rfl]
      show (match chk 0 6 (manyA (itemS (exprA f) [true, false]) (wv1 l (tks ks) ++ (")" : Str) :: rest) (rows ++ [Dt.flat .non]) []) with | none => none | some (l, r) => some ([Dt.flat (.str "rec"), Dt.tup l], r)) = _
      rw [this, r1]
      unfold chk
      dsimp only
      rw [if_pos ⟨Nat.zero_le _, by rw [List.nil_append, List.length_map, List.length_zip]; have := h1.1; omega⟩]
      rfl
    | row m =>
      refine rd_form (by omega) ?_
      have := many_rows ks ih h3 [] rest (rows ++ [.flat .non]) (by rw [r1]; omega)
      show formA (exprA f) "row" _ _ = _
      unfold formA
      rw [if_neg (by decide +kernel), if_neg (by decide +kernel), if_pos rfl]
      show (match chk 0 8 (manyA (itemE (exprA f)) ((tks ks).flatten ++ (")" : Str) :: rest) (rows ++ [Dt.flat .non]) []) with | none => none | some (l, r) => some ([Dt.flat (.str "row"), Dt.tup l], r)) = _
      rw [this, r1]
      unfold chk
      dsimp only
      have h8 : m ≤ 8 := h1
      have hk : ks.length = m := h2
      rw [if_pos ⟨Nat.zero_le _, by rw [List.nil_append, List.length_map, offs_len]; omega⟩]
      rfl
    | op s m =>
      obtain ⟨e1, e2⟩ := ops_st (s, m) h1
      exact rd_form (by omega) (hs s _ (by rw [h2]; rfl) e1 e2)
    | case l =>
      cases ks with
      | nil => exact absurd h2 (by simp [Kn.ar])
      | cons t ts =>
        have hl2 : l.length = ts.length := by simpa [Kn.ar] using h2.symm
        refine rd_form (by omega) ?_
        rw [szs] at hl
        have hlen : (rows ++ [Dt.flat .non] ++ t.rw (rows.length + 1)).length = rows.length + 1 + t.sz := by rw [List.length_append, Tr.rw_len, r1]
        have a1 := ih t List.mem_cons_self (wv2 l (tks ts) ++ (")" : Str) :: rest) (rows ++ [.flat .non]) (by rw [r1]; omega)
        rw [r1] at a1
        have a2 := many_arms l ts hl2 h1.2.2 (fun x hx => ih x (List.mem_cons_of_mem _ hx)) [] rest (rows ++ [.flat .non] ++ t.rw (rows.length + 1)) (by rw [hlen]; omega)
        show formA (exprA f) "case" _ _ = _
        unfold formA
        rw [if_neg (by decide +kernel), if_pos rfl]
        show (match exprA f ((t.tk ++ wv2 l (tks ts)) ++ (")" : Str) :: rest) (rows ++ [Dt.flat .non]) with | none => none | some (r1, rows1) => match chk 1 6 (manyA (itemS (exprA f) [true, true, false]) r1 rows1 []) with | none => none | some (l, r) => some ([Dt.flat (.str "case"), Dt.flat (.int ((rows ++ [Dt.flat .non]).length : Int)), Dt.tup l], r)) = _
        rw [List.append_assoc, a1]
        dsimp only
        rw [a2, hlen]
        unfold chk
        dsimp only
        rw [if_pos ⟨by rw [List.nil_append, List.length_map, List.length_zip, offs_len]; have := h1.1; omega, by rw [List.nil_append, List.length_map, List.length_zip]; have := h1.2.1; omega⟩, r1]
        show some ([sD "case", kD (rows.length + 1), Dt.tup _], (")" : Str) :: rest, rows ++ [Dt.flat .non] ++ t.rw (rows.length + 1) ++ rws ts (rows.length + 1 + t.sz)) = _
        rw [rws, offs, List.append_assoc]
        rfl
end TM.Internal
namespace SP.Internal
open PySem L2.Internal GR.Internal
noncomputable def KW : List Str := ["def", "fn", "call", "let", "rec", "get", "tag", "case", "row", "at", "join", "size", "add", "sub", "less"]
noncomputable def BH : List Str := ["def", "fn", "let", "tag"]
noncomputable def b1 (w : Str) : Int := if w = "(" then 1 else if w = ")" then -1 else 0
noncomputable def bal : List Str → Int
  | [] => 0
  | w :: r => b1 w + bal r
theorem bal_app : ∀ a b : List Str, bal (a ++ b) = bal a + bal b
  | [], b => by rw [List.nil_append, bal, Int.zero_add]
  | w :: a, b => by rw [List.cons_append, bal, bal, bal_app a b, Int.add_assoc]
noncomputable def Al (w : Str) : Prop := w = "(" ∨ w = ")" ∨ w ∈ KW ∨ isName w = true ∨ isNum w = true
structure Nx (p w : Str) : Prop where
  kw : p = "(" ↔ w ∈ KW
  nm : p ∈ BH → isName w = true
  al : Al w
noncomputable def Adj : Str → List Str → Prop
  | _, [] => True
  | p, w :: r => Nx p w ∧ Adj w r
noncomputable def lst : Str → List Str → Str
  | p, [] => p
  | _, w :: r => lst w r
theorem adj_app : ∀ (p : Str) (a b : List Str), Adj p (a ++ b) ↔ Adj p a ∧ Adj (lst p a) b
  | p, [], b => ⟨fun h => ⟨trivial, h⟩, fun h => h.2⟩
  | p, w :: a, b => by
    rw [List.cons_append, Adj, Adj, lst, adj_app w a b, and_assoc]
theorem lst_app : ∀ (p : Str) (a b : List Str), lst p (a ++ b) = lst (lst p a) b
  | p, [], b => rfl
  | p, w :: a, b => by rw [List.cons_append, lst, lst, lst_app w a b]
structure Cl (p : Str) : Prop where
  op : p ≠ "("
  bh : p ∉ BH
theorem kw_no : ∀ w ∈ KW, isName w = false ∧ isNum w = false := by decide +kernel
theorem bh_kw : ∀ w ∈ BH, w ∈ KW := by decide +kernel
theorem br_no : isName "(" = false ∧ isNum "(" = false ∧ isName ")" = false ∧ isNum ")" = false := by decide +kernel
theorem br_kw : ("(" : Str) ∉ KW ∧ (")" : Str) ∉ KW ∧ ("(" : Str) ≠ ")" := by decide +kernel
theorem nm_facts {x : Str} (h : isName x = true ∨ isNum x = true) : x ≠ "(" ∧ x ≠ ")" ∧ x ∉ KW := by
  obtain ⟨a, b, c, d⟩ := br_no
  refine ⟨fun z => ?_, fun z => ?_, fun z => ?_⟩
  · rw [z] at h; rcases h with h | h
    · rw [a] at h; cases h
    · rw [b] at h; cases h
  · rw [z] at h; rcases h with h | h
    · rw [c] at h; cases h
    · rw [d] at h; cases h
  · obtain ⟨e, f⟩ := kw_no x z
    rcases h with h | h
    · rw [e] at h; cases h
    · rw [f] at h; cases h
theorem nm_cl {x : Str} (h : isName x = true ∨ isNum x = true) : Cl x ∧ b1 x = 0 := by
  obtain ⟨a, b, c⟩ := nm_facts h
  exact ⟨⟨a, fun z => c (bh_kw x z)⟩, by unfold b1; rw [if_neg a, if_neg b]⟩
theorem cl_close : Cl ")" := ⟨br_kw.2.2.symm, fun z => br_kw.2.1 (bh_kw _ z)⟩
structure Ue (u : List Str) : Prop where
  bl : bal u = 0
  ad : ∀ p, Cl p → Adj p u ∧ Cl (lst p u)
theorem Ue.nil : Ue [] := ⟨rfl, fun p h => ⟨trivial, h⟩⟩
theorem Ue.app {a b : List Str} (h : Ue a) (k : Ue b) : Ue (a ++ b) := ⟨by rw [bal_app, h.bl, k.bl]; rfl, fun p hp => by
  obtain ⟨h1, h2⟩ := h.ad p hp
  obtain ⟨k1, k2⟩ := k.ad _ h2
  exact ⟨(adj_app ..).mpr ⟨h1, k1⟩, by rw [lst_app]; exact k2⟩⟩
noncomputable def Rp (pe : List Str → List Dt → Option Rs) : Prop := ∀ ws rows r, pe ws rows = some r → ∃ u, ws = u ++ r.1 ∧ Ue u
theorem steady_u {pe : List Str → List Dt → Option Rs} (g : Rp pe) : ∀ (ps : List Bool) (acc : List Dt) (ws : List Str) (rows ds : List Dt) (r : Rs), steadyA pe ps acc ws rows = some (ds, r) →
    ∃ u, ws = u ++ r.1 ∧ bal u = 0 ∧ ∀ p : Str, p ≠ "(" → (p ∈ BH → ps.head? = some true) → Adj p u ∧ Cl (lst p u)
  | [], acc, ws, rows, ds, r, h => by
    rw [steadyA] at h
    cases h
    exact ⟨[], rfl, rfl, fun p h1 h2 => ⟨trivial, h1, fun z => by have := h2 z; cases this⟩⟩
  | true :: ps, acc, [], rows, ds, r, h => by
    rw [steadyA] at h
    cases h
  | true :: ps, acc, x :: ws, rows, ds, r, h => by
    rw [steadyA] at h
    split at h
    · rename_i hx
      obtain ⟨u, e, b, k⟩ := steady_u g ps _ _ _ _ _ h
      obtain ⟨c1, c2⟩ := nm_cl (.inl hx)
      obtain ⟨f1, f2, f3⟩ := nm_facts (.inl hx)
      refine ⟨x :: u, by rw [e]; rfl, by rw [bal, c2, b]; rfl, fun p h1 h2 => ?_⟩
      obtain ⟨k1, k2⟩ := k x c1.op fun z => absurd z c1.bh
      exact ⟨⟨⟨⟨fun z => absurd z h1, fun z => absurd z f3⟩, fun _ => hx, .inr (.inr (.inr (.inl hx)))⟩, k1⟩, k2⟩
    · cases h
  | false :: ps, acc, ws, rows, ds, r, h => by
    rw [steadyA] at h
    split at h
    · cases h
    · rename_i r1 rows1 e
      obtain ⟨u1, e1, U1⟩ := g _ _ _ e
      obtain ⟨u, e2, b, k⟩ := steady_u g ps _ _ _ _ _ h
      have e2 : r1 = u ++ r.1 := e2
      have e1 : ws = u1 ++ r1 := e1
      refine ⟨u1 ++ u, by rw [e1, e2, List.append_assoc], by rw [bal_app, U1.bl, b]; rfl, fun p h1 h2 => ?_⟩
      obtain ⟨a1, a2⟩ := U1.ad p ⟨h1, fun z => by have := h2 z; cases this⟩
      obtain ⟨k1, k2⟩ := k _ a2.op fun z => absurd z a2.bh
      exact ⟨(adj_app ..).mpr ⟨a1, k1⟩, by rw [lst_app]; exact k2⟩
noncomputable def Ri (item : List Str → List Dt → Option (Dt × Rs)) : Prop := ∀ ws rows d r, item ws rows = some (d, r) → ∃ u, ws = u ++ r.1 ∧ Ue u
theorem itemS_u {pe : List Str → List Dt → Option Rs} (g : Rp pe) (ps : List Bool) : Ri (itemS pe ps) := by
  intro ws rows d r e
  unfold itemS at e
  split at e
  · cases e
  · rename_i ds r' e'
    cases e
    obtain ⟨u, e, b, k⟩ := steady_u g ps _ _ _ _ _ e'
    exact ⟨u, e, b, fun p hp => k p hp.op fun z => absurd z hp.bh⟩
theorem itemE_u {pe : List Str → List Dt → Option Rs} (g : Rp pe) : Ri (itemE pe) := by
  intro ws rows d r e
  unfold itemE at e
  split at e
  · cases e
  · rename_i r' e'
    cases e
    exact g _ _ _ e'
theorem many_u {item : List Str → List Dt → Option (Dt × Rs)} (g : Ri item) : ∀ (n : Nat) (ws : List Str) (rows acc l : List Dt) (r : Rs), ws.length ≤ n → manyA item ws rows acc = some (l, r) → ∃ u, ws = u ++ r.1 ∧ Ue u := by
  intro n
  induction n with
  | zero =>
    intro ws rows acc l r hn h
    rw [manyA] at h
    split at h
    · cases h; exact ⟨[], rfl, .nil⟩
    · split at h
      · cases h
      · split at h
        · rename_i hlt; omega
        · cases h
  | succ n ih =>
    intro ws rows acc l r hn h
    rw [manyA] at h
    split at h
    · cases h; exact ⟨[], rfl, .nil⟩
    · split at h
      · cases h
      · rename_i d r1 rows1 e
        split at h
        · rename_i hlt
          obtain ⟨u1, e1, U1⟩ := g _ _ _ _ e
          obtain ⟨u2, e2, U2⟩ := ih _ _ _ _ _ (by omega) h
          have e1 : ws = u1 ++ r1 := e1
          exact ⟨u1 ++ u2, by rw [e1, e2, List.append_assoc], U1.app U2⟩
        · cases h
theorem chk_u {lo hi : Nat} {o : Option (List Dt × Rs)} {l : List Dt} {r : Rs} (h : chk lo hi o = some (l, r)) : o = some (l, r) := by
  unfold chk at h
  split at h
  · cases h
  · split at h
    · exact h
    · cases h
theorem stT_all : ∀ p ∈ stT, p.1 ∈ KW ∧ p.1 ≠ "(" ∧ (p.1 ∈ BH → p.2.head? = some true) := by decide +kernel
theorem st_all {h : Str} {ps : List Bool} (e : stP h = some ps) : h ∈ KW ∧ h ≠ "(" ∧ (h ∈ BH → ps.head? = some true) := by
  unfold stP at e
  obtain ⟨p, hp, rfl⟩ := Option.map_eq_some_iff.mp e
  have hm := List.mem_of_find?_eq_some hp
  have hh := List.find?_some hp
  have hh : p.1 = h := of_decide_eq_true hh
  have := stT_all p hm
  rw [hh] at this
  exact this
theorem hd3 : (("rec" : Str) ∈ KW ∧ Cl "rec") ∧ (("case" : Str) ∈ KW ∧ Cl "case") ∧ (("row" : Str) ∈ KW ∧ Cl "row") :=
  ⟨⟨by decide +kernel, by decide +kernel, by decide +kernel⟩, ⟨by decide +kernel, by decide +kernel, by decide +kernel⟩, ⟨by decide +kernel, by decide +kernel, by decide +kernel⟩⟩
theorem form_u {pe : List Str → List Dt → Option Rs} (g : Rp pe) {h : Str} {ws : List Str} {rows ds : List Dt} {r : Rs} (e : formA pe h ws rows = some (ds, r)) : h ∈ KW ∧ ∃ u, ws = u ++ r.1 ∧ bal u = 0 ∧ Adj h u ∧ Cl (lst h u) := by
  obtain ⟨a1, a2, a3⟩ := hd3
  unfold formA at e
  split at e
  · rename_i hh
    subst hh
    split at e
    · cases e
    · rename_i l r' e'
      cases e
      obtain ⟨u, eu, U⟩ := many_u (itemS_u g _) _ _ _ _ _ _ (Nat.le_refl _) (chk_u e')
      exact ⟨a1.1, u, eu, U.bl, (U.ad _ a1.2).1, (U.ad _ a1.2).2⟩
  · split at e
    · rename_i hh
      subst hh
      split at e
      · cases e
      · rename_i r1 rows1 e1
        split at e
        · cases e
        · rename_i l r' e'
          cases e
          obtain ⟨u1, eu1, U1⟩ := g _ _ _ e1
          obtain ⟨u, eu, U⟩ := many_u (itemS_u g _) _ _ _ _ _ _ (Nat.le_refl _) (chk_u e')
          have eu1 : ws = u1 ++ r1 := eu1
          have UU := U1.app U
          exact ⟨a2.1, u1 ++ u, by rw [eu1, eu, List.append_assoc], UU.bl, (UU.ad _ a2.2).1, (UU.ad _ a2.2).2⟩
    · split at e
      · rename_i hh
        subst hh
        split at e
        · cases e
        · rename_i l r' e'
          cases e
          obtain ⟨u, eu, U⟩ := many_u (itemE_u g) _ _ _ _ _ _ (Nat.le_refl _) (chk_u e')
          exact ⟨a3.1, u, eu, U.bl, (U.ad _ a3.2).1, (U.ad _ a3.2).2⟩
      · split at e
        · cases e
        · rename_i ps hps
          obtain ⟨k1, k2, k3⟩ := st_all hps
          split at e
          · cases e
          · rename_i ds' r' e'
            cases e
            obtain ⟨u, eu, b, k⟩ := steady_u g ps _ _ _ _ _ e'
            exact ⟨k1, u, eu, b, (k h k2 k3).1, (k h k2 k3).2⟩
theorem b1s : b1 "(" = 1 ∧ b1 ")" = -1 := by decide +kernel
theorem kw_b1 : ∀ w ∈ KW, b1 w = 0 := by decide +kernel
theorem row_u {pe : List Str → List Dt → Option Rs} (g : Rp pe) {ws : List Str} {rows ds : List Dt} {r : Rs} (e : rowA pe ws rows = some (ds, r)) : ∃ u, ws = u ++ r.1 ∧ Ue u := by
  have one : ∀ {x : Str}, (isName x = true ∨ isNum x = true) → Ue [x] := fun {x} h => by
    obtain ⟨c1, c2⟩ := nm_cl h
    obtain ⟨f1, f2, f3⟩ := nm_facts h
    refine ⟨by rw [bal, bal, c2]; rfl, fun p hp => ⟨⟨⟨⟨fun z => absurd z hp.op, fun z => absurd z f3⟩, fun z => absurd z hp.bh, ?_⟩, trivial⟩, c1⟩⟩
    rcases h with h | h
    · exact .inr (.inr (.inr (.inl h)))
    · exact .inr (.inr (.inr (.inr h)))
  unfold rowA at e
  split at e
  · cases e
  · rename_i x rest
    split at e
    · rename_i h; cases e; exact ⟨[x], rfl, one (.inr h)⟩
    · split at e
      · rename_i h; cases e; exact ⟨[x], rfl, one (.inl h)⟩
      · split at e
        · rename_i hx
          subst hx
          split at e
          · cases e
          · rename_i h r2
            unfold closeA at e
            split at e
            · cases e
            · rename_i ds' r' rows' e'
              split at e
              · cases e
              · rename_i y r3
                split at e
                · rename_i hy
                  subst hy
                  cases e
                  obtain ⟨k1, u, eu, b, a1, a2⟩ := form_u g e'
                  have eu : r2 = u ++ (")" : Str) :: r3 := eu
                  refine ⟨("(" : Str) :: h :: (u ++ [(")" : Str)]), by rw [eu, List.cons_append, List.cons_append, List.append_assoc]; rfl, ?_, fun p hp => ⟨⟨⟨⟨fun z => absurd z hp.op, fun z => absurd z br_kw.1⟩, fun z => absurd z hp.bh, .inl rfl⟩, ⟨⟨fun _ => k1, fun _ => rfl⟩, fun z => absurd (bh_kw _ z) br_kw.1, .inr (.inr (.inl k1))⟩, (adj_app ..).mpr ⟨a1, ⟨⟨fun z => absurd z a2.op, fun z => absurd z br_kw.2.1⟩, fun z => absurd z a2.bh, .inr (.inl rfl)⟩, trivial⟩⟩, ?_⟩⟩
                  · rw [bal, bal, bal_app, bal, bal, b, b1s.1, b1s.2, kw_b1 h k1]; rfl
                  · rw [lst, lst, lst_app]; exact cl_close
                · cases e
        · cases e
theorem expr_u : ∀ f, Rp (exprA f)
  | 0 => fun ws rows r e => by rw [exprA] at e; cases e
  | f + 1 => fun ws rows r e => by
    rw [exprA] at e
    split at e
    · cases e
    · split at e
      · cases e
      · rename_i ds r' rows' e'
        cases e
        obtain ⟨u, eu, U⟩ := row_u (expr_u f) e'
        exact ⟨u, eu, U⟩
theorem defs_u : ∀ (n : Nat) (ws : List Str) (rows : List Dt) (names : List Str) (roots : List Dt) (o : List Str × List Dt × List Dt), ws.length ≤ n → defsA ws rows names roots = some o → bal ws = 0 ∧ Adj ")" ws ∧ lst ")" ws = ")" := by
  intro n
  induction n with
  | zero =>
    intro ws rows names roots o hn h
    have : ws = [] := List.eq_nil_of_length_eq_zero (by omega)
    subst this
    exact ⟨rfl, trivial, rfl⟩
  | succ n ih =>
    intro ws rows names roots o hn h
    rw [defsA.eq_def] at h
    split at h
    · exact ⟨rfl, trivial, rfl⟩
    · cases h
    · cases h
    · rename_i a b c r
      split at h
      · rename_i hc
        obtain ⟨rfl, rfl, hc⟩ := hc
        split at h
        · cases h
        · rename_i r2 rows2 e
          split at h
          · cases h
          · rename_i y r3
            split at h
            · rename_i hy
              subst hy
              split at h
              · rename_i hlt
                simp only [List.length_cons] at hn
                obtain ⟨i1, i2, i3⟩ := ih _ _ _ _ _ (by omega) h
                obtain ⟨u, eu, U⟩ := expr_u 24 _ _ _ e
                have eu : r = u ++ (")" : Str) :: r3 := eu
                obtain ⟨c1, c2⟩ := nm_cl (.inl hc)
                obtain ⟨f1, f2, f3⟩ := nm_facts (.inl hc)
                obtain ⟨u1, u2⟩ := U.ad c c1
                have dk : ("def" : Str) ∈ KW ∧ b1 "def" = 0 ∧ ("def" : Str) ≠ "(" := by decide +kernel
                subst eu
                refine ⟨?_, ⟨⟨⟨fun z => absurd z cl_close.op, fun z => absurd z br_kw.1⟩, fun z => absurd z cl_close.bh, .inl rfl⟩, ⟨⟨fun _ => dk.1, fun _ => rfl⟩, fun z => absurd (bh_kw _ z) br_kw.1, .inr (.inr (.inl dk.1))⟩, ⟨⟨fun z => absurd z dk.2.2, fun z => absurd z f3⟩, fun _ => hc, .inr (.inr (.inr (.inl hc)))⟩, (adj_app ..).mpr ⟨u1, ⟨⟨fun z => absurd z u2.op, fun z => absurd z br_kw.2.1⟩, fun z => absurd z u2.bh, .inr (.inl rfl)⟩, i2⟩⟩, ?_⟩
                · rw [bal, bal, bal, bal_app, bal, i1, U.bl, c2, dk.2.1, b1s.1, b1s.2]; rfl
                · rw [lst, lst, lst, lst_app, lst]; exact i3
              · cases h
            · cases h
      · cases h
structure Fr (ws : List Str) : Prop where
  bl : bal ws = 0
  ad : Adj ")" ws
  ls : lst ")" ws = ")"
theorem read_u {ws : List Str} {o : List Str × List Dt × List Dt} (h : readA ws = some o) : Fr ws := by
  unfold readA at h
  split at h
  · cases h
  · rename_i e
    obtain ⟨a, b, c⟩ := defs_u _ _ _ _ _ _ (Nat.le_refl _) e
    exact ⟨a, b, c⟩
theorem no_read {ws : List Str} (h : ¬ Fr ws) : readA ws = none := by
  cases e : readA ws with
  | none => rfl
  | some o => exact absurd (read_u e) h
theorem adj_al {p : Str} : ∀ {ws : List Str}, Adj p ws → ∀ w ∈ ws, Al w := by
  intro ws
  induction ws generalizing p with
  | nil => intro _ w hw; cases hw
  | cons x ws ih =>
    intro h w hw
    rcases List.mem_cons.mp hw with e | e
    · rw [e]; exact h.1.al
    · exact ih h.2 w e
theorem sp_brk {a c : List Str} {b : Str} (h1 : b = "(" ∨ b = ")") : bal (a ++ [b] ++ c) ≠ bal (a ++ c) := by
  rw [bal_app, bal_app, bal_app, bal, bal]
  rcases h1 with rfl | rfl
  · rw [b1s.1]; omega
  · rw [b1s.2]; omega
theorem no_out {a c : List Str} {b : Str} (g : Fr (a ++ [b] ++ c)) (h1 : b = "(" ∨ b = ")") : readA (a ++ c) = none := no_read fun f => sp_brk h1 (g.bl.trans f.bl.symm)
theorem no_in {a c : List Str} {b : Str} (g : Fr (a ++ c)) (h1 : b = "(" ∨ b = ")") : readA (a ++ [b] ++ c) = none := no_read fun f => sp_brk h1 (f.bl.trans g.bl.symm)
theorem nx_at {p : Str} {a c : List Str} {b : Str} (h : Adj p (a ++ [b] ++ c)) : Nx (lst p a) b := by
  rw [adj_app, adj_app] at h
  exact h.1.2.1
theorem no_kw {a c : List Str} {x y : Str} (g : Fr (a ++ [x] ++ c)) (h : ¬ (x ∈ KW ↔ y ∈ KW)) : readA (a ++ [y] ++ c) = none := no_read fun f =>
  h ((nx_at g.ad).kw.symm.trans (nx_at f.ad).kw)
theorem no_nm {a c : List Str} {b y : Str} (hb : b ∈ BH) (hy : isName y = false) : readA (a ++ [b] ++ [y] ++ c) = none := no_read fun f => by
  have := (nx_at f.ad).nm (by rw [lst_app]; exact hb)
  rw [hy] at this
  cases this
theorem no_al {a c : List Str} {y : Str} (hy : ¬ Al y) : readA (a ++ [y] ++ c) = none := no_read fun f => hy (nx_at f.ad).al
theorem no_end {a : List Str} {y : Str} (hy : y ≠ ")") : readA (a ++ [y]) = none := no_read fun f => by
  have := f.ls
  rw [lst_app] at this
  exact hy this
end SP.Internal
namespace K05.Internal
open PySem L2.Internal
theorem l0 {P : List Value → Prop} (h : P []) : ∀ us : List Value, us.length = 0 → P us := fun us e => by rw [List.eq_nil_of_length_eq_zero e]; exact h
theorem lS {n : Nat} {P : List Value → Prop} (h : ∀ a, ∀ us : List Value, us.length = n → P (a :: us)) : ∀ us : List Value, us.length = n + 1 → P us := fun us e => by
  cases us with
  | nil => cases e
  | cons a t => exact h a t (Nat.succ.inj e)
noncomputable def top (i : Nat) : Stmt := PySem.Challenge.pw_flowkinds_k05_not_programs.main.body.getD i (.Pass ⟨0, 0, 0, 0⟩)
noncomputable abbrev s_words_of : Stmt := top 24
noncomputable abbrev s_is_name : Stmt := top 25
noncomputable abbrev s_is_number : Stmt := top 26
noncomputable abbrev s_made_of : Stmt := top 27
noncomputable abbrev s_read : Stmt := top 28
noncomputable abbrev s_check_count : Stmt := top 29
noncomputable abbrev s__law_name : Stmt := top 32
noncomputable abbrev s__law_pop : Stmt := top 33
noncomputable abbrev s__law_many : Stmt := top 34
noncomputable abbrev s__law_tree : Stmt := top 35
noncomputable abbrev s__law_item : Stmt := top 36
noncomputable abbrev s__law_trees : Stmt := top 37
noncomputable abbrev s__law_words : Stmt := top 38
noncomputable abbrev s__law_odd : Stmt := top 39
noncomputable abbrev s__law_spoilt : Stmt := top 40
noncomputable abbrev s__law_taken : Stmt := top 41
noncomputable abbrev s_law : Stmt := top 42
noncomputable abbrev s_Program___init__ : Stmt := inClass (top 23) 0
noncomputable abbrev s_Reader___init__ : Stmt := inClass (top 30) 0
noncomputable abbrev s_Reader_ahead : Stmt := inClass (top 30) 1
noncomputable abbrev s_Reader_take : Stmt := inClass (top 30) 2
noncomputable abbrev s_Reader_pass_over : Stmt := inClass (top 30) 3
noncomputable abbrev s_Reader_take_name : Stmt := inClass (top 30) 4
noncomputable abbrev s_Reader_take_expr : Stmt := inClass (top 30) 5
noncomputable abbrev s_Reader_take_row : Stmt := inClass (top 30) 6
noncomputable abbrev s_Reader_take_form : Stmt := inClass (top 30) 7
noncomputable abbrev s_Reader_take_steady : Stmt := inClass (top 30) 8
noncomputable abbrev s_Reader_take_fields : Stmt := inClass (top 30) 9
noncomputable abbrev s_Reader_take_arms : Stmt := inClass (top 30) 10
noncomputable abbrev s_Reader_take_things : Stmt := inClass (top 30) 11
set_option genInjectivity false in
set_option genSizeOf false in
structure Txt (K : PySem.W.Frag) (mg : Str → Option Value) where
  t_LETTERS : Tok
  m_LETTERS : mg "LETTERS" = some (.str "abcdefghijklmnopqrstuvwxyz" t_LETTERS)
  t_FIGURES : Tok
  m_FIGURES : mg "FIGURES" = some (.str "0123456789" t_FIGURES)
  a_KEPT_WORDS : Addr
  m_KEPT_WORDS : mg "KEPT_WORDS" = some (.ref a_KEPT_WORDS)
  q_KEPT_WORDS : ∀ H : Hp, SqT K H a_KEPT_WORDS [V.str "def", V.str "fn", V.str "call", V.str "let", V.str "rec", V.str "get", V.str "tag", V.str "case", V.str "row", V.str "at", V.str "join", V.str "size", V.str "add", V.str "sub", V.str "less"]
  t_MOST_FIGURES : Tok
  m_MOST_FIGURES : mg "MOST_FIGURES" = some (.int 60 t_MOST_FIGURES)
  t_MOST_SIGNS : Tok
  m_MOST_SIGNS : mg "MOST_SIGNS" = some (.int 12 t_MOST_SIGNS)
  t_MOST_DEFINITIONS : Tok
  m_MOST_DEFINITIONS : mg "MOST_DEFINITIONS" = some (.int 12 t_MOST_DEFINITIONS)
  t_MOST_FIELDS : Tok
  m_MOST_FIELDS : mg "MOST_FIELDS" = some (.int 6 t_MOST_FIELDS)
  t_MOST_ARMS : Tok
  m_MOST_ARMS : mg "MOST_ARMS" = some (.int 6 t_MOST_ARMS)
  t_MOST_THINGS : Tok
  m_MOST_THINGS : mg "MOST_THINGS" = some (.int 8 t_MOST_THINGS)
  t_MOST_PLACES : Tok
  m_MOST_PLACES : mg "MOST_PLACES" = some (.int 160 t_MOST_PLACES)
  t_MOST_NEST : Tok
  m_MOST_NEST : mg "MOST_NEST" = some (.int 24 t_MOST_NEST)
  a_words_of : Addr
  fd_words_of : FuncData
  F_words_of : Fun K "words_of" "words_of" s_words_of a_words_of fd_words_of
  b_words_of : Binds K fd_words_of ["text"] []
  m_words_of : mg "words_of" = some (.ref a_words_of)
  k_words_of : PySem.W.keepIn K (.ref a_words_of) = true
  a_is_name : Addr
  fd_is_name : FuncData
  F_is_name : Fun K "is_name" "is_name" s_is_name a_is_name fd_is_name
  b_is_name : Binds K fd_is_name ["word"] []
  m_is_name : mg "is_name" = some (.ref a_is_name)
  k_is_name : PySem.W.keepIn K (.ref a_is_name) = true
  a_is_number : Addr
  fd_is_number : FuncData
  F_is_number : Fun K "is_number" "is_number" s_is_number a_is_number fd_is_number
  b_is_number : Binds K fd_is_number ["word"] []
  m_is_number : mg "is_number" = some (.ref a_is_number)
  k_is_number : PySem.W.keepIn K (.ref a_is_number) = true
  a_made_of : Addr
  fd_made_of : FuncData
  F_made_of : Fun K "made_of" "made_of" s_made_of a_made_of fd_made_of
  b_made_of : Binds K fd_made_of ["word", "signs"] []
  m_made_of : mg "made_of" = some (.ref a_made_of)
  k_made_of : PySem.W.keepIn K (.ref a_made_of) = true
  a_read : Addr
  fd_read : FuncData
  F_read : Fun K "read" "read" s_read a_read fd_read
  b_read : Binds K fd_read ["text"] []
  m_read : mg "read" = some (.ref a_read)
  k_read : PySem.W.keepIn K (.ref a_read) = true
  a_check_count : Addr
  fd_check_count : FuncData
  F_check_count : Fun K "check_count" "check_count" s_check_count a_check_count fd_check_count
  b_check_count : Binds K fd_check_count ["what", "count", "least", "most"] []
  m_check_count : mg "check_count" = some (.ref a_check_count)
  k_check_count : PySem.W.keepIn K (.ref a_check_count) = true
  a__law_name : Addr
  fd__law_name : FuncData
  F__law_name : Fun K "_law_name" "_law_name" s__law_name a__law_name fd__law_name
  b__law_name : Binds K fd__law_name ["_law_cell"] []
  m__law_name : mg "_law_name" = some (.ref a__law_name)
  k__law_name : PySem.W.keepIn K (.ref a__law_name) = true
  a__law_pop : Addr
  fd__law_pop : FuncData
  F__law_pop : Fun K "_law_pop" "_law_pop" s__law_pop a__law_pop fd__law_pop
  b__law_pop : Binds K fd__law_pop ["_law_stack"] []
  m__law_pop : mg "_law_pop" = some (.ref a__law_pop)
  k__law_pop : PySem.W.keepIn K (.ref a__law_pop) = true
  a__law_many : Addr
  fd__law_many : FuncData
  F__law_many : Fun K "_law_many" "_law_many" s__law_many a__law_many fd__law_many
  b__law_many : Binds K fd__law_many ["_law_stack", "_law_many_here"] []
  m__law_many : mg "_law_many" = some (.ref a__law_many)
  k__law_many : PySem.W.keepIn K (.ref a__law_many) = true
  a__law_tree : Addr
  fd__law_tree : FuncData
  F__law_tree : Fun K "_law_tree" "_law_tree" s__law_tree a__law_tree fd__law_tree
  b__law_tree : Binds K fd__law_tree ["_law_op", "_law_arg", "_law_parts"] []
  m__law_tree : mg "_law_tree" = some (.ref a__law_tree)
  k__law_tree : PySem.W.keepIn K (.ref a__law_tree) = true
  a__law_item : Addr
  fd__law_item : FuncData
  F__law_item : Fun K "_law_item" "_law_item" s__law_item a__law_item fd__law_item
  b__law_item : Binds K fd__law_item ["_law_op", "_law_arg", "_law_stack"] []
  m__law_item : mg "_law_item" = some (.ref a__law_item)
  k__law_item : PySem.W.keepIn K (.ref a__law_item) = true
  a__law_trees : Addr
  fd__law_trees : FuncData
  F__law_trees : Fun K "_law_trees" "_law_trees" s__law_trees a__law_trees fd__law_trees
  b__law_trees : Binds K fd__law_trees ["_law_script"] []
  m__law_trees : mg "_law_trees" = some (.ref a__law_trees)
  k__law_trees : PySem.W.keepIn K (.ref a__law_trees) = true
  a__law_words : Addr
  fd__law_words : FuncData
  F__law_words : Fun K "_law_words" "_law_words" s__law_words a__law_words fd__law_words
  b__law_words : Binds K fd__law_words ["_law_part"] []
  m__law_words : mg "_law_words" = some (.ref a__law_words)
  k__law_words : PySem.W.keepIn K (.ref a__law_words) = true
  a__law_odd : Addr
  fd__law_odd : FuncData
  F__law_odd : Fun K "_law_odd" "_law_odd" s__law_odd a__law_odd fd__law_odd
  b__law_odd : Binds K fd__law_odd ["_law_cell"] []
  m__law_odd : mg "_law_odd" = some (.ref a__law_odd)
  k__law_odd : PySem.W.keepIn K (.ref a__law_odd) = true
  a__law_spoilt : Addr
  fd__law_spoilt : FuncData
  F__law_spoilt : Fun K "_law_spoilt" "_law_spoilt" s__law_spoilt a__law_spoilt fd__law_spoilt
  b__law_spoilt : Binds K fd__law_spoilt ["_law_words_here", "_law_choice", "_law_cell", "_law_kept"] []
  m__law_spoilt : mg "_law_spoilt" = some (.ref a__law_spoilt)
  k__law_spoilt : PySem.W.keepIn K (.ref a__law_spoilt) = true
  a__law_taken : Addr
  fd__law_taken : FuncData
  F__law_taken : Fun K "_law_taken" "_law_taken" s__law_taken a__law_taken fd__law_taken
  b__law_taken : Binds K fd__law_taken ["_law_text"] []
  m__law_taken : mg "_law_taken" = some (.ref a__law_taken)
  k__law_taken : PySem.W.keepIn K (.ref a__law_taken) = true
  a_FlowError : Addr
  m_FlowError : mg "FlowError" = some (.ref a_FlowError)
  x_FlowError : ExcV K a_FlowError
  a_BadText : Addr
  m_BadText : mg "BadText" = some (.ref a_BadText)
  x_BadText : ExcV K a_BadText
  a_Twice : Addr
  m_Twice : mg "Twice" = some (.ref a_Twice)
  a_NoName : Addr
  m_NoName : mg "NoName" = some (.ref a_NoName)
  a_TooHeavy : Addr
  m_TooHeavy : mg "TooHeavy" = some (.ref a_TooHeavy)
  a_BadPaper : Addr
  m_BadPaper : mg "BadPaper" = some (.ref a_BadPaper)
  x_BadPaper : ExcV K a_BadPaper
  a_WrongKind : Addr
  m_WrongKind : mg "WrongKind" = some (.ref a_WrongKind)
  a_OutOfTurns : Addr
  m_OutOfTurns : mg "OutOfTurns" = some (.ref a_OutOfTurns)
  x_OutOfTurns : ExcV K a_OutOfTurns
  a_RowFull : Addr
  m_RowFull : mg "RowFull" = some (.ref a_RowFull)
  x_RowFull : ExcV K a_RowFull
  a_Program : Addr
  m_Program : mg "Program" = some (.ref a_Program)
  cl_Program : Cls K a_Program
  ty_Program : ∀ (H : Hp) (a dx : Addr) (fs : List (Str × V)), H a = some (.ins a_Program dx fs) → TyOf K H (.ref a) (.ref a_Program)
  n_Program_names : NoAttr K a_Program "names"
  n_Program_roots : NoAttr K a_Program "roots"
  n_Program_rows : NoAttr K a_Program "rows"
  a_Program___init__ : Addr
  fd_Program___init__ : FuncData
  F_Program___init__ : Fun K "__init__" "Program.__init__" s_Program___init__ a_Program___init__ fd_Program___init__
  b_Program___init__ : Binds K fd_Program___init__ ["self", "names", "roots", "rows"] []
  mk_Program : Mk K a_Program a_Program___init__
  a_Reader : Addr
  m_Reader : mg "Reader" = some (.ref a_Reader)
  cl_Reader : Cls K a_Reader
  ty_Reader : ∀ (H : Hp) (a dx : Addr) (fs : List (Str × V)), H a = some (.ins a_Reader dx fs) → TyOf K H (.ref a) (.ref a_Reader)
  n_Reader_words : NoAttr K a_Reader "words"
  n_Reader_taken : NoAttr K a_Reader "taken"
  n_Reader_rows : NoAttr K a_Reader "rows"
  a_Reader___init__ : Addr
  fd_Reader___init__ : FuncData
  F_Reader___init__ : Fun K "__init__" "Reader.__init__" s_Reader___init__ a_Reader___init__ fd_Reader___init__
  b_Reader___init__ : Binds K fd_Reader___init__ ["self", "words"] []
  mk_Reader : Mk K a_Reader a_Reader___init__
  a_Reader_ahead : Addr
  fd_Reader_ahead : FuncData
  F_Reader_ahead : Fun K "ahead" "Reader.ahead" s_Reader_ahead a_Reader_ahead fd_Reader_ahead
  b_Reader_ahead : Binds K fd_Reader_ahead ["self"] []
  me_Reader_ahead : Meth K a_Reader "ahead" a_Reader_ahead
  a_Reader_take : Addr
  fd_Reader_take : FuncData
  F_Reader_take : Fun K "take" "Reader.take" s_Reader_take a_Reader_take fd_Reader_take
  b_Reader_take : Binds K fd_Reader_take ["self"] []
  me_Reader_take : Meth K a_Reader "take" a_Reader_take
  a_Reader_pass_over : Addr
  fd_Reader_pass_over : FuncData
  F_Reader_pass_over : Fun K "pass_over" "Reader.pass_over" s_Reader_pass_over a_Reader_pass_over fd_Reader_pass_over
  b_Reader_pass_over : Binds K fd_Reader_pass_over ["self", "wanted"] []
  me_Reader_pass_over : Meth K a_Reader "pass_over" a_Reader_pass_over
  a_Reader_take_name : Addr
  fd_Reader_take_name : FuncData
  F_Reader_take_name : Fun K "take_name" "Reader.take_name" s_Reader_take_name a_Reader_take_name fd_Reader_take_name
  b_Reader_take_name : Binds K fd_Reader_take_name ["self"] []
  me_Reader_take_name : Meth K a_Reader "take_name" a_Reader_take_name
  a_Reader_take_expr : Addr
  fd_Reader_take_expr : FuncData
  F_Reader_take_expr : Fun K "take_expr" "Reader.take_expr" s_Reader_take_expr a_Reader_take_expr fd_Reader_take_expr
  b_Reader_take_expr : Binds K fd_Reader_take_expr ["self", "depth"] []
  me_Reader_take_expr : Meth K a_Reader "take_expr" a_Reader_take_expr
  a_Reader_take_row : Addr
  fd_Reader_take_row : FuncData
  F_Reader_take_row : Fun K "take_row" "Reader.take_row" s_Reader_take_row a_Reader_take_row fd_Reader_take_row
  b_Reader_take_row : Binds K fd_Reader_take_row ["self", "depth"] []
  me_Reader_take_row : Meth K a_Reader "take_row" a_Reader_take_row
  a_Reader_take_form : Addr
  fd_Reader_take_form : FuncData
  F_Reader_take_form : Fun K "take_form" "Reader.take_form" s_Reader_take_form a_Reader_take_form fd_Reader_take_form
  b_Reader_take_form : Binds K fd_Reader_take_form ["self", "head", "depth"] []
  me_Reader_take_form : Meth K a_Reader "take_form" a_Reader_take_form
  a_Reader_take_steady : Addr
  fd_Reader_take_steady : FuncData
  F_Reader_take_steady : Fun K "take_steady" "Reader.take_steady" s_Reader_take_steady a_Reader_take_steady fd_Reader_take_steady
  b_Reader_take_steady : Binds K fd_Reader_take_steady ["self", "parts", "depth"] []
  me_Reader_take_steady : Meth K a_Reader "take_steady" a_Reader_take_steady
  a_Reader_take_fields : Addr
  fd_Reader_take_fields : FuncData
  F_Reader_take_fields : Fun K "take_fields" "Reader.take_fields" s_Reader_take_fields a_Reader_take_fields fd_Reader_take_fields
  b_Reader_take_fields : Binds K fd_Reader_take_fields ["self", "depth"] []
  me_Reader_take_fields : Meth K a_Reader "take_fields" a_Reader_take_fields
  a_Reader_take_arms : Addr
  fd_Reader_take_arms : FuncData
  F_Reader_take_arms : Fun K "take_arms" "Reader.take_arms" s_Reader_take_arms a_Reader_take_arms fd_Reader_take_arms
  b_Reader_take_arms : Binds K fd_Reader_take_arms ["self", "depth"] []
  me_Reader_take_arms : Meth K a_Reader "take_arms" a_Reader_take_arms
  a_Reader_take_things : Addr
  fd_Reader_take_things : FuncData
  F_Reader_take_things : Fun K "take_things" "Reader.take_things" s_Reader_take_things a_Reader_take_things fd_Reader_take_things
  b_Reader_take_things : Binds K fd_Reader_take_things ["self", "depth"] []
  me_Reader_take_things : Meth K a_Reader "take_things" a_Reader_take_things
  e_BadText_FlowError : PySem.W.exmOne K (.ref a_BadText) (.ref a_FlowError) = some true
  xc_BadText : XCls K a_BadText
  i_BadText_BadText : PySem.W.kitOne K (.ref a_BadText) (.ref a_BadText) = some true
  i_BadText_ValueError : PySem.W.kitOne K (.ref a_BadText) (.type "ValueError") = some true
  i_BadText_Twice : PySem.W.kitOne K (.ref a_BadText) (.ref a_Twice) = some false
  i_BadText_NoName : PySem.W.kitOne K (.ref a_BadText) (.ref a_NoName) = some false
  i_BadText_TooHeavy : PySem.W.kitOne K (.ref a_BadText) (.ref a_TooHeavy) = some false
  i_BadText_BadPaper : PySem.W.kitOne K (.ref a_BadText) (.ref a_BadPaper) = some false
  i_BadText_WrongKind : PySem.W.kitOne K (.ref a_BadText) (.ref a_WrongKind) = some false
  i_BadText_OutOfTurns : PySem.W.kitOne K (.ref a_BadText) (.ref a_OutOfTurns) = some false
  i_BadText_RowFull : PySem.W.kitOne K (.ref a_BadText) (.ref a_RowFull) = some false
  i_Program_Program : PySem.W.kitOne K (.ref a_Program) (.ref a_Program) = some true
  z_ValueError : mg "ValueError" = none
  z_all : mg "all" = none
  z_int : mg "int" = none
  z_isinstance : mg "isinstance" = none
  z_len : mg "len" = none
  z_list : mg "list" = none
  z_max : mg "max" = none
  z_range : mg "range" = none
  z_str : mg "str" = none
  z_sum : mg "sum" = none
  z_tuple : mg "tuple" = none
theorem sc_words_of : FnScope ["text", "spaced"] ["text"] (defScope s_words_of) := ⟨rfl, rfl, rfl, by decide +kernel, rfl, by decide +kernel, by decide +kernel⟩
theorem sc_is_name : FnScope ["word"] ["word"] (defScope s_is_name) := ⟨rfl, rfl, rfl, by decide +kernel, rfl, by decide +kernel, by decide +kernel⟩
theorem sc_is_number : FnScope ["word"] ["word"] (defScope s_is_number) := ⟨rfl, rfl, rfl, by decide +kernel, rfl, by decide +kernel, by decide +kernel⟩
theorem sc_made_of : FnScope ["word", "signs"] ["word", "signs"] (defScope s_made_of) := ⟨rfl, rfl, rfl, by decide +kernel, rfl, by decide +kernel, by decide +kernel⟩
theorem sc_read : FnScope ["text", "reader", "names", "roots"] ["text"] (defScope s_read) := ⟨rfl, rfl, rfl, by decide +kernel, rfl, by decide +kernel, by decide +kernel⟩
theorem sc_check_count : FnScope ["what", "count", "least", "most"] ["what", "count", "least", "most"] (defScope s_check_count) := ⟨rfl, rfl, rfl, by decide +kernel, rfl, by decide +kernel, by decide +kernel⟩
theorem sc__law_name : FnScope ["_law_cell", "_law_number", "_law_word", "_law_k", "_law_kept"] ["_law_cell"] (defScope s__law_name) := ⟨rfl, rfl, rfl, by decide +kernel, rfl, by decide +kernel, by decide +kernel⟩
theorem sc__law_pop : FnScope ["_law_stack"] ["_law_stack"] (defScope s__law_pop) := ⟨rfl, rfl, rfl, by decide +kernel, rfl, by decide +kernel, by decide +kernel⟩
theorem sc__law_many : FnScope ["_law_stack", "_law_many_here", "_law_parts", "_law_k"] ["_law_stack", "_law_many_here"] (defScope s__law_many) := ⟨rfl, rfl, rfl, by decide +kernel, rfl, by decide +kernel, by decide +kernel⟩
theorem sc__law_tree : FnScope ["_law_op", "_law_arg", "_law_parts", "_law_trees_here", "_law_name_here", "_law_arms"] ["_law_op", "_law_arg", "_law_parts"] (defScope s__law_tree) := ⟨rfl, rfl, rfl, by decide +kernel, rfl, by decide +kernel, by decide +kernel⟩
theorem sc__law_item : FnScope ["_law_op", "_law_arg", "_law_stack", "_law_many_here", "_law_parts", "_law_nest"] ["_law_op", "_law_arg", "_law_stack"] (defScope s__law_item) := ⟨rfl, rfl, rfl, by decide +kernel, rfl, by decide +kernel, by decide +kernel⟩
theorem sc__law_trees : FnScope ["_law_script", "_law_made", "_law_stack", "_law_done", "_law_cell", "_law_number", "_law_op", "_law_item_here"] ["_law_script"] (defScope s__law_trees) := ⟨rfl, rfl, rfl, by decide +kernel, rfl, by decide +kernel, by decide +kernel⟩
theorem sc__law_words : FnScope ["_law_part", "_law_words_here", "_law_inner"] ["_law_part"] (defScope s__law_words) := ⟨rfl, rfl, rfl, by decide +kernel, rfl, by decide +kernel, by decide +kernel⟩
theorem sc__law_odd : FnScope ["_law_cell", "_law_some"] ["_law_cell"] (defScope s__law_odd) := ⟨rfl, rfl, rfl, by decide +kernel, rfl, by decide +kernel, by decide +kernel⟩
theorem sc__law_spoilt : FnScope ["_law_words_here", "_law_choice", "_law_cell", "_law_kept", "_law_spots", "_law_more", "_law_at"] ["_law_words_here", "_law_choice", "_law_cell", "_law_kept"] (defScope s__law_spoilt) := ⟨rfl, rfl, rfl, by decide +kernel, rfl, by decide +kernel, by decide +kernel⟩
theorem sc__law_taken : FnScope ["_law_text", "_law_error", "e"] ["_law_text"] (defScope s__law_taken) := ⟨rfl, rfl, rfl, by decide +kernel, rfl, by decide +kernel, by decide +kernel⟩
theorem sc_law : FnScope ["_law_script", "_law_kept", "_law_words_here", "_law_name_here", "_law_tree_here", "_law_first", "_law_cell", "_law_good", "_law_bad"] ["_law_script"] (defScope s_law) := ⟨rfl, rfl, rfl, by decide +kernel, rfl, by decide +kernel, by decide +kernel⟩
theorem sc_Program___init__ : FnScope ["self", "names", "roots", "rows"] ["self", "names", "roots", "rows"] (defScope s_Program___init__) := ⟨rfl, rfl, rfl, by decide +kernel, rfl, by decide +kernel, by decide +kernel⟩
theorem sc_Reader___init__ : FnScope ["self", "words"] ["self", "words"] (defScope s_Reader___init__) := ⟨rfl, rfl, rfl, by decide +kernel, rfl, by decide +kernel, by decide +kernel⟩
theorem sc_Reader_ahead : FnScope ["self"] ["self"] (defScope s_Reader_ahead) := ⟨rfl, rfl, rfl, by decide +kernel, rfl, by decide +kernel, by decide +kernel⟩
theorem sc_Reader_take : FnScope ["self", "word"] ["self"] (defScope s_Reader_take) := ⟨rfl, rfl, rfl, by decide +kernel, rfl, by decide +kernel, by decide +kernel⟩
theorem sc_Reader_pass_over : FnScope ["self", "wanted", "word"] ["self", "wanted"] (defScope s_Reader_pass_over) := ⟨rfl, rfl, rfl, by decide +kernel, rfl, by decide +kernel, by decide +kernel⟩
theorem sc_Reader_take_name : FnScope ["self", "word"] ["self"] (defScope s_Reader_take_name) := ⟨rfl, rfl, rfl, by decide +kernel, rfl, by decide +kernel, by decide +kernel⟩
theorem sc_Reader_take_expr : FnScope ["self", "depth", "place"] ["self", "depth"] (defScope s_Reader_take_expr) := ⟨rfl, rfl, rfl, by decide +kernel, rfl, by decide +kernel, by decide +kernel⟩
theorem sc_Reader_take_row : FnScope ["self", "depth", "word", "row"] ["self", "depth"] (defScope s_Reader_take_row) := ⟨rfl, rfl, rfl, by decide +kernel, rfl, by decide +kernel, by decide +kernel⟩
theorem sc_Reader_take_form : FnScope ["self", "head", "depth", "subject"] ["self", "head", "depth"] (defScope s_Reader_take_form) := ⟨rfl, rfl, rfl, by decide +kernel, rfl, by decide +kernel, by decide +kernel⟩
theorem sc_Reader_take_steady : FnScope ["self", "parts", "depth", "found", "part"] ["self", "parts", "depth"] (defScope s_Reader_take_steady) := ⟨rfl, rfl, rfl, by decide +kernel, rfl, by decide +kernel, by decide +kernel⟩
theorem sc_Reader_take_fields : FnScope ["self", "depth", "found"] ["self", "depth"] (defScope s_Reader_take_fields) := ⟨rfl, rfl, rfl, by decide +kernel, rfl, by decide +kernel, by decide +kernel⟩
theorem sc_Reader_take_arms : FnScope ["self", "depth", "found"] ["self", "depth"] (defScope s_Reader_take_arms) := ⟨rfl, rfl, rfl, by decide +kernel, rfl, by decide +kernel, by decide +kernel⟩
theorem sc_Reader_take_things : FnScope ["self", "depth", "found"] ["self", "depth"] (defScope s_Reader_take_things) := ⟨rfl, rfl, rfl, by decide +kernel, rfl, by decide +kernel, by decide +kernel⟩
noncomputable def sp_law (K : PySem.W.Frag) : Sp := fun vs H Q _ => ∃ (a : Addr) (ns : List Int), vs = [.ref a] ∧ SqL K H a (ns.map V.int) ∧ ns.length ≤ 63 ∧ ∀ H', Q (.bl true) H'
end K05.Internal
namespace K05.Internal
open PySem L2.Internal GR.Internal
section
variable {P : Program} {w : World} {K : PySem.W.Frag} {mg : Str → Option Value} {base : Heap}
noncomputable def sp_words_of : Sp := fun vs H Q _ => ∃ x : Str, vs = [.str x] ∧ x.length ≤ 30000 ∧ ∀ (p : Addr) (H' : Hp), Same H H' → H p = none → H' p = some (.lst (wordsV x.cps.toList)) → Q (.ref p) H'
noncomputable abbrev r1 (x : Str) : Str := Txt.replace x "(" " ( "
noncomputable abbrev r2 (x : Str) : Str := Txt.replace (r1 x) ")" " ) "
noncomputable abbrev r3 (x : Str) : Str := Txt.replace (r2 x) "\n" " "
theorem c1 (x : Str) : (r1 x).cps.toList = T1.sub 40 [32, 40, 32] x.cps.toList := T1.replace_codes x " ( " 40
theorem c2 (x : Str) : (r2 x).cps.toList = T1.sub 41 [32, 41, 32] (T1.sub 40 [32, 40, 32] x.cps.toList) := by
  rw [← c1]
  exact T1.replace_codes (r1 x) " ) " 41
theorem c3 (x : Str) : (r3 x).cps.toList = T1.spaced x.cps.toList := by
  rw [← T1.spaced_sub, ← c2]
  exact T1.replace_codes (r2 x) " " 10
theorem sub_len (c : Nat) (z : List Nat) (n : Nat) (h1 : 1 ≤ n) (h : z.length ≤ n) (l : List Nat) : (T1.sub c z l).length ≤ n * l.length := T1.flat_len _ n (fun k => by split; exact h; exact h1) l
theorem l1 (x : Str) : (r1 x).length ≤ 3 * x.length := by
  rw [← T1.len_codes, ← T1.len_codes, c1]
  exact sub_len _ _ 3 (by decide) (by decide) _
theorem l2 (x : Str) : (r2 x).length ≤ 9 * x.length := by
  have h := l1 x
  have e : (r2 x).length ≤ 3 * (r1 x).length := by
    rw [← T1.len_codes, ← T1.len_codes, c2, c1]
    exact sub_len _ _ 3 (by decide) (by decide) _
  omega
theorem l3 (x : Str) : (r3 x).length ≤ 9 * x.length := by
  have h := l2 x
  have e : (r3 x).length ≤ 1 * (r2 x).length := by
    rw [← T1.len_codes, ← T1.len_codes]
    have e3 : (r3 x).cps.toList = T1.sub 10 [32] (r2 x).cps.toList := T1.replace_codes (r2 x) " " 10
    rw [e3]
    exact sub_len _ _ 1 (by decide) (by decide) _
  omega
noncomputable def ne0 : V → Bool := fun v => !decide (v = V.str "")
theorem words_split (x : Str) : (((Txt.split (r3 x) " ").map V.str).filter ne0).map id = wordsV x.cps.toList := by
  have e := T1.split_codes (r3 x) 32
  rw [c3] at e
  have e2 : T1.all (T1.W x.cps.toList) = ((Txt.split (r3 x) ⟨#[32]⟩).map (·.cps.toList)).filter fun p => decide (p ≠ []) := by
    rw [e, T1.words_cut]
    rfl
  unfold wordsV
  rw [e2, List.map_id, List.filter_map, List.filter_map, List.map_map]
  show ((Txt.split (r3 x) ⟨#[32]⟩).filter (ne0 ∘ V.str)).map V.str = _
  have ef : (ne0 ∘ V.str) = ((fun p => decide (p ≠ [])) ∘ fun (y : Str) => y.cps.toList) := by
    funext y
    show (!decide (V.str y = V.str "")) = decide (y.cps.toList ≠ [])
    by_cases h : y = ("" : Str)
    · subst h
      rfl
    · have h1 : ¬ V.str y = V.str "" := fun z => h (by injection z)
      have h2 : y.cps.toList ≠ [] := fun z => h (T1.str_ext z)
      rw [decide_eq_false h1, decide_eq_true h2]
      rfl
  rw [ef]
  refine List.map_congr_left fun y _ => ?_
  show V.str y = V.str ⟨y.cps.toList.toArray⟩
  rw [Array.toArray_toList]
theorem ok_words_of (T : Txt K mg) : FnOk P w K mg base CX0 1 T.a_words_of T.fd_words_of ["text"] sp_words_of := by
  obtain ⟨oc, od, kV, doc, pm, an, cdv, ct, osl, efd, lk, hcd⟩ := T.F_words_of.ex
  rw [efd] at lk ⊢
  refine fn_of1 lk hcd sc_words_of (by decide +kernel) (fun n => rfl) (fun vs H Q E h => ?_) (fun A outer s H vs Q E hr h => ?_)
  · obtain ⟨x, rfl, _⟩ := h
    rfl
  obtain ⟨x, rfl, hx, q⟩ := h
  refine ⟨_, PSs1.nox (pss1_set (i := 1) sc_words_of.nd rfl (Or.inl rfl) (pe1_repl (pe1_repl (pe1_repl (PE.one (pv 0)) (by decide +kernel)) (by decide +kernel)) (by decide +kernel))
    (pss_one (ps_ret (pe_lc rfl (blk0 (x := "word") rfl (by decide +kernel) (by decide +kernel) rfl rfl) (pi_list (pe_bm PySem.F.plainAttrs_str PySem.F.slot_str_split PySem.F.type_str_split mt_split (pv 1) (pa_cons pe_str pa_nil))) (fun _ _ _ _ _ => (pts_one (pt_cmpR op_ne (pv 0) pe_str (nomark _)))) (fun _ _ _ _ _ => (pv 0)))))), ?_⟩
  have h1 := l1 x
  have h2 := l2 x
  have h3 := l3 x
  have z3 : (" ( " : Str).length = 3 := by decide +kernel
  have z3' : (" ) " : Str).length = 3 := by decide +kernel
  have z1 : (" " : Str).length = 1 := by decide +kernel
  refine ⟨_, rfl, x, rfl, (by rw [z3]; omega), r1 x, rfl, (by rw [z3']; omega), r2 x, rfl, (by rw [z1]; omega), ?_⟩
  refine ⟨_, rfl, rfl, r3 x, " ", rfl, rfl, rfl, (by have e : sizeLine = 16777216 := sizeLine_eq; omega), fun p hp => ⟨p, rfl, ⟨_, SqL.of upd_same⟩, fun D hD => ?_⟩⟩
  have sp : Same H (upd H p (.lst ((Txt.split (r3 x) " ").map V.str))) := same_new hp _
  have hl := split_short (r3 x) " "
  refine lc_of (xs := (Txt.split (r3 x) " ").map V.str) ne0 id hD ?_ ?_ ?_ ?_ ?_ ?_ ?_ ?_
  · rw [List.length_map]
    have e : sizeLine = 16777216 := sizeLine_eq
    omega
  · rfl
  · intro k H' hs hk
    exact ⟨_, _, SqL.of (hs _ _ upd_same), List.getElem?_eq_getElem hk⟩
  · intro k H' v H'' hs hv
    obtain ⟨e, z⟩ := hv
    exact ⟨e, z _ (SqL.of (hs _ _ upd_same))⟩
  · intro H' hs
    exact ⟨_, SqL.of (hs _ _ upd_same), Nat.le_refl _⟩
  · intro k v H' R hv _ r
    obtain ⟨y, rfl⟩ : ∃ y, v = V.str y := by
      rw [List.getElem?_map] at hv
      obtain ⟨y, _, e⟩ := Option.map_eq_some_iff.mp hv
      exact ⟨y, e.symm⟩
    exact ⟨_, rfl, rfl, _, rfl, r⟩
  · intro k v H' R hv _ _ r
    exact ⟨_, rfl, r⟩
  · intro H' hs hl'
    refine q D H' (sp.trans hs) (sp.free hD) ?_
    rw [hl', words_split]

end
section
variable {P : Program} {w : World} {K : PySem.W.Frag} {mg : Str → Option Value} {base : Heap}
noncomputable def sp_made_of : Sp := fun vs H Q _ => ∃ x y : Str, vs = [.str x, .str y] ∧ x.length ≤ 30000 ∧ ∀ H', Same H H' → Q (.bl (allIn x y)) H'
theorem ok_made_of (T : Txt K mg) : FnOk P w K mg base CX0 1 T.a_made_of T.fd_made_of ["word", "signs"] sp_made_of := by
  refine T.F_made_of.ok sc_made_of (fun vs H Q E h => ?_) (fun cdv A outer s H vs Q E hr h => ?_)
  · obtain ⟨x, y, rfl, _⟩ := h
    rfl
  obtain ⟨x, y, rfl, hx, q⟩ := h
  refine ⟨_, (pss_one (ps_ret (pe_callB (call_all rfl) rfl T.z_all bt_all (pa_cons (pe_lc rfl (blk1 (x := "sign") (y := "signs") (j := 1) (c0 := s.heap.objs.size + 1) rfl (by decide +kernel) (by decide +kernel) rfl rfl rfl rfl rfl rfl rfl) (pi_str (pv 0)) (fun _ _ _ _ _ => pts_nil) (fun _ _ _ _ _ => (pe_cmpR op_in_str (pv 0) (pv 1) rfl))) pa_nil)))), ?_⟩
  refine ⟨_, rfl, x, rfl, fun D hD => ?_⟩
  have sl : sizeLine = 16777216 := sizeLine_eq
  have ll := T1.len_codes x
  have sz' : x.cps.size = x.cps.toList.length := (Array.length_toList).symm
  refine lc_of (xs := x.cps.toList.map fun c => V.str ⟨#[c]⟩) (fun _ => true) (fun v => match v with | .str z => .bl (!(Builtin.Str.occurrences y z 0 y.length 1).isEmpty) | _ => .non) hD ?_ ?_ ?_ ?_ ?_ ?_ ?_ ?_
  · rw [List.length_map]
    omega
  · rfl
  · intro k H' hs hk
    rw [List.length_map] at hk
    show k < x.cps.size
    omega
  · intro k H' v H'' hs hv
    obtain ⟨e, c, hc, rfl⟩ := hv
    refine ⟨e, ?_⟩
    rw [List.getElem?_map, Array.getElem?_toList, hc]
    rfl
  · intro H' hs
    show _ = x.cps.size
    rw [List.length_map]
    omega
  · intro k v H' R hv _ r
    exact r
  · intro k v H' R hv _ _ r
    rw [List.getElem?_map] at hv
    obtain ⟨c, _, rfl⟩ := Option.map_eq_some_iff.mp hv
    exact ⟨_, rfl, _, rfl, _, _, rfl, rfl, r⟩
  · intro H' hs hl
    refine ⟨D, x.cps.toList.map fun c => decide (c ∈ y.cps.toList), rfl, SqL.of ?_, ?_⟩
    · rw [hl, List.filter_eq_self.mpr (fun _ _ => rfl), List.map_map, List.map_map]
      refine congrArg (fun l => some (HO.lst l)) (List.map_congr_left fun c _ => ?_)
      show V.bl _ = V.bl _
      rw [StrLaws.found_one]
    · have e : (x.cps.toList.map fun c => decide (c ∈ y.cps.toList)).all id = allIn x y := by
        rw [List.all_map]
        rfl
      rw [e]
      exact q H' hs
noncomputable def sp_is_name : Sp := fun vs H Q _ => ∃ x : Str, vs = [.str x] ∧ x.length ≤ 30000 ∧ ∀ H', Same H H' → Q (.bl (isName x)) H'
theorem ok_is_name (T : Txt K mg) (G_made_of : FnOk P w K mg base CX0 1 T.a_made_of T.fd_made_of ["word", "signs"] sp_made_of) : FnOk P w K mg base CX0 2 T.a_is_name T.fd_is_name ["word"] sp_is_name := by
  refine T.F_is_name.ok sc_is_name (fun vs H Q E h => ?_) (fun cdv A outer s H vs Q E hr h => ?_)
  · obtain ⟨x, rfl, _⟩ := h
    rfl
  obtain ⟨x, rfl, hx, q⟩ := h
  refine ⟨_, (pss_cons (ps_if (PW.pt (pw_or (pt_not (pt_chain op_le op_le pe_int (pe_callB call_len_str rfl T.z_len bt_len (pa_cons (pv 0) pa_nil)) (pe_gI rfl T.m_MOST_SIGNS))) (pw_or1 (pt_cmpR op_in_seq (pv 0) (pe_gR rfl T.m_KEPT_WORDS) rfl))))
      (pss_one (ps_ret pe_bl))
      pss_nil)
    (pss_one (ps_ret (pe_and (pe_cmpR op_in_str (pe_ix ix_str (pv 0) pe_int (fun _ _ => rfl)) (pe_gS rfl T.m_LETTERS) rfl) (pe_one (pe_call G_made_of (hr.mono (by decide)) rfl T.m_made_of T.k_made_of T.b_made_of .nil pass0 (pa_cons (pv 0) (pa_cons (pe_op op_add_str (pe_gS rfl T.m_LETTERS) (pe_gS rfl T.m_FIGURES)) pa_nil)))))))), ?_⟩
  have sl : sizeLine = 16777216 := sizeLine_eq
  refine ⟨_, rfl, x, rfl, by omega, _, _, rfl, rfl, _, rfl, ?_⟩
  refine ite2 (fun c1 => ?_) (fun c1 => ?_)
  · have h1 : 1 ≤ x.length := by
      have z := of_decide_eq_true c1
      omega
    refine ⟨_, _, rfl, rfl, _, rfl, ?_⟩
    by_cases c2 : x.length ≤ 12
    · rw [show decide ((x.length : Int) ≤ 12) = true from decide_eq_true (by omega)]
      refine iteF ⟨_, rfl, T.a_KEPT_WORDS, KWV, rfl, .inr (T.q_KEPT_WORDS H), rfl, rfl, _, rfl, ?_⟩
      show if inV (.str x) KWV = true then _ else _
      cases ek : inV (.str x) KWV with
      | true =>
        refine iteT ?_
        have e : isName x = false := by unfold isName; rw [ek]; simp
        rw [← e]
        exact q H (Same.refl H)
      | false =>
        refine iteF ?_
        obtain ⟨c, r, ec⟩ := first_of h1
        refine ⟨_, rfl, x, _, c, rfl, rfl, by omega, by rw [ec]; exact at0, _, _, rfl, rfl, _, rfl, ?_⟩
        have ef : (!(Builtin.Str.occurrences ("abcdefghijklmnopqrstuvwxyz" : Str) ⟨#[c]⟩ 0 ("abcdefghijklmnopqrstuvwxyz" : Str).length 1).isEmpty) = firstIn x SM := by
          rw [StrLaws.found_one]
          unfold firstIn
          rw [ec]
          rfl
        rw [ef]
        cases e1 : firstIn x SM with
        | false =>
          refine iteF ?_
          have e : isName x = false := by unfold isName; rw [e1]; simp
          rw [← e]
          exact q H (Same.refl H)
        | true =>
          refine iteT ⟨_, rfl, _, _, rfl, rfl, ?_, _, _, rfl, ?_, fun H' hs => ?_⟩
          · exact Nat.le_trans (show (26 : Nat) + 10 ≤ 100 by decide) (sz (Nat.le_refl _) |> Nat.le_trans (by decide))
          · omega
          · have e : isName x = allIn x (SM ++ FG) := by
              unfold isName
              rw [e1, ek, decide_eq_true h1, decide_eq_true c2]
              rfl
            have q' := q H' hs
            rw [e] at q'
            exact q'
    · rw [show decide ((x.length : Int) ≤ 12) = false from decide_eq_false (by omega)]
      refine iteT ?_
      have e : isName x = false := by unfold isName; rw [decide_eq_false c2]; simp
      show if true = true then _ else _
      refine iteT ?_
      rw [← e]
      exact q H (Same.refl H)
  · have h1 : ¬ 1 ≤ x.length := by
      intro z
      exact c1 (decide_eq_true (by omega))
    refine ⟨_, rfl, iteT ?_⟩
    show if true = true then _ else _
    refine iteT ?_
    have e : isName x = false := by unfold isName; rw [decide_eq_false h1]; simp
    rw [← e]
    exact q H (Same.refl H)
end
section
variable {P : Program} {w : World} {K : PySem.W.Frag} {mg : Str → Option Value} {base : Heap}
noncomputable def sp_is_number : Sp := fun vs H Q _ => ∃ x : Str, vs = [.str x] ∧ x.length ≤ 30000 ∧ ∀ H', Same H H' → Q (.bl (isNum x)) H'
theorem ok_is_number (T : Txt K mg) (G_made_of : FnOk P w K mg base CX0 1 T.a_made_of T.fd_made_of ["word", "signs"] sp_made_of) : FnOk P w K mg base CX0 2 T.a_is_number T.fd_is_number ["word"] sp_is_number := by
  refine T.F_is_number.ok sc_is_number (fun vs H Q E h => ?_) (fun cdv A outer s H vs Q E hr h => ?_)
  · obtain ⟨x, rfl, _⟩ := h
    rfl
  obtain ⟨x, rfl, hx, q⟩ := h
  refine ⟨_, (pss_cons (ps_if (PW.pt (pw_or (pt_not (pt_chain op_le op_le pe_int (pe_callB call_len_str rfl T.z_len bt_len (pa_cons (pv 0) pa_nil)) (pe_gI rfl T.m_MOST_FIGURES))) (pw_or1 (pt_not (pt_val (pe_call G_made_of (hr.mono (by decide)) rfl T.m_made_of T.k_made_of T.b_made_of .nil pass0 (pa_cons (pv 0) (pa_cons (pe_gS rfl T.m_FIGURES) pa_nil))))))))
      (pss_one (ps_ret pe_bl))
      pss_nil)
    (pss_one (ps_ret (pe_or (pe_cmpR op_ne (pe_ix ix_str (pv 0) pe_int (fun _ _ => rfl)) pe_str (nomark _)) (pe_one (pe_cmpR op_eq (pv 0) pe_str (nomark _))))))), ?_⟩
  have sl : sizeLine = 16777216 := sizeLine_eq
  refine ⟨_, rfl, x, rfl, by omega, _, _, rfl, rfl, _, rfl, ?_⟩
  refine ite2 (fun c1 => ?_) (fun c1 => ?_)
  · have h1 : 1 ≤ x.length := by
      have z := of_decide_eq_true c1
      omega
    refine ⟨_, _, rfl, rfl, _, rfl, ?_⟩
    by_cases c2 : x.length ≤ 60
    · rw [show decide ((x.length : Int) ≤ 60) = true from decide_eq_true (by omega)]
      refine iteF ⟨_, rfl, x, _, rfl, hx, fun H' hs => ⟨_, rfl, ?_⟩⟩
      show if (!allIn x FG) = true then _ else _
      cases e1 : allIn x FG with
      | false =>
        refine iteT ?_
        have e : isNum x = false := by unfold isNum; rw [e1]; simp
        rw [← e]
        exact q H' hs
      | true =>
        refine iteF ?_
        obtain ⟨c, r, ec⟩ := first_of h1
        refine ⟨_, rfl, x, _, c, rfl, rfl, by omega, by rw [ec]; exact at0, rfl, _, rfl, ?_⟩
        have ef : first0 x = (c == 48) := by unfold first0; rw [ec]
        rw [one_eq0, ← ef]
        cases e2 : first0 x with
        | false =>
          refine iteT ?_
          have e : isNum x = true := by
            unfold isNum
            rw [e1, e2, decide_eq_true h1, decide_eq_true c2]
            rfl
          rw [← e]
          exact q H' hs
        | true =>
          refine iteF ⟨_, rfl, rfl, ?_⟩
          have e : isNum x = decide (V.str x = V.str "0") := by
            unfold isNum
            rw [e1, e2, decide_eq_true h1, decide_eq_true c2]
            by_cases h0 : x = "0"
            · subst h0
              rfl
            · have h1 : ¬ V.str x = V.str "0" := fun z => h0 (by injection z)
              rw [decide_eq_false h0, decide_eq_false h1]
              rfl
          rw [← e]
          exact q H' hs
    · rw [show decide ((x.length : Int) ≤ 60) = false from decide_eq_false (by omega)]
      refine iteT ?_
      have e : isNum x = false := by unfold isNum; rw [decide_eq_false c2]; simp
      show if true = true then _ else _
      refine iteT ?_
      rw [← e]
      exact q H (Same.refl H)
  · have h1 : ¬ 1 ≤ x.length := by
      intro z
      exact c1 (decide_eq_true (by omega))
    refine ⟨_, rfl, iteT ?_⟩
    show if true = true then _ else _
    refine iteT ?_
    have e : isNum x = false := by unfold isNum; rw [decide_eq_false h1]; simp
    rw [← e]
    exact q H (Same.refl H)
end
section
variable {P : Program} {w : World} {K : PySem.W.Frag} {mg : Str → Option Value} {base : Heap}
noncomputable def sp_Reader___init__ (C : Addr) : Sp := fun vs H Q _ => ∃ (p dx wl : Addr) (ws : List Str), vs = [.ref p, .ref wl] ∧ H p = some (.ins C dx []) ∧ H wl = some (.lst (ws.map V.str)) ∧ ∀ (rl : Addr) (H' : Hp), H rl = none → RdAt C H' p dx wl rl ws 0 [] → (∀ b o, H b = some o → b ≠ p → H' b = some o) → Q .non H'
theorem ok_Reader___init__ (T : Txt K mg) : FnOk P w K mg base CX0 1 T.a_Reader___init__ T.fd_Reader___init__ ["self", "words"] (sp_Reader___init__ T.a_Reader) := by
  refine T.F_Reader___init__.ok sc_Reader___init__ (fun vs H Q E h => ?_) (fun cdv A outer s H vs Q E hr h => ?_)
  · obtain ⟨p, dx, wl, ws, rfl, _⟩ := h
    rfl
  obtain ⟨p, dx, wl, ws, rfl, hp, hw, k⟩ := h
  refine ⟨_, (pss_cons (ps_fld (pv 0) (pv 1) rfl)
    (pss_cons (ps_fld (pv 0) pe_int rfl)
    (pss_one (ps_fld (pv 0) (pe_lst pa_nil) rfl)))), ?_⟩
  have pw : wl ≠ p := ne_of hw hp (fun z => nomatch z)
  refine ⟨_, rfl, _, rfl, p, T.a_Reader, dx, [], rfl, hp, T.cl_Reader, T.n_Reader_words, (by show 0 < 1000; decide), ?_⟩
  refine ⟨_, rfl, p, T.a_Reader, dx, _, rfl, upd_same, T.cl_Reader, T.n_Reader_taken, (by show 1 < 1000; decide), ?_⟩
  refine ⟨(by show 0 ≤ sizeLine; decide), fun rl hrl => ?_⟩
  have nrl : p ≠ rl := ne_of_none upd_same hrl
  rw [upd_ne (Ne.symm nrl), upd_ne (Ne.symm nrl)] at hrl
  refine ⟨_, rfl, p, T.a_Reader, dx, _, rfl, by rw [upd_ne nrl]; exact upd_same, T.cl_Reader, T.n_Reader_rows, (by show 2 < 1000; decide), ?_⟩
  have wrl : wl ≠ rl := ne_of_none hw hrl
  refine k rl _ hrl ⟨?_, ?_, ?_, wrl⟩ fun b o e hb => ?_
  · rw [upd_same]
    exact congrArg (fun l => some (HO.ins T.a_Reader dx l)) (fR_mk wl 0 rl)
  · rw [upd_ne pw, upd_ne wrl, upd_ne pw, upd_ne pw]
    exact hw
  · rw [upd_ne (Ne.symm nrl)]
    exact upd_same
  · rw [upd_ne hb, upd_ne (ne_of_none e hrl), upd_ne hb, upd_ne hb]
    exact e
noncomputable def sp_Reader_ahead (C : Addr) : Sp := fun vs H Q _ => ∃ (p dx wl rl : Addr) (ws : List Str) (k : Nat) (rows : List V), vs = [.ref p] ∧ RdAt C H p dx wl rl ws k rows ∧ WOk ws ∧ k ≤ ws.length ∧ Q (.str (ws.getD k "")) H
theorem ok_Reader_ahead (T : Txt K mg) : FnOk P w K mg base CX0 1 T.a_Reader_ahead T.fd_Reader_ahead ["self"] (sp_Reader_ahead T.a_Reader) := by
  refine T.F_Reader_ahead.ok sc_Reader_ahead (fun vs H Q E h => ?_) (fun cdv A outer s H vs Q E hr h => ?_)
  · obtain ⟨p, dx, wl, rl, ws, k, rows, rfl, _⟩ := h
    rfl
  obtain ⟨p, dx, wl, rl, ws, k, rows, rfl, R, W, hk, q⟩ := h
  refine ⟨_, (pss_cons (ps_if (pt_cmpR op_eq (pe_fld (pv 0) rfl) (pe_callB call_len_seq rfl T.z_len bt_len (pa_cons (pe_fld (pv 0) rfl) pa_nil)) (nomark _))
      (pss_one (ps_ret pe_str))
      pss_nil)
    (pss_one (ps_ret (pe_ix ix_list (pe_fld (pv 0) rfl) (pe_fld (pv 0) rfl) (fun _ _ => rfl))))), ?_⟩
  refine ⟨_, rfl, p, _, dx, _, _, rfl, R.ob, T.cl_Reader, T.n_Reader_taken, fR_taken _ _ _, _, rfl, p, _, dx, _, _, rfl, R.ob, T.cl_Reader, T.n_Reader_words, fR_words _ _ _, wl, _, rfl, .inl (SqL.of R.wd), rfl, _, rfl, ite2 (fun c => ?_) (fun c => ?_)⟩
  · have z := of_decide_eq_true c
    injection z with z
    rw [List.length_map] at z
    have e : ws.getD k "" = "" := by
      rw [List.getD_eq_getElem?_getD, List.getElem?_eq_none (by omega)]
      rfl
    rw [e] at q
    exact q
  · have hlt : k < ws.length := by
      by_cases z : k < ws.length
      · exact z
      · refine absurd (decide_eq_true ?_) c
        rw [List.length_map]
        exact congrArg V.int (by omega)
    have e : ws.getD k "" = ws[k] := by
      rw [List.getD_eq_getElem?_getD, List.getElem?_eq_getElem hlt]
      rfl
    rw [e] at q
    refine ⟨_, rfl, p, _, dx, _, _, rfl, R.ob, T.cl_Reader, T.n_Reader_words, fR_words _ _ _, _, rfl, p, _, dx, _, _, rfl, R.ob, T.cl_Reader, T.n_Reader_taken, fR_taken _ _ _, wl, _, _, _, rfl, rfl, SqL.of R.wd, atI_nat (j := k) (v := .str ws[k]) ?_, q⟩
    rw [List.getElem?_map, List.getElem?_eq_getElem hlt]
    rfl
noncomputable def sp_Reader_take (C CB : Addr) : Sp := fun vs H Q E => ∃ (p dx wl rl : Addr) (ws : List Str) (k : Nat) (rows : List V), vs = [.ref p] ∧ RdAt C H p dx wl rl ws k rows ∧ WOk ws ∧ k ≤ ws.length ∧
  (∀ x, ws[k]? = some x → Q (.str x) (upd H p (.ins C dx (fR wl ((k + 1 : Nat) : Int) rl)))) ∧ (ws[k]? = none → E (.ref CB) none H)
theorem ok_Reader_take (T : Txt K mg) (G_Reader_ahead : FnOk P w K mg base CX0 1 T.a_Reader_ahead T.fd_Reader_ahead ["self"] (sp_Reader_ahead T.a_Reader)) : FnOk P w K mg base (CXE P w) 2 T.a_Reader_take T.fd_Reader_take ["self"] (sp_Reader_take T.a_Reader T.a_BadText) := by
  refine T.F_Reader_take.okE sc_Reader_take (fun vs H Q E h => ?_) (fun cdv A outer s H vs Q E hr h => ?_)
  · obtain ⟨p, dx, wl, rl, ws, k, rows, rfl, _⟩ := h
    rfl
  obtain ⟨p, dx, wl, rl, ws, k, rows, rfl, R, W, hk, q, qe⟩ := h
  refine ⟨_, (pss_cons (ps_set (i := 1) sc_Reader_take.nd rfl (Or.inl rfl) (pe_meth0 (pv 0) T.cl_Reader T.me_Reader_ahead G_Reader_ahead (hr.mono (by decide)) T.b_Reader_ahead .nil pass0))
    (pss_cons (ps_if (pt_cmpR op_eq (pv 1) pe_str (nomark _))
      (pss_one (ps_raise rfl leavesE T.x_BadText rfl T.m_BadText (pa_cons pe_str pa_nil)))
      pss_nil)
    (pss_cons (ps_fldaug (pv 0) pe_int in_add)
    (pss_one (ps_ret (pv 1)))))), ?_⟩
  refine ⟨_, rfl, p, dx, _, rfl, R.ob, fR_no _ _ _ (by decide +kernel) (by decide +kernel) (by decide +kernel), p, dx, wl, rl, ws, k, rows, rfl, R, W, hk, ?_⟩
  refine ⟨_, rfl, rfl, _, rfl, ite2 (fun c => ?_) (fun c => ?_)⟩
  · refine ⟨(by show 1 ≤ sizeLine; decide), qe ?_⟩
    cases e : ws[k]? with
    | none => rfl
    | some x =>
      have z := of_decide_eq_true c
      injection z with z
      rw [List.getD_eq_getElem?_getD, e] at z
      exact absurd z (W.one x (List.mem_of_getElem? e)).1
  · cases e : ws[k]? with
    | none =>
      refine absurd (decide_eq_true (congrArg V.str ?_)) c
      rw [List.getD_eq_getElem?_getD, e]
      rfl
    | some x =>
      have ex : ws.getD k "" = x := by rw [List.getD_eq_getElem?_getD, e]; rfl
      rw [ex]
      refine ⟨_, rfl, p, _, dx, _, _, rfl, R.ob, T.cl_Reader, T.n_Reader_taken, fR_taken _ _ _, _, _, rfl, rfl, dx, _, R.ob, (by show 3 < 1000; decide), _, rfl, ?_⟩
      have q' := q x e
      rw [← fR_put wl (k : Int) _ rl] at q'
      exact q'
noncomputable def sp_Reader_pass_over (C CB : Addr) : Sp := fun vs H Q E => ∃ (p dx wl rl : Addr) (ws : List Str) (k : Nat) (rows : List V) (y : Str), vs = [.ref p, .str y] ∧ RdAt C H p dx wl rl ws k rows ∧ WOk ws ∧ k ≤ ws.length ∧ (reprText y).length ≤ 300002 ∧
  (ws[k]? = some y → Q .non (upd H p (.ins C dx (fR wl ((k + 1 : Nat) : Int) rl)))) ∧ (ws[k]? = none → E (.ref CB) none H) ∧ (∀ x, ws[k]? = some x → x ≠ y → E (.ref CB) none (upd H p (.ins C dx (fR wl ((k + 1 : Nat) : Int) rl))))
theorem ok_Reader_pass_over (T : Txt K mg) (G_Reader_take : FnOk P w K mg base (CXE P w) 2 T.a_Reader_take T.fd_Reader_take ["self"] (sp_Reader_take T.a_Reader T.a_BadText)) : FnOk P w K mg base (CXE P w) 3 T.a_Reader_pass_over T.fd_Reader_pass_over ["self", "wanted"] (sp_Reader_pass_over T.a_Reader T.a_BadText) := by
  refine T.F_Reader_pass_over.okE sc_Reader_pass_over (fun vs H Q E h => ?_) (fun cdv A outer s H vs Q E hr h => ?_)
  · obtain ⟨p, dx, wl, rl, ws, k, rows, y, rfl, _⟩ := h
    rfl
  obtain ⟨p, dx, wl, rl, ws, k, rows, y, rfl, R, W, hk, hy, q, qe, qx⟩ := h
  refine ⟨_, (pss_cons (ps_set (i := 2) sc_Reader_pass_over.nd rfl (Or.inl rfl) (pe_meth0 (pv 0) T.cl_Reader T.me_Reader_take G_Reader_take (hr.mono (by decide)) T.b_Reader_take .nil passE))
    (pss_one (ps_if (pt_cmpR op_ne (pv 2) (pv 1) (nomark _))
      (pss_one (ps_raise rfl leavesE T.x_BadText rfl T.m_BadText (pa_cons (pe_join (pj_cons (pe_fvr (pv 2)) (pj_cons pe_str (pj_cons (pe_fvr (pv 1)) (pj_cons pe_str pj_nil))))) pa_nil)))
      pss_nil))), ?_⟩
  have sl : sizeLine = 16777216 := sizeLine_eq
  refine ⟨_, rfl, p, dx, _, rfl, R.ob, fR_no _ _ _ (by decide +kernel) (by decide +kernel) (by decide +kernel), p, dx, wl, rl, ws, k, rows, rfl, R, W, hk, fun x hx => ?_, qe⟩
  refine ⟨_, rfl, _, rfl, rfl, _, rfl, ?_⟩
  by_cases e : x = y
  · subst e
    exact iteNS rfl (q hx)
  · have ne : ¬ V.str x = V.str y := fun z => e (by injection z)
    rw [decide_eq_false ne]
    have hr := repr_fits W (List.mem_of_getElem? hx)
    refine iteT ⟨_, rfl, x, rfl, by omega, _, rfl, ?_, _, rfl, ?_, _, rfl, y, rfl, by omega, _, rfl, ?_, _, rfl, ?_, ?_, (by show 1 ≤ sizeLine; decide), qx x hx e⟩
    · exact cat1 hr
    · exact cat2 hr (by decide +kernel)
    · exact cat3 hr (by decide +kernel) hy
    · exact cat4 hr (by decide +kernel) hy (by decide +kernel)
    · exact cat4 hr (by decide +kernel) hy (by decide +kernel)
noncomputable def sp_Reader_take_name (C CB : Addr) : Sp := fun vs H Q E => ∃ (p dx wl rl : Addr) (ws : List Str) (k : Nat) (rows : List V), vs = [.ref p] ∧ RdAt C H p dx wl rl ws k rows ∧ WOk ws ∧ k ≤ ws.length ∧
  (∀ x H', ws[k]? = some x → isName x = true → Same (upd H p (.ins C dx (fR wl ((k + 1 : Nat) : Int) rl))) H' → Q (.str x) H') ∧ (ws[k]? = none → E (.ref CB) none H) ∧
  (∀ x H', ws[k]? = some x → isName x = false → Same (upd H p (.ins C dx (fR wl ((k + 1 : Nat) : Int) rl))) H' → E (.ref CB) none H')
theorem ok_Reader_take_name (T : Txt K mg) (G_Reader_take : FnOk P w K mg base (CXE P w) 2 T.a_Reader_take T.fd_Reader_take ["self"] (sp_Reader_take T.a_Reader T.a_BadText)) (G_is_name : FnOk P w K mg base CX0 2 T.a_is_name T.fd_is_name ["word"] sp_is_name) :
    FnOk P w K mg base (CXE P w) 3 T.a_Reader_take_name T.fd_Reader_take_name ["self"] (sp_Reader_take_name T.a_Reader T.a_BadText) := by
  refine T.F_Reader_take_name.okE sc_Reader_take_name (fun vs H Q E h => ?_) (fun cdv A outer s H vs Q E hr h => ?_)
  · obtain ⟨p, dx, wl, rl, ws, k, rows, rfl, _⟩ := h
    rfl
  obtain ⟨p, dx, wl, rl, ws, k, rows, rfl, R, W, hk, q, qe, qx⟩ := h
  refine ⟨_, (pss_cons (ps_set (i := 1) sc_Reader_take_name.nd rfl (Or.inl rfl) (pe_meth0 (pv 0) T.cl_Reader T.me_Reader_take G_Reader_take (hr.mono (by decide)) T.b_Reader_take .nil passE))
    (pss_cons (ps_if (pt_not (pt_val (pe_call G_is_name (hr.mono (by decide)) rfl T.m_is_name T.k_is_name T.b_is_name .nil pass0 (pa_cons (pv 1) pa_nil))))
      (pss_one (ps_raise rfl leavesE T.x_BadText rfl T.m_BadText (pa_cons (pe_join (pj_cons (pe_fvr (pv 1)) (pj_cons pe_str pj_nil))) pa_nil)))
      pss_nil)
    (pss_one (ps_ret (pv 1))))), ?_⟩
  have sl : sizeLine = 16777216 := sizeLine_eq
  refine ⟨_, rfl, p, dx, _, rfl, R.ob, fR_no _ _ _ (by decide +kernel) (by decide +kernel) (by decide +kernel), p, dx, wl, rl, ws, k, rows, rfl, R, W, hk, fun x hx => ?_, qe⟩
  have hm := List.mem_of_getElem? hx
  refine ⟨_, rfl, x, rfl, (W.one x hm).2.1, fun H' hs => ⟨_, rfl, ?_⟩⟩
  cases e : isName x with
  | true => exact iteF ⟨_, rfl, q x H' hx e hs⟩
  | false =>
    have hr := repr_fits W hm
    refine iteT ⟨_, rfl, x, rfl, by omega, _, rfl, ?_, _, rfl, ?_, ?_, (by show 1 ≤ sizeLine; decide), qx x H' hx e hs⟩
    · exact cat1 hr
    · exact cat2 hr (by decide +kernel)
    · exact cat2 hr (by decide +kernel)
end
section
variable {P : Program} {w : World} {K : PySem.W.Frag} {mg : Str → Option Value} {base : Heap}
section
variable {C CB p dx wl rl : Addr} {H : Hp} {ws rest : List Str} {rows : List Dt} {Q : VK} {E : XK}
theorem ah_ok (R : RS K C H p dx wl rl ws rest rows) (W : WOk ws) (q : Q (.str (rest.headD "")) H) : sp_Reader_ahead C [.ref p] H Q E := by
  obtain ⟨k, rv, R, h1, h2, h3⟩ := R
  refine ⟨p, dx, wl, rl, ws, k, rv, rfl, R, W, h2, ?_⟩
  have e : ws.getD k "" = rest.headD "" := by
    rw [← h1, List.getD_eq_getElem?_getD, List.headD_eq_head?_getD, List.head?_drop]
  rw [e]
  exact q
theorem RS.step1 {k : Nat} {rv : List V} {x : Str} {r : List Str} {H' : Hp} (R : RdAt C H p dx wl rl ws k rv) (h1 : ws.drop k = x :: r) (h3 : TAts K H rv rows) (s : Same (upd H p (.ins C dx (fR wl ((k + 1 : Nat) : Int) rl))) H') : RS K C H' p dx wl rl ws r rows ∧ K2 p rl H H' := by
  obtain ⟨e1, e2, e3⟩ := drop_cons h1
  have kk : K2 p rl H H' := (K2.upd1 (K2.refl p rl H) _).trans (Same.k2 s)
  exact ⟨⟨k + 1, rv, (R.next (k + 1)).same s, e2, by omega, h3.mono fun a xs t => RdAt.tpT R kk t⟩, kk⟩
theorem tk_ok (R : RS K C H p dx wl rl ws rest rows) (W : WOk ws) (q : ∀ x r H', rest = x :: r → RS K C H' p dx wl rl ws r rows → K2 p rl H H' → Q (.str x) H') (qe : rest = [] → E (.ref CB) none H) : sp_Reader_take C CB [.ref p] H Q E := by
  obtain ⟨k, rv, R, h1, h2, h3⟩ := R
  refine ⟨p, dx, wl, rl, ws, k, rv, rfl, R, W, h2, fun x hx => ?_, fun hx => ?_⟩
  · cases e : rest with
    | nil =>
      rw [e] at h1
      rw [drop_nil h1] at hx
      cases hx
    | cons y r =>
      rw [e] at h1
      have ey : y = x := Option.some.inj ((drop_cons h1).1.symm.trans hx)
      subst ey
      obtain ⟨a, b⟩ := RS.step1 R h1 h3 (Same.refl _)
      exact q y r _ e a b
  · cases e : rest with
    | nil => exact qe e
    | cons y r =>
      rw [e] at h1
      rw [(drop_cons h1).1] at hx
      cases hx
theorem ps_ok {y : Str} (R : RS K C H p dx wl rl ws rest rows) (W : WOk ws) (hy : (reprText y).length ≤ 300002) (q : ∀ r H', rest = y :: r → RS K C H' p dx wl rl ws r rows → K2 p rl H H' → Q .non H') (qe : rest.head? ≠ some y → ∀ H', K2 p rl H H' → E (.ref CB) none H') : sp_Reader_pass_over C CB [.ref p, .str y] H Q E := by
  obtain ⟨k, rv, R, h1, h2, h3⟩ := R
  refine ⟨p, dx, wl, rl, ws, k, rv, y, rfl, R, W, h2, hy, fun hx => ?_, fun hx => ?_, fun x hx ne => ?_⟩
  · cases e : rest with
    | nil =>
      rw [e] at h1
      rw [drop_nil h1] at hx
      cases hx
    | cons z r =>
      rw [e] at h1
      have ey : z = y := Option.some.inj ((drop_cons h1).1.symm.trans hx)
      subst ey
      obtain ⟨a, b⟩ := RS.step1 R h1 h3 (Same.refl _)
      exact q r _ e a b
  · refine qe (fun z => ?_) H (K2.refl _ _ _)
    rw [← h1, List.head?_drop, hx] at z
    cases z
  · refine qe (fun z => ?_) _ (K2.upd1 (K2.refl _ _ _) _)
    rw [← h1, List.head?_drop, hx] at z
    exact ne (Option.some.inj z)
theorem nm_ok (R : RS K C H p dx wl rl ws rest rows) (W : WOk ws) (q : ∀ x r H', rest = x :: r → isName x = true → RS K C H' p dx wl rl ws r rows → K2 p rl H H' → Q (.str x) H') (qe : (∀ x r, rest = x :: r → isName x = false) → ∀ H', K2 p rl H H' → E (.ref CB) none H') : sp_Reader_take_name C CB [.ref p] H Q E := by
  obtain ⟨k, rv, R, h1, h2, h3⟩ := R
  refine ⟨p, dx, wl, rl, ws, k, rv, rfl, R, W, h2, fun x H' hx hn s => ?_, fun hx => ?_, fun x H' hx hn s => ?_⟩
  · cases e : rest with
    | nil =>
      rw [e] at h1
      rw [drop_nil h1] at hx
      cases hx
    | cons z r =>
      rw [e] at h1
      have ey : z = x := Option.some.inj ((drop_cons h1).1.symm.trans hx)
      subst ey
      obtain ⟨a, b⟩ := RS.step1 R h1 h3 s
      exact q z r _ e hn a b
  · refine qe (fun x r e => ?_) H (K2.refl _ _ _)
    rw [e] at h1
    rw [(drop_cons h1).1] at hx
    cases hx
  · refine qe (fun y r e => ?_) H' ((K2.upd1 (K2.refl _ _ _) _).trans (Same.k2 s))
    rw [e] at h1
    have ey : y = x := Option.some.inj ((drop_cons h1).1.symm.trans hx)
    rw [ey]
    exact hn
end
noncomputable def sp_check_count (CB : Addr) : Sp := fun vs H Q E => ∃ (x : Str) (n a b : Nat), vs = [.str x, .int n, .int a, .int b] ∧ x.length ≤ 100 ∧ n ≤ 100000 ∧ a ≤ 100 ∧ b ≤ 100 ∧ (a ≤ n ∧ n ≤ b → Q .non H) ∧ (¬ (a ≤ n ∧ n ≤ b) → E (.ref CB) none H)
theorem num_text {n : Nat} (h : n ≤ 100000) : (n : Int).natAbs.log2 < 1920 ∧ (PySem.Str.ofString (toString (n : Int))).length ≤ 6 := by
  have s70 : (100000 : Int) < 10 ^ 70 := by decide +kernel
  refine ⟨log_ok (by omega) (by omega), ?_⟩
  have z := (str_fig (n := (n : Int)) (k := 5) (by omega) (by
    have e : (10 : Int) ^ (5 + 1) = 1000000 := by decide +kernel
    rw [e]
    omega)).2.2
  exact z
theorem ok_check_count (T : Txt K mg) : FnOk P w K mg base (CXE P w) 1 T.a_check_count T.fd_check_count ["what", "count", "least", "most"] (sp_check_count T.a_BadText) := by
  refine T.F_check_count.okE sc_check_count (fun vs H Q E h => ?_) (fun cdv A outer s H vs Q E hr h => ?_)
  · obtain ⟨x, n, a, b, rfl, _⟩ := h
    rfl
  obtain ⟨x, n, a, b, rfl, hx, hn, ha, hb, q, qe⟩ := h
  refine ⟨_, (pss_one (ps_if (pt_not (pt_chain op_le op_le (pv 2) (pv 1) (pv 3)))
      (pss_one (ps_raise rfl leavesE T.x_BadText rfl T.m_BadText (pa_cons (pe_join (pj_cons (pe_fv (pv 1)) (pj_cons pe_str (pj_cons (pe_fv (pv 0)) (pj_cons pe_str (pj_cons (pe_fv (pv 2)) (pj_cons pe_str (pj_cons (pe_fv (pv 3)) (pj_cons pe_str pj_nil))))))))) pa_nil)))
      pss_nil)), ?_⟩
  have sl : sizeLine = 16777216 := sizeLine_eq
  have nn := num_text hn
  have na := num_text (show a ≤ 100000 by omega)
  have nb := num_text (show b ≤ 100000 by omega)
  have fail : ¬ (a ≤ n ∧ n ≤ b) → tRaise T.a_BadText E (tCons ((tJ (tFV (tVar 1)) (tJ (tC (V.str " ")) (tJ (tFV (tVar 0)) (tJ (tC (V.str ": ")) (tJ (tFV (tVar 2)) (tJ (tC (V.str " to ")) (tJ (tFV (tVar 3)) (tJ (tC (V.str " may be")) tJ0)))))))) Str.empty) tNil) { nx := fun _ H' => Q .non H', rt := Q } [some (.str x), some (.int n), some (.int a), some (.int b)] H := fun hz => by
    refine ⟨_, rfl, .inr ⟨_, rfl, nn.1, _, rfl, ?_, _, rfl, ?_, _, rfl, .inl ⟨x, rfl, by omega, _, rfl, ?_, _, rfl, ?_, _, rfl, .inr ⟨_, rfl, na.1, _, rfl, ?_, _, rfl, ?_, _, rfl, .inr ⟨_, rfl, nb.1, _, rfl, ?_, _, rfl, ?_, ?_, (by show 1 ≤ sizeLine; decide), qe hz⟩⟩⟩⟩⟩
    all_goals
      simp only [Str.length_append]
      have e0 : Str.empty.length = 0 := rfl
      have e1 : (" " : Str).length = 1 := by decide +kernel
      have e2 : (": " : Str).length = 2 := by decide +kernel
      have e3 : (" to " : Str).length = 4 := by decide +kernel
      have e4 : (" may be" : Str).length = 7 := by decide +kernel
      omega
  refine ⟨_, rfl, _, rfl, _, _, rfl, rfl, _, rfl, ?_⟩
  by_cases h1 : a ≤ n
  · rw [show decide ((a : Int) ≤ (n : Int)) = true from decide_eq_true (by omega)]
    refine iteT ⟨_, rfl, _, _, rfl, rfl, _, rfl, ?_⟩
    by_cases h2 : n ≤ b
    · rw [show decide ((n : Int) ≤ (b : Int)) = true from decide_eq_true (by omega)]
      exact iteF (q ⟨h1, h2⟩)
    · rw [show decide ((n : Int) ≤ (b : Int)) = false from decide_eq_false (by omega)]
      exact iteT (fail fun z => h2 z.2)
  · rw [show decide ((a : Int) ≤ (n : Int)) = false from decide_eq_false (by omega)]
    exact iteF ⟨_, rfl, iteT (fail fun z => h1 z.1)⟩
noncomputable def sp_E (K : PySem.W.Frag) (C CB : Addr) (f : Nat) : Sp := fun vs H Q E => ∃ (p dx wl rl : Addr) (ws rest : List Str) (rows : List Dt), vs = [.ref p, .int (25 - (f : Int))] ∧ RS K C H p dx wl rl ws rest rows ∧ WOk ws ∧ rows.length ≤ 160 ∧
  (∀ r rows' H', exprA f rest rows = some (r, rows') → RS K C H' p dx wl rl ws r rows' → K2 p rl H H' → Q (.int (rows.length : Int)) H') ∧ (exprA f rest rows = none → ∀ H', K2 p rl H H' → E (.ref CB) none H')
noncomputable def pV (b : Bool) : V := if b then .str "name" else .str "expr"
noncomputable def sp_S (K : PySem.W.Frag) (C CB : Addr) (f : Nat) : Sp := fun vs H Q E => ∃ (p dx wl rl pt : Addr) (ws rest : List Str) (rows : List Dt) (ps : List Bool), vs = [.ref p, .ref pt, .int (25 - (f : Int))] ∧ RS K C H p dx wl rl ws rest rows ∧ WOk ws ∧ rows.length ≤ 160 ∧ SqT K H pt (ps.map pV) ∧ ps.length ≤ 3 ∧
  (∀ ds r rows' t H', steadyA (exprA f) ps [] rest rows = some (ds, r, rows') → RS K C H' p dx wl rl ws r rows' → K2 p rl H H' → TAt K H' (.ref t) (.tup ds) → Q (.ref t) H') ∧ (steadyA (exprA f) ps [] rest rows = none → ∀ H', K2 p rl H H' → E (.ref CB) none H')
noncomputable def sp_M (K : PySem.W.Frag) (C CB : Addr) (f : Nat) (item : List Str → List Dt → Option (Dt × Rs)) (lo hi : Nat) : Sp := fun vs H Q E => ∃ (p dx wl rl : Addr) (ws rest : List Str) (rows : List Dt), vs = [.ref p, .int (25 - (f : Int))] ∧ RS K C H p dx wl rl ws rest rows ∧ WOk ws ∧ rows.length ≤ 160 ∧
  (∀ l r rows' t H', chk lo hi (manyA item rest rows []) = some (l, r, rows') → RS K C H' p dx wl rl ws r rows' → K2 p rl H H' → TAt K H' (.ref t) (.tup l) → Q (.ref t) H') ∧ (chk lo hi (manyA item rest rows []) = none → ∀ H', K2 p rl H H' → E (.ref CB) none H')
end
end K05.Internal
namespace K05.Internal
open PySem L2.Internal GR.Internal
section
variable {P : Program} {w : World} {K : PySem.W.Frag} {mg : Str → Option Value} {base : Heap}
theorem ok_steady (T : Txt K mg) (f : Nat)
    (G_Reader_take_name : FnOk P w K mg base (CXE P w) 3 T.a_Reader_take_name T.fd_Reader_take_name ["self"] (sp_Reader_take_name T.a_Reader T.a_BadText))
    (G_Reader_take_expr : FnOk P w K mg base (CXE P w) (5 * f + 5) T.a_Reader_take_expr T.fd_Reader_take_expr ["self", "depth"] (sp_E K T.a_Reader T.a_BadText f)) :
    FnOk P w K mg base (CXE P w) (5 * f + 6) T.a_Reader_take_steady T.fd_Reader_take_steady ["self", "parts", "depth"] (sp_S K T.a_Reader T.a_BadText f) := by
  refine T.F_Reader_take_steady.okE sc_Reader_take_steady (fun vs H Q E h => ?_) (fun cdv A outer s H vs Q E hr h => ?_)
  · obtain ⟨p, dx, wl, rl, pt, ws, rest, rows, ps, rfl, _⟩ := h
    rfl
  obtain ⟨p, dx, wl, rl, pt, ws, rest, rows, ps, rfl, R, W, hrows, hpt, hps, q, qe⟩ := h
  refine ⟨_, (pss_cons (ps_set (i := 3) sc_Reader_take_steady.nd rfl (Or.inl rfl) (pe_lst pa_nil))
    (pss_cons (ps_for PassesOwn.leaving rfl (pi_tup (pv 1)) (pg_name (i := 4) sc_Reader_take_steady.nd rfl (Or.inl rfl))
      (pss_one (ps_if (pt_cmpR op_eq (pv 4) pe_str (nomark _))
        (pss_one (ps_expr (pe_bm PySem.F.plainAttrs_list PySem.F.slot_list_append PySem.F.type_list_append mt_append (pv 3) (pa_cons (pe_meth0 (pv 0) T.cl_Reader T.me_Reader_take_name G_Reader_take_name (hr.mono (by omega)) T.b_Reader_take_name .nil passE) pa_nil))))
        (pss_one (ps_expr (pe_bm PySem.F.plainAttrs_list PySem.F.slot_list_append PySem.F.type_list_append mt_append (pv 3) (pa_cons (pe_meth (pv 0) T.cl_Reader T.me_Reader_take_expr G_Reader_take_expr (hr.mono (by omega)) T.b_Reader_take_expr .nil passE (pa_cons (pv 2) pa_nil)) pa_nil)))))))
    (pss_one (ps_ret (pe_callTy call_tuple_of rfl T.z_tuple bt_tuple (pa_cons (pv 3) pa_nil)))))), ?_⟩
  have sl : sizeLine = 16777216 := sizeLine_eq
  refine ⟨(by show 0 ≤ sizeLine; decide), fun fl hfl => ?_⟩
  have ep := expr_good f
  have R0 := R.same (same_new hfl (.lst []))
  have fp : fl ≠ p := by
    obtain ⟨k, hk⟩ := R.ob
    exact Ne.symm (ne_of_none hk hfl)
  have frl : fl ≠ rl := by
    obtain ⟨rv, hk, _⟩ := R.len
    exact Ne.symm (ne_of_none hk hfl)
  have fwl : fl ≠ wl := by
    obtain ⟨k, rv, R', _⟩ := R
    exact Ne.symm (ne_of_none R'.wd hfl)
  have hpt0 : SqT K (upd H fl (.lst [])) pt (ps.map pV) := by
    rcases hpt with t | t
    · refine .inl ?_
      rcases t with t | ⟨o', t⟩
      · exact .inl (by rw [upd_ne (ne_of_none t hfl)]; exact t)
      · exact .inr ⟨o', by rw [upd_ne (ne_of_none t hfl)]; exact t⟩
    · exact .inr t
  refine ⟨_, rfl, pt, rfl, ⟨_, hpt0⟩, for_tup (K := K) (a := pt) (xs := ps.map pV) (fun i σ H2 => ∃ (o : Option V) (acc : List Dt) (fv : List V) (rest2 : List Str) (rows2 : List Dt),
      σ = [some (.ref p), some (.ref pt), some (.int (25 - (f : Int))), some (.ref fl), o] ∧ SqT K H2 pt (ps.map pV) ∧ RS K T.a_Reader H2 p dx wl rl ws rest2 rows2 ∧ K2 p rl H H2 ∧ H2 fl = some (.lst fv) ∧ TAts K H2 fv acc ∧ acc.length = i ∧ rows2.length ≤ 160 ∧
      steadyA (exprA f) ps [] rest rows = steadyA (exprA f) (ps.drop i) acc rest2 rows2)
    ⟨none, [], [], rest, rows, rfl, hpt0, R0, Same.k2 (same_new hfl _), upd_same, .nil, rfl, hrows, rfl⟩ (fun i σ H2 _ ⟨_, _, _, _, _, _, z, _⟩ => z) ?_ ?_⟩
  · rintro i y σ H2 hi ⟨o, acc, fv, rest2, rows2, rfl, hpt2, R2, k2, hfl2, tf, hacc, hr2, heq⟩
    rw [List.getElem?_map] at hi
    obtain ⟨b, hb, rfl⟩ := Option.map_eq_some_iff.mp hi
    have hlt : i < ps.length := (List.getElem?_eq_some_iff.mp hb).1
    have ed : ps.drop i = b :: ps.drop (i + 1) := by
      rw [List.drop_eq_getElem_cons hlt]
      rw [(List.getElem?_eq_some_iff.mp hb).2]
    rw [ed] at heq
    have lf : fv.length < sizeLine := by rw [tf.length]; omega
    cases b with
    | true =>
      refine ⟨_, rfl, rfl, _, rfl, ?_⟩
      rw [show decide (pV true = V.str "name") = true by decide +kernel]
      obtain ⟨k', hk⟩ := R2.ob
      refine iteT ⟨_, rfl, .inl ⟨rfl, _, SqL.of hfl2⟩, _, rfl, p, dx, _, rfl, hk, fR_meth _ _ _ _ (by simp), ?_⟩
      refine tn0 ?_
      refine nm_ok R2 W (fun x r H3 e hn R3 k3 => ?_) (fun hno H3 k3 => ?_)
      · have h3 : H3 fl = some (.lst fv) := k3 _ _ hfl2 fp frl
        refine ⟨fl, fv, _, rfl, rfl, h3, lf, _, acc ++ [.flat (.str x)], fv ++ [.str x], r, rows2, rfl, sqT_other h3 (R2.sqt k3 hpt2), R3.other h3 fp fwl frl, k2_new hfl (k2.trans k3), upd_same, ((R2.tats k3 tf).snoc (.flat rfl)).other h3, (by rw [List.length_append, hacc]; rfl), hr2, ?_⟩
        rw [heq, e, steadyA, if_pos hn]
      · refine qe ?_ H3 (k2.trans k3)
        rw [heq]
        cases rest2 with
        | nil => rw [steadyA]
        | cons x r => rw [steadyA, if_neg (by rw [hno x r rfl]; exact Bool.false_ne_true)]
    | false =>
      refine ⟨_, rfl, rfl, _, rfl, ?_⟩
      rw [show decide (pV false = V.str "name") = false by decide +kernel]
      obtain ⟨k', hk⟩ := R2.ob
      refine iteF ⟨_, rfl, .inl ⟨rfl, _, SqL.of hfl2⟩, _, rfl, p, dx, _, rfl, hk, fR_meth _ _ _ _ (by simp), _, rfl, p, dx, wl, rl, ws, rest2, rows2, rfl, R2, W, hr2, fun r rows' H3 e R3 k3 => ?_, fun e H3 k3 => ?_⟩
      · have h3 : H3 fl = some (.lst fv) := k3 _ _ hfl2 fp frl
        refine ⟨fl, fv, _, rfl, rfl, h3, lf, _, acc ++ [.flat (.int (rows2.length : Int))], fv ++ [.int (rows2.length : Int)], r, rows', rfl, sqT_other h3 (R2.sqt k3 hpt2), R3.other h3 fp fwl frl, k2_new hfl (k2.trans k3), upd_same, ((R2.tats k3 tf).snoc (.flat rfl)).other h3, (by rw [List.length_append, hacc]; rfl), (ep _ _ _ e).1.most hr2, ?_⟩
        rw [heq, steadyA, e]
      · refine qe ?_ H3 (k2.trans k3)
        rw [heq, steadyA, e]
  · rintro σ H2 ⟨o, acc, fv, rest2, rows2, rfl, hpt2, R2, k2, hfl2, tf, hacc, hr2, heq⟩
    rw [List.length_map, List.drop_length, steadyA] at heq
    refine ⟨_, rfl, fl, fv, rfl, .inl ⟨SqL.of hfl2, fun t ht => ?_⟩⟩
    have s := same_new ht (.tup fv)
    exact q acc rest2 rows2 t _ heq (R2.same s) (k2.trans (Same.k2 s)) (.tup upd_same (R2.tats (Same.k2 s) tf))
end
end K05.Internal
namespace K05.Internal
open PySem L2.Internal GR.Internal
section
variable {P : Program} {w : World} {K : PySem.W.Frag} {mg : Str → Option Value} {base : Heap}
theorem ok_fields (T : Txt K mg) (f : Nat)
    (G_Reader_ahead : FnOk P w K mg base CX0 1 T.a_Reader_ahead T.fd_Reader_ahead ["self"] (sp_Reader_ahead T.a_Reader))
    (G_Reader_take_steady : FnOk P w K mg base (CXE P w) (5 * f + 6) T.a_Reader_take_steady T.fd_Reader_take_steady ["self", "parts", "depth"] (sp_S K T.a_Reader T.a_BadText f))
    (G_check_count : FnOk P w K mg base (CXE P w) 1 T.a_check_count T.fd_check_count ["what", "count", "least", "most"] (sp_check_count T.a_BadText)) :
    FnOk P w K mg base (CXE P w) (5 * f + 7) T.a_Reader_take_fields T.fd_Reader_take_fields ["self", "depth"] (sp_M K T.a_Reader T.a_BadText f (itemS (exprA f) [true, false]) 0 6) := by
  refine T.F_Reader_take_fields.okE sc_Reader_take_fields (fun vs H Q E h => ?_) (fun cdv A outer s H vs Q E hr h => ?_)
  · obtain ⟨p, dx, wl, rl, ws, rest, rows, rfl, _⟩ := h
    rfl
  obtain ⟨p, dx, wl, rl, ws, rest, rows, rfl, R, W, hrows, q, qe⟩ := h
  refine ⟨_, (pss_cons (ps_set (i := 2) sc_Reader_take_fields.nd rfl (Or.inl rfl) (pe_lst pa_nil))
    (pss_cons (ps_while PassesOwn.leaving (pt_cmpR op_ne (pe_meth0 (pv 0) T.cl_Reader T.me_Reader_ahead G_Reader_ahead (hr.mono (by omega)) T.b_Reader_ahead .nil pass0) pe_str (nomark _))
      (pss_one (ps_expr (pe_bm PySem.F.plainAttrs_list PySem.F.slot_list_append PySem.F.type_list_append mt_append (pv 2) (pa_cons (pe_meth (pv 0) T.cl_Reader T.me_Reader_take_steady G_Reader_take_steady (hr.mono (by omega)) T.b_Reader_take_steady .nil passE (pa_cons (pe_tup (pa_cons pe_str (pa_cons pe_str pa_nil))) (pa_cons (pv 1) pa_nil))) pa_nil)))))
    (pss_cons (ps_expr (pe_call G_check_count (hr.mono (by omega)) rfl T.m_check_count T.k_check_count T.b_check_count .nil passE (pa_cons pe_str (pa_cons (pe_callB call_len_seq rfl T.z_len bt_len (pa_cons (pv 2) pa_nil)) (pa_cons pe_int (pa_cons (pe_gI rfl T.m_MOST_FIELDS) pa_nil))))))
    (pss_one (ps_ret (pe_callTy call_tuple_of rfl T.z_tuple bt_tuple (pa_cons (pv 2) pa_nil))))))), ?_⟩
  have sl : sizeLine = 16777216 := sizeLine_eq
  refine ⟨(by show 0 ≤ sizeLine; decide), fun fl hfl => ?_⟩
  have ep := expr_good f
  have gi : GoodI (itemS (exprA f) [true, false]) := itemS_good ep _ (by simp)
  have R0 := R.same (same_new hfl (.lst []))
  obtain ⟨fp, frl, fwl⟩ := R.apart hfl
  have hs0 := R.short
  have hs1 := W.len
  refine ⟨fun m σ H2 => ∃ (acc : List Dt) (fv : List V) (rest2 : List Str) (rows2 : List Dt), m = rest2.length ∧ σ = [some (.ref p), some (.int (25 - (f : Int))), some (.ref fl)] ∧ RS K T.a_Reader H2 p dx wl rl ws rest2 rows2 ∧ K2 p rl H H2 ∧ H2 fl = some (.lst fv) ∧ TAts K H2 fv acc ∧ acc.length + rest2.length ≤ 30000 ∧ rows2.length ≤ 160 ∧
      manyA (itemS (exprA f) [true, false]) rest rows [] = manyA (itemS (exprA f) [true, false]) rest2 rows2 acc,
    ⟨_, [], [], rest, rows, rfl, rfl, R0, Same.k2 (same_new hfl _), upd_same, .nil, (by show 0 + _ ≤ _; omega), hrows, rfl⟩, ?_⟩
  rintro m σ H2 ⟨acc, fv, rest2, rows2, rfl, rfl, R2, k2, hfl2, tf, hlen, hr2, heq⟩
  have tl := tf.length
  have lf : fv.length < sizeLine := by omega
  obtain ⟨k', hk⟩ := R2.ob
  refine ⟨_, rfl, p, dx, _, rfl, hk, fR_meth _ _ _ _ (.inl rfl), ?_⟩
  refine tn0 ?_
  refine ah_ok R2 W ?_
  refine ⟨rfl, _, rfl, ?_⟩
  by_cases hh : rest2.head? = some ")"
  · have e1 : rest2.headD "" = ")" := by rw [List.headD_eq_head?_getD, hh]; rfl
    rw [e1, show (decide (V.str ")" = V.str ")")) = true by decide +kernel]
    refine iteF ?_
    rw [many_end _ _ _ hh] at heq
    refine ⟨_, rfl, fl, fv, rfl, .inl (SqL.of hfl2), "fields", fv.length, 0, 6, rfl, by decide +kernel, by omega, by decide, by decide, fun hc => ?_, fun hc => ?_⟩
    · refine ⟨_, rfl, fl, fv, rfl, .inl ⟨SqL.of hfl2, fun t ht => ?_⟩⟩
      have s := same_new ht (.tup fv)
      refine q acc rest2 rows2 t _ ?_ (R2.same s) (k2.trans (Same.k2 s)) (.tup upd_same (R2.tats (Same.k2 s) tf))
      rw [heq, chk, if_pos (by rw [← tl]; exact hc)]
    · refine qe ?_ H2 k2
      rw [heq, chk, if_neg (by rw [← tl]; exact hc)]
  · have e1 : ¬ V.str (rest2.headD "") = V.str ")" := fun z => by
      injection z with z
      cases rest2 with
      | nil => exact absurd z (by decide +kernel)
      | cons a r => exact hh (congrArg some z)
    rw [decide_eq_false e1]
    have hm := many_eq gi rest2 rows2 acc hh
    refine iteT ⟨_, fun σ' H' z => z, ?_⟩
    refine ⟨_, rfl, .inl ⟨rfl, _, SqL.of hfl2⟩, _, rfl, p, dx, _, rfl, hk, fR_meth _ _ _ _ (by simp), (by show 2 ≤ sizeLine; decide), fun pt hpt => ?_⟩
    have s3 := same_new hpt (.tup [.str "name", .str "expr"])
    have R3 := R2.same s3
    refine ⟨_, rfl, p, dx, wl, rl, pt, ws, rest2, rows2, [true, false], rfl, R3, W, hr2, .inl (.inl upd_same), by decide, fun ds r rows' t H4 e R4 k4 ht => ?_, fun e H4 k4 => ?_⟩
    · have h4 : H4 fl = some (.lst fv) := k4 _ _ (s3 _ _ hfl2) fp frl
      have ei : (itemS (exprA f) [true, false]) rest2 rows2 = some (.tup ds, r, rows') := by rw [itemS, e]
      obtain ⟨st, lt⟩ := gi _ _ _ _ ei
      refine ⟨fl, fv, _, rfl, rfl, h4, lf, r.length, lt, acc ++ [.tup ds], fv ++ [.ref t], r, rows', rfl, rfl, R4.other h4 fp fwl frl, k2_new hfl (k2.trans ((Same.k2 s3).trans k4)), upd_same, ((R2.tats ((Same.k2 s3).trans k4) tf).snoc ht).other h4, (by rw [List.length_append]; have lt' : r.length < rest2.length := lt; show acc.length + 1 + _ ≤ _; omega), st.most hr2, ?_⟩
      rw [heq, hm, ei]
    · refine qe ?_ H4 (k2.trans ((Same.k2 s3).trans k4))
      rw [heq, hm, show (itemS (exprA f) [true, false]) rest2 rows2 = none by rw [itemS, e]]
      rfl
theorem ok_arms (T : Txt K mg) (f : Nat)
    (G_Reader_ahead : FnOk P w K mg base CX0 1 T.a_Reader_ahead T.fd_Reader_ahead ["self"] (sp_Reader_ahead T.a_Reader))
    (G_Reader_take_steady : FnOk P w K mg base (CXE P w) (5 * f + 6) T.a_Reader_take_steady T.fd_Reader_take_steady ["self", "parts", "depth"] (sp_S K T.a_Reader T.a_BadText f))
    (G_check_count : FnOk P w K mg base (CXE P w) 1 T.a_check_count T.fd_check_count ["what", "count", "least", "most"] (sp_check_count T.a_BadText)) :
    FnOk P w K mg base (CXE P w) (5 * f + 7) T.a_Reader_take_arms T.fd_Reader_take_arms ["self", "depth"] (sp_M K T.a_Reader T.a_BadText f (itemS (exprA f) [true, true, false]) 1 6) := by
  refine T.F_Reader_take_arms.okE sc_Reader_take_arms (fun vs H Q E h => ?_) (fun cdv A outer s H vs Q E hr h => ?_)
  · obtain ⟨p, dx, wl, rl, ws, rest, rows, rfl, _⟩ := h
    rfl
  obtain ⟨p, dx, wl, rl, ws, rest, rows, rfl, R, W, hrows, q, qe⟩ := h
  refine ⟨_, (pss_cons (ps_set (i := 2) sc_Reader_take_arms.nd rfl (Or.inl rfl) (pe_lst pa_nil))
    (pss_cons (ps_while PassesOwn.leaving (pt_cmpR op_ne (pe_meth0 (pv 0) T.cl_Reader T.me_Reader_ahead G_Reader_ahead (hr.mono (by omega)) T.b_Reader_ahead .nil pass0) pe_str (nomark _))
      (pss_one (ps_expr (pe_bm PySem.F.plainAttrs_list PySem.F.slot_list_append PySem.F.type_list_append mt_append (pv 2) (pa_cons (pe_meth (pv 0) T.cl_Reader T.me_Reader_take_steady G_Reader_take_steady (hr.mono (by omega)) T.b_Reader_take_steady .nil passE (pa_cons (pe_tup (pa_cons pe_str (pa_cons pe_str (pa_cons pe_str pa_nil)))) (pa_cons (pv 1) pa_nil))) pa_nil)))))
    (pss_cons (ps_expr (pe_call G_check_count (hr.mono (by omega)) rfl T.m_check_count T.k_check_count T.b_check_count .nil passE (pa_cons pe_str (pa_cons (pe_callB call_len_seq rfl T.z_len bt_len (pa_cons (pv 2) pa_nil)) (pa_cons pe_int (pa_cons (pe_gI rfl T.m_MOST_ARMS) pa_nil))))))
    (pss_one (ps_ret (pe_callTy call_tuple_of rfl T.z_tuple bt_tuple (pa_cons (pv 2) pa_nil))))))), ?_⟩
  have sl : sizeLine = 16777216 := sizeLine_eq
  refine ⟨(by show 0 ≤ sizeLine; decide), fun fl hfl => ?_⟩
  have ep := expr_good f
  have gi : GoodI (itemS (exprA f) [true, true, false]) := itemS_good ep _ (by simp)
  have R0 := R.same (same_new hfl (.lst []))
  obtain ⟨fp, frl, fwl⟩ := R.apart hfl
  have hs0 := R.short
  have hs1 := W.len
  refine ⟨fun m σ H2 => ∃ (acc : List Dt) (fv : List V) (rest2 : List Str) (rows2 : List Dt), m = rest2.length ∧ σ = [some (.ref p), some (.int (25 - (f : Int))), some (.ref fl)] ∧ RS K T.a_Reader H2 p dx wl rl ws rest2 rows2 ∧ K2 p rl H H2 ∧ H2 fl = some (.lst fv) ∧ TAts K H2 fv acc ∧ acc.length + rest2.length ≤ 30000 ∧ rows2.length ≤ 160 ∧
      manyA (itemS (exprA f) [true, true, false]) rest rows [] = manyA (itemS (exprA f) [true, true, false]) rest2 rows2 acc,
    ⟨_, [], [], rest, rows, rfl, rfl, R0, Same.k2 (same_new hfl _), upd_same, .nil, (by show 0 + _ ≤ _; omega), hrows, rfl⟩, ?_⟩
  rintro m σ H2 ⟨acc, fv, rest2, rows2, rfl, rfl, R2, k2, hfl2, tf, hlen, hr2, heq⟩
  have tl := tf.length
  have lf : fv.length < sizeLine := by omega
  obtain ⟨k', hk⟩ := R2.ob
  refine ⟨_, rfl, p, dx, _, rfl, hk, fR_meth _ _ _ _ (.inl rfl), ?_⟩
  refine tn0 ?_
  refine ah_ok R2 W ?_
  refine ⟨rfl, _, rfl, ?_⟩
  by_cases hh : rest2.head? = some ")"
  · have e1 : rest2.headD "" = ")" := by rw [List.headD_eq_head?_getD, hh]; rfl
    rw [e1, show (decide (V.str ")" = V.str ")")) = true by decide +kernel]
    refine iteF ?_
    rw [many_end _ _ _ hh] at heq
    refine ⟨_, rfl, fl, fv, rfl, .inl (SqL.of hfl2), "arms", fv.length, 1, 6, rfl, by decide +kernel, by omega, by decide, by decide, fun hc => ?_, fun hc => ?_⟩
    · refine ⟨_, rfl, fl, fv, rfl, .inl ⟨SqL.of hfl2, fun t ht => ?_⟩⟩
      have s := same_new ht (.tup fv)
      refine q acc rest2 rows2 t _ ?_ (R2.same s) (k2.trans (Same.k2 s)) (.tup upd_same (R2.tats (Same.k2 s) tf))
      rw [heq, chk, if_pos (by rw [← tl]; exact hc)]
    · refine qe ?_ H2 k2
      rw [heq, chk, if_neg (by rw [← tl]; exact hc)]
  · have e1 : ¬ V.str (rest2.headD "") = V.str ")" := fun z => by
      injection z with z
      cases rest2 with
      | nil => exact absurd z (by decide +kernel)
      | cons a r => exact hh (congrArg some z)
    rw [decide_eq_false e1]
    have hm := many_eq gi rest2 rows2 acc hh
    refine iteT ⟨_, fun σ' H' z => z, ?_⟩
    refine ⟨_, rfl, .inl ⟨rfl, _, SqL.of hfl2⟩, _, rfl, p, dx, _, rfl, hk, fR_meth _ _ _ _ (by simp), (by show 3 ≤ sizeLine; decide), fun pt hpt => ?_⟩
    have s3 := same_new hpt (.tup [.str "name", .str "name", .str "expr"])
    have R3 := R2.same s3
    refine ⟨_, rfl, p, dx, wl, rl, pt, ws, rest2, rows2, [true, true, false], rfl, R3, W, hr2, .inl (.inl upd_same), by decide, fun ds r rows' t H4 e R4 k4 ht => ?_, fun e H4 k4 => ?_⟩
    · have h4 : H4 fl = some (.lst fv) := k4 _ _ (s3 _ _ hfl2) fp frl
      have ei : (itemS (exprA f) [true, true, false]) rest2 rows2 = some (.tup ds, r, rows') := by rw [itemS, e]
      obtain ⟨st, lt⟩ := gi _ _ _ _ ei
      refine ⟨fl, fv, _, rfl, rfl, h4, lf, r.length, lt, acc ++ [.tup ds], fv ++ [.ref t], r, rows', rfl, rfl, R4.other h4 fp fwl frl, k2_new hfl (k2.trans ((Same.k2 s3).trans k4)), upd_same, ((R2.tats ((Same.k2 s3).trans k4) tf).snoc ht).other h4, (by rw [List.length_append]; have lt' : r.length < rest2.length := lt; show acc.length + 1 + _ ≤ _; omega), st.most hr2, ?_⟩
      rw [heq, hm, ei]
    · refine qe ?_ H4 (k2.trans ((Same.k2 s3).trans k4))
      rw [heq, hm, show (itemS (exprA f) [true, true, false]) rest2 rows2 = none by rw [itemS, e]]
      rfl
theorem ok_things (T : Txt K mg) (f : Nat)
    (G_Reader_ahead : FnOk P w K mg base CX0 1 T.a_Reader_ahead T.fd_Reader_ahead ["self"] (sp_Reader_ahead T.a_Reader))
    (G_Reader_take_expr : FnOk P w K mg base (CXE P w) (5 * f + 5) T.a_Reader_take_expr T.fd_Reader_take_expr ["self", "depth"] (sp_E K T.a_Reader T.a_BadText f))
    (G_check_count : FnOk P w K mg base (CXE P w) 1 T.a_check_count T.fd_check_count ["what", "count", "least", "most"] (sp_check_count T.a_BadText)) :
    FnOk P w K mg base (CXE P w) (5 * f + 7) T.a_Reader_take_things T.fd_Reader_take_things ["self", "depth"] (sp_M K T.a_Reader T.a_BadText f (itemE (exprA f)) 0 8) := by
  refine T.F_Reader_take_things.okE sc_Reader_take_things (fun vs H Q E h => ?_) (fun cdv A outer s H vs Q E hr h => ?_)
  · obtain ⟨p, dx, wl, rl, ws, rest, rows, rfl, _⟩ := h
    rfl
  obtain ⟨p, dx, wl, rl, ws, rest, rows, rfl, R, W, hrows, q, qe⟩ := h
  refine ⟨_, (pss_cons (ps_set (i := 2) sc_Reader_take_things.nd rfl (Or.inl rfl) (pe_lst pa_nil))
    (pss_cons (ps_while PassesOwn.leaving (pt_cmpR op_ne (pe_meth0 (pv 0) T.cl_Reader T.me_Reader_ahead G_Reader_ahead (hr.mono (by omega)) T.b_Reader_ahead .nil pass0) pe_str (nomark _))
      (pss_one (ps_expr (pe_bm PySem.F.plainAttrs_list PySem.F.slot_list_append PySem.F.type_list_append mt_append (pv 2) (pa_cons (pe_meth (pv 0) T.cl_Reader T.me_Reader_take_expr G_Reader_take_expr (hr.mono (by omega)) T.b_Reader_take_expr .nil passE (pa_cons (pv 1) pa_nil)) pa_nil)))))
    (pss_cons (ps_expr (pe_call G_check_count (hr.mono (by omega)) rfl T.m_check_count T.k_check_count T.b_check_count .nil passE (pa_cons pe_str (pa_cons (pe_callB call_len_seq rfl T.z_len bt_len (pa_cons (pv 2) pa_nil)) (pa_cons pe_int (pa_cons (pe_gI rfl T.m_MOST_THINGS) pa_nil))))))
    (pss_one (ps_ret (pe_callTy call_tuple_of rfl T.z_tuple bt_tuple (pa_cons (pv 2) pa_nil))))))), ?_⟩
  have sl : sizeLine = 16777216 := sizeLine_eq
  refine ⟨(by show 0 ≤ sizeLine; decide), fun fl hfl => ?_⟩
  have ep := expr_good f
  have gi : GoodI (itemE (exprA f)) := itemE_good ep
  have R0 := R.same (same_new hfl (.lst []))
  obtain ⟨fp, frl, fwl⟩ := R.apart hfl
  have hs0 := R.short
  have hs1 := W.len
  refine ⟨fun m σ H2 => ∃ (acc : List Dt) (fv : List V) (rest2 : List Str) (rows2 : List Dt), m = rest2.length ∧ σ = [some (.ref p), some (.int (25 - (f : Int))), some (.ref fl)] ∧ RS K T.a_Reader H2 p dx wl rl ws rest2 rows2 ∧ K2 p rl H H2 ∧ H2 fl = some (.lst fv) ∧ TAts K H2 fv acc ∧ acc.length + rest2.length ≤ 30000 ∧ rows2.length ≤ 160 ∧
      manyA (itemE (exprA f)) rest rows [] = manyA (itemE (exprA f)) rest2 rows2 acc,
    ⟨_, [], [], rest, rows, rfl, rfl, R0, Same.k2 (same_new hfl _), upd_same, .nil, (by show 0 + _ ≤ _; omega), hrows, rfl⟩, ?_⟩
  rintro m σ H2 ⟨acc, fv, rest2, rows2, rfl, rfl, R2, k2, hfl2, tf, hlen, hr2, heq⟩
  have tl := tf.length
  have lf : fv.length < sizeLine := by omega
  obtain ⟨k', hk⟩ := R2.ob
  refine ⟨_, rfl, p, dx, _, rfl, hk, fR_meth _ _ _ _ (.inl rfl), ?_⟩
  refine tn0 ?_
  refine ah_ok R2 W ?_
  refine ⟨rfl, _, rfl, ?_⟩
  by_cases hh : rest2.head? = some ")"
  · have e1 : rest2.headD "" = ")" := by rw [List.headD_eq_head?_getD, hh]; rfl
    rw [e1, show (decide (V.str ")" = V.str ")")) = true by decide +kernel]
    refine iteF ?_
    rw [many_end _ _ _ hh] at heq
    refine ⟨_, rfl, fl, fv, rfl, .inl (SqL.of hfl2), "things", fv.length, 0, 8, rfl, by decide +kernel, by omega, by decide, by decide, fun hc => ?_, fun hc => ?_⟩
    · refine ⟨_, rfl, fl, fv, rfl, .inl ⟨SqL.of hfl2, fun t ht => ?_⟩⟩
      have s := same_new ht (.tup fv)
      refine q acc rest2 rows2 t _ ?_ (R2.same s) (k2.trans (Same.k2 s)) (.tup upd_same (R2.tats (Same.k2 s) tf))
      rw [heq, chk, if_pos (by rw [← tl]; exact hc)]
    · refine qe ?_ H2 k2
      rw [heq, chk, if_neg (by rw [← tl]; exact hc)]
  · have e1 : ¬ V.str (rest2.headD "") = V.str ")" := fun z => by
      injection z with z
      cases rest2 with
      | nil => exact absurd z (by decide +kernel)
      | cons a r => exact hh (congrArg some z)
    rw [decide_eq_false e1]
    have hm := many_eq gi rest2 rows2 acc hh
    refine iteT ⟨_, fun σ' H' z => z, ?_⟩
    refine ⟨_, rfl, .inl ⟨rfl, _, SqL.of hfl2⟩, _, rfl, p, dx, _, rfl, hk, fR_meth _ _ _ _ (by simp), _, rfl, p, dx, wl, rl, ws, rest2, rows2, rfl, R2, W, hr2, fun r rows' H4 e R4 k4 => ?_, fun e H4 k4 => ?_⟩
    · have h4 : H4 fl = some (.lst fv) := k4 _ _ hfl2 fp frl
      have ei : (itemE (exprA f)) rest2 rows2 = some (.flat (.int (rows2.length : Int)), r, rows') := by rw [itemE, e]
      obtain ⟨st, lt⟩ := gi _ _ _ _ ei
      refine ⟨fl, fv, _, rfl, rfl, h4, lf, r.length, lt, acc ++ [.flat (.int (rows2.length : Int))], fv ++ [.int (rows2.length : Int)], r, rows', rfl, rfl, R4.other h4 fp fwl frl, k2_new hfl (k2.trans k4), upd_same, ((R2.tats k4 tf).snoc (.flat rfl)).other h4, (by rw [List.length_append]; have lt' : r.length < rest2.length := lt; show acc.length + 1 + _ ≤ _; omega), st.most hr2, ?_⟩
      rw [heq, hm, ei]
    · refine qe ?_ H4 (k2.trans k4)
      rw [heq, hm, show (itemE (exprA f)) rest2 rows2 = none by rw [itemE, e]]
      rfl
end
end K05.Internal
namespace K05.Internal
open PySem L2.Internal GR.Internal
structure Dk (P : Program) (w : World) (K : PySem.W.Frag) (mg : Str → Option Value) where
  a : Addr
  m : mg "STEADY_FORMS" = some (.ref a)
  kvs : List (Key × V)
  kd : KDict P w K a kvs
  no : ∀ h, stP h = none → valV kvs (Sum.inr h) = none
  yes : ∀ h ps, stP h = some ps → ∃ q, valV kvs (Sum.inr h) = some (.ref q) ∧ ∀ H : Hp, SqT K H q (ps.map pV)
theorem stP_some {h : Str} {ps : List Bool} (e : stP h = some ps) : ps ≠ [] ∧ ps.length ≤ 3 := by
  unfold stP at e
  obtain ⟨p, hp, rfl⟩ := Option.map_eq_some_iff.mp e
  have hm := List.mem_of_find?_eq_some hp
  clear hp e
  have z : ∀ p ∈ stT, p.2 ≠ [] ∧ p.2.length ≤ 3 := by decide +kernel
  exact z p hm
section
variable {P : Program} {w : World} {K : PySem.W.Frag} {mg : Str → Option Value} {base : Heap}
noncomputable def sp_F (K : PySem.W.Frag) (C CB : Addr) (f : Nat) : Sp := fun vs H Q E => ∃ (p dx wl rl : Addr) (ws rest : List Str) (rows : List Dt) (h : Str), vs = [.ref p, .str h, .int (25 - (f : Int))] ∧ RS K C H p dx wl rl ws rest rows ∧ WOk ws ∧ rows.length ≤ 160 ∧ h ∈ ws ∧
  (∀ ds r rows' t H', formA (exprA f) h rest rows = some (ds, r, rows') → RS K C H' p dx wl rl ws r rows' → K2 p rl H H' → TAt K H' (.ref t) (.tup ds) → Q (.ref t) H') ∧ (formA (exprA f) h rest rows = none → ∀ H', K2 p rl H H' → E (.ref CB) none H')
theorem ok_form (T : Txt K mg) (D : Dk P w K mg) (f : Nat)
    (G_Reader_take_expr : FnOk P w K mg base (CXE P w) (5 * f + 5) T.a_Reader_take_expr T.fd_Reader_take_expr ["self", "depth"] (sp_E K T.a_Reader T.a_BadText f))
    (G_Reader_take_steady : FnOk P w K mg base (CXE P w) (5 * f + 6) T.a_Reader_take_steady T.fd_Reader_take_steady ["self", "parts", "depth"] (sp_S K T.a_Reader T.a_BadText f))
    (G_Reader_take_fields : FnOk P w K mg base (CXE P w) (5 * f + 7) T.a_Reader_take_fields T.fd_Reader_take_fields ["self", "depth"] (sp_M K T.a_Reader T.a_BadText f (itemS (exprA f) [true, false]) 0 6))
    (G_Reader_take_arms : FnOk P w K mg base (CXE P w) (5 * f + 7) T.a_Reader_take_arms T.fd_Reader_take_arms ["self", "depth"] (sp_M K T.a_Reader T.a_BadText f (itemS (exprA f) [true, true, false]) 1 6))
    (G_Reader_take_things : FnOk P w K mg base (CXE P w) (5 * f + 7) T.a_Reader_take_things T.fd_Reader_take_things ["self", "depth"] (sp_M K T.a_Reader T.a_BadText f (itemE (exprA f)) 0 8)) :
    FnOk P w K mg base (CXE P w) (5 * f + 8) T.a_Reader_take_form T.fd_Reader_take_form ["self", "head", "depth"] (sp_F K T.a_Reader T.a_BadText f) := by
  refine T.F_Reader_take_form.okE sc_Reader_take_form (fun vs H Q E h => ?_) (fun cdv A outer s H vs Q E hr h => ?_)
  · obtain ⟨p, dx, wl, rl, ws, rest, rows, h, rfl, _⟩ := h
    rfl
  obtain ⟨p, dx, wl, rl, ws, rest, rows, h, rfl, R, W, hrows, hm, q, qe⟩ := h
  refine ⟨_, (pss_cons (ps_if (pt_cmpR op_eq (pv 1) pe_str (nomark _))
      (pss_one (ps_ret (pe_tup (pa_cons pe_str (pa_cons (pe_meth (pv 0) T.cl_Reader T.me_Reader_take_fields G_Reader_take_fields (hr.mono (by omega)) T.b_Reader_take_fields .nil passE (pa_cons (pv 2) pa_nil)) pa_nil)))))
      pss_nil)
    (pss_cons (ps_if (pt_cmpR op_eq (pv 1) pe_str (nomark _))
      (pss_cons (ps_set (i := 3) sc_Reader_take_form.nd rfl (Or.inl rfl) (pe_meth (pv 0) T.cl_Reader T.me_Reader_take_expr G_Reader_take_expr (hr.mono (by omega)) T.b_Reader_take_expr .nil passE (pa_cons (pv 2) pa_nil)))
      (pss_one (ps_ret (pe_tup (pa_cons pe_str (pa_cons (pv 3) (pa_cons (pe_meth (pv 0) T.cl_Reader T.me_Reader_take_arms G_Reader_take_arms (hr.mono (by omega)) T.b_Reader_take_arms .nil passE (pa_cons (pv 2) pa_nil)) pa_nil)))))))
      pss_nil)
    (pss_cons (ps_if (pt_cmpR op_eq (pv 1) pe_str (nomark _))
      (pss_one (ps_ret (pe_tup (pa_cons pe_str (pa_cons (pe_meth (pv 0) T.cl_Reader T.me_Reader_take_things G_Reader_take_things (hr.mono (by omega)) T.b_Reader_take_things .nil passE (pa_cons (pv 2) pa_nil)) pa_nil)))))
      pss_nil)
    (pss_cons (ps_if (pt_cmp (pc_knotin D.kd (pv 1) (pe_gR rfl D.m)) rfl)
      (pss_one (ps_raise rfl leavesE T.x_BadText rfl T.m_BadText (pa_cons (pe_join (pj_cons (pe_fvr (pv 1)) (pj_cons pe_str pj_nil))) pa_nil)))
      pss_nil)
    (pss_one (ps_ret (pe_op op_catT (pe_tup (pa_cons (pv 1) pa_nil)) (pe_meth (pv 0) T.cl_Reader T.me_Reader_take_steady G_Reader_take_steady (hr.mono (by omega)) T.b_Reader_take_steady .nil passE (pa_cons (pe_kget D.kd (pe_gR rfl D.m) (pv 1) (fun _ _ => rfl)) (pa_cons (pv 2) pa_nil)))))))))), ?_⟩
  have sl : sizeLine = 16777216 := sizeLine_eq
  have ep := expr_good f
  obtain ⟨k', hk⟩ := R.ob
  refine ⟨_, rfl, rfl, _, rfl, ?_⟩
  by_cases h1 : h = "rec"
  · subst h1
    rw [show decide (V.str "rec" = V.str "rec") = true by decide +kernel]
    have ef : formA (exprA f) "rec" rest rows = match chk 0 6 (manyA (itemS (exprA f) [true, false]) rest rows []) with
      | none => none
      | some (l, r) => some ([.flat (.str "rec"), .tup l], r) := by rw [formA, if_pos rfl] <;> rfl
    refine iteT ⟨_, rfl, p, dx, _, rfl, hk, fR_meth _ _ _ _ (by simp), _, rfl, p, dx, wl, rl, ws, rest, rows, rfl, R, W, hrows, fun l r rows' t H1 e R1 k1 ht => ?_, fun e H1 k1 => ?_⟩
    · refine ⟨(by show 2 ≤ sizeLine; decide), fun u hu => ?_⟩
      have s := same_new hu (.tup [.str "rec", .ref t])
      refine q _ r rows' u _ (by rw [ef, e]) (R1.same s) (k1.trans (Same.k2 s)) (.tup upd_same (.cons (.flat rfl) (.cons (R1.tat (Same.k2 s) ht) .nil)))
    · exact qe (by rw [ef, e]) H1 k1
  rw [decide_eq_false (fun z : V.str h = V.str "rec" => h1 (by injection z))]
  refine iteF ⟨_, rfl, rfl, _, rfl, ?_⟩
  by_cases h2 : h = "case"
  · subst h2
    rw [show decide (V.str "case" = V.str "case") = true by decide +kernel]
    have ef : formA (exprA f) "case" rest rows = match exprA f rest rows with
      | none => none
      | some (r1, rows1) => match chk 1 6 (manyA (itemS (exprA f) [true, true, false]) r1 rows1 []) with
        | none => none
        | some (l, r) => some ([.flat (.str "case"), .flat (.int (rows.length : Int)), .tup l], r) := by rw [formA, if_neg h1, if_pos rfl] <;> rfl
    refine iteT ⟨_, rfl, p, dx, _, rfl, hk, fR_meth _ _ _ _ (by simp), _, rfl, p, dx, wl, rl, ws, rest, rows, rfl, R, W, hrows, fun r1 rows1 H1 e1 R1 k1 => ?_, fun e1 H1 k1 => ?_⟩
    · obtain ⟨k1', hk1⟩ := R1.ob
      refine ⟨_, rfl, _, rfl, p, dx, _, rfl, hk1, fR_meth _ _ _ _ (by simp), _, rfl, p, dx, wl, rl, ws, r1, rows1, rfl, R1, W, (ep _ _ _ e1).1.most hrows, fun l r rows' t H2 e R2 k2 ht => ?_, fun e H2 k2 => ?_⟩
      · refine ⟨(by show 3 ≤ sizeLine; decide), fun u hu => ?_⟩
        have s := same_new hu (.tup [.str "case", .int (rows.length : Int), .ref t])
        refine q _ r rows' u _ (by rw [ef, e1]; show (match chk 1 6 _ with | none => none | some (l, r) => _) = _; rw [e]) (R2.same s) ((k1.trans k2).trans (Same.k2 s)) (.tup upd_same (.cons (.flat rfl) (.cons (.flat rfl) (.cons (R2.tat (Same.k2 s) ht) .nil))))
      · exact qe (by rw [ef, e1]; show (match chk 1 6 _ with | none => none | some (l, r) => _) = _; rw [e]) H2 (k1.trans k2)
    · exact qe (by rw [ef, e1]) H1 k1
  rw [decide_eq_false (fun z : V.str h = V.str "case" => h2 (by injection z))]
  refine iteF ⟨_, rfl, rfl, _, rfl, ?_⟩
  by_cases h3 : h = "row"
  · subst h3
    rw [show decide (V.str "row" = V.str "row") = true by decide +kernel]
    have ef : formA (exprA f) "row" rest rows = match chk 0 8 (manyA (itemE (exprA f)) rest rows []) with
      | none => none
      | some (l, r) => some ([.flat (.str "row"), .tup l], r) := by rw [formA, if_neg h1, if_neg h2, if_pos rfl] <;> rfl
    refine iteT ⟨_, rfl, p, dx, _, rfl, hk, fR_meth _ _ _ _ (by simp), _, rfl, p, dx, wl, rl, ws, rest, rows, rfl, R, W, hrows, fun l r rows' t H1 e R1 k1 ht => ?_, fun e H1 k1 => ?_⟩
    · refine ⟨(by show 2 ≤ sizeLine; decide), fun u hu => ?_⟩
      have s := same_new hu (.tup [.str "row", .ref t])
      refine q _ r rows' u _ (by rw [ef, e]) (R1.same s) (k1.trans (Same.k2 s)) (.tup upd_same (.cons (.flat rfl) (.cons (R1.tat (Same.k2 s) ht) .nil)))
    · exact qe (by rw [ef, e]) H1 k1
  rw [decide_eq_false (fun z : V.str h = V.str "row" => h3 (by injection z))]
  have ef : formA (exprA f) h rest rows = match stP h with
    | none => none
    | some ps => match steadyA (exprA f) ps [] rest rows with
      | none => none
      | some (ds, r) => some (.flat (.str h) :: ds, r) := by rw [formA, if_neg h1, if_neg h2, if_neg h3] <;> rfl
  refine iteF ⟨_, rfl, Sum.inr h, rfl, rfl, _, rfl, ?_⟩
  cases e4 : stP h with
  | none =>
    rw [D.no h e4]
    have hrp := repr_fits W hm
    refine iteT ⟨_, rfl, h, rfl, by omega, _, rfl, cat1 hrp, _, rfl, cat2 hrp (by decide +kernel), cat2 hrp (by decide +kernel), (by show 1 ≤ sizeLine; decide), qe (by rw [ef, e4]) H (K2.refl _ _ _)⟩
  | some ps =>
    obtain ⟨dq, ev, hq⟩ := D.yes h ps e4
    obtain ⟨ne, le⟩ := stP_some e4
    rw [ev]
    refine iteF ⟨_, rfl, (by show 1 ≤ sizeLine; decide), fun t1 ht1 => ?_⟩
    have s1 := same_new ht1 (.tup [.str h])
    have R1 := R.same s1
    obtain ⟨k1', hk1⟩ := R1.ob
    refine ⟨_, rfl, p, dx, _, rfl, hk1, fR_meth _ _ _ _ (by simp), _, rfl, Sum.inr h, _, rfl, rfl, ev, _, rfl, p, dx, wl, rl, dq, ws, rest, rows, ps, rfl, R1, W, hrows, hq _, le, fun ds r rows' t H2 e R2 k2 ht => ?_, fun e H2 k2 => ?_⟩
    · cases ht with
      | tup hsq hts =>
        rename_i xs
        have l1 := (steady_step ep _ _ _ _ _ _ e).2.2
        have l2 := hts.length
        have hne : xs ≠ [] := fun z => by
          rw [z] at l2
          rw [← l2] at l1
          have : ps.length = 0 := by simpa using l1.symm
          exact ne (List.length_eq_zero_iff.mp this)
        have ht2 : SqT K H2 t1 [.str h] := R1.sqt k2 (.inl (.inl upd_same))
        refine ⟨t1, t, [.str h], xs, rfl, rfl, ht2, .inl (.inl hsq), (fun z => nomatch z), (by
          have : ([] : List Dt).length = 0 := rfl
          show 1 + xs.length ≤ _
          omega), fun z => absurd z hne, fun _ u hu => ?_⟩
        have s := same_new hu (.tup ([.str h] ++ xs))
        refine q _ r rows' u _ (by rw [ef, e4]; show (match steadyA _ _ _ _ _ with | none => none | some (ds, r) => _) = _; rw [e]) (R2.same s) (((Same.k2 s1).trans k2).trans (Same.k2 s)) (.tup upd_same (.cons (.flat rfl) (R2.tats (Same.k2 s) hts)))
    · exact qe (by rw [ef, e4]; show (match steadyA _ _ _ _ _ with | none => none | some (ds, r) => _) = _; rw [e]) H2 ((Same.k2 s1).trans k2)
end
end K05.Internal
namespace K05.Internal
open PySem L2.Internal GR.Internal
theorem rp_close : (reprText ")").length ≤ 300002 := by decide +kernel
section
variable {P : Program} {w : World} {K : PySem.W.Frag} {mg : Str → Option Value} {base : Heap}
noncomputable def sp_R (K : PySem.W.Frag) (C CB : Addr) (f : Nat) : Sp := fun vs H Q E => ∃ (p dx wl rl : Addr) (ws rest : List Str) (rows : List Dt), vs = [.ref p, .int (25 - ((f + 1 : Nat) : Int))] ∧ RS K C H p dx wl rl ws rest rows ∧ WOk ws ∧ rows.length ≤ 160 ∧
  (∀ ds r rows' t H', rowA (exprA f) rest rows = some (ds, r, rows') → RS K C H' p dx wl rl ws r rows' → K2 p rl H H' → TAt K H' (.ref t) (.tup ds) → Q (.ref t) H') ∧ (rowA (exprA f) rest rows = none → ∀ H', K2 p rl H H' → E (.ref CB) none H')
theorem ok_row (T : Txt K mg) (f : Nat)
    (G_Reader_take : FnOk P w K mg base (CXE P w) 2 T.a_Reader_take T.fd_Reader_take ["self"] (sp_Reader_take T.a_Reader T.a_BadText))
    (G_Reader_pass_over : FnOk P w K mg base (CXE P w) 3 T.a_Reader_pass_over T.fd_Reader_pass_over ["self", "wanted"] (sp_Reader_pass_over T.a_Reader T.a_BadText))
    (G_is_name : FnOk P w K mg base CX0 2 T.a_is_name T.fd_is_name ["word"] sp_is_name)
    (G_is_number : FnOk P w K mg base CX0 2 T.a_is_number T.fd_is_number ["word"] sp_is_number)
    (G_Reader_take_form : FnOk P w K mg base (CXE P w) (5 * f + 8) T.a_Reader_take_form T.fd_Reader_take_form ["self", "head", "depth"] (sp_F K T.a_Reader T.a_BadText f)) :
    FnOk P w K mg base (CXE P w) (5 * f + 9) T.a_Reader_take_row T.fd_Reader_take_row ["self", "depth"] (sp_R K T.a_Reader T.a_BadText f) := by
  refine T.F_Reader_take_row.okE sc_Reader_take_row (fun vs H Q E h => ?_) (fun cdv A outer s H vs Q E hr h => ?_)
  · obtain ⟨p, dx, wl, rl, ws, rest, rows, rfl, _⟩ := h
    rfl
  obtain ⟨p, dx, wl, rl, ws, rest, rows, rfl, R, W, hrows, q, qe⟩ := h
  refine ⟨_, (pss_cons (ps_set (i := 2) sc_Reader_take_row.nd rfl (Or.inl rfl) (pe_meth0 (pv 0) T.cl_Reader T.me_Reader_take G_Reader_take (hr.mono (by omega)) T.b_Reader_take .nil passE))
    (pss_cons (ps_if (pt_val (pe_call G_is_number (hr.mono (by omega)) rfl T.m_is_number T.k_is_number T.b_is_number .nil pass0 (pa_cons (pv 2) pa_nil)))
      (pss_one (ps_ret (pe_tup (pa_cons pe_str (pa_cons (pe_callTy call_int_str rfl T.z_int bt_int (pa_cons (pv 2) pa_nil)) pa_nil)))))
      pss_nil)
    (pss_cons (ps_if (pt_val (pe_call G_is_name (hr.mono (by omega)) rfl T.m_is_name T.k_is_name T.b_is_name .nil pass0 (pa_cons (pv 2) pa_nil)))
      (pss_one (ps_ret (pe_tup (pa_cons pe_str (pa_cons (pv 2) pa_nil)))))
      pss_nil)
    (pss_cons (ps_if (pt_cmpR op_ne (pv 2) pe_str (nomark _))
      (pss_one (ps_raise rfl leavesE T.x_BadText rfl T.m_BadText (pa_cons (pe_join (pj_cons (pe_fvr (pv 2)) (pj_cons pe_str pj_nil))) pa_nil)))
      pss_nil)
    (pss_cons (ps_set (i := 3) sc_Reader_take_row.nd rfl (Or.inl rfl) (pe_meth (pv 0) T.cl_Reader T.me_Reader_take_form G_Reader_take_form (hr.mono (by omega)) T.b_Reader_take_form .nil passE (pa_cons (pe_meth0 (pv 0) T.cl_Reader T.me_Reader_take G_Reader_take (hr.mono (by omega)) T.b_Reader_take .nil passE) (pa_cons (pe_op op_add (pv 1) pe_int) pa_nil))))
    (pss_cons (ps_expr (pe_meth (pv 0) T.cl_Reader T.me_Reader_pass_over G_Reader_pass_over (hr.mono (by omega)) T.b_Reader_pass_over .nil passE (pa_cons pe_str pa_nil)))
    (pss_one (ps_ret (pv 3))))))))), ?_⟩
  have sl : sizeLine = 16777216 := sizeLine_eq
  obtain ⟨k', hk⟩ := R.ob
  refine ⟨_, rfl, p, dx, _, rfl, hk, fR_meth _ _ _ _ (by simp), ?_⟩
  refine tn0 ?_
  refine tk_ok R W (fun x r H1 e R1 k1 => ?_) (fun e => qe (by rw [e]; rfl) H (K2.refl _ _ _))
  have hx : x ∈ ws := R.mem x (by rw [e]; exact List.mem_cons_self ..)
  have xl := (W.one x hx).2.1
  refine ⟨_, rfl, x, rfl, xl, fun H2 s2 => ⟨_, rfl, ?_⟩⟩
  have R2 := R1.same s2
  have k2 := k1.trans (Same.k2 (p := p) (q := rl) s2)
  cases e1 : isNum x with
  | true =>
    obtain ⟨n1, n2, n3⟩ := isNum_parts e1
    refine iteT ⟨_, rfl, x, intOf x, rfl, int_of_fig n1 (by omega) n3, by omega, (by show 2 ≤ sizeLine; decide), fun t ht => ?_⟩
    have s := same_new ht (.tup [.str "num", .int (intOf x)])
    exact q _ r rows t _ (by rw [e]; exact row_num e1) (R2.same s) (k2.trans (Same.k2 s)) (.tup upd_same (.cons (.flat rfl) (.cons (.flat rfl) .nil)))
  | false =>
    have f1 : ¬ isNum x = true := by rw [e1]; exact Bool.false_ne_true
    refine iteF ⟨_, rfl, x, rfl, xl, fun H3 s3 => ⟨_, rfl, ?_⟩⟩
    have R3 := R2.same s3
    have k3 := k2.trans (Same.k2 (p := p) (q := rl) s3)
    cases e2 : isName x with
    | true =>
      refine iteT ⟨_, rfl, (by show 2 ≤ sizeLine; decide), fun t ht => ?_⟩
      have s := same_new ht (.tup [.str "name", .str x])
      exact q _ r rows t _ (by rw [e]; exact row_name f1 e2) (R3.same s) (k3.trans (Same.k2 s)) (.tup upd_same (.cons (.flat rfl) (.cons (.flat rfl) .nil)))
    | false =>
      have f2 : ¬ isName x = true := by rw [e2]; exact Bool.false_ne_true
      refine iteF ⟨_, rfl, rfl, _, rfl, ?_⟩
      by_cases h3 : x = "("
      · rw [decide_eq_true (congrArg V.str h3)]
        obtain ⟨k3', hk3⟩ := R3.ob
        refine iteF ⟨_, rfl, p, dx, _, rfl, hk3, fR_meth _ _ _ _ (by simp), _, rfl, p, dx, _, rfl, hk3, fR_meth _ _ _ _ (by simp), ?_⟩
        refine tn0 ?_
        refine tk_ok R3 W (fun h r2 H4 e4 R4 k4 => ?_) (fun e4 => qe (by rw [e, e4]; exact row_par0 f1 f2 h3) H3 k3)
        have hh : h ∈ ws := R3.mem h (by rw [e4]; exact List.mem_cons_self ..)
        have er' : rowA (exprA f) rest rows = closeA (formA (exprA f) h r2 rows) := by rw [e, e4]; exact row_par f1 f2 h3
        refine ⟨_, rfl, _, _, rfl, rfl, p, dx, wl, rl, ws, r2, rows, h, (by
          show [V.ref p, V.str h, V.int (25 - ((f + 1 : Nat) : Int) + 1)] = _
          rw [show (25 - ((f + 1 : Nat) : Int) + 1) = 25 - (f : Int) by omega]), R4, W, hrows, hh, fun ds r3 rows' t H5 e5 R5 k5 ht => ?_, fun e5 H5 k5 => ?_⟩
        · obtain ⟨k5', hk5⟩ := R5.ob
          refine ⟨_, rfl, p, dx, _, rfl, hk5, fR_meth _ _ _ _ (by simp), ?_⟩
          refine tc1 ?_
          refine ps_ok R5 W rp_close (fun r4 H6 e6 R6 k6 => ?_) (fun ne H6 k6 => ?_)
          · refine ⟨_, rfl, q ds r4 rows' t H6 ?_ R6 (((k3.trans k4).trans k5).trans k6) (R5.tat k6 ht)⟩
            rw [er', e5, e6]
            unfold closeA
            exact if_pos rfl
          · refine qe ?_ H6 (((k3.trans k4).trans k5).trans k6)
            rw [er', e5]
            unfold closeA
            cases r3 with
            | nil => rfl
            | cons y r4 =>
              refine if_neg fun z => ne ?_
              rw [z]
              rfl
        · exact qe (by rw [er', e5]; rfl) H5 ((k3.trans k4).trans k5)
      · rw [decide_eq_false (fun z : V.str x = V.str "(" => h3 (by injection z))]
        have hrp := repr_fits W hx
        refine iteT ⟨_, rfl, x, rfl, by omega, _, rfl, cat1 hrp, _, rfl, cat2 hrp (by decide +kernel), cat2 hrp (by decide +kernel), (by show 1 ≤ sizeLine; decide), qe ?_ H3 k3⟩
        rw [e]
        exact row_no f1 f2 h3
theorem ok_expr0 (T : Txt K mg) : FnOk P w K mg base (CXE P w) 5 T.a_Reader_take_expr T.fd_Reader_take_expr ["self", "depth"] (sp_E K T.a_Reader T.a_BadText 0) := by
  refine T.F_Reader_take_expr.okE sc_Reader_take_expr (fun vs H Q E h => ?_) (fun cdv A outer s H vs Q E hr h => ?_)
  · obtain ⟨p, dx, wl, rl, ws, rest, rows, rfl, _⟩ := h
    rfl
  obtain ⟨p, dx, wl, rl, ws, rest, rows, rfl, R, W, hrows, q, qe⟩ := h
  refine ⟨_, (pss_cons (ps_if (pt_cmpR op_gt (pv 1) (pe_gI rfl T.m_MOST_NEST) (nomark _))
      (pss_one (ps_raise rfl leavesE T.x_BadText rfl T.m_BadText (pa_cons (pe_join (pj_cons pe_str (pj_cons (pe_fv (pe_gI rfl T.m_MOST_NEST)) pj_nil))) pa_nil)))
      pss_nil)
    pss_never), ?_⟩
  have sl : sizeLine = 16777216 := sizeLine_eq
  have nn := num_text (show 24 ≤ 100000 by decide)
  refine ⟨_, rfl, _, _, rfl, rfl, _, rfl, iteT ?_⟩
  refine ⟨_, rfl, ?_, .inr ⟨_, rfl, nn.1, _, rfl, ?_, ?_, (by show 1 ≤ sizeLine; decide), qe rfl H (K2.refl _ _ _)⟩⟩
  all_goals
    simp only [Str.length_append]
    have e0 : Str.empty.length = 0 := rfl
    have e1 : ("a nest above " : Str).length = 13 := by decide +kernel
    have e2 : (PySem.Str.ofString (toString (24 : Int))).length ≤ 6 := nn.2
    try omega
theorem ok_exprS (T : Txt K mg) (f : Nat)
    (G_Reader_take_row : FnOk P w K mg base (CXE P w) (5 * f + 9) T.a_Reader_take_row T.fd_Reader_take_row ["self", "depth"] (sp_R K T.a_Reader T.a_BadText f)) :
    FnOk P w K mg base (CXE P w) (5 * (f + 1) + 5) T.a_Reader_take_expr T.fd_Reader_take_expr ["self", "depth"] (sp_E K T.a_Reader T.a_BadText (f + 1)) := by
  refine T.F_Reader_take_expr.okE (k := 5 * f + 9) sc_Reader_take_expr (fun vs H Q E h => ?_) (fun cdv A outer s H vs Q E hr h => ?_)
  · obtain ⟨p, dx, wl, rl, ws, rest, rows, rfl, _⟩ := h
    rfl
  obtain ⟨p, dx, wl, rl, ws, rest, rows, rfl, R, W, hrows, q, qe⟩ := h
  refine ⟨_, (pss_cons (ps_if (pt_cmpR op_gt (pv 1) (pe_gI rfl T.m_MOST_NEST) (nomark _))
      (pss_one (ps_raise rfl leavesE T.x_BadText rfl T.m_BadText (pa_cons (pe_join (pj_cons pe_str (pj_cons (pe_fv (pe_gI rfl T.m_MOST_NEST)) pj_nil))) pa_nil)))
      pss_nil)
    (pss_cons (ps_set (i := 2) sc_Reader_take_expr.nd rfl (Or.inl rfl) (pe_callB call_len_seq rfl T.z_len bt_len (pa_cons (pe_fld (pv 0) rfl) pa_nil)))
    (pss_cons (ps_if (pt_cmpR op_eq (pv 2) (pe_gI rfl T.m_MOST_PLACES) (nomark _))
      (pss_one (ps_raise rfl leavesE T.x_BadText rfl T.m_BadText (pa_cons (pe_join (pj_cons pe_str (pj_cons (pe_fv (pe_gI rfl T.m_MOST_PLACES)) (pj_cons pe_str pj_nil)))) pa_nil)))
      pss_nil)
    (pss_cons (ps_expr (pe_bm PySem.F.plainAttrs_list PySem.F.slot_list_append PySem.F.type_list_append mt_append (pe_fld (pv 0) rfl) (pa_cons pe_non pa_nil)))
    (pss_cons (ps_asg (pe_meth (pv 0) T.cl_Reader T.me_Reader_take_row G_Reader_take_row (hr.mono (by omega)) T.b_Reader_take_row .nil passE (pa_cons (pv 1) pa_nil)) (pg_sub (pe_fld (pv 0) rfl) (pv 2) set_list))
    (pss_one (ps_ret (pv 2)))))))), ?_⟩
  have sl : sizeLine = 16777216 := sizeLine_eq
  have nn := num_text (show 160 ≤ 100000 by decide)
  obtain ⟨k, rv, R', h1, h2, h3⟩ := R
  have tl := h3.length
  refine ⟨_, rfl, _, _, rfl, rfl, _, rfl, ?_⟩
  rw [decide_eq_false (by omega)]
  refine iteF ⟨_, rfl, p, _, dx, _, _, rfl, R'.ob, T.cl_Reader, T.n_Reader_rows, fR_rows _ _ _, rl, _, rfl, .inl (SqL.of R'.rw), ?_⟩
  refine ⟨_, rfl, rfl, _, rfl, ?_⟩
  by_cases h160 : rows.length = 160
  · rw [decide_eq_true (show V.int ((rv.length : Nat) : Int) = V.int 160 by rw [tl, h160]; rfl)]
    refine iteT ⟨_, rfl, ?_, .inr ⟨_, rfl, nn.1, _, rfl, ?_, _, rfl, ?_, ?_, (by show 1 ≤ sizeLine; decide), qe (by rw [exprA, if_pos h160]) H (K2.refl _ _ _)⟩⟩
    all_goals
      simp only [Str.length_append]
      have e0 : Str.empty.length = 0 := rfl
      have e1 : ("more than " : Str).length = 10 := by decide +kernel
      have e3 : (" places" : Str).length = 7 := by decide +kernel
      have e2 : (PySem.Str.ofString (toString (160 : Int))).length ≤ 6 := nn.2
      try omega
  · rw [decide_eq_false (show ¬ V.int ((rv.length : Nat) : Int) = V.int 160 from fun z => by injection z with z; omega)]
    refine iteF ⟨_, rfl, p, _, dx, _, _, rfl, R'.ob, T.cl_Reader, T.n_Reader_rows, fR_rows _ _ _, .inl ⟨rfl, _, SqL.of R'.rw⟩, rl, _, _, rfl, rfl, R'.rw, by omega, ?_⟩
    have npr := R'.ne2
    have nwr := R'.ne
    have R1' : RdAt T.a_Reader (upd H rl (.lst (rv ++ [.non]))) p dx wl rl ws k (rv ++ [.non]) := ⟨by rw [upd_ne npr]; exact R'.ob, by rw [upd_ne nwr]; exact R'.wd, upd_same, nwr⟩
    have R1 : RS K T.a_Reader (upd H rl (.lst (rv ++ [.non]))) p dx wl rl ws rest (rows ++ [.flat .non]) := ⟨k, _, R1', h1, h2, (h3.snoc (.flat rfl)).other R'.rw⟩
    have k1 : K2 p rl H (upd H rl (.lst (rv ++ [.non]))) := (K2.refl p rl H).upd2 _
    have lr : (rows ++ [Dt.flat .non]).length = rows.length + 1 := by rw [List.length_append]; rfl
    refine ⟨_, rfl, p, dx, _, rfl, R1'.ob, fR_meth _ _ _ _ (by simp), _, rfl, p, dx, wl, rl, ws, rest, _, rfl, R1, W, by omega, fun ds r rows' t H2 e R2 k2 ht => ?_, fun e H2 k2 => ?_⟩
    · have up := (row_step (expr_good f) e).1.up
      obtain ⟨kk, rv2, R2', g1, g2, g3⟩ := R2
      have tl2 := g3.length
      have lt : rows.length < rv2.length := by
        have up' : (rows ++ [Dt.flat .non]).length ≤ rows'.length := up
        omega
      refine ⟨_, rfl, p, _, dx, _, _, rfl, R2'.ob, T.cl_Reader, T.n_Reader_rows, fR_rows _ _ _, _, rfl, rl, _, _, rv.length, rfl, rfl, R2'.rw, ixN_nat (by omega), ?_⟩
      refine ⟨_, rfl, ?_⟩
      rw [tl]
      refine q r (rows'.set rows.length (.tup ds)) _ ?_ ⟨kk, _, ⟨?_, ?_, upd_same, nwr⟩, g1, g2, (TAts.set _ g3 ht).other R2'.rw⟩ ((k1.trans k2).upd2 _)
      · rw [exprA, if_neg h160, e]
      · rw [upd_ne npr]
        exact R2'.ob
      · rw [upd_ne nwr]
        exact R2'.wd
    · refine qe ?_ H2 (k1.trans k2)
      rw [exprA, if_neg h160, e]
theorem ok_expr (T : Txt K mg) (D : Dk P w K mg)
    (G_Reader_ahead : FnOk P w K mg base CX0 1 T.a_Reader_ahead T.fd_Reader_ahead ["self"] (sp_Reader_ahead T.a_Reader))
    (G_Reader_take : FnOk P w K mg base (CXE P w) 2 T.a_Reader_take T.fd_Reader_take ["self"] (sp_Reader_take T.a_Reader T.a_BadText))
    (G_Reader_pass_over : FnOk P w K mg base (CXE P w) 3 T.a_Reader_pass_over T.fd_Reader_pass_over ["self", "wanted"] (sp_Reader_pass_over T.a_Reader T.a_BadText))
    (G_Reader_take_name : FnOk P w K mg base (CXE P w) 3 T.a_Reader_take_name T.fd_Reader_take_name ["self"] (sp_Reader_take_name T.a_Reader T.a_BadText))
    (G_is_name : FnOk P w K mg base CX0 2 T.a_is_name T.fd_is_name ["word"] sp_is_name)
    (G_is_number : FnOk P w K mg base CX0 2 T.a_is_number T.fd_is_number ["word"] sp_is_number)
    (G_check_count : FnOk P w K mg base (CXE P w) 1 T.a_check_count T.fd_check_count ["what", "count", "least", "most"] (sp_check_count T.a_BadText)) :
    ∀ f, FnOk P w K mg base (CXE P w) (5 * f + 5) T.a_Reader_take_expr T.fd_Reader_take_expr ["self", "depth"] (sp_E K T.a_Reader T.a_BadText f)
  | 0 => ok_expr0 T
  | f + 1 => by
    have g := ok_expr T D G_Reader_ahead G_Reader_take G_Reader_pass_over G_Reader_take_name G_is_name G_is_number G_check_count f
    have gs := ok_steady T f G_Reader_take_name g
    exact ok_exprS T f (ok_row T f G_Reader_take G_Reader_pass_over G_is_name G_is_number
      (ok_form T D f g gs (ok_fields T f G_Reader_ahead gs G_check_count) (ok_arms T f G_Reader_ahead gs G_check_count) (ok_things T f G_Reader_ahead g G_check_count)))
end
end K05.Internal
namespace K05.Internal
open PySem L2.Internal GR.Internal
theorem rp_short : (reprText "(").length ≤ 300002 ∧ (reprText "def").length ≤ 300002 ∧ (reprText ")").length ≤ 300002 := by decide +kernel
section
variable {P : Program} {w : World} {K : PySem.W.Frag} {mg : Str → Option Value} {base : Heap}
noncomputable def sp_Program___init__ (C : Addr) : Sp := fun vs H Q _ => ∃ (p dx a b c : Addr), vs = [.ref p, .ref a, .ref b, .ref c] ∧ H p = some (.ins C dx []) ∧ ∀ H', H' p = some (.ins C dx (fP a b c)) → (∀ z o, H z = some o → z ≠ p → H' z = some o) → Q .non H'
theorem ok_Program___init__ (T : Txt K mg) : FnOk P w K mg base CX0 1 T.a_Program___init__ T.fd_Program___init__ ["self", "names", "roots", "rows"] (sp_Program___init__ T.a_Program) := by
  refine T.F_Program___init__.ok sc_Program___init__ (fun vs H Q E h => ?_) (fun cdv A outer s H vs Q E hr h => ?_)
  · obtain ⟨p, dx, a, b, c, rfl, _⟩ := h
    rfl
  obtain ⟨p, dx, a, b, c, rfl, hp, k⟩ := h
  refine ⟨_, (pss_cons (ps_fld (pv 0) (pv 1) rfl)
    (pss_cons (ps_fld (pv 0) (pv 2) rfl)
    (pss_one (ps_fld (pv 0) (pv 3) rfl)))), ?_⟩
  refine ⟨_, rfl, _, rfl, p, T.a_Program, dx, [], rfl, hp, T.cl_Program, T.n_Program_names, (by show 0 < 1000; decide), ?_⟩
  refine ⟨_, rfl, _, rfl, p, T.a_Program, dx, _, rfl, upd_same, T.cl_Program, T.n_Program_roots, (by show 1 < 1000; decide), ?_⟩
  refine ⟨_, rfl, _, rfl, p, T.a_Program, dx, _, rfl, upd_same, T.cl_Program, T.n_Program_rows, (by show 2 < 1000; decide), ?_⟩
  refine k _ ?_ fun z o e hz => ?_
  · rw [upd_same]
    exact congrArg (fun l => some (HO.ins T.a_Program dx l)) (fP_mk a b c)
  · rw [upd_ne hz, upd_ne hz, upd_ne hz]
    exact e
structure PrAt (C : Addr) (H : Hp) (g : Addr) (nl tl rl : Addr) (names roots rows : List V) : Prop where
  ob : ∃ dx, H g = some (.ins C dx (fP nl tl rl))
  nm : H nl = some (.lst names)
  rt : H tl = some (.lst roots)
  rw : H rl = some (.lst rows)
  n1 : nl ≠ tl
  n2 : nl ≠ rl
  n3 : tl ≠ rl
noncomputable def sp_read (K : PySem.W.Frag) (C CB : Addr) : Sp := fun vs H Q E => ∃ (x : Str) (ws : List Str), vs = [.str x] ∧ x.length ≤ 30000 ∧ wordsV x.cps.toList = ws.map V.str ∧ WOk ws ∧
  (∀ names roots rows g nl tl rl rtv rwv H', readA ws = some (names, roots, rows) → Same H H' → H nl = none → H tl = none → H rl = none → PrAt C H' g nl tl rl (names.map V.str) rtv rwv → TAts K H' rtv roots → TAts K H' rwv rows → Q (.ref g) H') ∧ (readA ws = none → ∀ H', Same H H' → E (.ref CB) none H')
theorem same_k2 {p rl : Addr} {H H1 H2 : Hp} (np : H p = none) (nr : H rl = none) (s : Same H H1) (k : K2 p rl H1 H2) : Same H H2 := fun b o e => k b o (s b o e) (ne_of_none e np) (ne_of_none e nr)
theorem ok_read (T : Txt K mg) (G_words_of : FnOk P w K mg base CX0 1 T.a_words_of T.fd_words_of ["text"] sp_words_of) (G_Reader___init__ : FnOk P w K mg base CX0 1 T.a_Reader___init__ T.fd_Reader___init__ ["self", "words"] (sp_Reader___init__ T.a_Reader))
    (G_Reader_ahead : FnOk P w K mg base CX0 1 T.a_Reader_ahead T.fd_Reader_ahead ["self"] (sp_Reader_ahead T.a_Reader))
    (G_Reader_pass_over : FnOk P w K mg base (CXE P w) 3 T.a_Reader_pass_over T.fd_Reader_pass_over ["self", "wanted"] (sp_Reader_pass_over T.a_Reader T.a_BadText))
    (G_Reader_take_name : FnOk P w K mg base (CXE P w) 3 T.a_Reader_take_name T.fd_Reader_take_name ["self"] (sp_Reader_take_name T.a_Reader T.a_BadText))
    (G_Reader_take_expr : FnOk P w K mg base (CXE P w) (5 * 24 + 5) T.a_Reader_take_expr T.fd_Reader_take_expr ["self", "depth"] (sp_E K T.a_Reader T.a_BadText 24))
    (G_check_count : FnOk P w K mg base (CXE P w) 1 T.a_check_count T.fd_check_count ["what", "count", "least", "most"] (sp_check_count T.a_BadText))
    (G_Program___init__ : FnOk P w K mg base CX0 1 T.a_Program___init__ T.fd_Program___init__ ["self", "names", "roots", "rows"] (sp_Program___init__ T.a_Program)) :
    FnOk P w K mg base (CXE P w) 126 T.a_read T.fd_read ["text"] (sp_read K T.a_Program T.a_BadText) := by
  refine T.F_read.okE sc_read (fun vs H Q E h => ?_) (fun cdv A outer s H vs Q E hr h => ?_)
  · obtain ⟨x, ws, rfl, _⟩ := h
    rfl
  obtain ⟨x, ws, rfl, hx, hw, W, q, qe⟩ := h
  refine ⟨_, (pss_cons (ps_set (i := 1) sc_read.nd rfl (Or.inl rfl) (pe_make T.mk_Reader G_Reader___init__ (hr.mono (by omega)) rfl T.m_Reader T.b_Reader___init__ .nil pass0 (pa_cons (pe_call G_words_of (hr.mono (by omega)) rfl T.m_words_of T.k_words_of T.b_words_of .nil pass0 (pa_cons (pv 0) pa_nil)) pa_nil)))
    (pss_cons (ps_set (i := 2) sc_read.nd rfl (Or.inl rfl) (pe_lst pa_nil))
    (pss_cons (ps_set (i := 3) sc_read.nd rfl (Or.inl rfl) (pe_lst pa_nil))
    (pss_cons (ps_while PassesOwn.leaving (pt_cmpR op_ne (pe_meth0 (pv 1) T.cl_Reader T.me_Reader_ahead G_Reader_ahead (hr.mono (by omega)) T.b_Reader_ahead .nil pass0) pe_str (nomark _))
      (pss_cons (ps_expr (pe_meth (pv 1) T.cl_Reader T.me_Reader_pass_over G_Reader_pass_over (hr.mono (by omega)) T.b_Reader_pass_over .nil passE (pa_cons pe_str pa_nil)))
      (pss_cons (ps_expr (pe_meth (pv 1) T.cl_Reader T.me_Reader_pass_over G_Reader_pass_over (hr.mono (by omega)) T.b_Reader_pass_over .nil passE (pa_cons pe_str pa_nil)))
      (pss_cons (ps_expr (pe_bm PySem.F.plainAttrs_list PySem.F.slot_list_append PySem.F.type_list_append mt_append (pv 2) (pa_cons (pe_meth0 (pv 1) T.cl_Reader T.me_Reader_take_name G_Reader_take_name (hr.mono (by omega)) T.b_Reader_take_name .nil passE) pa_nil)))
      (pss_cons (ps_expr (pe_bm PySem.F.plainAttrs_list PySem.F.slot_list_append PySem.F.type_list_append mt_append (pv 3) (pa_cons (pe_meth (pv 1) T.cl_Reader T.me_Reader_take_expr G_Reader_take_expr (hr.mono (by omega)) T.b_Reader_take_expr .nil passE (pa_cons pe_int pa_nil)) pa_nil)))
      (pss_one (ps_expr (pe_meth (pv 1) T.cl_Reader T.me_Reader_pass_over G_Reader_pass_over (hr.mono (by omega)) T.b_Reader_pass_over .nil passE (pa_cons pe_str pa_nil)))))))))
    (pss_cons (ps_expr (pe_call G_check_count (hr.mono (by omega)) rfl T.m_check_count T.k_check_count T.b_check_count .nil passE (pa_cons pe_str (pa_cons (pe_callB call_len_seq rfl T.z_len bt_len (pa_cons (pv 2) pa_nil)) (pa_cons pe_int (pa_cons (pe_gI rfl T.m_MOST_DEFINITIONS) pa_nil))))))
    (pss_one (ps_ret (pe_make T.mk_Program G_Program___init__ (hr.mono (by omega)) rfl T.m_Program T.b_Program___init__ .nil pass0 (pa_cons (pv 2) (pa_cons (pv 3) (pa_cons (pe_fld (pv 1) rfl) pa_nil))))))))))), ?_⟩
  have sl : sizeLine = 16777216 := sizeLine_eq
  obtain ⟨rp1, rp2, rp3⟩ := rp_short
  refine ⟨_, rfl, x, rfl, hx, fun wl H1 s1 nwl hwl p dx np ndx nex => ?_⟩
  rw [hw] at hwl
  have wp : wl ≠ p := ne_of_none hwl np
  have wdx : wl ≠ dx := ne_of_none hwl ndx
  refine ⟨p, dx, wl, ws, rfl, upd_same, by rw [upd_ne wp, upd_ne wdx]; exact hwl, fun rl H2 nrl R2 keep => ⟨rfl, ?_⟩⟩
  have np0 : H p = none := s1.free np
  have S1 : Same H (upd (upd H1 dx (.own p)) p (.ins T.a_Reader dx [])) := same_at _ np0 (same_at _ (s1.free ndx) s1)
  have nr0 : H rl = none := S1.free nrl
  have S2 : Same H H2 := fun b o e => keep b o (S1 b o e) (ne_of_none e np0)
  refine ⟨(by show 0 ≤ sizeLine; decide), fun nl hnl => ⟨(by show 0 ≤ sizeLine; decide), fun tl htl => ?_⟩⟩
  have nn0 : H nl = none := S2.free hnl
  have S3 : Same H (upd H2 nl (.lst [])) := S2.trans (same_new hnl _)
  have nt0 : H tl = none := S3.free htl
  have S4 : Same H (upd (upd H2 nl (.lst [])) tl (.lst [])) := S3.trans (same_new htl _)
  have R4' := (R2.same (same_new hnl (.lst []))).same (same_new htl (.lst []))
  have R4 : RS K T.a_Reader (upd (upd H2 nl (.lst [])) tl (.lst [])) p dx wl rl ws ws [] := ⟨0, [], R4', rfl, Nat.zero_le _, .nil⟩
  have ntn : nl ≠ tl := ne_of_none upd_same htl
  have hN4 : upd (upd H2 nl (.lst [])) tl (.lst []) nl = some (.lst []) := by rw [upd_ne ntn]; exact upd_same
  have hT4 : upd (upd H2 nl (.lst [])) tl (.lst []) tl = some (.lst []) := upd_same
  have pn : nl ≠ p := Ne.symm (ne_of_none R2.ob hnl)
  have rn : nl ≠ rl := Ne.symm (ne_of_none R2.rw hnl)
  have pt : tl ≠ p := Ne.symm (ne_of_none (R2.same (same_new hnl (.lst []))).ob htl)
  have rt : tl ≠ rl := Ne.symm (ne_of_none (R2.same (same_new hnl (.lst []))).rw htl)
  have wn : nl ≠ wl := Ne.symm (ne_of_none R2.wd hnl)
  have wt : tl ≠ wl := Ne.symm (ne_of_none (R2.same (same_new hnl (.lst []))).wd htl)
  have wlen := W.len
  have ra : readA ws = match defsA ws [] [] [] with
    | none => none
    | some (n, r, rows) => if 1 ≤ n.length ∧ n.length ≤ 12 then some (n, r, rows) else none := by rw [readA] <;> rfl
  generalize hH4 : upd (upd H2 nl (.lst [])) tl (.lst []) = H4 at R4 S4 hN4 hT4
  refine ⟨fun m σ H5 => ∃ (names : List Str) (roots : List Dt) (rtv : List V) (rest : List Str) (rows : List Dt), m = rest.length ∧ σ = [some (.str x), some (.ref p), some (.ref nl), some (.ref tl)] ∧ RS K T.a_Reader H5 p dx wl rl ws rest rows ∧ Same H H5 ∧ H5 nl = some (.lst (names.map V.str)) ∧ H5 tl = some (.lst rtv) ∧ TAts K H5 rtv roots ∧ names.length + rest.length ≤ 30000 ∧ roots.length = names.length ∧ rows.length ≤ 160 ∧ defsA ws [] [] [] = defsA rest rows names roots,
    ⟨_, [], [], [], ws, [], rfl, rfl, R4, S4, hN4, hT4, .nil, (by show 0 + _ ≤ _; omega), rfl, Nat.zero_le _, rfl⟩, ?_⟩
  rintro m σ H5 ⟨names, roots, rtv, rest, rows, rfl, rfl, R5, S5, hN5, hT5, ht5, hlen, hlr, hrows, heq⟩
  obtain ⟨k5, hk5⟩ := R5.ob
  have lroot := ht5.length
  refine ⟨_, rfl, p, dx, _, rfl, hk5, fR_meth _ _ _ _ (.inl rfl), ?_⟩
  refine tn0 ?_
  refine ah_ok R5 W ?_
  refine ⟨rfl, _, rfl, ?_⟩
  by_cases hnil : rest = []
  · subst hnil
    rw [show decide (V.str (([] : List Str).headD "") = V.str "") = true by decide +kernel]
    rw [defs_nil] at heq
    rw [heq] at ra
    have ra' : readA ws = if 1 ≤ names.length ∧ names.length ≤ 12 then some (names, roots, rows) else none := ra
    have lm : (names.map V.str).length = names.length := List.length_map ..
    refine iteF ⟨_, rfl, nl, _, rfl, .inl (SqL.of hN5), "definitions", (names.map V.str).length, 1, 12, rfl, by decide +kernel, by omega, by decide, by decide, fun hc => ?_, fun hc => ?_⟩
    · rw [lm] at hc
      rw [if_pos hc] at ra'
      refine ⟨_, rfl, _, rfl, _, rfl, p, _, dx, _, _, rfl, hk5, T.cl_Reader, T.n_Reader_rows, fR_rows _ _ _, fun g dg ng ndg neg => ?_⟩
      refine ⟨g, dg, nl, tl, rl, rfl, upd_same, fun H6 hg keep6 => ⟨rfl, ?_⟩⟩
      have k6 : Same H5 H6 := fun b o e => keep6 b o (by rw [upd_ne (ne_of_none e ng), upd_ne (ne_of_none e ndg)]; exact e) (ne_of_none e ng)
      obtain ⟨k, rv, R5', h1, h2, h3⟩ := R5
      have kk : K2 p rl H5 H6 := Same.k2 k6
      exact q names roots rows g nl tl rl rtv rv H6 ra' (S5.trans k6) nn0 nt0 nr0 ⟨⟨dg, hg⟩, k6 _ _ hN5, k6 _ _ hT5, k6 _ _ R5'.rw, ntn, rn, rt⟩ (ht5.mono fun a xs t => RdAt.tpT R5' kk t) (h3.mono fun a xs t => RdAt.tpT R5' kk t)
    · rw [lm] at hc
      rw [if_neg hc] at ra'
      exact qe ra' H5 S5
  · have e1 : ¬ V.str (rest.headD "") = V.str "" := fun z => by
      injection z with z
      cases rest with
      | nil => exact hnil rfl
      | cons a r => exact (W.one a (R5.mem a (List.mem_cons_self ..))).1 z
    rw [decide_eq_false e1]
    have fail : ∀ {H' : Hp}, defsA rest rows names roots = none → K2 p rl H5 H' → E (.ref T.a_BadText) none H' := fun {H'} z k => by
      refine qe ?_ H' (same_k2 np0 nr0 S5 k)
      rw [ra, heq, z]
    refine iteT ⟨_, fun σ' H' z => z, ?_⟩
    refine ⟨_, rfl, p, dx, _, rfl, hk5, fR_meth _ _ _ _ (by simp), ?_⟩
    refine tc1 ?_
    refine ps_ok R5 W rp1 (fun r1 H6 e6 R6 k6 => ?_) (fun ne H6 k6 => fail (defs_no1 hnil ne) k6)
    subst e6
    obtain ⟨k6', hk6⟩ := R6.ob
    refine ⟨_, rfl, p, dx, _, rfl, hk6, fR_meth _ _ _ _ (by simp), ?_⟩
    refine tc1 ?_
    refine ps_ok R6 W rp2 (fun r2 H7 e7 R7 k7 => ?_) (fun ne H7 k7 => fail (defs_no2 ne) (k6.trans k7))
    subst e7
    have kk7 := k6.trans k7
    have hN7 : H7 nl = some (.lst (names.map V.str)) := kk7 _ _ hN5 pn rn
    obtain ⟨k7', hk7⟩ := R7.ob
    refine ⟨_, rfl, .inl ⟨rfl, _, SqL.of hN7⟩, _, rfl, p, dx, _, rfl, hk7, fR_meth _ _ _ _ (by simp), ?_⟩
    refine tn0 ?_
    refine nm_ok R7 W (fun c r3 H8 e8 hc R8 k8 => ?_) (fun hno H8 k8 => fail (defs_no3 hno) (kk7.trans k8))
    subst e8
    have kk8 := kk7.trans k8
    have hN8 : H8 nl = some (.lst (names.map V.str)) := kk8 _ _ hN5 pn rn
    have hT8 : H8 tl = some (.lst rtv) := kk8 _ _ hT5 pt rt
    simp only [List.length_cons] at hlen
    refine ⟨nl, _, _, rfl, rfl, hN8, (by rw [List.length_map]; omega), ?_⟩
    have R9 := R8.other (o := .lst (names.map V.str ++ [.str c])) hN8 pn wn rn
    have S8 := same_k2 np0 nr0 S5 kk8
    have S9 : Same H (upd H8 nl (.lst (names.map V.str ++ [.str c]))) := same_at _ nn0 S8
    have hT9 : upd H8 nl (.lst (names.map V.str ++ [.str c])) tl = some (.lst rtv) := by rw [upd_ne (Ne.symm ntn)]; exact hT8
    have ht9 := (R5.tats kk8 ht5).other (o := .lst (names.map V.str ++ [.str c])) hN8
    obtain ⟨k9', hk9⟩ := R9.ob
    refine ⟨_, rfl, .inl ⟨rfl, _, SqL.of hT9⟩, _, rfl, p, dx, _, rfl, hk9, fR_meth _ _ _ _ (by simp), ?_⟩
    refine tc1 ?_
    refine ⟨p, dx, wl, rl, ws, r3, rows, rfl, R9, W, hrows, fun r4 rows4 H10 e10 R10 k10 => ?_, fun e10 H10 k10 => ?_⟩
    · have hN10 : H10 nl = some (.lst (names.map V.str ++ [.str c])) := k10 _ _ upd_same pn rn
      have hT10 : H10 tl = some (.lst rtv) := k10 _ _ hT9 pt rt
      have S10 := same_k2 np0 nr0 S9 k10
      obtain ⟨st, lt, _⟩ := expr_good 24 _ _ _ e10
      refine ⟨tl, _, _, rfl, rfl, hT10, (by omega), ?_⟩
      have R11 := R10.other (o := .lst (rtv ++ [.int (rows.length : Int)])) hT10 pt wt rt
      have ht11 := ((R9.tats k10 ht9).snoc (.flat (v := .int (rows.length : Int)) rfl)).other (o := .lst (rtv ++ [.int (rows.length : Int)])) hT10
      have hN11 : upd H10 tl (.lst (rtv ++ [.int (rows.length : Int)])) nl = some (.lst (names.map V.str ++ [.str c])) := by rw [upd_ne ntn]; exact hN10
      have S11 : Same H (upd H10 tl (.lst (rtv ++ [.int (rows.length : Int)]))) := same_at _ nt0 S10
      obtain ⟨k11', hk11⟩ := R11.ob
      refine ⟨_, rfl, p, dx, _, rfl, hk11, fR_meth _ _ _ _ (by simp), ?_⟩
      refine tc1 ?_
      refine ps_ok R11 W rp3 (fun r5 H12 e12 R12 k12 => ?_) (fun ne H12 k12 => ?_)
      · subst e12
        have lt' : r5.length + 1 < r3.length := lt
        refine ⟨r5.length, (by simp only [List.length_cons]; omega), names ++ [c], roots ++ [.flat (.int (rows.length : Int))], _, r5, rows4, rfl, rfl, R12, same_k2 np0 nr0 S11 k12, ?_, k12 _ _ upd_same pt rt, R11.tats k12 ht11, ?_, ?_, st.most hrows, ?_⟩
        · rw [List.map_append]
          exact k12 _ _ hN11 pn rn
        · rw [List.length_append]
          show names.length + 1 + _ ≤ _
          omega
        · rw [List.length_append, List.length_append, hlr]
          rfl
        · rw [heq, defs_yes hc e10]
      · refine qe ?_ H12 (same_k2 np0 nr0 S11 k12)
        rw [ra, heq, defs_no5 hc e10 ne]
    · refine qe ?_ H10 (same_k2 np0 nr0 S9 k10)
      rw [ra, heq, defs_no4 hc e10]
end
end K05.Internal
namespace K05.Internal
open PySem L2.Internal BO.Internal
seal L2.Internal.PE L2.Internal.PA L2.Internal.PS L2.Internal.PSs L2.Internal.PT L2.Internal.PI
open TM.Internal GR.Internal in
theorem nm_kept : ∀ w ∈ (["def", "fn", "call", "let", "rec", "get", "tag", "case", "row", "at", "join", "size", "add", "sub", "less"] : List Str), isName (w ++ "0") = true := by decide +kernel
theorem same_upd {H H2 : Hp} {l : Addr} (s : Same H H2) (h : H l = none) (o : HO) : Same H (upd H2 l o) := fun b u e => by rw [upd_ne (ne_of_none e h)]; exact s b u e
theorem sg26 : ("abcdefghijklmnopqrstuvwxyz" : Str).cps.toList.length = 26 := by decide +kernel
theorem sg36 : ("abcdefghijklmnopqrstuvwxyz0123456789" : Str).cps.toList.length = 36 := by decide +kernel
theorem sg36_in : ∀ c ∈ ("abcdefghijklmnopqrstuvwxyz0123456789" : Str).cps.toList, c ∈ (GR.Internal.SM ++ GR.Internal.FG).cps.toList := by decide +kernel
theorem app_list (a b : Str) : (a ++ b).cps.toList = a.cps.toList ++ b.cps.toList := Array.toList_append
theorem one_len (c : Nat) : (⟨#[c]⟩ : Str).length = 1 := rfl
theorem sm_sub : ∀ c ∈ GR.Internal.SM.cps.toList, c ∈ (GR.Internal.SM ++ GR.Internal.FG).cps.toList := by decide +kernel
theorem inV_mem {w : Str} {l : List Str} (h : inV (.str w) (l.map V.str) = true) : w ∈ l := by
  unfold inV at h
  obtain ⟨y, hy, e⟩ := List.any_eq_true.mp h
  obtain ⟨x, hx, rfl⟩ := List.mem_map.mp hy
  have : x = w := by simpa [eqV] using e
  exact this ▸ hx
noncomputable def NW (w : Str) (n : Nat) : Prop := w.length = n ∧ (∃ c r, w.cps.toList = c :: r ∧ c ∈ GR.Internal.SM.cps.toList) ∧ ∀ c ∈ w.cps.toList, c ∈ (GR.Internal.SM ++ GR.Internal.FG).cps.toList
theorem NW.name {w : Str} {n : Nat} (h : NW w n) (h1 : 1 ≤ n) (h2 : n ≤ 12) (hk : inV (.str w) GR.Internal.KWV = false) : GR.Internal.isName w = true := by
  obtain ⟨l, ⟨c, r, e, hc⟩, ha⟩ := h
  unfold GR.Internal.isName
  have f1 : GR.Internal.firstIn w GR.Internal.SM = true := by unfold GR.Internal.firstIn; rw [e]; exact decide_eq_true hc
  have f2 : GR.Internal.allIn w (GR.Internal.SM ++ GR.Internal.FG) = true := List.all_eq_true.mpr fun c hc => decide_eq_true (ha c hc)
  rw [l, decide_eq_true h1, decide_eq_true h2, hk, f1, f2]
  rfl
section
variable {P : Program} {w : World} {K : PySem.W.Frag} {mg : Str → Option Value} {base : Heap}
noncomputable def sp__law_name : Sp := fun vs H Q _ => ∃ c : Int, vs = [.int c] ∧ ∀ (x : Str) (H' : Hp), Same H H' → GR.Internal.isName x = true → Q (.str x) H'
theorem ok__law_name (T : Txt K mg) : FnOk P w K mg base CX0 1 T.a__law_name T.fd__law_name ["_law_cell"] sp__law_name := by
  refine T.F__law_name.ok sc__law_name (fun vs H Q E h => ?_) (fun cdv A outer s H vs Q E hr h => ?_)
  · obtain ⟨c, rfl, _⟩ := h
    rfl
  obtain ⟨c, rfl, q⟩ := h
  refine ⟨_, (pss_cons (ps_set (i := 1) sc__law_name.nd rfl (Or.inl rfl) (pe_op oc_mod (cv 0) pe_int))
    (pss_cons (ps_set (i := 2) sc__law_name.nd rfl (Or.inl rfl) (pe_ix xc_str pe_str (pe_op oc_mod (cv 1) pe_int) (fun _ _ => rfl)))
    (pss_cons (ps_for PassesOwn.never rfl (pi_range1 rfl T.z_range (pa_cons (pe_op oc_mod (pe_op oc_fdiv (cv 1) pe_int) pe_int) pa_nil)) (pg_name (i := 3) sc__law_name.nd rfl (Or.inl rfl))
      (pss_cons (ps_set (i := 1) sc__law_name.nd rfl (Or.inl rfl) (pe_op oc_mod (pe_op oc_mul (pe_op oc_add (pe_op oc_add (cv 1) (cv 3)) pe_int) pe_int) pe_int))
      (pss_one (ps_set (i := 2) sc__law_name.nd rfl (Or.inl rfl) (pe_op oc_addS (cv 2) (pe_ix xc_str pe_str (pe_op oc_mod (pe_op oc_fdiv (cv 1) pe_int) pe_int) (fun _ _ => rfl)))))))
    (pss_cons (ps_set (i := 4) sc__law_name.nd rfl (Or.inl rfl) (pe_lst (pa_strs (xs := ["def", "fn", "call", "let", "rec", "get", "tag", "case", "row", "at", "join", "size", "add", "sub", "less"]) (by decide +kernel))))
    (pss_cons (ps_if (ptc_cmpR op_in_seq (cv 2) (cv 4) rfl)
      (pss_one (ps_ret (pe_op oc_addS (cv 2) pe_str)))
      pss_nil)
    (pss_one (ps_ret (cv 2)))))))), ?_⟩
  have sl : sizeLine = 16777216 := sizeLine_eq
  refine ⟨(by show (0 : Int) < 2147483647; decide), ?_⟩
  dsimp only [gName]
  generalize c % 2147483647 = n
  obtain ⟨c0, e0, m0⟩ := atI_lt ("abcdefghijklmnopqrstuvwxyz" : Str).cps.toList (n % 26) (Int.emod_nonneg _ (by decide)) (by rw [sg26]; exact Int.emod_lt_of_pos _ (by decide))
  have k0 : 0 ≤ n / 26 % 12 := Int.emod_nonneg _ (by decide)
  have k1 : n / 26 % 12 < 12 := Int.emod_lt_of_pos _ (by decide)
  refine ⟨(by show (0 : Int) < 26; decide), sz (by decide +kernel), onS_of e0 ⟨⟨by decide, by decide⟩, (by show (0 : Int) < 12; decide), _, rfl, by omega, by omega, for_range (fun i σ H2 => ∃ (n : Int) (x : Str) (o : Option V), σ = [some (.int c), some (.int n), some (.str x), o, none] ∧ H2 = H ∧ NW x (i + 1)) ⟨n, _, none, rfl, rfl, rfl, ⟨c0, [], rfl, m0⟩, fun c hc => by
      have : c = c0 := by simpa using hc
      rw [this]
      exact sm_sub _ m0⟩ ?_ ?_⟩⟩
  · rintro i σ H2 hi ⟨n, x, o, rfl, rfl, hx⟩
    have hi12 : i < 12 := by omega
    refine ⟨.inr ⟨by decide, by decide⟩, (by show (0 : Int) < 2147483647; decide), ?_⟩
    dsimp only [gName]
    generalize (n + (0 + (i : Int)) + 1) * 48271 % 2147483647 = n2
    obtain ⟨c1, e1, m1⟩ := atI_lt ("abcdefghijklmnopqrstuvwxyz0123456789" : Str).cps.toList (n2 / 16 % 36) (Int.emod_nonneg _ (by decide)) (by rw [sg36]; exact Int.emod_lt_of_pos _ (by decide))
    obtain ⟨l, ⟨c2, r, e2, m2⟩, ha⟩ := hx
    refine ⟨⟨by decide, by decide⟩, (by show (0 : Int) < 36; decide), sz (by decide +kernel), onS_of e1 ⟨by rw [one_len]; omega, _, _, _, rfl, rfl, by rw [Str.length_append, one_len]; omega, ⟨c2, r ++ [c1], by rw [app_list, e2]; rfl, m2⟩, fun c hc => ?_⟩⟩
    rw [app_list] at hc
    rcases List.mem_append.mp hc with hc | hc
    · exact ha c hc
    · have : c = c1 := by simpa using hc
      rw [this]
      exact sg36_in _ m1
  · rintro σ H2 ⟨n', x, o, rfl, rfl, hx⟩
    have ln : (n / 26 % 12).toNat + 1 ≤ 12 := by omega
    refine ⟨(by show 15 ≤ sizeLine; decide), fun l hl => ?_⟩
    have s1 := same_new hl (.lst ((["def", "fn", "call", "let", "rec", "get", "tag", "case", "row", "at", "join", "size", "add", "sub", "less"] : List Str).map V.str))
    refine ⟨l, _, rfl, .inl (SqL.of upd_same), rfl, by decide +kernel, ?_⟩
    dsimp only [onB]
    rw [if_neg Bool.false_ne_true]
    cases hk : inV (.str x) ((["def", "fn", "call", "let", "rec", "get", "tag", "case", "row", "at", "join", "size", "add", "sub", "less"] : List Str).map V.str) with
    | true => exact iteT ⟨by have := hx.1; show x.length + 1 ≤ sizeLine; omega, q _ _ s1 (nm_kept x (inV_mem hk))⟩
    | false => exact iteF (q x _ s1 (hx.name (by omega) (by omega) hk))
end
end K05.Internal
namespace K05.Internal
open PySem L2.Internal BO.Internal
seal L2.Internal.PE L2.Internal.PA L2.Internal.PS L2.Internal.PSs L2.Internal.PT L2.Internal.PI
open TM.Internal in
noncomputable def pr1 : List Str → List Dt → List Dt
  | w :: l, k :: ks => .tup [sD w, k] :: pr1 l ks
  | _, _ => []
open TM.Internal in
noncomputable def pr2 : List (Str × Str) → List Dt → List Dt
  | p :: l, k :: ks => .tup [sD p.1, sD p.2, k] :: pr2 l ks
  | _, _ => []
open TM.Internal in
noncomputable def _root_.TM.Internal.Kn.td (κ : Kn) (ks : List Dt) : Dt := match κ, ks with
  | .num n, _ => .lst [sD "num", .flat (.int n)]
  | .name w, _ => .lst [sD "name", sD w]
  | .fn w, ks => .lst (sD "fn" :: sD w :: ks)
  | .tag w, ks => .lst (sD "tag" :: sD w :: ks)
  | .lt w, ks => .lst (sD "let" :: sD w :: ks)
  | .get w, ks => .lst (sD "get" :: (ks ++ [sD w]))
  | .rcd l, ks => .lst [sD "rec", .tup (pr1 l ks)]
  | .case l, k :: ks => .lst [sD "case", k, .tup (pr2 l ks)]
  | .case _, [] => .lst []
  | .row _, ks => .lst [sD "row", .tup ks]
  | .op s _, ks => .lst (sD s :: ks)
mutual
noncomputable def _root_.TM.Internal.Tr.td : TM.Internal.Tr → Dt
  | .mk κ ks => κ.td (trds ks)
noncomputable def trds : List TM.Internal.Tr → List Dt
  | [] => []
  | t :: ts => t.td :: trds ts
end
theorem trds_map : ∀ ts : List TM.Internal.Tr, trds ts = ts.map TM.Internal.Tr.td
  | [] => rfl
  | t :: ts => by rw [trds, trds_map ts]; rfl
noncomputable def iD (k : Nat) : Dt := .flat (.int (k : Int))
noncomputable def itD (t : TM.Internal.Tr) : Dt := .lst [t.td, iD t.nest, iD t.sz]
noncomputable def Gd (t : TM.Internal.Tr) : Prop := t.ok ∧ t.nest ≤ 24 ∧ t.sz ≤ 160
noncomputable def FrD (D : Addr) (H H' : Hp) : Prop := ∀ a o, H a = some o → a ≠ D → H' a = some o
noncomputable def noD (N : Hp) (D : Addr) : Hp := fun a => if a = D then none else N a
theorem noD_of {N : Hp} {D a : Addr} {u : HO} (h : a ≠ D) (e : N a = some u) : noD N D a = some u := by unfold noD; rw [if_neg h]; exact e
theorem noD_inv {N : Hp} {D a : Addr} {u : HO} (e : noD N D a = some u) : a ≠ D ∧ N a = some u := by
  unfold noD at e
  by_cases h : a = D
  · rw [if_pos h] at e; cases e
  · rw [if_neg h] at e; exact ⟨h, e⟩
theorem noD_sub {N : Hp} {D : Addr} : Same (noD N D) N := fun b u e => (noD_inv e).2
theorem FrD.trans {D : Addr} {H H1 H2 : Hp} (a : FrD D H H1) (b : FrD D H1 H2) : FrD D H H2 := fun x o e n => b x o (a x o e n) n
theorem FrD.upd (D : Addr) (H : Hp) (o : HO) : FrD D H (L2.Internal.upd H D o) := fun a u e n => by rw [upd_ne n]; exact e
theorem _root_.L2.Internal.Same.frD {D : Addr} {H H' : Hp} (s : Same H H') : FrD D H H' := fun a o e _ => s a o e
theorem dtas_app {H : Hp} : ∀ {xs ys : List V} {ds es : List Dt}, Dtas H xs ds → Dtas H ys es → Dtas H (xs ++ ys) (ds ++ es)
  | _, _, _, _, .nil, h => h
  | _, _, _, _, .cons h t, h' => .cons h (dtas_app t h')
theorem dtas_get {H : Hp} : ∀ {xs : List V} {ds : List Dt} {j : Nat} {x : V}, Dtas H xs ds → xs[j]? = some x → ∃ d, ds[j]? = some d ∧ Dta H x d
  | _, _, 0, _, .cons h _, e => ⟨_, rfl, by cases e; exact h⟩
  | _, _, j + 1, _, .cons _ t, e => by
    rw [List.getElem?_cons_succ] at e
    obtain ⟨d, e1, e2⟩ := dtas_get t e
    exact ⟨d, by rw [List.getElem?_cons_succ]; exact e1, e2⟩
theorem dtas_len {H : Hp} : ∀ {xs : List V} {ds : List Dt}, Dtas H xs ds → xs.length = ds.length
  | _, _, .nil => rfl
  | _, _, .cons _ t => by rw [List.length_cons, List.length_cons, dtas_len t]
theorem dtas_split {H : Hp} : ∀ {xs ys : List V} {ds : List Dt}, Dtas H (xs ++ ys) ds → ∃ d1 d2, ds = d1 ++ d2 ∧ Dtas H xs d1 ∧ Dtas H ys d2
  | [], ys, ds, h => ⟨[], ds, rfl, .nil, h⟩
  | x :: xs, ys, _, .cons h t => by
    obtain ⟨d1, d2, rfl, h1, h2⟩ := dtas_split (xs := xs) t
    exact ⟨_ :: d1, d2, rfl, .cons h h1, h2⟩
theorem ifc {A B u : TS} {D : Ends} {σ : St} {H : Hp} {t : TT} (b : Bool) (ht : ∀ R : Bool → Hp → Prop, R b H → t σ H R) (k : if b = true then A { D with nx := u D } σ H else B { D with nx := u D } σ H) : tSeq (tIfS t A B) u D σ H := ht _ k
theorem gd0 : Gd (.mk (.num 0) []) := by
  refine ⟨?_, ?_, ?_⟩
  · rw [TM.Internal.Tr.ok]; exact ⟨⟨by decide, by decide +kernel⟩, rfl, by rw [TM.Internal.oks]; trivial⟩
  · rw [TM.Internal.Tr.nest, TM.Internal.nests]; decide
  · rw [TM.Internal.Tr.sz, TM.Internal.szs]; decide
structure Gw (F H F' H' : Hp) : Prop where
  ff : Same F F'
  fh : Same F' H'
  no : ∀ a o, H a = some o → F a = none → F' a = none
  al : ∀ a o, H a = some o → ∃ o', H' a = some o'
theorem Gw.trans {F H F1 H1 F2 H2 : Hp} (a : Gw F H F1 H1) (b : Gw F1 H1 F2 H2) : Gw F H F2 H2 :=
  ⟨a.ff.trans b.ff, b.fh, fun x o e h => by
    obtain ⟨o1, e1⟩ := a.al x o e
    exact b.no x o1 e1 (a.no x o e h), fun x o e => by
    obtain ⟨o1, e1⟩ := a.al x o e
    exact b.al x o1 e1⟩
theorem Gw.new {F H : Hp} {a : Addr} (s : Same F H) (h : H a = none) (o : HO) : Gw F H (upd F a o) (upd H a o) := by
  have hf : F a = none := s.free h
  refine ⟨same_new hf o, fun b u e => ?_, fun x u e hx => ?_, fun x u e => ⟨u, same_new h o _ _ e⟩⟩
  · by_cases z : b = a
    · rw [z, upd_same] at e ⊢; exact e
    · rw [upd_ne z] at e ⊢; exact s _ _ e
  · rw [upd_ne (ne_of_none e h)]; exact hx
theorem Gw.mut {F H : Hp} {a : Addr} (s : Same F H) (h : H a = none) (o : HO) : Gw F H F (upd H a o) := ⟨Same.refl _, s.trans (same_new h o), fun _ _ _ hx => hx, fun x u e => ⟨u, same_new h o _ _ e⟩⟩
theorem Gw.put {F H : Hp} {a : Addr} (s : Same F H) (hf : F a = none) (o : HO) : Gw F H F (upd H a o) := ⟨Same.refl _, same_upd s hf o, fun _ _ _ hx => hx, fun x u e => by
  by_cases z : x = a
  · rw [z]; exact ⟨o, upd_same⟩
  · exact ⟨u, by rw [upd_ne z]; exact e⟩⟩
theorem Gw.fix {F H : Hp} {a : Addr} {o : HO} (s : Same F H) (hf : F a = none) (e : H a = some o) : Same F (upd F a o) ∧ Same (upd F a o) H := ⟨same_new hf o, fun b u eb => by
  by_cases z : b = a
  · rw [z, upd_same] at eb; rw [z, e]; exact eb
  · rw [upd_ne z] at eb; exact s _ _ eb⟩
noncomputable def Sb (ts' ts : List TM.Internal.Tr) : Prop := ts'.length ≤ ts.length ∧ ∀ x ∈ ts', x ∈ ts
theorem Sb.refl (ts : List TM.Internal.Tr) : Sb ts ts := ⟨Nat.le_refl _, fun _ h => h⟩
theorem Sb.trans {a b c : List TM.Internal.Tr} (h : Sb a b) (k : Sb b c) : Sb a c := ⟨Nat.le_trans h.1 k.1, fun x hx => k.2 x (h.2 x hx)⟩
section
variable {P : Program} {w : World} {K : PySem.W.Frag} {mg : Str → Option Value} {base : Heap}
noncomputable def Stk (F H : Hp) (st : Addr) (ts : List TM.Internal.Tr) : Prop := ∃ vs, H st = some (.lst vs) ∧ Dtas F vs (ts.map itD) ∧ ts.length ≤ 100 ∧ (∀ t ∈ ts, Gd t) ∧ F st = none
noncomputable def sp__law_pop : Sp := fun vs H Q _ => ∃ (F : Hp) (st : Addr) (ts : List TM.Internal.Tr), vs = [.ref st] ∧ Same F H ∧ Stk F H st ts ∧ ∀ (v : V) (t : TM.Internal.Tr) (ts' : List TM.Internal.Tr) (F' H' : Hp), Gw F H F' H' → FrD st H H' → Stk F' H' st ts' → Dta F' v (itD t) → Gd t → Sb ts' ts → (0 < ts.length → t ∈ ts) → Q v H'
theorem ok__law_pop (T : Txt K mg) : FnOk P w K mg base CX0 1 T.a__law_pop T.fd__law_pop ["_law_stack"] sp__law_pop := by
  refine T.F__law_pop.ok sc__law_pop (fun vs H Q E h => ?_) (fun cdv A outer s H vs Q E hr h => ?_)
  · obtain ⟨F, st, ts, rfl, _⟩ := h
    rfl
  obtain ⟨F, st, ts, rfl, SF, hS, q⟩ := h
  refine ⟨_, (pss_cons (ps_if (ptc_cmpR oc_eq (pe_callB call_len_seq rfl T.z_len bt_len (pa_cons (cv 0) pa_nil)) pe_int (nomark _))
      (pss_one (ps_ret (pe_lst (pa_cons (pe_lst (pa_cons pe_str (pa_cons pe_int pa_nil))) (pa_cons pe_int (pa_cons pe_int pa_nil))))))
      pss_nil)
    (pss_one (ps_ret (pe_bm0 PySem.F.plainAttrs_list PySem.F.slot_list_pop PySem.F.type_list_pop mt_pop (cv 0))))), ?_⟩
  obtain ⟨vs, e, d, l, g, fs⟩ := id hS
  have lv := dtas_len d
  rw [List.length_map] at lv
  refine ifc (decide (ts.length = 0)) (fun R h => ⟨st, _, rfl, .inl (SqL.of e), ?_⟩) ?_
  · show R (false ^^ decide ((vs.length : Int) = 0)) H
    rw [Bool.false_xor, lv, show decide ((ts.length : Int) = 0) = decide (ts.length = 0) from decide_eq_decide.mpr (by omega)]
    exact h
  · by_cases h0 : ts.length = 0
    · rw [decide_eq_true h0]
      refine iteT ⟨(by show 2 ≤ sizeLine; decide), fun p hp => ⟨(by show 3 ≤ sizeLine; decide), fun r hr' => ?_⟩⟩
      have g1 := Gw.new SF hp (.lst [.str "num", .int 0])
      have g2 := Gw.new g1.fh hr' (.lst [.ref p, .int 1, .int 1])
      have g12 := g1.trans g2
      have t12 := (same_new hp (.lst [.str "num", .int 0])).trans (same_new hr' (.lst [.ref p, .int 1, .int 1]))
      refine q (.ref r) (.mk (.num 0) []) ts _ _ g12 t12.frD ⟨vs, t12 _ _ e, d.same g12.ff, l, g, g12.no _ _ e fs⟩ ?_ gd0 (Sb.refl _) (fun h => absurd h (by omega))
      exact .lst upd_same (.cons (.lst (g2.ff _ _ upd_same) (.cons (.flat rfl) (.cons (.flat rfl) .nil))) (.cons (.flat rfl) (.cons (.flat rfl) .nil)))
    · rw [decide_eq_false h0]
      refine iteF ?_
      obtain ⟨v0, vz, ev⟩ : ∃ v0 vz, vs = vz ++ [v0] := ⟨_, _, (List.dropLast_concat_getLast (fun z => h0 (by rw [z] at lv; exact lv.symm))).symm⟩
      subst ev
      obtain ⟨d1, d2, ed, h1, h2⟩ := dtas_split d
      have ld2 := dtas_len h2
      obtain ⟨tz, t, rfl⟩ : ∃ tz t, ts = tz ++ [t] := ⟨_, _, (List.dropLast_concat_getLast (fun z => h0 (by rw [z]; rfl))).symm⟩
      rw [List.map_append] at ed
      have el : d1.length = (tz.map itD).length := by
        have := dtas_len h1
        rw [List.length_append, List.length_append] at lv
        rw [List.length_map]
        simp only [List.length_singleton] at lv
        omega
      obtain ⟨e1, e2⟩ := List.append_inj ed.symm el
      subst e1 e2
      refine ⟨.inl ⟨rfl, _, SqL.of e⟩, st, _, v0, rfl, rfl, e, by rw [List.length_append, List.length_singleton, Nat.add_sub_cancel, List.getElem?_append_right (Nat.le_refl _), Nat.sub_self]; rfl, ?_⟩
      rw [List.dropLast_concat]
      refine q v0 t tz F _ (Gw.put SF fs _) (FrD.upd st H _) ⟨vz, upd_same, h1, by rw [List.length_append] at l; omega, fun x hx => g x (List.mem_append_left _ hx), fs⟩ ?_ (g t (List.mem_append_right _ (List.mem_singleton.mpr rfl))) ⟨by rw [List.length_append]; omega, fun x hx => List.mem_append_left _ hx⟩ (fun _ => List.mem_append_right _ (List.mem_singleton.mpr rfl))
      cases h2 with
      | cons a b => exact a
noncomputable def sp__law_many : Sp := fun vs H Q _ => ∃ (F : Hp) (st : Addr) (ts : List TM.Internal.Tr) (m : Nat), vs = [.ref st, .int (m : Int)] ∧ Same F H ∧ Stk F H st ts ∧ m ≤ 20 ∧ ∀ (l : Addr) (xs : List TM.Internal.Tr) (ts' : List TM.Internal.Tr) (F' H' : Hp), Gw F H F' H' → FrD st H H' → Stk F' H' st ts' → Dta F' (.ref l) (.lst (xs.map itD)) → xs.length = m → (∀ x ∈ xs, Gd x) → Sb ts' ts → Q (.ref l) H'
theorem ok__law_many (T : Txt K mg) : FnOk P w K mg base CX0 2 T.a__law_many T.fd__law_many ["_law_stack", "_law_many_here"] sp__law_many := by
  have G__law_pop := ok__law_pop (P := P) (w := w) (base := base) T
  refine T.F__law_many.ok sc__law_many (fun vs H Q E h => ?_) (fun cdv A outer s H vs Q E hr h => ?_)
  · obtain ⟨F, st, ts, m, rfl, _⟩ := h
    rfl
  obtain ⟨F, st, ts, m, rfl, SF, hS, hm, q⟩ := h
  refine ⟨_, (pss_cons (ps_set (i := 2) sc__law_many.nd rfl (Or.inl rfl) (pe_lst pa_nil))
    (pss_cons (ps_for PassesOwn.never rfl (pi_range1 rfl T.z_range (pa_cons (cv 1) pa_nil)) (pg_name (i := 3) sc__law_many.nd rfl (Or.inl rfl))
      (pss_one (ps_expr (pec_app (pe_bm PySem.F.plainAttrs_list PySem.F.slot_list_append PySem.F.type_list_append mt_append (PE.mono (cv 2)) (pa_cons (PE.mono (pe_call G__law_pop (hr.mono (by decide)) rfl T.m__law_pop T.k__law_pop T.b__law_pop .nil pass0 (pa_cons (cv 0) pa_nil))) pa_nil))))))
    (pss_one (ps_ret (cv 2))))), ?_⟩
  have sl : sizeLine = 16777216 := sizeLine_eq
  obtain ⟨vs0, e0, d0, l0, g0, fs0⟩ := id hS
  refine ⟨(by show 0 ≤ sizeLine; decide), fun l hl => ?_⟩
  have s1 := same_new hl (.lst [])
  have w1 := Gw.mut SF hl (.lst [])
  have e1 : (upd H l (.lst [])) l = some (.lst []) := upd_same
  have nls : l ≠ st := (ne_of_none e0 hl).symm
  dsimp only [gName]
  generalize upd H l (.lst []) = H1 at s1 e1 w1 ⊢
  refine ⟨_, rfl, by omega, by omega, for_range (fun i σ H2 => ∃ (o : Option V) (vs : List V) (xs ts' : List TM.Internal.Tr) (F2 : Hp), σ = [some (.ref st), some (.int (m : Int)), some (.ref l), o] ∧ Gw F H F2 H2 ∧ FrD st H H2 ∧ Stk F2 H2 st ts' ∧ H2 l = some (.lst vs) ∧ F2 l = none ∧ Dtas F2 vs (xs.map itD) ∧ xs.length = i ∧ (∀ x ∈ xs, Gd x) ∧ Sb ts' ts)
    ⟨none, [], [], ts, F, rfl, w1, s1.frD, ⟨vs0, s1 _ _ e0, d0, l0, g0, fs0⟩, e1, SF.free hl, .nil, rfl, fun x hx => (by cases hx), Sb.refl _⟩ ?_ ?_⟩
  · rintro i σ H2 hi ⟨o, vs, xs, ts', F2, rfl, w2, fr, S2, e2, fl2, d2, lx, gx, lt⟩
    have him : i < m := by omega
    refine ⟨⟨_, e2⟩, F2, st, ts', rfl, w2.fh, S2, fun v t ts2 F3 H3 w3 F3r S3 dv gt l3 _ => ?_⟩
    have e3 := F3r _ _ e2 nls
    have lv := dtas_len d2
    rw [List.length_map] at lv
    have fl3 := w3.no _ _ e2 fl2
    obtain ⟨vs3, a1, a2, a3, a4, a5⟩ := S3
    refine ⟨_, e3, by omega, _, _, xs ++ [t], ts2, F3, rfl, (w2.trans w3).trans (Gw.put w3.fh fl3 _), fun b u eb nb => ?_, ⟨vs3, by rw [upd_ne (fun z => nls z.symm)]; exact a1, a2, a3, a4, a5⟩, upd_same, fl3, ?_, by rw [List.length_append, lx]; rfl, fun x hx => ?_, l3.trans lt⟩
    · rw [upd_ne (ne_of_none eb hl)]
      exact F3r _ _ (fr b u eb nb) nb
    · rw [List.map_append]
      exact dtas_app (d2.same w3.ff) (.cons dv .nil)
    · rcases List.mem_append.mp hx with hx | hx
      · exact gx x hx
      · rw [List.mem_singleton] at hx; rw [hx]; exact gt
  · rintro σ H2 ⟨o, vs, xs, ts', F2, rfl, w2, fr, S2, e2, fl2, d2, lx, gx, lt⟩
    obtain ⟨x1, x2⟩ := Gw.fix w2.fh fl2 e2
    obtain ⟨vs3, a1, a2, a3, a4, a5⟩ := S2
    refine q l xs ts' (upd F2 l (.lst vs)) H2 ⟨w2.ff.trans x1, x2, fun a o ea ha => ?_, w2.al⟩ fr ⟨vs3, a1, a2.same x1, a3, a4, by rw [upd_ne (fun z => nls z.symm)]; exact a5⟩ (.lst upd_same (d2.same x1)) (by omega) gx lt
    rw [upd_ne (ne_of_none ea hl)]
    exact w2.no a o ea ha
end
end K05.Internal
namespace K05.Internal
open PySem L2.Internal BO.Internal
seal L2.Internal.PE L2.Internal.PA L2.Internal.PS L2.Internal.PSs L2.Internal.PT L2.Internal.PI
noncomputable def fz (H F H' : Hp) : Hp := fun a => match H a with
  | none => H' a
  | some _ => F a
theorem fz_new {H F H' : Hp} {a : Addr} {u : HO} (h : H a = none) (e : H' a = some u) : fz H F H' a = some u := by unfold fz; rw [h]; exact e
theorem fz_old {H F H' : Hp} (s : Same F H) : Same F (fz H F H') := fun b u e => by unfold fz; rw [s _ _ e]; exact e
theorem fz_inv {H F H' : Hp} {a : Addr} {u : HO} (e : fz H F H' a = some u) : (H a = none ∧ H' a = some u) ∨ ((∃ o, H a = some o) ∧ F a = some u) := by
  unfold fz at e
  cases h : H a with
  | none => rw [h] at e; exact .inl ⟨rfl, e⟩
  | some o => rw [h] at e; exact .inr ⟨⟨o, rfl⟩, e⟩
theorem fz_gw {H F H' : Hp} (s : Same F H) (t : Same H H') : Gw F H (fz H F H') H' := by
  refine ⟨fz_old s, fun b u e => ?_, fun a o e h => by unfold fz; rw [e]; exact h, fun a o e => ⟨o, t _ _ e⟩⟩
  rcases fz_inv e with ⟨_, h⟩ | ⟨_, h⟩
  · exact h
  · exact t _ _ (s _ _ h)
theorem fz_fr {H F H' H'' : Hp} {D : Addr} (s : FrD D H' H'') : Same (noD (fz H F H') D) (noD (fz H F H'') D) := fun b u e => by
  obtain ⟨h1, h2⟩ := noD_inv e
  refine noD_of h1 ?_
  rcases fz_inv h2 with ⟨a, h⟩ | ⟨⟨o, a⟩, h⟩
  · exact fz_new a (s _ _ h h1)
  · unfold fz; rw [a]; exact h
theorem fz_same {H F H' H'' : Hp} (s : Same H' H'') : Same (fz H F H') (fz H F H'') := fun b u e => by
  rcases fz_inv e with ⟨a, h⟩ | ⟨⟨o, a⟩, h⟩
  · exact fz_new a (s _ _ h)
  · unfold fz; rw [a]; exact h
theorem lc_genF {J : It} {i : Nat} {te : TE} {Q : VK} {τ : St} {H1 : Hp} {D : Addr} (n : Nat) (hn : n < sizeLine) (R : List V → Hp → Prop) (hR : ∀ xs H H', R xs H → FrD D H H' → R xs H') (hD : H1 D = none) (hτ : τ.set i none = τ)
    (hgo : ∀ k H, Same H1 H → k < n → J.go k H) (hst : ∀ H, Same H1 H → J.stop n H) (h0 : R [] H1)
    (step : ∀ k H v H3 xs (Z : VK), Same H1 H → k < n → J.yld k H v H3 → R xs H → xs.length = k → H D = some (.lst xs) → (∀ y H5, Same H H5 → R (xs ++ [y]) H5 → Z y H5) → te (τ.set i (some v)) H3 Z)
    (hq : ∀ H' xs, Same H1 H' → R xs H' → xs.length = n → H' D = some (.lst xs) → Q (.ref D) H') : LcP J i tAlways te Q τ H1 D := by
  have nd : ∀ (H5 : Hp) (o : HO), FrD D H5 (upd H5 D o) := fun H5 o a u e n => by rw [upd_ne n]; exact e
  have up : ∀ {H : Hp} (o : HO), Same H1 H → Same H1 (upd H D o) := fun {H} o S b u e => by rw [upd_ne (ne_of_none e hD)]; exact S b u e
  refine ⟨fun k m σ' H2 => m = n - k ∧ k ≤ n ∧ (∃ o, σ' = τ.set i o) ∧ Same H1 H2 ∧ ∃ xs, H2 D = some (.lst xs) ∧ xs.length = k ∧ R xs H2, ⟨n, by simp, Nat.zero_le _, ⟨none, hτ.symm⟩, same_new hD _, [], upd_same, rfl, hR _ _ _ h0 (nd _ _)⟩, ?_⟩
  rintro k m σ' H2 ⟨rfl, hk, ⟨o, rfl⟩, S, xs, e, hl, hr⟩
  by_cases hlt : k < n
  · refine .inr ⟨hgo k H2 S hlt, fun v H3 y => ?_⟩
    rw [List.set_set]
    refine step k H2 v H3 xs _ S hlt y hr hl e fun y H5 S5 r5 => ?_
    refine ⟨xs, S5 D _ e, by omega, n - (k + 1), by omega, rfl, hlt, ⟨some v, rfl⟩, up _ (S.trans S5), xs ++ [y], upd_same, by rw [List.length_append, hl]; rfl, hR _ _ _ r5 (nd H5 _)⟩
  · have e1 : k = n := by omega
    subst e1
    exact .inl ⟨hst H2 S, hq H2 xs S hr hl e⟩
theorem it_inv {N : Hp} {v : V} {t : TM.Internal.Tr} (h : Dta N v (itD t)) : ∃ (e : Addr) (tv : V), v = .ref e ∧ N e = some (.lst [tv, .int (t.nest : Int), .int (t.sz : Int)]) ∧ Dta N tv t.td := by
  unfold itD at h
  cases h with
  | @lst e xs _ he hs =>
    cases hs with
    | @cons tv _ _ _ h1 hs =>
      cases hs with
      | cons h2 hs =>
        cases hs with
        | cons h3 hs =>
          cases hs
          cases h2
          cases h3
          exact ⟨e, tv, rfl, he, h1⟩
theorem or2 {t1 t2 : TT} {σ : St} {H : Hp} {R : Bool → Hp → Prop} (b1 b2 : Bool) (h1 : ∀ R : Bool → Hp → Prop, R b1 H → t1 σ H R) (h2 : ∀ R : Bool → Hp → Prop, R b2 H → t2 σ H R) (k : R (b1 || b2) H) : tOr t1 t2 σ H R := by
  refine h1 _ ?_
  cases b1 with
  | true => exact iteT k
  | false => exact iteF (h2 _ k)
theorem eqI {j : Nat} {M n : Int} {σ : St} {H : Hp} (hv : σ[j]? = some (some (.int M))) : ∀ R : Bool → Hp → Prop, R (decide (M = n)) H → cT (tOp (cEq false) (cV j) (tC (.int n))) σ H R := fun R h => by
  show onV σ[j]? _
  rw [hv]
  show R (false ^^ decide (M = n)) H
  rw [Bool.false_xor]
  exact h
theorem ifI {j : Nat} {M n : Int} {A u : TS} {D : Ends} {σ : St} {H : Hp} (hv : σ[j]? = some (some (.int M))) (kt : M = n → A { D with nx := u D } σ H) (kf : M ≠ n → u D σ H) : tSeq (tIfS (cT (tOp (cEq false) (cV j) (tC (.int n)))) A tNext) u D σ H := by
  refine eqI hv _ ?_
  by_cases h : M = n
  · rw [decide_eq_true h]; exact iteT (kt h)
  · rw [decide_eq_false h]; exact iteF (kf h)
theorem ifO {j : Nat} {M n n' : Int} {A u : TS} {D : Ends} {σ : St} {H : Hp} (hv : σ[j]? = some (some (.int M))) (kt : M = n ∨ M = n' → A { D with nx := u D } σ H) (kf : M ≠ n → M ≠ n' → u D σ H) : tSeq (tIfS (tOr (cT (tOp (cEq false) (cV j) (tC (.int n)))) (cT (tOp (cEq false) (cV j) (tC (.int n'))))) A tNext) u D σ H := by
  refine or2 _ _ (eqI hv) (eqI hv) ?_
  by_cases h : M = n
  · rw [decide_eq_true h, Bool.true_or]; exact iteT (kt (.inl h))
  · by_cases h' : M = n'
    · rw [decide_eq_true h', Bool.or_true]; exact iteT (kt (.inr h'))
    · rw [decide_eq_false h, decide_eq_false h']; exact iteF (kf h h')
theorem pr1_snoc : ∀ {l : List Str} {ks : List Dt} {w : Str} {k : Dt}, l.length = ks.length → pr1 (l ++ [w]) (ks ++ [k]) = pr1 l ks ++ [.tup [TM.Internal.sD w, k]]
  | [], [], w, k, _ => rfl
  | x :: l, y :: ks, w, k, h => by rw [List.cons_append, List.cons_append, pr1, pr1, pr1_snoc (by simpa using h)]; rfl
theorem pr2_snoc : ∀ {l : List (Str × Str)} {ks : List Dt} {w : Str × Str} {k : Dt}, l.length = ks.length → pr2 (l ++ [w]) (ks ++ [k]) = pr2 l ks ++ [.tup [TM.Internal.sD w.1, TM.Internal.sD w.2, k]]
  | [], [], w, k, _ => rfl
  | x :: l, y :: ks, w, k, h => by rw [List.cons_append, List.cons_append, pr2, pr2, pr2_snoc (by simpa using h)]; rfl
noncomputable def Ari (op : Int) (n : Nat) : Prop := (op = 4 ∧ n = 1) ∨ (op = 5 ∧ n = 2) ∨ (op = 6 ∧ n = 2) ∨ (op = 7 ∧ n ≤ 6) ∨ (op = 8 ∧ n = 1) ∨ (op = 9 ∧ n = 1) ∨ (op = 10 ∧ 2 ≤ n ∧ n ≤ 7) ∨ (op = 11 ∧ n ≤ 8) ∨ (op = 12 ∧ n = 3) ∨ (op = 13 ∧ n = 2) ∨ (op = 14 ∧ n = 1) ∨ (op = 15 ∧ n = 2) ∨ (op = 16 ∧ n = 2) ∨ (op = 17 ∧ n = 2)
theorem Ari.le {op : Int} {n : Nat} (h : Ari op n) : n ≤ 8 := by unfold Ari at h; omega
theorem oks_of {xs : List TM.Internal.Tr} : (∀ x ∈ xs, Gd x) → TM.Internal.oks xs := by
  induction xs with
  | nil => intro _; rw [TM.Internal.oks]; trivial
  | cons x xs ih => intro h; rw [TM.Internal.oks]; exact ⟨(h x List.mem_cons_self).1, ih fun y hy => h y (List.mem_cons_of_mem _ hy)⟩
section
variable {P : Program} {w : World} {K : PySem.W.Frag} {mg : Str → Option Value} {base : Heap}
noncomputable def sp__law_tree : Sp := fun vs H Q _ => ∃ (F : Hp) (op arg : Int) (pl : Addr) (xs : List TM.Internal.Tr), vs = [.int op, .int arg, .ref pl] ∧ Same F H ∧ Dta F (.ref pl) (.lst (xs.map itD)) ∧ (∀ x ∈ xs, Gd x) ∧ Ari op xs.length ∧
  ∀ (r : Addr) (κ : TM.Internal.Kn) (H' : Hp), Same H H' → Dta (fz H F H') (.ref r) (TM.Internal.Tr.mk κ xs).td → (TM.Internal.Tr.mk κ xs).ok → Q (.ref r) H'
theorem ok__law_tree (T : Txt K mg) : FnOk P w K mg base CX0 2 T.a__law_tree T.fd__law_tree ["_law_op", "_law_arg", "_law_parts"] sp__law_tree := by
  have G__law_name := ok__law_name (P := P) (w := w) (base := base) T
  refine T.F__law_tree.ok sc__law_tree (fun vs H Q E h => ?_) (fun cdv A outer s H vs Q E hr h => ?_)
  · obtain ⟨F, op, arg, pl, xs, rfl, _⟩ := h
    rfl
  obtain ⟨F, op, arg, pl, xs, rfl, SF, dpl, gx, ari, q⟩ := h
  refine ⟨_, (pss_cons (ps_set (i := 3) sc__law_tree.nd rfl (Or.inr rfl) (pe_lc rfl (blk0 (x := "_law_part") rfl (by decide +kernel) (by decide +kernel) rfl rfl) (pi_list (cv 2)) (fun _ _ _ _ _ => pts_nil) (fun _ _ _ _ _ => (pe_ix xc_list (cv 0) pe_int (fun _ _ => rfl)))))
    (pss_cons (ps_set (i := 4) sc__law_tree.nd rfl (Or.inl rfl) (pe_call G__law_name (hr.mono (by decide)) rfl T.m__law_name T.k__law_name T.b__law_name .nil pass0 (pa_cons (cv 1) pa_nil)))
    (pss_cons (ps_if (PW.pt (pw_or (ptc_cmpR oc_eq (cv 0) pe_int (nomark _)) (pw_or1 (ptc_cmpR oc_eq (cv 0) pe_int (nomark _)))))
      (pss_one (ps_ret (pe_op op_cat (pe_lst (pa_cons (pe_ix xc_list (pe_lst (pa_cons pe_str (pa_cons pe_str pa_nil))) (pe_op oc_fdiv (cv 0) pe_int) (fun _ _ => rfl)) (pa_cons (cv 4) pa_nil))) (cv 3))))
      pss_nil)
    (pss_cons (ps_if (ptc_cmpR oc_eq (cv 0) pe_int (nomark _))
      (pss_one (ps_ret (pe_op op_cat (pe_lst (pa_cons pe_str (pa_cons (cv 4) pa_nil))) (cv 3))))
      pss_nil)
    (pss_cons (ps_if (ptc_cmpR oc_eq (cv 0) pe_int (nomark _))
      (pss_one (ps_ret (pe_lst (pa_cons pe_str (pa_cons (pe_callTy call_tuple_of rfl T.z_tuple bt_tuple (pa_cons (pe_lc rfl (blkC (x := "_law_k") ["_law_trees_here", "_law_arg"] [("_law_trees_here", 3, s.heap.objs.size + 2), ("_law_arg", 1, s.heap.objs.size + 1)] rfl rfl (by decide +kernel) (by decide +kernel) rfl (by decide +kernel) rfl rfl (by intro p hp; simp only [List.mem_cons, List.not_mem_nil, or_false] at hp; rcases hp with rfl | rfl <;> exact ⟨rfl, rfl, rfl, rfl⟩)) (pi_range1 rfl T.z_range (pa_cons (pe_callB call_len_seq rfl T.z_len bt_len (pa_cons (cv 3) pa_nil)) pa_nil)) (fun _ _ _ _ _ => pts_nil) (fun _ _ _ _ _ => (pe_tup (pa_cons (pe_call G__law_name (hr.mono (by decide)) rfl T.m__law_name T.k__law_name T.b__law_name .nil pass0 (pa_cons (pe_op oc_add (cv 2) (pe_op oc_mul (pe_op oc_mul pe_int (cv 0)) (cv 0))) pa_nil)) (pa_cons (pe_ix xc_list (cv 1) (cv 0) (fun _ _ => rfl)) pa_nil))))) pa_nil)) pa_nil)))))
      pss_nil)
    (pss_cons (ps_if (ptc_cmpR oc_eq (cv 0) pe_int (nomark _))
      (pss_one (ps_ret (pe_op op_cat (pe_op op_cat (pe_lst (pa_cons pe_str pa_nil)) (cv 3)) (pe_lst (pa_cons (cv 4) pa_nil)))))
      pss_nil)
    (pss_cons (ps_if (ptc_cmpR oc_eq (cv 0) pe_int (nomark _))
      (pss_cons (ps_setLC (j := 5) rfl (blkC (x := "_law_k") ["_law_trees_here", "_law_arg"] [("_law_trees_here", 3, s.heap.objs.size + 2), ("_law_arg", 1, s.heap.objs.size + 1)] rfl rfl (by decide +kernel) (by decide +kernel) rfl (by decide +kernel) rfl rfl (by intro p hp; simp only [List.mem_cons, List.not_mem_nil, or_false] at hp; rcases hp with rfl | rfl <;> exact ⟨rfl, rfl, rfl, rfl⟩)) (pi_range2 rfl T.z_range (pa_cons pe_int (pa_cons (pe_callB call_len_seq rfl T.z_len bt_len (pa_cons (cv 3) pa_nil)) pa_nil))) (fun _ _ _ _ _ => pts_nil) (fun _ _ _ _ _ => (pe_tup (pa_cons (pe_call G__law_name (hr.mono (by decide)) rfl T.m__law_name T.k__law_name T.b__law_name .nil pass0 (pa_cons (pe_op oc_add (cv 2) (pe_op oc_mul (pe_op oc_mul pe_int (cv 0)) (cv 0))) pa_nil)) (pa_cons (pe_call G__law_name (hr.mono (by decide)) rfl T.m__law_name T.k__law_name T.b__law_name .nil pass0 (pa_cons (pe_op oc_add (cv 2) (cv 0)) pa_nil)) (pa_cons (pe_ix xc_list (cv 1) (cv 0) (fun _ _ => rfl)) pa_nil))))) sc__law_tree.nd rfl (Or.inl rfl))
      (pss_one (ps_ret (pe_lst (pa_cons pe_str (pa_cons (pe_ix xc_list (cv 3) pe_int (fun _ _ => rfl)) (pa_cons (pe_callTy call_tuple_of rfl T.z_tuple bt_tuple (pa_cons (cv 5) pa_nil)) pa_nil)))))))
      pss_nil)
    (pss_cons (ps_if (ptc_cmpR oc_eq (cv 0) pe_int (nomark _))
      (pss_one (ps_ret (pe_lst (pa_cons pe_str (pa_cons (pe_callTy call_tuple_of rfl T.z_tuple bt_tuple (pa_cons (cv 3) pa_nil)) pa_nil)))))
      pss_nil)
    (pss_one (ps_ret (pe_op op_cat (pe_lst (pa_cons (pe_ix xc_list (pe_lst (pa_cons pe_str (pa_cons pe_str (pa_cons pe_str (pa_cons pe_str (pa_cons pe_str (pa_cons pe_str (pa_cons pe_str pa_nil)))))))) (pe_bm PySem.F.plainAttrs_list PySem.F.slot_list_index PySem.F.type_list_index (mt_indexI hr) (pe_lst (pa_cons pe_int (pa_cons pe_int (pa_cons pe_int (pa_cons pe_int (pa_cons pe_int (pa_cons pe_int (pa_cons pe_int pa_nil)))))))) (pa_cons (cv 0) pa_nil)) (fun _ _ => rfl)) pa_nil)) (cv 3)))))))))))), ?_⟩
  have sl : sizeLine = 16777216 := sizeLine_eq
  have l8 := ari.le
  have oxs := oks_of gx
  cases dpl with
  | @lst _ ps _ ep dps =>
    have lp := dtas_len dps
    rw [List.length_map] at lp
    refine ⟨pl, rfl, ⟨_, SqL.of (SF _ _ ep)⟩, fun D hD => ?_⟩
    refine lc_gen ps.length (by omega) (fun ys _ => Dtas F ys ((xs.take ys.length).map TM.Internal.Tr.td)) (fun ys H H' h _ => h) hD rfl (fun k H S h => go_lst (SF _ _ ep) S h) (fun H S => st_lst (SF _ _ ep) S) .nil ?_ ?_
    · intro k H2 v H3 ys Z S hk y hy hyl hZ
      obtain ⟨rfl, hv⟩ := y
      have hv := hv _ (SqL.of (S _ _ (SF _ _ ep)))
      obtain ⟨d, hd, dv⟩ := dtas_get dps hv
      rw [List.getElem?_map] at hd
      obtain ⟨t, ht, rfl⟩ := Option.map_eq_some_iff.mp hd
      obtain ⟨e, tv, rfl, he, dt⟩ := it_inv dv
      refine ⟨_, S _ _ (SF _ _ he), onS_of (atI_nat (j := 0) rfl) (hZ _ _ (Same.refl _) ?_)⟩
      rw [List.length_append, List.length_singleton, List.take_add_one, hyl, ht, List.map_append]
      rw [hyl] at hy
      exact dtas_app hy (.cons dt .nil)
    intro H1 ys S1 dys lys eD
    rw [lys, List.take_of_length_le (by omega), ← trds_map] at dys
    have hDn : H D = none := hD
    refine ⟨arg, rfl, fun nm H2 S2 hnm => ?_⟩
    have S12 := S1.trans S2
    have eD2 := S2 _ _ eD
    dsimp only [gName]
    have dz : ∀ {H' : Hp}, Dtas (fz H F H') ys (trds xs) := dys.same (fz_old SF)
    have nw : ∀ {Hx : Hp} {x : Addr}, Same H Hx → Hx x = none → H x = none := fun s h => s.free h
    have ly : ys.length ≤ 8 := by omega
    have okm : ∀ κ : TM.Internal.Kn, κ.ok → xs.length = κ.ar → (TM.Internal.Tr.mk κ xs).ok := fun κ h1 h2 => by rw [TM.Internal.Tr.ok]; exact ⟨h1, h2, oxs⟩
    refine ifO rfl (fun h49 => ?_) (fun n4 n9 => ?_)
    · refine ⟨(by show 2 ≤ sizeLine; decide), fun g hg => ?_⟩
      have t1 := same_new hg (.lst [.str "fn", .str "tag"])
      obtain ⟨κ, h1, h2, h3⟩ : ∃ κ : TM.Internal.Kn, atI [V.str "fn", V.str "tag"] (op / 9) = some (.str κ.s) ∧ (κ = .fn nm ∨ κ = .tag nm) ∧ xs.length = 1 := by
        rcases h49 with rfl | rfl
        · exact ⟨.fn nm, atI_nat (j := 0) rfl, .inl rfl, by unfold Ari at ari; omega⟩
        · exact ⟨.tag nm, atI_nat (j := 1) rfl, .inr rfl, by unfold Ari at ari; omega⟩
      refine ⟨⟨by decide, by decide⟩, _, upd_same, onS_of h1 ⟨(by show 2 ≤ sizeLine; decide), fun a2 ha2 => ?_⟩⟩
      have t2 := same_new ha2 (.lst [.str κ.s, .str nm])
      refine ⟨a2, D, _, _, rfl, rfl, upd_same, (t1.trans t2) _ _ eD2, by show 2 + ys.length ≤ sizeLine; omega, fun p hp => ?_⟩
      have t3 := same_new hp (.lst ([.str κ.s, .str nm] ++ ys))
      have St := S12.trans ((t1.trans t2).trans t3)
      refine q p κ _ St ?_ (okm κ (by rcases h2 with rfl | rfl <;> exact hnm) (by rcases h2 with rfl | rfl <;> exact h3))
      have e0 : H p = none := nw (S12.trans (t1.trans t2)) hp
      rcases h2 with rfl | rfl
      · exact .lst (fz_new e0 upd_same) (.cons (.flat rfl) (.cons (.flat rfl) dz))
      · exact .lst (fz_new e0 upd_same) (.cons (.flat rfl) (.cons (.flat rfl) dz))
    refine ifI rfl (fun h6 => ?_) (fun n6 => ?_)
    · refine ⟨(by show 2 ≤ sizeLine; decide), fun a2 ha2 => ?_⟩
      have t2 := same_new ha2 (.lst [.str "let", .str nm])
      refine ⟨a2, D, _, _, rfl, rfl, upd_same, t2 _ _ eD2, by show 2 + ys.length ≤ sizeLine; omega, fun p hp => ?_⟩
      have t3 := same_new hp (.lst ([.str "let", .str nm] ++ ys))
      exact q p (.lt nm) _ (S12.trans (t2.trans t3)) (.lst (fz_new (nw (S12.trans t2) hp) upd_same) (.cons (.flat rfl) (.cons (.flat rfl) dz))) (okm _ hnm (by unfold Ari at ari; show xs.length = 2; omega))
    refine ifI rfl (fun h7 => ?_) (fun n7 => ?_)
    · refine ⟨D, _, rfl, .inl (SqL.of eD2), _, rfl, by omega, by omega, fun D2 hD2 => ?_⟩
      have hD20 : H D2 = none := nw S12 hD2
      refine lc_genF (ys.length : Int).toNat (by omega) (fun zs Hc => ∃ l : List Str, l.length = zs.length ∧ (∀ w ∈ l, GR.Internal.isName w = true) ∧ Dtas (noD (fz H F Hc) D2) zs (pr1 l (trds (xs.take zs.length)))) (fun zs Hc Hc' h fr => by obtain ⟨l, h1, h2, h3⟩ := h; exact ⟨l, h1, h2, h3.same (fz_fr fr)⟩) hD2 rfl (fun k H _ h => go_rng h) (fun H _ => Nat.le_refl _) ⟨[], rfl, fun w hw => (by cases hw), .nil⟩ ?_ ?_
      · intro k H3 v H4 zs Z S3 hk y hz hzl eD3 hZ
        obtain ⟨rfl, rfl⟩ := y
        obtain ⟨l, h1, h2, h3⟩ := hz
        have hky : k < ys.length := by omega
        obtain ⟨yv, hyv⟩ : ∃ yv, ys[k]? = some yv := ⟨_, List.getElem?_eq_getElem hky⟩
        obtain ⟨d, hd, dyv⟩ := dtas_get dys hyv
        rw [trds_map, List.getElem?_map] at hd
        obtain ⟨t, ht, rfl⟩ := Option.map_eq_some_iff.mp hd
        have hat : atI ys (0 + (k : Int)) = some yv := by rw [Int.zero_add]; exact atI_nat hyv
        refine ⟨.inl ⟨by omega, by omega⟩, .inl ⟨by omega, by omega⟩, _, rfl, fun wd H5 S5 hwd => ⟨_, (S3.trans S5) _ _ eD2, onS_of hat ⟨(by show 2 ≤ sizeLine; decide), fun p hp => hZ _ _ (S5.trans (same_new hp _)) ?_⟩⟩⟩
        have tp := same_new hp (.tup [.str wd, yv])
        refine ⟨l ++ [wd], by rw [List.length_append, List.length_append, h1]; rfl, fun w hw => ?_, ?_⟩
        · rcases List.mem_append.mp hw with hw | hw
          · exact h2 w hw
          · rw [List.mem_singleton.mp hw]; exact hwd
        · rw [List.length_append, List.length_singleton, List.take_add_one, hzl, ht]
          rw [hzl] at h3 h1
          have e1 : trds (xs.take k ++ [t]) = trds (xs.take k) ++ [t.td] := by rw [trds_map, trds_map, List.map_append]; rfl
          have e2 : pr1 (l ++ [wd]) (trds (xs.take k) ++ [t.td]) = pr1 l (trds (xs.take k)) ++ [.tup [TM.Internal.sD wd, t.td]] := pr1_snoc (by rw [trds_map, List.length_map, List.length_take, h1]; omega)
          show Dtas _ _ (pr1 (l ++ [wd]) (trds (xs.take k ++ [t])))
          rw [e1, e2]
          refine dtas_app (h3.same (fz_fr (S5.trans tp).frD)) (.cons (.tup (noD_of (ne_of_none (S5 _ _ eD3) hp).symm (fz_new (nw (S12.trans (S3.trans S5)) hp) upd_same)) (.cons (.flat rfl) (.cons ?_ .nil))) .nil)
          have s9 : Same F (noD (fz H F (upd H5 p (.tup [.str wd, yv]))) D2) := fun b u eb => noD_of (ne_of_none (SF _ _ eb) hD20) (fz_old SF _ _ eb)
          exact dyv.same s9
      · intro H3 zs S3 hz hzl eD3
        obtain ⟨l, h1, h2, h3⟩ := hz
        have hzy : zs.length = xs.length := by omega
        rw [hzy, List.take_length] at h3
        refine ⟨D2, _, rfl, .inl ⟨SqL.of eD3, fun tt htt => ⟨(by show 2 ≤ sizeLine; decide), fun p hp => ?_⟩⟩⟩
        have t1 := same_new htt (.tup zs)
        have t2 := same_new hp (.lst [.str "rec", .ref tt])
        refine q p (.rcd l) _ (S12.trans (S3.trans (t1.trans t2))) ?_ (okm _ ⟨by unfold Ari at ari; omega, h2⟩ (by show xs.length = l.length; omega))
        exact .lst (fz_new (nw (S12.trans (S3.trans t1)) hp) upd_same) (.cons (.flat rfl) (.cons (.tup (fz_new (nw (S12.trans S3) htt) (t2 _ _ upd_same)) ((h3.same noD_sub).same (fz_same (t1.trans t2)))) .nil))
    refine ifI rfl (fun h8 => ?_) (fun n8 => ?_)
    · refine ⟨(by show 1 ≤ sizeLine; decide), fun a2 ha2 => ?_⟩
      have t2 := same_new ha2 (.lst [.str "get"])
      refine ⟨a2, D, _, _, rfl, rfl, upd_same, t2 _ _ eD2, by show 1 + ys.length ≤ sizeLine; omega, fun p hp => ?_⟩
      have t3 := same_new hp (.lst ([.str "get"] ++ ys))
      refine ⟨(by show 1 ≤ sizeLine; decide), fun a4 ha4 => ?_⟩
      have t4 := same_new ha4 (.lst [.str nm])
      refine ⟨p, a4, _, _, rfl, rfl, t4 _ _ upd_same, upd_same, by rw [List.length_append]; show 1 + ys.length + 1 ≤ sizeLine; omega, fun p' hp' => ?_⟩
      have t5 := same_new hp' (.lst ([.str "get"] ++ ys ++ [.str nm]))
      exact q p' (.get nm) _ (S12.trans (t2.trans (t3.trans (t4.trans t5)))) (.lst (fz_new (nw (S12.trans (t2.trans (t3.trans t4))) hp') upd_same) (.cons (.flat rfl) (dtas_app dz (.cons (.flat rfl) .nil)))) (okm _ hnm (by unfold Ari at ari; show xs.length = 1; omega))
    refine ifI rfl (fun h10 => ?_) (fun n10 => ?_)
    · have hx2 : 2 ≤ xs.length ∧ xs.length ≤ 7 := by unfold Ari at ari; omega
      refine ⟨D, _, rfl, .inl (SqL.of eD2), 1, _, rfl, ⟨by omega, by omega, by omega, by omega⟩, fun D2 hD2 => ?_⟩
      have hD20 : H D2 = none := nw S12 hD2
      obtain ⟨x0, xr, hxs⟩ : ∃ x0 xr, xs = x0 :: xr := by
        cases xs with
        | nil => exact absurd hx2.1 (by simp)
        | cons a b => exact ⟨a, b, rfl⟩
      have lxr : xr.length + 1 = xs.length := by rw [hxs]; rfl
      refine lc_genF ((ys.length : Int) - 1).toNat (by omega) (fun zs Hc => ∃ l : List (Str × Str), l.length = zs.length ∧ (∀ w ∈ l, GR.Internal.isName w.1 = true ∧ GR.Internal.isName w.2 = true) ∧ Dtas (noD (fz H F Hc) D2) zs (pr2 l (trds (xr.take zs.length)))) (fun zs Hc Hc' h fr => by obtain ⟨l, h1, h2, h3⟩ := h; exact ⟨l, h1, h2, h3.same (fz_fr fr)⟩) hD2 rfl (fun k H _ h => go_rng h) (fun H _ => Nat.le_refl _) ⟨[], rfl, fun w hw => (by cases hw), .nil⟩ ?_ ?_
      · intro k H3 v H4 zs Z S3 hk y hz hzl eD3 hZ
        obtain ⟨rfl, rfl⟩ := y
        obtain ⟨l, h1, h2, h3⟩ := hz
        have hky : 1 + k < ys.length := by omega
        obtain ⟨yv, hyv⟩ : ∃ yv, ys[1 + k]? = some yv := ⟨_, List.getElem?_eq_getElem hky⟩
        obtain ⟨d, hd, dyv⟩ := dtas_get dys hyv
        rw [trds_map, List.getElem?_map] at hd
        obtain ⟨t, ht, rfl⟩ := Option.map_eq_some_iff.mp hd
        have htr : xr[k]? = some t := by rw [hxs, Nat.add_comm, List.getElem?_cons_succ] at ht; exact ht
        have hat : atI ys (1 + (k : Int)) = some yv := by
          have e : (1 + (k : Int)) = ((1 + k : Nat) : Int) := by omega
          rw [e]
          exact atI_nat hyv
        refine ⟨.inl ⟨by omega, by omega⟩, .inl ⟨by omega, by omega⟩, _, rfl, fun wd H5 S5 hwd => ⟨_, rfl, fun wd2 H6 S6 hwd2 => ⟨_, (S3.trans (S5.trans S6)) _ _ eD2, onS_of hat ⟨(by show 3 ≤ sizeLine; decide), fun p hp => hZ _ _ (S5.trans (S6.trans (same_new hp _))) ?_⟩⟩⟩⟩
        have tp := same_new hp (.tup [.str wd, .str wd2, yv])
        refine ⟨l ++ [(wd, wd2)], by rw [List.length_append, List.length_append, h1]; rfl, fun w hw => ?_, ?_⟩
        · rcases List.mem_append.mp hw with hw | hw
          · exact h2 w hw
          · rw [List.mem_singleton.mp hw]; exact ⟨hwd, hwd2⟩
        · rw [List.length_append, List.length_singleton, List.take_add_one, hzl, htr]
          rw [hzl] at h3 h1
          have e1 : trds (xr.take k ++ [t]) = trds (xr.take k) ++ [t.td] := by rw [trds_map, trds_map, List.map_append]; rfl
          have e2 : pr2 (l ++ [(wd, wd2)]) (trds (xr.take k) ++ [t.td]) = pr2 l (trds (xr.take k)) ++ [.tup [TM.Internal.sD wd, TM.Internal.sD wd2, t.td]] := pr2_snoc (by rw [trds_map, List.length_map, List.length_take, h1]; omega)
          show Dtas _ _ (pr2 (l ++ [(wd, wd2)]) (trds (xr.take k ++ [t])))
          rw [e1, e2]
          have s56 := S5.trans S6
          refine dtas_app (h3.same (fz_fr (s56.trans tp).frD)) (.cons (.tup (noD_of (ne_of_none (s56 _ _ eD3) hp).symm (fz_new (nw (S12.trans (S3.trans s56)) hp) upd_same)) (.cons (.flat rfl) (.cons (.flat rfl) (.cons ?_ .nil)))) .nil)
          have s9 : Same F (noD (fz H F (upd H6 p (.tup [.str wd, .str wd2, yv]))) D2) := fun b u eb => noD_of (ne_of_none (SF _ _ eb) hD20) (fz_old SF _ _ eb)
          exact dyv.same s9
      · intro H3 zs S3 hz hzl eD3
        obtain ⟨l, h1, h2, h3⟩ := hz
        have hzy : zs.length = xr.length := by omega
        rw [hzy, List.take_length] at h3
        obtain ⟨y0, hy0⟩ : ∃ y0, ys[0]? = some y0 := ⟨_, List.getElem?_eq_getElem (by omega)⟩
        obtain ⟨d0, hd0, dy0⟩ := dtas_get dys hy0
        rw [trds_map, hxs] at hd0
        cases hd0
        refine ⟨_, S3 _ _ eD2, onS_of (atI_nat (j := 0) hy0) ⟨D2, _, rfl, .inl ⟨SqL.of eD3, fun tt htt => ⟨(by show 3 ≤ sizeLine; decide), fun p hp => ?_⟩⟩⟩⟩
        have t1 := same_new htt (.tup zs)
        have t2 := same_new hp (.lst [.str "case", y0, .ref tt])
        refine q p (.case l) _ (S12.trans (S3.trans (t1.trans t2))) ?_ (okm _ ⟨by omega, by omega, h2⟩ (by show xs.length = l.length + 1; omega))
        rw [TM.Internal.Tr.td, trds_map, hxs, List.map_cons, ← trds_map]
        exact .lst (fz_new (nw (S12.trans (S3.trans t1)) hp) upd_same) (.cons (.flat rfl) (.cons (dy0.same (fz_old SF)) (.cons (.tup (fz_new (nw (S12.trans S3) htt) (t2 _ _ upd_same)) ((h3.same noD_sub).same (fz_same (t1.trans t2)))) .nil)))
    refine ifI rfl (fun h11 => ?_) (fun n11 => ?_)
    · refine ⟨D, _, rfl, .inl ⟨SqL.of eD2, fun tt htt => ⟨(by show 2 ≤ sizeLine; decide), fun p hp => ?_⟩⟩⟩
      have t1 := same_new htt (.tup ys)
      have t2 := same_new hp (.lst [.str "row", .ref tt])
      exact q p (.row xs.length) _ (S12.trans (t1.trans t2)) (.lst (fz_new (nw (S12.trans t1) hp) upd_same) (.cons (.flat rfl) (.cons (.tup (fz_new (nw S12 htt) (t2 _ _ upd_same)) dz) .nil))) (okm _ l8 rfl)
    · refine ⟨(by show 7 ≤ sizeLine; decide), fun g hg => ⟨(by show 7 ≤ sizeLine; decide), fun g2 hg2 => ?_⟩⟩
      have t1 := same_new hg (.lst [.str "call", .str "at", .str "join", .str "size", .str "add", .str "sub", .str "less"])
      have t2 := same_new hg2 (.lst [.int 5, .int 12, .int 13, .int 14, .int 15, .int 16, .int 17])
      obtain ⟨j, s', hj, hjn, hs, hm⟩ : ∃ (j : Nat) (s' : Str), ([5, 12, 13, 14, 15, 16, 17] : List Int)[j]? = some op ∧ (∀ m : Nat, m < j → ([5, 12, 13, 14, 15, 16, 17] : List Int)[m]? ≠ some op) ∧ ([V.str "call", V.str "at", V.str "join", V.str "size", V.str "add", V.str "sub", V.str "less"])[j]? = some (.str s') ∧ (s', xs.length) ∈ TM.Internal.ops := by
        have hop : (op = 5 ∧ xs.length = 2) ∨ (op = 12 ∧ xs.length = 3) ∨ (op = 13 ∧ xs.length = 2) ∨ (op = 14 ∧ xs.length = 1) ∨ (op = 15 ∧ xs.length = 2) ∨ (op = 16 ∧ xs.length = 2) ∨ (op = 17 ∧ xs.length = 2) := by unfold Ari at ari; omega
        rcases hop with ⟨rfl, h⟩ | ⟨rfl, h⟩ | ⟨rfl, h⟩ | ⟨rfl, h⟩ | ⟨rfl, h⟩ | ⟨rfl, h⟩ | ⟨rfl, h⟩
        · exact ⟨0, "call", rfl, by decide, rfl, by rw [h]; decide +kernel⟩
        · exact ⟨1, "at", rfl, by decide, rfl, by rw [h]; decide +kernel⟩
        · exact ⟨2, "join", rfl, by decide, rfl, by rw [h]; decide +kernel⟩
        · exact ⟨3, "size", rfl, by decide, rfl, by rw [h]; decide +kernel⟩
        · exact ⟨4, "add", rfl, by decide, rfl, by rw [h]; decide +kernel⟩
        · exact ⟨5, "sub", rfl, by decide, rfl, by rw [h]; decide +kernel⟩
        · exact ⟨6, "less", rfl, by decide, rfl, by rw [h]; decide +kernel⟩
      refine ⟨.inl ⟨rfl, _, SqL.of upd_same⟩, g2, [5, 12, 13, 14, 15, 16, 17], op, j, rfl, rfl, SqL.of upd_same, by decide, hj, hjn, _, t2 _ _ upd_same, onS_of (atI_nat hs) ⟨(by show 1 ≤ sizeLine; decide), fun a2 ha2 => ?_⟩⟩
      have t3 := same_new ha2 (.lst [.str s'])
      refine ⟨a2, D, _, _, rfl, rfl, upd_same, (t1.trans (t2.trans t3)) _ _ eD2, by show 1 + ys.length ≤ sizeLine; omega, fun p hp => ?_⟩
      have t4 := same_new hp (.lst ([.str s'] ++ ys))
      exact q p (.op s' xs.length) _ (S12.trans (t1.trans (t2.trans (t3.trans t4)))) (.lst (fz_new (nw (S12.trans (t1.trans (t2.trans t3))) hp) upd_same) (.cons (.flat rfl) dz)) (okm _ hm rfl)
end
end K05.Internal
namespace K05.Internal
open PySem L2.Internal BO.Internal
seal L2.Internal.PE L2.Internal.PA L2.Internal.PS L2.Internal.PSs L2.Internal.PT L2.Internal.PI
theorem lc_pick {K : PySem.W.Frag} {F H1 : Hp} {l : Addr} {ps : List V} {xs : List TM.Internal.Tr} {i : Nat} {te : TE} {Q : VK} {τ : St} {D : Addr} (f : TM.Internal.Tr → V) (SF : Same F H1) (ep : F l = some (.lst ps)) (dps : Dtas F ps (xs.map itD)) (hl : xs.length ≤ 1000) (hD : H1 D = none) (hτ : τ.set i none = τ)
    (step : ∀ (e : Addr) (tv : V) (t : TM.Internal.Tr) (H : Hp) (Z : VK), Same H1 H → t ∈ xs → H e = some (.lst [tv, .int (t.nest : Int), .int (t.sz : Int)]) → Z (f t) H → te (τ.set i (some (.ref e))) H Z)
    (hq : ∀ H', Same H1 H' → H' D = some (.lst (xs.map f)) → Q (.ref D) H') : LcP (Itl K l) i tAlways te Q τ H1 D := by
  have lp := dtas_len dps
  rw [List.length_map] at lp
  have sl : sizeLine = 16777216 := sizeLine_eq
  refine lc_gen ps.length (by omega) (fun ys _ => ys = (xs.take ys.length).map f) (fun ys H H' h _ => h) hD hτ (fun k H S h => go_lst (SF _ _ ep) S h) (fun H S => st_lst (SF _ _ ep) S) rfl ?_ ?_
  · intro k H2 v H3 ys Z S hk y hy hyl hZ
    obtain ⟨rfl, hv⟩ := y
    have hv := hv _ (SqL.of (S _ _ (SF _ _ ep)))
    obtain ⟨d, hd, dv⟩ := dtas_get dps hv
    rw [List.getElem?_map] at hd
    obtain ⟨t, ht, rfl⟩ := Option.map_eq_some_iff.mp hd
    obtain ⟨e, tv, rfl, he, dt⟩ := it_inv dv
    refine step e tv t _ _ S (List.mem_of_getElem? ht) (S _ _ (SF _ _ he)) (hZ _ _ (Same.refl _) ?_)
    rw [List.length_append, List.length_singleton, List.take_add_one, hyl, ht, List.map_append]
    rw [hyl] at hy
    rw [← hy]
    rfl
  · intro H' ys S hy hyl e
    rw [hyl, List.take_of_length_le (by omega)] at hy
    rw [hy] at e
    exact hq H' S e
theorem nests_le {xs : List TM.Internal.Tr} {n : Int} (h0 : 0 ≤ n) : (∀ t ∈ xs, (t.nest : Int) ≤ n) → (TM.Internal.nests xs : Int) ≤ n := by
  induction xs with
  | nil => intro _; rw [TM.Internal.nests]; exact h0
  | cons x xs ih =>
    intro h
    rw [TM.Internal.nests]
    have h1 := h x List.mem_cons_self
    have h2 := ih fun t ht => h t (List.mem_cons_of_mem _ ht)
    omega
theorem nests_ge {xs : List TM.Internal.Tr} {t : TM.Internal.Tr} (h : t ∈ xs) : t.nest ≤ TM.Internal.nests xs := by
  induction xs with
  | nil => cases h
  | cons x xs ih =>
    rw [TM.Internal.nests]
    rcases List.mem_cons.mp h with e | e
    · rw [e]; exact Nat.le_max_left _ _
    · exact Nat.le_trans (ih e) (Nat.le_max_right _ _)
theorem szs_sum : ∀ xs : List TM.Internal.Tr, (xs.map fun t => (t.sz : Int)).sum = (TM.Internal.szs xs : Int)
  | [] => rfl
  | x :: xs => by rw [List.map_cons, List.sum_cons, szs_sum xs, TM.Internal.szs]; omega
theorem szs_le {xs : List TM.Internal.Tr} : (∀ t ∈ xs, t.sz ≤ 160) → TM.Internal.szs xs ≤ 160 * xs.length := by
  induction xs with
  | nil => intro _; rw [TM.Internal.szs]; exact Nat.zero_le _
  | cons x xs ih =>
    intro h
    rw [TM.Internal.szs, List.length_cons]
    have h1 := h x List.mem_cons_self
    have h2 := ih fun t ht => h t (List.mem_cons_of_mem _ ht)
    omega
theorem ifL {j : Nat} {M n : Int} {A u : TS} {D : Ends} {σ : St} {H : Hp} (hv : σ[j]? = some (some (.int M))) (kt : M < n → A { D with nx := u D } σ H) (kf : n ≤ M → u D σ H) : tSeq (tIfS (cT (tOp (cI0 fun i j => V.bl (decide (i < j))) (cV j) (tC (.int n)))) A tNext) u D σ H := by
  show onV σ[j]? _
  rw [hv]
  show if decide (M < n) = true then _ else _
  by_cases h : M < n
  · rw [decide_eq_true h]; exact iteT (kt h)
  · rw [decide_eq_false h]; exact iteF (kf (by omega))
theorem many_of (op arg : Int) (h4 : 4 ≤ op) (h18 : op < 18) : ∃ m : Nat, atI [V.int 1, V.int 2, V.int 2, V.int (arg % 7), V.int 1, V.int 1, V.int (2 + arg % 6), V.int (arg % 9), V.int 3, V.int 2, V.int 1, V.int 2, V.int 2, V.int 2] (op - 4) = some (.int (m : Int)) ∧ Ari op m := by
  have a7 : 0 ≤ arg % 7 ∧ arg % 7 < 7 := ⟨Int.emod_nonneg _ (by decide), Int.emod_lt_of_pos _ (by decide)⟩
  have a6 : 0 ≤ arg % 6 ∧ arg % 6 < 6 := ⟨Int.emod_nonneg _ (by decide), Int.emod_lt_of_pos _ (by decide)⟩
  have a9 : 0 ≤ arg % 9 ∧ arg % 9 < 9 := ⟨Int.emod_nonneg _ (by decide), Int.emod_lt_of_pos _ (by decide)⟩
  generalize arg % 7 = x7 at *
  generalize arg % 6 = x6 at *
  generalize arg % 9 = x9 at *
  have ho : op = 4 ∨ op = 5 ∨ op = 6 ∨ op = 7 ∨ op = 8 ∨ op = 9 ∨ op = 10 ∨ op = 11 ∨ op = 12 ∨ op = 13 ∨ op = 14 ∨ op = 15 ∨ op = 16 ∨ op = 17 := by omega
  have cc : ∀ x : Int, 0 ≤ x → some (V.int x) = some (V.int (x.toNat : Int)) := fun x h => by rw [Int.toNat_of_nonneg h]
  rcases ho with rfl | rfl | rfl | rfl | rfl | rfl | rfl | rfl | rfl | rfl | rfl | rfl | rfl | rfl
  · exact ⟨1, rfl, by unfold Ari; omega⟩
  · exact ⟨2, rfl, by unfold Ari; omega⟩
  · exact ⟨2, rfl, by unfold Ari; omega⟩
  · exact ⟨x7.toNat, (cc x7 a7.1 : _), by unfold Ari; omega⟩
  · exact ⟨1, rfl, by unfold Ari; omega⟩
  · exact ⟨1, rfl, by unfold Ari; omega⟩
  · exact ⟨(2 + x6).toNat, (cc (2 + x6) (by omega) : _), by unfold Ari; omega⟩
  · exact ⟨x9.toNat, (cc x9 a9.1 : _), by unfold Ari; omega⟩
  · exact ⟨3, rfl, by unfold Ari; omega⟩
  · exact ⟨2, rfl, by unfold Ari; omega⟩
  · exact ⟨1, rfl, by unfold Ari; omega⟩
  · exact ⟨2, rfl, by unfold Ari; omega⟩
  · exact ⟨2, rfl, by unfold Ari; omega⟩
  · exact ⟨2, rfl, by unfold Ari; omega⟩
theorem sz1 {κ : TM.Internal.Kn} : (TM.Internal.Tr.mk κ []).sz = 1 ∧ (TM.Internal.Tr.mk κ []).nest = 1 := by rw [TM.Internal.Tr.sz, TM.Internal.Tr.nest, TM.Internal.szs, TM.Internal.nests]; exact ⟨rfl, rfl⟩
section
variable {P : Program} {w : World} {K : PySem.W.Frag} {mg : Str → Option Value} {base : Heap}
noncomputable def sp__law_item : Sp := fun vs H Q _ => ∃ (F : Hp) (op arg : Int) (st : Addr) (ts : List TM.Internal.Tr), vs = [.int op, .int arg, .ref st] ∧ 0 ≤ op ∧ op < 18 ∧ Same F H ∧ Stk F H st ts ∧
  ∀ (r : Addr) (t : TM.Internal.Tr) (ts' : List TM.Internal.Tr) (F' H' : Hp), Gw F H F' H' → FrD st H H' → Stk F' H' st ts' → Dta F' (.ref r) (itD t) → t.ok → t.sz ≤ 2000 → t.nest ≤ 100 → Sb ts' ts → Q (.ref r) H'
theorem ok__law_item (T : Txt K mg) : FnOk P w K mg base CX0 3 T.a__law_item T.fd__law_item ["_law_op", "_law_arg", "_law_stack"] sp__law_item := by
  have G__law_name := ok__law_name (P := P) (w := w) (base := base) T
  have G__law_many := ok__law_many (P := P) (w := w) (base := base) T
  have G__law_tree := ok__law_tree (P := P) (w := w) (base := base) T
  refine T.F__law_item.ok sc__law_item (fun vs H Q E h => ?_) (fun cdv A outer s H vs Q E hr h => ?_)
  · obtain ⟨F, op, arg, st, ts, rfl, _⟩ := h
    rfl
  obtain ⟨F, op, arg, st, ts, rfl, o0, o1, SF, hS, q⟩ := h
  refine ⟨_, (pss_cons (ps_if (ptc_cmpR oc_lt (cv 0) pe_int (nomark _))
      (pss_one (ps_ret (pe_lst (pa_cons (pe_lst (pa_cons pe_str (pa_cons (pe_op oc_mod (cv 1) (pe_ix xc_list (pe_lst (pa_cons pe_int (pa_cons (pe_op oc_pow pe_int pe_int) (pa_cons (pe_op oc_pow pe_int pe_int) pa_nil)))) (pe_op oc_add (cv 0) (pe_op oc_mod (cv 1) pe_int)) (fun _ _ => rfl))) pa_nil))) (pa_cons pe_int (pa_cons pe_int pa_nil))))))
      pss_nil)
    (pss_cons (ps_if (ptc_cmpR oc_lt (cv 0) pe_int (nomark _))
      (pss_one (ps_ret (pe_lst (pa_cons (pe_lst (pa_cons pe_str (pa_cons (pe_call G__law_name (hr.mono (by decide)) rfl T.m__law_name T.k__law_name T.b__law_name .nil pass0 (pa_cons (cv 1) pa_nil)) pa_nil))) (pa_cons pe_int (pa_cons pe_int pa_nil))))))
      pss_nil)
    (pss_cons (ps_set (i := 3) sc__law_item.nd rfl (Or.inl rfl) (pe_ix xc_list (pe_lst (pa_cons pe_int (pa_cons pe_int (pa_cons pe_int (pa_cons (pe_op oc_mod (cv 1) pe_int) (pa_cons pe_int (pa_cons pe_int (pa_cons (pe_op oc_add pe_int (pe_op oc_mod (cv 1) pe_int)) (pa_cons (pe_op oc_mod (cv 1) pe_int) (pa_cons pe_int (pa_cons pe_int (pa_cons pe_int (pa_cons pe_int (pa_cons pe_int (pa_cons pe_int pa_nil))))))))))))))) (pe_op oc_sub (cv 0) pe_int) (fun _ _ => rfl)))
    (pss_cons (ps_set (i := 4) sc__law_item.nd rfl (Or.inl rfl) (pe_call G__law_many (hr.mono (by decide)) rfl T.m__law_many T.k__law_many T.b__law_many .nil pass0 (pa_cons (cv 2) (pa_cons (cv 3) pa_nil))))
    (pss_cons (ps_set (i := 5) sc__law_item.nd rfl (Or.inl rfl) (pe_op oc_add pe_int (pe_callB (call_maxX rfl) rfl T.z_max bt_max (pa_cons (pe_op op_cat (pe_lst (pa_cons pe_int pa_nil)) (pe_lc rfl (blk0 (x := "_law_part") rfl (by decide +kernel) (by decide +kernel) rfl rfl) (pi_list (cv 4)) (fun _ _ _ _ _ => pts_nil) (fun _ _ _ _ _ => (pe_ix xc_list (cv 0) pe_int (fun _ _ => rfl))))) pa_nil))))
    (pss_one (ps_ret (pe_lst (pa_cons (pe_call G__law_tree (hr.mono (by decide)) rfl T.m__law_tree T.k__law_tree T.b__law_tree .nil pass0 (pa_cons (cv 0) (pa_cons (cv 1) (pa_cons (cv 4) pa_nil)))) (pa_cons (cv 5) (pa_cons (pe_op oc_add pe_int (pe_callB (call_sumX rfl) rfl T.z_sum bt_sum (pa_cons (pe_lc rfl (blk0 (x := "_law_part") rfl (by decide +kernel) (by decide +kernel) rfl rfl) (pi_list (cv 4)) (fun _ _ _ _ _ => pts_nil) (fun _ _ _ _ _ => (pe_ix xc_list (cv 0) pe_int (fun _ _ => rfl)))) pa_nil))) pa_nil))))))))))), ?_⟩
  have sl : sizeLine = 16777216 := sizeLine_eq
  obtain ⟨vs, e, d, l, g, fs⟩ := id hS
  refine ifL rfl (fun h2 => ?_) (fun h2 => ?_)
  · have pw : CPow 10 9 ∧ CPow 10 60 := ⟨⟨by decide, by decide, by decide⟩, ⟨by decide, by decide, by decide⟩⟩
    refine ⟨pw.1, pw.2, (by show 3 ≤ sizeLine; decide), fun a ha => ⟨(by show (0 : Int) < 2; decide), _, upd_same, ?_⟩⟩
    have t0 := same_new ha (.lst [.int 10, .int (10 ^ (9 : Int).toNat), .int (10 ^ (60 : Int).toNat)])
    have a2 : 0 ≤ arg % 2 ∧ arg % 2 < 2 := ⟨Int.emod_nonneg _ (by decide), Int.emod_lt_of_pos _ (by decide)⟩
    obtain ⟨b, hb, hb0, hb1⟩ : ∃ b : Int, atI [V.int 10, V.int (10 ^ (9 : Int).toNat), V.int (10 ^ (60 : Int).toNat)] (op + arg % 2) = some (.int b) ∧ 0 < b ∧ b ≤ 10 ^ 60 := by
      have : op + arg % 2 = 0 ∨ op + arg % 2 = 1 ∨ op + arg % 2 = 2 := by omega
      rcases this with h | h | h
      · rw [h]; exact ⟨10, rfl, by decide, by decide +kernel⟩
      · rw [h]; exact ⟨10 ^ (9 : Int).toNat, rfl, by decide +kernel, by decide +kernel⟩
      · rw [h]; exact ⟨10 ^ (60 : Int).toNat, rfl, by decide +kernel, by decide +kernel⟩
    refine onS_of hb ⟨hb0, (by show 2 ≤ sizeLine; decide), fun p hp => ⟨(by show 3 ≤ sizeLine; decide), fun r hr' => ?_⟩⟩
    have n0 : 0 ≤ arg % b := Int.emod_nonneg _ (by omega)
    have n1 : arg % b < b := Int.emod_lt_of_pos _ hb0
    have g0 : Gw F H F _ := Gw.mut SF ha (.lst [.int 10, .int (10 ^ (9 : Int).toNat), .int (10 ^ (60 : Int).toNat)])
    have g1 := Gw.new g0.fh hp (.lst [.str "num", .int (arg % b)])
    have g2 := Gw.new g1.fh hr' (.lst [.ref p, .int 1, .int 1])
    have gg := g0.trans (g1.trans g2)
    have t12 := t0.trans ((same_new hp (.lst [.str "num", .int (arg % b)])).trans (same_new hr' (.lst [.ref p, .int 1, .int 1])))
    refine q r (.mk (.num (arg % b)) []) ts _ _ gg t12.frD ⟨vs, t12 _ _ e, d.same gg.ff, l, g, gg.no _ _ e fs⟩ ?_ ?_ ?_ ?_ (Sb.refl _)
    · exact .lst upd_same (.cons (.lst (g2.ff _ _ upd_same) (.cons (.flat rfl) (.cons (.flat rfl) .nil))) (.cons (.flat rfl) (.cons (.flat rfl) .nil)))
    · rw [TM.Internal.Tr.ok]; exact ⟨⟨n0, by omega⟩, rfl, by rw [TM.Internal.oks]; trivial⟩
    · rw [sz1.1]; decide
    · rw [sz1.2]; decide
  refine ifL rfl (fun h4 => ?_) (fun h4 => ?_)
  · refine ⟨arg, rfl, fun nm H2 S2 hnm => ⟨(by show 2 ≤ sizeLine; decide), fun p hp => ⟨(by show 3 ≤ sizeLine; decide), fun r hr' => ?_⟩⟩⟩
    have g0 : Gw F H (fz H F H2) H2 := fz_gw SF S2
    have g1 := Gw.new g0.fh hp (.lst [.str "name", .str nm])
    have g2 := Gw.new g1.fh hr' (.lst [.ref p, .int 1, .int 1])
    have gg := g0.trans (g1.trans g2)
    have t12 := S2.trans ((same_new hp (.lst [.str "name", .str nm])).trans (same_new hr' (.lst [.ref p, .int 1, .int 1])))
    refine q r (.mk (.name nm) []) ts _ _ gg t12.frD ⟨vs, t12 _ _ e, d.same gg.ff, l, g, gg.no _ _ e fs⟩ ?_ ?_ ?_ ?_ (Sb.refl _)
    · exact .lst upd_same (.cons (.lst (g2.ff _ _ upd_same) (.cons (.flat rfl) (.cons (.flat rfl) .nil))) (.cons (.flat rfl) (.cons (.flat rfl) .nil)))
    · rw [TM.Internal.Tr.ok]; exact ⟨hnm, rfl, by rw [TM.Internal.oks]; trivial⟩
    · rw [sz1.1]; decide
    · rw [sz1.2]; decide
  obtain ⟨m, hm, ari⟩ := many_of op arg h4 o1
  have m8 := ari.le
  refine ⟨(by show (0 : Int) < 7; decide), (by show (0 : Int) < 6; decide), (by show (0 : Int) < 9; decide), (by show 14 ≤ sizeLine; decide), fun a ha => ⟨_, upd_same, onS_of hm ?_⟩⟩
  have t0 := same_new ha (.lst [.int 1, .int 2, .int 2, .int (arg % 7), .int 1, .int 1, .int (2 + arg % 6), .int (arg % 9), .int 3, .int 2, .int 1, .int 2, .int 2, .int 2])
  have g0 : Gw F H F _ := Gw.mut SF ha (.lst [.int 1, .int 2, .int 2, .int (arg % 7), .int 1, .int 1, .int (2 + arg % 6), .int (arg % 9), .int 3, .int 2, .int 1, .int 2, .int 2, .int 2])
  refine ⟨F, st, ts, m, rfl, g0.fh, ⟨vs, t0 _ _ e, d, l, g, fs⟩, by omega, fun pl xs ts1 F1 H1 g1 f1 s1 dl hxl gx hts => ?_⟩
  dsimp only [gName]
  cases dl with
  | @lst _ ps _ ep dps =>
    have SF1 := g1.fh
    refine ⟨(by show 1 ≤ sizeLine; decide), fun a2 ha2 => ?_⟩
    have u1 := same_new ha2 (.lst [.int 0])
    refine ⟨pl, rfl, ⟨_, SqL.of (u1 _ _ (SF1 _ _ ep))⟩, fun D hD => ?_⟩
    refine lc_pick (fun t => .int (t.nest : Int)) (SF1.trans u1) ep dps (by omega) hD rfl (fun e tv t H Z S ht he hz => ⟨_, he, onS_of (atI_nat (j := 1) rfl) hz⟩) fun H2 S2 eD => ?_
    refine ⟨a2, D, _, _, rfl, rfl, S2 _ _ upd_same, eD, by rw [List.length_map]; show 1 + xs.length ≤ sizeLine; omega, fun p hp => ?_⟩
    have u3 := same_new hp (.lst ([.int 0] ++ xs.map fun t => V.int (t.nest : Int)))
    refine ⟨p, 0 :: xs.map fun t => (t.nest : Int), rfl, SqL.of (by rw [upd_same, List.map_cons, List.map_map]; rfl), List.cons_ne_nil _ _, fun n hn hmx => ?_⟩
    have en : n = (TM.Internal.nests xs : Int) := by
      have h1 := hmx 0 List.mem_cons_self
      have h2 := nests_le h1 fun t ht => hmx _ (List.mem_cons_of_mem _ (List.mem_map_of_mem ht))
      rcases List.mem_cons.mp hn with h | h
      · omega
      · obtain ⟨t, ht, rfl⟩ := List.mem_map.mp h
        have := nests_ge ht
        omega
    dsimp only [gName]
    have S13 := u1.trans (S2.trans u3)
    refine ⟨_, op, arg, pl, xs, rfl, SF1.trans S13, .lst ep dps, gx, by rw [hxl]; exact ari, fun r κ H4 S4 dr okr => ?_⟩
    have gA : Gw F1 H1 _ _ := ⟨Same.refl _, SF1.trans S13, fun _ _ _ h => h, fun _ o e => ⟨o, S13 _ _ e⟩⟩
    have gB := fz_gw (SF1.trans S13) S4
    refine ⟨pl, rfl, ⟨_, SqL.of (gB.fh _ _ (gB.ff _ _ ep))⟩, fun D2 hD2 => ?_⟩
    refine lc_pick (fun t => .int (t.sz : Int)) gB.fh (gB.ff _ _ ep) (dps.same gB.ff) (by omega) hD2 rfl (fun e tv t H Z S ht he hz => ⟨_, he, onS_of (atI_nat (j := 2) rfl) hz⟩) fun H5 S5 eD2 => ?_
    refine ⟨D2, xs.map fun t => (t.sz : Int), rfl, SqL.of (by rw [eD2, List.map_map]; rfl), by rw [List.length_map]; omega, fun n hn => ?_, ?_⟩
    · obtain ⟨t, ht, rfl⟩ := List.mem_map.mp hn
      have := (gx t ht).2.2
      omega
    rw [szs_sum, en]
    refine ⟨(by show 3 ≤ sizeLine; decide), fun r2 hr2 => ?_⟩
    have gC : Gw _ _ _ _ := ⟨Same.refl _, gB.fh.trans S5, fun _ _ _ h => h, fun _ o e => ⟨o, S5 _ _ e⟩⟩
    have gD := Gw.new gC.fh hr2 (.lst [.ref r, .int (1 + (TM.Internal.nests xs : Int)), .int (1 + (TM.Internal.szs xs : Int))])
    have gE := gA.trans (gB.trans (gC.trans gD))
    have tE := S13.trans (S4.trans (S5.trans (same_new hr2 (.lst [.ref r, .int (1 + (TM.Internal.nests xs : Int)), .int (1 + (TM.Internal.szs xs : Int))]))))
    obtain ⟨vs1, e1, d1, l1, gg1, fs1⟩ := s1
    have hsz : (TM.Internal.Tr.mk κ xs).sz = 1 + TM.Internal.szs xs := by rw [TM.Internal.Tr.sz]
    have hnt : (TM.Internal.Tr.mk κ xs).nest = 1 + TM.Internal.nests xs := by rw [TM.Internal.Tr.nest]
    refine q r2 (.mk κ xs) ts1 _ _ (g0.trans (g1.trans gE)) ((t0.frD).trans (f1.trans tE.frD)) ⟨vs1, tE _ _ e1, d1.same gE.ff, l1, gg1, gE.no _ _ e1 fs1⟩ ?_ okr ?_ ?_ hts
    · have hd : itD (.mk κ xs) = .lst [(TM.Internal.Tr.mk κ xs).td, .flat (.int (1 + (TM.Internal.nests xs : Int))), .flat (.int (1 + (TM.Internal.szs xs : Int)))] := by
        unfold itD iD
        rw [hnt, hsz, Int.natCast_add, Int.natCast_add]
        rfl
      rw [hd]
      exact .lst upd_same (.cons ((dr.same gC.ff).same gD.ff) (.cons (.flat rfl) (.cons (.flat rfl) .nil)))
    · have := szs_le fun t ht => (gx t ht).2.2
      omega
    · have : (TM.Internal.nests xs : Int) ≤ 24 := nests_le (by decide) fun t ht => by have := (gx t ht).2.1; omega
      omega
end
end K05.Internal
namespace K05.Internal
open PySem L2.Internal BO.Internal
seal L2.Internal.PE L2.Internal.PA L2.Internal.PS L2.Internal.PSs L2.Internal.PT L2.Internal.PI
noncomputable def mdD (p : Str × TM.Internal.Tr) : Dt := .lst [TM.Internal.sD p.1, p.2.td]
noncomputable def tot : List (Str × TM.Internal.Tr) → Nat
  | [] => 0
  | p :: l => p.2.sz + tot l
theorem tot_app : ∀ (a b : List (Str × TM.Internal.Tr)), tot (a ++ b) = tot a + tot b
  | [], b => by rw [List.nil_append, tot, Nat.zero_add]
  | x :: a, b => by rw [List.cons_append, tot, tot, tot_app a b, Nat.add_assoc]
noncomputable def GdM (p : Str × TM.Internal.Tr) : Prop := GR.Internal.isName p.1 = true ∧ Gd p.2
noncomputable def Mdl (F H : Hp) (md : Addr) (ms : List (Str × TM.Internal.Tr)) : Prop := ∃ vs, H md = some (.lst vs) ∧ Dtas F vs (ms.map mdD) ∧ (∀ p ∈ ms, GdM p) ∧ F md = none
theorem and2 {t1 t2 : TT} {σ : St} {H : Hp} {R : Bool → Hp → Prop} (b1 b2 : Bool) (h1 : ∀ R : Bool → Hp → Prop, R b1 H → t1 σ H R) (h2 : ∀ R : Bool → Hp → Prop, R b2 H → t2 σ H R) (k : R (b1 && b2) H) : tAnd t1 t2 σ H R := by
  refine h1 _ ?_
  cases b1 with
  | true => exact iteT (h2 _ k)
  | false => exact iteF k
theorem ifd {A B : TS} {D : Ends} {σ : St} {H : Hp} {t : TT} (b : Bool) (ht : ∀ R : Bool → Hp → Prop, R b H → t σ H R) (kt : b = true → A D σ H) (kf : b = false → B D σ H) : tIfS t A B D σ H := by
  refine ht _ ?_
  cases b with
  | true => exact iteT (kt rfl)
  | false => exact iteF (kf rfl)
section
variable {P : Program} {w : World} {K : PySem.W.Frag} {mg : Str → Option Value} {base : Heap}
noncomputable def sp__law_trees (K : PySem.W.Frag) : Sp := fun vs H Q _ => ∃ (a : Addr) (ns : List Int), vs = [.ref a] ∧ SqL K H a (ns.map V.int) ∧ ns.length ≤ 63 ∧
  ∀ (r : Addr) (ms : List (Str × TM.Internal.Tr)) (H' : Hp), Same H H' → Dta H' (.ref r) (.lst (ms.map mdD)) → (∀ p ∈ ms, GdM p) → ms.length ≤ 12 → 1 ≤ ms.length → tot ms ≤ 160 → Q (.ref r) H'
theorem ok__law_trees (T : Txt K mg) : FnOk P w K mg base CX0 4 T.a__law_trees T.fd__law_trees ["_law_script"] (sp__law_trees K) := by
  have G__law_name := ok__law_name (P := P) (w := w) (base := base) T
  have G__law_item := ok__law_item (P := P) (w := w) (base := base) T
  have G__law_pop := ok__law_pop (P := P) (w := w) (base := base) T
  refine T.F__law_trees.ok sc__law_trees (fun vs H Q E h => ?_) (fun cdv A outer s H vs Q E hr h => ?_)
  · obtain ⟨a, ns, rfl, _⟩ := h
    rfl
  obtain ⟨sc, ns, rfl, hsq, hlen, q⟩ := h
  refine ⟨_, (pss_cons (ps_set (i := 1) sc__law_trees.nd rfl (Or.inl rfl) (pe_lst pa_nil))
    (pss_cons (ps_set (i := 2) sc__law_trees.nd rfl (Or.inl rfl) (pe_lst pa_nil))
    (pss_cons (ps_set (i := 3) sc__law_trees.nd rfl (Or.inl rfl) pe_int)
    (pss_cons (ps_for PassesOwn.never rfl (pi_list (cv 0)) (pg_name (i := 4) sc__law_trees.nd rfl (Or.inl rfl))
      (pss_cons (ps_set (i := 5) sc__law_trees.nd rfl (Or.inl rfl) (pe_op oc_mod (cv 4) (pe_op oc_pow pe_int pe_int)))
      (pss_cons (ps_set (i := 6) sc__law_trees.nd rfl (Or.inl rfl) (pe_op oc_mod (cv 5) pe_int))
      (pss_one (ps_if (ptc_cmpR oc_gt (cv 6) pe_int (nomark _))
        (pss_one (ps_if (PW.pt (pw_and (ptc_cmpR oc_gt (pe_callB call_len_seq rfl T.z_len bt_len (pa_cons (cv 2) pa_nil)) pe_int (nomark _)) (pw_and (ptc_cmpR oc_lt (pe_callB call_len_seq rfl T.z_len bt_len (pa_cons (cv 1) pa_nil)) pe_int (nomark _)) (pw_and1 (ptc_cmpR oc_le (cv 3) pe_int (nomark _))))))
          (pss_cons (ps_expr (pec_app (pe_bm PySem.F.plainAttrs_list PySem.F.slot_list_append PySem.F.type_list_append mt_append (PE.mono (cv 1)) (pa_cons (PE.mono (pe_lst (pa_cons (pe_call G__law_name (hr.mono (by decide)) rfl T.m__law_name T.k__law_name T.b__law_name .nil pass0 (pa_cons (pe_op oc_fdiv (cv 5) pe_int) pa_nil)) (pa_cons (pe_ix xc_list (pe_ix xc_list (cv 2) (pe_un un_neg pe_int) (fun _ _ => rfl)) pe_int (fun _ _ => rfl)) pa_nil)))) pa_nil))))
          (pss_cons (ps_set (i := 3) sc__law_trees.nd rfl (Or.inl rfl) (pe_op oc_add (cv 3) (pe_ix xc_list (pe_ix xc_list (cv 2) (pe_un un_neg pe_int) (fun _ _ => rfl)) pe_int (fun _ _ => rfl))))
          (pss_one (ps_set (i := 2) sc__law_trees.nd rfl (Or.inl rfl) (pe_lst pa_nil)))))
          pss_nil))
        (pss_cons (ps_set (i := 7) sc__law_trees.nd rfl (Or.inl rfl) (pe_call G__law_item (hr.mono (by decide)) rfl T.m__law_item T.k__law_item T.b__law_item .nil pass0 (pa_cons (cv 6) (pa_cons (pe_op oc_fdiv (cv 5) pe_int) (pa_cons (cv 2) pa_nil)))))
        (pss_one (ps_if (PW.pt (pw_and (ptc_cmpR oc_le (pe_ix xc_list (cv 7) pe_int (fun _ _ => rfl)) pe_int (nomark _)) (pw_and1 (ptc_cmpR oc_le (pe_op oc_add (pe_ix xc_list (cv 7) pe_int (fun _ _ => rfl)) (cv 3)) pe_int (nomark _)))))
          (pss_one (ps_expr (pec_app (pe_bm PySem.F.plainAttrs_list PySem.F.slot_list_append PySem.F.type_list_append mt_append (PE.mono (cv 2)) (pa_cons (PE.mono (cv 7)) pa_nil)))))
          pss_nil))))))))
    (pss_cons (ps_if (PW.pt (pw_or (ptc_cmpR oc_eq (pe_callB call_len_seq rfl T.z_len bt_len (pa_cons (cv 1) pa_nil)) pe_int (nomark _)) (pw_or1 (PW.pt (pw_and (ptc_cmpR oc_gt (pe_callB call_len_seq rfl T.z_len bt_len (pa_cons (cv 2) pa_nil)) pe_int (nomark _)) (pw_and1 (ptc_cmpR oc_le (cv 3) pe_int (nomark _))))))))
      (pss_one (ps_expr (pec_app (pe_bm PySem.F.plainAttrs_list PySem.F.slot_list_append PySem.F.type_list_append mt_append (PE.mono (cv 1)) (pa_cons (PE.mono (pe_lst (pa_cons (pe_call G__law_name (hr.mono (by decide)) rfl T.m__law_name T.k__law_name T.b__law_name .nil pass0 (pa_cons (cv 3) pa_nil)) (pa_cons (pe_ix xc_list (pe_call G__law_pop (hr.mono (by decide)) rfl T.m__law_pop T.k__law_pop T.b__law_pop .nil pass0 (pa_cons (cv 2) pa_nil)) pe_int (fun _ _ => rfl)) pa_nil)))) pa_nil)))))
      pss_nil)
    (pss_one (ps_ret (cv 1)))))))), ?_⟩
  have sl : sizeLine = 16777216 := sizeLine_eq
  refine ⟨(by show 0 ≤ sizeLine; decide), fun md hmd => ?_⟩
  have w1 := Gw.mut (Same.refl H) hmd (.lst [])
  have e1 : (upd H md (.lst [])) md = some (.lst []) := upd_same
  dsimp only [gName]
  generalize upd H md (.lst []) = H1 at w1 e1 ⊢
  refine ⟨(by show 0 ≤ sizeLine; decide), fun st hst => ?_⟩
  have w2 := Gw.mut w1.fh hst (.lst [])
  have nms : md ≠ st := ne_of_none e1 hst
  have e2 : (upd H1 st (.lst [])) st = some (.lst []) := upd_same
  have e1' : (upd H1 st (.lst [])) md = some (.lst []) := by rw [upd_ne nms]; exact e1
  have w12 := w1.trans w2
  dsimp only [gName]
  generalize upd H1 st (.lst []) = H2 at w2 w12 e2 e1' ⊢
  refine ⟨sc, rfl, ⟨_, w12.fh.seq hsq⟩, for_list (xs := ns.map V.int) (fun i σ Hc => ∃ (st : Addr) (ms : List (Str × TM.Internal.Tr)) (ts : List TM.Internal.Tr) (F : Hp) (o1 o2 o3 o4 : Option V), σ = [some (.ref sc), some (.ref md), some (.ref st), some (.int (tot ms : Int)), o1, o2, o3, o4] ∧ Gw H H F Hc ∧ Mdl F Hc md ms ∧ Stk F Hc st ts ∧ md ≠ st ∧ ms.length ≤ 11 ∧ tot ms ≤ 160 ∧ (∀ t ∈ ts, t.sz + tot ms ≤ 160) ∧ ts.length ≤ i)
    ⟨st, [], [], H, none, none, none, none, rfl, w12, ⟨[], e1', .nil, fun p hp => (by cases hp), hmd⟩, ⟨[], e2, .nil, by decide, fun t ht => (by cases ht), w1.fh.free hst⟩, nms, by decide, by decide, fun t ht => (by cases ht), Nat.le_refl _⟩ (fun i σ Hc _ h => ?_) ?_ ?_⟩
  · obtain ⟨_, _, _, F, _, _, _, _, _, g, _⟩ := h
    exact (g.ff.trans g.fh).seq hsq
  · rintro i x σ Hc hx ⟨st, ms, ts, F, o1, o2, o3, o4, rfl, gw, hm, hS, nms, lm, tm, ht, lt⟩
    rw [List.getElem?_map] at hx
    obtain ⟨c, hc, rfl⟩ := Option.map_eq_some_iff.mp hx
    have hi : i < 63 := by
      have := (List.getElem?_eq_some_iff.mp hc).1
      omega
    refine ⟨⟨by decide, by decide, by decide⟩, (by show (0 : Int) < 10 ^ (64 : Int).toNat; decide +kernel), ?_⟩
    dsimp only [gName]
    generalize c % 10 ^ (64 : Int).toNat = n
    refine ⟨(by show (0 : Int) < 20; decide), ?_⟩
    have o0 : 0 ≤ n % 20 := Int.emod_nonneg _ (by decide)
    have o1 : n % 20 < 20 := Int.emod_lt_of_pos _ (by decide)
    dsimp only [gName]
    generalize n % 20 = op at o0 o1 ⊢
    obtain ⟨mv, em, dm, gm, fm⟩ := id hm
    obtain ⟨sv, es, ds, ls, gs, fs⟩ := id hS
    have lmv := dtas_len dm
    have lsv := dtas_len ds
    rw [List.length_map] at lmv lsv
    have lenT : ∀ (m : Nat) (R : Bool → Hp → Prop), R (decide (m < ts.length)) Hc → R (decide ((m : Int) < (sv.length : Int))) Hc := fun m R h => by rw [lsv, show decide ((m : Int) < (ts.length : Int)) = decide (m < ts.length) from decide_eq_decide.mpr (by omega)]; exact h
    refine ifd (decide (17 < op)) (fun R h => h) (fun h17 => ?_) (fun h17 => ?_)
    · refine ifd (decide (0 < ts.length) && (decide (ms.length < 11) && decide (tot ms ≤ 100))) (fun R h => and2 _ _ (fun R h => ⟨st, _, rfl, .inl (SqL.of es), lenT 0 _ h⟩) (fun R h => and2 _ _ (fun R h => ⟨md, _, rfl, .inl (SqL.of em), ?_⟩) (fun R h => ?_) h) h) (fun hb => ?_) (fun hb => ?_)
      · show R (decide ((mv.length : Int) < 11)) Hc
        rw [lmv, show decide ((ms.length : Int) < 11) = decide (ms.length < 11) from decide_eq_decide.mpr (by omega)]
        exact h
      · show R (decide ((tot ms : Int) ≤ 100)) Hc
        rw [show decide ((tot ms : Int) ≤ 100) = decide (tot ms ≤ 100) from decide_eq_decide.mpr (by omega)]
        exact h
      · simp only [Bool.and_eq_true, decide_eq_true_eq] at hb
        obtain ⟨h0, h11, h100⟩ := hb
        obtain ⟨v0, vz, rfl⟩ : ∃ v0 vz, sv = vz ++ [v0] := ⟨_, _, (List.dropLast_concat_getLast (fun z => by rw [z] at lsv; exact absurd h0 (by rw [← lsv]; decide))).symm⟩
        obtain ⟨d1, d2, ed, k1, k2⟩ := dtas_split ds
        obtain ⟨tz, t, rfl⟩ : ∃ tz t, ts = tz ++ [t] := ⟨_, _, (List.dropLast_concat_getLast (fun z => by rw [z] at h0; exact absurd h0 (by decide))).symm⟩
        have d0 : Dta F v0 (itD t) := by
          have el : d1.length = (tz.map itD).length := by
            have := dtas_len k1
            rw [List.length_append, List.length_append, List.length_singleton, List.length_singleton] at lsv
            rw [List.length_map]
            omega
          rw [List.map_append] at ed
          obtain ⟨_, e2⟩ := List.append_inj ed.symm el
          subst e2
          cases k2 with
          | cons a b => exact a
        have htm : t ∈ tz ++ [t] := List.mem_append_right _ (List.mem_singleton.mpr rfl)
        obtain ⟨ea, tv, rfl, he, dt⟩ := it_inv d0
        refine ⟨⟨_, em⟩, ⟨by decide, by decide⟩, _, rfl, fun nm H3 S3 hnm => ⟨_, rfl, _, S3 _ _ es, onS_of (atI_last _ _) ⟨_, S3 _ _ (gw.fh _ _ he), onS_of (atI_nat (j := 0) rfl) ⟨(by show 2 ≤ sizeLine; decide), fun p hp => ?_⟩⟩⟩⟩
        have g3 := fz_gw gw.fh S3
        have g4 := Gw.new g3.fh hp (.lst [.str nm, tv])
        have g34 := g3.trans g4
        have t4 := S3.trans (same_new hp (.lst [.str nm, tv]))
        have em4 := t4 _ _ em
        have fm4 := g34.no _ _ em fm
        refine ⟨_, em4, by omega, ?_⟩
        have g5 := Gw.put g4.fh fm4 (.lst (mv ++ [.ref p]))
        have keep : ∀ {b : Addr} {u : HO}, b ≠ md → Hc b = some u → (upd (upd H3 p (.lst [.str nm, tv])) md (.lst (mv ++ [.ref p]))) b = some u := fun nb e => by rw [upd_ne nb]; exact t4 _ _ e
        have eat : ea ≠ md := fun z => by rw [z, fm] at he; cases he
        refine ⟨_, rfl, _, keep (fun z => nms z.symm) es, onS_of (atI_last _ _) ⟨_, keep eat (gw.fh _ _ he), onS_of (atI_nat (j := 2) rfl) ?_⟩⟩
        refine ⟨(by show 0 ≤ sizeLine; decide), fun st2 hst2 => ?_⟩
        have g6 := Gw.mut g5.fh hst2 (.lst [])
        have gA := g34.trans (g5.trans g6)
        have emd : (upd (upd H3 p (.lst [.str nm, tv])) md (.lst (mv ++ [.ref p]))) md = some (.lst (mv ++ [.ref p])) := upd_same
        have nm2 : md ≠ st2 := ne_of_none emd hst2
        have etot : (tot ms : Int) + (t.sz : Int) = (tot (ms ++ [(nm, t)]) : Int) := by rw [tot_app]; show _ = ((tot ms + (t.sz + 0) : Nat) : Int); omega
        have hsz := ht t htm
        refine ⟨st2, ms ++ [(nm, t)], [], _, some (.int c), some (.int n), some (.int op), o4, ?_, gw.trans gA, ⟨_, by rw [upd_ne nm2]; exact emd, ?_, fun x hx => ?_, fm4⟩, ⟨[], upd_same, .nil, by decide, fun t ht => (by cases ht), g5.fh.free hst2⟩, nm2, by rw [List.length_append]; exact h11, by rw [tot_app]; show tot ms + (t.sz + 0) ≤ 160; omega, fun t ht => (by cases ht), Nat.zero_le _⟩
        · rw [← etot]; rfl
        · rw [List.map_append]
          exact dtas_app (dm.same g34.ff) (.cons (.lst upd_same (.cons (.flat rfl) (.cons (dt.same g34.ff) .nil))) .nil)
        · rcases List.mem_append.mp hx with hx | hx
          · exact gm x hx
          · rw [List.mem_singleton.mp hx]; exact ⟨hnm, gs t htm⟩
      · exact ⟨st, ms, ts, F, _, _, _, _, rfl, gw, hm, hS, nms, lm, tm, ht, by omega⟩
    · have h17 : op < 18 := by
        have := of_decide_eq_false h17
        omega
      refine ⟨⟨by decide, by decide⟩, F, op, _, st, ts, rfl, o0, h17, gw.fh, hS, fun r t ts' F' H' g f hS' dr okt szt net sb => ?_⟩
      dsimp only [gName]
      obtain ⟨sv', es', ds', ls', gs', fs'⟩ := id hS'
      have lsv' := dtas_len ds'
      rw [List.length_map] at lsv'
      have em' := f _ _ em nms
      have hm' : Mdl F' H' md ms := ⟨mv, em', dm.same g.ff, gm, g.no _ _ em fm⟩
      have lt' : ts'.length ≤ i := Nat.le_trans sb.1 lt
      have ht' : ∀ x ∈ ts', x.sz + tot ms ≤ 160 := fun x hx => ht x (sb.2 x hx)
      obtain ⟨ra, tv, hra, her, dtr⟩ := it_inv dr
      cases hra
      refine ifd (decide (t.nest ≤ 24) && decide (t.sz + tot ms ≤ 160)) (fun R h => and2 _ _ (fun R h => ⟨_, g.fh _ _ her, onS_of (atI_nat (j := 1) rfl) ?_⟩) (fun R h => ⟨_, g.fh _ _ her, onS_of (atI_nat (j := 2) rfl) ?_⟩) h) (fun hb => ?_) (fun hb => ?_)
      · show R (decide ((t.nest : Int) ≤ 24)) H'
        rw [show decide ((t.nest : Int) ≤ 24) = decide (t.nest ≤ 24) from decide_eq_decide.mpr (by omega)]
        exact h
      · show R (decide ((t.sz : Int) + (tot ms : Int) ≤ 160)) H'
        rw [show decide ((t.sz : Int) + (tot ms : Int) ≤ 160) = decide (t.sz + tot ms ≤ 160) from decide_eq_decide.mpr (by omega)]
        exact h
      · simp only [Bool.and_eq_true, decide_eq_true_eq] at hb
        have gp := Gw.put g.fh fs' (.lst (sv' ++ [.ref r]))
        refine ⟨⟨_, es'⟩, _, es', by omega, ?_⟩
        refine ⟨st, ms, ts' ++ [t], F', _, _, _, _, rfl, gw.trans (g.trans gp), ⟨mv, by rw [upd_ne nms]; exact em', dm.same g.ff, gm, g.no _ _ em fm⟩, ⟨_, upd_same, ?_, by rw [List.length_append, List.length_singleton]; omega, fun x hx => ?_, fs'⟩, nms, lm, tm, fun x hx => ?_, by rw [List.length_append, List.length_singleton]; omega⟩
        · rw [List.map_append]
          exact dtas_app ds' (.cons dr .nil)
        · rcases List.mem_append.mp hx with hx | hx
          · exact gs' x hx
          · rw [List.mem_singleton.mp hx]; exact ⟨okt, hb.1, by omega⟩
        · rcases List.mem_append.mp hx with hx | hx
          · exact ht' x hx
          · rw [List.mem_singleton.mp hx]; exact hb.2
      · exact ⟨st, ms, ts', F', _, _, _, _, rfl, gw.trans g, hm', hS', nms, lm, tm, ht', by omega⟩
  · rintro σ Hc ⟨st, ms, ts, F, o1, o2, o3, o4, rfl, gw, hm, hS, nms, lm, tm, ht, lt⟩
    obtain ⟨mv, em, dm, gm, fm⟩ := id hm
    obtain ⟨sv, es, ds, ls, gs, fs⟩ := id hS
    have lmv := dtas_len dm
    have lsv := dtas_len ds
    rw [List.length_map] at lmv lsv
    dsimp only
    refine ifc (decide (ms.length = 0) || (decide (0 < ts.length) && decide (tot ms ≤ 100))) (fun R h => or2 _ _ (fun R h => ⟨md, _, rfl, .inl (SqL.of em), ?_⟩) (fun R h => and2 _ _ (fun R h => ⟨st, _, rfl, .inl (SqL.of es), ?_⟩) (fun R h => ?_) h) h) ?_
    · show R (false ^^ decide ((mv.length : Int) = 0)) Hc
      rw [Bool.false_xor, lmv, show decide ((ms.length : Int) = 0) = decide (ms.length = 0) from decide_eq_decide.mpr (by omega)]
      exact h
    · show R (decide (0 < (sv.length : Int))) Hc
      rw [lsv, show decide (0 < (ts.length : Int)) = decide (0 < ts.length) from decide_eq_decide.mpr (by omega)]
      exact h
    · show R (decide ((tot ms : Int) ≤ 100)) Hc
      rw [show decide ((tot ms : Int) ≤ 100) = decide (tot ms ≤ 100) from decide_eq_decide.mpr (by omega)]
      exact h
    cases hb : (decide (ms.length = 0) || (decide (0 < ts.length) && decide (tot ms ≤ 100))) with
    | true =>
      refine iteT ?_
      simp only [Bool.or_eq_true, Bool.and_eq_true, decide_eq_true_eq] at hb
      refine ⟨⟨_, em⟩, _, rfl, fun nm H3 S3 hnm => ?_⟩
      have g3 := fz_gw gw.fh S3
      refine ⟨_, st, ts, rfl, g3.fh, ⟨sv, S3 _ _ es, ds.same g3.ff, ls, gs, g3.no _ _ es fs⟩, fun v t ts' F' H' g4 f4 hS' dv gt sb hin => ?_⟩
      obtain ⟨ea, tv, rfl, he, dt⟩ := it_inv dv
      refine ⟨_, g4.fh _ _ he, onS_of (atI_nat (j := 0) rfl) ⟨(by show 2 ≤ sizeLine; decide), fun p hp => ?_⟩⟩
      have g5 := Gw.new g4.fh hp (.lst [.str nm, tv])
      have g35 := g3.trans (g4.trans g5)
      have em5 := same_new hp (.lst [.str nm, tv]) _ _ (f4 _ _ (S3 _ _ em) nms)
      have fm5 := g35.no _ _ em fm
      refine ⟨_, em5, by omega, ?_⟩
      have g6 := Gw.put g5.fh fm5 (.lst (mv ++ [.ref p]))
      have gA := gw.trans (g35.trans g6)
      refine q md (ms ++ [(nm, t)]) _ (gA.ff.trans gA.fh) (.lst upd_same ?_) (fun x hx => ?_) (by rw [List.length_append, List.length_singleton]; omega) (by rw [List.length_append, List.length_singleton]; omega) ?_
      · rw [List.map_append]
        have dd := dtas_app (dm.same g35.ff) (.cons (.lst (xs := [.str nm, tv]) upd_same (.cons (.flat rfl) (.cons (dt.same g5.ff) .nil))) .nil)
        exact dd.same g6.fh
      · rcases List.mem_append.mp hx with hx | hx
        · exact gm x hx
        · rw [List.mem_singleton.mp hx]; exact ⟨hnm, gt⟩
      · rw [tot_app]
        show tot ms + (t.sz + 0) ≤ 160
        rcases hb with h | ⟨h, _⟩
        · have : ms = [] := List.eq_nil_of_length_eq_zero h
          subst this
          have := gt.2.2
          show 0 + (t.sz + 0) ≤ 160
          omega
        · have := ht t (hin h)
          omega
    | false =>
      refine iteF ?_
      have h0 : ¬ ms.length = 0 := fun z => by rw [decide_eq_true z] at hb; cases hb
      exact q md ms _ (gw.ff.trans gw.fh) (.lst em (dm.same gw.fh)) gm (by omega) (by omega) tm
end
end K05.Internal
namespace K05.Internal
open PySem L2.Internal BO.Internal
seal L2.Internal.PE L2.Internal.PA L2.Internal.PS L2.Internal.PSs L2.Internal.PT L2.Internal.PI
inductive Pt
  | w (s : Str)
  | i (n : Int)
  | t (x : TM.Internal.Tr)
  | tp (l : List Pt)
mutual
noncomputable def Pt.td : Pt → Dt
  | .w s => TM.Internal.sD s
  | .i n => .flat (.int n)
  | .t x => x.td
  | .tp l => .tup (ptds l)
noncomputable def ptds : List Pt → List Dt
  | [] => []
  | x :: l => x.td :: ptds l
end
mutual
noncomputable def Pt.dp : Pt → Nat
  | .w _ => 0
  | .i _ => 0
  | .t _ => 0
  | .tp l => 1 + pdps l
noncomputable def pdps : List Pt → Nat
  | [] => 0
  | x :: l => max x.dp (pdps l)
end
mutual
noncomputable def Pt.gd (f : Nat) : Pt → Prop
  | .w s => s.length ≤ 100
  | .i n => 0 ≤ n ∧ n < 10 ^ 60
  | .t x => x.ok ∧ x.nest ≤ f
  | .tp l => l.length ≤ 100 ∧ pgds f l
noncomputable def pgds (f : Nat) : List Pt → Prop
  | [] => True
  | x :: l => x.gd f ∧ pgds f l
end
theorem ptds_map : ∀ (a : List Pt), ptds a = a.map Pt.td
  | [] => by rw [ptds]; rfl
  | x :: a => by rw [ptds, ptds_map a]; rfl
theorem pgds_mem {f : Nat} {x : Pt} : ∀ {l : List Pt}, pgds f l → x ∈ l → x.gd f
  | y :: l, h, hx => by
    rw [pgds] at h
    rcases List.mem_cons.mp hx with e | e
    · rw [e]; exact h.1
    · exact pgds_mem h.2 e
noncomputable def pq1 : List Str → List TM.Internal.Tr → List Pt
  | w :: l, k :: ks => .tp [.w w, .t k] :: pq1 l ks
  | _, _ => []
noncomputable def pq2 : List (Str × Str) → List TM.Internal.Tr → List Pt
  | p :: l, k :: ks => .tp [.w p.1, .w p.2, .t k] :: pq2 l ks
  | _, _ => []
noncomputable def _root_.TM.Internal.Kn.pt (κ : TM.Internal.Kn) (ks : List TM.Internal.Tr) : List Pt := match κ, ks with
  | .num n, _ => [.w "num", .i n]
  | .name w, _ => [.w "name", .w w]
  | .fn w, ks => .w "fn" :: .w w :: ks.map .t
  | .tag w, ks => .w "tag" :: .w w :: ks.map .t
  | .lt w, ks => .w "let" :: .w w :: ks.map .t
  | .get w, ks => .w "get" :: (ks.map .t ++ [.w w])
  | .rcd l, ks => [.w "rec", .tp (pq1 l ks)]
  | .case l, k :: ks => [.w "case", .t k, .tp (pq2 l ks)]
  | .case _, [] => []
  | .row _, ks => [.w "row", .tp (ks.map .t)]
  | .op s _, ks => .w s :: ks.map .t
theorem ptds_t : ∀ ks : List TM.Internal.Tr, ptds (ks.map .t) = trds ks
  | [] => by rw [trds]; rfl
  | k :: ks => by rw [List.map_cons, ptds, ptds_t ks, trds, Pt.td]
theorem ptds_app : ∀ (a b : List Pt), ptds (a ++ b) = ptds a ++ ptds b := fun a b => by rw [ptds_map, ptds_map, ptds_map, List.map_append]
theorem ptds_1 : ∀ (l : List Str) (ks : List TM.Internal.Tr), ptds (pq1 l ks) = pr1 l (trds ks)
  | w :: l, k :: ks => by rw [pq1, ptds, ptds_1 l ks, trds, pr1, Pt.td, ptds, ptds, ptds, Pt.td, Pt.td]
  | [], [] => by rw [pq1, trds, pr1, ptds] <;> exact fun _ _ _ _ h => nomatch h
  | [], _ :: _ => by rw [pq1, trds, pr1, ptds] <;> exact fun _ _ _ _ h => nomatch h
  | _ :: _, [] => by rw [pq1, trds, pr1, ptds] <;> exact fun _ _ _ _ _ h => nomatch h
theorem ptds_2 : ∀ (l : List (Str × Str)) (ks : List TM.Internal.Tr), ptds (pq2 l ks) = pr2 l (trds ks)
  | w :: l, k :: ks => by rw [pq2, ptds, ptds_2 l ks, trds, pr2, Pt.td, ptds, ptds, ptds, ptds, Pt.td, Pt.td, Pt.td]
  | [], [] => by rw [pq2, trds, pr2, ptds] <;> exact fun _ _ _ _ h => nomatch h
  | [], _ :: _ => by rw [pq2, trds, pr2, ptds] <;> exact fun _ _ _ _ h => nomatch h
  | _ :: _, [] => by rw [pq2, trds, pr2, ptds] <;> exact fun _ _ _ _ _ h => nomatch h
theorem td_pt (κ : TM.Internal.Kn) (ks : List TM.Internal.Tr) : (TM.Internal.Tr.mk κ ks).td = .lst (ptds (κ.pt ks)) := by
  rw [TM.Internal.Tr.td]
  cases κ with
  | num n => show _ = Dt.lst (ptds [.w "num", .i n]); rw [ptds, ptds, ptds, Pt.td, Pt.td]; rfl
  | name w => show _ = Dt.lst (ptds [.w "name", .w w]); rw [ptds, ptds, ptds, Pt.td, Pt.td]; rfl
  | fn w => show _ = Dt.lst (ptds (.w "fn" :: .w w :: ks.map .t)); rw [ptds, ptds, ptds_t, Pt.td, Pt.td]; rfl
  | tag w => show _ = Dt.lst (ptds (.w "tag" :: .w w :: ks.map .t)); rw [ptds, ptds, ptds_t, Pt.td, Pt.td]; rfl
  | lt w => show _ = Dt.lst (ptds (.w "let" :: .w w :: ks.map .t)); rw [ptds, ptds, ptds_t, Pt.td, Pt.td]; rfl
  | get w => show _ = Dt.lst (ptds (.w "get" :: (ks.map .t ++ [.w w]))); rw [ptds, ptds_app, ptds_t, ptds, ptds, Pt.td, Pt.td]; rfl
  | rcd l => show _ = Dt.lst (ptds [.w "rec", .tp (pq1 l ks)]); rw [ptds, ptds, ptds, Pt.td, Pt.td, ptds_1]; rfl
  | case l =>
    cases ks with
    | nil => show _ = Dt.lst (ptds []); rw [ptds, trds]; rfl
    | cons k ks => show _ = Dt.lst (ptds [.w "case", .t k, .tp (pq2 l ks)]); rw [ptds, ptds, ptds, ptds, Pt.td, Pt.td, Pt.td, ptds_2, trds]; rfl
  | row m => show _ = Dt.lst (ptds [.w "row", .tp (ks.map .t)]); rw [ptds, ptds, ptds, Pt.td, Pt.td, ptds_t]; rfl
  | op s m => show _ = Dt.lst (ptds (.w s :: ks.map .t)); rw [ptds, ptds_t, Pt.td]; rfl
theorem pgds_t {f : Nat} : ∀ {ks : List TM.Internal.Tr}, TM.Internal.oks ks → TM.Internal.nests ks ≤ f → pgds f (ks.map .t)
  | [], _, _ => by rw [List.map_nil, pgds]; trivial
  | k :: ks, h, hn => by
    rw [TM.Internal.oks] at h
    rw [TM.Internal.nests] at hn
    rw [List.map_cons, pgds, Pt.gd]
    exact ⟨⟨h.1, by omega⟩, pgds_t h.2 (by omega)⟩
theorem pgds_app {f : Nat} : ∀ {a b : List Pt}, pgds f a → pgds f b → pgds f (a ++ b)
  | [], _, _, h => h
  | x :: a, b, h, h' => by
    rw [pgds] at h
    rw [List.cons_append, pgds]
    exact ⟨h.1, pgds_app h.2 h'⟩
theorem nm_len {w : Str} (h : GR.Internal.isName w = true) : w.length ≤ 100 := by
  unfold GR.Internal.isName at h
  simp only [Bool.and_eq_true, decide_eq_true_eq] at h
  have := h.1.1.1.2
  omega
theorem pgds_1 {f : Nat} : ∀ {l : List Str} {ks : List TM.Internal.Tr}, (∀ w ∈ l, GR.Internal.isName w = true) → TM.Internal.oks ks → TM.Internal.nests ks ≤ f → pgds f (pq1 l ks) ∧ (pq1 l ks).length ≤ l.length ∧ pdps (pq1 l ks) ≤ 1
  | w :: l, k :: ks, hw, h, hn => by
    rw [TM.Internal.oks] at h
    rw [TM.Internal.nests] at hn
    obtain ⟨a, b, c⟩ := pgds_1 (fun x hx => hw x (List.mem_cons_of_mem _ hx)) h.2 (show TM.Internal.nests ks ≤ f by omega)
    have := nm_len (hw w List.mem_cons_self)
    rw [pq1, pgds, Pt.gd, pgds, pgds, pgds, Pt.gd, Pt.gd, pdps, Pt.dp, pdps, pdps, pdps, Pt.dp, Pt.dp]
    exact ⟨⟨⟨(by show 2 ≤ 100; decide), this, ⟨h.1, by omega⟩, trivial⟩, a⟩, by rw [List.length_cons, List.length_cons]; omega, by omega⟩
  | [], [], _, _, _ => ⟨by show pgds f []; rw [pgds]; trivial, Nat.zero_le _, by show pdps [] ≤ 1; rw [pdps]; omega⟩
  | [], _ :: _, _, _, _ => ⟨by show pgds f []; rw [pgds]; trivial, Nat.zero_le _, by show pdps [] ≤ 1; rw [pdps]; omega⟩
  | _ :: _, [], _, _, _ => ⟨by show pgds f []; rw [pgds]; trivial, Nat.zero_le _, by show pdps [] ≤ 1; rw [pdps]; omega⟩
theorem pgds_2 {f : Nat} : ∀ {l : List (Str × Str)} {ks : List TM.Internal.Tr}, (∀ w ∈ l, GR.Internal.isName w.1 = true ∧ GR.Internal.isName w.2 = true) → TM.Internal.oks ks → TM.Internal.nests ks ≤ f → pgds f (pq2 l ks) ∧ (pq2 l ks).length ≤ l.length ∧ pdps (pq2 l ks) ≤ 1
  | w :: l, k :: ks, hw, h, hn => by
    rw [TM.Internal.oks] at h
    rw [TM.Internal.nests] at hn
    obtain ⟨a, b, c⟩ := pgds_2 (fun x hx => hw x (List.mem_cons_of_mem _ hx)) h.2 (show TM.Internal.nests ks ≤ f by omega)
    have h1 := nm_len (hw w List.mem_cons_self).1
    have h2 := nm_len (hw w List.mem_cons_self).2
    rw [pq2, pgds, Pt.gd, pgds, pgds, pgds, pgds, Pt.gd, Pt.gd, Pt.gd, pdps, Pt.dp, pdps, pdps, pdps, pdps, Pt.dp, Pt.dp, Pt.dp]
    exact ⟨⟨⟨(by show 3 ≤ 100; decide), h1, h2, ⟨h.1, by omega⟩, trivial⟩, a⟩, by rw [List.length_cons, List.length_cons]; omega, by omega⟩
  | [], [], _, _, _ => ⟨by show pgds f []; rw [pgds]; trivial, Nat.zero_le _, by show pdps [] ≤ 1; rw [pdps]; omega⟩
  | [], _ :: _, _, _, _ => ⟨by show pgds f []; rw [pgds]; trivial, Nat.zero_le _, by show pdps [] ≤ 1; rw [pdps]; omega⟩
  | _ :: _, [], _, _, _ => ⟨by show pgds f []; rw [pgds]; trivial, Nat.zero_le _, by show pdps [] ≤ 1; rw [pdps]; omega⟩
theorem pdps_t : ∀ ks : List TM.Internal.Tr, pdps (ks.map .t) = 0
  | [] => by rw [List.map_nil, pdps]
  | k :: ks => by rw [List.map_cons, pdps, pdps_t ks, Pt.dp]; rfl
theorem pdps_app : ∀ (a b : List Pt), pdps (a ++ b) = max (pdps a) (pdps b)
  | [], b => by rw [List.nil_append, pdps]; omega
  | x :: a, b => by rw [List.cons_append, pdps, pdps, pdps_app a b]; omega
theorem op_len : ∀ p ∈ TM.Internal.ops, p.1.length ≤ 100 ∧ p.2 ≤ 3 := by decide +kernel
theorem gd_pt {f : Nat} {κ : TM.Internal.Kn} {ks : List TM.Internal.Tr} (h1 : κ.ok) (h2 : ks.length = κ.ar) (h3 : TM.Internal.oks ks) (hn : TM.Internal.nests ks ≤ f) : pgds f (κ.pt ks) ∧ (κ.pt ks).length ≤ 100 ∧ pdps (κ.pt ks) ≤ 2 := by
  have T1 := pgds_t h3 hn
  have wl : ∀ s : Str, s.length ≤ 100 → (Pt.w s).gd f := fun s h => by rw [Pt.gd]; exact h
  have wd : ∀ s : Str, (Pt.w s).dp = 0 := fun s => by rw [Pt.dp]
  have lm : (ks.map Pt.t).length = ks.length := List.length_map _
  cases κ with
  | num n =>
    show pgds f [.w "num", .i n] ∧ 2 ≤ 100 ∧ pdps [.w "num", .i n] ≤ 2
    rw [pgds, pgds, pgds, Pt.gd, Pt.gd, pdps, pdps, pdps, Pt.dp, Pt.dp]
    exact ⟨⟨by decide +kernel, h1, trivial⟩, by decide, by decide⟩
  | name w =>
    have := nm_len h1
    show pgds f [.w "name", .w w] ∧ 2 ≤ 100 ∧ pdps [.w "name", .w w] ≤ 2
    rw [pgds, pgds, pgds, pdps, pdps, pdps, wd, wd]
    exact ⟨⟨wl _ (by decide +kernel), wl _ this, trivial⟩, by decide, by decide⟩
  | fn w =>
    have := nm_len h1
    show pgds f (.w "fn" :: .w w :: ks.map .t) ∧ (ks.map Pt.t).length + 1 + 1 ≤ 100 ∧ pdps (.w "fn" :: .w w :: ks.map .t) ≤ 2
    rw [pgds, pgds, pdps, pdps, wd, wd, pdps_t, lm, h2]
    exact ⟨⟨wl _ (by decide +kernel), wl _ this, T1⟩, (by show _ + 1 + 1 ≤ 100; simp [TM.Internal.Kn.ar]), by decide⟩
  | tag w =>
    have := nm_len h1
    show pgds f (.w "tag" :: .w w :: ks.map .t) ∧ (ks.map Pt.t).length + 1 + 1 ≤ 100 ∧ pdps (.w "tag" :: .w w :: ks.map .t) ≤ 2
    rw [pgds, pgds, pdps, pdps, wd, wd, pdps_t, lm, h2]
    exact ⟨⟨wl _ (by decide +kernel), wl _ this, T1⟩, (by show _ + 1 + 1 ≤ 100; simp [TM.Internal.Kn.ar]), by decide⟩
  | lt w =>
    have := nm_len h1
    show pgds f (.w "let" :: .w w :: ks.map .t) ∧ (ks.map Pt.t).length + 1 + 1 ≤ 100 ∧ pdps (.w "let" :: .w w :: ks.map .t) ≤ 2
    rw [pgds, pgds, pdps, pdps, wd, wd, pdps_t, lm, h2]
    exact ⟨⟨wl _ (by decide +kernel), wl _ this, T1⟩, (by show _ + 1 + 1 ≤ 100; simp [TM.Internal.Kn.ar]), by decide⟩
  | get w =>
    have := nm_len h1
    show pgds f (.w "get" :: (ks.map .t ++ [.w w])) ∧ (ks.map Pt.t ++ [Pt.w w]).length + 1 ≤ 100 ∧ pdps (.w "get" :: (ks.map .t ++ [.w w])) ≤ 2
    rw [pgds, pdps, pdps_app, pdps, pdps, wd, wd, pdps_t, List.length_append, lm, h2]
    exact ⟨⟨wl _ (by decide +kernel), pgds_app T1 (by rw [pgds, pgds]; exact ⟨wl _ this, trivial⟩)⟩, (by show 1 + 1 + 1 ≤ 100; decide), by decide⟩
  | rcd l =>
    obtain ⟨a, b, c⟩ := pgds_1 h1.2 h3 hn
    have := h1.1
    show pgds f [.w "rec", .tp (pq1 l ks)] ∧ 2 ≤ 100 ∧ pdps [.w "rec", .tp (pq1 l ks)] ≤ 2
    rw [pgds, pgds, pgds, pdps, pdps, pdps, wd, Pt.gd, Pt.dp]
    exact ⟨⟨wl _ (by decide +kernel), ⟨by omega, a⟩, trivial⟩, by decide, by omega⟩
  | case l =>
    cases ks with
    | nil => exact absurd h2 (by simp [TM.Internal.Kn.ar])
    | cons k ks =>
      rw [TM.Internal.oks] at h3
      rw [TM.Internal.nests] at hn
      obtain ⟨a, b, c⟩ := pgds_2 h1.2.2 h3.2 (show TM.Internal.nests ks ≤ f by omega)
      have := h1.2.1
      show pgds f [.w "case", .t k, .tp (pq2 l ks)] ∧ 3 ≤ 100 ∧ pdps [.w "case", .t k, .tp (pq2 l ks)] ≤ 2
      rw [pgds, pgds, pgds, pgds, pdps, pdps, pdps, pdps, wd, Pt.gd, Pt.gd, Pt.dp, Pt.dp]
      exact ⟨⟨wl _ (by decide +kernel), ⟨h3.1, by omega⟩, ⟨by omega, a⟩, trivial⟩, by decide, by omega⟩
  | row m =>
    have h8 : m ≤ 8 := h1
    have hm : ks.length = m := h2
    show pgds f [.w "row", .tp (ks.map .t)] ∧ 2 ≤ 100 ∧ pdps [.w "row", .tp (ks.map .t)] ≤ 2
    rw [pgds, pgds, pgds, pdps, pdps, pdps, wd, Pt.dp, pdps_t]
    refine ⟨⟨wl _ (by decide +kernel), ?_, trivial⟩, by decide, by decide⟩
    rw [Pt.gd, lm]
    exact ⟨by omega, T1⟩
  | op s m =>
    obtain ⟨a, b⟩ := op_len (s, m) h1
    have hm : ks.length = m := h2
    show pgds f (.w s :: ks.map .t) ∧ (ks.map Pt.t).length + 1 ≤ 100 ∧ pdps (.w s :: ks.map .t) ≤ 2
    rw [pgds, pdps, wd, pdps_t, lm]
    exact ⟨⟨wl _ a, T1⟩, by have : m ≤ 3 := b; omega, by decide⟩
end K05.Internal
namespace K05.Internal
open PySem L2.Internal BO.Internal
seal L2.Internal.PE L2.Internal.PA L2.Internal.PS L2.Internal.PSs L2.Internal.PT L2.Internal.PI
open GR.Internal (Op Gp toks readA defsA exprA isName isNum WOk)
noncomputable def jn (l : List Str) : Str := Str.join " " l
theorem jn_cons {x : Str} {l : List Str} (h : l ≠ []) : jn (x :: l) = x ++ " " ++ jn l := by
  cases l with
  | nil => exact absurd rfl h
  | cons y l => rfl
theorem jn_one (x : Str) : jn [x] = x := rfl
mutual
noncomputable def Pt.mx : Pt → Nat
  | .w _ => 0
  | .i _ => 0
  | .t x => 4 * x.nest
  | .tp l => 1 + pmxs l
noncomputable def pmxs : List Pt → Nat
  | [] => 0
  | x :: l => max x.mx (pmxs l)
end
mutual
theorem Pt.mx_le {f : Nat} : ∀ {x : Pt}, x.gd f → x.mx ≤ 4 * f + x.dp
  | .w _, _ => by rw [Pt.mx]; omega
  | .i _, _ => by rw [Pt.mx]; omega
  | .t x, h => by rw [Pt.gd] at h; rw [Pt.mx]; omega
  | .tp l, h => by
    rw [Pt.gd] at h
    have := pmxs_le h.2
    rw [Pt.mx, Pt.dp]
    omega
theorem pmxs_le {f : Nat} : ∀ {l : List Pt}, pgds f l → pmxs l ≤ 4 * f + pdps l
  | [], _ => by rw [pmxs]; omega
  | x :: l, h => by
    rw [pgds] at h
    have h1 := Pt.mx_le h.1
    have h2 := pmxs_le h.2
    rw [pmxs, pdps]
    omega
end
theorem pmxs_mem {x : Pt} : ∀ {l : List Pt}, x ∈ l → x.mx ≤ pmxs l
  | y :: l, hx => by
    rw [pmxs]
    rcases List.mem_cons.mp hx with e | e
    · rw [e]; exact Nat.le_max_left _ _
    · exact Nat.le_trans (pmxs_mem e) (Nat.le_max_right _ _)
noncomputable def _root_.TM.Internal.Kn.fm : TM.Internal.Kn → Prop
  | .num _ => False
  | .name _ => False
  | _ => True
theorem ops_s : ∀ p ∈ TM.Internal.ops, p.1 ≠ "num" ∧ p.1 ≠ "name" := by decide +kernel
theorem fm_s {κ : TM.Internal.Kn} (hf : κ.fm) (ho : κ.ok) : κ.s ≠ "num" ∧ κ.s ≠ "name" := by
  cases κ with
  | num n => exact hf.elim
  | name w => exact hf.elim
  | op s m => exact ops_s (s, m) ho
  | fn w => exact (show ("fn" : Str) ≠ "num" ∧ ("fn" : Str) ≠ "name" from by decide +kernel)
  | tag w => exact (show ("tag" : Str) ≠ "num" ∧ ("tag" : Str) ≠ "name" from by decide +kernel)
  | lt w => exact (show ("let" : Str) ≠ "num" ∧ ("let" : Str) ≠ "name" from by decide +kernel)
  | get w => exact (show ("get" : Str) ≠ "num" ∧ ("get" : Str) ≠ "name" from by decide +kernel)
  | rcd l => exact (show ("rec" : Str) ≠ "num" ∧ ("rec" : Str) ≠ "name" from by decide +kernel)
  | case l => exact (show ("case" : Str) ≠ "num" ∧ ("case" : Str) ≠ "name" from by decide +kernel)
  | row m => exact (show ("row" : Str) ≠ "num" ∧ ("row" : Str) ≠ "name" from by decide +kernel)
theorem kinds (κ : TM.Internal.Kn) : (∃ n, κ = .num n) ∨ (∃ w, κ = .name w) ∨ κ.fm := by
  cases κ with
  | num n => exact .inl ⟨n, rfl⟩
  | name w => exact .inr (.inl ⟨w, rfl⟩)
  | _ => exact .inr (.inr trivial)
theorem log_le {n : Int} (h0 : 0 ≤ n) (h1 : n < 10 ^ 60) : n.natAbs.log2 < 1920 := by
  by_cases hz : n.natAbs = 0
  · rw [hz]; decide +kernel
  · rw [Nat.log2_lt hz]
    have h2 : n.natAbs < 10 ^ 60 := by omega
    have h3 : (10 : Nat) ^ 60 ≤ 2 ^ 200 := by decide +kernel
    have h4 : (2 : Nat) ^ 200 ≤ 2 ^ 1920 := Nat.pow_le_pow_right (by decide) (by decide)
    omega
structure Wg (w : Str) : Prop where
  sh : w = "(" ∨ w = ")" ∨ (w.cps.toList ≠ [] ∧ ∀ k ∈ w.cps.toList, k ≠ 32 ∧ k ≠ 10 ∧ k ≠ 40 ∧ k ≠ 41)
  ln : w.length ≤ 61
  as : ∀ c ∈ w.cps.toList, c < 128
theorem op_br : Op "(" ["("] ∧ Op ")" [")"] := by unfold Op; decide +kernel
theorem op_one {w : Str} (h : Wg w) : Op w [w] := by
  rcases h.sh with rfl | rfl | h
  · exact op_br.1
  · exact op_br.2
  · exact Op.word h.1 h.2
theorem op_jn : ∀ {ws : List Str}, (∀ w ∈ ws, Wg w) → Op (jn ws) ws
  | [], _ => by unfold Op; decide +kernel
  | [w], h => op_one (h w List.mem_cons_self)
  | w :: v :: ws, h => by
    rw [jn_cons (by simp)]
    exact (op_one (h w List.mem_cons_self)).gap.app_op (op_jn (ws := v :: ws) fun x hx => h x (List.mem_cons_of_mem _ hx))
theorem wg_ne {w : Str} (h : Wg w) : w ≠ "" := by
  intro z
  subst z
  rcases h.sh with h | h | h
  · exact absurd h (by decide +kernel)
  · exact absurd h (by decide +kernel)
  · exact h.1 (by decide +kernel)
noncomputable def wz : List Str → Nat
  | [] => 0
  | w :: r => w.length + 1 + wz r
theorem wz_app : ∀ a b : List Str, wz (a ++ b) = wz a + wz b
  | [], b => by rw [List.nil_append, wz, Nat.zero_add]
  | x :: a, b => by rw [List.cons_append, wz, wz, wz_app a b]; omega
theorem wz_len : ∀ a : List Str, a.length ≤ wz a
  | [] => Nat.le_refl _
  | x :: a => by have := wz_len a; rw [wz, List.length_cons]; omega
theorem jn_wz : ∀ ws : List Str, (jn ws).length ≤ wz ws
  | [] => by decide +kernel
  | [w] => by rw [jn_one, wz]; omega
  | w :: v :: ws => by
    have := jn_wz (v :: ws)
    have h1 : (" " : Str).length = 1 := by decide +kernel
    rw [jn_cons (by simp), Str.length_append, Str.length_append, h1, wz]
    omega
theorem wz_sum : ∀ ws : List Str, (ws.map (·.length)).sum + ws.length = wz ws
  | [] => rfl
  | w :: ws => by
    have := wz_sum ws
    rw [List.map_cons, List.sum_cons, List.length_cons, wz]
    omega
theorem wz_cut (ws : List Str) (i j : Nat) (h : i ≤ j) : wz (ws.take i) + wz (ws.drop j) ≤ wz ws := by
  have e : ws = ws.take i ++ ((ws.drop i).take (j - i) ++ ws.drop j) := by
    conv => lhs; rw [← List.take_append_drop i ws, ← List.take_append_drop (j - i) (ws.drop i), List.drop_drop]
    rw [show i + (j - i) = j by omega]
  conv => rhs; rw [e, wz_app, wz_app]
  omega
theorem nm_len12 {w : Str} (h : isName w = true) : w.length ≤ 12 := by
  unfold isName at h
  simp only [Bool.and_eq_true, decide_eq_true_eq] at h
  exact h.1.1.1.2
noncomputable def Kz (t : TM.Internal.Tr) : Prop := wz t.tk + 30 ≤ 100 * t.sz
theorem kz_kids : ∀ {ks : List TM.Internal.Tr}, (∀ k ∈ ks, Kz k) → wz (TM.Internal.tks ks).flatten ≤ 100 * TM.Internal.szs ks
  | [], _ => by rw [TM.Internal.tks]; exact Nat.zero_le _
  | k :: ks, h => by
    have a := kz_kids fun x hx => h x (List.mem_cons_of_mem _ hx)
    have b : wz k.tk + 30 ≤ 100 * k.sz := h k List.mem_cons_self
    rw [TM.Internal.tks, List.flatten_cons, wz_app, TM.Internal.szs]
    omega
theorem kz_1 : ∀ {l : List Str} {ks : List TM.Internal.Tr}, (∀ w ∈ l, isName w = true) → (∀ k ∈ ks, Kz k) → wz (TM.Internal.wv1 l (TM.Internal.tks ks)) ≤ 100 * TM.Internal.szs ks
  | w :: l, k :: ks, hw, h => by
    have a := kz_1 (fun x hx => hw x (List.mem_cons_of_mem _ hx)) fun x hx => h x (List.mem_cons_of_mem _ hx)
    have b : wz k.tk + 30 ≤ 100 * k.sz := h k List.mem_cons_self
    have c := nm_len12 (hw w List.mem_cons_self)
    rw [TM.Internal.tks, TM.Internal.wv1, wz, wz_app, TM.Internal.szs]
    omega
  | [], [], _, _ => by rw [TM.Internal.tks]; exact Nat.zero_le _
  | [], _ :: _, _, _ => by rw [TM.Internal.tks]; exact Nat.zero_le _
  | _ :: _, [], _, _ => by rw [TM.Internal.tks]; exact Nat.zero_le _
theorem kz_2 : ∀ {l : List (Str × Str)} {ks : List TM.Internal.Tr}, (∀ w ∈ l, isName w.1 = true ∧ isName w.2 = true) → (∀ k ∈ ks, Kz k) → wz (TM.Internal.wv2 l (TM.Internal.tks ks)) ≤ 100 * TM.Internal.szs ks
  | w :: l, k :: ks, hw, h => by
    have a := kz_2 (fun x hx => hw x (List.mem_cons_of_mem _ hx)) fun x hx => h x (List.mem_cons_of_mem _ hx)
    have b : wz k.tk + 30 ≤ 100 * k.sz := h k List.mem_cons_self
    have c := nm_len12 (hw w List.mem_cons_self).1
    have d := nm_len12 (hw w List.mem_cons_self).2
    rw [TM.Internal.tks, TM.Internal.wv2, wz, wz, wz_app, TM.Internal.szs]
    omega
  | [], [], _, _ => by rw [TM.Internal.tks]; exact Nat.zero_le _
  | [], _ :: _, _, _ => by rw [TM.Internal.tks]; exact Nat.zero_le _
  | _ :: _, [], _, _ => by rw [TM.Internal.tks]; exact Nat.zero_le _
theorem kz_ws {κ : TM.Internal.Kn} {ks : List TM.Internal.Tr} (hf : κ.fm) (ho : κ.ok) (h2 : ks.length = κ.ar) (h : ∀ k ∈ ks, Kz k) : wz (κ.ws (TM.Internal.tks ks)) ≤ 13 + 100 * TM.Internal.szs ks := by
  have a := kz_kids h
  cases κ with
  | num n => exact hf.elim
  | name w => exact hf.elim
  | fn w => have := nm_len12 ho; show wz (w :: (TM.Internal.tks ks).flatten) ≤ _; rw [wz]; omega
  | tag w => have := nm_len12 ho; show wz (w :: (TM.Internal.tks ks).flatten) ≤ _; rw [wz]; omega
  | lt w => have := nm_len12 ho; show wz (w :: (TM.Internal.tks ks).flatten) ≤ _; rw [wz]; omega
  | get w => have := nm_len12 ho; show wz ((TM.Internal.tks ks).flatten ++ [w]) ≤ _; rw [wz_app, wz, wz]; omega
  | rcd l => have := kz_1 ho.2 h; show wz (TM.Internal.wv1 l (TM.Internal.tks ks)) ≤ _; omega
  | case l =>
    cases ks with
    | nil => exact absurd h2 (by simp [TM.Internal.Kn.ar])
    | cons k ks =>
      have := kz_2 ho.2.2 fun x hx => h x (List.mem_cons_of_mem _ hx)
      have b : wz k.tk + 30 ≤ 100 * k.sz := h k List.mem_cons_self
      rw [TM.Internal.tks, TM.Internal.szs]
      show wz (k.tk ++ TM.Internal.wv2 l (TM.Internal.tks ks)) ≤ _
      rw [wz_app]
      omega
  | row m => show wz (TM.Internal.tks ks).flatten ≤ _; omega
  | op s m => show wz (TM.Internal.tks ks).flatten ≤ _; omega
theorem ops_len : ∀ p ∈ TM.Internal.ops, p.1.length ≤ 4 := by decide +kernel
theorem s_len {κ : TM.Internal.Kn} (hf : κ.fm) (ho : κ.ok) : κ.s.length ≤ 4 := by
  cases κ with
  | num n => exact hf.elim
  | name w => exact hf.elim
  | op s m => exact ops_len (s, m) ho
  | fn w => exact (show ("fn" : Str).length ≤ 4 from by decide +kernel)
  | tag w => exact (show ("tag" : Str).length ≤ 4 from by decide +kernel)
  | lt w => exact (show ("let" : Str).length ≤ 4 from by decide +kernel)
  | get w => exact (show ("get" : Str).length ≤ 4 from by decide +kernel)
  | rcd l => exact (show ("rec" : Str).length ≤ 4 from by decide +kernel)
  | case l => exact (show ("case" : Str).length ≤ 4 from by decide +kernel)
  | row m => exact (show ("row" : Str).length ≤ 4 from by decide +kernel)
theorem tk_fm {κ : TM.Internal.Kn} (hf : κ.fm) (ks : List TM.Internal.Tr) : (TM.Internal.Tr.mk κ ks).tk = ("(" : Str) :: κ.s :: (κ.ws (TM.Internal.tks ks) ++ [(")" : Str)]) := by
  rw [TM.Internal.Tr.tk]
  cases κ with
  | num n => exact hf.elim
  | name w => exact hf.elim
  | _ => rfl
theorem br_len : ("(" : Str).length = 1 ∧ (")" : Str).length = 1 := by decide +kernel
mutual
theorem kz_t : ∀ t : TM.Internal.Tr, t.ok → Kz t
  | .mk κ ks, ho => by
    rw [TM.Internal.Tr.ok] at ho
    have ih := kz_ts ks ho.2.2
    unfold Kz
    rcases kinds κ with ⟨n, rfl⟩ | ⟨w, rfl⟩ | hf
    · obtain ⟨_, _, a⟩ := GR.Internal.str_fig (k := 59) ho.1.1 ho.1.2
      have a : (TM.Internal.numS n).length ≤ 60 := a
      rw [TM.Internal.Tr.tk, TM.Internal.Tr.sz]
      show wz [TM.Internal.numS n] + 30 ≤ _
      rw [wz, wz]
      omega
    · have a := nm_len12 ho.1
      rw [TM.Internal.Tr.tk, TM.Internal.Tr.sz]
      show wz [w] + 30 ≤ _
      rw [wz, wz]
      omega
    · have a := kz_ws hf ho.1 ho.2.1 ih
      have b := s_len hf ho.1
      rw [tk_fm hf, TM.Internal.Tr.sz, wz, wz, wz_app, wz, wz, br_len.1, br_len.2]
      omega
theorem kz_ts : ∀ ts : List TM.Internal.Tr, TM.Internal.oks ts → ∀ t ∈ ts, Kz t
  | [], _, t, h => by cases h
  | x :: ts, ho, t, h => by
    rw [TM.Internal.oks] at ho
    rcases List.mem_cons.mp h with e | e
    · rw [e]; exact kz_t x ho.1
    · exact kz_ts ts ho.2 t e
end
noncomputable def dtk (n : Str) (t : TM.Internal.Tr) : List Str := ("(" : Str) :: "def" :: n :: (t.tk ++ [(")" : Str)])
noncomputable def dtM : List (Str × TM.Internal.Tr) → List Str
  | [] => []
  | p :: ms => dtk p.1 p.2 ++ dtM ms
theorem dtM_app : ∀ a b : List (Str × TM.Internal.Tr), dtM (a ++ b) = dtM a ++ dtM b
  | [], b => rfl
  | x :: a, b => by rw [List.cons_append, dtM, dtM, dtM_app a b, List.append_assoc]
theorem df_len : ("def" : Str).length = 3 := by decide +kernel
theorem dtk_wz {n : Str} {t : TM.Internal.Tr} (hn : isName n = true) (ho : t.ok) : wz (dtk n t) ≤ 100 * t.sz := by
  have a : wz t.tk + 30 ≤ 100 * t.sz := kz_t t ho
  have b := nm_len12 hn
  unfold dtk
  rw [wz, wz, wz, wz_app, wz, wz, br_len.1, br_len.2, df_len]
  omega
theorem dtM_wz : ∀ {ms : List (Str × TM.Internal.Tr)}, (∀ p ∈ ms, GdM p) → wz (dtM ms) ≤ 100 * tot ms
  | [], _ => Nat.le_refl _
  | p :: ms, h => by
    have a := dtM_wz fun x hx => h x (List.mem_cons_of_mem _ hx)
    have b := dtk_wz (h p List.mem_cons_self).1 (h p List.mem_cons_self).2.1
    rw [dtM, wz_app, tot]
    omega
theorem dtM_all : ∀ {ms : List (Str × TM.Internal.Tr)}, (∀ p ∈ ms, GdM p) → ∀ (rows : List Dt) (names : List Str) (roots : List Dt), rows.length + tot ms ≤ 160 →
    ∃ roots' rows', defsA (dtM ms) rows names roots = some (names ++ ms.map Prod.fst, roots', rows')
  | [], _, rows, names, roots, _ => ⟨roots, rows, by show defsA [] rows names roots = _; rw [GR.Internal.defs_nil, List.map_nil, List.append_nil]⟩
  | p :: ms, h, rows, names, roots, hz => by
    obtain ⟨h1, h2, h3, h4⟩ := h p List.mem_cons_self
    rw [tot] at hz
    have e := TM.Internal.rd_all 24 p.2 h2 h3 ((")" : Str) :: dtM ms) rows (by omega)
    have lr : (rows ++ p.2.rw rows.length).length = rows.length + p.2.sz := by rw [List.length_append, TM.Internal.Tr.rw_len]
    have e1 : dtM (p :: ms) = ("(" : Str) :: "def" :: p.1 :: (p.2.tk ++ (")" : Str) :: dtM ms) := by
      show dtk p.1 p.2 ++ dtM ms = _
      unfold dtk
      rw [List.cons_append, List.cons_append, List.cons_append, List.append_assoc]
      rfl
    obtain ⟨r1, r2, ih⟩ := dtM_all (fun x hx => h x (List.mem_cons_of_mem _ hx)) (rows ++ p.2.rw rows.length) (names ++ [p.1]) (roots ++ [.flat (.int (rows.length : Int))]) (by rw [lr]; omega)
    refine ⟨r1, r2, ?_⟩
    rw [e1, GR.Internal.defs_yes h1 e, ih, List.map_cons, List.append_assoc]
    rfl
theorem read_M {ms : List (Str × TM.Internal.Tr)} (h : ∀ p ∈ ms, GdM p) (hz : tot ms ≤ 160) (h1 : 1 ≤ ms.length) (h12 : ms.length ≤ 12) : ∃ o, readA (dtM ms) = some o := by
  obtain ⟨r1, r2, e⟩ := dtM_all h [] [] [] (by rw [List.length_nil, Nat.zero_add]; exact hz)
  refine ⟨(ms.map Prod.fst, r1, r2), ?_⟩
  unfold readA
  rw [e]
  show (if 1 ≤ ([] ++ ms.map Prod.fst).length ∧ ([] ++ ms.map Prod.fst).length ≤ 12 then _ else _) = _
  rw [List.nil_append, List.length_map, if_pos ⟨h1, h12⟩]
theorem kw_wg : ∀ w ∈ SP.Internal.KW, Wg w := fun w hw => by
  have h : ∀ w ∈ SP.Internal.KW, (w.cps.toList ≠ [] ∧ ∀ k ∈ w.cps.toList, k ≠ 32 ∧ k ≠ 10 ∧ k ≠ 40 ∧ k ≠ 41) ∧ w.length ≤ 61 ∧ ∀ c ∈ w.cps.toList, c < 128 := by decide +kernel
  obtain ⟨a, b, c⟩ := h w hw
  exact ⟨.inr (.inr a), b, c⟩
theorem sf_all : ∀ c ∈ (GR.Internal.SM ++ GR.Internal.FG).cps.toList, (c ≠ 32 ∧ c ≠ 10 ∧ c ≠ 40 ∧ c ≠ 41) ∧ c < 128 := by decide +kernel
theorem fg_all : ∀ c ∈ GR.Internal.FG.cps.toList, (c ≠ 32 ∧ c ≠ 10 ∧ c ≠ 40 ∧ c ≠ 41) ∧ c < 128 := by decide +kernel
theorem br_wg : Wg "(" ∧ Wg ")" := ⟨⟨.inl rfl, by decide +kernel, by decide +kernel⟩, ⟨.inr (.inl rfl), by decide +kernel, by decide +kernel⟩⟩
theorem al_wg {w : Str} (h : SP.Internal.Al w) : Wg w := by
  rcases h with rfl | rfl | h | h | h
  · exact br_wg.1
  · exact br_wg.2
  · exact kw_wg w h
  · have hl := nm_len12 h
    unfold isName at h
    simp only [Bool.and_eq_true, decide_eq_true_eq] at h
    obtain ⟨c, r, e⟩ := GR.Internal.first_of h.1.1.1.1
    have ha := GR.Internal.allIn_mem h.2
    exact ⟨.inr (.inr ⟨fun z => (by rw [z] at e; cases e), fun k hk => (sf_all k (ha k hk)).1⟩), by omega, fun k hk => (sf_all k (ha k hk)).2⟩
  · obtain ⟨a, b, c⟩ := GR.Internal.isNum_parts h
    obtain ⟨x, r, e⟩ := GR.Internal.first_of a
    have ha := GR.Internal.allIn_mem c
    exact ⟨.inr (.inr ⟨fun z => (by rw [z] at e; cases e), fun k hk => (fg_all k (ha k hk)).1⟩), by omega, fun k hk => (fg_all k (ha k hk)).2⟩
theorem wok_g {ws : List Str} (hl : ws.length ≤ 30000) (h : ∀ w ∈ ws, Wg w) : WOk ws := ⟨hl, fun x hx => by
  have g := h x hx
  have := g.ln
  exact ⟨wg_ne g, by omega, fun k hk => by have := g.as k hk; omega⟩⟩
end K05.Internal
namespace K05.Internal
open PySem L2.Internal BO.Internal
seal L2.Internal.PE L2.Internal.PA L2.Internal.PS L2.Internal.PSs L2.Internal.PT L2.Internal.PI
mutual
noncomputable def Pt.wd : Pt → List Str
  | .w s => [s]
  | .i n => [TM.Internal.numS n]
  | .t x => x.tk
  | .tp l => pwds l
noncomputable def pwds : List Pt → List Str
  | [] => []
  | x :: l => x.wd ++ pwds l
end
theorem pwds_app : ∀ (a b : List Pt), pwds (a ++ b) = pwds a ++ pwds b
  | [], b => by rw [pwds]; rfl
  | x :: a, b => by rw [List.cons_append, pwds, pwds, pwds_app a b, List.append_assoc]
theorem pwds_t : ∀ ks : List TM.Internal.Tr, pwds (ks.map .t) = (TM.Internal.tks ks).flatten
  | [] => by rw [TM.Internal.tks]; rfl
  | k :: ks => by rw [List.map_cons, pwds, pwds_t ks, TM.Internal.tks, Pt.wd]; rfl
theorem pwds_1 : ∀ (l : List Str) (ks : List TM.Internal.Tr), pwds (pq1 l ks) = TM.Internal.wv1 l (TM.Internal.tks ks)
  | w :: l, k :: ks => by rw [pq1, pwds, pwds_1 l ks, Pt.wd, pwds, pwds, pwds, Pt.wd, Pt.wd, TM.Internal.tks, TM.Internal.wv1, List.append_nil]; rfl
  | [], [] => by rw [TM.Internal.tks]; rfl
  | [], _ :: _ => by rw [TM.Internal.tks]; rfl
  | _ :: _, [] => by rw [TM.Internal.tks]; rfl
theorem pwds_2 : ∀ (l : List (Str × Str)) (ks : List TM.Internal.Tr), pwds (pq2 l ks) = TM.Internal.wv2 l (TM.Internal.tks ks)
  | w :: l, k :: ks => by rw [pq2, pwds, pwds_2 l ks, Pt.wd, pwds, pwds, pwds, pwds, Pt.wd, Pt.wd, Pt.wd, TM.Internal.tks, TM.Internal.wv2, List.append_nil]; rfl
  | [], [] => by rw [TM.Internal.tks]; rfl
  | [], _ :: _ => by rw [TM.Internal.tks]; rfl
  | _ :: _, [] => by rw [TM.Internal.tks]; rfl
theorem fm_wd {κ : TM.Internal.Kn} {ks : List TM.Internal.Tr} (hf : κ.fm) (h2 : ks.length = κ.ar) : pwds (κ.pt ks) = κ.s :: κ.ws (TM.Internal.tks ks) ∧ ∃ r, κ.pt ks = .w κ.s :: r := by
  cases κ with
  | num n => exact hf.elim
  | name w => exact hf.elim
  | fn w =>
    refine ⟨?_, _, rfl⟩
    show pwds (.w "fn" :: .w w :: ks.map .t) = ("fn" : Str) :: w :: _
    rw [pwds, pwds, pwds_t, Pt.wd, Pt.wd]
    rfl
  | tag w =>
    refine ⟨?_, _, rfl⟩
    show pwds (.w "tag" :: .w w :: ks.map .t) = ("tag" : Str) :: w :: _
    rw [pwds, pwds, pwds_t, Pt.wd, Pt.wd]
    rfl
  | lt w =>
    refine ⟨?_, _, rfl⟩
    show pwds (.w "let" :: .w w :: ks.map .t) = ("let" : Str) :: w :: _
    rw [pwds, pwds, pwds_t, Pt.wd, Pt.wd]
    rfl
  | get w =>
    refine ⟨?_, _, rfl⟩
    show pwds (.w "get" :: (ks.map .t ++ [.w w])) = ("get" : Str) :: (_ ++ [w])
    rw [pwds, pwds_app, pwds_t, pwds, pwds, Pt.wd, Pt.wd]
    rfl
  | rcd l =>
    refine ⟨?_, _, rfl⟩
    show pwds [.w "rec", .tp (pq1 l ks)] = ("rec" : Str) :: TM.Internal.wv1 l _
    rw [pwds, pwds, pwds, Pt.wd, Pt.wd, pwds_1, List.append_nil]
    rfl
  | case l =>
    cases ks with
    | nil => exact absurd h2 (by simp [TM.Internal.Kn.ar])
    | cons k ks =>
      refine ⟨?_, _, rfl⟩
      rw [TM.Internal.tks]
      show pwds [.w "case", .t k, .tp (pq2 l ks)] = ("case" : Str) :: (k.tk ++ TM.Internal.wv2 l (TM.Internal.tks ks))
      rw [pwds, pwds, pwds, pwds, Pt.wd, Pt.wd, Pt.wd, pwds_2, List.append_nil]
      rfl
  | row m =>
    refine ⟨?_, _, rfl⟩
    show pwds [.w "row", .tp (ks.map .t)] = ("row" : Str) :: (TM.Internal.tks ks).flatten
    rw [pwds, pwds, pwds, Pt.wd, Pt.wd, pwds_t, List.append_nil]
    rfl
  | op s m =>
    refine ⟨?_, _, rfl⟩
    show pwds (.w s :: ks.map .t) = s :: (TM.Internal.tks ks).flatten
    rw [pwds, pwds_t, Pt.wd]
    rfl
theorem wz_take (l : List Pt) {i : Nat} {x : Pt} (h : l[i]? = some x) : pwds (l.take (i + 1)) = pwds (l.take i) ++ x.wd ∧ wz (pwds (l.take i)) + wz x.wd ≤ wz (pwds l) := by
  have e : pwds (l.take (i + 1)) = pwds (l.take i) ++ x.wd := by
    rw [List.take_add_one, h, pwds_app]
    show _ ++ pwds [x] = _
    rw [pwds, pwds, List.append_nil]
  refine ⟨e, ?_⟩
  have e2 : pwds l = pwds (l.take (i + 1)) ++ pwds (l.drop (i + 1)) := by rw [← pwds_app, List.take_append_drop]
  rw [e2, wz_app, e, wz_app]
  omega
section
variable {P : Program} {w : World} {K : PySem.W.Frag} {mg : Str → Option Value} {base : Heap}
noncomputable def sp__law_words (n : Nat) : Sp := fun vs H Q _ => ∃ (v : V) (x : Pt), vs = [v] ∧ Dta H v x.td ∧ x.gd 24 ∧ x.mx < n ∧ wz x.wd ≤ 100000 ∧ ∀ (r : Addr) (H' : Hp), Same H H' → H' r = some (.lst (x.wd.map V.str)) → Q (.ref r) H'
theorem ok__law_words (T : Txt K mg) : ∀ n : Nat, FnOk P w K mg base CX0 (n + 1) T.a__law_words T.fd__law_words ["_law_part"] (sp__law_words n) := by
  intro n
  induction n with
  | zero =>
    refine T.F__law_words.ok sc__law_words (fun vs H Q E h => ?_) (fun cdv A outer s H vs Q E hr h => ?_)
    · obtain ⟨v, x, rfl, _⟩ := h
      rfl
    obtain ⟨v, x, rfl, dv, gx, hx, _⟩ := h
    exact absurd hx (Nat.not_lt_zero _)
  | succ n ih =>
    have G__law_words := ih
    refine T.F__law_words.ok sc__law_words (fun vs H Q E h => ?_) (fun cdv A outer s H vs Q E hr h => ?_)
    · obtain ⟨v, x, rfl, _⟩ := h
      rfl
    obtain ⟨v, x, rfl, dv, gx, hx, lx, q⟩ := h
    refine ⟨_, (pss_cons (ps_if (pt_val (pe_callB call_isi rfl T.z_isinstance bt_isinstance (pa_cons (cv 0) (pa_cons (pe_bty rfl T.z_tuple bt_tuple) pa_nil))))
      (pss_cons (ps_set (i := 1) sc__law_words.nd rfl (Or.inl rfl) (pe_lst pa_nil))
      (pss_cons (ps_for PassesOwn.never rfl (pi_tup (cv 0)) (pg_name (i := 2) sc__law_words.nd rfl (Or.inl rfl))
        (pss_one (ps_set (i := 1) sc__law_words.nd rfl (Or.inl rfl) (pe_op op_cat (cv 1) (pe_call G__law_words (hr.mono (by omega)) rfl T.m__law_words T.k__law_words T.b__law_words .nil pass0 (pa_cons (cv 2) pa_nil))))))
      (pss_one (ps_ret (cv 1)))))
      pss_nil)
    (pss_cons (ps_if (pt_not (pt_val (pe_callB call_isi rfl T.z_isinstance bt_isinstance (pa_cons (cv 0) (pa_cons (pe_bty rfl T.z_list bt_list) pa_nil)))))
      (pss_one (ps_ret (pe_lst (pa_cons (pe_callTy call_strX rfl T.z_str bt_str (pa_cons (cv 0) pa_nil)) pa_nil))))
      pss_nil)
    (pss_cons (ps_if (PW.pt (pw_or (ptc_cmpR oc_eq (pe_ix xc_list (cv 0) pe_int (fun _ _ => rfl)) pe_str (nomark _)) (pw_or1 (ptc_cmpR oc_eq (pe_ix xc_list (cv 0) pe_int (fun _ _ => rfl)) pe_str (nomark _)))))
      (pss_one (ps_ret (pe_lst (pa_cons (pe_callTy call_strX rfl T.z_str bt_str (pa_cons (pe_ix xc_list (cv 0) pe_int (fun _ _ => rfl)) pa_nil)) pa_nil))))
      pss_nil)
    (pss_cons (ps_set (i := 1) sc__law_words.nd rfl (Or.inl rfl) (pe_lst (pa_cons pe_str pa_nil)))
    (pss_cons (ps_for PassesOwn.never rfl (pi_list (cv 0)) (pg_name (i := 2) sc__law_words.nd rfl (Or.inl rfl))
      (pss_one (ps_set (i := 1) sc__law_words.nd rfl (Or.inl rfl) (pe_op op_cat (cv 1) (pe_call G__law_words (hr.mono (by omega)) rfl T.m__law_words T.k__law_words T.b__law_words .nil pass0 (pa_cons (cv 2) pa_nil))))))
    (pss_one (ps_ret (pe_op op_cat (cv 1) (pe_lst (pa_cons pe_str pa_nil)))))))))), ?_⟩
    have sl : sizeLine = 16777216 := sizeLine_eq
    have one : ∀ {z : Str}, (∀ (r : Addr) (H' : Hp), Same H H' → H' r = some (.lst [V.str z]) → Q (.ref r) H') → 1 ≤ sizeLine ∧ ∀ p, H p = none → Q (.ref p) (upd H p (.lst [V.str z])) := fun {z} q => ⟨by omega, fun p hp => q p _ (same_new hp _) upd_same⟩
    cases x with
    | w z =>
      rw [Pt.td] at dv
      rw [Pt.wd] at q
      cases dv
      exact ⟨_, _, _, _, false, rfl, fun _ r => r, .str _, rfl, _, rfl, iteF ⟨_, _, _, _, false, rfl, fun _ r => r, .str _, rfl, _, rfl, iteT (.inr ⟨_, rfl, one q⟩)⟩⟩
    | i m =>
      rw [Pt.td] at dv
      rw [Pt.gd] at gx
      rw [Pt.wd] at q
      cases dv
      exact ⟨_, _, _, _, false, rfl, fun _ r => r, .int _, rfl, _, rfl, iteF ⟨_, _, _, _, false, rfl, fun _ r => r, .int _, rfl, _, rfl, iteT (.inl ⟨_, rfl, log_le gx.1 gx.2, one q⟩)⟩⟩
    | tp l =>
      rw [Pt.td] at dv
      rw [Pt.gd] at gx
      rw [Pt.mx] at hx
      rw [Pt.wd] at lx q
      cases dv with
      | @tup a xs _ ha hs =>
        have lz := dtas_len hs
        rw [ptds_map, List.length_map] at lz
        refine ⟨_, _, _, _, true, rfl, fun _ r => r, .tup ha, rfl, _, rfl, iteT ⟨(by show 0 ≤ sizeLine; decide), fun f hf => ?_⟩⟩
        have s1 := same_new hf (.lst [])
        have e1 : (upd H f (.lst [])) f = some (.lst []) := upd_same
        dsimp only [gName]
        generalize upd H f (.lst []) = H1 at s1 e1 ⊢
        refine ⟨a, rfl, ⟨_, SqT.of (s1 _ _ ha)⟩, for_tup (xs := xs) (fun i σ H2 => ∃ (o : Option V) (f : Addr), σ = [some (.ref a), some (.ref f), o] ∧ Same H H2 ∧ H2 f = some (.lst ((pwds (l.take i)).map V.str))) ⟨none, f, rfl, s1, by rw [List.take_zero, pwds]; exact e1⟩ (fun i σ H2 _ ⟨_, _, _, S, _⟩ => SqT.of (S _ _ ha)) ?_ ?_⟩
        · rintro i v σ H2 hv ⟨o, f, rfl, S, e⟩
          obtain ⟨d, hd, dv⟩ := dtas_get hs hv
          rw [ptds_map, List.getElem?_map] at hd
          obtain ⟨x, hx', rfl⟩ := Option.map_eq_some_iff.mp hd
          have hm := List.mem_of_getElem? hx'
          have := pmxs_mem hm
          obtain ⟨t1, t2⟩ := wz_take l hx'
          refine ⟨v, x, rfl, dv.same S, pgds_mem gx.2 hm, by omega, by omega, fun r H3 S3 e3 => ⟨f, r, _, _, rfl, rfl, S3 _ _ e, e3, ?_, fun p hp => ⟨_, p, rfl, (S.trans S3).trans (same_new hp _), ?_⟩⟩⟩
          · have h1 := wz_len (pwds (l.take i))
            have h2 := wz_len x.wd
            rw [List.length_map, List.length_map]
            omega
          · rw [upd_same, t1, List.map_append]
        · rintro σ H2 ⟨o, f, rfl, S, e⟩
          rw [List.take_of_length_le (by omega)] at e
          exact q f H2 S e
    | t t =>
      rw [Pt.td] at dv
      rw [Pt.gd] at gx
      rw [Pt.mx] at hx
      rw [Pt.wd] at lx q
      cases t with
      | mk κ ks =>
        rw [td_pt] at dv
        obtain ⟨okt, hn⟩ := gx
        rw [TM.Internal.Tr.ok] at okt
        rw [TM.Internal.Tr.nest] at hn hx
        obtain ⟨p1', pl1, p3⟩ := gd_pt (f := TM.Internal.nests ks) okt.1 okt.2.1 okt.2.2 (Nat.le_refl _)
        obtain ⟨p24, _, _⟩ := gd_pt (f := 24) okt.1 okt.2.1 okt.2.2 (by omega)
        have pm := pmxs_le p1'
        cases dv with
        | @lst a xs _ ha hs =>
          have lz := dtas_len hs
          rw [ptds_map, List.length_map] at lz
          refine ⟨_, _, _, _, false, rfl, fun _ r => r, .lst ha, rfl, _, rfl, iteF ⟨_, _, _, _, true, rfl, fun _ r => r, .lst ha, rfl, _, rfl, iteF ?_⟩⟩
          have hst : ∃ r, κ.pt ks = .w κ.s :: r := by
            rcases kinds κ with ⟨n, rfl⟩ | ⟨w, rfl⟩ | hf
            · exact ⟨_, rfl⟩
            · exact ⟨_, rfl⟩
            · exact (fm_wd hf okt.2.1).2
          obtain ⟨r, er⟩ := hst
          obtain ⟨xr, exs⟩ : ∃ xr, xs = .str κ.s :: xr := by
            rw [er, ptds, Pt.td] at hs
            cases hs with
            | cons h t => cases h; exact ⟨_, rfl⟩
          have h0 : xs[0]? = some (.str κ.s) := by rw [exs]; rfl
          have tst : ∀ (m : Str) (R : Bool → Hp → Prop), R (decide (κ.s = m)) H → R (false ^^ decide (κ.s = m)) H := fun m R h => by rw [Bool.false_xor]; exact h
          dsimp only [tNext]
          refine ifc (decide (κ.s = "num") || decide (κ.s = "name")) (fun R h => or2 _ _ (fun R h => ⟨_, ha, onS_of (atI_nat (j := 0) h0) (tst _ _ h)⟩) (fun R h => ⟨_, ha, onS_of (atI_nat (j := 0) h0) (tst _ _ h)⟩) h) ?_
          rcases kinds κ with ⟨m, rfl⟩ | ⟨m, rfl⟩ | hf
          · refine iteT ?_
            cases hs with
            | cons h1 hs =>
              cases hs with
              | cons h2 hs =>
                rw [Pt.td] at h2
                cases h2
                rw [TM.Internal.Tr.tk] at q
                exact ⟨_, ha, onS_of (atI_nat (j := 1) rfl) (.inl ⟨_, rfl, log_le okt.1.1 okt.1.2, one q⟩)⟩
          · refine iteT ?_
            cases hs with
            | cons h1 hs =>
              cases hs with
              | cons h2 hs =>
                rw [Pt.td] at h2
                cases h2
                rw [TM.Internal.Tr.tk] at q
                exact ⟨_, ha, onS_of (atI_nat (j := 1) rfl) (.inr ⟨_, rfl, one q⟩)⟩
          · obtain ⟨k1, k2⟩ := fm_s hf okt.1
            rw [decide_eq_false k1, decide_eq_false k2]
            refine iteF ?_
            have etk : (TM.Internal.Tr.mk κ ks).tk = [("(" : Str)] ++ pwds (κ.pt ks) ++ [(")" : Str)] := by rw [tk_fm hf, (fm_wd hf okt.2.1).1]; rfl
            rw [etk] at q lx
            rw [wz_app, wz_app] at lx
            generalize κ.pt ks = l at *
            refine ⟨(by show 1 ≤ sizeLine; decide), fun f hf => ?_⟩
            have s1 := same_new hf (.lst [.str "("])
            have e1 : (upd H f (.lst [.str "("])) f = some (.lst [.str "("]) := upd_same
            dsimp only [gName]
            generalize upd H f (.lst [.str "("]) = H1 at s1 e1 ⊢
            refine ⟨a, rfl, ⟨_, SqL.of (s1 _ _ ha)⟩, for_list (xs := xs) (fun i σ H2 => ∃ (o : Option V) (f : Addr), σ = [some (.ref a), some (.ref f), o] ∧ Same H H2 ∧ H2 f = some (.lst (([("(" : Str)] ++ pwds (l.take i)).map V.str))) ⟨none, f, rfl, s1, by rw [List.take_zero, pwds]; exact e1⟩ (fun i σ H2 _ ⟨_, _, _, S, _⟩ => SqL.of (S _ _ ha)) ?_ ?_⟩
            · rintro i v σ H2 hv ⟨o, f, rfl, S, e⟩
              obtain ⟨d, hd, dv⟩ := dtas_get hs hv
              rw [ptds_map, List.getElem?_map] at hd
              obtain ⟨x, hx', rfl⟩ := Option.map_eq_some_iff.mp hd
              have hm := List.mem_of_getElem? hx'
              have := pmxs_mem hm
              obtain ⟨t1, t2⟩ := wz_take l hx'
              refine ⟨v, x, rfl, dv.same S, pgds_mem p24 hm, by omega, by omega, fun r H3 S3 e3 => ⟨f, r, _, _, rfl, rfl, S3 _ _ e, e3, ?_, fun p hp => ⟨_, p, rfl, (S.trans S3).trans (same_new hp _), ?_⟩⟩⟩
              · have h1 := wz_len (pwds (l.take i))
                have h2 := wz_len x.wd
                rw [List.length_map, List.length_map, List.length_append, List.length_singleton]
                omega
              · rw [upd_same, t1, ← List.append_assoc, List.map_append (l₂ := x.wd)]
            · rintro σ H2 ⟨o, f, rfl, S, e⟩
              rw [List.take_of_length_le (by omega)] at e
              refine ⟨(by show 1 ≤ sizeLine; decide), fun p hp => ?_⟩
              have s2 := same_new hp (.lst [.str ")"])
              refine ⟨f, p, _, _, rfl, rfl, s2 _ _ e, upd_same, ?_, fun r hr => q r _ ((S.trans s2).trans (same_new hr _)) ?_⟩
              · have h1 := wz_len (pwds l)
                rw [List.length_map, List.length_append, List.length_singleton]
                show 1 + (pwds l).length + 1 ≤ _
                omega
              · rw [upd_same, List.map_append (l₂ := [(")" : Str)])]
                rfl
end
end K05.Internal
namespace K05.Internal
open PySem L2.Internal BO.Internal
seal L2.Internal.PE L2.Internal.PA L2.Internal.PS L2.Internal.PSs L2.Internal.PT L2.Internal.PI
open GR.Internal (isName isNum readA)
noncomputable def ODD : List Str := (["A", "aB", "0x", "00", "01", "7a", "_a", "a_b", "a-b", "-1", "+1", "1.5", "a.b", "{", "[a]", "a\tb", "Def"] : List Str) ++ (["abcdefghijklm", "a123456789012", repS "9" (61 : Int).toNat, repS "0" (60 : Int).toNat, "1" ++ repS "0" (60 : Int).toNat] : List Str) ++ (["'", "=", "#a", "#"] : List Str)
theorem odd_all : ∀ y ∈ ODD, (y ≠ "(" ∧ y ≠ ")" ∧ y ∉ SP.Internal.KW ∧ isName y = false ∧ isNum y = false) ∧ (y.cps.toList ≠ [] ∧ ∀ k ∈ y.cps.toList, k ≠ 32 ∧ k ≠ 10 ∧ k ≠ 40 ∧ k ≠ 41) ∧ y.length ≤ 61 ∧ ∀ c ∈ y.cps.toList, c < 128 := by decide +kernel
theorem odd_al {y : Str} (h : y ∈ ODD) : ¬ SP.Internal.Al y := fun z => by
  obtain ⟨⟨a, b, c, d, e⟩, _⟩ := odd_all y h
  rcases z with z | z | z | z | z
  · exact a z
  · exact b z
  · exact c z
  · rw [d] at z; cases z
  · rw [e] at z; cases z
theorem odd_wg {y : Str} (h : y ∈ ODD) : Wg y := by
  obtain ⟨_, a, b, c⟩ := odd_all y h
  exact ⟨.inr (.inr a), b, c⟩
section
variable {P : Program} {w : World} {K : PySem.W.Frag} {mg : Str → Option Value} {base : Heap}
noncomputable def sp__law_odd : Sp := fun vs H Q _ => ∃ (c : Int), vs = [.int c] ∧ ∀ (y : Str) (H' : Hp), Same H H' → y ∈ ODD → Q (.str y) H'
theorem ok__law_odd (T : Txt K mg) : FnOk P w K mg base CX0 1 T.a__law_odd T.fd__law_odd ["_law_cell"] sp__law_odd := by
  refine T.F__law_odd.ok sc__law_odd (fun vs H Q E h => ?_) (fun cdv A outer s H vs Q E hr h => ?_)
  · obtain ⟨c, rfl, _⟩ := h
    rfl
  obtain ⟨c, rfl, q⟩ := h
  refine ⟨_, (pss_cons (ps_set (i := 1) sc__law_odd.nd rfl (Or.inl rfl) (pe_lst (pa_strs (xs := ["A", "aB", "0x", "00", "01", "7a", "_a", "a_b", "a-b", "-1", "+1", "1.5", "a.b", "{", "[a]", "a	b", "Def"]) (by decide +kernel))))
    (pss_cons (ps_set (i := 1) sc__law_odd.nd rfl (Or.inl rfl) (pe_op op_cat (cv 1) (pe_lst (pa_cons pe_str (pa_cons pe_str (pa_cons (pe_op op_rep_str pe_str pe_int) (pa_cons (pe_op op_rep_str pe_str pe_int) (pa_cons (pe_op oc_addS pe_str (pe_op op_rep_str pe_str pe_int)) pa_nil))))))))
    (pss_cons (ps_set (i := 1) sc__law_odd.nd rfl (Or.inl rfl) (pe_op op_cat (cv 1) (pe_lst (pa_cons pe_str (pa_cons pe_str (pa_cons pe_str (pa_cons pe_str pa_nil)))))))
    (pss_one (ps_ret (pe_ix xc_list (cv 1) (pe_op oc_mod (cv 0) (pe_callB call_len_seq rfl T.z_len bt_len (pa_cons (cv 1) pa_nil))) (fun _ _ => rfl))))))), ?_⟩
  have sl : sizeLine = 16777216 := sizeLine_eq
  refine ⟨(by show 17 ≤ sizeLine; decide), fun a ha => ?_⟩
  have s1 := same_new ha (.lst ((["A", "aB", "0x", "00", "01", "7a", "_a", "a_b", "a-b", "-1", "+1", "1.5", "a.b", "{", "[a]", "a\tb", "Def"] : List Str).map V.str))
  dsimp only [gName]
  have e1 : upd H a (.lst ((["A", "aB", "0x", "00", "01", "7a", "_a", "a_b", "a-b", "-1", "+1", "1.5", "a.b", "{", "[a]", "a\tb", "Def"] : List Str).map V.str)) a = some (.lst ((["A", "aB", "0x", "00", "01", "7a", "_a", "a_b", "a-b", "-1", "+1", "1.5", "a.b", "{", "[a]", "a\tb", "Def"] : List Str).map V.str)) := upd_same
  generalize upd H a _ = H1 at s1 e1 ⊢
  refine ⟨"9", 61, rfl, rfl, by decide, by decide, by decide +kernel, by decide +kernel, ?_⟩
  refine ⟨"0", 60, rfl, rfl, by decide, by decide, by decide +kernel, by decide +kernel, ?_⟩
  refine ⟨"0", 60, rfl, rfl, by decide, by decide, by decide +kernel, by decide +kernel, ?_⟩
  refine ⟨by decide +kernel, (by show 5 ≤ sizeLine; decide), fun b hb => ?_⟩
  refine ⟨a, b, _, _, rfl, rfl, same_new hb _ _ _ e1, upd_same, (by show 17 + 5 ≤ sizeLine; decide), fun p hp => ?_⟩
  refine ⟨(by show 4 ≤ sizeLine; decide), fun d hd => ?_⟩
  refine ⟨p, d, _, _, rfl, rfl, same_new hd _ _ _ upd_same, upd_same, (by show 22 + 4 ≤ sizeLine; decide), fun r hr => ?_⟩
  have hl : 0 ≤ c % 26 ∧ c % 26 < 26 := ⟨Int.emod_nonneg _ (by decide), Int.emod_lt_of_pos _ (by decide)⟩
  obtain ⟨v, hv, hm⟩ := GR.Internal.atI_lt (ODD.map V.str) (c % 26) hl.1 (by rw [show (ODD.map V.str).length = 26 by decide +kernel]; exact hl.2)
  obtain ⟨y, hy, rfl⟩ := List.mem_map.mp hm
  exact ⟨r, _, rfl, .inl (SqL.of upd_same), (by show (0 : Int) < 26; decide), _, upd_same, onS_of hv (q y _ (s1.trans ((same_new hb _).trans ((same_new hp _).trans ((same_new hd _).trans (same_new hr _))))) hy)⟩
end
end K05.Internal
namespace K05.Internal
open PySem L2.Internal BO.Internal
seal L2.Internal.PE L2.Internal.PA L2.Internal.PS L2.Internal.PSs L2.Internal.PT L2.Internal.PI
open GR.Internal (isName isNum readA WOk wordsV)
section
variable {P : Program} {w : World} {K : PySem.W.Frag} {mg : Str → Option Value} {base : Heap}
noncomputable def sp__law_taken : Sp := fun vs H Q _ => ∃ (x : Str) (ws : List Str), vs = [.str x] ∧ x.length ≤ 30000 ∧ wordsV x.cps.toList = ws.map V.str ∧ WOk ws ∧ readA ws = none ∧ ∀ H', Same H H' → Q (.bl true) H'
theorem ok__law_taken (T : Txt K mg) (G_read : FnOk P w K mg base (CXE P w) 126 T.a_read T.fd_read ["text"] (sp_read K T.a_Program T.a_BadText)) : FnOk P w K mg base CX0 127 T.a__law_taken T.fd__law_taken ["_law_text"] sp__law_taken := by
  refine T.F__law_taken.ok sc__law_taken (fun vs H Q E h => ?_) (fun cdv A outer s H vs Q E hr h => ?_)
  · obtain ⟨x, ws, rfl, _⟩ := h
    rfl
  obtain ⟨x, ws, rfl, hx, hw, W, hnone, q⟩ := h
  refine ⟨_, (pss_cons (ps_set (i := 1) sc__law_taken.nd rfl (Or.inl rfl) pe_non)
    (pss_cons (ps_tryAs G_read (hr.mono (by decide)) rfl T.m_read T.k_read T.b_read .nil (pa_cons (cv 0) pa_nil) (i := 2) sc__law_taken.nd rfl rfl rfl T.m_FlowError ⟨rfl, rfl⟩ rfl (fun _ =>
      (pss_one (ps_set (i := 1) sc__law_taken.nd rfl (Or.inl rfl) (cv 2)))))
    (pss_cons (ps_if (PW.pt (pw_or (pt_not (pt_val (pe_callB call_isiE rfl T.z_isinstance bt_isinstance (pa_cons (cv 1) (pa_cons (pe_gR rfl T.m_BadText) pa_nil))))) (pw_or1 (pt_not (pt_val (pe_callB call_isiE rfl T.z_isinstance bt_isinstance (pa_cons (cv 1) (pa_cons (pe_bty rfl T.z_ValueError bt_ValueError) pa_nil))))))))
      (pss_one (ps_ret pe_bl))
      pss_nil)
    (pss_cons (ps_if (PW.pt (pw_or (pt_val (pe_callB call_isiE rfl T.z_isinstance bt_isinstance (pa_cons (cv 1) (pa_cons (pe_gR rfl T.m_Twice) pa_nil)))) (pw_or (pt_val (pe_callB call_isiE rfl T.z_isinstance bt_isinstance (pa_cons (cv 1) (pa_cons (pe_gR rfl T.m_NoName) pa_nil)))) (pw_or1 (pt_val (pe_callB call_isiE rfl T.z_isinstance bt_isinstance (pa_cons (cv 1) (pa_cons (pe_gR rfl T.m_TooHeavy) pa_nil))))))))
      (pss_one (ps_ret pe_bl))
      pss_nil)
    (pss_cons (ps_if (PW.pt (pw_or (pt_val (pe_callB call_isiE rfl T.z_isinstance bt_isinstance (pa_cons (cv 1) (pa_cons (pe_gR rfl T.m_BadPaper) pa_nil)))) (pw_or1 (pt_val (pe_callB call_isiE rfl T.z_isinstance bt_isinstance (pa_cons (cv 1) (pa_cons (pe_gR rfl T.m_WrongKind) pa_nil)))))))
      (pss_one (ps_ret pe_bl))
      pss_nil)
    (pss_one (ps_ret (pe_and (pe_not (pe_callB call_isiE rfl T.z_isinstance bt_isinstance (pa_cons (cv 1) (pa_cons (pe_gR rfl T.m_OutOfTurns) pa_nil)))) (pe_one (pe_not (pe_callB call_isiE rfl T.z_isinstance bt_isinstance (pa_cons (cv 1) (pa_cons (pe_gR rfl T.m_RowFull) pa_nil))))))))))))), ?_⟩
  refine ⟨x, ws, rfl, hx, hw, W, fun names roots rows g nl tl rl rtv rwv H' hl => (by rw [hnone] at hl; cases hl), fun _ H' s1 => ⟨T.e_BadText_FlowError, fun ea hea => ?_⟩⟩
  have S1 := s1.trans (same_new hea (excO ea (.ref T.a_BadText)))
  have ex : (upd H' ea (excO ea (.ref T.a_BadText))) ea = some (excO ea (.ref T.a_BadText)) := upd_same
  generalize upd H' ea (excO ea (.ref T.a_BadText)) = H2 at S1 ex ⊢
  refine ⟨ea, T.a_BadText, _, _, true, rfl, fun _ h => h, ex, T.xc_BadText, T.i_BadText_BadText, _, rfl, iteF ⟨ea, T.a_BadText, _, _, true, rfl, fun _ h => h, ex, T.xc_BadText, T.i_BadText_ValueError, _, rfl, iteF ?_⟩⟩
  refine ⟨ea, T.a_BadText, _, _, false, rfl, fun _ h => h, ex, T.xc_BadText, T.i_BadText_Twice, _, rfl, iteF ⟨ea, T.a_BadText, _, _, false, rfl, fun _ h => h, ex, T.xc_BadText, T.i_BadText_NoName, _, rfl, iteF ⟨ea, T.a_BadText, _, _, false, rfl, fun _ h => h, ex, T.xc_BadText, T.i_BadText_TooHeavy, _, rfl, iteF ?_⟩⟩⟩
  refine ⟨ea, T.a_BadText, _, _, false, rfl, fun _ h => h, ex, T.xc_BadText, T.i_BadText_BadPaper, _, rfl, iteF ⟨ea, T.a_BadText, _, _, false, rfl, fun _ h => h, ex, T.xc_BadText, T.i_BadText_WrongKind, _, rfl, iteF ?_⟩⟩
  exact ⟨ea, T.a_BadText, _, _, false, rfl, fun _ h => h, ex, T.xc_BadText, T.i_BadText_OutOfTurns, _, rfl, _, rfl, iteT ⟨ea, T.a_BadText, _, _, false, rfl, fun _ h => h, ex, T.xc_BadText, T.i_BadText_RowFull, _, rfl, q _ S1⟩⟩
end
end K05.Internal
namespace K05.Internal
open PySem L2.Internal BO.Internal
seal L2.Internal.PE L2.Internal.PA L2.Internal.PS L2.Internal.PSs L2.Internal.PT L2.Internal.PI
open GR.Internal (isName isNum readA)
theorem inV_dec (w : Str) (l : List Str) : inV (.str w) (l.map V.str) = decide (w ∈ l) := by
  cases h : inV (.str w) (l.map V.str) with
  | true => exact (decide_eq_true (inV_mem h)).symm
  | false =>
    refine (decide_eq_false fun z => ?_).symm
    unfold inV at h
    have := List.any_eq_false.mp h (.str w) (List.mem_map_of_mem z)
    exact this (by simp [eqV])
theorem occ_nil {w : Str} (h : ∀ i, i < 3 → Builtin.Str.subAt "()" w i = false) : Builtin.Str.occurrences "()" w 0 2 1 = [] := by
  have e : List.range' 0 3 = [0, 1, 2] := rfl
  unfold Builtin.Str.occurrences
  simp [Std.Legacy.Range.forIn_eq_forIn_range']
  rw [e]
  simp [List.forIn_cons, h 0 (by decide), h 1 (by decide), h 2 (by decide)]
theorem pr_cps : ("()" : Str).cps = #[40, 41] := by decide +kernel
theorem sub_no {w : Str} (h0 : w.cps.toList ≠ []) (h : ∀ k ∈ w.cps.toList, k ≠ 32 ∧ k ≠ 10 ∧ k ≠ 40 ∧ k ≠ 41) (i : Nat) : Builtin.Str.subAt "()" w i = false := by
  unfold Builtin.Str.subAt
  refine Bool.eq_false_iff.mpr fun z => ?_
  have z := beq_iff_eq.mp z
  obtain ⟨c, r, e⟩ := List.exists_cons_of_ne_nil h0
  have hc : c ∈ w.cps.toList := by rw [e]; exact List.mem_cons_self
  have hc2 : c ∈ w.cps := Array.mem_toList_iff.mp hc
  rw [← z, pr_cps] at hc2
  have : c ∈ (#[40, 41] : Array Nat) := by
    obtain ⟨j, hj, ej⟩ := Array.mem_iff_getElem.mp hc2
    rw [Array.getElem_extract] at ej
    rw [← ej]
    exact Array.getElem_mem _
  have := h c hc
  simp at *
  omega
theorem occ_wg {w : Str} (h : Wg w) : (!(Builtin.Str.occurrences "()" w 0 ("()" : Str).length 1).isEmpty) = (decide (w = "(") || decide (w = ")")) := by
  have e : ("()" : Str).length = 2 := by decide +kernel
  rw [e]
  by_cases h1 : w = "("
  · subst h1; decide +kernel
  by_cases h2 : w = ")"
  · subst h2; decide +kernel
  rcases h.sh with z | z | z
  · exact absurd z h1
  · exact absurd z h2
  · rw [occ_nil fun i _ => sub_no z.1 z.2 i, decide_eq_false h1, decide_eq_false h2]
    rfl
structure Bd (ws bad : List Str) : Prop where
  no : readA bad = none
  ok : ∀ w ∈ bad, Wg w
  sz : wz bad ≤ wz ws + 62
theorem fr_wg {ws : List Str} (g : SP.Internal.Fr ws) : ∀ w ∈ ws, Wg w := fun w hw => al_wg (SP.Internal.adj_al g.ad w hw)
theorem at_split {ws : List Str} {j : Nat} {b : Str} (h : ws[j]? = some b) : ws = ws.take j ++ [b] ++ ws.drop (j + 1) := by
  obtain ⟨hj, e⟩ := List.getElem?_eq_some_iff.mp h
  conv => lhs; rw [← List.take_append_drop j ws, List.drop_eq_getElem_cons hj, e]
  rw [List.append_assoc]
  rfl
theorem bd_ok {ws bad : List Str} {i k : Nat} {y : Str} (g : SP.Internal.Fr ws) (hy : Wg y) (hik : i ≤ k) (hn : readA (ws.take i ++ [y] ++ ws.drop k) = none) : Bd ws (ws.take i ++ [y] ++ ws.drop k) := by
  refine ⟨hn, fun w hw => ?_, ?_⟩
  · rcases List.mem_append.mp hw with hw | hw
    · rcases List.mem_append.mp hw with hw | hw
      · exact fr_wg g w (List.mem_of_mem_take hw)
      · rw [List.mem_singleton.mp hw]; exact hy
    · exact fr_wg g w (List.mem_of_mem_drop hw)
  · have := wz_cut ws i k hik
    have := hy.ln
    rw [wz_app, wz_app, wz, wz]
    omega
theorem bd_out {ws : List Str} {j : Nat} {b : Str} (g : SP.Internal.Fr ws) (h : ws[j]? = some b) (hb : b = "(" ∨ b = ")") : Bd ws (ws.take j ++ ws.drop (j + 1)) := by
  have e := at_split h
  refine ⟨SP.Internal.no_out (b := b) (by rw [← e]; exact g) hb, fun w hw => ?_, ?_⟩
  · rcases List.mem_append.mp hw with hw | hw
    · exact fr_wg g w (List.mem_of_mem_take hw)
    · exact fr_wg g w (List.mem_of_mem_drop hw)
  · have := wz_cut ws j (j + 1) (by omega)
    rw [wz_app]
    omega
theorem bd_in {ws : List Str} {j : Nat} {b : Str} (g : SP.Internal.Fr ws) (hb : b = "(" ∨ b = ")") : Bd ws (ws.take j ++ [b] ++ ws.drop j) := by
  refine bd_ok (bad := []) g ?_ (Nat.le_refl _) (SP.Internal.no_in (by rw [List.take_append_drop]; exact g) hb)
  rcases hb with rfl | rfl
  · exact br_wg.1
  · exact br_wg.2
theorem bd_kw {ws : List Str} {j : Nat} {x y : Str} (g : SP.Internal.Fr ws) (h : ws[j]? = some x) (hy : Wg y) (hn : ¬ (x ∈ SP.Internal.KW ↔ y ∈ SP.Internal.KW)) : Bd ws (ws.take j ++ [y] ++ ws.drop (j + 1)) :=
  bd_ok (bad := []) g hy (Nat.le_succ _) (SP.Internal.no_kw (x := x) (by rw [← at_split h]; exact g) hn)
theorem bd_nm {ws : List Str} {k : Nat} {b y : Str} (g : SP.Internal.Fr ws) (h : ws[k]? = some b) (hb : b ∈ SP.Internal.BH) (hy : Wg y) (hn : isName y = false) : Bd ws (ws.take (k + 1) ++ [y] ++ ws.drop (k + 1 + 1)) := by
  refine bd_ok (bad := []) g hy (Nat.le_succ _) ?_
  rw [List.take_add_one, h]
  exact SP.Internal.no_nm hb hn
theorem bd_al {ws : List Str} {j : Nat} {y : Str} (g : SP.Internal.Fr ws) (hy : Wg y) (hn : ¬ SP.Internal.Al y) : Bd ws (ws.take j ++ [y] ++ ws.drop (j + 1)) :=
  bd_ok (bad := []) g hy (Nat.le_succ _) (SP.Internal.no_al hn)
theorem bd_end {ws : List Str} {y : Str} (g : SP.Internal.Fr ws) (hy : Wg y) (hn : y ≠ ")") : Bd ws (ws ++ [y]) := by
  refine ⟨SP.Internal.no_end hn, fun w hw => ?_, ?_⟩
  · rcases List.mem_append.mp hw with hw | hw
    · exact fr_wg g w hw
    · rw [List.mem_singleton.mp hw]; exact hy
  · have := hy.ln
    rw [wz_app, wz, wz]
    omega
theorem bd_cut {ws : List Str} {j : Nat} (g : SP.Internal.Fr ws) : Bd ws (ws.take j ++ [("(" : Str)]) := by
  refine ⟨SP.Internal.no_end (by decide +kernel), fun w hw => ?_, ?_⟩
  · rcases List.mem_append.mp hw with hw | hw
    · exact fr_wg g w (List.mem_of_mem_take hw)
    · rw [List.mem_singleton.mp hw]; exact br_wg.1
  · have := wz_cut ws j ws.length
    have e : wz (ws.take j) ≤ wz ws := by
      by_cases h : j ≤ ws.length
      · have := this h; omega
      · rw [List.take_of_length_le (by omega)]; exact Nat.le_refl _
    have := br_wg.1.ln
    rw [wz_app, wz, wz]
    omega
theorem cut_to (l : List V) (j : Nat) : cutV l none (some (j : Int)) = l.take j := by
  unfold cutV
  rw [HT.Internal.sIx_nat, HT.Internal.sIx_none, List.drop_zero, Nat.sub_zero]
  by_cases h : j ≤ l.length
  · rw [Nat.min_eq_left h]
  · rw [Nat.min_eq_right (by omega), List.take_of_length_le (Nat.le_refl _), List.take_of_length_le (by omega)]
theorem cut_from (l : List V) (j : Nat) : cutV l (some (j : Int)) none = l.drop j := by
  unfold cutV
  rw [HT.Internal.sIx_nat, HT.Internal.sIx_none]
  by_cases h : j ≤ l.length
  · rw [Nat.min_eq_left h, List.take_of_length_le (by rw [List.length_drop]; omega)]
  · rw [Nat.min_eq_right (by omega), Nat.sub_self, List.take_zero, List.drop_of_length_le (by omega)]
theorem lc_filt {J : It} {i : Nat} {tt : TT} {te : TE} {Q : VK} {τ : St} {H1 : Hp} {D : Addr} (n : Nat) (hn : n < sizeLine) (R : Nat → List V → Prop) (hD : H1 D = none) (hτ : τ.set i none = τ)
    (hgo : ∀ k H, Same H1 H → k < n → J.go k H) (hst : ∀ H, Same H1 H → J.stop n H) (h0 : R 0 [])
    (step : ∀ k H v H3 xs (Z : VK) (N : Hp → Prop), Same H1 H → k < n → J.yld k H v H3 → R k xs → xs.length ≤ k → (∀ y H5, Same H H5 → R (k + 1) (xs ++ [y]) → Z y H5) → (∀ H5, Same H H5 → R (k + 1) xs → N H5) → tt (τ.set i (some v)) H3 fun ok H4 => if ok = true then te (τ.set i (some v)) H4 Z else N H4)
    (hq : ∀ H' xs, Same H1 H' → R n xs → xs.length ≤ n → H' D = some (.lst xs) → Q (.ref D) H') : LcP J i tt te Q τ H1 D := by
  have up : ∀ {H : Hp} (o : HO), Same H1 H → Same H1 (upd H D o) := fun {H} o S b u e => by rw [upd_ne (ne_of_none e hD)]; exact S b u e
  refine ⟨fun k m σ' H2 => m = n - k ∧ k ≤ n ∧ (∃ o, σ' = τ.set i o) ∧ Same H1 H2 ∧ ∃ xs, H2 D = some (.lst xs) ∧ xs.length ≤ k ∧ R k xs, ⟨n, by simp, Nat.zero_le _, ⟨none, hτ.symm⟩, same_new hD _, [], upd_same, Nat.le_refl _, h0⟩, ?_⟩
  rintro k m σ' H2 ⟨rfl, hk, ⟨o, rfl⟩, S, xs, e, hl, hr⟩
  by_cases hlt : k < n
  · refine .inr ⟨hgo k H2 S hlt, fun v H3 y => ?_⟩
    rw [List.set_set]
    refine step k H2 v H3 xs _ _ S hlt y hr hl (fun y H5 S5 r5 => ?_) (fun H5 S5 r5 => ?_)
    · exact ⟨xs, S5 D _ e, by omega, n - (k + 1), by omega, rfl, hlt, ⟨some v, rfl⟩, up _ (S.trans S5), xs ++ [y], upd_same, by rw [List.length_append]; exact Nat.succ_le_succ hl, r5⟩
    · exact ⟨n - (k + 1), by omega, rfl, hlt, ⟨some v, rfl⟩, S.trans S5, xs, S5 D _ e, Nat.le_succ_of_le hl, r5⟩
  · have e1 : k = n := by omega
    subst e1
    exact .inl ⟨hst H2 S, hq H2 xs S hr hl e⟩
structure Spt (ws : List Str) (p : Str → Bool) (d : Nat) (xs : List V) : Prop where
  ev : ∀ x ∈ xs, ∃ k w, ws[k]? = some w ∧ p w = true ∧ x = .int ((k + d : Nat) : Int)
  ne : (∃ w ∈ ws, p w = true) → xs ≠ []
theorem lc_sp {tt : TT} {te : TE} {Q : VK} {τ : St} {H1 : Hp} {D : Addr} {n : Nat} (ws : List Str) (p : Str → Bool) (d : Nat) (hn : ws.length ≤ 100000) (en : n = ws.length) (hD : H1 D = none) (hτ : τ.set 0 none = τ)
    (ht : ∀ (k : Nat) (w : Str) (H : Hp) (R : Bool → Hp → Prop), ws[k]? = some w → Same H1 H → (∀ H', Same H H' → R (p w) H') → tt (τ.set 0 (some (.int (0 + (k : Int))))) H R)
    (he : ∀ (k : Nat) (H : Hp) (Z : VK), Z (.int ((k + d : Nat) : Int)) H → te (τ.set 0 (some (.int (0 + (k : Int))))) H Z)
    (hq : ∀ H' xs, Same H1 H' → Spt ws p d xs → xs.length ≤ ws.length → H' D = some (.lst xs) → Q (.ref D) H') : LcP (Itr 0 n) 0 tt te Q τ H1 D := by
  have sl : sizeLine = 16777216 := sizeLine_eq
  subst en
  refine lc_filt ws.length (by omega) (fun k xs => Spt (ws.take k) p d xs) hD hτ (fun k H _ h => h) (fun H _ => Nat.le_refl _) ⟨fun x hx => (by cases hx), fun ⟨w, hw, _⟩ => (by rw [List.take_zero] at hw; cases hw)⟩ ?_ ?_
  · rintro k H v H3 xs Z N S hk ⟨rfl, rfl⟩ R hl hZ hN
    obtain ⟨w, hw⟩ : ∃ w, ws[k]? = some w := ⟨_, List.getElem?_eq_getElem hk⟩
    have tk : ws.take (k + 1) = ws.take k ++ [w] := by rw [List.take_add_one, hw]; rfl
    have up : ∀ {j : Nat} {u : Str}, (ws.take k)[j]? = some u → (ws.take (k + 1))[j]? = some u := fun {j u} h => by rw [tk, List.getElem?_append_left (List.getElem?_eq_some_iff.mp h).1]; exact h
    have me : (ws.take (k + 1))[k]? = some w := by rw [List.getElem?_take_of_lt (by omega)]; exact hw
    refine ht k w _ _ hw S fun H' S' => ?_
    cases hp : p w with
    | true =>
      refine iteT (he k H' _ (hZ _ _ S' ⟨fun x hx => ?_, fun _ => by simp⟩))
      rcases List.mem_append.mp hx with hx | hx
      · obtain ⟨j, u, h1, h2, h3⟩ := R.ev x hx
        exact ⟨j, u, up h1, h2, h3⟩
      · exact ⟨k, w, me, hp, List.mem_singleton.mp hx⟩
    | false =>
      refine iteF (hN _ S' ⟨fun x hx => ?_, fun ⟨u, hu, pu⟩ => ?_⟩)
      · obtain ⟨j, u, h1, h2, h3⟩ := R.ev x hx
        exact ⟨j, u, up h1, h2, h3⟩
      · rw [tk] at hu
        rcases List.mem_append.mp hu with hu | hu
        · exact R.ne ⟨u, hu, pu⟩
        · rw [List.mem_singleton.mp hu, hp] at pu; cases pu
  · intro H' xs S R hl e
    rw [List.take_of_length_le (Nat.le_refl _)] at R
    exact hq H' xs S R hl e
theorem pick {xs : List V} (c : Int) (h : xs ≠ []) : 0 < (xs.length : Int) ∧ ∃ x, atI xs (c % (xs.length : Int)) = some x ∧ x ∈ xs := by
  have h0 : 0 < (xs.length : Int) := by
    cases xs with
    | nil => exact absurd rfl h
    | cons x xs => rw [List.length_cons]; omega
  exact ⟨h0, GR.Internal.atI_lt xs _ (Int.emod_nonneg _ (by omega)) (Int.emod_lt_of_pos _ h0)⟩
theorem pickK (l : List V) (c n : Int) (hn : (l.length : Int) = n) (h0 : 0 < n) : ∃ x, atI l (c % n) = some x ∧ x ∈ l :=
  GR.Internal.atI_lt l _ (Int.emod_nonneg _ (by omega)) (by rw [hn]; exact Int.emod_lt_of_pos _ h0)
end K05.Internal
namespace K05.Internal
open PySem L2.Internal BO.Internal
seal L2.Internal.PE L2.Internal.PA L2.Internal.PS L2.Internal.PSs L2.Internal.PT L2.Internal.PI
open GR.Internal (isName isNum readA)
theorem op_inK {X : Cx} {K : PySem.W.Frag} (h : X.K = K) : OpR X (compareOp .In) (rIn K false) := h ▸ op_in_seq
theorem op_ninK {X : Cx} {K : PySem.W.Frag} (h : X.K = K) : OpR X (compareOp .NotIn) (rIn K true) := h ▸ op_notIn_seq
theorem three {t2 t3 t4 : TT} {a2 a3 a4 U : TS} {D : Ends} {σ0 : St} {H : Hp} (P : St → Hp → Prop) (hP : ∀ σ H, P σ H → U D σ H) (h : ∀ U' : TS, (∀ σ H, P σ H → U' D σ H) → tSeq (tIfS t2 a2 tNext) (tSeq (tIfS t3 a3 tNext) (tSeq (tIfS t4 a4 tNext) U')) D σ0 H) : tSeq (tIfS t2 a2 tNext) (tSeq (tIfS t3 a3 tNext) (tSeq (tIfS t4 a4 tNext) U)) D σ0 H := h U hP
theorem ifG {j : Nat} {M n : Int} {A u : TS} {D : Ends} {σ : St} {H : Hp} (hv : σ[j]? = some (some (.int M))) (kt : n < M → A { D with nx := u D } σ H) (kf : M ≤ n → u D σ H) : tSeq (tIfS (cT (tOp (cI0 fun i j => V.bl (decide (j < i))) (cV j) (tC (.int n)))) A tNext) u D σ H := by
  show onV σ[j]? _
  rw [hv]
  show if decide (n < M) = true then _ else _
  by_cases h : n < M
  · rw [decide_eq_true h]; exact iteT (kt h)
  · rw [decide_eq_false h]; exact iteF (kf (by omega))
theorem spl (ws : List Str) (j k : Nat) (y : Str) : (cutV (ws.map V.str) none (some (j : Int)) ++ [V.str y]) ++ cutV (ws.map V.str) (some (k : Int)) none = (ws.take j ++ [y] ++ ws.drop k).map V.str := by
  rw [cut_to, cut_from, List.map_append, List.map_append, List.map_take, List.map_drop]
  rfl
theorem ret_mid {K : PySem.W.Frag} {te : TE} {t2 : TO} {o1 o2 o3 o4 o5 : Option V} {wl : Addr} {H : Hp} {Q : VK} {Py : Str → Prop} (ws : List Str) (j k : Nat) (hl : ws.length ≤ 20000) (hw : H wl = some (.lst (ws.map V.str)))
    (he : ∀ (H1 : Hp) (Z : VK), Same H H1 → (∀ y H2, Same H1 H2 → Py y → Z (.str y) H2) → te [some (.ref wl), o1, o2, o3, o4, o5, some (.int (j : Int))] H1 Z)
    (h2 : ∀ (H1 : Hp) (R : Option Int → Hp → Prop), R (some (k : Int)) H1 → t2 [some (.ref wl), o1, o2, o3, o4, o5, some (.int (j : Int))] H1 R)
    (hq : ∀ y r H', Py y → Same H H' → H' r = some (.lst ((ws.take j ++ [y] ++ ws.drop k).map V.str)) → Q (.ref r) H') :
    tOp rCat (tOp rCat (tSl (rSlL K) (cV 0) tNoPart (tPart (cV 6))) (tLst (tCons te tNil))) (tSl (rSlL K) (cV 0) t2 tNoPart) [some (.ref wl), o1, o2, o3, o4, o5, some (.int (j : Int))] H Q := by
  have sl : sizeLine = 16777216 := sizeLine_eq
  have lm : (ws.map V.str).length = ws.length := List.length_map _
  refine ⟨_, rfl, wl, _, rfl, SqL.of hw, fun c hc => ?_⟩
  have sc := same_new hc (.lst (cutV (ws.map V.str) none (some (j : Int))))
  refine he _ _ sc fun y H2 S2 py => ⟨(by show 1 ≤ sizeLine; decide), fun e he' => ?_⟩
  have se := same_new he' (.lst [V.str y])
  have l1 := cutV_length (ws.map V.str) none (some (j : Int))
  have l2 := cutV_length (ws.map V.str) (some (k : Int)) none
  refine ⟨c, e, _, _, rfl, rfl, se _ _ (S2 _ _ upd_same), upd_same, (by show _ + 1 ≤ _; omega), fun r hr => ?_⟩
  have sr := same_new hr (.lst (cutV (ws.map V.str) none (some (j : Int)) ++ [V.str y]))
  have SS := sc.trans (S2.trans (se.trans sr))
  refine h2 _ _ ⟨wl, _, rfl, SqL.of (SS _ _ hw), fun u hu => ?_⟩
  have su := same_new hu (.lst (cutV (ws.map V.str) (some (k : Int)) none))
  refine ⟨r, u, _, _, rfl, rfl, su _ _ upd_same, upd_same, (by rw [List.length_append]; show _ + 1 + _ ≤ _; omega), fun z hz => ?_⟩
  refine hq y z _ py (SS.trans (su.trans (same_new hz _))) ?_
  rw [upd_same, spl]
theorem mems {y : V} {l : List Str} (h : y ∈ l.map V.str) : ∃ z ∈ l, y = .str z := by
  obtain ⟨z, hz, rfl⟩ := List.mem_map.mp h
  exact ⟨z, hz, rfl⟩
theorem wr6 : ∀ y ∈ (["a", "row1", "0", "77", "defs", "lets"] : List Str), y ∉ SP.Internal.KW ∧ SP.Internal.Al y := fun y hy => by
  have h : ∀ y ∈ (["a", "row1", "0", "77", "defs", "lets"] : List Str), y ∉ SP.Internal.KW ∧ (isName y = true ∨ isNum y = true) := by decide +kernel
  obtain ⟨a, b⟩ := h y hy
  exact ⟨a, .inr (.inr (.inr b))⟩
theorem wr2 : ∀ y ∈ (["0", "77"] : List Str), isName y = false ∧ SP.Internal.Al y := fun y hy => by
  have h : ∀ y ∈ (["0", "77"] : List Str), isName y = false ∧ isNum y = true := by decide +kernel
  obtain ⟨a, b⟩ := h y hy
  exact ⟨a, .inr (.inr (.inr (.inr b)))⟩
theorem wr4 : ∀ y ∈ (["0", "a", "def", "row"] : List Str), y ≠ ")" ∧ SP.Internal.Al y := fun y hy => by
  have h : ∀ y ∈ (["0", "a", "def", "row"] : List Str), y ≠ ")" ∧ (y ∈ SP.Internal.KW ∨ isName y = true ∨ isNum y = true) := by decide +kernel
  obtain ⟨a, b⟩ := h y hy
  exact ⟨a, .inr (.inr b)⟩
section
variable {P : Program} {w : World} {K : PySem.W.Frag} {mg : Str → Option Value} {base : Heap}
noncomputable def sp__law_spoilt : Sp := fun vs H Q _ => ∃ (wl kl : Addr) (ws : List Str) (ch cell : Int) (n : Str) (rest : List Str), vs = [.ref wl, .int ch, .int cell, .ref kl] ∧ H wl = some (.lst (ws.map V.str)) ∧ H kl = some (.lst (SP.Internal.KW.map V.str)) ∧ SP.Internal.Fr ws ∧ ws = ("(" : Str) :: "def" :: n :: rest ∧ isName n = true ∧ wz ws ≤ 20000 ∧ 0 ≤ ch ∧ ch < 7 ∧
  ∀ (r : Addr) (H' : Hp) (bad : List Str), Same H H' → H' r = some (.lst (bad.map V.str)) → Bd ws bad → Q (.ref r) H'
theorem ok__law_spoilt (T : Txt K mg) : FnOk P w K mg base CX0 2 T.a__law_spoilt T.fd__law_spoilt ["_law_words_here", "_law_choice", "_law_cell", "_law_kept"] sp__law_spoilt := by
  have G__law_odd := ok__law_odd (P := P) (w := w) (base := base) T
  refine T.F__law_spoilt.ok sc__law_spoilt (fun vs H Q E h => ?_) (fun cdv A outer s H vs Q E hr h => ?_)
  · obtain ⟨wl, kl, ws, ch, cell, n, rest, rfl, _⟩ := h
    rfl
  obtain ⟨wl, kl, ws, ch, cell, n, rest, rfl, ew, ek, g, ews, hn, hz, c0, c7, q⟩ := h
  refine ⟨_, (pss_cons (ps_setLC (j := 4) rfl (blkC (x := "_law_k") ["_law_words_here"] [("_law_words_here", 0, s.heap.objs.size + 1)] rfl rfl (by decide +kernel) (by decide +kernel) rfl (by decide +kernel) rfl rfl (by intro p hp; simp only [List.mem_cons, List.not_mem_nil, or_false] at hp; rcases hp with rfl <;> exact ⟨rfl, rfl, rfl, rfl⟩)) (pi_range1 rfl T.z_range (pa_cons (pe_callB call_len_seq rfl T.z_len bt_len (pa_cons (cv 0) pa_nil)) pa_nil)) (fun _ _ _ _ _ => (pts_one (ptc_cmpR op_in_str (pe_ix xc_list (cv 1) (cv 0) (fun _ _ => rfl)) pe_str rfl))) (fun _ _ _ _ _ => (cv 0)) sc__law_spoilt.nd rfl (Or.inl rfl))
    (pss_cons (ps_if (ptc_cmpR oc_eq (cv 1) pe_int (nomark _))
      (pss_one (ps_setLC (j := 4) rfl (blkC (x := "_law_k") ["_law_words_here", "_law_kept"] [("_law_words_here", 0, s.heap.objs.size + 1), ("_law_kept", 3, s.heap.objs.size + 2)] rfl rfl (by decide +kernel) (by decide +kernel) rfl (by decide +kernel) rfl rfl (by intro p hp; simp only [List.mem_cons, List.not_mem_nil, or_false] at hp; rcases hp with rfl | rfl <;> exact ⟨rfl, rfl, rfl, rfl⟩)) (pi_range1 rfl T.z_range (pa_cons (pe_callB call_len_seq rfl T.z_len bt_len (pa_cons (cv 0) pa_nil)) pa_nil)) (fun _ _ _ _ _ => (pts_one (PW.pt (pw_and (ptc_cmpR (op_ninK (K := K) rfl) (pe_ix xc_list (cv 1) (cv 0) (fun _ _ => rfl)) (cv 2) rfl) (pw_and1 (ptc_cmpR op_notin_str (pe_ix xc_list (cv 1) (cv 0) (fun _ _ => rfl)) pe_str rfl)))))) (fun _ _ _ _ _ => (cv 0)) sc__law_spoilt.nd rfl (Or.inl rfl)))
      pss_nil)
    (pss_cons (ps_if (ptc_cmpR oc_eq (cv 1) pe_int (nomark _))
      (pss_one (ps_setLC (j := 4) rfl (blkC (x := "_law_k") ["_law_words_here", "_law_kept"] [("_law_words_here", 0, s.heap.objs.size + 1), ("_law_kept", 3, s.heap.objs.size + 2)] rfl rfl (by decide +kernel) (by decide +kernel) rfl (by decide +kernel) rfl rfl (by intro p hp; simp only [List.mem_cons, List.not_mem_nil, or_false] at hp; rcases hp with rfl | rfl <;> exact ⟨rfl, rfl, rfl, rfl⟩)) (pi_range1 rfl T.z_range (pa_cons (pe_callB call_len_seq rfl T.z_len bt_len (pa_cons (cv 0) pa_nil)) pa_nil)) (fun _ _ _ _ _ => (pts_one (ptc_cmpR (op_inK (K := K) rfl) (pe_ix xc_list (cv 1) (cv 0) (fun _ _ => rfl)) (cv 2) rfl))) (fun _ _ _ _ _ => (cv 0)) sc__law_spoilt.nd rfl (Or.inl rfl)))
      pss_nil)
    (pss_cons (ps_if (ptc_cmpR oc_gt (cv 1) pe_int (nomark _))
      (pss_one (ps_set (i := 4) sc__law_spoilt.nd rfl (Or.inl rfl) (pe_listRng rfl rfl T.z_list rfl T.z_range (pa_cons (pe_callB call_len_seq rfl T.z_len bt_len (pa_cons (cv 0) pa_nil)) pa_nil))))
      pss_nil)
    (pss_cons (ps_set (i := 5) sc__law_spoilt.nd rfl (Or.inl rfl) (pe_op oc_fdiv (cv 2) pe_int))
    (pss_cons (ps_if (PW.pt (pw_and (ptc_cmpR oc_eq (cv 1) pe_int (nomark _)) (pw_and1 (ptc_cmpR oc_eq (pe_op oc_mod (pe_op oc_fdiv (cv 5) pe_int) pe_int) pe_int (nomark _)))))
      (pss_cons (ps_setLC (j := 4) rfl (blkC (x := "_law_k") ["_law_words_here"] [("_law_words_here", 0, s.heap.objs.size + 1)] rfl rfl (by decide +kernel) (by decide +kernel) rfl (by decide +kernel) rfl rfl (by intro p hp; simp only [List.mem_cons, List.not_mem_nil, or_false] at hp; rcases hp with rfl <;> exact ⟨rfl, rfl, rfl, rfl⟩)) (pi_range1 rfl T.z_range (pa_cons (pe_callB call_len_seq rfl T.z_len bt_len (pa_cons (cv 0) pa_nil)) pa_nil)) (fun _ _ _ _ _ => (pts_one (ptc_cmpR (op_inK (K := K) rfl) (pe_ix xc_list (cv 1) (cv 0) (fun _ _ => rfl)) (pe_lst (pa_cons pe_str (pa_cons pe_str (pa_cons pe_str (pa_cons pe_str pa_nil))))) rfl))) (fun _ _ _ _ _ => (pe_op oc_add (cv 0) pe_int)) sc__law_spoilt.nd rfl (Or.inl rfl))
      (pss_cons (ps_set (i := 6) sc__law_spoilt.nd rfl (Or.inl rfl) (pe_ix xc_list (cv 4) (pe_op oc_mod (cv 2) (pe_callB call_len_seq rfl T.z_len bt_len (pa_cons (cv 4) pa_nil))) (fun _ _ => rfl)))
      (pss_one (ps_ret (pe_op op_cat (pe_op op_cat (pe_slice sl_list (cv 0) po_none (po_some (cv 6))) (pe_lst (pa_cons (pe_ix xc_list (pe_lst (pa_cons pe_str (pa_cons pe_str pa_nil))) (pe_op oc_mod (pe_op oc_fdiv (cv 5) pe_int) pe_int) (fun _ _ => rfl)) pa_nil))) (pe_slice sl_list (cv 0) (po_some (pe_op oc_add (cv 6) pe_int)) po_none))))))
      pss_nil)
    (pss_cons (ps_set (i := 6) sc__law_spoilt.nd rfl (Or.inl rfl) (pe_ix xc_list (cv 4) (pe_op oc_mod (cv 2) (pe_callB call_len_seq rfl T.z_len bt_len (pa_cons (cv 4) pa_nil))) (fun _ _ => rfl)))
    (pss_cons (ps_if (ptc_cmpR oc_eq (cv 1) pe_int (nomark _))
      (pss_one (ps_ret (pe_op op_cat (pe_slice sl_list (cv 0) po_none (po_some (cv 6))) (pe_slice sl_list (cv 0) (po_some (pe_op oc_add (cv 6) pe_int)) po_none))))
      pss_nil)
    (pss_cons (ps_if (ptc_cmpR oc_eq (cv 1) pe_int (nomark _))
      (pss_one (ps_ret (pe_op op_cat (pe_op op_cat (pe_slice sl_list (cv 0) po_none (po_some (cv 6))) (pe_lst (pa_cons (pe_ix xc_str pe_str (pe_op oc_mod (cv 5) pe_int) (fun _ _ => rfl)) pa_nil))) (pe_slice sl_list (cv 0) (po_some (cv 6)) po_none))))
      pss_nil)
    (pss_cons (ps_if (ptc_cmpR oc_eq (cv 1) pe_int (nomark _))
      (pss_one (ps_ret (pe_op op_cat (pe_op op_cat (pe_slice sl_list (cv 0) po_none (po_some (cv 6))) (pe_lst (pa_cons (pe_ix xc_list (cv 3) (pe_op oc_mod (cv 5) pe_int) (fun _ _ => rfl)) pa_nil))) (pe_slice sl_list (cv 0) (po_some (pe_op oc_add (cv 6) pe_int)) po_none))))
      pss_nil)
    (pss_cons (ps_if (ptc_cmpR oc_eq (cv 1) pe_int (nomark _))
      (pss_one (ps_ret (pe_op op_cat (pe_op op_cat (pe_slice sl_list (cv 0) po_none (po_some (cv 6))) (pe_lst (pa_cons (pe_ix xc_list (pe_lst (pa_cons pe_str (pa_cons pe_str (pa_cons pe_str (pa_cons pe_str (pa_cons pe_str (pa_cons pe_str pa_nil))))))) (pe_op oc_mod (cv 5) pe_int) (fun _ _ => rfl)) pa_nil))) (pe_slice sl_list (cv 0) (po_some (pe_op oc_add (cv 6) pe_int)) po_none))))
      pss_nil)
    (pss_cons (ps_if (ptc_cmpR oc_eq (cv 1) pe_int (nomark _))
      (pss_one (ps_ret (pe_op op_cat (pe_op op_cat (pe_slice sl_list (cv 0) po_none (po_some (cv 6))) (pe_lst (pa_cons (pe_call G__law_odd (hr.mono (by decide)) rfl T.m__law_odd T.k__law_odd T.b__law_odd .nil pass0 (pa_cons (cv 5) pa_nil)) pa_nil))) (pe_slice sl_list (cv 0) (po_some (pe_op oc_add (cv 6) pe_int)) po_none))))
      pss_nil)
    (pss_cons (ps_if (ptc_cmpR oc_eq (cv 1) pe_int (nomark _))
      (pss_one (ps_ret (pe_op op_cat (cv 0) (pe_lst (pa_cons (pe_ix xc_list (pe_lst (pa_cons pe_str (pa_cons pe_str (pa_cons pe_str (pa_cons pe_str (pa_cons (pe_call G__law_odd (hr.mono (by decide)) rfl T.m__law_odd T.k__law_odd T.b__law_odd .nil pass0 (pa_cons (cv 5) pa_nil)) pa_nil)))))) (pe_op oc_mod (cv 5) pe_int) (fun _ _ => rfl)) pa_nil)))))
      pss_nil)
    (pss_one (ps_ret (pe_op op_cat (pe_slice sl_list (cv 0) po_none (po_some (cv 6))) (pe_lst (pa_cons pe_str pa_nil)))))))))))))))))), ?_⟩
  have sl : sizeLine = 16777216 := sizeLine_eq
  have lw := wz_len ws
  have lm : (ws.map V.str).length = ws.length := List.length_map _
  refine ⟨wl, _, rfl, .inl (SqL.of ew), ?_⟩
  refine ⟨(ws.map V.str).length, rfl, by omega, by omega, fun D hD => ?_⟩
  have hat : ∀ {k : Nat} {w : Str}, ws[k]? = some w → atI (ws.map V.str) (0 + (k : Int)) = some (.str w) := fun {k w} hw => by
    rw [Int.zero_add]
    exact atI_nat (by rw [List.getElem?_map, hw]; rfl)
  have wgk : ∀ {k : Nat} {w : Str}, ws[k]? = some w → Wg w := fun hw => fr_wg g _ (List.mem_of_getElem? hw)
  have el : ∀ (H' : Hp) (Z : VK) (k : Nat), Z (.int ((k + 0 : Nat) : Int)) H' → Z (.int (0 + (k : Int))) H' := fun H' Z k h => by rw [Int.zero_add]; exact h
  refine lc_sp ws (fun w => decide (w = "(") || decide (w = ")")) 0 (by omega) (by rw [lm]; rfl) hD rfl (fun k w H' R hw S hR => ⟨_, S _ _ ew, onS_of (hat hw) ⟨w, "()", rfl, rfl, ?_⟩⟩) (fun k H' Z h => el _ _ _ h) fun H1 xs S1 sp hl e1 => ?_
  · show R (!(Builtin.Str.occurrences "()" w 0 ("()" : Str).length 1).isEmpty) H'
    rw [occ_wg (wgk hw)]
    exact hR _ (Same.refl _)
  have o0 : ("(" : Str) ∈ ws := by rw [ews]; exact List.mem_cons_self
  have o1 : ("def" : Str) ∈ ws := by rw [ews]; exact List.mem_cons_of_mem _ List.mem_cons_self
  have o2 : n ∈ ws := by rw [ews]; exact List.mem_cons_of_mem _ (List.mem_cons_of_mem _ List.mem_cons_self)
  dsimp only [gName]
  refine three (fun σ H' => ∃ (D : Addr) (xs : List V), σ = [some (.ref wl), some (.int ch), some (.int cell), some (.ref kl), some (.ref D), none, none] ∧ Same H H' ∧ H' D = some (.lst xs) ∧ xs ≠ [] ∧ ∀ x ∈ xs, ∃ (k : Nat) (w : Str), ws[k]? = some w ∧ x = .int (k : Int) ∧ (ch ≤ 1 → w = "(" ∨ w = ")") ∧ (ch = 2 → w ∉ SP.Internal.KW) ∧ (ch = 3 → w ∈ SP.Internal.KW)) ?_ ?_
  · rintro σ H2 ⟨D, xs, rfl, S2, e2, xne, hx'⟩
    refine ⟨⟨by decide, by decide⟩, ?_⟩
    dsimp only [gName]
    generalize cell / 1009 = more
    refine ifc (decide (ch = 3) && decide (more / 6 % 2 = 1)) (fun R h => and2 _ _ (eqI rfl) (fun R h => ⟨⟨by decide, by decide⟩, (by show (0 : Int) < 2; decide), ?_⟩) h) ?_
    · show R (false ^^ decide (more / 6 % 2 = 1)) H2
      rw [Bool.false_xor]
      exact h
    cases hb : (decide (ch = 3) && decide (more / 6 % 2 = 1)) with
    | true =>
      refine iteT ⟨wl, _, rfl, .inl (SqL.of (S2 _ _ ew)), (ws.map V.str).length, rfl, by omega, by omega, fun D hD => ?_⟩
      refine lc_sp ws (fun w => decide (w ∈ SP.Internal.BH)) 1 (by omega) (by rw [lm]; rfl) hD rfl (fun k w H' R hw S hR => ⟨_, (S2.trans S) _ _ ew, onS_of (hat hw) ⟨(by show 4 ≤ sizeLine; decide), fun b hb => ⟨b, SP.Internal.BH.map V.str, rfl, .inl (SqL.of upd_same), rfl, by decide +kernel, ?_⟩⟩⟩) (fun k H' Z h => ?_) fun H3 xs S3 sp hl e3 => ?_
      · show R (inV (.str w) (SP.Internal.BH.map V.str)) _
        rw [inV_dec]
        exact hR _ (same_new hb _)
      · show Z (.int (0 + (k : Int) + 1)) H'
        rw [show 0 + (k : Int) + 1 = ((k + 1 : Nat) : Int) by omega]
        exact h
      obtain ⟨hpos, x, hx, hm⟩ := pick cell (sp.ne ⟨"def", o1, by decide +kernel⟩)
      obtain ⟨k, w, hk, hp, rfl⟩ := sp.ev x hm
      refine ⟨D, xs, rfl, .inl (SqL.of e3), hpos, xs, e3, onS_of hx ?_⟩
      dsimp only [gName]
      have SH := S2.trans S3
      refine ret_mid (Py := fun y => y ∈ (["0", "77"] : List Str)) ws (k + 1) (k + 1 + 1) (by omega) (SH _ _ ew) (fun H4 Z S4 hZ => ⟨(by show 2 ≤ sizeLine; decide), fun d hd => ⟨⟨by decide, by decide⟩, (by show (0 : Int) < 2; decide), _, upd_same, ?_⟩⟩) (fun H4 R h => ⟨_, rfl, h⟩) fun y r H' hy S' e' => q r H' _ (SH.trans S') e' (bd_nm g hk (of_decide_eq_true hp) (al_wg (wr2 y hy).2) (wr2 y hy).1)
      obtain ⟨v, hv, hvm⟩ := pickK ((["0", "77"] : List Str).map V.str) (more / 12) 2 rfl (by decide)
      obtain ⟨y, hy, rfl⟩ := mems hvm
      exact onS_of hv (hZ y _ (same_new hd _) hy)
    | false =>
      refine iteF ?_
      dsimp only [tNext]
      obtain ⟨hpos, x, hx, hm⟩ := pick cell xne
      obtain ⟨k, w, hk, rfl, f0, f2, f3⟩ := hx' x hm
      refine ⟨D, xs, rfl, .inl (SqL.of e2), hpos, xs, e2, onS_of hx ?_⟩
      dsimp only [gName]
      have lst1 : ∀ (l : List Str) (c : Int) (n : Int) (H4 : Hp) (d : Addr) (Z : VK), H4 d = some (.lst (l.map V.str)) → (l.length : Int) = n → 0 < n → (∀ y, y ∈ l → Z (.str y) H4) → ∃ xs, H4 d = some (.lst xs) ∧ onS (atI xs (c % n)) fun v => Z v H4 := fun l c n H4 d Z e hn h0 hZ => by
        obtain ⟨v, hv, hvm⟩ := pickK (l.map V.str) c n (by rw [List.length_map]; exact hn) h0
        obtain ⟨y, hy, rfl⟩ := mems hvm
        exact ⟨_, e, onS_of hv (hZ y hy)⟩
      refine ifI (M := ch) rfl (fun h0 => ?_) (fun h0 => ?_)
      · refine ⟨_, rfl, wl, _, rfl, SqL.of (S2 _ _ ew), fun c hc => ?_⟩
        have sc := same_new hc (.lst (cutV (ws.map V.str) none (some (k : Int))))
        refine ⟨_, rfl, wl, _, rfl, SqL.of ((S2.trans sc) _ _ ew), fun u hu => ?_⟩
        have su := same_new hu (.lst (cutV (ws.map V.str) (some ((k : Int) + 1)) none))
        have l1 := cutV_length (ws.map V.str) none (some (k : Int))
        have l2 := cutV_length (ws.map V.str) (some ((k : Int) + 1)) none
        refine ⟨c, u, _, _, rfl, rfl, su _ _ upd_same, upd_same, (by omega), fun r hr => ?_⟩
        refine q r _ (ws.take k ++ ws.drop (k + 1)) (S2.trans (sc.trans (su.trans (same_new hr _)))) ?_ (bd_out g hk (f0 (by omega)))
        rw [upd_same, cut_to, show (k : Int) + 1 = ((k + 1 : Nat) : Int) from rfl, cut_from, List.map_append, List.map_take, List.map_drop]
      refine ifI (M := ch) rfl (fun h1 => ?_) (fun h1 => ?_)
      · refine ret_mid (Py := fun y => y = "(" ∨ y = ")") ws k k (by omega) (S2 _ _ ew) (fun H4 Z S4 hZ => ⟨(by show (0 : Int) < 2; decide), by decide +kernel, ?_⟩) (fun H4 R h => ⟨_, rfl, h⟩) fun y r H' hy S' e' => q r H' _ (S2.trans S') e' (bd_in g hy)
        have m2 : more % 2 = 0 ∨ more % 2 = 1 := by omega
        rcases m2 with m2 | m2
        · rw [m2]; exact hZ "(" _ (Same.refl _) (.inl rfl)
        · rw [m2]; exact hZ ")" _ (Same.refl _) (.inr rfl)
      refine ifI (M := ch) rfl (fun h2 => ?_) (fun h2 => ?_)
      · exact ret_mid (Py := fun y => y ∈ SP.Internal.KW) ws k (k + 1) (by omega) (S2 _ _ ew) (fun H4 Z S4 hZ => ⟨(by show (0 : Int) < 15; decide), lst1 SP.Internal.KW more 15 H4 kl Z ((S2.trans S4) _ _ ek) rfl (by decide) fun y hy => hZ y _ (Same.refl _) hy⟩) (fun H4 R h => ⟨_, rfl, h⟩) fun y r H' hy S' e' => q r H' _ (S2.trans S') e' (bd_kw g hk (kw_wg y hy) fun z => f2 h2 (z.mpr hy))
      refine ifI (M := ch) rfl (fun h3 => ?_) (fun h3 => ?_)
      · exact ret_mid (Py := fun y => y ∈ (["a", "row1", "0", "77", "defs", "lets"] : List Str)) ws k (k + 1) (by omega) (S2 _ _ ew) (fun H4 Z S4 hZ => ⟨(by show 6 ≤ sizeLine; decide), fun d hd => ⟨(by show (0 : Int) < 6; decide), lst1 ["a", "row1", "0", "77", "defs", "lets"] more 6 _ d Z upd_same rfl (by decide) fun y hy => hZ y _ (same_new hd _) hy⟩⟩) (fun H4 R h => ⟨_, rfl, h⟩) fun y r H' hy S' e' => q r H' _ (S2.trans S') e' (bd_kw g hk (al_wg (wr6 y hy).2) fun z => (wr6 y hy).1 (z.mp (f3 h3)))
      refine ifI (M := ch) rfl (fun h4 => ?_) (fun h4 => ?_)
      · exact ret_mid (Py := fun y => y ∈ ODD) ws k (k + 1) (by omega) (S2 _ _ ew) (fun H4 Z S4 hZ => ⟨more, rfl, fun y H5 S5 hy => hZ y H5 S5 hy⟩) (fun H4 R h => ⟨_, rfl, h⟩) fun y r H' hy S' e' => q r H' _ (S2.trans S') e' (bd_al g (odd_wg hy) (odd_al hy))
      refine ifI (M := ch) rfl (fun h5 => ?_) (fun h5 => ?_)
      · refine ⟨more, rfl, fun y0 H5 S5 hy0 => ⟨(by show 5 ≤ sizeLine; decide), fun d hd => ⟨(by show (0 : Int) < 5; decide), lst1 ["0", "a", "def", "row", y0] more 5 _ d _ upd_same rfl (by decide) fun y hy => ⟨(by show 1 ≤ sizeLine; decide), fun e he => ?_⟩⟩⟩⟩
        have SS := S2.trans (S5.trans (same_new hd (.lst ((["0", "a", "def", "row", y0] : List Str).map V.str))))
        have hyy : Wg y ∧ y ≠ ")" := by
          have hy' : y ∈ (["0", "a", "def", "row"] : List Str) ∨ y = y0 := by
            simp only [List.mem_cons, List.not_mem_nil, or_false] at hy ⊢
            rcases hy with h | h | h | h | h <;> simp [h]
          rcases hy' with h | h
          · exact ⟨al_wg (wr4 y h).2, (wr4 y h).1⟩
          · rw [h]; exact ⟨odd_wg hy0, (odd_all y0 hy0).1.2.1⟩
        refine ⟨wl, e, _, _, rfl, rfl, same_new he _ _ _ (SS _ _ ew), upd_same, (by rw [lm]; show ws.length + 1 ≤ _; omega), fun r hr => q r _ (ws ++ [y]) ((SS.trans (same_new he _)).trans (same_new hr _)) ?_ (bd_end g hyy.1 hyy.2)⟩
        rw [upd_same, List.map_append]
        rfl
      · refine ⟨_, rfl, wl, _, rfl, SqL.of (S2 _ _ ew), fun c hc => ⟨(by show 1 ≤ sizeLine; decide), fun e he => ?_⟩⟩
        have sc := same_new hc (.lst (cutV (ws.map V.str) none (some (k : Int))))
        have se := same_new he (.lst [V.str "("])
        have l1 := cutV_length (ws.map V.str) none (some (k : Int))
        refine ⟨c, e, _, _, rfl, rfl, se _ _ upd_same, upd_same, (by show _ + 1 ≤ _; omega), fun r hr => q r _ (ws.take k ++ [("(" : Str)]) (S2.trans (sc.trans (se.trans (same_new hr _)))) ?_ (bd_cut g)⟩
        rw [upd_same, cut_to, List.map_append, List.map_take]
        rfl
  · intro U hU
    have inK : ∀ {H' : Hp} {k : Nat} {w : Str} (b : Bool) (R : V → Hp → Prop), ws[k]? = some w → Same H H' → R (.bl (if b = true then !decide (w ∈ SP.Internal.KW) else decide (w ∈ SP.Internal.KW))) H' → ∃ p xs, V.ref kl = .ref p ∧ (SqL K H' p xs ∨ SqT K H' p xs) ∧ flatV (.str w) = true ∧ xs.all flatV = true ∧ R (.bl (if b = true then !inV (.str w) xs else inV (.str w) xs)) H' := fun {H' k w} b R hw S h => ⟨kl, SP.Internal.KW.map V.str, rfl, .inl (SqL.of (S _ _ ek)), rfl, by decide +kernel, by rw [inV_dec]; exact h⟩
    refine ifI (M := ch) rfl (fun h2 => ?_) (fun h2 => ?_)
    · refine ⟨wl, _, rfl, .inl (SqL.of (S1 _ _ ew)), (ws.map V.str).length, rfl, by omega, by omega, fun D hD => ?_⟩
      refine lc_sp ws (fun w => !decide (w ∈ SP.Internal.KW) && !(decide (w = "(") || decide (w = ")"))) 0 (by omega) (by rw [lm]; rfl) hD rfl (fun k w H' R hw S hR => ?_) (fun k H' Z h => el _ _ _ h) fun H2 xs S2 sp hl e2 => ?_
      · have S' := S1.trans S
        refine and2 _ _ (fun R h => ⟨_, S' _ _ ew, onS_of (hat hw) (inK true (fun x H' => onB x fun k => R k H') hw S' h)⟩) (fun R h => ⟨_, S' _ _ ew, onS_of (hat hw) ⟨w, "()", rfl, rfl, ?_⟩⟩) (hR _ (Same.refl _))
        show R (!(!(Builtin.Str.occurrences "()" w 0 ("()" : Str).length 1).isEmpty)) H'
        rw [occ_wg (wgk hw)]
        exact h
      · have xne := sp.ne ⟨n, o2, by obtain ⟨f1, f2, f3⟩ := SP.Internal.nm_facts (.inl hn); simp [f1, f2, f3]⟩
        dsimp only [gName]
        refine ifI (M := ch) rfl (fun h3 => absurd (h2.symm.trans h3) (by decide)) (fun h3 => ?_)
        refine ifG (M := ch) rfl (fun h4 => absurd (h2 ▸ h4) (by decide)) (fun h4 => hU _ _ ⟨D, xs, rfl, S1.trans S2, e2, xne, fun x hx => ?_⟩)
        obtain ⟨k, w, hk, hp, rfl⟩ := sp.ev x hx
        simp only [Bool.and_eq_true, Bool.not_eq_true', decide_eq_false_iff_not] at hp
        exact ⟨k, w, hk, rfl, fun z => absurd (h2 ▸ z) (by decide), fun _ => hp.1, fun z => absurd (h2.symm.trans z) (by decide)⟩
    refine ifI (M := ch) rfl (fun h3 => ?_) (fun h3 => ?_)
    · refine ⟨wl, _, rfl, .inl (SqL.of (S1 _ _ ew)), (ws.map V.str).length, rfl, by omega, by omega, fun D hD => ?_⟩
      refine lc_sp ws (fun w => decide (w ∈ SP.Internal.KW)) 0 (by omega) (by rw [lm]; rfl) hD rfl (fun k w H' R hw S hR => ⟨_, (S1.trans S) _ _ ew, onS_of (hat hw) (inK false (fun x H' => onB x fun k => R k H') hw (S1.trans S) (hR _ (Same.refl _)))⟩) (fun k H' Z h => el _ _ _ h) fun H2 xs S2 sp hl e2 => ?_
      have xne := sp.ne ⟨"def", o1, by decide +kernel⟩
      dsimp only [gName]
      refine ifG (M := ch) rfl (fun h4 => absurd (h3 ▸ h4) (by decide)) (fun h4 => hU _ _ ⟨D, xs, rfl, S1.trans S2, e2, xne, fun x hx => ?_⟩)
      obtain ⟨k, w, hk, hp, rfl⟩ := sp.ev x hx
      exact ⟨k, w, hk, rfl, fun z => absurd (h3 ▸ z) (by decide), fun z => absurd (h3.symm.trans z) (by decide), fun _ => of_decide_eq_true hp⟩
    refine ifG (M := ch) rfl (fun h4 => ?_) (fun h4 => ?_)
    · refine ⟨wl, _, rfl, .inl (SqL.of (S1 _ _ ew)), (ws.map V.str).length, rfl, by omega, by omega, fun l hl' => ?_⟩
      dsimp only [gName]
      refine hU _ _ ⟨l, _, rfl, S1.trans (same_new hl' _), upd_same, ?_, fun x hx => ?_⟩
      · rw [lm, Int.toNat_natCast]
        intro z
        have := congrArg List.length z
        unfold rgV at this
        rw [List.length_map, List.length_range, ews] at this
        cases this
      · unfold rgV at hx
        obtain ⟨k, hk, rfl⟩ := List.mem_map.mp hx
        have hk := List.mem_range.mp hk
        rw [lm, Int.toNat_natCast] at hk
        exact ⟨k, ws[k], List.getElem?_eq_getElem hk, rfl, fun z => by omega, fun z => by omega, fun z => by omega⟩
    · refine hU _ _ ⟨D, xs, rfl, S1, e1, sp.ne ⟨"(", o0, by decide +kernel⟩, fun x hx => ?_⟩
      obtain ⟨k, w, hk, hp, rfl⟩ := sp.ev x hx
      simp only [Bool.or_eq_true, decide_eq_true_eq] at hp
      exact ⟨k, w, hk, rfl, fun _ => hp, fun z => absurd z h2, fun z => absurd z h3⟩
end
end K05.Internal
namespace K05.Internal
open PySem L2.Internal BO.Internal
seal L2.Internal.PE L2.Internal.PA L2.Internal.PS L2.Internal.PSs L2.Internal.PT L2.Internal.PI
open GR.Internal (isName isNum readA WOk wordsV toks Op)
section
variable {P : Program} {w : World} {K : PySem.W.Frag} {mg : Str → Option Value} {base : Heap}
theorem ok_law {f : Addr} {fd : FuncData} (T : Txt K mg) (F : Fun K "law" "law" s_law f fd)
    (G_read : FnOk P w K mg base (CXE P w) 126 T.a_read T.fd_read ["text"] (sp_read K T.a_Program T.a_BadText)) : FnOk P w K mg base CX0 150 f fd ["_law_script"] (sp_law K) := by
  have G__law_trees := ok__law_trees (P := P) (w := w) (base := base) T
  have G__law_words := ok__law_words (P := P) (w := w) (base := base) T 97
  have G__law_spoilt := ok__law_spoilt (P := P) (w := w) (base := base) T
  have G__law_taken := ok__law_taken T G_read
  refine F.ok sc_law (fun vs H Q E h => ?_) (fun cdv A outer s H vs Q E hr h => ?_)
  · obtain ⟨a, ns, rfl, _⟩ := h
    rfl
  obtain ⟨ad, ks, rfl, hsq, hlen, q⟩ := h
  refine ⟨_, (pss_cons (ps_set (i := 1) sc_law.nd rfl (Or.inl rfl) (pe_lst (pa_strs (xs := ["def", "fn", "call", "let", "rec", "get", "tag", "case", "row", "at"]) (by decide +kernel))))
    (pss_cons (ps_set (i := 1) sc_law.nd rfl (Or.inl rfl) (pe_op op_cat (cv 1) (pe_lst (pa_cons pe_str (pa_cons pe_str (pa_cons pe_str (pa_cons pe_str (pa_cons pe_str pa_nil))))))))
    (pss_cons (ps_set (i := 2) sc_law.nd rfl (Or.inl rfl) (pe_lst pa_nil))
    (pss_cons (ps_for PassesOwn.never rfl (pi_list (pe_call G__law_trees (hr.mono (by decide)) rfl T.m__law_trees T.k__law_trees T.b__law_trees .nil pass0 (pa_cons (pe_slice sl_list (cv 0) (po_some pe_int) po_none) pa_nil))) (pg_lst rfl (pgs_cons (pg_name (i := 3) sc_law.nd rfl (Or.inl rfl)) (pgs_cons (pg_name (i := 4) sc_law.nd rfl (Or.inl rfl)) pgs_nil)))
      (pss_one (ps_set (i := 2) sc_law.nd rfl (Or.inl rfl) (pe_op op_cat (pe_op op_cat (pe_op op_cat (cv 2) (pe_lst (pa_cons pe_str (pa_cons pe_str (pa_cons (cv 3) pa_nil))))) (pe_call G__law_words (hr.mono (by decide)) rfl T.m__law_words T.k__law_words T.b__law_words .nil pass0 (pa_cons (cv 4) pa_nil))) (pe_lst (pa_cons pe_str pa_nil))))))
    (pss_cons (ps_set (i := 5) sc_law.nd rfl (Or.inl rfl) (pe_op oc_mod (pe_callB (call_sumA rfl) rfl T.z_sum bt_sum (pa_cons (pe_slice sl_list (cv 0) po_none (po_some pe_int)) pa_nil)) pe_int))
    (pss_cons (ps_set (i := 6) sc_law.nd rfl (Or.inl rfl) (pe_op oc_mod (pe_callB (call_sumA rfl) rfl T.z_sum bt_sum (pa_cons (pe_slice sl_list (cv 0) (po_some pe_int) (po_some pe_int)) pa_nil)) (pe_op oc_pow pe_int pe_int)))
    (pss_cons (ps_set (i := 7) sc_law.nd rfl (Or.inl rfl) (pe_bm PySem.F.plainAttrs_str PySem.F.slot_str_join PySem.F.type_str_join mt_join pe_str (pa_cons (cv 2) pa_nil)))
    (pss_cons (ps_set (i := 8) sc_law.nd rfl (Or.inl rfl) (pe_bm PySem.F.plainAttrs_str PySem.F.slot_str_join PySem.F.type_str_join mt_join pe_str (pa_cons (pe_call G__law_spoilt (hr.mono (by decide)) rfl T.m__law_spoilt T.k__law_spoilt T.b__law_spoilt .nil pass0 (pa_cons (cv 2) (pa_cons (cv 5) (pa_cons (cv 6) (pa_cons (cv 1) pa_nil))))) pa_nil)))
    (pss_cons (ps_if (pt_not (pt_val (pe_callB call_isi rfl T.z_isinstance bt_isinstance (pa_cons (pe_call G_read (hr.mono (by decide)) rfl T.m_read T.k_read T.b_read .nil passF (pa_cons (cv 7) pa_nil)) (pa_cons (pe_gR rfl T.m_Program) pa_nil)))))
      (pss_one (ps_ret pe_bl))
      pss_nil)
    (pss_cons (ps_if (pt_not (pt_val (pe_call G__law_taken (hr.mono (by decide)) rfl T.m__law_taken T.k__law_taken T.b__law_taken .nil pass0 (pa_cons (cv 8) pa_nil))))
      (pss_one (ps_ret pe_bl))
      pss_nil)
    (pss_one (ps_ret (pe_callB call_isi rfl T.z_isinstance bt_isinstance (pa_cons (pe_call G_read (hr.mono (by decide)) rfl T.m_read T.k_read T.b_read .nil passF (pa_cons (cv 7) pa_nil)) (pa_cons (pe_gR rfl T.m_Program) pa_nil))))))))))))))), ?_⟩
  have sl : sizeLine = 16777216 := sizeLine_eq
  have cutI : ∀ lo hi : Option Int, ∃ ks0 : List Int, cutV (ks.map V.int) lo hi = ks0.map V.int := fun lo hi => ⟨(ks.drop (HT.Internal.sIx (ks.map V.int).length 0 lo)).take (HT.Internal.sIx (ks.map V.int).length (ks.map V.int).length hi - HT.Internal.sIx (ks.map V.int).length 0 lo), by unfold cutV; rw [List.map_take, List.map_drop]⟩
  refine ⟨(by show 10 ≤ sizeLine; decide), fun ka hka => ?_⟩
  have s1 := same_new hka (.lst ((["def", "fn", "call", "let", "rec", "get", "tag", "case", "row", "at"] : List Str).map V.str))
  have ek1 : upd H ka (.lst ((["def", "fn", "call", "let", "rec", "get", "tag", "case", "row", "at"] : List Str).map V.str)) ka = some (.lst ((["def", "fn", "call", "let", "rec", "get", "tag", "case", "row", "at"] : List Str).map V.str)) := upd_same
  dsimp only [gName]
  generalize upd H ka _ = H1 at s1 ek1 ⊢
  refine ⟨(by show 5 ≤ sizeLine; decide), fun kb hkb => ?_⟩
  have s2 := same_new hkb (.lst ((["join", "size", "add", "sub", "less"] : List Str).map V.str))
  refine ⟨ka, kb, _, _, rfl, rfl, s2 _ _ ek1, upd_same, (by show 10 + 5 ≤ sizeLine; decide), fun kl hkl => ?_⟩
  have s3 : Same H (upd (upd H1 kb (.lst ((["join", "size", "add", "sub", "less"] : List Str).map V.str))) kl (.lst (SP.Internal.KW.map V.str))) := s1.trans (s2.trans (same_new hkl (.lst (SP.Internal.KW.map V.str))))
  have ek : (upd (upd H1 kb (.lst ((["join", "size", "add", "sub", "less"] : List Str).map V.str))) kl (.lst (SP.Internal.KW.map V.str))) kl = some (.lst (SP.Internal.KW.map V.str)) := upd_same
  show tSeq _ _ _ [some (.ref ad), some (.ref kl), none, none, none, none, none, none, none] (upd (upd H1 kb (.lst ((["join", "size", "add", "sub", "less"] : List Str).map V.str))) kl (.lst (SP.Internal.KW.map V.str)))
  generalize upd (upd H1 kb (.lst ((["join", "size", "add", "sub", "less"] : List Str).map V.str))) kl (.lst (SP.Internal.KW.map V.str)) = H3 at s3 ek ⊢
  refine ⟨(by show 0 ≤ sizeLine; decide), fun wl hwl => ?_⟩
  have s4 := s3.trans (same_new hwl (.lst []))
  have ek4 := same_new hwl (.lst []) _ _ ek
  have ew4 : (upd H3 wl (.lst [])) wl = some (.lst []) := upd_same
  dsimp only [gName]
  generalize upd H3 wl (.lst []) = H4 at s4 ek4 ew4 ⊢
  obtain ⟨ks2, ek2⟩ := cutI (some 2) none
  have lk2 : ks2.length ≤ 63 := by
    have h1 := congrArg List.length ek2
    have h2 := cutV_length (ks.map V.int) (some 2) none
    rw [List.length_map] at h1 h2
    omega
  refine ⟨_, rfl, ad, _, rfl, s4.seq hsq, fun c2 hc2 => ⟨c2, ks2, rfl, SqL.of (by rw [upd_same, ek2]), lk2, fun md ms H5 S5 dm gm l12 l1 tt => ?_⟩⟩
  have s45 := (same_new hc2 (.lst (cutV (ks.map V.int) (some 2) none))).trans S5
  have s5 := s4.trans s45
  cases dm with
  | @lst _ mv _ em hmv =>
  have lmv := dtas_len hmv
  rw [List.length_map] at lmv
  refine ⟨md, rfl, ⟨_, SqL.of em⟩, for_list (xs := mv) (fun i σ H6 => ∃ (wl : Addr) (o3 o4 : Option V), σ = [some (.ref ad), some (.ref kl), some (.ref wl), o3, o4, none, none, none, none] ∧ Same H5 H6 ∧ H6 wl = some (.lst ((dtM (ms.take i)).map V.str))) ⟨wl, none, none, rfl, Same.refl _, s45 _ _ ew4⟩ (fun i σ H6 _ ⟨_, _, _, _, S, _⟩ => SqL.of (S _ _ em)) ?_ ?_⟩
  · rintro i v σ H6 hv ⟨wl, o3, o4, rfl, S6, e6⟩
    obtain ⟨d, hd, dv⟩ := dtas_get hmv hv
    rw [List.getElem?_map] at hd
    obtain ⟨⟨nm, t⟩, hm, rfl⟩ := Option.map_eq_some_iff.mp hd
    obtain ⟨hnm, okt, nst, szt⟩ : isName nm = true ∧ t.ok ∧ t.nest ≤ 24 ∧ t.sz ≤ 160 := gm (nm, t) (List.mem_of_getElem? hm)
    have tk : ms.take (i + 1) = ms.take i ++ [(nm, t)] := by rw [List.take_add_one, hm]; rfl
    have kd : dtM (ms.take (i + 1)) = dtM (ms.take i) ++ dtk nm t := by rw [tk, dtM_app]; show _ ++ (dtk nm t ++ []) = _; rw [List.append_nil]
    have wzi : wz (dtM (ms.take i)) ≤ 16000 := by
      have h1 := dtM_wz (ms := ms.take i) fun p hp => gm p (List.mem_of_mem_take hp)
      have h2 : tot ms = tot (ms.take i) + tot (ms.drop i) := by rw [← tot_app, List.take_append_drop]
      omega
    have wzt := kz_t t okt
    unfold Kz at wzt
    replace dv : Dta H5 v (.lst [TM.Internal.sD nm, t.td]) := dv
    cases dv with
    | @lst e xs _ he hs =>
      cases hs with
      | cons h1 hs =>
        cases hs with
        | @cons tv _ _ _ h2 hs =>
          cases hs
          cases h1
          have he6 := S6 _ _ he
          refine ⟨e, _, rfl, SqL.of he6, rfl, _, _, rfl, _, _, rfl, rfl, ?_⟩
          have lA : (dtM (ms.take i)).length ≤ 16000 := Nat.le_trans (wz_len _) wzi
          have lT : t.tk.length ≤ 16000 := Nat.le_trans (wz_len _) (by omega)
          have lmA : ((dtM (ms.take i)).map V.str).length ≤ 16000 := by rw [List.length_map]; exact lA
          have lmT : (t.tk.map V.str).length ≤ 16000 := by rw [List.length_map]; exact lT
          refine ⟨(by show 3 ≤ sizeLine; decide), fun a1 g1 => ⟨wl, a1, _, _, rfl, rfl, same_new g1 _ _ _ e6, upd_same, (by show _ + 3 ≤ _; omega), fun a2 g2 => ?_⟩⟩
          have s6 := (same_new g1 (.lst [.str "(", .str "def", .str nm])).trans (same_new g2 (.lst ((dtM (ms.take i)).map V.str ++ [.str "(", .str "def", .str nm])))
          refine ⟨tv, .t t, rfl, by rw [Pt.td]; exact h2.same (S6.trans s6), by rw [Pt.gd]; exact ⟨okt, nst⟩, by rw [Pt.mx]; omega, by rw [Pt.wd]; omega, fun r H8 S8 e8 => ?_⟩
          rw [Pt.wd] at e8
          refine ⟨a2, r, _, _, rfl, rfl, S8 _ _ upd_same, e8, (by rw [List.length_append]; show _ + 3 + _ ≤ _; omega), fun a3 g3 => ⟨(by show 1 ≤ sizeLine; decide), fun a4 g4 => ⟨a3, a4, _, _, rfl, rfl, same_new g4 _ _ _ upd_same, upd_same, (by rw [List.length_append, List.length_append]; show _ + 3 + _ + 1 ≤ _; omega), fun a5 g5 => ⟨a5, _, _, rfl, S6.trans (s6.trans (S8.trans ((same_new g3 _).trans ((same_new g4 _).trans (same_new g5 _))))), ?_⟩⟩⟩⟩
          rw [upd_same, kd, List.map_append]
          unfold dtk
          rw [List.map_cons, List.map_cons, List.map_cons, List.map_append, List.append_assoc, List.append_assoc]
          rfl
  · rintro σ H6 ⟨wl, o3, o4, rfl, S6, e6⟩
    rw [List.take_of_length_le (by omega)] at e6
    obtain ⟨o, rd⟩ := read_M gm tt l1 l12
    have fr := SP.Internal.read_u rd
    have wzm := dtM_wz gm
    have wzM : wz (dtM ms) ≤ 16000 := by omega
    have lW := wz_len (dtM ms)
    obtain ⟨n, rest, ews, hn⟩ : ∃ n rest, dtM ms = ("(" : Str) :: "def" :: n :: rest ∧ isName n = true := by
      cases ms with
      | nil => exact absurd l1 (by decide)
      | cons p ms => exact ⟨p.1, _, rfl, (gm p List.mem_cons_self).1⟩
    have wg := fr_wg fr
    have S0 := s5.trans S6
    have one : (" " : Str).length = 1 := by decide +kernel
    have ek6 := S6 _ _ (s45 _ _ ek4)
    dsimp only
    obtain ⟨ks0, ek0⟩ := cutI none (some 1)
    refine ⟨_, rfl, ad, _, rfl, S0.seq hsq, fun c1 hc1 => ⟨c1, ks0, rfl, SqL.of (by rw [upd_same, ek0]), fun n0 => ⟨(by show (0 : Int) < 7; decide), ?_⟩⟩⟩
    have s7 := same_new hc1 (.lst (cutV (ks.map V.int) none (some 1)))
    dsimp only [gName]
    generalize upd H6 c1 (.lst (cutV (ks.map V.int) none (some 1))) = H7 at s7 ⊢
    have f0 : 0 ≤ n0 % 7 ∧ n0 % 7 < 7 := ⟨Int.emod_nonneg _ (by decide), Int.emod_lt_of_pos _ (by decide)⟩
    obtain ⟨ks1, ek1'⟩ := cutI (some 1) (some 2)
    refine ⟨_, rfl, _, rfl, ad, _, rfl, (S0.trans s7).seq hsq, fun c3 hc3 => ⟨c3, ks1, rfl, SqL.of (by rw [upd_same, ek1']), fun n1 => ⟨⟨by decide, by decide, by decide⟩, (by show (0 : Int) < 10 ^ (30 : Int).toNat; decide +kernel), ?_⟩⟩⟩
    have s8 := same_new hc3 (.lst (cutV (ks.map V.int) (some 1) (some 2)))
    dsimp only [gName]
    generalize upd H7 c3 (.lst (cutV (ks.map V.int) (some 1) (some 2))) = H8 at s8 ⊢
    generalize n0 % 7 = ch at f0 ⊢
    generalize n1 % 10 ^ (30 : Int).toNat = cell
    have S68 := s7.trans s8
    have jok : ∀ l : List Str, wz l ≤ 20000 → (l.map (·.length)).sum + l.length * (" " : Str).length ≤ sizeLine := fun l h => by
      have := wz_sum l
      rw [one]
      omega
    have txt : ∀ l : List Str, wz l ≤ 20000 → (∀ w ∈ l, Wg w) → (jn l).length ≤ 30000 ∧ wordsV (jn l).cps.toList = l.map V.str ∧ WOk l := fun l h hw => by
      have h1 := jn_wz l
      have h2 := wz_len l
      refine ⟨by omega, ?_, wok_g (by omega) hw⟩
      rw [GR.Internal.toks_v]
      exact congrArg _ (op_jn hw)
    refine ⟨rfl, " ", wl, dtM ms, rfl, rfl, SqL.of (S68 _ _ e6), jok _ (by omega), ?_⟩
    dsimp only [gName]
    refine ⟨rfl, wl, kl, dtM ms, ch, cell, n, rest, rfl, S68 _ _ e6, S68 _ _ ek6, fr, ews, hn, by omega, f0.1, f0.2, fun r H9 bad S9 e9 bd => ?_⟩
    have bz := bd.sz
    refine ⟨" ", r, bad, rfl, rfl, SqL.of e9, jok _ (by omega), ?_⟩
    dsimp only [gName]
    obtain ⟨t1, t2, t3⟩ := txt (dtM ms) (by omega) wg
    obtain ⟨b1, b2, b3⟩ := txt bad (by omega) bd.ok
    refine ⟨jn (dtM ms), dtM ms, rfl, t1, t2, t3, fun names roots rows g nl tl rl rtv rwv H10 ra S10 _ _ _ pr _ _ => ?_, fun h => by rw [rd] at h; cases h⟩
    obtain ⟨dg, eg⟩ := pr.ob
    refine ⟨_, _, _, _, true, rfl, fun _ h => h, T.ty_Program _ _ _ _ eg, T.i_Program_Program, _, rfl, iteF ?_⟩
    refine ⟨jn bad, bad, rfl, b1, b2, b3, bd.no, fun H11 S11 => ⟨_, rfl, iteF ?_⟩⟩
    refine ⟨jn (dtM ms), dtM ms, rfl, t1, t2, t3, fun names roots rows g nl tl rl rtv rwv H12 ra S12 _ _ _ pr _ _ => ?_, fun h => by rw [rd] at h; cases h⟩
    obtain ⟨dg, eg⟩ := pr.ob
    exact ⟨_, _, _, _, true, rfl, fun _ h => h, T.ty_Program _ _ _ _ eg, T.i_Program_Program, q _⟩
end
end K05.Internal
namespace K05.Internal
open PySem L2.Internal BO.Internal
seal L2.Internal.PE L2.Internal.PA L2.Internal.PS L2.Internal.PSs L2.Internal.PT L2.Internal.PI
open GR.Internal
theorem val_of {l : List (Str × Tok × Addr)} : (l.map (·.1)).Nodup → ∀ x ∈ l, valV (l.map fun p => ((Sum.inr p.1 : Key), V.ref p.2.2)) (Sum.inr x.1) = some (.ref x.2.2) := by
  induction l with
  | nil => exact fun _ x hx => nomatch hx
  | cons y r ih =>
    intro hn x hx
    rw [List.map_cons, List.nodup_cons] at hn
    unfold valV
    rw [List.map_cons, List.find?_cons]
    rcases List.mem_cons.mp hx with e | hm
    · subst e
      rw [decide_eq_true rfl]
      rfl
    · have ne : ¬ (Sum.inr y.1 : Key) = Sum.inr x.1 := fun z => hn.1 (by rw [Sum.inr.inj z]; exact List.mem_map_of_mem hm)
      rw [decide_eq_false ne]
      exact ih hn.2 x hm
theorem val_no {l : List (Str × Tok × Addr)} {h : Str} (hn : h ∉ l.map (·.1)) : valV (l.map fun p => ((Sum.inr p.1 : Key), V.ref p.2.2)) (Sum.inr h) = none := by
  unfold valV
  rw [Option.map_eq_none_iff, List.find?_eq_none]
  intro kv hkv z
  obtain ⟨p, hp, rfl⟩ := List.mem_map.mp hkv
  have e : (Sum.inr p.1 : Key) = Sum.inr h := of_decide_eq_true z
  exact hn (by rw [← Sum.inr.inj e]; exact List.mem_map_of_mem hp)
noncomputable def dk_of {P : Program} {w : World} {K : PySem.W.Frag} {mg : Str → Option Value} {a : Addr} {n : Nat} {t1 t2 t3 t4 t5 t6 t7 t8 t9 t10 t11 : Tok} {q1 q2 q3 q4 q5 q6 q7 q8 q9 q10 q11 : Addr} (m : mg "STEADY_FORMS" = some (.ref a)) (ha : (a == sysModules) = false) (hl : K.lookup a = some ⟨.type "dict", none, .dict #[⟨PyData.keyHash w.params "fn", .str "fn" t1, .ref q1⟩, ⟨PyData.keyHash w.params "call", .str "call" t2, .ref q2⟩, ⟨PyData.keyHash w.params "let", .str "let" t3, .ref q3⟩, ⟨PyData.keyHash w.params "get", .str "get" t4, .ref q4⟩, ⟨PyData.keyHash w.params "tag", .str "tag" t5, .ref q5⟩, ⟨PyData.keyHash w.params "at", .str "at" t6, .ref q6⟩, ⟨PyData.keyHash w.params "join", .str "join" t7, .ref q7⟩, ⟨PyData.keyHash w.params "size", .str "size" t8, .ref q8⟩, ⟨PyData.keyHash w.params "add", .str "add" t9, .ref q9⟩, ⟨PyData.keyHash w.params "sub", .str "sub" t10, .ref q10⟩, ⟨PyData.keyHash w.params "less", .str "less" t11, .ref q11⟩] n, #[]⟩)
    (h1 : ∀ H : Hp, SqT K H q1 [V.str "name", V.str "expr"]) (h2 : ∀ H : Hp, SqT K H q2 [V.str "expr", V.str "expr"]) (h3 : ∀ H : Hp, SqT K H q3 [V.str "name", V.str "expr", V.str "expr"]) (h4 : ∀ H : Hp, SqT K H q4 [V.str "expr", V.str "name"]) (h5 : ∀ H : Hp, SqT K H q5 [V.str "name", V.str "expr"]) (h6 : ∀ H : Hp, SqT K H q6 [V.str "expr", V.str "expr", V.str "expr"]) (h7 : ∀ H : Hp, SqT K H q7 [V.str "expr", V.str "expr"]) (h8 : ∀ H : Hp, SqT K H q8 [V.str "expr"]) (h9 : ∀ H : Hp, SqT K H q9 [V.str "expr", V.str "expr"]) (h10 : ∀ H : Hp, SqT K H q10 [V.str "expr", V.str "expr"]) (h11 : ∀ H : Hp, SqT K H q11 [V.str "expr", V.str "expr"]) : Dk P w K mg where
  a := a
  m := m
  kvs := ([("fn", t1, q1), ("call", t2, q2), ("let", t3, q3), ("get", t4, q4), ("tag", t5, q5), ("at", t6, q6), ("join", t7, q7), ("size", t8, q8), ("add", t9, q9), ("sub", t10, q10), ("less", t11, q11)] : List (Str × Tok × Addr)).map fun p => ((Sum.inr p.1 : Key), V.ref p.2.2)
  kd := kdict_of ha hl rfl (by show (["fn", "call", "let", "get", "tag", "at", "join", "size", "add", "sub", "less"] : List Str).Nodup; decide +kernel)
  no := fun h e => val_no (l := [("fn", t1, q1), ("call", t2, q2), ("let", t3, q3), ("get", t4, q4), ("tag", t5, q5), ("at", t6, q6), ("join", t7, q7), ("size", t8, q8), ("add", t9, q9), ("sub", t10, q10), ("less", t11, q11)]) (by
    show h ∉ (["fn", "call", "let", "get", "tag", "at", "join", "size", "add", "sub", "less"] : List Str)
    intro z
    have e1 : ∀ k ∈ (["fn", "call", "let", "get", "tag", "at", "join", "size", "add", "sub", "less"] : List Str), stP k ≠ none := by decide +kernel
    exact e1 h z e)
  yes := fun h ps e => by
    have hn : (([("fn", t1, q1), ("call", t2, q2), ("let", t3, q3), ("get", t4, q4), ("tag", t5, q5), ("at", t6, q6), ("join", t7, q7), ("size", t8, q8), ("add", t9, q9), ("sub", t10, q10), ("less", t11, q11)] : List (Str × Tok × Addr)).map (·.1)).Nodup := by show (["fn", "call", "let", "get", "tag", "at", "join", "size", "add", "sub", "less"] : List Str).Nodup; decide +kernel
    unfold stP at e
    obtain ⟨p, hp, rfl⟩ := Option.map_eq_some_iff.mp e
    have hm := List.mem_of_find?_eq_some hp
    have hh : p.1 = h := of_decide_eq_true (List.find?_some (p := fun p : Str × List Bool => decide (p.1 = h)) hp)
    subst hh
    clear hp e
    unfold stT at hm
    simp only [List.mem_cons, List.not_mem_nil, or_false] at hm
    rcases hm with rfl | rfl | rfl | rfl | rfl | rfl | rfl | rfl | rfl | rfl | rfl
    · exact ⟨q1, val_of hn ("fn", t1, q1) (List.mem_cons_self ..), h1⟩
    · exact ⟨q2, val_of hn ("call", t2, q2) (List.mem_cons_of_mem _ (List.mem_cons_self ..)), h2⟩
    · exact ⟨q3, val_of hn ("let", t3, q3) (List.mem_cons_of_mem _ (List.mem_cons_of_mem _ (List.mem_cons_self ..))), h3⟩
    · exact ⟨q4, val_of hn ("get", t4, q4) (List.mem_cons_of_mem _ (List.mem_cons_of_mem _ (List.mem_cons_of_mem _ (List.mem_cons_self ..)))), h4⟩
    · exact ⟨q5, val_of hn ("tag", t5, q5) (List.mem_cons_of_mem _ (List.mem_cons_of_mem _ (List.mem_cons_of_mem _ (List.mem_cons_of_mem _ (List.mem_cons_self ..))))), h5⟩
    · exact ⟨q6, val_of hn ("at", t6, q6) (List.mem_cons_of_mem _ (List.mem_cons_of_mem _ (List.mem_cons_of_mem _ (List.mem_cons_of_mem _ (List.mem_cons_of_mem _ (List.mem_cons_self ..)))))), h6⟩
    · exact ⟨q7, val_of hn ("join", t7, q7) (List.mem_cons_of_mem _ (List.mem_cons_of_mem _ (List.mem_cons_of_mem _ (List.mem_cons_of_mem _ (List.mem_cons_of_mem _ (List.mem_cons_of_mem _ (List.mem_cons_self ..))))))), h7⟩
    · exact ⟨q8, val_of hn ("size", t8, q8) (List.mem_cons_of_mem _ (List.mem_cons_of_mem _ (List.mem_cons_of_mem _ (List.mem_cons_of_mem _ (List.mem_cons_of_mem _ (List.mem_cons_of_mem _ (List.mem_cons_of_mem _ (List.mem_cons_self ..)))))))), h8⟩
    · exact ⟨q9, val_of hn ("add", t9, q9) (List.mem_cons_of_mem _ (List.mem_cons_of_mem _ (List.mem_cons_of_mem _ (List.mem_cons_of_mem _ (List.mem_cons_of_mem _ (List.mem_cons_of_mem _ (List.mem_cons_of_mem _ (List.mem_cons_of_mem _ (List.mem_cons_self ..))))))))), h9⟩
    · exact ⟨q10, val_of hn ("sub", t10, q10) (List.mem_cons_of_mem _ (List.mem_cons_of_mem _ (List.mem_cons_of_mem _ (List.mem_cons_of_mem _ (List.mem_cons_of_mem _ (List.mem_cons_of_mem _ (List.mem_cons_of_mem _ (List.mem_cons_of_mem _ (List.mem_cons_of_mem _ (List.mem_cons_self ..)))))))))), h10⟩
    · exact ⟨q11, val_of hn ("less", t11, q11) (List.mem_cons_of_mem _ (List.mem_cons_of_mem _ (List.mem_cons_of_mem _ (List.mem_cons_of_mem _ (List.mem_cons_of_mem _ (List.mem_cons_of_mem _ (List.mem_cons_of_mem _ (List.mem_cons_of_mem _ (List.mem_cons_of_mem _ (List.mem_cons_of_mem _ (List.mem_cons_self ..))))))))))), h11⟩

section
variable {P : Program} {w : World} {K : PySem.W.Frag} {mg : Str → Option Value} {base : Heap}
theorem all_law {f : Addr} {fd : FuncData} (T : Txt K mg) (D : Dk P w K mg) (F : Fun K "law" "law" s_law f fd) : FnOk P w K mg base CX0 150 f fd ["_law_script"] (sp_law K) := by
  have g1 := ok_made_of (P := P) (w := w) (base := base) T
  have g2 := ok_is_name T g1
  have g3 := ok_is_number T g1
  have ga := ok_Reader_ahead (P := P) (w := w) (base := base) T
  have g4 := ok_Reader_take (P := P) (w := w) (base := base) T ga
  have gc := ok_check_count (P := P) (w := w) (base := base) T
  have gp := ok_Reader_pass_over T g4
  have gn := ok_Reader_take_name T g4 g2
  have ge := ok_expr T D ga g4 gp gn g2 g3 gc 24
  have g5 := ok_read T (ok_words_of T) (ok_Reader___init__ T) ga gp gn ge gc (ok_Program___init__ T)
  exact ok_law T F g5
end
end K05.Internal
noncomputable def PySem.W.Fast.tw7385904425729124109 : Nat := 0
noncomputable def PySem.W.Fast.tw3612568149034326933 : Nat := 0
noncomputable def PySem.W.Fast.tw7787290766624630794 : Nat := 0
noncomputable def PySem.W.Fast.tw645882724381900296 : Nat := 0
noncomputable def PySem.W.Fast.tw15438861193301791143 : Nat := 0
noncomputable def PySem.W.Fast.tw3603626201814895569 : Nat := 0
noncomputable def PySem.W.Fast.tw514977845549697688 : Nat := 0
noncomputable def PySem.W.Fast.tw15376943601217731644 : Nat := 0
noncomputable def PySem.W.Fast.tw2477766958070421312 : Nat := 0
noncomputable def PySem.W.Fast.tw3495341917134364827 : Nat := 0
noncomputable def PySem.W.Fast.tw13989442958920533821 : Nat := 0
noncomputable def PySem.W.Fast.tw14517725188470602042 : Nat := 0
noncomputable def PySem.W.Fast.tw742608400685454465 : Nat := 0
noncomputable def PySem.W.Fast.tw969232066950735258 : Nat := 0
noncomputable def PySem.W.Fast.tw11862468930393409054 : Nat := 0
noncomputable def PySem.W.Fast.tw13115347408106550702 : Nat := 0
noncomputable def PySem.W.Fast.tw8121593821487624910 : Nat := 0
namespace K05.Internal
open PySem L2.Internal
theorem all_mk {l : PySem.W.OpenLaw} {w : World} {K : PySem.W.Frag} {h : Heap} {mg : Str → Option Value} {fa fL : Addr} (X : K.In h) (G : h.Ns mainGlobals mg) (hfa : mg "law" = some (.ref fa))
    {u1 : Tok} {u2 : Tok} {p3 : Addr} {w3_0 w3_1 w3_2 w3_3 w3_4 w3_5 w3_6 w3_7 w3_8 w3_9 w3_10 w3_11 w3_12 w3_13 w3_14 : Tok} {od3 : Option Addr} {n3 : Nat} {sl3 : Array (Option Value)} {u4 : Tok} {u5 : Tok} {u6 : Tok} {u7 : Tok} {u8 : Tok} {u9 : Tok} {u10 : Tok} {u11 : Tok} {f12 : Addr} {od12 an12 : Option Addr} {sl12 : Array (Option Value)} {oc12 kV12 dc12 pm12 cd12 ct12 : Value} {f13 : Addr} {od13 an13 : Option Addr} {sl13 : Array (Option Value)} {oc13 kV13 dc13 pm13 cd13 ct13 : Value} {f14 : Addr} {od14 an14 : Option Addr} {sl14 : Array (Option Value)} {oc14 kV14 dc14 pm14 cd14 ct14 : Value} {f15 : Addr} {od15 an15 : Option Addr} {sl15 : Array (Option Value)} {oc15 kV15 dc15 pm15 cd15 ct15 : Value} {f16 : Addr} {od16 an16 : Option Addr} {sl16 : Array (Option Value)} {oc16 kV16 dc16 pm16 cd16 ct16 : Value} {f17 : Addr} {od17 an17 : Option Addr} {sl17 : Array (Option Value)} {oc17 kV17 dc17 pm17 cd17 ct17 : Value} {f18 : Addr} {od18 an18 : Option Addr} {sl18 : Array (Option Value)} {oc18 kV18 dc18 pm18 cd18 ct18 : Value} {f19 : Addr} {od19 an19 : Option Addr} {sl19 : Array (Option Value)} {oc19 kV19 dc19 pm19 cd19 ct19 : Value} {f20 : Addr} {od20 an20 : Option Addr} {sl20 : Array (Option Value)} {oc20 kV20 dc20 pm20 cd20 ct20 : Value} {f21 : Addr} {od21 an21 : Option Addr} {sl21 : Array (Option Value)} {oc21 kV21 dc21 pm21 cd21 ct21 : Value} {f22 : Addr} {od22 an22 : Option Addr} {sl22 : Array (Option Value)} {oc22 kV22 dc22 pm22 cd22 ct22 : Value} {f23 : Addr} {od23 an23 : Option Addr} {sl23 : Array (Option Value)} {oc23 kV23 dc23 pm23 cd23 ct23 : Value} {f24 : Addr} {od24 an24 : Option Addr} {sl24 : Array (Option Value)} {oc24 kV24 dc24 pm24 cd24 ct24 : Value} {f25 : Addr} {od25 an25 : Option Addr} {sl25 : Array (Option Value)} {oc25 kV25 dc25 pm25 cd25 ct25 : Value} {f26 : Addr} {od26 an26 : Option Addr} {sl26 : Array (Option Value)} {oc26 kV26 dc26 pm26 cd26 ct26 : Value} {f27 : Addr} {od27 an27 : Option Addr} {sl27 : Array (Option Value)} {oc27 kV27 dc27 pm27 cd27 ct27 : Value} {C28 : Addr} {C29 : Addr} {C30 : Addr} {C31 : Addr} {C32 : Addr} {C33 : Addr} {C34 : Addr} {C35 : Addr} {C36 : Addr} {C37 : Addr} {f38 : Addr} {od38 an38 : Option Addr} {sl38 : Array (Option Value)} {oc38 kV38 dc38 pm38 cd38 ct38 : Value} {C39 : Addr} {f40 : Addr} {od40 an40 : Option Addr} {sl40 : Array (Option Value)} {oc40 kV40 dc40 pm40 cd40 ct40 : Value} {f41 : Addr} {od41 an41 : Option Addr} {sl41 : Array (Option Value)} {oc41 kV41 dc41 pm41 cd41 ct41 : Value} {f42 : Addr} {od42 an42 : Option Addr} {sl42 : Array (Option Value)} {oc42 kV42 dc42 pm42 cd42 ct42 : Value} {f43 : Addr} {od43 an43 : Option Addr} {sl43 : Array (Option Value)} {oc43 kV43 dc43 pm43 cd43 ct43 : Value} {f44 : Addr} {od44 an44 : Option Addr} {sl44 : Array (Option Value)} {oc44 kV44 dc44 pm44 cd44 ct44 : Value} {f45 : Addr} {od45 an45 : Option Addr} {sl45 : Array (Option Value)} {oc45 kV45 dc45 pm45 cd45 ct45 : Value} {f46 : Addr} {od46 an46 : Option Addr} {sl46 : Array (Option Value)} {oc46 kV46 dc46 pm46 cd46 ct46 : Value} {f47 : Addr} {od47 an47 : Option Addr} {sl47 : Array (Option Value)} {oc47 kV47 dc47 pm47 cd47 ct47 : Value} {f48 : Addr} {od48 an48 : Option Addr} {sl48 : Array (Option Value)} {oc48 kV48 dc48 pm48 cd48 ct48 : Value} {f49 : Addr} {od49 an49 : Option Addr} {sl49 : Array (Option Value)} {oc49 kV49 dc49 pm49 cd49 ct49 : Value} {f50 : Addr} {od50 an50 : Option Addr} {sl50 : Array (Option Value)} {oc50 kV50 dc50 pm50 cd50 ct50 : Value} {f51 : Addr} {od51 an51 : Option Addr} {sl51 : Array (Option Value)} {oc51 kV51 dc51 pm51 cd51 ct51 : Value}
    {pD : Addr} {nD : Nat} {tD1 tD2 tD3 tD4 tD5 tD6 tD7 tD8 tD9 tD10 tD11 : Tok} {qD1 qD2 qD3 qD4 qD5 qD6 qD7 qD8 qD9 qD10 qD11 : Addr} {odD1 : Option Addr} {nD1 : Nat} {slD1 : Array (Option Value)} {uD1_0 uD1_1 : Tok} {odD2 : Option Addr} {nD2 : Nat} {slD2 : Array (Option Value)} {uD2_0 uD2_1 : Tok} {odD3 : Option Addr} {nD3 : Nat} {slD3 : Array (Option Value)} {uD3_0 uD3_1 uD3_2 : Tok} {odD4 : Option Addr} {nD4 : Nat} {slD4 : Array (Option Value)} {uD4_0 uD4_1 : Tok} {odD5 : Option Addr} {nD5 : Nat} {slD5 : Array (Option Value)} {uD5_0 uD5_1 : Tok} {odD6 : Option Addr} {nD6 : Nat} {slD6 : Array (Option Value)} {uD6_0 uD6_1 uD6_2 : Tok} {odD7 : Option Addr} {nD7 : Nat} {slD7 : Array (Option Value)} {uD7_0 uD7_1 : Tok} {odD8 : Option Addr} {nD8 : Nat} {slD8 : Array (Option Value)} {uD8_0 : Tok} {odD9 : Option Addr} {nD9 : Nat} {slD9 : Array (Option Value)} {uD9_0 uD9_1 : Tok} {odD10 : Option Addr} {nD10 : Nat} {slD10 : Array (Option Value)} {uD10_0 uD10_1 : Tok} {odD11 : Option Addr} {nD11 : Nat} {slD11 : Array (Option Value)} {uD11_0 uD11_1 : Tok}
    {odL anL : Option Addr} {slL : Array (Option Value)} {ocL kVL dcL pmL cdL ctL : Value}
    (g1 : PySem.W.nsIn K mainGlobals "LETTERS" = some (some (.str "abcdefghijklmnopqrstuvwxyz" u1)))
    (g2 : PySem.W.nsIn K mainGlobals "FIGURES" = some (some (.str "0123456789" u2)))
    (g3 : PySem.W.nsIn K mainGlobals "KEPT_WORDS" = some (some (.ref p3)))
    (h3 : K.lookup p3 = some ⟨.type "tuple", od3, .seq #[.str "def" w3_0, .str "fn" w3_1, .str "call" w3_2, .str "let" w3_3, .str "rec" w3_4, .str "get" w3_5, .str "tag" w3_6, .str "case" w3_7, .str "row" w3_8, .str "at" w3_9, .str "join" w3_10, .str "size" w3_11, .str "add" w3_12, .str "sub" w3_13, .str "less" w3_14] n3, sl3⟩)
    (g4 : PySem.W.nsIn K mainGlobals "MOST_FIGURES" = some (some (.int 60 u4)))
    (g5 : PySem.W.nsIn K mainGlobals "MOST_SIGNS" = some (some (.int 12 u5)))
    (g6 : PySem.W.nsIn K mainGlobals "MOST_DEFINITIONS" = some (some (.int 12 u6)))
    (g7 : PySem.W.nsIn K mainGlobals "MOST_FIELDS" = some (some (.int 6 u7)))
    (g8 : PySem.W.nsIn K mainGlobals "MOST_ARMS" = some (some (.int 6 u8)))
    (g9 : PySem.W.nsIn K mainGlobals "MOST_THINGS" = some (some (.int 8 u9)))
    (g10 : PySem.W.nsIn K mainGlobals "MOST_PLACES" = some (some (.int 160 u10)))
    (g11 : PySem.W.nsIn K mainGlobals "MOST_NEST" = some (some (.int 24 u11)))
    (a12 : PySem.W.nsIn K mainGlobals "words_of" = some (some (.ref f12)))
    (l12 : K.lookup f12 = some ⟨oc12, od12, .func (PySem.W.fnOf "words_of" "words_of" (defArgs s_words_of) (defBody s_words_of) (defScope s_words_of) .none kV12 dc12 pm12 an12 cd12 ct12), sl12⟩)
    (c12 : PySem.W.codeIn K cd12 "words_of" = true)
    (k12 : PySem.W.keepIn K (.ref f12) = true)
    (a13 : PySem.W.nsIn K mainGlobals "is_name" = some (some (.ref f13)))
    (l13 : K.lookup f13 = some ⟨oc13, od13, .func (PySem.W.fnOf "is_name" "is_name" (defArgs s_is_name) (defBody s_is_name) (defScope s_is_name) .none kV13 dc13 pm13 an13 cd13 ct13), sl13⟩)
    (c13 : PySem.W.codeIn K cd13 "is_name" = true)
    (k13 : PySem.W.keepIn K (.ref f13) = true)
    (a14 : PySem.W.nsIn K mainGlobals "is_number" = some (some (.ref f14)))
    (l14 : K.lookup f14 = some ⟨oc14, od14, .func (PySem.W.fnOf "is_number" "is_number" (defArgs s_is_number) (defBody s_is_number) (defScope s_is_number) .none kV14 dc14 pm14 an14 cd14 ct14), sl14⟩)
    (c14 : PySem.W.codeIn K cd14 "is_number" = true)
    (k14 : PySem.W.keepIn K (.ref f14) = true)
    (a15 : PySem.W.nsIn K mainGlobals "made_of" = some (some (.ref f15)))
    (l15 : K.lookup f15 = some ⟨oc15, od15, .func (PySem.W.fnOf "made_of" "made_of" (defArgs s_made_of) (defBody s_made_of) (defScope s_made_of) .none kV15 dc15 pm15 an15 cd15 ct15), sl15⟩)
    (c15 : PySem.W.codeIn K cd15 "made_of" = true)
    (k15 : PySem.W.keepIn K (.ref f15) = true)
    (a16 : PySem.W.nsIn K mainGlobals "read" = some (some (.ref f16)))
    (l16 : K.lookup f16 = some ⟨oc16, od16, .func (PySem.W.fnOf "read" "read" (defArgs s_read) (defBody s_read) (defScope s_read) .none kV16 dc16 pm16 an16 cd16 ct16), sl16⟩)
    (c16 : PySem.W.codeIn K cd16 "read" = true)
    (k16 : PySem.W.keepIn K (.ref f16) = true)
    (a17 : PySem.W.nsIn K mainGlobals "check_count" = some (some (.ref f17)))
    (l17 : K.lookup f17 = some ⟨oc17, od17, .func (PySem.W.fnOf "check_count" "check_count" (defArgs s_check_count) (defBody s_check_count) (defScope s_check_count) .none kV17 dc17 pm17 an17 cd17 ct17), sl17⟩)
    (c17 : PySem.W.codeIn K cd17 "check_count" = true)
    (k17 : PySem.W.keepIn K (.ref f17) = true)
    (a18 : PySem.W.nsIn K mainGlobals "_law_name" = some (some (.ref f18)))
    (l18 : K.lookup f18 = some ⟨oc18, od18, .func (PySem.W.fnOf "_law_name" "_law_name" (defArgs s__law_name) (defBody s__law_name) (defScope s__law_name) .none kV18 dc18 pm18 an18 cd18 ct18), sl18⟩)
    (c18 : PySem.W.codeIn K cd18 "_law_name" = true)
    (k18 : PySem.W.keepIn K (.ref f18) = true)
    (a19 : PySem.W.nsIn K mainGlobals "_law_pop" = some (some (.ref f19)))
    (l19 : K.lookup f19 = some ⟨oc19, od19, .func (PySem.W.fnOf "_law_pop" "_law_pop" (defArgs s__law_pop) (defBody s__law_pop) (defScope s__law_pop) .none kV19 dc19 pm19 an19 cd19 ct19), sl19⟩)
    (c19 : PySem.W.codeIn K cd19 "_law_pop" = true)
    (k19 : PySem.W.keepIn K (.ref f19) = true)
    (a20 : PySem.W.nsIn K mainGlobals "_law_many" = some (some (.ref f20)))
    (l20 : K.lookup f20 = some ⟨oc20, od20, .func (PySem.W.fnOf "_law_many" "_law_many" (defArgs s__law_many) (defBody s__law_many) (defScope s__law_many) .none kV20 dc20 pm20 an20 cd20 ct20), sl20⟩)
    (c20 : PySem.W.codeIn K cd20 "_law_many" = true)
    (k20 : PySem.W.keepIn K (.ref f20) = true)
    (a21 : PySem.W.nsIn K mainGlobals "_law_tree" = some (some (.ref f21)))
    (l21 : K.lookup f21 = some ⟨oc21, od21, .func (PySem.W.fnOf "_law_tree" "_law_tree" (defArgs s__law_tree) (defBody s__law_tree) (defScope s__law_tree) .none kV21 dc21 pm21 an21 cd21 ct21), sl21⟩)
    (c21 : PySem.W.codeIn K cd21 "_law_tree" = true)
    (k21 : PySem.W.keepIn K (.ref f21) = true)
    (a22 : PySem.W.nsIn K mainGlobals "_law_item" = some (some (.ref f22)))
    (l22 : K.lookup f22 = some ⟨oc22, od22, .func (PySem.W.fnOf "_law_item" "_law_item" (defArgs s__law_item) (defBody s__law_item) (defScope s__law_item) .none kV22 dc22 pm22 an22 cd22 ct22), sl22⟩)
    (c22 : PySem.W.codeIn K cd22 "_law_item" = true)
    (k22 : PySem.W.keepIn K (.ref f22) = true)
    (a23 : PySem.W.nsIn K mainGlobals "_law_trees" = some (some (.ref f23)))
    (l23 : K.lookup f23 = some ⟨oc23, od23, .func (PySem.W.fnOf "_law_trees" "_law_trees" (defArgs s__law_trees) (defBody s__law_trees) (defScope s__law_trees) .none kV23 dc23 pm23 an23 cd23 ct23), sl23⟩)
    (c23 : PySem.W.codeIn K cd23 "_law_trees" = true)
    (k23 : PySem.W.keepIn K (.ref f23) = true)
    (a24 : PySem.W.nsIn K mainGlobals "_law_words" = some (some (.ref f24)))
    (l24 : K.lookup f24 = some ⟨oc24, od24, .func (PySem.W.fnOf "_law_words" "_law_words" (defArgs s__law_words) (defBody s__law_words) (defScope s__law_words) .none kV24 dc24 pm24 an24 cd24 ct24), sl24⟩)
    (c24 : PySem.W.codeIn K cd24 "_law_words" = true)
    (k24 : PySem.W.keepIn K (.ref f24) = true)
    (a25 : PySem.W.nsIn K mainGlobals "_law_odd" = some (some (.ref f25)))
    (l25 : K.lookup f25 = some ⟨oc25, od25, .func (PySem.W.fnOf "_law_odd" "_law_odd" (defArgs s__law_odd) (defBody s__law_odd) (defScope s__law_odd) .none kV25 dc25 pm25 an25 cd25 ct25), sl25⟩)
    (c25 : PySem.W.codeIn K cd25 "_law_odd" = true)
    (k25 : PySem.W.keepIn K (.ref f25) = true)
    (a26 : PySem.W.nsIn K mainGlobals "_law_spoilt" = some (some (.ref f26)))
    (l26 : K.lookup f26 = some ⟨oc26, od26, .func (PySem.W.fnOf "_law_spoilt" "_law_spoilt" (defArgs s__law_spoilt) (defBody s__law_spoilt) (defScope s__law_spoilt) .none kV26 dc26 pm26 an26 cd26 ct26), sl26⟩)
    (c26 : PySem.W.codeIn K cd26 "_law_spoilt" = true)
    (k26 : PySem.W.keepIn K (.ref f26) = true)
    (a27 : PySem.W.nsIn K mainGlobals "_law_taken" = some (some (.ref f27)))
    (l27 : K.lookup f27 = some ⟨oc27, od27, .func (PySem.W.fnOf "_law_taken" "_law_taken" (defArgs s__law_taken) (defBody s__law_taken) (defScope s__law_taken) .none kV27 dc27 pm27 an27 cd27 ct27), sl27⟩)
    (c27 : PySem.W.codeIn K cd27 "_law_taken" = true)
    (k27 : PySem.W.keepIn K (.ref f27) = true)
    (a28 : PySem.W.nsIn K mainGlobals "FlowError" = some (some (.ref C28)))
    (x28 : PySem.W.excIn K C28 [.type "ValueError", .type "Exception", .type "BaseException", .type "object"] "ValueError.__new__" = true)
    (a29 : PySem.W.nsIn K mainGlobals "BadText" = some (some (.ref C29)))
    (x29 : PySem.W.excIn K C29 [.type "ValueError", .type "Exception", .type "BaseException", .type "object"] "ValueError.__new__" = true)
    (a30 : PySem.W.nsIn K mainGlobals "Twice" = some (some (.ref C30)))
    (a31 : PySem.W.nsIn K mainGlobals "NoName" = some (some (.ref C31)))
    (a32 : PySem.W.nsIn K mainGlobals "TooHeavy" = some (some (.ref C32)))
    (a33 : PySem.W.nsIn K mainGlobals "BadPaper" = some (some (.ref C33)))
    (x33 : PySem.W.excIn K C33 [.type "ValueError", .type "Exception", .type "BaseException", .type "object"] "ValueError.__new__" = true)
    (a34 : PySem.W.nsIn K mainGlobals "WrongKind" = some (some (.ref C34)))
    (a35 : PySem.W.nsIn K mainGlobals "OutOfTurns" = some (some (.ref C35)))
    (x35 : PySem.W.excIn K C35 [.type "ValueError", .type "Exception", .type "BaseException", .type "object"] "ValueError.__new__" = true)
    (a36 : PySem.W.nsIn K mainGlobals "RowFull" = some (some (.ref C36)))
    (x36 : PySem.W.excIn K C36 [.type "ValueError", .type "Exception", .type "BaseException", .type "object"] "ValueError.__new__" = true)
    (a37 : PySem.W.nsIn K mainGlobals "Program" = some (some (.ref C37)))
    (pg37 : PySem.W.plainGet K C37 Str.empty = true)
    (hd37 : PySem.W.hasDictIn K C37 = true)
    (po37 : PySem.W.plainOver K C37 = true)
    (sa37 : PySem.W.findIn K (.ref C37) "__setattr__" = some (some (.builtin "object.__setattr__")))
    (t1_37 : PySem.W.findIn K (.ref C37) "__class__" = some (some (.builtin "object.__class__")))
    (t2_37 : PySem.W.specialIn K (.builtin "object.__class__") "__get__" = some (some (.builtin "getset_descriptor.__get__")))
    (t3_37 : PySem.W.takesIn K (.builtin "object.__class__") = some true)
    (t4_37 : PySem.W.mroIn K C37 (.type "object") = some true)
    (n37_names : PySem.W.findIn K (.ref C37) "names" = some none)
    (n37_roots : PySem.W.findIn K (.ref C37) "roots" = some none)
    (n37_rows : PySem.W.findIn K (.ref C37) "rows" = some none)
    (i38 : PySem.W.findIn K (.ref C37) "__init__" = some (some (.ref f38)))
    (j38 : PySem.W.isFn K (.ref f38) = true)
    (l38 : K.lookup f38 = some ⟨oc38, od38, .func (PySem.W.fnOf "__init__" "Program.__init__" (defArgs s_Program___init__) (defBody s_Program___init__) (defScope s_Program___init__) .none kV38 dc38 pm38 an38 cd38 ct38), sl38⟩)
    (c38 : PySem.W.codeIn K cd38 "Program.__init__" = true)
    (k38 : PySem.W.keepIn K (.ref f38) = true)
    (mk37 : PySem.W.makesIn K C37 = true)
    (kc37 : PySem.W.keepIn K (.ref C37) = true)
    (a39 : PySem.W.nsIn K mainGlobals "Reader" = some (some (.ref C39)))
    (pg39 : PySem.W.plainGet K C39 Str.empty = true)
    (hd39 : PySem.W.hasDictIn K C39 = true)
    (po39 : PySem.W.plainOver K C39 = true)
    (sa39 : PySem.W.findIn K (.ref C39) "__setattr__" = some (some (.builtin "object.__setattr__")))
    (t1_39 : PySem.W.findIn K (.ref C39) "__class__" = some (some (.builtin "object.__class__")))
    (t2_39 : PySem.W.specialIn K (.builtin "object.__class__") "__get__" = some (some (.builtin "getset_descriptor.__get__")))
    (t3_39 : PySem.W.takesIn K (.builtin "object.__class__") = some true)
    (t4_39 : PySem.W.mroIn K C39 (.type "object") = some true)
    (n39_words : PySem.W.findIn K (.ref C39) "words" = some none)
    (n39_taken : PySem.W.findIn K (.ref C39) "taken" = some none)
    (n39_rows : PySem.W.findIn K (.ref C39) "rows" = some none)
    (i40 : PySem.W.findIn K (.ref C39) "__init__" = some (some (.ref f40)))
    (j40 : PySem.W.isFn K (.ref f40) = true)
    (l40 : K.lookup f40 = some ⟨oc40, od40, .func (PySem.W.fnOf "__init__" "Reader.__init__" (defArgs s_Reader___init__) (defBody s_Reader___init__) (defScope s_Reader___init__) .none kV40 dc40 pm40 an40 cd40 ct40), sl40⟩)
    (c40 : PySem.W.codeIn K cd40 "Reader.__init__" = true)
    (k40 : PySem.W.keepIn K (.ref f40) = true)
    (mk39 : PySem.W.makesIn K C39 = true)
    (kc39 : PySem.W.keepIn K (.ref C39) = true)
    (i41 : PySem.W.findIn K (.ref C39) "ahead" = some (some (.ref f41)))
    (j41 : PySem.W.isFn K (.ref f41) = true)
    (l41 : K.lookup f41 = some ⟨oc41, od41, .func (PySem.W.fnOf "ahead" "Reader.ahead" (defArgs s_Reader_ahead) (defBody s_Reader_ahead) (defScope s_Reader_ahead) .none kV41 dc41 pm41 an41 cd41 ct41), sl41⟩)
    (c41 : PySem.W.codeIn K cd41 "Reader.ahead" = true)
    (k41 : PySem.W.keepIn K (.ref f41) = true)
    (i42 : PySem.W.findIn K (.ref C39) "take" = some (some (.ref f42)))
    (j42 : PySem.W.isFn K (.ref f42) = true)
    (l42 : K.lookup f42 = some ⟨oc42, od42, .func (PySem.W.fnOf "take" "Reader.take" (defArgs s_Reader_take) (defBody s_Reader_take) (defScope s_Reader_take) .none kV42 dc42 pm42 an42 cd42 ct42), sl42⟩)
    (c42 : PySem.W.codeIn K cd42 "Reader.take" = true)
    (k42 : PySem.W.keepIn K (.ref f42) = true)
    (i43 : PySem.W.findIn K (.ref C39) "pass_over" = some (some (.ref f43)))
    (j43 : PySem.W.isFn K (.ref f43) = true)
    (l43 : K.lookup f43 = some ⟨oc43, od43, .func (PySem.W.fnOf "pass_over" "Reader.pass_over" (defArgs s_Reader_pass_over) (defBody s_Reader_pass_over) (defScope s_Reader_pass_over) .none kV43 dc43 pm43 an43 cd43 ct43), sl43⟩)
    (c43 : PySem.W.codeIn K cd43 "Reader.pass_over" = true)
    (k43 : PySem.W.keepIn K (.ref f43) = true)
    (i44 : PySem.W.findIn K (.ref C39) "take_name" = some (some (.ref f44)))
    (j44 : PySem.W.isFn K (.ref f44) = true)
    (l44 : K.lookup f44 = some ⟨oc44, od44, .func (PySem.W.fnOf "take_name" "Reader.take_name" (defArgs s_Reader_take_name) (defBody s_Reader_take_name) (defScope s_Reader_take_name) .none kV44 dc44 pm44 an44 cd44 ct44), sl44⟩)
    (c44 : PySem.W.codeIn K cd44 "Reader.take_name" = true)
    (k44 : PySem.W.keepIn K (.ref f44) = true)
    (i45 : PySem.W.findIn K (.ref C39) "take_expr" = some (some (.ref f45)))
    (j45 : PySem.W.isFn K (.ref f45) = true)
    (l45 : K.lookup f45 = some ⟨oc45, od45, .func (PySem.W.fnOf "take_expr" "Reader.take_expr" (defArgs s_Reader_take_expr) (defBody s_Reader_take_expr) (defScope s_Reader_take_expr) .none kV45 dc45 pm45 an45 cd45 ct45), sl45⟩)
    (c45 : PySem.W.codeIn K cd45 "Reader.take_expr" = true)
    (k45 : PySem.W.keepIn K (.ref f45) = true)
    (i46 : PySem.W.findIn K (.ref C39) "take_row" = some (some (.ref f46)))
    (j46 : PySem.W.isFn K (.ref f46) = true)
    (l46 : K.lookup f46 = some ⟨oc46, od46, .func (PySem.W.fnOf "take_row" "Reader.take_row" (defArgs s_Reader_take_row) (defBody s_Reader_take_row) (defScope s_Reader_take_row) .none kV46 dc46 pm46 an46 cd46 ct46), sl46⟩)
    (c46 : PySem.W.codeIn K cd46 "Reader.take_row" = true)
    (k46 : PySem.W.keepIn K (.ref f46) = true)
    (i47 : PySem.W.findIn K (.ref C39) "take_form" = some (some (.ref f47)))
    (j47 : PySem.W.isFn K (.ref f47) = true)
    (l47 : K.lookup f47 = some ⟨oc47, od47, .func (PySem.W.fnOf "take_form" "Reader.take_form" (defArgs s_Reader_take_form) (defBody s_Reader_take_form) (defScope s_Reader_take_form) .none kV47 dc47 pm47 an47 cd47 ct47), sl47⟩)
    (c47 : PySem.W.codeIn K cd47 "Reader.take_form" = true)
    (k47 : PySem.W.keepIn K (.ref f47) = true)
    (i48 : PySem.W.findIn K (.ref C39) "take_steady" = some (some (.ref f48)))
    (j48 : PySem.W.isFn K (.ref f48) = true)
    (l48 : K.lookup f48 = some ⟨oc48, od48, .func (PySem.W.fnOf "take_steady" "Reader.take_steady" (defArgs s_Reader_take_steady) (defBody s_Reader_take_steady) (defScope s_Reader_take_steady) .none kV48 dc48 pm48 an48 cd48 ct48), sl48⟩)
    (c48 : PySem.W.codeIn K cd48 "Reader.take_steady" = true)
    (k48 : PySem.W.keepIn K (.ref f48) = true)
    (i49 : PySem.W.findIn K (.ref C39) "take_fields" = some (some (.ref f49)))
    (j49 : PySem.W.isFn K (.ref f49) = true)
    (l49 : K.lookup f49 = some ⟨oc49, od49, .func (PySem.W.fnOf "take_fields" "Reader.take_fields" (defArgs s_Reader_take_fields) (defBody s_Reader_take_fields) (defScope s_Reader_take_fields) .none kV49 dc49 pm49 an49 cd49 ct49), sl49⟩)
    (c49 : PySem.W.codeIn K cd49 "Reader.take_fields" = true)
    (k49 : PySem.W.keepIn K (.ref f49) = true)
    (i50 : PySem.W.findIn K (.ref C39) "take_arms" = some (some (.ref f50)))
    (j50 : PySem.W.isFn K (.ref f50) = true)
    (l50 : K.lookup f50 = some ⟨oc50, od50, .func (PySem.W.fnOf "take_arms" "Reader.take_arms" (defArgs s_Reader_take_arms) (defBody s_Reader_take_arms) (defScope s_Reader_take_arms) .none kV50 dc50 pm50 an50 cd50 ct50), sl50⟩)
    (c50 : PySem.W.codeIn K cd50 "Reader.take_arms" = true)
    (k50 : PySem.W.keepIn K (.ref f50) = true)
    (i51 : PySem.W.findIn K (.ref C39) "take_things" = some (some (.ref f51)))
    (j51 : PySem.W.isFn K (.ref f51) = true)
    (l51 : K.lookup f51 = some ⟨oc51, od51, .func (PySem.W.fnOf "take_things" "Reader.take_things" (defArgs s_Reader_take_things) (defBody s_Reader_take_things) (defScope s_Reader_take_things) .none kV51 dc51 pm51 an51 cd51 ct51), sl51⟩)
    (c51 : PySem.W.codeIn K cd51 "Reader.take_things" = true)
    (k51 : PySem.W.keepIn K (.ref f51) = true)
    (e_BadText_FlowError : PySem.W.exmOne K (.ref C29) (.ref C28) = some true)
    (xa_BadText : PySem.W.findIn K (.ref C29) "__getattribute__" = some (some (.builtin "BaseException.__getattribute__")))
    (xb_BadText : PySem.W.findIn K (.ref C29) "__getattr__" = some none)
    (xc_BadText : PySem.W.findIn K (.ref C29) "__class__" = some (some (.builtin "object.__class__")))
    (xd_BadText : PySem.W.subIn K (.ref C29) (.type "BaseException") = some true)
    (xe_BadText : PySem.W.subIn K (.ref C29) (.type "object") = some true)
    (xf_BadText : PySem.W.hasDictIn K C29 = true)
    (i_BadText_BadText : PySem.W.kitOne K (.ref C29) (.ref C29) = some true)
    (i_BadText_ValueError : PySem.W.kitOne K (.ref C29) (.type "ValueError") = some true)
    (i_BadText_Twice : PySem.W.kitOne K (.ref C29) (.ref C30) = some false)
    (i_BadText_NoName : PySem.W.kitOne K (.ref C29) (.ref C31) = some false)
    (i_BadText_TooHeavy : PySem.W.kitOne K (.ref C29) (.ref C32) = some false)
    (i_BadText_BadPaper : PySem.W.kitOne K (.ref C29) (.ref C33) = some false)
    (i_BadText_WrongKind : PySem.W.kitOne K (.ref C29) (.ref C34) = some false)
    (i_BadText_OutOfTurns : PySem.W.kitOne K (.ref C29) (.ref C35) = some false)
    (i_BadText_RowFull : PySem.W.kitOne K (.ref C29) (.ref C36) = some false)
    (i_Program_Program : PySem.W.kitOne K (.ref C37) (.ref C37) = some true)
    (z_ValueError : PySem.W.nsIn K mainGlobals "ValueError" = some none)
    (z_all : PySem.W.nsIn K mainGlobals "all" = some none)
    (z_int : PySem.W.nsIn K mainGlobals "int" = some none)
    (z_isinstance : PySem.W.nsIn K mainGlobals "isinstance" = some none)
    (z_len : PySem.W.nsIn K mainGlobals "len" = some none)
    (z_list : PySem.W.nsIn K mainGlobals "list" = some none)
    (z_max : PySem.W.nsIn K mainGlobals "max" = some none)
    (z_range : PySem.W.nsIn K mainGlobals "range" = some none)
    (z_str : PySem.W.nsIn K mainGlobals "str" = some none)
    (z_sum : PySem.W.nsIn K mainGlobals "sum" = some none)
    (z_tuple : PySem.W.nsIn K mainGlobals "tuple" = some none)
    (gD : PySem.W.nsIn K mainGlobals "STEADY_FORMS" = some (some (.ref pD)))
    (sD : (pD == sysModules) = false)
    (hD : K.lookup pD = some ⟨.type "dict", none, .dict #[⟨PyData.keyHash w.params "fn", .str "fn" tD1, .ref qD1⟩, ⟨PyData.keyHash w.params "call", .str "call" tD2, .ref qD2⟩, ⟨PyData.keyHash w.params "let", .str "let" tD3, .ref qD3⟩, ⟨PyData.keyHash w.params "get", .str "get" tD4, .ref qD4⟩, ⟨PyData.keyHash w.params "tag", .str "tag" tD5, .ref qD5⟩, ⟨PyData.keyHash w.params "at", .str "at" tD6, .ref qD6⟩, ⟨PyData.keyHash w.params "join", .str "join" tD7, .ref qD7⟩, ⟨PyData.keyHash w.params "size", .str "size" tD8, .ref qD8⟩, ⟨PyData.keyHash w.params "add", .str "add" tD9, .ref qD9⟩, ⟨PyData.keyHash w.params "sub", .str "sub" tD10, .ref qD10⟩, ⟨PyData.keyHash w.params "less", .str "less" tD11, .ref qD11⟩] nD, #[]⟩)
    (hD1 : K.lookup qD1 = some ⟨.type "tuple", odD1, .seq #[.str "name" uD1_0, .str "expr" uD1_1] nD1, slD1⟩)
    (hD2 : K.lookup qD2 = some ⟨.type "tuple", odD2, .seq #[.str "expr" uD2_0, .str "expr" uD2_1] nD2, slD2⟩)
    (hD3 : K.lookup qD3 = some ⟨.type "tuple", odD3, .seq #[.str "name" uD3_0, .str "expr" uD3_1, .str "expr" uD3_2] nD3, slD3⟩)
    (hD4 : K.lookup qD4 = some ⟨.type "tuple", odD4, .seq #[.str "expr" uD4_0, .str "name" uD4_1] nD4, slD4⟩)
    (hD5 : K.lookup qD5 = some ⟨.type "tuple", odD5, .seq #[.str "name" uD5_0, .str "expr" uD5_1] nD5, slD5⟩)
    (hD6 : K.lookup qD6 = some ⟨.type "tuple", odD6, .seq #[.str "expr" uD6_0, .str "expr" uD6_1, .str "expr" uD6_2] nD6, slD6⟩)
    (hD7 : K.lookup qD7 = some ⟨.type "tuple", odD7, .seq #[.str "expr" uD7_0, .str "expr" uD7_1] nD7, slD7⟩)
    (hD8 : K.lookup qD8 = some ⟨.type "tuple", odD8, .seq #[.str "expr" uD8_0] nD8, slD8⟩)
    (hD9 : K.lookup qD9 = some ⟨.type "tuple", odD9, .seq #[.str "expr" uD9_0, .str "expr" uD9_1] nD9, slD9⟩)
    (hD10 : K.lookup qD10 = some ⟨.type "tuple", odD10, .seq #[.str "expr" uD10_0, .str "expr" uD10_1] nD10, slD10⟩)
    (hD11 : K.lookup qD11 = some ⟨.type "tuple", odD11, .seq #[.str "expr" uD11_0, .str "expr" uD11_1] nD11, slD11⟩)
    (aL : PySem.W.nsIn K mainGlobals "law" = some (some (.ref fL))) (lL : K.lookup fL = some ⟨ocL, odL, .func (PySem.W.fnOf "law" "law" (defArgs s_law) (defBody s_law) (defScope s_law) .none kVL dcL pmL anL cdL ctL), slL⟩) (cL : PySem.W.codeIn K cdL "law" = true) (kL : PySem.W.keepIn K (.ref fL) = true) :
    ∃ fd : FuncData, (∀ (s : Shared) (v : Value), BindsTo s fd ⟨[v], []⟩ [("_law_script", v)]) ∧ ∀ base : Heap, K.In base → base.Ns mainGlobals mg → FnOk l.prog w K mg base CX0 150 fa fd ["_law_script"] (sp_law K) := by
  have e := hfa.symm.trans (PySem.W.mg_of X G aL)
  cases e
  have T : Txt K mg := ⟨u1, PySem.W.mg_of X G g1,
    u2, PySem.W.mg_of X G g2,
    p3, PySem.W.mg_of X G g3, fun _ => .inr ⟨_, _, _, h3, rfl, rfl, (by show 15 ≤ sizeLine; decide), (.cons ⟨_, rfl⟩ (.cons ⟨_, rfl⟩ (.cons ⟨_, rfl⟩ (.cons ⟨_, rfl⟩ (.cons ⟨_, rfl⟩ (.cons ⟨_, rfl⟩ (.cons ⟨_, rfl⟩ (.cons ⟨_, rfl⟩ (.cons ⟨_, rfl⟩ (.cons ⟨_, rfl⟩ (.cons ⟨_, rfl⟩ (.cons ⟨_, rfl⟩ (.cons ⟨_, rfl⟩ (.cons ⟨_, rfl⟩ (.cons ⟨_, rfl⟩ .nil)))))))))))))))⟩,
    u4, PySem.W.mg_of X G g4,
    u5, PySem.W.mg_of X G g5,
    u6, PySem.W.mg_of X G g6,
    u7, PySem.W.mg_of X G g7,
    u8, PySem.W.mg_of X G g8,
    u9, PySem.W.mg_of X G g9,
    u10, PySem.W.mg_of X G g10,
    u11, PySem.W.mg_of X G g11,
    f12, _, fun_mk (st := s_words_of) l12 c12 k12, (fun_mk (st := s_words_of) l12 c12 k12).binds (ps := ["text"]) (fun _ _ _ _ _ _ => lS (fun _ => l0 rfl)), PySem.W.mg_of X G a12, k12,
    f13, _, fun_mk (st := s_is_name) l13 c13 k13, (fun_mk (st := s_is_name) l13 c13 k13).binds (ps := ["word"]) (fun _ _ _ _ _ _ => lS (fun _ => l0 rfl)), PySem.W.mg_of X G a13, k13,
    f14, _, fun_mk (st := s_is_number) l14 c14 k14, (fun_mk (st := s_is_number) l14 c14 k14).binds (ps := ["word"]) (fun _ _ _ _ _ _ => lS (fun _ => l0 rfl)), PySem.W.mg_of X G a14, k14,
    f15, _, fun_mk (st := s_made_of) l15 c15 k15, (fun_mk (st := s_made_of) l15 c15 k15).binds (ps := ["word", "signs"]) (fun _ _ _ _ _ _ => lS (fun _ => lS (fun _ => l0 rfl))), PySem.W.mg_of X G a15, k15,
    f16, _, fun_mk (st := s_read) l16 c16 k16, (fun_mk (st := s_read) l16 c16 k16).binds (ps := ["text"]) (fun _ _ _ _ _ _ => lS (fun _ => l0 rfl)), PySem.W.mg_of X G a16, k16,
    f17, _, fun_mk (st := s_check_count) l17 c17 k17, (fun_mk (st := s_check_count) l17 c17 k17).binds (ps := ["what", "count", "least", "most"]) (fun _ _ _ _ _ _ => lS (fun _ => lS (fun _ => lS (fun _ => lS (fun _ => l0 rfl))))), PySem.W.mg_of X G a17, k17,
    f18, _, fun_mk (st := s__law_name) l18 c18 k18, (fun_mk (st := s__law_name) l18 c18 k18).binds (ps := ["_law_cell"]) (fun _ _ _ _ _ _ => lS (fun _ => l0 rfl)), PySem.W.mg_of X G a18, k18,
    f19, _, fun_mk (st := s__law_pop) l19 c19 k19, (fun_mk (st := s__law_pop) l19 c19 k19).binds (ps := ["_law_stack"]) (fun _ _ _ _ _ _ => lS (fun _ => l0 rfl)), PySem.W.mg_of X G a19, k19,
    f20, _, fun_mk (st := s__law_many) l20 c20 k20, (fun_mk (st := s__law_many) l20 c20 k20).binds (ps := ["_law_stack", "_law_many_here"]) (fun _ _ _ _ _ _ => lS (fun _ => lS (fun _ => l0 rfl))), PySem.W.mg_of X G a20, k20,
    f21, _, fun_mk (st := s__law_tree) l21 c21 k21, (fun_mk (st := s__law_tree) l21 c21 k21).binds (ps := ["_law_op", "_law_arg", "_law_parts"]) (fun _ _ _ _ _ _ => lS (fun _ => lS (fun _ => lS (fun _ => l0 rfl)))), PySem.W.mg_of X G a21, k21,
    f22, _, fun_mk (st := s__law_item) l22 c22 k22, (fun_mk (st := s__law_item) l22 c22 k22).binds (ps := ["_law_op", "_law_arg", "_law_stack"]) (fun _ _ _ _ _ _ => lS (fun _ => lS (fun _ => lS (fun _ => l0 rfl)))), PySem.W.mg_of X G a22, k22,
    f23, _, fun_mk (st := s__law_trees) l23 c23 k23, (fun_mk (st := s__law_trees) l23 c23 k23).binds (ps := ["_law_script"]) (fun _ _ _ _ _ _ => lS (fun _ => l0 rfl)), PySem.W.mg_of X G a23, k23,
    f24, _, fun_mk (st := s__law_words) l24 c24 k24, (fun_mk (st := s__law_words) l24 c24 k24).binds (ps := ["_law_part"]) (fun _ _ _ _ _ _ => lS (fun _ => l0 rfl)), PySem.W.mg_of X G a24, k24,
    f25, _, fun_mk (st := s__law_odd) l25 c25 k25, (fun_mk (st := s__law_odd) l25 c25 k25).binds (ps := ["_law_cell"]) (fun _ _ _ _ _ _ => lS (fun _ => l0 rfl)), PySem.W.mg_of X G a25, k25,
    f26, _, fun_mk (st := s__law_spoilt) l26 c26 k26, (fun_mk (st := s__law_spoilt) l26 c26 k26).binds (ps := ["_law_words_here", "_law_choice", "_law_cell", "_law_kept"]) (fun _ _ _ _ _ _ => lS (fun _ => lS (fun _ => lS (fun _ => lS (fun _ => l0 rfl))))), PySem.W.mg_of X G a26, k26,
    f27, _, fun_mk (st := s__law_taken) l27 c27 k27, (fun_mk (st := s__law_taken) l27 c27 k27).binds (ps := ["_law_text"]) (fun _ _ _ _ _ _ => lS (fun _ => l0 rfl)), PySem.W.mg_of X G a27, k27,
    C28, PySem.W.mg_of X G a28, x28,
    C29, PySem.W.mg_of X G a29, x29,
    C30, PySem.W.mg_of X G a30,
    C31, PySem.W.mg_of X G a31,
    C32, PySem.W.mg_of X G a32,
    C33, PySem.W.mg_of X G a33, x33,
    C34, PySem.W.mg_of X G a34,
    C35, PySem.W.mg_of X G a35, x35,
    C36, PySem.W.mg_of X G a36, x36,
    C37, PySem.W.mg_of X G a37, ⟨pg37, hd37, po37, sa37⟩, fun _ _ _ _ e => .ins e ⟨pg37, hd37, po37, sa37⟩ t1_37 t2_37 t3_37 t4_37, n37_names, n37_roots, n37_rows, f38, _, fun_mk (st := s_Program___init__) l38 c38 k38, (fun_mk (st := s_Program___init__) l38 c38 k38).binds (ps := ["self", "names", "roots", "rows"]) (fun _ _ _ _ _ _ => lS (fun _ => lS (fun _ => lS (fun _ => lS (fun _ => l0 rfl))))), ⟨mk37, i38, j38, kc37⟩,
    C39, PySem.W.mg_of X G a39, ⟨pg39, hd39, po39, sa39⟩, fun _ _ _ _ e => .ins e ⟨pg39, hd39, po39, sa39⟩ t1_39 t2_39 t3_39 t4_39, n39_words, n39_taken, n39_rows, f40, _, fun_mk (st := s_Reader___init__) l40 c40 k40, (fun_mk (st := s_Reader___init__) l40 c40 k40).binds (ps := ["self", "words"]) (fun _ _ _ _ _ _ => lS (fun _ => lS (fun _ => l0 rfl))), ⟨mk39, i40, j40, kc39⟩, f41, _, fun_mk (st := s_Reader_ahead) l41 c41 k41, (fun_mk (st := s_Reader_ahead) l41 c41 k41).binds (ps := ["self"]) (fun _ _ _ _ _ _ => lS (fun _ => l0 rfl)), ⟨i41, j41, k41⟩, f42, _, fun_mk (st := s_Reader_take) l42 c42 k42, (fun_mk (st := s_Reader_take) l42 c42 k42).binds (ps := ["self"]) (fun _ _ _ _ _ _ => lS (fun _ => l0 rfl)), ⟨i42, j42, k42⟩, f43, _, fun_mk (st := s_Reader_pass_over) l43 c43 k43, (fun_mk (st := s_Reader_pass_over) l43 c43 k43).binds (ps := ["self", "wanted"]) (fun _ _ _ _ _ _ => lS (fun _ => lS (fun _ => l0 rfl))), ⟨i43, j43, k43⟩, f44, _, fun_mk (st := s_Reader_take_name) l44 c44 k44, (fun_mk (st := s_Reader_take_name) l44 c44 k44).binds (ps := ["self"]) (fun _ _ _ _ _ _ => lS (fun _ => l0 rfl)), ⟨i44, j44, k44⟩, f45, _, fun_mk (st := s_Reader_take_expr) l45 c45 k45, (fun_mk (st := s_Reader_take_expr) l45 c45 k45).binds (ps := ["self", "depth"]) (fun _ _ _ _ _ _ => lS (fun _ => lS (fun _ => l0 rfl))), ⟨i45, j45, k45⟩, f46, _, fun_mk (st := s_Reader_take_row) l46 c46 k46, (fun_mk (st := s_Reader_take_row) l46 c46 k46).binds (ps := ["self", "depth"]) (fun _ _ _ _ _ _ => lS (fun _ => lS (fun _ => l0 rfl))), ⟨i46, j46, k46⟩, f47, _, fun_mk (st := s_Reader_take_form) l47 c47 k47, (fun_mk (st := s_Reader_take_form) l47 c47 k47).binds (ps := ["self", "head", "depth"]) (fun _ _ _ _ _ _ => lS (fun _ => lS (fun _ => lS (fun _ => l0 rfl)))), ⟨i47, j47, k47⟩, f48, _, fun_mk (st := s_Reader_take_steady) l48 c48 k48, (fun_mk (st := s_Reader_take_steady) l48 c48 k48).binds (ps := ["self", "parts", "depth"]) (fun _ _ _ _ _ _ => lS (fun _ => lS (fun _ => lS (fun _ => l0 rfl)))), ⟨i48, j48, k48⟩, f49, _, fun_mk (st := s_Reader_take_fields) l49 c49 k49, (fun_mk (st := s_Reader_take_fields) l49 c49 k49).binds (ps := ["self", "depth"]) (fun _ _ _ _ _ _ => lS (fun _ => lS (fun _ => l0 rfl))), ⟨i49, j49, k49⟩, f50, _, fun_mk (st := s_Reader_take_arms) l50 c50 k50, (fun_mk (st := s_Reader_take_arms) l50 c50 k50).binds (ps := ["self", "depth"]) (fun _ _ _ _ _ _ => lS (fun _ => lS (fun _ => l0 rfl))), ⟨i50, j50, k50⟩, f51, _, fun_mk (st := s_Reader_take_things) l51 c51 k51, (fun_mk (st := s_Reader_take_things) l51 c51 k51).binds (ps := ["self", "depth"]) (fun _ _ _ _ _ _ => lS (fun _ => lS (fun _ => l0 rfl))), ⟨i51, j51, k51⟩,
    e_BadText_FlowError,
    ⟨xa_BadText, xb_BadText, xc_BadText, xd_BadText, xe_BadText, xf_BadText⟩,
    i_BadText_BadText,
    i_BadText_ValueError,
    i_BadText_Twice,
    i_BadText_NoName,
    i_BadText_TooHeavy,
    i_BadText_BadPaper,
    i_BadText_WrongKind,
    i_BadText_OutOfTurns,
    i_BadText_RowFull,
    i_Program_Program,
    PySem.W.mg_none_of X G z_ValueError,
    PySem.W.mg_none_of X G z_all,
    PySem.W.mg_none_of X G z_int,
    PySem.W.mg_none_of X G z_isinstance,
    PySem.W.mg_none_of X G z_len,
    PySem.W.mg_none_of X G z_list,
    PySem.W.mg_none_of X G z_max,
    PySem.W.mg_none_of X G z_range,
    PySem.W.mg_none_of X G z_str,
    PySem.W.mg_none_of X G z_sum,
    PySem.W.mg_none_of X G z_tuple⟩
  exact ⟨PySem.W.fnOf "law" "law" (defArgs s_law) (defBody s_law) (defScope s_law) .none kVL dcL pmL anL cdL ctL, fun s v => .of_eq rfl, fun base _ _ => all_law T (dk_of (PySem.W.mg_of X G gD) sD hD (fun _ => .inr ⟨_, _, _, hD1, rfl, rfl, (by show 2 ≤ sizeLine; decide), (.cons ⟨_, rfl⟩ (.cons ⟨_, rfl⟩ .nil))⟩) (fun _ => .inr ⟨_, _, _, hD2, rfl, rfl, (by show 2 ≤ sizeLine; decide), (.cons ⟨_, rfl⟩ (.cons ⟨_, rfl⟩ .nil))⟩) (fun _ => .inr ⟨_, _, _, hD3, rfl, rfl, (by show 3 ≤ sizeLine; decide), (.cons ⟨_, rfl⟩ (.cons ⟨_, rfl⟩ (.cons ⟨_, rfl⟩ .nil)))⟩) (fun _ => .inr ⟨_, _, _, hD4, rfl, rfl, (by show 2 ≤ sizeLine; decide), (.cons ⟨_, rfl⟩ (.cons ⟨_, rfl⟩ .nil))⟩) (fun _ => .inr ⟨_, _, _, hD5, rfl, rfl, (by show 2 ≤ sizeLine; decide), (.cons ⟨_, rfl⟩ (.cons ⟨_, rfl⟩ .nil))⟩) (fun _ => .inr ⟨_, _, _, hD6, rfl, rfl, (by show 3 ≤ sizeLine; decide), (.cons ⟨_, rfl⟩ (.cons ⟨_, rfl⟩ (.cons ⟨_, rfl⟩ .nil)))⟩) (fun _ => .inr ⟨_, _, _, hD7, rfl, rfl, (by show 2 ≤ sizeLine; decide), (.cons ⟨_, rfl⟩ (.cons ⟨_, rfl⟩ .nil))⟩) (fun _ => .inr ⟨_, _, _, hD8, rfl, rfl, (by show 1 ≤ sizeLine; decide), (.cons ⟨_, rfl⟩ .nil)⟩) (fun _ => .inr ⟨_, _, _, hD9, rfl, rfl, (by show 2 ≤ sizeLine; decide), (.cons ⟨_, rfl⟩ (.cons ⟨_, rfl⟩ .nil))⟩) (fun _ => .inr ⟨_, _, _, hD10, rfl, rfl, (by show 2 ≤ sizeLine; decide), (.cons ⟨_, rfl⟩ (.cons ⟨_, rfl⟩ .nil))⟩) (fun _ => .inr ⟨_, _, _, hD11, rfl, rfl, (by show 2 ≤ sizeLine; decide), (.cons ⟨_, rfl⟩ (.cons ⟨_, rfl⟩ .nil))⟩)) (fun_mk (st := s_law) lL cL kL)⟩
theorem walk {l : PySem.W.OpenLaw} {q : Program} {loose : List Str} {XP : (Str → Option Value) → Heap → Prop} {YP : World → Heap → Prop} {d : DefRec} {K : Params → PySem.W.Frag} (hn : l.most = some 63) (hdf : d.params.defaults = [])
    (hY : ∀ (w : World) (h : Heap), YP w h → (K w.params).In h)
    (F : ∀ (w : World) (mg : Str → Option Value) (fa : Addr) (h : Heap), (K w.params).In h → h.Ns mainGlobals mg → mg d.name = some (.ref fa) →
      ∃ fd : FuncData, (∀ (s : Shared) (u : Value), BindsTo s fd ⟨[u], []⟩ [("_law_script", u)]) ∧ ∀ base : Heap, (K w.params).In base → base.Ns mainGlobals mg → FnOk l.prog w (K w.params) mg base CX0 150 fa fd ["_law_script"] (sp_law (K w.params))) :
    PySem.W.WalkO q loose XP YP l.row.toRowW d [] (fun f vs => PySem.call f vs) :=
  L2.Internal.walk_of (n := 63) (k := 150) (x := "_law_script") (CX := fun _ => CX0) (sp := fun w => sp_law (K w.params)) hn (by decide) hdf ⟨rfl, by decide, by decide⟩ hY F (fun _ _ a ns hl _ hS => ⟨a, ns, rfl, hS, hl, fun _ => rfl⟩) fun _ _ _ _ _ z => z
end K05.Internal
open PySem PySem.W PyProof.Rows
set_option maxRecDepth 100000 in
set_option maxHeartbeats 0 in
theorem PySem.Challenge.cw_flowkinds_k05_not_programs_holds : PySem.Challenge.rw_flowkinds_k05_not_programs.Holds := by
  w_on; o_law; k_head; (case hw => w_witness2)
  k_fill
  refine K05.Internal.walk (l := PySem.Challenge.rw_flowkinds_k05_not_programs) rfl rfl (fun w h Y => PySem.W.kIn_of Y) ?F
  case F =>
    intro w mg fa h KX G hmg
    refine' K05.Internal.all_mk KX G hmg ?g1 ?g2 ?g3 ?h3 ?g4 ?g5 ?g6 ?g7 ?g8 ?g9 ?g10 ?g11 ?a12 ?l12 ?c12 ?k12 ?a13 ?l13 ?c13 ?k13 ?a14 ?l14 ?c14 ?k14 ?a15 ?l15 ?c15 ?k15 ?a16 ?l16 ?c16 ?k16 ?a17 ?l17 ?c17 ?k17 ?a18 ?l18 ?c18 ?k18 ?a19 ?l19 ?c19 ?k19 ?a20 ?l20 ?c20 ?k20 ?a21 ?l21 ?c21 ?k21 ?a22 ?l22 ?c22 ?k22 ?a23 ?l23 ?c23 ?k23 ?a24 ?l24 ?c24 ?k24 ?a25 ?l25 ?c25 ?k25 ?a26 ?l26 ?c26 ?k26 ?a27 ?l27 ?c27 ?k27 ?a28 ?x28 ?a29 ?x29 ?a30 ?a31 ?a32 ?a33 ?x33 ?a34 ?a35 ?x35 ?a36 ?x36 ?a37 ?pg37 ?hd37 ?po37 ?sa37 ?t1_37 ?t2_37 ?t3_37 ?t4_37 ?n37_names ?n37_roots ?n37_rows ?i38 ?j38 ?l38 ?c38 ?k38 ?mk37 ?kc37 ?a39 ?pg39 ?hd39 ?po39 ?sa39 ?t1_39 ?t2_39 ?t3_39 ?t4_39 ?n39_words ?n39_taken ?n39_rows ?i40 ?j40 ?l40 ?c40 ?k40 ?mk39 ?kc39 ?i41 ?j41 ?l41 ?c41 ?k41 ?i42 ?j42 ?l42 ?c42 ?k42 ?i43 ?j43 ?l43 ?c43 ?k43 ?i44 ?j44 ?l44 ?c44 ?k44 ?i45 ?j45 ?l45 ?c45 ?k45 ?i46 ?j46 ?l46 ?c46 ?k46 ?i47 ?j47 ?l47 ?c47 ?k47 ?i48 ?j48 ?l48 ?c48 ?k48 ?i49 ?j49 ?l49 ?c49 ?k49 ?i50 ?j50 ?l50 ?c50 ?k50 ?i51 ?j51 ?l51 ?c51 ?k51 ?e_BadText_FlowError ?xa_BadText ?xb_BadText ?xc_BadText ?xd_BadText ?xe_BadText ?xf_BadText ?i_BadText_BadText ?i_BadText_ValueError ?i_BadText_Twice ?i_BadText_NoName ?i_BadText_TooHeavy ?i_BadText_BadPaper ?i_BadText_WrongKind ?i_BadText_OutOfTurns ?i_BadText_RowFull ?i_Program_Program ?z_ValueError ?z_all ?z_int ?z_isinstance ?z_len ?z_list ?z_max ?z_range ?z_str ?z_sum ?z_tuple ?gD ?sD ?hD ?hD1 ?hD2 ?hD3 ?hD4 ?hD5 ?hD6 ?hD7 ?hD8 ?hD9 ?hD10 ?hD11 ?aL ?lL ?cL ?kL
    (case g1 => k_is)
    (case g2 => k_is)
    (case g3 => k_is)
    (case h3 => k_is)
    (case g4 => k_is)
    (case g5 => k_is)
    (case g6 => k_is)
    (case g7 => k_is)
    (case g8 => k_is)
    (case g9 => k_is)
    (case g10 => k_is)
    (case g11 => k_is)
    (case a12 => k_is)
    (case l12 => k_is)
    (case c12 => k_is)
    (case k12 => k_is)
    (case a13 => k_is)
    (case l13 => k_is)
    (case c13 => k_is)
    (case k13 => k_is)
    (case a14 => k_is)
    (case l14 => k_is)
    (case c14 => k_is)
    (case k14 => k_is)
    (case a15 => k_is)
    (case l15 => k_is)
    (case c15 => k_is)
    (case k15 => k_is)
    (case a16 => k_is)
    (case l16 => k_is)
    (case c16 => k_is)
    (case k16 => k_is)
    (case a17 => k_is)
    (case l17 => k_is)
    (case c17 => k_is)
    (case k17 => k_is)
    (case a18 => k_is)
    (case l18 => k_is)
    (case c18 => k_is)
    (case k18 => k_is)
    (case a19 => k_is)
    (case l19 => k_is)
    (case c19 => k_is)
    (case k19 => k_is)
    (case a20 => k_is)
    (case l20 => k_is)
    (case c20 => k_is)
    (case k20 => k_is)
    (case a21 => k_is)
    (case l21 => k_is)
    (case c21 => k_is)
    (case k21 => k_is)
    (case a22 => k_is)
    (case l22 => k_is)
    (case c22 => k_is)
    (case k22 => k_is)
    (case a23 => k_is)
    (case l23 => k_is)
    (case c23 => k_is)
    (case k23 => k_is)
    (case a24 => k_is)
    (case l24 => k_is)
    (case c24 => k_is)
    (case k24 => k_is)
    (case a25 => k_is)
    (case l25 => k_is)
    (case c25 => k_is)
    (case k25 => k_is)
    (case a26 => k_is)
    (case l26 => k_is)
    (case c26 => k_is)
    (case k26 => k_is)
    (case a27 => k_is)
    (case l27 => k_is)
    (case c27 => k_is)
    (case k27 => k_is)
    (case a28 => k_is)
    (case x28 => k_exc)
    (case a29 => k_is)
    (case x29 => k_exc)
    (case a30 => k_is)
    (case a31 => k_is)
    (case a32 => k_is)
    (case a33 => k_is)
    (case x33 => k_exc)
    (case a34 => k_is)
    (case a35 => k_is)
    (case x35 => k_exc)
    (case a36 => k_is)
    (case x36 => k_exc)
    (case a37 => k_is)
    (case pg37 => k_is)
    (case hd37 => k_is)
    (case po37 => k_is)
    (case sa37 => k_is)
    (case t1_37 => k_is)
    (case t2_37 => k_is)
    (case t3_37 => k_is)
    (case t4_37 => k_is)
    (case n37_names => k_is)
    (case n37_roots => k_is)
    (case n37_rows => k_is)
    (case i38 => k_is)
    (case j38 => k_is)
    (case l38 => k_is)
    (case c38 => k_is)
    (case k38 => k_is)
    (case mk37 => k_is)
    (case kc37 => k_is)
    (case a39 => k_is)
    (case pg39 => k_is)
    (case hd39 => k_is)
    (case po39 => k_is)
    (case sa39 => k_is)
    (case t1_39 => k_is)
    (case t2_39 => k_is)
    (case t3_39 => k_is)
    (case t4_39 => k_is)
    (case n39_words => k_is)
    (case n39_taken => k_is)
    (case n39_rows => k_is)
    (case i40 => k_is)
    (case j40 => k_is)
    (case l40 => k_is)
    (case c40 => k_is)
    (case k40 => k_is)
    (case mk39 => k_is)
    (case kc39 => k_is)
    (case i41 => k_is)
    (case j41 => k_is)
    (case l41 => k_is)
    (case c41 => k_is)
    (case k41 => k_is)
    (case i42 => k_is)
    (case j42 => k_is)
    (case l42 => k_is)
    (case c42 => k_is)
    (case k42 => k_is)
    (case i43 => k_is)
    (case j43 => k_is)
    (case l43 => k_is)
    (case c43 => k_is)
    (case k43 => k_is)
    (case i44 => k_is)
    (case j44 => k_is)
    (case l44 => k_is)
    (case c44 => k_is)
    (case k44 => k_is)
    (case i45 => k_is)
    (case j45 => k_is)
    (case l45 => k_is)
    (case c45 => k_is)
    (case k45 => k_is)
    (case i46 => k_is)
    (case j46 => k_is)
    (case l46 => k_is)
    (case c46 => k_is)
    (case k46 => k_is)
    (case i47 => k_is)
    (case j47 => k_is)
    (case l47 => k_is)
    (case c47 => k_is)
    (case k47 => k_is)
    (case i48 => k_is)
    (case j48 => k_is)
    (case l48 => k_is)
    (case c48 => k_is)
    (case k48 => k_is)
    (case i49 => k_is)
    (case j49 => k_is)
    (case l49 => k_is)
    (case c49 => k_is)
    (case k49 => k_is)
    (case i50 => k_is)
    (case j50 => k_is)
    (case l50 => k_is)
    (case c50 => k_is)
    (case k50 => k_is)
    (case i51 => k_is)
    (case j51 => k_is)
    (case l51 => k_is)
    (case c51 => k_is)
    (case k51 => k_is)
    (case e_BadText_FlowError => kts_exm)
    (case xa_BadText => k_is)
    (case xb_BadText => k_is)
    (case xc_BadText => k_is)
    (case xd_BadText => k_is)
    (case xe_BadText => k_is)
    (case xf_BadText => k_is)
    (case i_BadText_BadText => kit_is)
    (case i_BadText_ValueError => kit_is)
    (case i_BadText_Twice => kit_is)
    (case i_BadText_NoName => kit_is)
    (case i_BadText_TooHeavy => kit_is)
    (case i_BadText_BadPaper => kit_is)
    (case i_BadText_WrongKind => kit_is)
    (case i_BadText_OutOfTurns => kit_is)
    (case i_BadText_RowFull => kit_is)
    (case i_Program_Program => kit_is)
    (case z_ValueError => k_is)
    (case z_all => k_is)
    (case z_int => k_is)
    (case z_isinstance => k_is)
    (case z_len => k_is)
    (case z_list => k_is)
    (case z_max => k_is)
    (case z_range => k_is)
    (case z_str => k_is)
    (case z_sum => k_is)
    (case z_tuple => k_is)
    (case gD => k_is)
    (case hD => k_is)
    (case sD => rfl)
    (case hD1 => k_is)
    (case hD2 => k_is)
    (case hD3 => k_is)
    (case hD4 => k_is)
    (case hD5 => k_is)
    (case hD6 => k_is)
    (case hD7 => k_is)
    (case hD8 => k_is)
    (case hD9 => k_is)
    (case hD10 => k_is)
    (case hD11 => k_is)
    (case aL => k_is)
    (case lL => k_is)
    (case cL => k_is)
    (case kL => k_is)
