import PyProof.Rows.All
import Wide.All
import OpenK.AllK
import Wide.FinOn
import Lean
import PyProof.EqAt
import PyProof.EqKinds
import PyProof.TupleCall
import PyProof.NeKinds
import PySem.Challenge.RW_flowkinds_k25_a_paper_pasted
set_option Elab.async false
set_option linter.all false
set_option maxRecDepth 100000
set_option maxHeartbeats 4000000
set_option genInjectivity false
set_option genSizeOf false
set_option bootstrap.genMatcherCode false
set_option compiler.extract_closed false
namespace L2.Internal
theorem auR (h : True = True := by rfl) : True := trivial
theorem auD (h : True := by decide) : True := trivial
theorem auI (h : True → True = True := by intro _; rfl) : True := trivial
theorem auL (h : True = True ∨ True := by first | exact .inl rfl | exact .inr rfl | assumption) : True := trivial
open PySem PySem.Spec PyProof.Rows

noncomputable abbrev Key := Sum Int Str
noncomputable def keyIs : Key → Value → Bool
  | .inl k, v => Value.isInt k v
  | .inr x, v => Value.isStrOf x v
noncomputable def keyH (w : World) : Key → Int
  | .inl k => hashInt k
  | .inr x => hashStr w x
theorem keyIs_shape : ∀ {k : Key} {v : Value}, keyIs k v = true → (∃ i t, k = Sum.inl i ∧ v = Value.int i t) ∨ (∃ x t, k = Sum.inr x ∧ v = Value.str x t)
  | .inl i, v, h => by
    obtain ⟨t, e⟩ := Value.isInt_shape (k := i) (v := v) h
    exact .inl ⟨i, t, rfl, e⟩
  | .inr x, v, h => by
    obtain ⟨t, e⟩ := Value.isStrOf_shape (x := x) (v := v) h
    exact .inr ⟨x, t, rfl, e⟩
theorem keyIs_int (i : Int) (t : Tok) : keyIs (.inl i) (.int i t) = true := by simp [keyIs, Value.isInt]
theorem keyIs_str (x : Str) (t : Tok) : keyIs (.inr x) (.str x t) = true := by simp [keyIs, Value.isStrOf]
theorem key_ll (a b : Int) : decide ((Sum.inl a : Key) = Sum.inl b) = (a == b) := by
  by_cases e : a = b
  · subst e; simp
  · have h : ¬ (Sum.inl a : Key) = Sum.inl b := fun q => e (Sum.inl.inj q)
    rw [decide_eq_false h]
    exact (beq_eq_false_iff_ne.mpr e).symm
theorem key_rr (a b : Str) : decide ((Sum.inr a : Key) = Sum.inr b) = decide (a = b) := by
  by_cases e : a = b
  · subst e; simp
  · have h : ¬ (Sum.inr a : Key) = Sum.inr b := fun q => e (Sum.inr.inj q)
    rw [decide_eq_false h, decide_eq_false e]
theorem key_lr (a : Int) (b : Str) : decide ((Sum.inl a : Key) = Sum.inr b) = false := decide_eq_false (fun q => nomatch q)
theorem key_rl (a : Str) (b : Int) : decide ((Sum.inr a : Key) = Sum.inl b) = false := decide_eq_false (fun q => nomatch q)

noncomputable def mixKind (prog : Program) (w : World) : PySem.KeyKind prog w Key where
  is := keyIs
  hash := keyH w
  inj := fun v a b ha hb => by
    rcases keyIs_shape ha with ⟨i, t, rfl, rfl⟩ | ⟨x, t, rfl, rfl⟩
    · rcases keyIs_shape hb with ⟨j, u, rfl, e⟩ | ⟨y, u, rfl, e⟩
      · injection e with e1 _; rw [e1]
      · exact nomatch e
    · rcases keyIs_shape hb with ⟨j, u, rfl, e⟩ | ⟨y, u, rfl, e⟩
      · exact nomatch e
      · injection e with e1 _; rw [e1]
  byValue := fun k v h => by
    rcases keyIs_shape h with ⟨i, t, rfl, rfl⟩ | ⟨x, t, rfl, rfl⟩ <;> rfl
  pyHash := fun hv h => by
    rcases keyIs_shape hv with ⟨i, t, rfl, rfl⟩ | ⟨x, t, rfl, rfl⟩
    · exact wpAny_pyHash_int h
    · exact wpAny_pyHash_str h
  eqBool := fun hu hv h => by
    rcases keyIs_shape hu with ⟨i, t, rfl, rfl⟩ | ⟨x, t, rfl, rfl⟩
    · rcases keyIs_shape hv with ⟨j, u, rfl, rfl⟩ | ⟨y, u, rfl, rfl⟩
      · rw [key_ll] at h; exact wpAny_eqBool_int h
      · rw [key_lr] at h; exact SeqAt.EqAt.int_str i t y u _ _ _ _ h
    · rcases keyIs_shape hv with ⟨j, u, rfl, rfl⟩ | ⟨y, u, rfl, rfl⟩
      · rw [key_rl] at h; exact SeqAt.EqAt.str_int x t j u _ _ _ _ h
      · rw [key_rr] at h; exact wpAny_eqBool_str h
  «strs» := fun k x t v h => by
    rcases keyIs_shape h with ⟨i, u, rfl, e⟩ | ⟨y, u, rfl, e⟩
    · exact nomatch e
    · injection e with e1 _
      subst e1
      cases v <;> rfl

theorem mixKind_int (prog : Program) (w : World) (i : Int) (t : Tok) : (mixKind prog w).is (.inl i) (.int i t) = true := keyIs_int i t
theorem mixKind_str (prog : Program) (w : World) (x : Str) (t : Tok) : (mixKind prog w).is (.inr x) (.str x t) = true := keyIs_str x t
end L2.Internal

namespace L2.Internal
open PySem PySem.Spec PyProof.Rows

set_option genInjectivity true in
inductive V where
  | non | bl (b : Bool) | int (i : Int) | str (x : Str) | byt (b : Array UInt8) | flt (b : UInt64) | ref (a : Addr) | ty (n : String)
  deriving DecidableEq

noncomputable def RelV : V → Value → Prop
  | .non, u => u = Value.none
  | .bl b, u => u = Value.bool b
  | .int i, u => ∃ t, u = Value.int i t
  | .str x, u => ∃ t, u = Value.str x t
  | .byt b, u => ∃ t, u = Value.bytes b t
  | .flt b, u => ∃ t, u = Value.float b t
  | .ref a, u => u = Value.ref a
  | .ty n, u => u = Value.type n

noncomputable abbrev Vals : List V → List Value → Prop := Paired RelV
theorem Vals.length {xs : List V} {us : List Value} (r : Vals xs us) : xs.length = us.length := Paired.length r
theorem Vals.get : ∀ {xs : List V} {us : List Value} {i : Nat} {x : V}, Vals xs us → xs[i]? = some x → ∃ u, us[i]? = some u ∧ RelV x u
  | _, _, _, _, .nil, e => by simp at e
  | _, _, 0, _, .cons r _, e => by simp at e; subst e; exact ⟨_, rfl, r⟩
  | _, _, i + 1, x, .cons _ t, e => by
    obtain ⟨u, h1, h2⟩ := Vals.get (i := i) (x := x) t (by simpa using e)
    exact ⟨u, by simpa using h1, h2⟩
theorem Vals.append : ∀ {xs ys : List V} {us ws : List Value}, Vals xs us → Vals ys ws → Vals (xs ++ ys) (us ++ ws)
  | _, _, _, _, .nil, s => s
  | _, _, _, _, .cons r t, s => .cons r (Vals.append t s)
theorem Vals.take : ∀ {xs : List V} {us : List Value} (n : Nat), Vals xs us → Vals (xs.take n) (us.take n)
  | _, _, 0, _ => .nil
  | _, _, _ + 1, .nil => .nil
  | _, _, n + 1, .cons r t => .cons r (Vals.take n t)
theorem Vals.drop : ∀ {xs : List V} {us : List Value} (n : Nat), Vals xs us → Vals (xs.drop n) (us.drop n)
  | _, _, 0, r => r
  | _, _, _ + 1, .nil => .nil
  | _, _, n + 1, .cons _ t => Vals.drop n t
noncomputable def RelO : Option V → Option Value → Prop
  | some v, some u => RelV v u
  | none, none => True
  | _, _ => False
noncomputable def KV {κ : Type} : List (κ × V) → List (κ × Value) → Prop := Paired fun (p : κ × V) (q : κ × Value) => p.1 = q.1 ∧ RelV p.2 q.2

noncomputable def kV : Key → V
  | .inl i => .int i
  | .inr x => .str x

inductive HO where
  /-- a list -/
  | lst (xs : List V)
  /-- a tuple (never changes) -/
  | tup (xs : List V)
  /-- a dict whose keys are ints and texts; one whose keys are tuples of ints and texts (the empty one is both) -/
  | dK (kvs : List (Key × V)) | dT (kvs : List (List Key × V))
  /-- a set of ints: its members, its size -/
  | set (S : Int → Bool) (n : Nat)
  /-- an instance of the class at C, its dict at dx, its attributes -/
  | ins (C dx : Addr) (fs : List (Str × V))
  /-- the dict of the instance at x -/
  | own (x : Addr)
  /-- the dict of an exception -/
  | xd (fs : List (Str × V))
  /-- a bound method, f of x -/
  | met (f x : Addr)
  /-- a range object lo, lo + 1, .. below hi -/
  | rng (lo hi : Int)
  /-- a thing that is known to the object (the script; a dict while a loop walks it): read, never written while it is so -/
  | frz (o : Obj) (u : HO)
  /-- a code object's table -/
  | tbl (ps : Array Value)
  /-- any other thing, by what is true of its one object (a def of one's own: SetO a S n := HO.ext fun h => ..) -/
  | ext (φ : Heap → Prop)

noncomputable abbrev Hp := Addr → Option HO
noncomputable def Tup0 (h : Heap) (a : Addr) (items : Array Value) : Prop := ∃ o, h.get? a = some o ∧ o.cls = .type "tuple" ∧ ∃ n, o.data = .seq items n ∧ o.dict = none
theorem Tup0.tup {h : Heap} {a : Addr} {items : Array Value} : Tup0 h a items → IsTup h a items
  | ⟨o, h1, h2, n, h3, _⟩ => ⟨o, h1, h2, n, h3⟩
theorem Tup0.lt {h : Heap} {a : Addr} {items : Array Value} (p : Tup0 h a items) : a < h.objs.size := by
  obtain ⟨o, e, _⟩ := p
  exact Heap.lt_size e
theorem Tup0.new (h : Heap) (items : Array Value) : Tup0 (h.push { cls := .type "tuple", data := .seq items }) h.objs.size items := ⟨_, Heap.get?_push_size _ rfl, rfl, _, rfl, rfl⟩
noncomputable def upd (H : Hp) (a : Addr) (o : HO) : Hp := fun b => if b = a then some o else H b
theorem upd_same {H : Hp} {a : Addr} {o : HO} : upd H a o a = some o := by unfold upd; rw [if_pos rfl]
theorem upd_ne {H : Hp} {a b : Addr} {o : HO} (h : b ≠ a) : upd H a o b = H b := by unfold upd; rw [if_neg h]
theorem upd_upd {H : Hp} {a : Addr} {o u : HO} : upd (upd H a o) a u = upd H a u := by
  funext b; unfold upd; split <;> rfl
theorem ne_of {H : Hp} {a b : Addr} {o u : HO} (h : H a = some o) (h' : H b = some u) (d : o ≠ u) : a ≠ b := by
  intro e; subst e; rw [h] at h'; exact d (Option.some.inj h')
theorem ne_of_none {H : Hp} {a b : Addr} {o : HO} (h : H a = some o) (h' : H b = none) : a ≠ b := by
  intro e; subst e; rw [h] at h'; cases h'

section
variable (P : Program) (w : World)
noncomputable def ObjOk (H : Hp) (h : Heap) (a : Addr) : HO → Prop
  | .lst xs => xs.length ≤ sizeLine ∧ ∃ (its : List Value) (n : Nat), Vals xs its ∧ h.get? a = some { cls := .type "list", data := .seq its.toArray n }
  | .tup xs => xs.length ≤ sizeLine ∧ ∃ its : List Value, Vals xs its ∧ Tup0 h a its.toArray
  | .dK kvs => kvs.length ≤ sizeLine ∧ (a == sysModules) = false ∧ ∃ vs, KV kvs vs ∧ h.DictOf (mixKind P w) a vs
  | .dT kvs => kvs.length ≤ sizeLine ∧ (a == sysModules) = false ∧ ∃ xs : List (List Key × Addr × Value),
      Paired (fun (p : List Key × V) (q : List Key × Addr × Value) => p.1 = q.1 ∧ H q.2.1 = some (.tup (p.1.map kV)) ∧ RelV p.2 q.2.2) kvs xs ∧
      ∃ o es ep, h.get? a = some o ∧ o.ExactDict ∧ o.data = .dict es ep ∧ es.toList = xs.map (entryOfKey (tupleKind (mixKind P w))) ∧ (xs.map (·.1)).Nodup
  | .set S n => h.SetOf (intKind P w) a S n
  | .ins C dx fs => H dx = some (.own a) ∧ fs.length ≤ 1000 ∧ dx ≠ a ∧ h.get? a = some (PySem.W.instObj C dx) ∧
      ∃ mA, h.Ns1 dx mA ∧ (∀ f, RelO (fs.lookup f) (mA f)) ∧ PySem.Within mA (fs.map (·.1))
  | .own _ => ∃ o, h.get? a = some o
  | .xd fs => ∃ mA, h.Ns1 a mA ∧ ∀ f, RelO (fs.lookup f) (mA f)
  | .rng lo hi => ∃ t u v, h.get? a = some { cls := .type "range", data := .fields #[.int lo t, .int hi u, .int 1 v] }
  | .frz o u => h.get? a = some o ∧ ObjOk H h a u
  | .tbl ps => h.get? a = some { cls := .none, data := .fields ps }
  | .met f x => h.get? a = some (PySem.W.methodObj (.ref f) (.ref x))
  | .ext φ => φ h ∧ (∃ o, h.get? a = some o) ∧ ∀ h1 h2 : Heap, φ h1 → (∀ o, h1.get? a = some o → h2.get? a = some o) → φ h2
noncomputable def HOk (H : Hp) (h : Heap) : Prop := ∀ a o, H a = some o → ObjOk P w H h a o
end

section
variable {P : Program} {w : World} {H H' : Hp} {h h' : Heap} {a : Addr} {o : HO}
theorem ObjOk.lt (x : ObjOk P w H h a o) : a < h.objs.size := by
  cases o with
  | lst xs => obtain ⟨_, _, _, _, e⟩ := x; exact Heap.lt_size e
  | tup xs => obtain ⟨_, _, _, p⟩ := x; exact p.lt
  | dK kvs => obtain ⟨_, _, _, _, o, _, _, e, _⟩ := x; exact Heap.lt_size e
  | dT kvs => obtain ⟨_, _, _, _, o, _, _, e, _⟩ := x; exact Heap.lt_size e
  | set S n => obtain ⟨o, _, _, _, e, _⟩ := x; exact Heap.lt_size e
  | ins C dx fs => obtain ⟨_, _, _, e, _⟩ := x; exact Heap.lt_size e
  | own y => obtain ⟨_, e⟩ := x; exact Heap.lt_size e
  | xd fs => obtain ⟨_, ⟨_, _, _, e, _⟩, _⟩ := x; exact Heap.lt_size e
  | rng lo hi => obtain ⟨_, _, _, e⟩ := x; exact Heap.lt_size e
  | frz ob u => obtain ⟨e, _⟩ := x; exact Heap.lt_size e
  | tbl ps => exact Heap.lt_size (show h.get? a = some _ from x)
  | met f y => exact Heap.lt_size (show h.get? a = some _ from x)
  | ext φ => obtain ⟨_, ⟨_, e⟩, _⟩ := x; exact Heap.lt_size e
theorem Paired.mapP {α β : Type} {F G : α → β → Prop} : ∀ {l₁ : List α} {l₂ : List β}, Paired F l₁ l₂ → (∀ a b, F a b → G a b) → Paired G l₁ l₂
  | _, _, .nil, _ => .nil
  | _, _, .cons r t, f => .cons (f _ _ r) (Paired.mapP t f)
theorem ObjOk.stay (x : ObjOk P w H h a o) (k : ∀ b u, (b = a ∨ H b = some (.own a)) → h.get? b = some u → h'.get? b = some u)
    (ho : ∀ b, H b = some (.own a) → H' b = some (.own a)) (ht : ∀ b xs, H b = some (.tup xs) → H' b = some (.tup xs)) : ObjOk P w H' h' a o := by
  induction o with
  | lst xs => obtain ⟨z, its, n, r, e⟩ := x; exact ⟨z, its, n, r, k _ _ (.inl rfl) e⟩
  | tup xs => obtain ⟨z, its, r, ob, e, c⟩ := x; exact ⟨z, its, r, ob, k _ _ (.inl rfl) e, c⟩
  | dK kvs => obtain ⟨z, y, vs, r, ob, es, ep, e, c⟩ := x; exact ⟨z, y, vs, r, ob, es, ep, k _ _ (.inl rfl) e, c⟩
  | dT kvs =>
    obtain ⟨z, y, xs, r, ob, es, ep, e, c⟩ := x
    exact ⟨z, y, xs, Paired.mapP r fun p q z => ⟨z.1, ht _ _ z.2.1, z.2.2⟩, ob, es, ep, k _ _ (.inl rfl) e, c⟩
  | set S n => obtain ⟨ob, es, ep, t, e, c⟩ := x; exact ⟨ob, es, ep, t, k _ _ (.inl rfl) e, c⟩
  | ins C dx fs =>
    obtain ⟨d, z, ne, e, mA, ⟨od, es, ep, e2, c⟩, r⟩ := x
    exact ⟨ho _ d, z, ne, k _ _ (.inl rfl) e, mA, ⟨od, es, ep, k _ _ (.inr d) e2, c⟩, r⟩
  | own y => obtain ⟨ob, e⟩ := x; exact ⟨ob, k _ _ (.inl rfl) e⟩
  | xd fs => obtain ⟨mA, ⟨od, es, ep, e, c⟩, r⟩ := x; exact ⟨mA, ⟨od, es, ep, k _ _ (.inl rfl) e, c⟩, r⟩
  | rng lo hi => obtain ⟨t, u, v, e⟩ := x; exact ⟨t, u, v, k _ _ (.inl rfl) e⟩
  | frz ob u ih => obtain ⟨e, q⟩ := x; exact ⟨k _ _ (.inl rfl) e, ih q⟩
  | tbl ps =>
    have e : h.get? a = some { cls := .none, data := .fields ps } := x
    show h'.get? a = some { cls := .none, data := .fields ps }
    exact k a _ (.inl rfl) e
  | met f y =>
    have e : h.get? a = some (PySem.W.methodObj (.ref f) (.ref y)) := x
    show h'.get? a = some (PySem.W.methodObj (.ref f) (.ref y))
    exact k a _ (.inl rfl) e
  | ext φ => obtain ⟨p, ⟨o, e⟩, st⟩ := x; exact ⟨st _ _ p fun o q => k _ _ (.inl rfl) q, ⟨o, k _ _ (.inl rfl) e⟩, st⟩
theorem HOk.lt (x : HOk P w H h) (e : H a = some o) : a < h.objs.size := (x a o e).lt
theorem HOk.fresh (x : HOk P w H h) (e : h.objs.size ≤ a) : H a = none := by
  cases q : H a with
  | none => rfl
  | some u => exact absurd (Nat.lt_of_lt_of_le (x.lt q) e) (Nat.lt_irrefl _)
theorem HOk.kept (x : HOk P w H h) (k : ∀ b u, h.get? b = some u → h'.get? b = some u) : HOk P w H h' := fun a o e =>
  (x a o e).stay (fun b u _ q => k b u q) (fun _ q => q) fun _ _ q => q
theorem HOk.laid (x : HOk P w H h) (k : ∀ b u, h.get? b = some u → h'.get? b = some u) (hp : h.objs.size ≤ a) (new : ObjOk P w (upd H a o) h' a o) : HOk P w (upd H a o) h' := fun b u e => by
  have hn := x.fresh hp
  by_cases hb : b = a
  · subst hb; rw [upd_same] at e; cases e; exact new
  · rw [upd_ne hb] at e
    exact (x b u e).stay (fun c v _ q => k c v q) (fun c q => by rw [upd_ne (ne_of_none q hn)]; exact q) fun c xs q => by rw [upd_ne (ne_of_none q hn)]; exact q
end

noncomputable def Rd (H : Hp) (a : Addr) (u : HO) : Prop := H a = some u ∨ ∃ o, H a = some (.frz o u)
theorem Rd.ok {P : Program} {w : World} {H : Hp} {h : Heap} {a : Addr} {u : HO} (r : Rd H a u) (x : HOk P w H h) : ObjOk P w H h a u := by
  rcases r with r | ⟨o, r⟩
  · exact x a u r
  · obtain ⟨_, q⟩ := x a _ r
    exact q
noncomputable def Mut : Option HO → Prop
  | some (.lst _) => True
  | some (.dK _) => True
  | some (.dT _) => True
  | some (.set _ _) => True
  | some (.ins _ _ _) => True
  | some (.ext _) => True
  | _ => False
section
variable {P : Program} {w : World} {H : Hp} {h h' : Heap} {x e : Addr} {o' : HO}
theorem HOk.write (ok : HOk P w H h) (mu : Mut (H x)) (he : e = x ∨ H e = some (.own x)) (k : ∀ b u, b ≠ e → h.get? b = some u → h'.get? b = some u) (heo : ∃ u, h'.get? e = some u)
    (new : ObjOk P w (upd H x o') h' x o') : HOk P w (upd H x o') h' := fun b u q => by
  have nown : ∀ c y, H c = some (.own y) → c ≠ x := fun c y r z => by subst z; rw [r] at mu; exact mu
  have ntup : ∀ c xs, H c = some (.tup xs) → c ≠ x := fun c xs r z => by subst z; rw [r] at mu; exact mu
  by_cases hb : b = x
  · subst hb; rw [upd_same] at q; cases q; exact new
  · rw [upd_ne hb] at q
    by_cases hbe : b = e
    · have q' : H b = some (.own x) := by
        rcases he with z | z
        · exact absurd (hbe.trans z) hb
        · rw [hbe]; exact z
      rw [q] at q'; cases q'
      obtain ⟨v, hv⟩ := heo
      exact ⟨v, by rw [hbe]; exact hv⟩
    · refine (ok b u q).stay (fun c v hc r => k c v ?_ r) (fun c r => by rw [upd_ne (nown c b r)]; exact r) fun c xs r => by rw [upd_ne (ntup c xs r)]; exact r
      rcases hc with rfl | hc
      · exact hbe
      · rintro rfl
        rcases he with z | z
        · exact nown c b hc z
        · rw [hc] at z; cases z; exact hb rfl
end

structure Un (fs ex : List Addr) (H H' : Hp) (h h' : Heap) : Prop where
  keep : ∀ b o, h.get? b = some o → H b = none → b ∉ fs → b ∉ ex → h'.get? b = some o
  slot : ∀ b o, h.get? b = some o → H b = none → b ∈ fs → b ∉ ex → ∃ sl, h'.get? b = some { o with slots := sl }
  free : ∀ b o, h.get? b = some o → H b = none → b ∉ ex → H' b = none
  there : ∀ b o, h.get? b = some o → b ∉ ex → ∃ o', h'.get? b = some o'
  tups : ∀ b xs, H b = some (.tup xs) → H' b = some (.tup xs)
  frzs : ∀ b o u, H b = some (.frz o u) → H' b = some (.frz o u)
  tbls : ∀ b ps, H b = some (.tbl ps) → ∃ more, H' b = some (.tbl (ps ++ more))
section
variable {fs fs' ex ex' : List Addr} {H H1 H2 : Hp} {h h1 h2 h' : Heap} {a x e : Addr} {o : HO}
theorem Un.any (u : Un fs ex H H1 h h1) {b : Addr} {ob : Obj} (q : h.get? b = some ob) (n : H b = none) (hx : b ∉ ex) : ∃ sl, h1.get? b = some { ob with slots := sl } := by
  by_cases hb : b ∈ fs
  · exact u.slot b ob q n hb hx
  · exact ⟨ob.slots, u.keep b ob q n hb hx⟩
theorem Un.trans (a : Un fs ex H H1 h h1) (b : Un fs ex H1 H2 h1 h2) : Un fs ex H H2 h h2 where
  keep := fun c ob q n hc hx => b.keep c ob (a.keep c ob q n hc hx) (a.free c ob q n hx) hc hx
  slot := fun c ob q n hc hx => by
    obtain ⟨sl, e1⟩ := a.slot c ob q n hc hx
    obtain ⟨sl', e2⟩ := b.slot c _ e1 (a.free c ob q n hx) hc hx
    exact ⟨sl', e2⟩
  free := fun c ob q n hx => by
    obtain ⟨o', e1⟩ := a.there c ob q hx
    exact b.free c o' e1 (a.free c ob q n hx) hx
  there := fun c ob q hx => by
    obtain ⟨o', e1⟩ := a.there c ob q hx
    exact b.there c o' e1 hx
  tups := fun c xs q => b.tups c xs (a.tups c xs q)
  frzs := fun c ob xs q => b.frzs c ob xs (a.frzs c ob xs q)
  tbls := fun c ps q => by
    obtain ⟨m1, e1⟩ := a.tbls c ps q
    obtain ⟨m2, e2⟩ := b.tbls c _ e1
    exact ⟨m1 ++ m2, by rw [e2, Array.append_assoc]⟩
theorem Un.kept (k : ∀ b u, h.get? b = some u → h'.get? b = some u) : Un fs ex H H h h' :=
  ⟨fun b ob q _ _ _ => k b ob q, fun b ob q _ _ _ => ⟨ob.slots, k b ob q⟩, fun _ _ _ n _ => n, fun b ob q _ => ⟨ob, k b ob q⟩, fun _ _ q => q, fun _ _ _ q => q, fun _ ps q => ⟨#[], by rw [q]; simp⟩⟩
theorem Un.refl : Un fs ex H H h h := Un.kept fun _ _ q => q
theorem Un.laid (k : ∀ b u, h.get? b = some u → h'.get? b = some u) (hp : h.objs.size ≤ a) (hn : H a = none) : Un fs ex H (upd H a o) h h' where
  keep := fun b u q _ _ _ => k b u q
  slot := fun b u q _ _ _ => ⟨u.slots, k b u q⟩
  free := fun b u q n _ => by rw [upd_ne (Nat.ne_of_lt (Nat.lt_of_lt_of_le (Heap.lt_size q) hp))]; exact n
  there := fun b u q _ => ⟨u, k b u q⟩
  tups := fun b xs q => by rw [upd_ne (ne_of_none q hn)]; exact q
  frzs := fun b u xs q => by rw [upd_ne (ne_of_none q hn)]; exact q
  tbls := fun b ps q => ⟨#[], by rw [upd_ne (ne_of_none q hn), q]; simp⟩
theorem Un.write (mu : Mut (H x)) (he : e = x ∨ H e = some (.own x)) (k : ∀ b u, b ≠ e → h.get? b = some u → h'.get? b = some u) (heo : ∃ u, h'.get? e = some u) : Un fs ex H (upd H x o) h h' := by
  have hx : ∀ b, H b = none → b ≠ x := fun b n z => by subst z; rw [n] at mu; exact mu
  have hb : ∀ b, H b = none → b ≠ e := fun b n z => by
    subst z
    rcases he with r | r
    · exact hx b n r
    · rw [n] at r; cases r
  have hm : ∀ b u, H b = some u → ¬ Mut (some u) → b ≠ x := fun b u q nm z => by subst z; rw [q] at mu; exact nm mu
  refine ⟨fun b u q n _ _ => k b u (hb b n) q, fun b u q n _ _ => ⟨u.slots, k b u (hb b n) q⟩, fun b u q n _ => by rw [upd_ne (hx b n)]; exact n, fun b u q _ => ?_,
    fun b xs q => by rw [upd_ne (hm b _ q fun z => z)]; exact q, fun b u xs q => by rw [upd_ne (hm b _ q fun z => z)]; exact q, fun b ps q => ⟨#[], by rw [upd_ne (hm b _ q fun z => z), q]; simp⟩⟩
  by_cases hbe : b = e
  · subst hbe; exact heo
  · exact ⟨u, k b u hbe q⟩
end

noncomputable def trk (h : Heap) (H : Hp) : List Addr := (List.range h.objs.size).filter fun a => (H a).isSome
noncomputable def hidT (h : Heap) (H : Hp) : Heap := PySem.W.hideAll h (trk h H)
theorem hidT_size (h : Heap) (H : Hp) : (hidT h H).objs.size = h.objs.size := PySem.W.hideAll_size _ _
theorem hidT_get {h : Heap} {H : Hp} {b : Addr} {o : Obj} (e : h.get? b = some o) (n : H b = none) : (hidT h H).get? b = some o :=
  PySem.W.hideAll_get _ e fun hm => by
    have q : (H b).isSome = true := (List.mem_filter.mp hm).2
    rw [n] at q; simp at q
theorem of_hidT {h : Heap} {H : Hp} {b : Addr} {o : Obj} (e : (hidT h H).get? b = some o) : h.get? b = some o ∧ H b = none := by
  have e' : h.get? b = some o := PySem.W.of_hideAll (trk h H) e
  refine ⟨e', ?_⟩
  cases q : H b with
  | none => rfl
  | some x =>
    have hm : b ∈ trk h H := List.mem_filter.mpr ⟨List.mem_range.mpr (Heap.lt_size e'), by simp [q]⟩
    have z : (hidT h H).get? b = none := PySem.W.hideAll_none (trk h H) hm
    rw [z] at e; cases e

noncomputable def allNews (g h : Heap) (L : Addr) : List (Addr × Obj) := (List.range h.objs.size).filterMap fun a => if a = L ∨ (g.get? a).isSome = true then none else (h.get? a).map fun o => (a, o)
noncomputable def rest (g h : Heap) (L d : Addr) : List (Addr × Obj) := (allNews g h L).filter fun p => decide (p.1 ≠ d)
end L2.Internal

namespace L2.Internal
open PySem PySem.Spec PyProof.Rows

structure Mod (K : PySem.W.Frag) (mg : Str → Option Value) (base : Heap) : Prop where
  kin : K.In base
  glob : base.Ns mainGlobals mg
  blt : ∃ mb, base.Ns builtinsNs mb ∧ ∀ x : Str, x ≠ "__name__" → mb x = bootBuiltins x
  nolimit : base.NoLimit

structure Cx where
  prog : Program
  w : World
  K : PySem.W.Frag
  mg : Str → Option Value
  base : Heap
  A : Around
  N : List Str
  s₀ : Shared
  H₀ : Hp
  env : Env
  outer : List Env
  stack : List Env
  ex : List Addr
  fn : Str → Bool
  calm : Bool
  pn : List (Addr × Obj)
  xe : Value → Shared → Prop
noncomputable def frs (l : List Env) : List Addr := l.filterMap (·.frame)
noncomputable abbrev Cx.fs (X : Cx) : List Addr := frs X.outer

noncomputable def Vis (sc : Scope) (x : Str) : Prop := sc.names.lookup x = some .local ∨ sc.names.lookup x = some .cell ∨ sc.names.lookup x = some .free
noncomputable def Loc (sc : Scope) (x : Str) : Prop := sc.names.lookup x = some .local ∨ sc.names.lookup x = some .cell
noncomputable def Look (env : Env) (h : Heap) (m : Str → Option Value) (x : Str) (u : Value) : Prop :=
  (env.kindOf x = some .local ∧ m x = some u) ∨ ((env.kindOf x = some .cell ∨ env.kindOf x = some .free) ∧ ∃ c, env.cells.lookup x = some c ∧ h.IsCell c (some u))

structure Cx.Ok (X : Cx) : Prop where
  mod : Mod X.K X.mg X.base
  kind : X.env.scope.kind = .function
  glob : X.env.globals = mainGlobals
  blt : X.env.builtins = builtinsNs
  above : X.s₀.heap.objs.size ≤ X.env.locals
  inj : ∀ x y c, X.env.cells.lookup x = some c → X.env.cells.lookup y = some c → x = y
  has : ∀ x, (X.env.kindOf x = some .cell ∨ X.env.kindOf x = some .free) → ∃ c, X.env.cells.lookup x = some c
  cab : ∀ x c, X.fn x = true → X.env.cells.lookup x = some c → X.s₀.heap.objs.size ≤ c
  hd : X.calm = true → X.A.handled = none
  frames : X.A.frames = some X.stack
  stk : X.stack = X.outer ∨ (X.stack = X.env :: X.outer ∧ X.env.frame = some X.env.locals)
  exf : ∀ b ∈ X.ex, b ≠ X.env.locals ∧ ∀ x c, X.env.cells.lookup x = some c → c ≠ b
  bs : ∀ b o, X.base.get? b = some o → X.s₀.heap.get? b = some o ∧ X.H₀ b = none
  bsz : X.base.objs.size ≤ X.s₀.heap.objs.size
  noex : ∀ b o, X.base.get? b = some o → b ∉ X.ex
  exfs : ∀ b ∈ X.ex, b ∉ X.fs
  funs : X.s₀.heap.FunFrames X.base X.outer
  frf : ∀ b ∈ X.fs, X.H₀ b = none

structure Inv (X : Cx) (pins : List (Addr × Obj)) (σ : List (Option V)) (H : Hp) (s : Shared) : Prop where
  ok : X.Ok
  os : s.os = X.s₀.os
  bare : AllBare s.gens
  base : Un X.fs X.ex X.H₀ H X.s₀.heap s.heap
  loc : ∃ m, s.heap.Ns X.env.locals m ∧ ∀ (i : Nat) (x : Str) (v : V), X.N[i]? = some x → σ[i]? = some (some v) → Vis X.env.scope x → ∃ u, RelV v u ∧ Look X.env s.heap m x u
  cell : ∀ x c, X.env.cells.lookup x = some c → ∃ v, s.heap.IsCell c v
  free : H X.env.locals = none
  freeC : ∀ x c, X.env.cells.lookup x = some c → H c = none
  pin : ∀ p ∈ X.pn ++ pins, s.heap.get? p.1 = some p.2 ∧ H p.1 = none ∧ p.1 ≠ X.env.locals ∧ p.1 ∉ X.fs ∧ ∀ v, p.2.data ≠ .cell v
  hok : HOk X.prog X.w H s.heap
  len : σ.length = X.N.length

section
variable {X : Cx} {pins : List (Addr × Obj)} {σ : List (Option V)} {H H' : Hp} {s : Shared} {h' : Heap}

theorem Cx.Ok.nofr (ok : X.Ok) {b : Addr} {o : Obj} (e : X.base.get? b = some o) : b ∉ X.fs := fun hb => by
  have := (ok.funs.mem hb).1
  rw [e] at this; cases this
theorem Inv.bs (I : Inv X pins σ H s) : ∀ b o, X.base.get? b = some o → s.heap.get? b = some o ∧ H b = none := fun b o e =>
  ⟨I.base.keep b o (I.ok.bs b o e).1 (I.ok.bs b o e).2 (I.ok.nofr e) (I.ok.noex b o e), I.base.free b o (I.ok.bs b o e).1 (I.ok.bs b o e).2 (I.ok.noex b o e)⟩
theorem Inv.bk (I : Inv X pins σ H s) : ∀ b o, X.base.get? b = some o → s.heap.get? b = some o := fun b o e => (I.bs b o e).1
theorem Inv.mod (I : Inv X pins σ H s) : Mod X.K X.mg X.base := I.ok.mod
theorem Inv.kIn (I : Inv X pins σ H s) : X.K.In s.heap := I.ok.mod.kin.keeps I.bk
theorem Inv.lt (I : Inv X pins σ H s) : X.env.locals < s.heap.objs.size := let ⟨_, hn, _⟩ := I.loc; hn.lt
theorem Inv.sz (I : Inv X pins σ H s) : X.s₀.heap.objs.size ≤ s.heap.objs.size := Nat.le_trans I.ok.above (Nat.le_of_lt I.lt)
theorem Inv.nofs (I : Inv X pins σ H s) {a : Addr} (h : s.heap.objs.size ≤ a) : a ∉ X.fs := fun hb => by
  obtain ⟨_, o, ho, _⟩ := I.ok.funs.mem hb
  exact absurd (Nat.lt_of_lt_of_le (Heap.lt_size ho) (Nat.le_trans I.sz h)) (Nat.lt_irrefl _)
theorem Inv.cne (I : Inv X pins σ H s) : ∀ x c, X.env.cells.lookup x = some c → c ≠ X.env.locals := fun x c e z => by
  obtain ⟨v, o, ho, hd⟩ := I.cell x c e
  obtain ⟨m, ⟨o', es, ep, ho', hd', _⟩, _⟩ := I.loc
  rw [z, ho'] at ho; cases ho; rw [hd'] at hd; cases hd
theorem Inv.funs (I : Inv X pins σ H s) : s.heap.FunFrames X.base X.outer := by
  have all : ∀ (l : List Env), (∀ b ∈ frs l, b ∈ X.fs) → X.s₀.heap.FunFrames X.base l → s.heap.FunFrames X.base l := by
    intro l
    induction l with
    | nil => intro _ _; trivial
    | cons env r ih =>
      intro hs hl
      obtain ⟨hk, ⟨L, o, hf, hn, ho, hd⟩, hr⟩ := hl
      have hL : L ∈ X.fs := hs L (by unfold frs; rw [List.filterMap_cons, hf]; exact List.mem_cons_self)
      obtain ⟨sl, e⟩ := I.base.slot L o ho (I.ok.frf L hL) hL fun z => I.ok.exfs L z hL
      exact ⟨hk, ⟨L, _, hf, hn, e, hd⟩, ih (fun b hb => hs b (by unfold frs; rw [List.filterMap_cons, hf]; exact List.mem_cons_of_mem _ hb)) hr⟩
  exact all X.outer (fun _ hb => hb) I.ok.funs

theorem Inv.stack (I : Inv X pins σ H s) : s.heap.FunFrames X.base X.stack := by
  rcases I.ok.stk with e | ⟨e, hf⟩
  · rw [e]; exact I.funs
  · rw [e]
    obtain ⟨m, hn, _⟩ := I.loc
    refine .cons (by rw [I.ok.kind]; decide) hf hn ?_ I.funs
    exact Heap.get?_none_of_le (Nat.le_trans I.ok.bsz I.ok.above)
theorem Inv.stkSub (I : Inv X pins σ H s) : ∀ b ∈ frs X.stack, b ∈ X.env.locals :: X.fs := fun b hb => by
  rcases I.ok.stk with e | ⟨e, hf⟩
  · rw [e] at hb; exact List.mem_cons_of_mem _ hb
  · rw [e] at hb
    unfold frs at hb
    rw [List.filterMap_cons, hf] at hb
    exact hb
theorem Inv.stkFree (I : Inv X pins σ H s) : ∀ b ∈ frs X.stack, H b = none := fun b hb => by
  rcases List.mem_cons.mp (I.stkSub b hb) with e | hb
  · rw [e]; exact I.free
  · obtain ⟨_, o, ho, _⟩ := I.ok.funs.mem hb
    exact I.base.free b o ho (I.ok.frf b hb) fun z => I.ok.exfs b z hb

theorem Inv.step {g' : Array GenState} {t' : Nat} {d' : Drawn} {ch : List Addr} (I : Inv X pins σ H s)
    (hch : ∀ b ∈ ch, (b ∈ X.ex ∨ X.s₀.heap.objs.size ≤ b) ∧ b ≠ X.env.locals ∧ (∀ x c, X.env.cells.lookup x = some c → c ≠ b) ∧ ∀ p ∈ X.pn ++ pins, p.1 ≠ b)
    (keep : ∀ b o, b ≠ X.env.locals → b ∉ X.fs → b ∉ ch → s.heap.get? b = some o → H b = none → h'.get? b = some o)
    (slot : ∀ b o, b ≠ X.env.locals → b ∈ X.fs → b ∉ ch → s.heap.get? b = some o → H b = none → ∃ sl, h'.get? b = some { o with slots := sl }) (free : ∀ b o, b ∉ ch → s.heap.get? b = some o → H b = none → H' b = none)
    (there : ∀ b o, b ∉ ch → s.heap.get? b = some o → ∃ o', h'.get? b = some o')
    (tups : ∀ b xs, H b = some (.tup xs) → H' b = some (.tup xs)) (frzs : ∀ b o u, H b = some (.frz o u) → H' b = some (.frz o u)) (tbls : ∀ b ps, H b = some (.tbl ps) → ∃ more, H' b = some (.tbl (ps ++ more)))
    (ns : ∀ m, s.heap.Ns X.env.locals m → h'.Ns X.env.locals m) (hok : HOk X.prog X.w H' h') (hg : AllBare g') :
    Inv X pins σ H' { s with heap := h', gens := g', drawn := d', toks := t' } := by
  have neL : ∀ b o, X.s₀.heap.get? b = some o → b ≠ X.env.locals := fun b o e => Nat.ne_of_lt (Nat.lt_of_lt_of_le (Heap.lt_size e) I.ok.above)
  have neC : ∀ b o, X.s₀.heap.get? b = some o → b ∉ X.ex → b ∉ ch := fun b o e hx hb => by
    rcases (hch b hb).1 with z | z
    · exact hx z
    · exact absurd (Nat.lt_of_lt_of_le (Heap.lt_size e) z) (Nat.lt_irrefl _)
  have cellK : ∀ x c, X.env.cells.lookup x = some c → ∀ v, s.heap.IsCell c v → h'.IsCell c v := fun x c e v ⟨o, ho, hd⟩ => by
    have nch : c ∉ ch := fun z => (hch c z).2.2.1 x c e rfl
    by_cases hc : c ∈ X.fs
    · obtain ⟨sl, q⟩ := slot c o (I.cne x c e) hc nch ho (I.freeC x c e)
      exact ⟨_, q, hd⟩
    · exact ⟨o, keep c o (I.cne x c e) hc nch ho (I.freeC x c e), hd⟩
  refine ⟨I.ok, I.os, hg, ⟨fun b o e n hb hx => ?_, fun b o e n hb hx => ?_, fun b o e n hx => ?_, fun b o e hx => ?_, fun b xs e => tups b xs (I.base.tups b xs e), fun b o xs e => frzs b o xs (I.base.frzs b o xs e), fun b ps e => ?_⟩, ?_, fun x c e => ?_, ?_, fun x c e => ?_, fun p hp => ?_, hok, I.len⟩
  · exact keep b o (neL b o e) hb (neC b o e hx) (I.base.keep b o e n hb hx) (I.base.free b o e n hx)
  · obtain ⟨sl, e1⟩ := I.base.slot b o e n hb hx
    obtain ⟨sl', e2⟩ := slot b _ (neL b o e) hb (neC b o e hx) e1 (I.base.free b o e n hx)
    exact ⟨sl', e2⟩
  · obtain ⟨o', e1⟩ := I.base.there b o e hx
    exact free b o' (neC b o e hx) e1 (I.base.free b o e n hx)
  · obtain ⟨o', e1⟩ := I.base.there b o e hx
    exact there b o' (neC b o e hx) e1
  · obtain ⟨m1, e1⟩ := I.base.tbls b ps e
    obtain ⟨m2, e2⟩ := tbls b _ e1
    exact ⟨m1 ++ m2, by rw [e2, Array.append_assoc]⟩
  · obtain ⟨m, hn, hl⟩ := I.loc
    refine ⟨m, ns m hn, fun i x v e1 e2 e3 => ?_⟩
    obtain ⟨u, r, l⟩ := hl i x v e1 e2 e3
    refine ⟨u, r, ?_⟩
    rcases l with l | ⟨k, c, e, z⟩
    · exact .inl l
    · exact .inr ⟨k, c, e, cellK x c e _ z⟩
  · obtain ⟨v, z⟩ := I.cell x c e
    exact ⟨v, cellK x c e v z⟩
  · obtain ⟨m, ⟨o, _, _, ho, _⟩, _⟩ := I.loc
    exact free _ o (fun z => (hch _ z).2.1 rfl) ho I.free
  · obtain ⟨v, o, ho, hd⟩ := I.cell x c e
    exact free c o (fun z => (hch c z).2.2.1 x c e rfl) ho (I.freeC x c e)
  · obtain ⟨e, n, ne, nf, d⟩ := I.pin p hp
    have nch : p.1 ∉ ch := fun z => (hch p.1 z).2.2.2 p hp rfl
    exact ⟨keep p.1 p.2 ne nf nch e n, free p.1 p.2 nch e n, ne, nf, d⟩
theorem Inv.un {t' : Nat} (I : Inv X pins σ H s) (u : Un X.fs [] H H' s.heap h') (hok : HOk X.prog X.w H' h') : Inv X pins σ H' { s with heap := h', toks := t' } := by
  obtain ⟨m, ⟨o, es, ep, ho, r⟩, _⟩ := id I.loc
  obtain ⟨sl, hL⟩ := u.any ho I.free (by simp)
  exact I.step (g' := s.gens) (d' := s.drawn) (ch := []) (fun _ z => nomatch z) (fun b o _ hb _ e n => u.keep b o e n hb (by simp)) (fun b o _ hb _ e n => u.slot b o e n hb (by simp)) (fun b o _ e n => u.free b o e n (by simp)) (fun b o _ e => u.there b o e (by simp)) u.tups u.frzs u.tbls (fun m' hm => by
    obtain ⟨o', es', ep', ho', r'⟩ := hm
    rw [ho] at ho'; cases ho'
    exact ⟨_, es', ep', hL, r'⟩) hok I.bare
theorem Inv.call {g' : Array GenState} {t' : Nat} {d' : Drawn} {ch : List Addr} (I : Inv X pins σ H s) (u : Un (frs X.stack) ch H H' s.heap h') (hok : HOk X.prog X.w H' h') (hg : AllBare g')
    (hch : ∀ b ∈ ch, (b ∈ X.ex ∨ X.s₀.heap.objs.size ≤ b) ∧ b ≠ X.env.locals ∧ (∀ x c, X.env.cells.lookup x = some c → c ≠ b) ∧ ∀ p ∈ X.pn ++ pins, p.1 ≠ b) :
    Inv X pins σ H' { s with heap := h', gens := g', drawn := d', toks := t' } := by
  obtain ⟨m, ⟨o, es, ep, ho, r⟩, _⟩ := id I.loc
  obtain ⟨sl, hL⟩ := u.any ho I.free fun z => (hch _ z).2.1 rfl
  exact I.step (ch := ch) hch (fun b o hL hb hc e n => u.keep b o e n (fun z => (List.mem_cons.mp (I.stkSub b z)).elim hL hb) hc) (fun b o _ _ hc e n => u.any e n hc) (fun b o hc e n => u.free b o e n hc) (fun b o hc e => u.there b o e hc) u.tups u.frzs u.tbls (fun m' hm => by
    obtain ⟨o', es', ep', ho', r'⟩ := hm
    rw [ho] at ho'; cases ho'
    exact ⟨_, es', ep', hL, r'⟩) hok hg
theorem Inv.turned {t' : Nat} {it : Addr} (I : Inv X pins σ H s) (k : ∀ b o, b ≠ it → s.heap.get? b = some o → h'.get? b = some o) (hn : H it = none) (hL : it ≠ X.env.locals)
    (h1 : it ∈ X.ex ∨ X.s₀.heap.objs.size ≤ it) (h2 : ∀ x c, X.env.cells.lookup x = some c → c ≠ it) (h3 : ∀ p ∈ X.pn ++ pins, p.1 ≠ it) : Inv X pins σ H { s with heap := h', toks := t' } := by
  have nit : ∀ b u, H b = some u → b ≠ it := fun b u e z => by rw [z, hn] at e; cases e
  refine I.step (g' := s.gens) (d' := s.drawn) (ch := [it]) (fun b hb => ?_) (fun b o _ _ hc e _ => k b o (fun z => hc (by simp [z])) e) (fun b o _ _ hc e _ => ⟨o.slots, k b o (fun z => hc (by simp [z])) e⟩) (fun _ _ _ _ n => n)
    (fun b o hc e => ⟨o, k b o (fun z => hc (by simp [z])) e⟩) (fun _ _ e => e) (fun _ _ _ e => e) (fun b ps e => ⟨#[], by rw [e]; simp⟩) (fun m hm => ?_) (fun b u e => ?_) I.bare
  · have e : b = it := by simpa using hb
    subst e
    exact ⟨h1, hL, h2, h3⟩
  · obtain ⟨o, es, ep, ho, r⟩ := hm
    exact ⟨o, es, ep, k _ o (Ne.symm hL) ho, r⟩
  · refine (I.hok b u e).stay (fun c v hc q => k c v ?_ q) (fun _ q => q) fun _ _ q => q
    rcases hc with z | z
    · rw [z]; exact nit b u e
    · exact nit c _ z
theorem Inv.tok (I : Inv X pins σ H s) (t : Nat) : Inv X pins σ H { s with toks := t } := I.un (h' := s.heap) (t' := t) Un.refl I.hok
theorem Inv.kept {t' : Nat} (I : Inv X pins σ H s) (k : ∀ b u, s.heap.get? b = some u → h'.get? b = some u) : Inv X pins σ H { s with heap := h', toks := t' } := I.un (Un.kept k) (I.hok.kept k)
theorem Inv.laid {a : Addr} {o : HO} {t' : Nat} (I : Inv X pins σ H s) (k : ∀ b u, s.heap.get? b = some u → h'.get? b = some u) (hp : s.heap.objs.size ≤ a) (new : ObjOk X.prog X.w (upd H a o) h' a o) :
    Inv X pins σ (upd H a o) { s with heap := h', toks := t' } := I.un (Un.laid k hp (I.hok.fresh hp)) (I.hok.laid k hp new)
theorem Inv.write {x e : Addr} {o : HO} {t' : Nat} (I : Inv X pins σ H s) (mu : Mut (H x)) (he : e = x ∨ H e = some (.own x)) (k : ∀ b u, b ≠ e → s.heap.get? b = some u → h'.get? b = some u) (heo : ∃ u, h'.get? e = some u)
    (new : ObjOk X.prog X.w (upd H x o) h' x o) : Inv X pins σ (upd H x o) { s with heap := h', toks := t' } := I.un (Un.write mu he k heo) (I.hok.write mu he k heo new)
theorem Inv.pins_of {pins' : List (Addr × Obj)} (I : Inv X pins σ H s) (h : ∀ p ∈ pins', s.heap.get? p.1 = some p.2 ∧ H p.1 = none ∧ p.1 ≠ X.env.locals ∧ p.1 ∉ X.fs ∧ ∀ v, p.2.data ≠ .cell v) : Inv X pins' σ H s :=
  ⟨I.ok, I.os, I.bare, I.base, I.loc, I.cell, I.free, I.freeC, fun p hp => (List.mem_append.mp hp).elim (fun z => I.pin p (List.mem_append_left _ z)) (h p), I.hok, I.len⟩

theorem nodup_ix {N : List Str} (hN : N.Nodup) {i j : Nat} {x : Str} (a : N[i]? = some x) (b : N[j]? = some x) : i = j := by
  obtain ⟨h1, e1⟩ := List.getElem?_eq_some_iff.mp a
  obtain ⟨h2, e2⟩ := List.getElem?_eq_some_iff.mp b
  exact (List.getElem_inj hN).mp (e1.trans e2.symm)

theorem store_ok2 {M : Model} {A : Around} {E : Value → Shared → Prop} {i : Nat} {x : Str} {v : V} {u : Value} {Q : Unit → Shared → Prop} (I : Inv X pins σ H s) (hN : X.N.Nodup) (hi : X.N[i]? = some x) (hx : Loc X.env.scope x) (r : RelV v u)
    (h : ∀ s', Inv X pins (σ.set i (some v)) H s' → (∃ a, Heap.SameBut a s.heap s'.heap ∧ (a = X.env.locals ∨ X.env.cells.lookup x = some a)) → Q () s') (hf : autoParam (X.fn x = true ∨ X.env.scope.names.lookup x = some .local) L2.Internal.auL._auto_1) : wpAny M A (storeName X.env x u) Q E s := by
  obtain ⟨m, hn, hl⟩ := id I.loc
  have hcls : (X.env.scope.kind == .class || (X.env.scope.kind == .module && X.env.locals != X.env.globals)) = false := by rw [I.ok.kind]; rfl
  have hiσ : i < σ.length := by rw [I.len]; exact (List.getElem?_eq_some_iff.mp hi).1
  have cne := I.cne
  have tracked : ∀ {a : Addr} {h' : Heap}, (∃ o, s.heap.get? a = some o ∧ H a = none) → Heap.SameBut a s.heap h' → HOk X.prog X.w H h' := fun {a h'} ha hs b ob e => by
    obtain ⟨_, _, hfree⟩ := ha
    refine (I.hok b ob e).stay (fun c w' hc q => (hs.2 c ?_).trans q) (fun _ q => q) fun _ _ q => q
    rintro rfl
    rcases hc with rfl | hc
    · rw [hfree] at e; cases e
    · rw [hfree] at hc; cases hc
  rcases hx with hk | hk
  · refine wpAny_storeName_local hk hn (fun h' hn' hs => ?_) hcls
    obtain ⟨oL, _, _, hoL, _⟩ := id hn
    refine h _ ⟨I.ok, I.os, I.bare, ⟨fun b o e n hb hx => ?_, fun b o e n hb hx => ?_, I.base.free, fun b o e hx => ?_, I.base.tups, I.base.frzs, I.base.tbls⟩, ⟨_, hn', fun j y v' e1 e2 e3 => ?_⟩, fun y c e => ?_, I.free, I.freeC, fun p hp => ?_, tracked ⟨oL, hoL, I.free⟩ hs, by simpa using I.len⟩ ⟨_, hs, .inl rfl⟩
    · exact (hs.2 b (Nat.ne_of_lt (Nat.lt_of_lt_of_le (Heap.lt_size e) I.ok.above))).trans (I.base.keep b o e n hb hx)
    · obtain ⟨sl, e1⟩ := I.base.slot b o e n hb hx
      exact ⟨sl, (hs.2 b (Nat.ne_of_lt (Nat.lt_of_lt_of_le (Heap.lt_size e) I.ok.above))).trans e1⟩
    · obtain ⟨o', e1⟩ := I.base.there b o e hx
      exact ⟨o', (hs.2 b (Nat.ne_of_lt (Nat.lt_of_lt_of_le (Heap.lt_size e) I.ok.above))).trans e1⟩
    · by_cases hj : j = i
      · subst hj
        rw [hi] at e1; cases e1
        rw [List.getElem?_set_self hiσ] at e2
        cases e2
        exact ⟨u, r, .inl ⟨hk, by simp⟩⟩
      · rw [List.getElem?_set_ne (Ne.symm hj)] at e2
        obtain ⟨u', r', q⟩ := hl j y v' e1 e2 e3
        refine ⟨u', r', ?_⟩
        rcases q with ⟨k, e⟩ | ⟨k, c, e, z⟩
        · refine .inl ⟨k, ?_⟩
          have : y ≠ x := fun e => hj (nodup_ix hN e1 (e ▸ hi))
          simp [this, e]
        · exact .inr ⟨k, c, e, z.sameBut hs (cne y c e)⟩
    · obtain ⟨w', z⟩ := I.cell y c e
      exact ⟨w', z.sameBut hs (cne y c e)⟩
    · obtain ⟨e, n, ne, nf, d⟩ := I.pin p hp
      exact ⟨(hs.2 p.1 ne).trans e, n, ne, nf, d⟩
  · have hfn : X.fn x = true := by
      rcases hf with z | z
      · exact z
      · rw [z] at hk; cases hk
    obtain ⟨c, hc⟩ := I.ok.has x (.inl hk)
    obtain ⟨w', z⟩ := I.cell x c hc
    refine wpAny_storeName_cell I.ok.kind hk hc z (fun h' hc' hs => ?_)
    obtain ⟨oc, hoc, hocd⟩ := id z
    refine h { s with heap := h' } ⟨I.ok, I.os, I.bare, ⟨fun b o e n hb hx => ?_, fun b o e n hb hx => ?_, I.base.free, fun b o e hx => ?_, I.base.tups, I.base.frzs, I.base.tbls⟩, ⟨m, hn.sameBut hs (Ne.symm (cne x c hc)), fun j y v' e1 e2 e3 => ?_⟩, fun y c' e => ?_, I.free, I.freeC, fun p hp => ?_, tracked ⟨oc, hoc, I.freeC x c hc⟩ hs, by simpa using I.len⟩ ⟨c, hs, .inr hc⟩
    · exact (hs.2 b (Nat.ne_of_lt (Nat.lt_of_lt_of_le (Heap.lt_size e) (I.ok.cab x c hfn hc)))).trans (I.base.keep b o e n hb hx)
    · obtain ⟨sl, e1⟩ := I.base.slot b o e n hb hx
      exact ⟨sl, (hs.2 b (Nat.ne_of_lt (Nat.lt_of_lt_of_le (Heap.lt_size e) (I.ok.cab x c hfn hc)))).trans e1⟩
    · obtain ⟨o', e1⟩ := I.base.there b o e hx
      exact ⟨o', (hs.2 b (Nat.ne_of_lt (Nat.lt_of_lt_of_le (Heap.lt_size e) (I.ok.cab x c hfn hc)))).trans e1⟩
    · by_cases hj : j = i
      · subst hj
        rw [hi] at e1; cases e1
        rw [List.getElem?_set_self hiσ] at e2
        cases e2
        exact ⟨u, r, .inr ⟨.inl hk, c, hc, hc'⟩⟩
      · rw [List.getElem?_set_ne (Ne.symm hj)] at e2
        obtain ⟨u', r', q⟩ := hl j y v' e1 e2 e3
        refine ⟨u', r', ?_⟩
        rcases q with q | ⟨k, c', e, z'⟩
        · exact .inl q
        · refine .inr ⟨k, c', e, z'.sameBut hs ?_⟩
          rintro rfl
          exact hj (nodup_ix hN e1 (I.ok.inj _ _ _ e hc ▸ hi))
    · by_cases hcc : c' = c
      · subst hcc; exact ⟨_, hc'⟩
      · obtain ⟨w2, z2⟩ := I.cell y c' e
        exact ⟨w2, z2.sameBut hs hcc⟩
    · obtain ⟨e, n, ne, nf, d⟩ := I.pin p hp
      refine ⟨(hs.2 p.1 ?_).trans e, n, ne, nf, d⟩
      intro q
      rw [q, hoc] at e
      have q' : oc = p.2 := Option.some.inj e
      exact d w' (by rw [← q']; exact hocd)
theorem store_ok {M : Model} {A : Around} {E : Value → Shared → Prop} {i : Nat} {x : Str} {v : V} {u : Value} {Q : Unit → Shared → Prop} (I : Inv X pins σ H s) (hN : X.N.Nodup) (hi : X.N[i]? = some x) (hx : Loc X.env.scope x) (r : RelV v u)
    (h : ∀ s', Inv X pins (σ.set i (some v)) H s' → Q () s') (hf : autoParam (X.fn x = true ∨ X.env.scope.names.lookup x = some .local) L2.Internal.auL._auto_1) : wpAny M A (storeName X.env x u) Q E s :=
  store_ok2 I hN hi hx r (fun s' I' _ => h s' I') hf
theorem Inv.call' {s' : Shared} {ch : List Addr} (I : Inv X pins σ H s) (ho : s'.os = s.os) (u : Un (frs X.stack) ch H H' s.heap s'.heap) (hok : HOk X.prog X.w H' s'.heap) (hg : AllBare s'.gens)
    (hch : ∀ b ∈ ch, (b ∈ X.ex ∨ X.s₀.heap.objs.size ≤ b) ∧ b ≠ X.env.locals ∧ (∀ x c, X.env.cells.lookup x = some c → c ≠ b) ∧ ∀ p ∈ X.pn ++ pins, p.1 ≠ b) : Inv X pins σ H' s' := by
  obtain ⟨h', g', d', t', o'⟩ := s'
  have e : o' = s.os := ho
  subst e
  exact I.call (g' := g') (t' := t') (d' := d') u hok hg hch
end

noncomputable abbrev XK := Value → Option Addr → Hp → Prop
noncomputable abbrev St := List (Option V)
noncomputable abbrev VK := V → Hp → Prop
noncomputable abbrev TE := St → Hp → VK → Prop
noncomputable abbrev TT := St → Hp → (Bool → Hp → Prop) → Prop
noncomputable abbrev TA := St → Hp → (List V → Hp → Prop) → Prop
structure Ends where
  nx : St → Hp → Prop
  rt : VK
  bk : St → Hp → Prop := fun _ _ => False
  ct : St → Hp → Prop := fun _ _ => False
noncomputable abbrev TS := Ends → St → Hp → Prop

noncomputable def EP (X : Cx) (pins : List (Addr × Obj)) (σ : St) (Q : VK) (u : Value) (s' : Shared) : Prop := ∃ v H', Inv X pins σ H' s' ∧ RelV v u ∧ Q v H'
noncomputable def TP (X : Cx) (pins : List (Addr × Obj)) (σ : St) (Q : Bool → Hp → Prop) (b : Bool) (s' : Shared) : Prop := ∃ H', Inv X pins σ H' s' ∧ Q b H'
noncomputable def AP (X : Cx) (pins : List (Addr × Obj)) (σ : St) (Q : List V → Hp → Prop) (us : List Value) (s' : Shared) : Prop := ∃ vs H', Inv X pins σ H' s' ∧ Vals vs us ∧ Q vs H'
noncomputable def SP (X : Cx) (pins : List (Addr × Obj)) (D : Ends) (f : Flow) (s' : Shared) : Prop :=
  match f with
  | .next => ∃ σ' H', Inv X pins σ' H' s' ∧ D.nx σ' H'
  | .brk => ∃ σ' H', Inv X pins σ' H' s' ∧ D.bk σ' H'
  | .cont => ∃ σ' H', Inv X pins σ' H' s' ∧ D.ct σ' H'
  | .ret u => ∃ v σ' H', Inv X pins σ' H' s' ∧ RelV v u ∧ D.rt v H'

noncomputable def PE (X : Cx) (e : Expr) (t : TE) : Prop :=
  ∀ (pins : List (Addr × Obj)) (s : Shared) (σ : St) (H : Hp) (Q : VK), Inv X pins σ H s → t σ H Q → wpAny (model X.prog X.w) X.A (eval e X.env) (EP X pins σ Q) X.xe s
noncomputable def PT (X : Cx) (e : Expr) (t : TT) : Prop :=
  ∀ (pins : List (Addr × Obj)) (s : Shared) (σ : St) (H : Hp) (Q : Bool → Hp → Prop), Inv X pins σ H s → t σ H Q → wpAny (model X.prog X.w) X.A (isTrue e X.env (eval e X.env)) (TP X pins σ Q) X.xe s
noncomputable def PW (X : Cx) (e : Expr) (t : TT) : Prop :=
  ∀ (whole : Sem Value) (pins : List (Addr × Obj)) (s : Shared) (σ : St) (H : Hp) (Q : Bool → Hp → Prop), Inv X pins σ H s → t σ H Q → wpAny (model X.prog X.w) X.A (isTrue e X.env whole) (TP X pins σ Q) X.xe s
theorem PW.pt {X : Cx} {e : Expr} {t : TT} (h : PW X e t) : PT X e t := h _
noncomputable def PA (X : Cx) (es : List Expr) (t : TA) : Prop :=
  ∀ (pos : Pos) (pins : List (Addr × Obj)) (s : Shared) (σ : St) (H : Hp) (Q : List V → Hp → Prop), Inv X pins σ H s → t σ H Q → wpAny (model X.prog X.w) X.A (spliced (backTo pos (starEach es X.env))) (AP X pins σ Q) X.xe s
noncomputable def PS (X : Cx) (st : Stmt) (t : TS) : Prop :=
  ∀ (pins : List (Addr × Obj)) (s : Shared) (σ : St) (H : Hp) (D : Ends), Inv X pins σ H s → t D σ H → wpAny (model X.prog X.w) X.A (exec st X.env) (SP X pins D) X.xe s
noncomputable def PSs (X : Cx) (st : List Stmt) (t : TS) : Prop :=
  ∀ (pins : List (Addr × Obj)) (s : Shared) (σ : St) (H : Hp) (D : Ends), Inv X pins σ H s → t D σ H → wpAny (model X.prog X.w) X.A (execs st X.env) (SP X pins D) X.xe s
theorem thn {α : Type} {t : Sem α} {Q Q' : α → Shared → Prop} {M : Model} {A : Around} {E : Value → Shared → Prop} {s : Shared} (h : wpAny M A t Q E s) (hQ : ∀ a s, Q a s → Q' a s) : wpAny M A t Q' E s := wpAny_mono h hQ fun _ _ x => x
end L2.Internal

namespace L2.Internal
open PySem PySem.Spec PyProof.Rows
section
variable {X : Cx}

noncomputable def tVar (i : Nat) : TE := fun σ H Q => ∃ v, σ[i]? = some (some v) ∧ Q v H
noncomputable def tC (v : V) : TE := fun _ H Q => Q v H
theorem pe_var {i : Nat} {x : Str} {pos : Pos} (hN : X.N[i]? = some x) (hv : Vis X.env.scope x) (hd : autoParam ((x == ("__debug__" : Str)) = false) L2.Internal.auD._auto_1) (hcd : autoParam ((x == ("__classdict__" : Str)) = false) L2.Internal.auD._auto_1) : PE X (.Name x pos) (tVar i) := by
  intro pins s σ H Q I h
  obtain ⟨v, e, h⟩ := h
  obtain ⟨m, hn, hl⟩ := I.loc
  obtain ⟨u, r, l⟩ := hl i x v hN e hv
  have fin : EP X pins σ Q u s := ⟨v, H, I, r, h⟩
  rcases l with ⟨hk, hm⟩ | ⟨hk, c, hc, hcell⟩
  · exact wpAny_Name (wpAny_loadName_local I.ok.kind hk hn hm fin) hd
  · rcases hk with hk | hk
    · exact wpAny_Name (wpAny_loadName_cell I.ok.kind hk hc hcell fin) hd
    · exact wpAny_Name (wpAny_loadName_free I.ok.kind hk hc hcell fin hcd) hd
theorem pe_int {i j pos} : PE X (.Constant (.int i) j pos) (tC (.int i)) := fun _ _ _ H _ I h => wpAny_Constant_int ⟨.int i, H, I.tok _, ⟨_, rfl⟩, h⟩
theorem pe_bl {b j pos} : PE X (.Constant (.bool b) j pos) (tC (.bl b)) := fun _ _ _ H _ I h => Constant_bool ⟨.bl b, H, I, rfl, h⟩
theorem pe_str {x j pos} : PE X (.Constant (.str x) j pos) (tC (.str x)) := fun _ _ _ H _ I h => Calls.Constant_str ⟨.str x, H, I.tok _, ⟨_, rfl⟩, h⟩

noncomputable def Gl (X : Cx) (x : Str) : Prop := X.env.kindOf x = some .globalImplicit
theorem ld_glob {E : Value → Shared → Prop} {pins : List (Addr × Obj)} {s : Shared} {σ : St} {H : Hp} {x : Str} {u : Value} {pos : Pos} {Q : Value → Shared → Prop} (I : Inv X pins σ H s) (hg : Gl X x) (hm : X.mg x = some u) (h : Q u s)
    (hd : autoParam ((x == ("__debug__" : Str)) = false) L2.Internal.auD._auto_1) : wpAny (model X.prog X.w) X.A (eval (.Name x pos) X.env) Q E s :=
  Calls.Name_function_global I.ok.kind hg (Calls.loadGlobal_global (by rw [I.ok.glob]; exact I.mod.glob.keeps I.bk) hm h) hd
theorem ld_blt {E : Value → Shared → Prop} {pins : List (Addr × Obj)} {s : Shared} {σ : St} {H : Hp} {x : Str} {u : Value} {pos : Pos} {Q : Value → Shared → Prop} (I : Inv X pins σ H s) (hg : Gl X x) (hm : X.mg x = none) (hv : bootBuiltins x = some u) (h : Q u s)
    (hn : autoParam (x ≠ "__name__") L2.Internal.auD._auto_1) (hd : autoParam ((x == ("__debug__" : Str)) = false) L2.Internal.auD._auto_1) : wpAny (model X.prog X.w) X.A (eval (.Name x pos) X.env) Q E s := by
  obtain ⟨mb, h1, h2⟩ := I.mod.blt
  exact Calls.Name_function_global I.ok.kind hg (Calls.loadGlobal_builtin (by rw [I.ok.glob]; exact I.mod.glob.keeps I.bk) hm (by rw [I.ok.blt]; exact h1.keeps I.bk) ((h2 x hn).trans hv) h) hd
theorem pe_glob {x : Str} {v : V} {u : Value} {pos : Pos} (hg : Gl X x) (hm : X.mg x = some u) (r : RelV v u) (hd : autoParam ((x == ("__debug__" : Str)) = false) L2.Internal.auD._auto_1) : PE X (.Name x pos) (tC v) :=
  fun _ _ _ H _ I h => ld_glob I hg hm ⟨v, H, I, r, h⟩ hd
theorem pe_bltn {x : Str} {v : V} {u : Value} {pos : Pos} (hg : Gl X x) (hm : X.mg x = none) (hv : bootBuiltins x = some u) (r : RelV v u) (hn : autoParam (x ≠ "__name__") L2.Internal.auD._auto_1) (hd : autoParam ((x == ("__debug__" : Str)) = false) L2.Internal.auD._auto_1) : PE X (.Name x pos) (tC v) :=
  fun _ _ _ H _ I h => ld_blt I hg hm hv ⟨v, H, I, r, h⟩ hn hd

noncomputable def t2I (ta tb : TE) (k : Int → Int → Hp → Prop) : St → Hp → Prop := fun σ H => ta σ H fun x H1 => tb σ H1 fun y H2 => ∃ i j, x = .int i ∧ y = .int j ∧ k i j H2
noncomputable def tAdd (ta tb : TE) : TE := fun σ H Q => t2I ta tb (fun i j H2 => Q (.int (i + j)) H2) σ H
noncomputable def tSub (ta tb : TE) : TE := fun σ H Q => t2I ta tb (fun i j H2 => Q (.int (i - j)) H2) σ H
noncomputable def tMul (ta tb : TE) : TE := fun σ H Q => t2I ta tb (fun i j H2 => (-(2 ^ 64) < i ∧ i < 2 ^ 64) ∧ Q (.int (i * j)) H2) σ H
variable {a b : Expr} {ta tb : TE} {pos : Pos}
noncomputable def PC (X : Cx) (op : CmpOp) (a b : Expr) (t : TE) : Prop :=
  ∀ (pins : List (Addr × Obj)) (s : Shared) (σ : St) (H : Hp) (Q : VK), Inv X pins σ H s → t σ H Q →
    wpAny (model X.prog X.w) X.A (eval a X.env) (fun v s₁ => wpAny (model X.prog X.w) X.A (eval b X.env) (fun u s₂ => wpAny (model X.prog X.w) X.A (compareOp op v u) (EP X pins σ Q) X.xe s₂) X.xe s₁) X.xe s
theorem nobehind (b : Expr) {op : CmpOp} (h : op ≠ .In) (h2 : op ≠ .NotIn) : behindInMarks op b = false := by
  have e1 : (op == CmpOp.In) = false := by cases op <;> first | rfl | exact absurd rfl h
  have e2 : (op == CmpOp.NotIn) = false := by cases op <;> first | rfl | exact absurd rfl h2
  cases b <;> simp [behindInMarks, e1, e2]
noncomputable def tCmp (p : Int → Int → Bool) (ta tb : TE) : TE := fun σ H Q => t2I ta tb (fun i j H2 => Q (.bl (p i j)) H2) σ H
noncomputable abbrev tLt : TE → TE → TE := tCmp fun i j => decide (i < j)
noncomputable abbrev tLe : TE → TE → TE := tCmp fun i j => decide (i ≤ j)
noncomputable abbrev tGt : TE → TE → TE := tCmp fun i j => decide (j < i)
noncomputable abbrev tGe : TE → TE → TE := tCmp fun i j => decide (j ≤ i)
noncomputable abbrev tEqI : TE → TE → TE := tCmp fun i j => decide (i = j)
noncomputable abbrev tNeI : TE → TE → TE := tCmp fun i j => !decide (i = j)
noncomputable def tIsN (ta : TE) : TE := fun σ H Q => ta σ H fun x H1 => Q (.bl (decide (x = .non))) H1
noncomputable def tNotN (ta : TE) : TE := fun σ H Q => ta σ H fun x H1 => Q (.bl (!decide (x = .non))) H1
theorem RelV.none_iff {x : V} {v : Value} (r : RelV x v) : (v == Value.none) = decide (x = .non) := by
  cases x with
  | non => cases r; rfl
  | bl _ => cases r; rfl
  | int _ => obtain ⟨t, rfl⟩ := r; rfl
  | str _ => obtain ⟨t, rfl⟩ := r; rfl
  | byt _ => obtain ⟨t, rfl⟩ := r; rfl
  | flt _ => obtain ⟨t, rfl⟩ := r; rfl
  | ref _ => cases r; rfl
  | ty _ => cases r; rfl
theorem pc_isN {j pos'} (ha : PE X a ta) : PC X .Is a (.Constant .none j pos') (tIsN ta) := by
  intro pins s σ H Q I h
  refine thn (ha pins s σ H _ I h) fun v s1 ⟨x, H1, I1, r1, q1⟩ => ?_
  exact Constant_none (is_none_gen ⟨.bl _, H1, I1, by rw [r1.none_iff]; rfl, q1⟩)
noncomputable def tB (t : TE) : TT := fun σ H Q => t σ H fun x H1 => ∃ c, x = .bl c ∧ Q c H1
theorem pe_cmp {op : CmpOp} {t : TE} (h : PC X op a b t) (h1 : behindInMarks op b = false := by first | exact nobehind _ (by decide) (by decide) | rfl) : PE X (.Compare a [op] [b] pos) t := fun pins s σ H Q I hw => wpAny_Compare1 (h pins s σ H Q I hw) h1
theorem pt_cmp {op : CmpOp} {t : TE} (h : PC X op a b t) (h1 : behindInMarks op b = false := by first | exact nobehind _ (by decide) (by decide) | rfl) : PT X (.Compare a [op] [b] pos) (tB t) := by
  intro pins s σ H Q I hw
  refine wpAny_isTrue_Compare1 (thn (h pins s σ H _ I hw) fun v s1 h1 => thn h1 fun u s2 h2 => thn h2 fun c s3 ⟨x, H1, I1, r1, q1⟩ => ?_) h1
  obtain ⟨d, rfl, q⟩ := q1
  cases r1
  exact wpAny_truthy_bool ⟨H1, I1, q⟩
theorem pt_val {e : Expr} {t : TE} (h : PE X e t) (he : autoParam (∀ whole, isTrue e X.env whole = (do let v ← whole; standAt e.pos; holding [v] (truthy v))) L2.Internal.auI._auto_1) : PT X e (tB t) := by
  intro pins s σ H Q I hw
  refine isTrue_plain (thn (h pins s σ H _ I hw) fun v s1 ⟨x, H1, I1, r1, q1⟩ => ?_) (he _)
  obtain ⟨d, rfl, q⟩ := q1
  cases r1
  exact wpAny_truthy_bool ⟨H1, I1, q⟩

variable {tA tB' : TT} {rest : List Expr}
noncomputable def tAnd (t u : TT) : TT := fun σ H Q => t σ H fun c H1 => if c = true then u σ H1 Q else Q false H1
noncomputable def tOr (t u : TT) : TT := fun σ H Q => t σ H fun c H1 => if c = true then Q true H1 else u σ H1 Q
noncomputable def tNot (t : TT) : TT := fun σ H Q => t σ H fun c H1 => Q (!c) H1
theorem pw_and1 (ha : PT X a tA) : PW X (.BoolOp .And [a] pos) tA := by
  intro wh pins s σ H Q I h
  refine isTrue_and (thn (ha pins s σ H Q I h) fun c s1 e => ?_)
  cases c with
  | true => exact isTrue_and_nil e
  | false => exact e
theorem pw_or1 (ha : PT X a tA) : PW X (.BoolOp .Or [a] pos) tA := by
  intro wh pins s σ H Q I h
  refine isTrue_or (thn (ha pins s σ H Q I h) fun c s1 e => ?_)
  cases c with
  | false => exact isTrue_or_nil e
  | true => exact e
theorem pw_and (ha : PT X a tA) (hb : PW X (.BoolOp .And (b :: rest) pos) tB') : PW X (.BoolOp .And (a :: b :: rest) pos) (tAnd tA tB') := by
  intro wh pins s σ H Q I h
  refine isTrue_and (thn (ha pins s σ H _ I h) fun c s1 ⟨H1, I1, q1⟩ => ?_)
  cases c with
  | true => exact hb wh pins s1 σ H1 Q I1 q1
  | false => exact ⟨H1, I1, q1⟩
theorem pw_or (ha : PT X a tA) (hb : PW X (.BoolOp .Or (b :: rest) pos) tB') : PW X (.BoolOp .Or (a :: b :: rest) pos) (tOr tA tB') := by
  intro wh pins s σ H Q I h
  refine isTrue_or (thn (ha pins s σ H _ I h) fun c s1 ⟨H1, I1, q1⟩ => ?_)
  cases c with
  | true => exact ⟨H1, I1, q1⟩
  | false => exact hb wh pins s1 σ H1 Q I1 q1
theorem pt_not (ha : PT X a tA) : PT X (.UnaryOp .Not a pos) (tNot tA) := by
  intro pins s σ H Q I h
  exact isTrue_not (ha pins s σ H (fun c H1 => Q (!c) H1) I h)
noncomputable def tAndV (ta tb : TE) : TE := fun σ H Q => ta σ H fun x H1 => ∃ c, x = .bl c ∧ if c = true then tb σ H1 Q else Q (.bl false) H1
noncomputable def tOrV (ta tb : TE) : TE := fun σ H Q => ta σ H fun x H1 => ∃ c, x = .bl c ∧ if c = true then Q (.bl true) H1 else tb σ H1 Q
noncomputable def tNotV (ta : TE) : TE := fun σ H Q => ta σ H fun x H1 => ∃ c, x = .bl c ∧ Q (.bl (!c)) H1
theorem pe_one {op} {t : TE} (h : PE X a t) : PE X (.BoolOp op [a] pos) t := fun pins s σ H Q I hw => BoolOp_one (h pins s σ H Q I hw)
theorem pe_and (ha : PE X a ta) (hb : PE X (.BoolOp .And (b :: rest) pos) tb) : PE X (.BoolOp .And (a :: b :: rest) pos) (tAndV ta tb) := by
  intro pins s σ H Q I h
  refine BoolOp_and (thn (ha pins s σ H _ I h) fun v s1 ⟨x, H1, I1, r1, q1⟩ => ?_)
  obtain ⟨c, rfl, q1⟩ := q1
  cases r1
  refine wpAny_truthy_bool ?_
  cases c with
  | true => exact hb pins s1 σ H1 Q I1 q1
  | false => exact ⟨.bl false, H1, I1, rfl, q1⟩
theorem pe_not (ha : PE X a ta) : PE X (.UnaryOp .Not a pos) (tNotV ta) := by
  intro pins s σ H Q I h
  refine UnaryOp_ (thn (ha pins s σ H _ I h) fun v s1 ⟨x, H1, I1, r1, q1⟩ => ?_)
  obtain ⟨c, rfl, q1⟩ := q1
  cases r1
  exact not_of (wpAny_truthy_bool ⟨.bl (!c), H1, I1, rfl, q1⟩)
noncomputable def tIf (t : TT) (ta tb : TE) : TE := fun σ H Q => t σ H fun c H1 => if c = true then ta σ H1 Q else tb σ H1 Q
end
end L2.Internal

namespace L2.Internal
open PySem PySem.Spec PyProof.Rows

noncomputable def SqL (K : PySem.W.Frag) (H : Hp) (a : Addr) (xs : List V) : Prop :=
  Rd H a (.lst xs) ∨
    ∃ (o : Obj) (its : Array Value) (n : Nat), K.lookup a = some o ∧ o.cls = .type "list" ∧ o.dict = none ∧ o.data = .seq its n ∧ its.size ≤ sizeLine ∧ Vals xs its.toList
noncomputable def SqT (K : PySem.W.Frag) (H : Hp) (a : Addr) (xs : List V) : Prop :=
  Rd H a (.tup xs) ∨
    ∃ (o : Obj) (its : Array Value) (n : Nat), K.lookup a = some o ∧ o.cls = .type "tuple" ∧ o.data = .seq its n ∧ its.size ≤ sizeLine ∧ Vals xs its.toList
noncomputable def absV : Value → Option V
  | .none => some .non
  | .bool b => some (.bl b)
  | .int i _ => some (.int i)
  | .str x _ => some (.str x)
  | .bytes b _ => some (.byt b)
  | .float b _ => some (.flt b)
  | .ref a => some (.ref a)
  | .type n => some (.ty n)
  | _ => none
theorem RelV.abs {x : V} {u : Value} (r : RelV x u) : absV u = some x := by
  cases x with
  | non => cases r; rfl
  | bl _ => cases r; rfl
  | int _ => obtain ⟨t, rfl⟩ := r; rfl
  | str _ => obtain ⟨t, rfl⟩ := r; rfl
  | byt _ => obtain ⟨t, rfl⟩ := r; rfl
  | flt _ => obtain ⟨t, rfl⟩ := r; rfl
  | ref _ => cases r; rfl
  | ty _ => cases r; rfl
theorem RelV.inj {x y : V} {u : Value} (r : RelV x u) (q : RelV y u) : x = y := Option.some.inj (r.abs.symm.trans q.abs)
theorem Vals.inj : ∀ {xs ys : List V} {us : List Value}, Vals xs us → Vals ys us → xs = ys
  | _, _, _, .nil, .nil => rfl
  | _, _, _, .cons r t, .cons r' t' => by rw [r.inj r', Vals.inj t t']
section
variable {X : Cx} {pins : List (Addr × Obj)} {σ : St} {H : Hp} {s : Shared} {a : Addr} {xs ys : List V}
theorem SqL.of {K : PySem.W.Frag} (h : H a = some (.lst xs)) : SqL K H a xs := .inl (.inl h)
theorem SqT.of {K : PySem.W.Frag} (h : H a = some (.tup xs)) : SqT K H a xs := .inl (.inl h)
theorem Inv.list (I : Inv X pins σ H s) (h : SqL X.K H a xs) : ∃ its : List Value, Vals xs its ∧ PlainL s.heap a its.toArray ∧ xs.length ≤ sizeLine := by
  rcases h with h | ⟨o, its, n, hk, hc, hd, hs, hz, r⟩
  · obtain ⟨z, its, n, r, e⟩ := h.ok I.hok
    exact ⟨its, r, ⟨_, n, e, rfl, rfl, rfl⟩, z⟩
  · refine ⟨its.toList, r, ⟨o, n, I.kIn a o hk, hc, hd, by simpa using hs⟩, ?_⟩
    have e := r.length
    simp only [Array.length_toList] at e
    omega
theorem Inv.tuple (I : Inv X pins σ H s) (h : SqT X.K H a xs) : ∃ its : List Value, Vals xs its ∧ IsTup s.heap a its.toArray ∧ xs.length ≤ sizeLine := by
  rcases h with h | ⟨o, its, n, hk, hc, hs, hz, r⟩
  · obtain ⟨z, its, r, p⟩ := h.ok I.hok
    exact ⟨its, r, p.tup, z⟩
  · refine ⟨its.toList, r, ⟨o, I.kIn a o hk, hc, n, by simpa using hs⟩, ?_⟩
    have e := r.length
    simp only [Array.length_toList] at e
    omega
theorem Inv.list_inj (I : Inv X pins σ H s) (h : SqL X.K H a xs) (h' : SqL X.K H a ys) : xs = ys := by
  obtain ⟨its, r, ⟨o, n, e, _, _, d⟩, _⟩ := I.list h
  obtain ⟨its', r', ⟨o', n', e', _, _, d'⟩, _⟩ := I.list h'
  rw [e] at e'; cases e'
  rw [d] at d'
  injection d' with d1 _
  have : its = its' := by simpa using congrArg Array.toList d1
  subst this
  exact r.inj r'
theorem Inv.tuple_inj (I : Inv X pins σ H s) (h : SqT X.K H a xs) (h' : SqT X.K H a ys) : xs = ys := by
  obtain ⟨its, r, ⟨o, e, _, n, d⟩, _⟩ := I.tuple h
  obtain ⟨its', r', ⟨o', e', _, n', d'⟩, _⟩ := I.tuple h'
  rw [e] at e'; cases e'
  rw [d] at d'
  injection d' with d1 _
  have : its = its' := by simpa using congrArg Array.toList d1
  subst this
  exact r.inj r'
end

noncomputable abbrev Cx.wish (X : Cx) (E : Value → Shared → Prop) : Cx := { X with xe := E }
noncomputable abbrev Cx.nox (X : Cx) : Cx := X.wish fun _ _ => False
theorem Cx.Ok.wish {X : Cx} (ok : X.Ok) (E : Value → Shared → Prop) : (X.wish E).Ok :=
  ⟨ok.mod, ok.kind, ok.glob, ok.blt, ok.above, ok.inj, ok.has, ok.cab, ok.hd, ok.frames, ok.stk, ok.exf, ok.bs, ok.bsz, ok.noex, ok.exfs, ok.funs, ok.frf⟩
theorem Cx.Ok.unwish {X : Cx} {E : Value → Shared → Prop} (ok : (X.wish E).Ok) : X.Ok :=
  ⟨ok.mod, ok.kind, ok.glob, ok.blt, ok.above, ok.inj, ok.has, ok.cab, ok.hd, ok.frames, ok.stk, ok.exf, ok.bs, ok.bsz, ok.noex, ok.exfs, ok.funs, ok.frf⟩
section
variable {X : Cx} {pins : List (Addr × Obj)} {σ : St} {H : Hp} {s : Shared} {E : Value → Shared → Prop}
theorem Inv.wish (I : Inv X pins σ H s) (E : Value → Shared → Prop) : Inv (X.wish E) pins σ H s := ⟨I.ok.wish E, I.os, I.bare, I.base, I.loc, I.cell, I.free, I.freeC, I.pin, I.hok, I.len⟩
theorem Inv.unwish (I : Inv (X.wish E) pins σ H s) : Inv X pins σ H s := ⟨I.ok.unwish, I.os, I.bare, I.base, I.loc, I.cell, I.free, I.freeC, I.pin, I.hok, I.len⟩
theorem SP.unwish {D : Ends} {f : Flow} {s' : Shared} (h : SP (X.wish E) pins D f s') : SP X pins D f s' := by
  cases f with
  | next => obtain ⟨σ', H', I, q⟩ := h; exact ⟨σ', H', I.unwish, q⟩
  | brk => obtain ⟨σ', H', I, q⟩ := h; exact ⟨σ', H', I.unwish, q⟩
  | cont => obtain ⟨σ', H', I, q⟩ := h; exact ⟨σ', H', I.unwish, q⟩
  | ret u => obtain ⟨v, σ', H', I, r, q⟩ := h; exact ⟨v, σ', H', I.unwish, r, q⟩
theorem PSs.nox {st : List Stmt} {t : TS} (h : PSs X.nox st t) : PSs X st t := fun pins s σ H D I hw =>
  wpAny_mono (h pins s σ H D (I.wish _) hw) (fun _ _ q => q.unwish) fun _ _ z => False.elim z
end

section
variable {X : Cx} {st : Stmt} {rest : List Stmt} {t u : TS} {e : Expr} {te : TE} {pos : Pos}
noncomputable def tNext : TS := fun D σ H => D.nx σ H
noncomputable def tSeq (t u : TS) : TS := fun D σ H => t { D with nx := u D } σ H
theorem pss_nil : PSs X [] tNext := fun _ _ σ H _ I h => wpAny_execs_nil ⟨σ, H, I, h⟩
theorem pss_cons (h1 : PS X st t) (h2 : PSs X rest u) : PSs X (st :: rest) (tSeq t u) := by
  intro pins s σ H D I h
  refine wpAny_execs_cons (thn (h1 pins s σ H { D with nx := u D } I h) fun f s1 q => ?_)
  cases f with
  | next =>
    obtain ⟨σ', H', I', q⟩ := q
    exact h2 pins s1 σ' H' D I' q
  | ret v => exact q
  | brk => exact q
  | cont => exact q
theorem pss_one (h1 : PS X st t) : PSs X [st] t := by
  intro pins s σ H D I h
  refine wpAny_execs_cons (thn (h1 pins s σ H D I h) fun f s1 q => ?_)
  cases f with
  | next => exact wpAny_execs_nil q
  | ret v => exact q
  | brk => exact q
  | cont => exact q
noncomputable def tBreak : TS := fun D σ H => D.bk σ H
noncomputable def tCont : TS := fun D σ H => D.ct σ H
theorem Inv.quiet {pins : List (Addr × Obj)} {σ : St} {H : Hp} {s : Shared} (I : Inv X pins σ H s) : interactive X.env = false := by simp [interactive, I.ok.kind]
noncomputable def tDrop (te : TE) : TS := fun D σ H => te σ H fun _ H1 => D.nx σ H1
theorem ps_expr (he : PE X e te) (hs : autoParam (swapsWith e none pos.line X.env = pure false) L2.Internal.auR._auto_1) : PS X (.Expr e pos) (tDrop te) := by
  intro pins s σ H D I h
  exact wpAny_Expr_any (thn (he pins s σ H _ I h) fun v s1 ⟨x, H1, I1, r1, q1⟩ => ⟨σ, H1, I1, q1⟩) I.quiet hs
noncomputable def tRet (te : TE) : TS := fun D σ H => te σ H D.rt
theorem ps_ret (he : PE X e te) : PS X (.Return (some e) pos) (tRet te) := by
  intro pins s σ H D I h
  exact wpAny_Return_some (thn (he pins s σ H _ I h) fun v s1 ⟨x, H1, I1, r1, q1⟩ => ⟨x, σ, H1, I1, r1, q1⟩)
noncomputable def tRetN : TS := fun D _ H => D.rt .non H
noncomputable def tIfS (c : TT) (t u : TS) : TS := fun D σ H => c σ H fun b H1 => if b = true then t D σ H1 else u D σ H1
theorem ps_if {c : Expr} {a b : List Stmt} {tc : TT} (hc : PT X c tc) (ha : PSs X a t) (hb : PSs X b u) : PS X (.If c a b pos) (tIfS tc t u) := by
  intro pins s σ H D I h
  refine wpAny_If (thn (hc pins s σ H _ I h) fun d s1 ⟨H1, I1, q1⟩ => ?_)
  cases d with
  | true => exact ha pins s1 σ H1 D I1 q1
  | false => exact hb pins s1 σ H1 D I1 q1
noncomputable def tNever : TS := fun _ _ _ => False
end

noncomputable abbrev TG := V → St → Hp → (St → Hp → Prop) → Prop
noncomputable abbrev TGs := List V → St → Hp → (St → Hp → Prop) → Prop
noncomputable def PG (X : Cx) (target : Expr) (t : TG) : Prop :=
  ∀ (pins : List (Addr × Obj)) (s : Shared) (σ : St) (H : Hp) (v : V) (u : Value) (Q : St → Hp → Prop), Inv X pins σ H s → RelV v u → t v σ H Q →
    wpAny (model X.prog X.w) X.A (assign target X.env u) (fun _ s' => ∃ σ' H', Inv X pins σ' H' s' ∧ Q σ' H') X.xe s
noncomputable def PGs (X : Cx) (ts : List Expr) (t : TGs) : Prop :=
  ∀ (pins : List (Addr × Obj)) (s : Shared) (σ : St) (H : Hp) (vs : List V) (us : List Value) (Q : St → Hp → Prop), Inv X pins σ H s → Vals vs us → t vs σ H Q →
    wpAny (model X.prog X.w) X.A (assignInOrder ((assignEach ts X.env).map (·.2)) us) (fun _ s' => ∃ σ' H', Inv X pins σ' H' s' ∧ Q σ' H') X.xe s
noncomputable abbrev TSet := V → V → V → Hp → (Hp → Prop) → Prop
noncomputable def PSet (X : Cx) (t : TSet) : Prop :=
  ∀ (pins : List (Addr × Obj)) (s : Shared) (σ : St) (H : Hp) (o i v : V) (ov iv u : Value) (Q : Hp → Prop), Inv X pins σ H s → RelV o ov → RelV i iv → RelV v u → t o i v H Q →
    wpAny (model X.prog X.w) X.A (setItem ov iv u) (fun _ s' => ∃ H', Inv X pins σ H' s' ∧ Q H') X.xe s
noncomputable abbrev TIp := V → V → Hp → VK → Prop
noncomputable def PIp (X : Cx) (op : Operator) (t : TIp) : Prop :=
  ∀ (pins : List (Addr × Obj)) (s : Shared) (σ : St) (H : Hp) (x y : V) (v u : Value) (Q : VK), Inv X pins σ H s → RelV x v → RelV y u → t x y H Q →
    wpAny (model X.prog X.w) X.A (inplaceOp op v u) (EP X pins σ Q) X.xe s
section
variable {X : Cx} {pos : Pos}
noncomputable def gName (i : Nat) : TG := fun v σ H Q => Q (σ.set i (some v)) H
theorem pg_name {i : Nat} {x : Str} (hN : X.N.Nodup) (hi : X.N[i]? = some x) (hx : Loc X.env.scope x) (hf : autoParam (X.fn x = true ∨ X.env.scope.names.lookup x = some .local) L2.Internal.auL._auto_1) : PG X (.Name x pos) (gName i) := by
  intro pins s σ H v u Q I r h
  exact wpAny_assign_Name (store_ok I hN hi hx r (fun s' I' => ⟨_, H, I', h⟩) hf)
noncomputable def gNil : TGs := fun vs σ H Q => vs = [] ∧ Q σ H
noncomputable def gCons (t : TG) (u : TGs) : TGs := fun vs σ H Q => ∃ v r, vs = v :: r ∧ t v σ H fun σ' H' => u r σ' H' Q
theorem pgs_nil : PGs X [] gNil := by
  intro pins s σ H vs us Q I r h
  obtain ⟨e, h⟩ := h
  subst e
  cases r
  exact assignInOrder_nil ⟨σ, H, I, h⟩
theorem pgs_cons {e : Expr} {es : List Expr} {t : TG} {u : TGs} (h1 : PG X e t) (h2 : PGs X es u)
    (hs : autoParam ((assignEach (e :: es) X.env).map (·.2) = assign e X.env :: (assignEach es X.env).map (·.2)) L2.Internal.auR._auto_1) : PGs X (e :: es) (gCons t u) := by
  intro pins s σ H vs us Q I r h
  obtain ⟨v, vr, e1, h⟩ := h
  subst e1
  cases r with
  | cons r rr =>
    rw [hs]
    refine assignInOrder_cons (thn (h1 pins s σ H _ _ _ I r h) fun _ s1 ⟨σ1, H1, I1, q1⟩ => ?_)
    exact h2 pins s1 σ1 H1 _ _ Q I1 rr q1
noncomputable def gTup (K : PySem.W.Frag) (n : Nat) (t : TGs) : TG := fun v σ H Q => ∃ a xs, v = .ref a ∧ SqT K H a xs ∧ xs.length = n ∧ t xs σ H Q
theorem pg_tup {es : List Expr} {k : Nat} {t : TGs} {n : Nat} (hc : X.calm = true) (h : PGs X es t)
    (hn : autoParam ((assignEach es X.env).length = n) L2.Internal.auR._auto_1) (hst : autoParam ((assignEach es X.env).findIdx? (·.1) = none) L2.Internal.auR._auto_1) : PG X (.Tuple es k pos) (gTup X.K n t) := by
  intro pins s σ H v u Q I r hw
  obtain ⟨a, xs, e1, hq, hl, hw⟩ := hw
  subst e1
  cases r
  obtain ⟨its, rv, ht, hz⟩ := I.tuple hq
  refine assign_Tuple_tuple (I.ok.hd hc) ht (by simp [hn, ← hl, rv.length]) hst fun h' hx => ?_
  have I1 : Inv X pins σ H { s with heap := h' } := I.kept (t' := s.toks) fun b o e => hx b o (Nat.ne_of_lt (Heap.lt_size e)) e
  exact h pins _ σ H xs _ Q I1 (by simpa using rv) hw
noncomputable def gSub (to ti : TE) (t : TSet) : TG := fun v σ H Q => to σ H fun o H1 => ti σ H1 fun i H2 => t o i v H2 fun H3 => Q σ H3
noncomputable def tAsg (te : TE) (g : TG) : TS := fun D σ H => te σ H fun x H1 => g x σ H1 D.nx
theorem ps_set {i : Nat} {x : Str} {e : Expr} {te : TE} {pos' : Pos} (hN : X.N.Nodup) (hi : X.N[i]? = some x) (hx : Loc X.env.scope x) (he : PE X e te) (hs : autoParam (swapsWith e (some (.Name x pos')) pos.line X.env = pure false) L2.Internal.auR._auto_1) (hf : autoParam (X.fn x = true ∨ X.env.scope.names.lookup x = some .local) L2.Internal.auL._auto_1) :
    PS X (.Assign [.Name x pos'] e pos) (tAsg te (gName i)) := by
  intro pins s σ H D I h
  refine wpAny_Assign_Name (thn (he pins s σ H _ I h) fun v s1 ⟨y, H1, I1, r1, q1⟩ => ?_) hs
  exact store_ok I1 hN hi hx r1 (fun s2 I2 => ⟨_, H1, I2, q1⟩) hf
noncomputable def tPar (i j : Nat) (ta : TA) : TS := fun D σ H => ta σ H fun vs H1 => ∃ v w, vs = [v, w] ∧ D.nx ((σ.set i (some v)).set j (some w)) H1
noncomputable def tAug (i : Nat) (te : TE) (ti : TIp) : TS := fun D σ H => ∃ x, σ[i]? = some (some x) ∧ te σ H fun y H1 => ti x y H1 fun z H2 => D.nx (σ.set i (some z)) H2
noncomputable def tAugS (to ti te : TE) (tget : V → V → Hp → VK → Prop) (tip : TIp) (tset : TSet) : TS := fun D σ H => to σ H fun o H1 => ti σ H1 fun i H2 => tget o i H2 fun x H3 => te σ H3 fun y H4 => tip x y H4 fun z H5 => tset o i z H5 fun H6 => D.nx σ H6
noncomputable def PGet (X : Cx) (t : V → V → Hp → VK → Prop) : Prop :=
  ∀ (pins : List (Addr × Obj)) (s : Shared) (σ : St) (H : Hp) (o i : V) (ov iv : Value) (Q : VK), Inv X pins σ H s → RelV o ov → RelV i iv → t o i H Q →
    wpAny (model X.prog X.w) X.A (getItem ov iv) (EP X pins σ Q) X.xe s
noncomputable def ipI (f : Int → Int → Int) : TIp := fun x y H Q => ∃ i j, x = .int i ∧ y = .int j ∧ Q (.int (f i j)) H
end

section
variable {X : Cx} {pos : Pos}
noncomputable def tWhile (c : TT) (tb : TS) : TS := fun D σ H => ∃ W : Nat → St → Hp → Prop, (∃ m, W m σ H) ∧ ∀ m σ H, W m σ H →
  c σ H fun b H1 => if b = true then ∃ N : St → Hp → Prop, (∀ σ' H', N σ' H' → ∃ m', m' < m ∧ W m' σ' H') ∧ tb { D with nx := N, ct := N, bk := D.nx } σ H1 else D.nx σ H1
end

structure It where
  go : Nat → Hp → Prop
  yld : Nat → Hp → V → Hp → Prop
  stop : Nat → Hp → Prop
noncomputable def FpOk (X : Cx) (pins : List (Addr × Obj)) (H : Hp) (b : Addr) : Prop :=
  H b = none ∧ b ≠ X.env.locals ∧ b ∉ X.fs ∧ (b ∈ X.ex ∨ X.s₀.heap.objs.size ≤ b) ∧ (∀ x c, X.env.cells.lookup x = some c → c ≠ b) ∧ ∀ p ∈ X.pn ++ pins, p.1 ≠ b
theorem Inv.fpOk {X : Cx} {pins : List (Addr × Obj)} {σ : St} {H H' : Hp} {s : Shared} {b : Addr} (I : Inv X pins σ H s) (hb : s.heap.objs.size ≤ b) (hn : H' b = none) : FpOk X pins H' b := by
  refine ⟨hn, Nat.ne_of_gt (Nat.lt_of_lt_of_le I.lt hb), I.nofs hb, .inr (Nat.le_trans I.sz hb), fun x c e z => ?_, fun p hp z => ?_⟩
  · obtain ⟨v, q⟩ := I.cell x c e
    exact absurd (Nat.lt_of_lt_of_le q.lt (by rw [z]; exact hb)) (Nat.lt_irrefl _)
  · exact absurd (Nat.lt_of_lt_of_le (Heap.lt_size (I.pin p hp).1) (by rw [z]; exact hb)) (Nat.lt_irrefl _)
structure Turn (P : Program) (w : World) (K : PySem.W.Frag) (tg : Expr) (J : It) (fp : List Addr) (it : Addr) (tn : Nat → Heap → Prop) : Prop where
  mem : it ∈ fp
  obj : ∀ i h, tn i h → ∀ b ∈ fp, ∃ o, h.get? b = some o ∧ ∀ v, o.data ≠ .cell v
  keep : ∀ i h h', tn i h → (∀ b ∈ fp, ∀ o, h.get? b = some o → h'.get? b = some o) → tn i h'
  item : ∀ (X : Cx), X.prog = P → X.w = w → X.K = K → X.calm = true → ∀ (i : Nat) (pins : List (Addr × Obj)) (s : Shared) (σ : St) (H : Hp) (E : Value → Shared → Prop), Inv X pins σ H s → (∀ b ∈ fp, FpOk X pins H b) → tn i s.heap → J.go i H →
    wpAny (model P w) X.A (pyNext (.ref it)) (fun r s1 => ∃ u, r = some u ∧
      wpAny (model P w) X.A (letOwnedTupleGo tg (.ref it) u) (fun _ s2 => ∃ x H', Inv X pins σ H' s2 ∧ RelV x u ∧ J.yld i H x H' ∧ tn (i + 1) s2.heap ∧ ∀ b ∈ fp, H' b = none) E s1) E s
  done : ∀ (X : Cx), X.prog = P → X.w = w → X.K = K → X.calm = true → ∀ (i : Nat) (pins : List (Addr × Obj)) (s : Shared) (σ : St) (H : Hp) (E : Value → Shared → Prop), Inv X pins σ H s → (∀ b ∈ fp, FpOk X pins H b) → tn i s.heap → J.stop i H →
    wpAny (model P w) X.A (pyNext (.ref it)) (fun r s1 => r = none ∧ Inv X pins σ H s1) E s
  self : ∀ (A : Around) (i : Nat) (s : Shared) (Q : Value → Shared → Prop) (E : Value → Shared → Prop), tn i s.heap → Q (.ref it) s → wpAny (model P w) A (pyIter (.ref it)) Q E s
noncomputable abbrev TI := St → Hp → (It → Hp → Prop) → Prop
noncomputable def PIE (X : Cx) (pins : List (Addr × Obj)) (σ : St) (tg : Expr) (R : It → Hp → Prop) (itv : Value) (s2 : Shared) : Prop :=
  ∃ (it : Addr) (fp : List Addr) (tn : Nat → Heap → Prop) (J : It) (H' : Hp), itv = .ref it ∧ Inv X pins σ H' s2 ∧ Turn X.prog X.w X.K tg J fp it tn ∧ tn 0 s2.heap ∧ (∀ b ∈ fp, FpOk X pins H' b) ∧ R J H'
noncomputable def PI (X : Cx) (tg iter : Expr) (wi : TI) : Prop :=
  ∀ (pins : List (Addr × Obj)) (s : Shared) (σ : St) (H : Hp) (R : It → Hp → Prop), Inv X pins σ H s → wi σ H R →
    wpAny (model X.prog X.w) X.A (eval iter X.env) (fun v s1 => wpAny (model X.prog X.w) X.A (pyIter v) (PIE X pins σ tg R) X.xe s1) X.xe s

theorem go_of {M : Model} {A : Around} {E : Value → Shared → Prop} {s : Shared} {tg : Expr} {it : Addr} {u : Value} {o : Obj} {n : String} {vs : Array Value} {Q : Unit → Shared → Prop} (ho : s.heap.get? it = some o) (hc : o.cls = .type n) (hd : o.data = .fields vs)
    (hn : ["enumerate", "zip", "dict_itemiterator", "dict_reverseitemiterator", "odict_iterator", "itertools.zip_longest", "itertools.pairwise"].contains n = false) (hQ : Q () s) : wpAny M A (letOwnedTupleGo tg (.ref it) u) Q E s := by
  unfold letOwnedTupleGo
  cases tg <;> first
    | exact wpAny_pure hQ
    | (cases u <;> first
        | exact wpAny_pure hQ
        | (refine wpAny_bind (wpAny_load ho ?_)
           rw [hc, hd]
           show wpAny M A (if (["enumerate", "zip", "dict_itemiterator", "dict_reverseitemiterator", "odict_iterator", "itertools.zip_longest", "itertools.pairwise"].contains n && vs[0]? == some (rawInt _)) = true then _ else _) Q E s
           rw [if_neg (by intro h; rw [hn, Bool.false_and] at h; cases h)]
           exact wpAny_pure hQ))

noncomputable def Itl (K : PySem.W.Frag) (a : Addr) : It :=
  ⟨fun i H => ∃ xs x, SqL K H a xs ∧ xs[i]? = some x, fun i H x H' => H' = H ∧ ∀ xs, SqL K H a xs → xs[i]? = some x, fun i H => ∃ xs, SqL K H a xs ∧ xs.length ≤ i⟩
noncomputable def Itt (K : PySem.W.Frag) (a : Addr) : It :=
  ⟨fun i H => ∃ xs x, SqT K H a xs ∧ xs[i]? = some x, fun i H x H' => H' = H ∧ ∀ xs, SqT K H a xs → xs[i]? = some x, fun i H => ∃ xs, SqT K H a xs ∧ xs.length ≤ i⟩
noncomputable def Itr (lo : Int) (n : Nat) : It := ⟨fun i _ => i < n, fun i H x H' => H' = H ∧ x = .int (lo + i), fun i _ => n ≤ i⟩
theorem turn_list {P : Program} {w : World} {K : PySem.W.Frag} {tg : Expr} (a it : Addr) : Turn P w K tg (Itl K a) [it] it (fun i h => h.IsListIter it a i) where
  mem := by simp
  obj := fun i h st b hb => by
    have e : b = it := by simpa using hb
    subst e
    obtain ⟨o, e, c, d⟩ := st
    exact ⟨o, e, fun v z => by rw [d] at z; cases z⟩
  keep := fun i h h' st k => st.at fun o e => k it (by simp) o e
  item := by
    intro X hP hw hK hc i pins s σ H E I hf st hg
    subst hP hw hK
    obtain ⟨xs, x, hq, hx⟩ := hg
    obtain ⟨its, rv, p, hz⟩ := I.list hq
    obtain ⟨u, hu, ru⟩ := rv.get hx
    obtain ⟨f0, f1, f2, f3, f4, f5⟩ := hf it (by simp)
    refine wpAny_pyNext_list_item st p.isList (x := u) (by simpa using hu) fun h' st' sb => ?_
    have I1 : Inv X pins σ H { s with heap := h' } := I.turned (t' := s.toks) (fun b o hb e => (sb.2 b hb).trans e) f0 f1 f3 f4 f5
    obtain ⟨o, e, c, d⟩ := id st'
    exact ⟨u, rfl, go_of (s := { s with heap := h' }) e c d (by decide) ⟨x, H, I1, ru, ⟨rfl, fun ys hy => by rw [I.list_inj hy hq]; exact hx⟩, st', fun b hb => (hf b hb).1⟩⟩
  done := by
    intro X hP hw hK hc i pins s σ H E I hf st hg
    subst hP hw hK
    obtain ⟨xs, hq, hx⟩ := hg
    obtain ⟨its, rv, p, hz⟩ := I.list hq
    obtain ⟨f0, f1, f2, f3, f4, f5⟩ := hf it (by simp)
    have hl := rv.length
    exact wpAny_pyNext_list_end (I.ok.hd hc) st p.isList (by simp; omega) fun h' eb => ⟨rfl, I.turned (t' := s.toks) (fun b o hb e => eb b o hb e) f0 f1 f3 f4 f5⟩
  self := fun _ _ _ _ _ st h => wpAny_pyIter_listiter st h
theorem turn_tuple {P : Program} {w : World} {K : PySem.W.Frag} {tg : Expr} (a it : Addr) : Turn P w K tg (Itt K a) [it] it (fun i h => h.IsTupleIter it a i) where
  mem := by simp
  obj := fun i h st b hb => by
    have e : b = it := by simpa using hb
    subst e
    obtain ⟨o, e, c, d⟩ := st
    exact ⟨o, e, fun v z => by rw [d] at z; cases z⟩
  keep := fun i h h' st k => st.at fun o e => k it (by simp) o e
  item := by
    intro X hP hw hK hc i pins s σ H E I hf st hg
    subst hP hw hK
    obtain ⟨xs, x, hq, hx⟩ := hg
    obtain ⟨its, rv, p, hz⟩ := I.tuple hq
    obtain ⟨u, hu, ru⟩ := rv.get hx
    obtain ⟨f0, f1, f2, f3, f4, f5⟩ := hf it (by simp)
    refine wpAny_pyNext_tuple_item st (show s.heap.IsTuple a its.toArray from p) (x := u) (by simpa using hu) fun h' st' sb => ?_
    have I1 : Inv X pins σ H { s with heap := h' } := I.turned (t' := s.toks) (fun b o hb e => (sb.2 b hb).trans e) f0 f1 f3 f4 f5
    obtain ⟨o, e, c, d⟩ := id st'
    exact ⟨u, rfl, go_of (s := { s with heap := h' }) e c d (by decide) ⟨x, H, I1, ru, ⟨rfl, fun ys hy => by rw [I.tuple_inj hy hq]; exact hx⟩, st', fun b hb => (hf b hb).1⟩⟩
  done := by
    intro X hP hw hK hc i pins s σ H E I hf st hg
    subst hP hw hK
    obtain ⟨xs, hq, hx⟩ := hg
    obtain ⟨its, rv, p, hz⟩ := I.tuple hq
    obtain ⟨f0, f1, f2, f3, f4, f5⟩ := hf it (by simp)
    have hl := rv.length
    exact wpAny_pyNext_tuple_end (I.ok.hd hc) st (show s.heap.IsTuple a its.toArray from p) (by simp; omega) fun h' eb => ⟨rfl, I.turned (t' := s.toks) (fun b o hb e => eb b o hb e) f0 f1 f3 f4 f5⟩
  self := fun _ _ _ _ _ st h => wpAny_pyIter_tupleiter st h
theorem turn_range {P : Program} {w : World} {K : PySem.W.Frag} {tg : Expr} (it : Addr) (lo : Int) (n : Nat) : Turn P w K tg (Itr lo n) [it] it (fun i h => IsRangeIter h it (lo + (i : Nat) * 1) ((n : Int) - (i : Nat)) 1) where
  mem := by simp
  obj := fun i h st b hb => by
    have e : b = it := by simpa using hb
    subst e
    exact ⟨_, st, fun v z => by
      have z' : Data.fields _ = Data.cell v := z
      cases z'⟩
  keep := fun i h h' st k => k it (by simp) _ st
  item := by
    intro X hP hw hK hc i pins s σ H E I hf st hg
    subst hP hw hK
    obtain ⟨f0, f1, f2, f3, f4, f5⟩ := hf it (by simp)
    have W := Walks.range (prog := X.prog) (w := X.w) (I.ok.hd hc) it lo 1 n
    refine W.item i s _ _ hg st fun v h' tk hv st' kk => ?_
    obtain ⟨t, rfl⟩ := hv
    have I1 : Inv X pins σ H { s with heap := h', toks := tk } := I.turned (fun b o hb e => kk b o (by simpa using hb) e) f0 f1 f3 f4 f5
    refine ⟨_, rfl, go_of (s := { s with heap := h', toks := tk }) (n := "range_iterator") st' rfl rfl (by decide) ⟨.int (lo + i), H, I1, ⟨t, ?_⟩, ⟨rfl, rfl⟩, st', fun b hb => (hf b hb).1⟩⟩
    rw [Int.mul_one]
  done := by
    intro X hP hw hK hc i pins s σ H E I hf st hg
    subst hP hw hK
    obtain ⟨f0, f1, f2, f3, f4, f5⟩ := hf it (by simp)
    exact wpAny_pyNext_range_end (I.ok.hd hc) st (by have : n ≤ i := hg; omega) fun h' eb => ⟨rfl, I.turned (t' := s.toks) (fun b o hb e => eb b o hb e) f0 f1 f3 f4 f5⟩
  self := fun _ _ _ _ _ st h => wpAny_pyIter_rangeiter st h
end L2.Internal

namespace L2.Internal
open PySem PySem.Spec PyProof.Rows
section
variable {X : Cx} {tg : Expr}
noncomputable def iList (K : PySem.W.Frag) (tl : TE) : TI := fun σ H R => tl σ H fun x H1 => ∃ a, x = .ref a ∧ (∃ xs, SqL K H1 a xs) ∧ R (Itl K a) H1
noncomputable def iTup (K : PySem.W.Frag) (tl : TE) : TI := fun σ H R => tl σ H fun x H1 => ∃ a, x = .ref a ∧ (∃ xs, SqT K H1 a xs) ∧ R (Itt K a) H1
theorem pi_list {l : Expr} {tl : TE} (hl : PE X l tl) : PI X tg l (iList X.K tl) := by
  intro pins s σ H R I h
  refine thn (hl pins s σ H _ I h) fun v s1 ⟨x, H1, I1, r1, q1⟩ => ?_
  obtain ⟨a, e, ⟨xs, hq⟩, q⟩ := q1
  subst e
  cases r1
  obtain ⟨its, rv, p, hz⟩ := I1.list hq
  refine wpAny_pyIter_list p.isList ?_
  refine ⟨s1.heap.objs.size, [s1.heap.objs.size], _, _, H1, rfl, I1.kept (t' := s1.toks) fun b o e => Heap.get?_push_of_some _ e, turn_list a _, ⟨_, Heap.get?_push_size _ rfl, rfl, rfl⟩, fun b hb => ?_, q⟩
  have e : b = s1.heap.objs.size := by simpa using hb
  subst e
  exact I1.fpOk (Nat.le_refl _) (I1.hok.fresh (Nat.le_refl _))
theorem pi_tup {l : Expr} {tl : TE} (hl : PE X l tl) : PI X tg l (iTup X.K tl) := by
  intro pins s σ H R I h
  refine thn (hl pins s σ H _ I h) fun v s1 ⟨x, H1, I1, r1, q1⟩ => ?_
  obtain ⟨a, e, ⟨xs, hq⟩, q⟩ := q1
  subst e
  cases r1
  obtain ⟨its, rv, p, hz⟩ := I1.tuple hq
  refine wpAny_pyIter_tuple (show s1.heap.IsTuple a its.toArray from p) ?_
  refine ⟨s1.heap.objs.size, [s1.heap.objs.size], _, _, H1, rfl, I1.kept (t' := s1.toks) fun b o e => Heap.get?_push_of_some _ e, turn_tuple a _, ⟨_, Heap.get?_push_size _ rfl, rfl, rfl⟩, fun b hb => ?_, q⟩
  have e : b = s1.heap.objs.size := by simpa using hb
  subst e
  exact I1.fpOk (Nat.le_refl _) (I1.hok.fresh (Nat.le_refl _))
theorem range_it {pins : List (Addr × Obj)} {σ : St} {H : Hp} {s : Shared} {R : It → Hp → Prop} {E : Value → Shared → Prop} {lo hi : Int} {t u v : Tok} {tk : Nat} (I : Inv X pins σ H s) (h1 : -(2 ^ 62) ≤ lo) (h2 : lo < 2 ^ 62) (h3 : -(2 ^ 62) ≤ hi) (h4 : hi < 2 ^ 62)
    (q : R (Itr lo (hi - lo).toNat) H) : wpAny (model X.prog X.w) X.A (pyIter (.ref s.heap.objs.size)) (PIE X pins σ tg R) E { s with heap := s.heap.push { cls := .type "range", data := .fields #[.int lo t, .int hi u, .int 1 v] }, toks := tk } := by
  refine wpAny_pyIter_range (IsRange.new ..) (small_one h1 h2 h3 h4) ?_
  have I1 : Inv X pins σ H { s with heap := s.heap.push { cls := .type "range", data := .fields #[.int lo t, .int hi u, .int 1 v] }, toks := tk } := I.kept fun b o e => Heap.get?_push_of_some _ e
  refine ⟨(s.heap.push { cls := .type "range", data := .fields #[.int lo t, .int hi u, .int 1 v] }).objs.size, [(s.heap.push { cls := .type "range", data := .fields #[.int lo t, .int hi u, .int 1 v] }).objs.size], _, _, H, rfl,
    I1.kept (t' := tk) fun b o e => Heap.get?_push_of_some _ e, turn_range _ lo (hi - lo).toNat, ?_, fun b hb => ?_, q⟩
  · have e1 : lo + ((0 : Nat) : Int) * 1 = lo := by simp
    have e2 : (((hi - lo).toNat : Nat) : Int) - ((0 : Nat) : Int) = Builtin.Range.rangeSize lo hi 1 := by rw [rangeSize_one]; split <;> omega
    show IsRangeIter _ _ (lo + ((0 : Nat) : Int) * 1) ((((hi - lo).toNat : Nat) : Int) - ((0 : Nat) : Int)) 1
    rw [e1, e2]
    exact Heap.get?_push_size _ rfl
  · have e : b = (s.heap.push { cls := .type "range", data := .fields #[.int lo t, .int hi u, .int 1 v] }).objs.size := by simpa using hb
    subst e
    exact I1.fpOk (Nat.le_refl _) (I1.hok.fresh (Nat.le_refl _))
noncomputable def iRng1 (ta : TA) : TI := fun σ H R => ta σ H fun vs H1 => ∃ j : Int, vs = [.int j] ∧ -(2 ^ 62) ≤ j ∧ j < 2 ^ 62 ∧ R (Itr 0 j.toNat) H1
noncomputable def iRng2 (ta : TA) : TI := fun σ H R => ta σ H fun vs H1 => ∃ i j : Int, vs = [.int i, .int j] ∧ (-(2 ^ 62) ≤ i ∧ i < 2 ^ 62 ∧ -(2 ^ 62) ≤ j ∧ j < 2 ^ 62) ∧ R (Itr i (j - i).toNat) H1
theorem pi_range1 {a : Expr} {ta : TA} {p pos : Pos} (hg : Gl X "range") (hm : X.mg "range" = none) (ha : PA X [a] ta) (hs : autoParam (starEach [a] X.env = [(false, eval a X.env)]) L2.Internal.auR._auto_1) : PI X tg (.Call (.Name "range" p) [a] [] pos) (iRng1 ta) := by
  intro pins s σ H R I h
  refine Call_ (ld_blt I hg hm boot_range (PyProof.Rows.callWith_type1 (thn (ha pos pins s σ H _ I h) fun us s1 ⟨vs, H1, I1, r1, q1⟩ => ?_) hs rfl))
  obtain ⟨j, e, q1, q2, q⟩ := q1
  subst e
  cases r1 with
  | cons r rr =>
    cases rr
    obtain ⟨t, rfl⟩ := r
    exact call_range_1 (range_it I1 (by omega) (by omega) q1 q2 (by simpa using q))
noncomputable def tFor (wi : TI) (g : TG) (tb : TS) : TS := fun D σ H => wi σ H fun J H1 => ∃ W : Nat → Nat → St → Hp → Prop, (∃ m, W 0 m σ H1) ∧ ∀ i m σ H, W i m σ H →
  (J.stop i H ∧ D.nx σ H) ∨ (J.go i H ∧ ∃ N : St → Hp → Prop, (∀ σ' H', N σ' H' → ∃ m', m' < m ∧ W (i + 1) m' σ' H') ∧ ∀ x H', J.yld i H x H' → g x σ H' fun σ2 H2 => tb { D with nx := N, ct := N, bk := D.nx } σ2 H2)
noncomputable def pinsAt (fp : List Addr) (h : Heap) : List (Addr × Obj) := fp.filterMap fun b => (h.get? b).map fun o => (b, o)
theorem mem_pinsAt {fp : List Addr} {h : Heap} {b : Addr} {o : Obj} (hb : b ∈ fp) (e : h.get? b = some o) : (b, o) ∈ pinsAt fp h := List.mem_filterMap.mpr ⟨b, hb, by rw [e]; rfl⟩
theorem of_pinsAt {fp : List Addr} {h : Heap} {p : Addr × Obj} (hp : p ∈ pinsAt fp h) : p.1 ∈ fp ∧ h.get? p.1 = some p.2 := by
  obtain ⟨b, hb, e⟩ := List.mem_filterMap.mp hp
  cases q : h.get? b with
  | none => rw [q] at e; cases e
  | some o =>
    rw [q] at e
    have e' : (b, o) = p := Option.some.inj e
    subst e'
    exact ⟨hb, q⟩
theorem Inv.pinned {pins : List (Addr × Obj)} {σ : St} {H : Hp} {s : Shared} {fp : List Addr} (I : Inv X pins σ H s) (hf : ∀ b ∈ fp, FpOk X pins H b) (ho : ∀ b ∈ fp, ∃ o, s.heap.get? b = some o ∧ ∀ v, o.data ≠ .cell v) : Inv X (pins ++ pinsAt fp s.heap) σ H s :=
  I.pins_of fun p hp => (List.mem_append.mp hp).elim (fun z => I.pin p (List.mem_append_right _ z)) fun z => by
    obtain ⟨hb, e⟩ := of_pinsAt z
    obtain ⟨f0, f1, f2, _⟩ := hf p.1 hb
    obtain ⟨o, e', d⟩ := ho p.1 hb
    rw [e] at e'; cases e'
    exact ⟨e, f0, f1, f2, d⟩
theorem Inv.unpinned {pins pl : List (Addr × Obj)} {σ : St} {H : Hp} {s : Shared} (I : Inv X (pins ++ pl) σ H s) : Inv X pins σ H s := I.pins_of fun p hp => I.pin p (List.mem_append_right _ (List.mem_append_left _ hp))
theorem ps_for {iter : Expr} {body : List Stmt} {wi : TI} {g : TG} {tb : TS} {pos : Pos} (hp : PassesOwn (model X.prog X.w) X.A X.env X.xe) (hc : X.calm = true) (hi : PI X tg iter wi) (hg : PG X tg g) (hb : PSs X body tb)
    (hs : autoParam (∀ x, foldedSetIterable iter X.env x = pure x) L2.Internal.auI._auto_1) : PS X (.For tg iter body [] pos) (tFor wi g tb) := by
  intro pins s σ H D I h
  refine wpAny_For (thn (hi pins s σ H _ I h) fun v s1 h1 => thn h1 fun itv s2 h2 => ?_) hs
  obtain ⟨it, fp, tn, J, H2, e, I2, T, st2, f2, W, ⟨m0, w0⟩, turn⟩ := h2
  subst e
  -- what stays true of the iterator's objects through the loop
  have stat : ∀ {H' : Hp}, (∀ b ∈ fp, H' b = none) → ∀ b ∈ fp, FpOk X pins H' b := fun hn b hb => ⟨hn b hb, (f2 b hb).2⟩
  refine codeAny_forLoop_any (fun n s' => ∃ i σ' H', Inv X pins σ' H' s' ∧ tn i s'.heap ∧ (∀ b ∈ fp, H' b = none) ∧ W i n σ' H') ?_ m0 ⟨0, σ, H2, I2, st2, fun b hb => (f2 b hb).1, w0⟩
  rintro n s3 ⟨i, σ3, H3, I3, st3, fr3, w3⟩
  rcases turn i n σ3 H3 w3 with ⟨stop, qn⟩ | ⟨go, N, hN, step⟩
  · refine wpAny_passesOwn hp (thn (T.done X rfl rfl rfl hc i pins s3 σ3 H3 X.xe I3 (stat fr3) st3 stop) fun r s4 ⟨hr, I4⟩ => ?_)
    subst hr
    exact wpAny_execs_nil ⟨σ3, H3, I4, qn⟩
  · refine wpAny_passesOwn hp (thn (T.item X rfl rfl rfl hc i pins s3 σ3 H3 X.xe I3 (stat fr3) st3 go) fun r s4 ⟨u, hr, h4⟩ => ?_)
    subst hr
    refine wpAny_passesOwn hp (thn h4 fun _ s5 ⟨x, H5, I5, r5, y5, st5, fr5⟩ => ?_)
    have I5' := I5.pinned (stat fr5) (T.obj _ _ st5)
    refine wpAny_passesOwn hp (thn (hg _ s5 σ3 H5 x u _ I5' r5 (step x H5 y5)) fun _ s6 ⟨σ6, H6, I6, q6⟩ => ?_)
    refine wpAny_passesOwn hp (thn (hb _ s6 σ6 H6 _ I6 q6) fun f s7 q7 => ?_)
    have again : ∀ {σ7 : St} {H7 : Hp}, Inv X (pins ++ pinsAt fp s5.heap) σ7 H7 s7 → N σ7 H7 → ∃ m, m < n ∧ ∃ i σ' H', Inv X pins σ' H' s7 ∧ tn i s7.heap ∧ (∀ b ∈ fp, H' b = none) ∧ W i m σ' H' := fun {σ7 H7} I7 n7 => by
      obtain ⟨m', hm, w7⟩ := hN σ7 H7 n7
      refine ⟨m', hm, i + 1, σ7, H7, I7.unpinned, T.keep _ _ _ st5 fun b hb o e => (I7.pin (b, o) (List.mem_append_right _ (List.mem_append_right _ (mem_pinsAt hb e)))).1, fun b hb => ?_, w7⟩
      obtain ⟨o, e, d⟩ := T.obj _ _ st5 b hb
      exact (I7.pin (b, o) (List.mem_append_right _ (List.mem_append_right _ (mem_pinsAt hb e)))).2.1
    cases f with
    | next => obtain ⟨σ7, H7, I7, n7⟩ := q7; exact again I7 n7
    | cont => obtain ⟨σ7, H7, I7, n7⟩ := q7; exact again I7 n7
    | brk => obtain ⟨σ7, H7, I7, q7⟩ := q7; exact ⟨σ7, H7, I7.unpinned, q7⟩
    | ret v => obtain ⟨x7, σ7, H7, I7, r7, q7⟩ := q7; exact ⟨x7, σ7, H7, I7.unpinned, r7, q7⟩
end

theorem for_list {K : PySem.W.Frag} {a : Addr} {xs : List V} {g : TG} {tb : TS} {D : Ends} {σ : St} {H : Hp} (Pv : Nat → St → Hp → Prop) (h0 : Pv 0 σ H) (hl : ∀ i σ H, i ≤ xs.length → Pv i σ H → SqL K H a xs)
    (hs : ∀ i x σ H, xs[i]? = some x → Pv i σ H → g x σ H fun σ2 H2 => tb { D with nx := Pv (i + 1), ct := Pv (i + 1), bk := D.nx } σ2 H2) (hd : ∀ σ H, Pv xs.length σ H → D.nx σ H) :
    ∃ W : Nat → Nat → St → Hp → Prop, (∃ m, W 0 m σ H) ∧ ∀ i m σ H, W i m σ H →
      ((Itl K a).stop i H ∧ D.nx σ H) ∨ ((Itl K a).go i H ∧ ∃ N : St → Hp → Prop, (∀ σ' H', N σ' H' → ∃ m', m' < m ∧ W (i + 1) m' σ' H') ∧ ∀ x H', (Itl K a).yld i H x H' → g x σ H' fun σ2 H2 => tb { D with nx := N, ct := N, bk := D.nx } σ2 H2) := by
  refine ⟨fun i m σ H => m = xs.length - i ∧ i ≤ xs.length ∧ Pv i σ H, ⟨xs.length, by simp, Nat.zero_le _, h0⟩, ?_⟩
  rintro i m σ H ⟨rfl, hi, p⟩
  have q := hl i σ H hi p
  by_cases hlt : i < xs.length
  · refine .inr ⟨⟨xs, xs[i], q, by simp [hlt]⟩, Pv (i + 1), fun σ' H' p' => ⟨xs.length - (i + 1), by omega, rfl, hlt, p'⟩, fun x H' y => ?_⟩
    obtain ⟨e, y⟩ := y
    subst e
    exact hs i x σ _ (y xs q) p
  · have e : i = xs.length := by omega
    subst e
    exact .inl ⟨⟨xs, q, Nat.le_refl _⟩, hd σ H p⟩
theorem for_tup {K : PySem.W.Frag} {a : Addr} {xs : List V} {g : TG} {tb : TS} {D : Ends} {σ : St} {H : Hp} (Pv : Nat → St → Hp → Prop) (h0 : Pv 0 σ H) (hl : ∀ i σ H, i ≤ xs.length → Pv i σ H → SqT K H a xs)
    (hs : ∀ i x σ H, xs[i]? = some x → Pv i σ H → g x σ H fun σ2 H2 => tb { D with nx := Pv (i + 1), ct := Pv (i + 1), bk := D.nx } σ2 H2) (hd : ∀ σ H, Pv xs.length σ H → D.nx σ H) :
    ∃ W : Nat → Nat → St → Hp → Prop, (∃ m, W 0 m σ H) ∧ ∀ i m σ H, W i m σ H →
      ((Itt K a).stop i H ∧ D.nx σ H) ∨ ((Itt K a).go i H ∧ ∃ N : St → Hp → Prop, (∀ σ' H', N σ' H' → ∃ m', m' < m ∧ W (i + 1) m' σ' H') ∧ ∀ x H', (Itt K a).yld i H x H' → g x σ H' fun σ2 H2 => tb { D with nx := N, ct := N, bk := D.nx } σ2 H2) := by
  refine ⟨fun i m σ H => m = xs.length - i ∧ i ≤ xs.length ∧ Pv i σ H, ⟨xs.length, by simp, Nat.zero_le _, h0⟩, ?_⟩
  rintro i m σ H ⟨rfl, hi, p⟩
  have q := hl i σ H hi p
  by_cases hlt : i < xs.length
  · refine .inr ⟨⟨xs, xs[i], q, by simp [hlt]⟩, Pv (i + 1), fun σ' H' p' => ⟨xs.length - (i + 1), by omega, rfl, hlt, p'⟩, fun x H' y => ?_⟩
    obtain ⟨e, y⟩ := y
    subst e
    exact hs i x σ _ (y xs q) p
  · have e : i = xs.length := by omega
    subst e
    exact .inl ⟨⟨xs, q, Nat.le_refl _⟩, hd σ H p⟩
theorem for_range {lo : Int} {n : Nat} {g : TG} {tb : TS} {D : Ends} {σ : St} {H : Hp} (Pv : Nat → St → Hp → Prop) (h0 : Pv 0 σ H)
    (hs : ∀ i σ H, i < n → Pv i σ H → g (.int (lo + i)) σ H fun σ2 H2 => tb { D with nx := Pv (i + 1), ct := Pv (i + 1), bk := D.nx } σ2 H2) (hd : ∀ σ H, Pv n σ H → D.nx σ H) :
    ∃ W : Nat → Nat → St → Hp → Prop, (∃ m, W 0 m σ H) ∧ ∀ i m σ H, W i m σ H →
      ((Itr lo n).stop i H ∧ D.nx σ H) ∨ ((Itr lo n).go i H ∧ ∃ N : St → Hp → Prop, (∀ σ' H', N σ' H' → ∃ m', m' < m ∧ W (i + 1) m' σ' H') ∧ ∀ x H', (Itr lo n).yld i H x H' → g x σ H' fun σ2 H2 => tb { D with nx := N, ct := N, bk := D.nx } σ2 H2) := by
  refine ⟨fun i m σ H => m = n - i ∧ i ≤ n ∧ Pv i σ H, ⟨n, by simp, Nat.zero_le _, h0⟩, ?_⟩
  rintro i m σ H ⟨rfl, hi, p⟩
  by_cases hlt : i < n
  · refine .inr ⟨hlt, Pv (i + 1), fun σ' H' p' => ⟨n - (i + 1), by omega, rfl, hlt, p'⟩, fun x H' y => ?_⟩
    obtain ⟨e, y⟩ := y
    subst e y
    exact hs i σ _ hlt p
  · have e : i = n := by omega
    subst e
    exact .inl ⟨Nat.le_refl _, hd σ H p⟩
end L2.Internal

namespace L2.Internal
open PySem PySem.Spec PyProof.Rows

noncomputable abbrev R2 := V → V → Hp → VK → Prop
noncomputable def OpR (X : Cx) (f : Value → Value → Sem Value) (r : R2) : Prop :=
  ∀ (pins : List (Addr × Obj)) (s : Shared) (σ : St) (H : Hp) (x y : V) (v u : Value) (Q : VK), Inv X pins σ H s → RelV x v → RelV y u → r x y H Q →
    wpAny (model X.prog X.w) X.A (f v u) (EP X pins σ Q) X.xe s
noncomputable def UnR (X : Cx) (f : Value → Sem Value) (r : V → Hp → VK → Prop) : Prop :=
  ∀ (pins : List (Addr × Obj)) (s : Shared) (σ : St) (H : Hp) (x : V) (v : Value) (Q : VK), Inv X pins σ H s → RelV x v → r x H Q →
    wpAny (model X.prog X.w) X.A (f v) (EP X pins σ Q) X.xe s
noncomputable def CallR (X : Cx) (f : Value) (r : List V → Hp → VK → Prop) : Prop :=
  ∀ (pins : List (Addr × Obj)) (s : Shared) (σ : St) (H : Hp) (xs : List V) (us : List Value) (Q : VK), Inv X pins σ H s → Vals xs us → r xs H Q →
    wpAny (model X.prog X.w) X.A (call f us) (EP X pins σ Q) X.xe s
noncomputable def TruR (X : Cx) (r : V → Hp → (Bool → Hp → Prop) → Prop) : Prop :=
  ∀ (pins : List (Addr × Obj)) (s : Shared) (σ : St) (H : Hp) (x : V) (v : Value) (Q : Bool → Hp → Prop), Inv X pins σ H s → RelV x v → r x H Q →
    wpAny (model X.prog X.w) X.A (truthy v) (TP X pins σ Q) X.xe s

noncomputable def tOp (r : R2) (ta tb : TE) : TE := fun σ H Q => ta σ H fun x H1 => tb σ H1 fun y H2 => r x y H2 Q
noncomputable def tUn (r : V → Hp → VK → Prop) (ta : TE) : TE := fun σ H Q => ta σ H fun x H1 => r x H1 Q
noncomputable def rI (C : Int → Int → Prop) (g : Int → Int → V) : R2 := fun x y H Q => ∃ i j, x = .int i ∧ y = .int j ∧ C i j ∧ Q (g i j) H
noncomputable def rI0 (g : Int → Int → V) : R2 := fun x y H Q => ∃ i j, x = .int i ∧ y = .int j ∧ Q (g i j) H
noncomputable def rU (g : Int → V) : V → Hp → VK → Prop := fun x H Q => ∃ i, x = .int i ∧ Q (g i) H

section
variable {X : Cx} {a b c : Expr} {ta tb tc : TE} {pos : Pos}

theorem binT (ha : PE X a ta) (hb : PE X b tb) {pins : List (Addr × Obj)} {s : Shared} {σ : St} {H : Hp} {R : V → V → Hp → Prop} (I : Inv X pins σ H s)
    (h : ta σ H fun x H1 => tb σ H1 fun y H2 => R x y H2) {Q : Value → Shared → Prop} {f : Value → Value → Sem Value}
    (hf : ∀ v u s2 x y H2, Inv X pins σ H2 s2 → RelV x v → RelV y u → R x y H2 → wpAny (model X.prog X.w) X.A (f v u) Q X.xe s2) :
    wpAny (model X.prog X.w) X.A (eval a X.env) (fun v s₁ => wpAny (model X.prog X.w) X.A (eval b X.env) (fun u s₂ => wpAny (model X.prog X.w) X.A (f v u) Q X.xe s₂) X.xe s₁) X.xe s := by
  refine thn (ha pins s σ H _ I h) fun v s1 ⟨x, H1, I1, r1, q1⟩ => ?_
  refine thn (hb pins s1 σ H1 _ I1 q1) fun u s2 ⟨y, H2, I2, r2, q2⟩ => ?_
  exact hf v u s2 x y H2 I2 r1 r2 q2

theorem pe_op {op : Operator} {r : R2} (ho : OpR X (binaryOp op) r) (ha : PE X a ta) (hb : PE X b tb) : PE X (.BinOp a op b pos) (tOp r ta tb) := by
  intro pins s σ H Q I h
  exact wpAny_BinOp (binT ha hb I h fun v u s2 x y H2 I2 rx ry q => ho pins s2 σ H2 x y v u Q I2 rx ry q)
theorem opI {f : Value → Value → Sem Value} {C : Int → Int → Prop} {g : Int → Int → Int}
    (rule : ∀ (i j : Int) (t u : Tok) (s : Shared) (Q : Value → Shared → Prop) (E : Value → Shared → Prop), C i j → Q (.int (g i j) s.toks) { s with toks := s.toks + 1 } → wpAny (model X.prog X.w) X.A (f (.int i t) (.int j u)) Q E s) :
    OpR X f (rI C fun i j => .int (g i j)) := by
  intro pins s σ H x y v u Q I rx ry h
  obtain ⟨i, j, rfl, rfl, hc, q⟩ := h
  obtain ⟨t, rfl⟩ := rx
  obtain ⟨t', rfl⟩ := ry
  exact rule i j t t' s _ _ hc ⟨.int (g i j), H, I.tok _, ⟨_, rfl⟩, q⟩
theorem opI0 {f : Value → Value → Sem Value} {g : Int → Int → Int}
    (rule : ∀ (i j : Int) (t u : Tok) (s : Shared) (Q : Value → Shared → Prop) (E : Value → Shared → Prop), Q (.int (g i j) s.toks) { s with toks := s.toks + 1 } → wpAny (model X.prog X.w) X.A (f (.int i t) (.int j u)) Q E s) :
    OpR X f (rI0 fun i j => .int (g i j)) := by
  intro pins s σ H x y v u Q I rx ry h
  obtain ⟨i, j, rfl, rfl, q⟩ := h
  obtain ⟨t, rfl⟩ := rx
  obtain ⟨t', rfl⟩ := ry
  exact rule i j t t' s _ _ ⟨.int (g i j), H, I.tok _, ⟨_, rfl⟩, q⟩
theorem opB0 {f : Value → Value → Sem Value} {g : Int → Int → Bool}
    (rule : ∀ (i j : Int) (t u : Tok) (s : Shared) (Q : Value → Shared → Prop) (E : Value → Shared → Prop), Q (.bool (g i j)) s → wpAny (model X.prog X.w) X.A (f (.int i t) (.int j u)) Q E s) :
    OpR X f (rI0 fun i j => .bl (g i j)) := by
  intro pins s σ H x y v u Q I rx ry h
  obtain ⟨i, j, rfl, rfl, q⟩ := h
  obtain ⟨t, rfl⟩ := rx
  obtain ⟨t', rfl⟩ := ry
  exact rule i j t t' s _ _ ⟨.bl (g i j), H, I, rfl, q⟩

noncomputable def CDiv (i j : Int) : Prop := 0 < j ∧ j < 1073741824
noncomputable def CDivN (i j : Int) : Prop := j ≠ 0 ∧ j.natAbs < 1073741824
noncomputable def CPow (i j : Int) : Prop := 0 ≤ j ∧ j ≤ 1000000 ∧ i.natAbs < 2 ^ 64
noncomputable def CMul (i j : Int) : Prop := (-(2 ^ 64) < i ∧ i < 2 ^ 64) ∨ (-(2 ^ 64) < j ∧ j < 2 ^ 64)
theorem CMul.ok {i j : Int} (h : CMul i j) : IntMulOk i j := by
  rcases h with ⟨h1, h2⟩ | ⟨h1, h2⟩
  · exact .of_left (intBits_le_64 h1 h2)
  · exact .of_right (intBits_le_64 h1 h2)
theorem op_add : OpR X (binaryOp .Add) (rI0 fun i j => .int (i + j)) := opI0 fun _ _ _ _ _ _ _ q => add_int q
theorem op_sub : OpR X (binaryOp .Sub) (rI0 fun i j => .int (i - j)) := opI0 fun _ _ _ _ _ _ _ q => sub_int q
theorem op_mul : OpR X (binaryOp .Mult) (rI CMul fun i j => .int (i * j)) := opI fun _ _ _ _ _ _ _ hc q => mul_int q hc.ok
theorem op_fdiv : OpR X (binaryOp .FloorDiv) (rI CDiv fun i j => .int (i / j)) := opI fun i j _ _ _ _ _ hc q => by
  have h1 : (0 : Int) < j := hc.1
  have h2 : j < 1073741824 := hc.2
  exact floordiv_int (by omega) (by rw [Int.fdiv_eq_ediv_of_nonneg i (by omega)]; exact q) (.inl (PyProof.noPylong_small (by omega)))
theorem op_mod : OpR X (binaryOp .Mod) (rI (fun _ j => 0 < j) fun i j => .int (i % j)) := opI fun i j _ _ _ _ _ hc q => by
  have h1 : (0 : Int) < j := hc
  exact mod_int' (by omega) (by rw [Int.fmod_eq_emod_of_nonneg i (by omega)]; exact q)
theorem op_pow : OpR X (binaryOp .Pow) (rI CPow fun i j => .int (i ^ j.toNat)) := opI fun _ _ _ _ _ _ _ hc q => pow_int_small hc.1 hc.2.1 hc.2.2 q
end

noncomputable def scal : V → V → Bool
  | .non, .non => true | .non, .int _ => true | .int _, .non => true | .non, .bl _ => true | .bl _, .non => true | .non, .str _ => true | .str _, .non => true
  | .int _, .int _ => true | .bl _, .bl _ => true | .str _, .str _ => true | .byt _, .byt _ => true
  | .int _, .str _ => true | .str _, .int _ => true | .bl _, .str _ => true | .str _, .bl _ => true
  | _, _ => false
noncomputable def rEq : R2 := fun x y H Q => scal x y = true ∧ Q (.bl (decide (x = y))) H
noncomputable def rNe : R2 := fun x y H Q => scal x y = true ∧ Q (.bl (!decide (x = y))) H

theorem dec_int {i j : Int} : decide (V.int i = V.int j) = (i == j) := by
  rw [Bool.eq_iff_iff]
  simp
theorem dec_bl {i j : Bool} : decide (V.bl i = V.bl j) = (i == j) := by
  rw [Bool.eq_iff_iff]
  simp
theorem dec_str {i j : Str} : decide (V.str i = V.str j) = (i == j) := by
  rw [Bool.eq_iff_iff]
  simp
theorem dec_byt {i j : Array UInt8} : decide (V.byt i = V.byt j) = (i.toList == j.toList) := by
  rw [Bool.eq_iff_iff]
  cases i
  cases j
  simp

section
variable {X : Cx} {a b c : Expr} {ta tb tc : TE} {pos : Pos}
theorem fin_bl {pins : List (Addr × Obj)} {σ : St} {H : Hp} {s : Shared} {Q : VK} {k k' : Bool} (I : Inv X pins σ H s) (q : Q (.bl k) H) (e : k = k') : EP X pins σ Q (.bool k') s := by
  subst e
  exact ⟨.bl k, H, I, rfl, q⟩
theorem op_eq : OpR X (compareOp .Eq) rEq := by
  intro pins s σ H x y v u Q I rx ry h
  obtain ⟨hs, q⟩ := h
  cases x with
  | non =>
    cases rx
    cases y with
    | non => cases ry; exact PySem.EqNone.eq_none_none (fin_bl I q (by simp))
    | bl j => cases ry; exact PySem.EqNone.eq_none_bool (fin_bl I q (by simp))
    | int j => obtain ⟨t', rfl⟩ := ry; exact PySem.EqNone.eq_none_int (fin_bl I q (by simp))
    | str j => obtain ⟨t', rfl⟩ := ry; exact PySem.EqNone.eq_none_str (fin_bl I q (by simp))
    | _ => exact absurd (show false = true from hs) Bool.false_ne_true
  | bl i =>
    cases rx
    cases y with
    | non => cases ry; exact PySem.EqNone.eq_bool_none (fin_bl I q (by simp))
    | bl j => cases ry; exact eq_bool (fin_bl I q dec_bl)
    | str j => obtain ⟨t', rfl⟩ := ry; exact PySem.EqMixed.eq_bool_str (fin_bl I q (by simp))
    | _ => exact absurd (show false = true from hs) Bool.false_ne_true
  | int i =>
    obtain ⟨t, rfl⟩ := rx
    cases y with
    | non => cases ry; exact PySem.EqNone.eq_int_none (fin_bl I q (by simp))
    | int j => obtain ⟨t', rfl⟩ := ry; exact eq_int (fin_bl I q dec_int)
    | str j => obtain ⟨t', rfl⟩ := ry; exact PySem.EqMixed.eq_int_str (fin_bl I q (by simp))
    | _ => exact absurd (show false = true from hs) Bool.false_ne_true
  | str i =>
    obtain ⟨t, rfl⟩ := rx
    cases y with
    | non => cases ry; exact PySem.EqNone.eq_str_none (fin_bl I q (by simp))
    | bl j => cases ry; exact PySem.EqMixed.eq_str_bool (fin_bl I q (by simp))
    | int j => obtain ⟨t', rfl⟩ := ry; exact PySem.EqMixed.eq_str_int (fin_bl I q (by simp))
    | str j => obtain ⟨t', rfl⟩ := ry; exact eq_str (fin_bl I q dec_str)
    | _ => exact absurd (show false = true from hs) Bool.false_ne_true
  | byt i =>
    obtain ⟨t, rfl⟩ := rx
    cases y with
    | byt j => obtain ⟨t', rfl⟩ := ry; exact PySem.W.eq_bytes (fin_bl I q dec_byt)
    | _ => exact absurd (show false = true from hs) Bool.false_ne_true
  | _ => cases y <;> exact absurd (show false = true from hs) Bool.false_ne_true
theorem op_ne : OpR X (compareOp .NotEq) rNe := by
  intro pins s σ H x y v u Q I rx ry h
  obtain ⟨hs, q⟩ := h
  cases x with
  | non =>
    cases rx
    cases y with
    | non => cases ry; exact PySem.EqNone.ne_none_none (fin_bl I q (by simp))
    | bl j => cases ry; exact PySem.EqNone.ne_none_bool (fin_bl I q (by simp))
    | int j => obtain ⟨t', rfl⟩ := ry; exact PySem.EqNone.ne_none_int (fin_bl I q (by simp))
    | str j => obtain ⟨t', rfl⟩ := ry; exact PySem.EqNone.ne_none_str (fin_bl I q (by simp))
    | _ => exact absurd (show false = true from hs) Bool.false_ne_true
  | bl i =>
    cases rx
    cases y with
    | non => cases ry; exact PySem.EqNone.ne_bool_none (fin_bl I q (by simp))
    | bl j => cases ry; exact ne_bool (fin_bl I q (congrArg not dec_bl))
    | str j => obtain ⟨t', rfl⟩ := ry; exact PySem.EqMixed.ne_bool_str (fin_bl I q (by simp))
    | _ => exact absurd (show false = true from hs) Bool.false_ne_true
  | int i =>
    obtain ⟨t, rfl⟩ := rx
    cases y with
    | non => cases ry; exact PySem.EqNone.ne_int_none (fin_bl I q (by simp))
    | int j => obtain ⟨t', rfl⟩ := ry; exact ne_int (fin_bl I q (congrArg not dec_int))
    | str j => obtain ⟨t', rfl⟩ := ry; exact PySem.EqMixed.ne_int_str (fin_bl I q (by simp))
    | _ => exact absurd (show false = true from hs) Bool.false_ne_true
  | str i =>
    obtain ⟨t, rfl⟩ := rx
    cases y with
    | non => cases ry; exact PySem.EqNone.ne_str_none (fin_bl I q (by simp))
    | bl j => cases ry; exact PySem.EqMixed.ne_str_bool (fin_bl I q (by simp))
    | int j => obtain ⟨t', rfl⟩ := ry; exact PySem.EqMixed.ne_str_int (fin_bl I q (by simp))
    | str j => obtain ⟨t', rfl⟩ := ry; exact ne_str (fin_bl I q (congrArg not dec_str))
    | _ => exact absurd (show false = true from hs) Bool.false_ne_true
  | byt i =>
    obtain ⟨t, rfl⟩ := rx
    cases y with
    | byt j => obtain ⟨t', rfl⟩ := ry; exact PySem.W.ne_bytes (fin_bl I q (congrArg not dec_byt))
    | _ => exact absurd (show false = true from hs) Bool.false_ne_true
  | _ => cases y <;> exact absurd (show false = true from hs) Bool.false_ne_true

theorem op_gt : OpR X (compareOp .Gt) (rI0 fun i j => .bl (decide (j < i))) := opB0 fun _ _ _ _ _ _ _ q => gt_int q
noncomputable def isObj : HO → Bool
  | .lst _ => true
  | .ins _ _ _ => true
  | _ => false
theorem nomark (b : Expr) {op : CmpOp} (h : autoParam (op ≠ .In) L2.Internal.auD._auto_1) (h2 : autoParam (op ≠ .NotIn) L2.Internal.auD._auto_1) : behindInMarks op b = false := by
  have e1 : (op == CmpOp.In) = false := by cases op <;> first | rfl | exact absurd rfl h
  have e2 : (op == CmpOp.NotIn) = false := by cases op <;> first | rfl | exact absurd rfl h2
  cases b <;> simp [behindInMarks, e1, e2]
theorem pe_cmpR {op : CmpOp} {r : R2} (ho : OpR X (compareOp op) r) (ha : PE X a ta) (hb : PE X b tb) (hm : behindInMarks op b = false) : PE X (.Compare a [op] [b] pos) (tOp r ta tb) := by
  intro pins s σ H Q I h
  exact wpAny_Compare1 (binT ha hb I h fun v u s2 x y H2 I2 rx ry q => ho pins s2 σ H2 x y v u Q I2 rx ry q) hm
noncomputable def tTest (t : TE) : TT := fun σ H Q => t σ H fun x H' => ∃ k, x = .bl k ∧ Q k H'
theorem pt_cmpR {op : CmpOp} {r : R2} (ho : OpR X (compareOp op) r) (ha : PE X a ta) (hb : PE X b tb) (hm : behindInMarks op b = false) : PT X (.Compare a [op] [b] pos) (tTest (tOp r ta tb)) := by
  intro pins s σ H Q I h
  refine wpAny_isTrue_Compare1 (thn (ha pins s σ H _ I h) fun v s1 ⟨x, H1, I1, r1, q1⟩ => thn (hb pins s1 σ H1 _ I1 q1) fun u s2 ⟨y, H2, I2, r2, q2⟩ =>
    thn (ho pins s2 σ H2 x y v u _ I2 r1 r2 q2) fun c s3 ⟨z, H3, I3, r3, k, e, q3⟩ => ?_) hm
  subst e
  cases r3
  exact wpAny_truthy_bool ⟨H3, I3, q3⟩
noncomputable def tChain (r r' : R2) (ta tb tc : TE) : TE := fun σ H Q => ta σ H fun x H1 => tb σ H1 fun y H2 => r x y H2 fun z H3 => ∃ k, z = .bl k ∧
  (if k = true then tc σ H3 fun w' H4 => r' y w' H4 Q else Q (.bl false) H3)
noncomputable def TruV (K : PySem.W.Frag) (x : V) (H : Hp) (k : Bool) : Prop :=
  match x with
  | .non => k = false
  | .bl b => k = b
  | .int i => k = (i != 0)
  | .str y => y.length ≤ sizeLine ∧ k = ((y.length : Int) != 0)
  | .byt y => y.size ≤ sizeLine ∧ k = ((y.size : Int) != 0)
  | .ref p => (∃ xs, SqL K H p xs ∧ k = !xs.isEmpty) ∨ (∃ xs, SqT K H p xs ∧ k = !xs.isEmpty) ∨ ∃ kvs, H p = some (.dK kvs) ∧ k = !kvs.isEmpty
  | _ => False
theorem line63 : (sizeLine : Nat) < 2 ^ 63 := by rw [sizeLine_eq]; decide
theorem op_add_str : OpR X (binaryOp .Add) (fun x y H Q => ∃ i j, x = .str i ∧ y = .str j ∧ i.length + j.length ≤ sizeLine ∧ Q (.str (i ++ j)) H) := by
  intro pins s σ H x y v u Q I rx ry h
  obtain ⟨i, j, rfl, rfl, hz, q⟩ := h
  obtain ⟨t, rfl⟩ := rx
  obtain ⟨t', rfl⟩ := ry
  exact add_str (fun t' tk => ⟨.str (i ++ j), H, I.tok _, ⟨_, rfl⟩, q⟩) hz
noncomputable def PlainIxT (b : Expr) : Prop := ∀ o i, subscripted b false o i = operate [o, i] (getItem o i)
theorem vals1 {x : V} {us : List Value} (r : Vals [x] us) : ∃ u, us = [u] ∧ RelV x u := by
  cases r with
  | cons r1 r2 => cases r2; exact ⟨_, rfl, r1⟩
theorem vals2 {x y : V} {us : List Value} (r : Vals [x, y] us) : ∃ u w', us = [u, w'] ∧ RelV x u ∧ RelV y w' := by
  cases r with
  | cons r1 r2 =>
    cases r2 with
    | cons r3 r4 => cases r4; exact ⟨_, _, rfl, r1, r3⟩
noncomputable def LenV (K : PySem.W.Frag) (x : V) (H : Hp) (n : Nat) : Prop :=
  match x with
  | .str y => y.length ≤ sizeLine ∧ n = y.length
  | .byt y => y.size ≤ sizeLine ∧ n = y.size
  | .ref p => (∃ xs, SqL K H p xs ∧ n = xs.length) ∨ ∃ xs, SqT K H p xs ∧ n = xs.length
  | _ => False
theorem call_len : CallR X (.builtin "len") (fun xs H Q => ∃ x n, xs = [x] ∧ LenV X.K x H n ∧ Q (.int n) H) := by
  intro pins s σ H xs us Q I r h
  obtain ⟨x, n, rfl, e, q⟩ := h
  obtain ⟨u, rfl, rx⟩ := vals1 r
  have hl := line63
  have hs : sizeLine = 16777216 := sizeLine_eq
  cases x with
  | str y =>
    obtain ⟨t, rfl⟩ := rx
    obtain ⟨hy, e'⟩ : y.length ≤ sizeLine ∧ n = y.length := e
    subst e'
    exact len_str (by omega) ⟨.int _, H, I.tok _, ⟨_, rfl⟩, q⟩
  | byt y =>
    obtain ⟨t, rfl⟩ := rx
    obtain ⟨hy, e'⟩ : y.size ≤ sizeLine ∧ n = y.size := e
    subst e'
    exact PySem.W.len_bytes (by omega) ⟨.int _, H, I.tok _, ⟨_, rfl⟩, q⟩
  | ref p =>
    cases rx
    have e' : (∃ xs, SqL X.K H p xs ∧ n = xs.length) ∨ ∃ xs, SqT X.K H p xs ∧ n = xs.length := e
    rcases e' with ⟨xs, hx, e'⟩ | ⟨xs, hx, e'⟩
    · subst e'
      obtain ⟨its, r', pl, hz⟩ := I.list hx
      have hlen := r'.length
      exact Calls.call_len_list pl.isList (by simp only [List.size_toArray]; omega) ⟨.int xs.length, H, I.tok _, ⟨_, by simp only [List.size_toArray]; rw [hlen]⟩, q⟩
    · subst e'
      obtain ⟨its, r', pl, hz⟩ := I.tuple hx
      have hlen := r'.length
      exact len_tuple pl (by simp only [List.size_toArray]; omega) ⟨.int xs.length, H, I.tok _, ⟨_, by simp only [List.size_toArray]; rw [hlen]⟩, q⟩
  | _ => exact (show False from e).elim
end
end L2.Internal

namespace L2.Internal
open PySem PySem.Spec PyProof.Rows

structure ObjM (h : Heap) (x dx C : Addr) (mA : Str → Option Value) : Prop where
  obj : h.get? x = some (PySem.W.instObj C dx)
  ns : h.Ns1 dx mA
  ne : dx ≠ x

theorem lookIn_ns {h : Heap} {dx : Addr} {mA : Str → Option Value} (n : h.Ns1 dx mA) : ∃ od, h.get? dx = some od ∧ ∀ name, PySem.W.lookIn name od = some (mA name) := by
  obtain ⟨o, es, ep, ho, hd, hk, _, hm⟩ := n
  refine ⟨o, ho, fun name => ?_⟩
  have e := hm name
  unfold nsFind findBy at e
  rw [← Array.find?_toList] at e
  unfold PySem.W.lookIn
  rw [hd]
  dsimp only
  split
  · rename_i y q
    rw [q] at e
    exact congrArg some e
  · rename_i q
    rw [q] at e
    have a : es.toList.any (·.refKey) = false := by
      rw [List.any_eq_false]
      intro y hy
      obtain ⟨z, t, hkey⟩ := hk y (Array.mem_toList_iff.mp hy)
      simp [DictEntry.refKey, hkey]
    have a' : ¬ es.toList.any (·.refKey) = true := by rw [a]; exact Bool.false_ne_true
    rw [if_neg a']
    exact congrArg some e

theorem ObjM.look {h : Heap} {x dx C : Addr} {mA : Str → Option Value} (I : ObjM h x dx C mA) : ∃ od, PySem.W.InstAt h x (PySem.W.instObj C dx) C (some od) ∧ ∀ name, PySem.W.lookIn name od = some (mA name) :=
  let ⟨od, ho, hl⟩ := lookIn_ns I.ns
  ⟨od, ⟨I.obj, rfl, rfl, ho⟩, hl⟩

section
variable {prog : Program} {w : World} {A : Around} {E : Value → Shared → Prop} {s : Shared} {K : PySem.W.Frag} {x dx C f : Addr} {mA : Str → Option Value} {name : Str} {v : Value}

theorem get_map {expr : Bool} {Q : Value → Shared → Prop} (X : K.In s.heap) (I : ObjM s.heap x dx C mA) (hg : PySem.W.plainGet K C name = true) (hh : PySem.W.hasDictIn K C = true)
    (ha : PySem.W.findIn K (.ref C) name = some none) (hv : mA name = some v) (hv' : PySem.W.handedIn v = true) (h : Q v { s with toks := s.toks + 1 }) :
    wpAny (model prog w) A (getAttr (.ref x) name expr) Q E s := by
  obtain ⟨od, J, hl⟩ := I.look
  exact PySem.W.get_value X J (PySem.W.plainGet_of hg).1 (PySem.W.findObj_own hh ha rfl (by rw [hl, hv])) hv' h

theorem get_meth {pl : Sem Bool} {Q : Value × List Value → Shared → Prop} (X : K.In s.heap) (I : ObjM s.heap x dx C mA) (hg : PySem.W.plainGet K C name = true)
    (hf : PySem.W.findIn K (.ref C) name = some (some (.ref f))) (ht : PySem.W.isFn K (.ref f) = true) (hv : mA name = none) (h : Q (.ref f, [.ref x]) s) :
    wpAny (model prog w) A (getMethod (.ref x) name pl) Q E s := by
  obtain ⟨od, J, hl⟩ := I.look
  exact PySem.W.method_fn X J (PySem.W.plainGet_of hg).1 (PySem.W.plainGet_of hg).2 hf (beq_iff_eq.mp ht) (by show (PySem.W.lookIn name od).map (·.isSome) = some false; rw [hl, hv]; rfl) h

theorem set_map {ns : List Str} {Q : Unit → Shared → Prop} (X : K.In s.heap) (I : ObjM s.heap x dx C mA)
    (hs : PySem.W.findIn K (.ref C) "__setattr__" = some (some (.builtin "object.__setattr__"))) (hp : PySem.W.plainOver K C = true) (ht : PySem.W.takerIn K C name = some none) (hh : PySem.W.hasDictIn K C = true)
    (hw : PySem.Within mA ns) (hsz : ns.length ≤ sizeLine)
    (h : ∀ h', ObjM h' x dx C (fun y => if y = name then some v else mA y) → Heap.SameBut dx s.heap h' → Q () { s with heap := h', toks := s.toks + 2 }) :
    wpAny (model prog w) A (setAttr (.ref x) name v) Q E s := by
  obtain ⟨od, J, hl⟩ := I.look
  refine PySem.W.set_plain X J hs (PySem.W.osa_open (s := { s with toks := s.toks + 1 }) (r := none) X J hp ht fun b => ?_)
  obtain ⟨cd, hc, hd'⟩ := PySem.W.any_some hh
  have hx : s.heap.get? x = some ⟨.ref C, some dx, .plain, #[]⟩ := I.obj
  refine wpAny_bind (wpAny_pure (wpAny_bind (wpAny_bind (wpAny_loadPart hx (wpAny_bind (PySem.W.Looks.here (s := { s with toks := s.toks + 1 }) (PySem.W.looks_clsIn X hc) ?_))))))
  rw [hd']
  refine wpAny_pure (a := some dx) (wpAny_bind (wpAny_pure (wpAny_bind ?_)))
  refine wpAny_nsSet1 (s := { s with toks := s.toks + 1 }) I.ns fun h' hn2 hs2 => ?_
  obtain ⟨oD, esD, epD, hoD, hdD, hcD⟩ := hn2.count (PySem.Within.cons name v hw)
  refine wpAny_bind (wpAny_lookBehind hoD (by rw [hdD]; exact pastItsLine_dict (Nat.le_trans hcD (by rw [List.length_cons]; omega))) ?_)
  exact wpAny_pure (h _ ⟨(hs2.2 _ (Ne.symm I.ne)).trans I.obj, hn2, I.ne⟩ hs2)

theorem make_map {R : Result → Shared → Prop} {vs : List Value} {kw : List (Str × Value)} (X : K.In s.heap) (hm : PySem.W.makesIn K C = true)
    (hi : PySem.W.findIn K (.ref C) "__init__" = some (some (.ref f))) (hf : PySem.W.typeIn K (.ref f) = some (.type "function"))
    (h : codeAny (model prog w) (A.under (.builtin "type.__call__" ⟨.ref C :: vs, kw⟩)) (.call (.ref f) ⟨.ref (s.heap.objs.size + 1) :: vs, kw⟩) (PySem.W.InitBack (s.heap.objs.size + 1) R)
      { s with heap := (s.heap.push PySem.W.emptyDict).push (PySem.W.instObj C s.heap.objs.size) }) :
    codeAny (model prog w) A (.call (.ref C) ⟨vs, kw⟩) R s := by
  obtain ⟨hh, g, d, t, os⟩ := s
  exact PySem.W.make_core (PySem.W.makes_of X hm) (PySem.W.looks_findIn X hi) (fun self => PySem.W.bind_fn X self hf) (.inl rfl) h
end

noncomputable def putF (f : Str) (v : V) : List (Str × V) → List (Str × V)
  | [] => [(f, v)]
  | (g, x) :: r => if g = f then (g, v) :: r else (g, x) :: putF f v r
theorem lookup_putF (f g : Str) (v : V) : ∀ fs : List (Str × V), (putF f v fs).lookup g = if g = f then some v else fs.lookup g
  | [] => by
    show List.lookup g [(f, v)] = _
    by_cases h : g = f
    · have hb : (g == f) = true := beq_iff_eq.mpr h
      simp only [List.lookup, hb, if_pos h]
    · have hb : (g == f) = false := beq_eq_false_iff_ne.mpr h
      simp only [List.lookup, hb, if_neg h]
  | (k, x) :: r => by
    have ih := lookup_putF f g v r
    rw [show putF f v ((k, x) :: r) = (if k = f then (k, v) :: r else (k, x) :: putF f v r) from rfl]
    by_cases hk : k = f
    · rw [if_pos hk]
      by_cases h : g = k
      · have hb : (g == k) = true := beq_iff_eq.mpr h
        simp only [List.lookup, hb, if_pos (h.trans hk)]
      · have hb : (g == k) = false := beq_eq_false_iff_ne.mpr h
        simp only [List.lookup, hb, if_neg (fun e : g = f => h (e.trans hk.symm))]
    · rw [if_neg hk]
      by_cases h : g = k
      · have hb : (g == k) = true := beq_iff_eq.mpr h
        simp only [List.lookup, hb, if_neg (fun e : g = f => hk (h.symm.trans e))]
      · have hb : (g == k) = false := beq_eq_false_iff_ne.mpr h
        simp only [List.lookup, hb]
        exact ih
theorem keys_putF (f : Str) (v : V) : ∀ fs : List (Str × V), f ∈ (putF f v fs).map (·.1) ∧ ∀ g, g ∈ fs.map (·.1) → g ∈ (putF f v fs).map (·.1)
  | [] => ⟨by simp [putF], fun g h => by simp at h⟩
  | (k, x) :: r => by
    obtain ⟨i1, i2⟩ := keys_putF f v r
    rw [show putF f v ((k, x) :: r) = (if k = f then (k, v) :: r else (k, x) :: putF f v r) from rfl]
    by_cases hk : k = f
    · rw [if_pos hk]
      subst hk
      exact ⟨by simp, fun g h => by simpa using h⟩
    · rw [if_neg hk]
      refine ⟨?_, fun g h => ?_⟩
      · rw [List.map_cons]
        exact List.mem_cons_of_mem _ i1
      · rw [List.map_cons] at h ⊢
        rcases List.mem_cons.mp h with e | e
        · exact List.mem_cons.mpr (.inl e)
        · exact List.mem_cons_of_mem _ (i2 g e)
theorem length_putF (f : Str) (v : V) : ∀ fs : List (Str × V), (putF f v fs).length ≤ fs.length + 1
  | [] => by simp [putF]
  | (k, x) :: r => by
    have ih := length_putF f v r
    rw [show putF f v ((k, x) :: r) = (if k = f then (k, v) :: r else (k, x) :: putF f v r) from rfl]
    by_cases hk : k = f
    · rw [if_pos hk, List.length_cons, List.length_cons]; omega
    · rw [if_neg hk, List.length_cons, List.length_cons]; omega

theorem RelO.some_of {v : V} {o : Option Value} (r : RelO (some v) o) : ∃ u, o = some u ∧ RelV v u := by
  cases o with
  | none => exact (show False from r).elim
  | some u => exact ⟨u, rfl, r⟩
theorem RelO.none_of {o : Option Value} (r : RelO none o) : o = none := by
  cases o with
  | none => rfl
  | some u => exact (show False from r).elim
theorem handed_of {v : V} {u : Value} (r : RelV v u) : PySem.W.handedIn u = true := by
  cases v with
  | non => cases (show u = Value.none from r); rfl
  | bl b => cases (show u = Value.bool b from r); rfl
  | int i => obtain ⟨t, e⟩ := (show ∃ t, u = Value.int i t from r); cases e; rfl
  | str x => obtain ⟨t, e⟩ := (show ∃ t, u = Value.str x t from r); cases e; rfl
  | byt b => obtain ⟨t, e⟩ := (show ∃ t, u = Value.bytes b t from r); cases e; rfl
  | flt b => obtain ⟨t, e⟩ := (show ∃ t, u = Value.float b t from r); cases e; rfl
  | ref a => cases (show u = Value.ref a from r); rfl
  | ty n => cases (show u = Value.type n from r); rfl

section
variable {P : Program} {w : World} {H H' : Hp} {h h' : Heap} {a C dx : Addr} {fs fs' : List (Str × V)}
theorem ins_get (hok : HOk P w H h) (e : H a = some (.ins C dx fs)) : ∃ mA, ObjM h a dx C mA ∧ (∀ f, RelO (fs.lookup f) (mA f)) ∧ PySem.Within mA (fs.map (·.1)) ∧ fs.length ≤ 1000 ∧ H dx = some (.own a) := by
  obtain ⟨d, z, ne, ob, mA, n, r, q⟩ := (show ObjOk P w H h a (.ins C dx fs) from hok a _ e)
  exact ⟨mA, ⟨ob, n, ne⟩, r, q, z, d⟩
end

structure Cls (K : PySem.W.Frag) (C : Addr) : Prop where
  pg : PySem.W.plainGet K C Str.empty = true
  hd : PySem.W.hasDictIn K C = true
  po : PySem.W.plainOver K C = true
  sa : PySem.W.findIn K (.ref C) "__setattr__" = some (some (.builtin "object.__setattr__"))
theorem Cls.get {K : PySem.W.Frag} {C : Addr} (c : Cls K C) (f : Str) : PySem.W.plainGet K C f = true := c.pg
noncomputable def NoAttr (K : PySem.W.Frag) (C : Addr) (f : Str) : Prop := PySem.W.findIn K (.ref C) f = some none
theorem NoAttr.taker {K : PySem.W.Frag} {C : Addr} {f : Str} (n : NoAttr K C f) : PySem.W.takerIn K C f = some none := by
  unfold PySem.W.takerIn
  rw [show PySem.W.findIn K (.ref C) f = some none from n]
  rfl
structure Con (K : PySem.W.Frag) (C : Addr) (f : Str) (v : V) (u : Value) : Prop where
  at_ : PySem.W.findIn K (.ref C) f = some (some u)
  rel : RelV v u
  get : PySem.W.specialIn K u "__get__" = some none
  cp : PySem.W.copiedNames.contains f = false
structure Meth (K : PySem.W.Frag) (C : Addr) (m : Str) (f : Addr) : Prop where
  at_ : PySem.W.findIn K (.ref C) m = some (some (.ref f))
  fn : PySem.W.isFn K (.ref f) = true
  kp : PySem.W.keepIn K (.ref f) = true

section
variable {X : Cx} {pins : List (Addr × Obj)} {σ : St} {H : Hp} {s : Shared} {a C dx : Addr} {fs : List (Str × V)} {f : Str} {v : V} {A : Around} {E : Value → Shared → Prop}

theorem getattr_ok {b : Bool} {Q : Value → Shared → Prop} (I : Inv X pins σ H s) (e : H a = some (.ins C dx fs)) (c : Cls X.K C) (n : NoAttr X.K C f) (l : fs.lookup f = some v)
    (h : ∀ u s', Inv X pins σ H s' → RelV v u → Q u s') : wpAny (model X.prog X.w) A (getAttr (.ref a) f b) Q E s := by
  obtain ⟨mA, O, r, _, _, _⟩ := ins_get I.hok e
  obtain ⟨u, hu, ru⟩ := RelO.some_of (v := v) (o := mA f) (by rw [← l]; exact r f)
  exact get_map I.kIn O (c.get f) c.hd n hu (handed_of ru) (h u _ (I.tok _) ru)

theorem getmeth_ok {m : Str} {g : Addr} {pl : Sem Bool} {Q : Value × List Value → Shared → Prop} (I : Inv X pins σ H s) (e : H a = some (.ins C dx fs)) (c : Cls X.K C) (k : Meth X.K C m g) (l : fs.lookup m = none)
    (h : Q (.ref g, [.ref a]) s) : wpAny (model X.prog X.w) A (getMethod (.ref a) m pl) Q E s := by
  obtain ⟨mA, O, r, _, _, _⟩ := ins_get I.hok e
  have hn : mA m = none := RelO.none_of (by rw [← l]; exact r m)
  exact get_meth I.kIn O (c.get m) k.at_ k.fn hn h

theorem setattr_ok {y : V} {u : Value} {Q : Unit → Shared → Prop} (I : Inv X pins σ H s) (e : H a = some (.ins C dx fs)) (c : Cls X.K C) (n : NoAttr X.K C f) (hl : fs.length < 1000) (ry : RelV y u)
    (h : ∀ s', Inv X pins σ (upd H a (.ins C dx (putF f y fs))) s' → Q () s') : wpAny (model X.prog X.w) A (setAttr (.ref a) f u) Q E s := by
  obtain ⟨mA, O, r, wi, _, ho⟩ := ins_get I.hok e
  have hz : (fs.map (·.1)).length ≤ sizeLine := by rw [List.length_map, sizeLine_eq]; omega
  refine set_map I.kIn O c.sa c.po n.taker c.hd wi hz fun h' O' sb => h _ ?_
  have hd : ∃ o, h'.get? dx = some o := let ⟨o, _, _, e', _⟩ := O'.ns; ⟨o, e'⟩
  refine I.write (x := a) (e := dx) (by rw [e]; exact True.intro) (.inr ho) (fun b q hb z => (sb.2 b hb).trans z) hd ?_
  refine ⟨by rw [upd_ne O.ne]; exact ho, ?_, O.ne, O'.obj, _, O'.ns, fun g => ?_, fun g hg => ?_⟩
  · have := length_putF f y fs; omega
  · show RelO ((putF f y fs).lookup g) (if g = f then some u else mA g)
    rw [lookup_putF]
    by_cases q : g = f
    · rw [if_pos q, if_pos q]; exact ry
    · rw [if_neg q, if_neg q]; exact r g
  · by_cases q : g = f
    · rw [q]; exact (keys_putF f y fs).1
    · refine (keys_putF f y fs).2 g (wi g fun z => hg ?_)
      show (if g = f then some u else mA g) = none
      rw [if_neg q]; exact z

theorem Inv.made (I : Inv X pins σ H s) : Inv X pins σ (upd (upd H s.heap.objs.size (.own (s.heap.objs.size + 1))) (s.heap.objs.size + 1) (.ins C s.heap.objs.size []))
    { s with heap := (s.heap.push PySem.W.emptyDict).push (PySem.W.instObj C s.heap.objs.size) } := by
  have e1 : (s.heap.push PySem.W.emptyDict).get? s.heap.objs.size = some PySem.W.emptyDict := Heap.get?_push_size s.heap rfl
  have e2 : ((s.heap.push PySem.W.emptyDict).push (PySem.W.instObj C s.heap.objs.size)).get? (s.heap.objs.size + 1) = some (PySem.W.instObj C s.heap.objs.size) := by
    have := Heap.get?_push_size (s.heap.push PySem.W.emptyDict) (o := PySem.W.instObj C s.heap.objs.size) rfl
    rwa [Heap.size_push] at this
  have e3 : (s.heap.push PySem.W.emptyDict).Ns s.heap.objs.size (fun _ => none) := ⟨PySem.W.emptyDict, #[], _, e1, rfl, (fun e he => absurd he (by simp)), fun _ => rfl⟩
  have I1 := I.laid (a := s.heap.objs.size) (o := .own (s.heap.objs.size + 1)) (h' := s.heap.push PySem.W.emptyDict) (t' := s.toks) (fun b u q => Heap.get?_push_of_some _ q) (Nat.le_refl _) ⟨_, e1⟩
  refine I1.laid (a := s.heap.objs.size + 1) (o := .ins C s.heap.objs.size []) (t' := s.toks) (fun b u q => Heap.get?_push_of_some _ q) (Nat.le_of_eq (Heap.size_push _ _)) ?_
  have ne : s.heap.objs.size ≠ s.heap.objs.size + 1 := Nat.ne_of_lt (Nat.lt_succ_self _)
  refine ⟨by rw [upd_ne ne, upd_same], Nat.zero_le _, ne, e2, fun _ => none, (Heap.Ns1.of_empty e3).at fun o q => Heap.get?_push_of_some _ q, fun _ => True.intro, fun y hy => absurd rfl hy⟩

theorem attr_of {prog : Program} {w : World} {env : Env} {e : Expr} {f : Str} {pos : Pos} {s : Shared} {Q : Value → Shared → Prop} (hb : attributeBase e f env (eval e env) = eval e env)
    (h : wpAny (model prog w) A (eval e env) (fun o s₁ => wpAny (model prog w) A (getAttr o f true) Q E s₁) E s) : wpAny (model prog w) A (eval (.Attribute e f pos) env) Q E s :=
  Attribute_any_ h (by rw [arm_eval_Attribute, hb])
end

noncomputable def tFld (K : PySem.W.Frag) (ta : TE) (f : Str) : TE := fun σ H Q => ta σ H fun x H1 => ∃ a C dx fs v, x = .ref a ∧ H1 a = some (.ins C dx fs) ∧ Cls K C ∧ NoAttr K C f ∧ fs.lookup f = some v ∧ Q v H1
noncomputable def tCon (K : PySem.W.Frag) (ta : TE) (f : Str) : TE := fun σ H Q => ta σ H fun x H1 => ∃ a C dx fs v u, x = .ref a ∧ H1 a = some (.ins C dx fs) ∧ Cls K C ∧ Con K C f v u ∧ fs.lookup f = none ∧ Q v H1
noncomputable def sFld (K : PySem.W.Frag) (ta tv : TE) (f : Str) : TS := fun D σ H => tv σ H fun y H1 => ta σ H1 fun x H2 => ∃ a C dx fs, x = .ref a ∧ H2 a = some (.ins C dx fs) ∧ Cls K C ∧ NoAttr K C f ∧ fs.length < 1000 ∧
  D.nx σ (upd H2 a (.ins C dx (putF f y fs)))
noncomputable def InOp (X : Cx) (op : Operator) (rd : V → V → Hp → VK → Prop) : Prop :=
  ∀ (pins : List (Addr × Obj)) (s : Shared) (σ : St) (H : Hp) (x y : V) (u v : Value) (Q : VK), Inv X pins σ H s → RelV x u → RelV y v → rd x y H Q → wpAny (model X.prog X.w) X.A (inplaceOp op u v) (EP X pins σ Q) X.xe s
noncomputable def sFldAug (K : PySem.W.Frag) (ta tv : TE) (rd : V → V → Hp → VK → Prop) (f : Str) : TS := fun D σ H => ta σ H fun x H1 => ∃ a C dx fs v, x = .ref a ∧ H1 a = some (.ins C dx fs) ∧ Cls K C ∧ NoAttr K C f ∧ fs.lookup f = some v ∧
  tv σ H1 fun y H2 => rd v y H2 fun z H3 => ∃ dx' fs', H3 a = some (.ins C dx' fs') ∧ fs'.length < 1000 ∧ D.nx σ (upd H3 a (.ins C dx' (putF f z fs')))

section
variable {X : Cx} {o e value : Expr} {f : Str} {pos pos' tpos : Pos} {ta tv : TE}
theorem pe_fld (he : PE X e ta) (hb : attributeBase e f X.env (eval e X.env) = eval e X.env) : PE X (.Attribute e f pos) (tFld X.K ta f) := by
  intro pins s σ H Q I h
  refine attr_of hb (thn (he pins s σ H _ I h) fun u s1 ⟨x, H1, I1, rx, a, C, dx, fs, v, ex, ea, c, n, l, q⟩ => ?_)
  subst ex
  obtain rfl : u = Value.ref a := rx
  exact getattr_ok I1 ea c n l fun u' s2 I2 ru => ⟨v, H1, I2, ru, q⟩
theorem ps_fld (ha : PE X o ta) (hv : PE X value tv) (hs : swapsWith value (some (.Attribute o f pos')) pos.line X.env = pure false) : PS X (.Assign [.Attribute o f pos'] value pos) (sFld X.K ta tv f) := by
  intro pins s σ H D I h
  refine plainObj_wpAny_Assign_Attribute (thn (hv pins s σ H _ I h) fun u s1 ⟨y, H1, I1, ry, q⟩ => thn (ha pins s1 σ H1 _ I1 q) fun ov s2 ⟨x, H2, I2, rx, a, C, dx, fs, ex, ea, c, n, l, q2⟩ => ?_) hs
  subst ex
  obtain rfl : ov = Value.ref a := rx
  exact setattr_ok I2 ea c n l ry fun s3 I3 => ⟨σ, _, I3, q2⟩
noncomputable def rAdd : V → V → Hp → VK → Prop := fun x y H Q => ∃ i j, x = .int i ∧ y = .int j ∧ Q (.int (i + j)) H
noncomputable def rSub : V → V → Hp → VK → Prop := fun x y H Q => ∃ i j, x = .int i ∧ y = .int j ∧ Q (.int (i - j)) H
end

section
variable {X : Cx} {pins : List (Addr × Obj)} {σ : St} {H : Hp} {s : Shared} {A : Around} {E : Value → Shared → Prop} {Q : Value → Shared → Prop} {c : Value} {b : Bool}
inductive TyOf (K : PySem.W.Frag) (H : Hp) : V → Value → Prop where
  | non : TyOf K H .non (.type "NoneType")
  | bl (x : Bool) : TyOf K H (.bl x) (.type "bool")
  | int (i : Int) : TyOf K H (.int i) (.type "int")
  | str (x : Str) : TyOf K H (.str x) (.type "str")
  | flt (x : UInt64) : TyOf K H (.flt x) (.type "float")
  | lst {a : Addr} {xs : List V} (e : H a = some (.lst xs)) : TyOf K H (.ref a) (.type "list")
  | frz {a : Addr} {o : Obj} {xs : List V} (e : H a = some (.frz o (.lst xs))) : TyOf K H (.ref a) (.type "list")
  | tup {a : Addr} {xs : List V} (e : H a = some (.tup xs)) : TyOf K H (.ref a) (.type "tuple")
  | dK {a : Addr} {kvs : List (Key × V)} (e : H a = some (.dK kvs)) : TyOf K H (.ref a) (.type "dict")
  | dT {a : Addr} {kvs : List (List Key × V)} (e : H a = some (.dT kvs)) : TyOf K H (.ref a) (.type "dict")
  | ins {a C dx : Addr} {fs : List (Str × V)} (e : H a = some (.ins C dx fs)) (cl : Cls K C) (ha : PySem.W.findIn K (.ref C) "__class__" = some (some (.builtin "object.__class__")))
      (hn : PySem.W.specialIn K (.builtin "object.__class__") "__get__" = some (some (.builtin "getset_descriptor.__get__"))) (htk : PySem.W.takesIn K (.builtin "object.__class__") = some true)
      (hm : PySem.W.mroIn K C (.type "object") = some true) : TyOf K H (.ref a) (.ref C)
theorem isinst_ok {x : V} {u t : Value} (I : Inv X pins σ H s) (rx : RelV x u) (ty : TyOf X.K H x t) (e : PySem.W.kitOne X.K t c = some b) (h : ∀ tk, Q (.bool b) { s with toks := tk }) :
    wpAny (model X.prog X.w) A (call (.builtin "isinstance") [u, c]) Q E s := by
  cases ty with
  | non => cases (show u = Value.none from rx); exact PySem.W.kia_one PySem.W.kitx_none I.kIn True.intro e (fun z => nomatch z) h
  | bl y => cases (show u = Value.bool y from rx); exact PySem.W.kia_one PySem.W.kitx_bool I.kIn True.intro e (fun z => nomatch z) h
  | int i => obtain ⟨t, q⟩ := (show ∃ t, u = Value.int i t from rx); cases q; exact PySem.W.kia_one PySem.W.kitx_int I.kIn True.intro e (fun z => nomatch z) h
  | str y => obtain ⟨t, q⟩ := (show ∃ t, u = Value.str y t from rx); cases q; exact PySem.W.kia_one PySem.W.kitx_str I.kIn True.intro e (fun z => nomatch z) h
  | flt y => obtain ⟨t, q⟩ := (show ∃ t, u = Value.float y t from rx); cases q; exact PySem.W.kia_one PySem.W.kitx_float I.kIn True.intro e (fun z => nomatch z) h
  | @lst a xs ea =>
    cases (show u = Value.ref a from rx)
    obtain ⟨_, _, n, _, h1⟩ := (show ObjOk X.prog X.w H s.heap a (.lst xs) from I.hok a _ ea)
    exact PySem.W.kia_one PySem.W.kitx_list I.kIn ⟨_, h1, rfl⟩ e (fun z => nomatch z) h
  | @frz a ob xs ea =>
    cases (show u = Value.ref a from rx)
    obtain ⟨_, _, _, n, _, h1⟩ := (show ObjOk X.prog X.w H s.heap a (.frz ob (.lst xs)) from I.hok a _ ea)
    exact PySem.W.kia_one PySem.W.kitx_list I.kIn ⟨_, h1, rfl⟩ e (fun z => nomatch z) h
  | @tup a xs ea =>
    cases (show u = Value.ref a from rx)
    obtain ⟨_, _, _, p⟩ := (show ObjOk X.prog X.w H s.heap a (.tup xs) from I.hok a _ ea)
    obtain ⟨o, h1, h2, _⟩ := p
    exact PySem.W.kia_one PySem.W.kitx_tuple I.kIn ⟨o, h1, h2⟩ e (fun z => nomatch z) h
  | @dK a kvs ea =>
    cases (show u = Value.ref a from rx)
    obtain ⟨_, _, vs, _, p⟩ := (show ObjOk X.prog X.w H s.heap a (.dK kvs) from I.hok a _ ea)
    obtain ⟨o, es, ep, h1, h2, _⟩ := p
    exact PySem.W.kia_one PySem.W.kitx_dict I.kIn ⟨o, h1, h2.1⟩ e (fun z => nomatch z) h
  | @dT a kvs ea =>
    cases (show u = Value.ref a from rx)
    obtain ⟨_, _, xs, _, o, es, ep, h1, h2, _⟩ := (show ObjOk X.prog X.w H s.heap a (.dT kvs) from I.hok a _ ea)
    exact PySem.W.kia_one PySem.W.kitx_dict I.kIn ⟨o, h1, h2.1⟩ e (fun z => nomatch z) h
  | @ins a C dx fs ea cl ha hn htk hm =>
    cases (show u = Value.ref a from rx)
    obtain ⟨mA, O, _⟩ := ins_get I.hok ea
    obtain ⟨od, J, _⟩ := O.look
    exact PySem.W.kia_one (PySem.W.kitx_own (cl.get _) cl.hd ha hn htk hm) I.kIn J e (fun z => nomatch z) h
end
end L2.Internal

namespace L2.Internal
open PySem PySem.Spec PyProof.Rows

structure Room (k : Nat) (A : Around) : Prop where
  hd : A.handled = none
  dp : A.depth + 3 * k + 5 < recursionLimit
  un : A.units + 16 * k + 200 < cLine
theorem Room.mono {j k : Nat} {A : Around} (r : Room k A) (h : j ≤ k) : Room j A := ⟨r.hd, by have := r.dp; omega, by have := r.un; omega⟩
theorem Room.deeper {k : Nat} {A : Around} (r : Room (k + 1) A) (env : Env) : Room k (A.deeper env) :=
  ⟨r.hd, by have := r.dp; show A.depth + 1 + 3 * k + 5 < _; omega, by have := r.un; show A.units + 3 + 16 * k + 200 < _; omega⟩
theorem make_depth {A : Around} {C : Addr} {us : List Value} {kw : List (Str × Value)} : (A.under (.builtin "type.__call__" ⟨.ref C :: us, kw⟩)).depth = A.depth + 1 := by
  first | rfl | simp [Around.under, Code.weight, Code.isCreation, Code.isGuard, Code.isCaller, Code.frames, Code.isFrame, guardIds]
theorem make_units {A : Around} {C : Addr} {us : List Value} {kw : List (Str × Value)} : (A.under (.builtin "type.__call__" ⟨.ref C :: us, kw⟩)).units = A.units + 1 := by
  first | rfl | simp [Around.under, Code.cUnits, Code.frames, Code.isFrame]
theorem Room.make {k : Nat} {A : Around} (r : Room (k + 1) A) (C : Addr) (us : List Value) (kw : List (Str × Value)) : Room k (A.under (.builtin "type.__call__" ⟨.ref C :: us, kw⟩)) :=
  ⟨r.hd, by have := r.dp; rw [make_depth]; omega, by have := r.un; rw [make_units]; omega⟩
theorem Room.depth {k : Nat} {A : Around} (r : Room k A) : A.depth < recursionLimit := by have := r.dp; omega
noncomputable def tNil : TA := fun _ H Q => Q [] H
noncomputable def tCons (ta : TE) (tr : TA) : TA := fun σ H Q => ta σ H fun x H1 => tr σ H1 fun xs H2 => Q (x :: xs) H2
section
variable {X : Cx} {e : Expr} {es : List Expr} {te : TE} {t : TA} {pos : Pos}
theorem pa_nil : PA X [] tNil := fun _ _ _ _ H Q I h => Calls.spliced_nil ⟨[], H, I, .nil, h⟩
theorem pa_cons (ha : PE X e te) (hr : PA X es t) (hs : autoParam (starEach (e :: es) X.env = (false, eval e X.env) :: starEach es X.env) L2.Internal.auR._auto_1) : PA X (e :: es) (tCons te t) := by
  intro pos pins s σ H Q I h
  rw [hs]
  show wpAny _ _ (spliced ((false, eval e X.env) :: backTo pos (starEach es X.env))) _ _ s
  refine Calls.spliced_cons (thn (ha pins s σ H _ I h) fun u s1 ⟨x, H1, I1, r1, q1⟩ => ?_)
  exact thn (hr pos pins s1 σ H1 _ I1 q1) fun us s2 ⟨xs, H2, I2, r2, q2⟩ => ⟨x :: xs, H2, I2, .cons r1 r2, q2⟩

noncomputable def tTup (t : TA) : TE := fun σ H Q => t σ H fun xs H1 => xs.length ≤ sizeLine ∧ ∀ p, H1 p = none → Q (.ref p) (upd H1 p (.tup xs))
noncomputable def tLst (t : TA) : TE := fun σ H Q => t σ H fun xs H1 => xs.length ≤ sizeLine ∧ ∀ p, H1 p = none → Q (.ref p) (upd H1 p (.lst xs))
theorem pe_tup {x1} (h : PA X es t) : PE X (.Tuple es x1 pos) (tTup t) := by
  intro pins s σ H Q I hq
  refine wpAny_Tuple_spliced (thn (h pos pins s σ H _ I hq) fun us s1 ⟨xs, H1, I1, r, z, q⟩ => ⟨by rw [← r.length]; exact z, ?_⟩)
  have hf : H1 s1.heap.objs.size = none := I1.hok.fresh (Nat.le_refl _)
  refine ⟨.ref s1.heap.objs.size, upd H1 s1.heap.objs.size (.tup xs), I1.laid (t' := s1.toks) (fun b u e => Heap.get?_push_of_some _ e) (Nat.le_refl _) ?_, rfl, q _ hf⟩
  exact ⟨z, us, r, ⟨_, Heap.get?_push_size _ rfl, rfl, _, rfl, rfl⟩⟩
theorem pe_lst (h : PA X es t) : PE X (.List es pos) (tLst t) := by
  intro pins s σ H Q I hq
  refine wpAny_List_spliced (thn (h pos pins s σ H _ I hq) fun us s1 ⟨xs, H1, I1, r, z, q⟩ => ⟨by rw [← r.length]; exact z, ?_⟩)
  have hf : H1 s1.heap.objs.size = none := I1.hok.fresh (Nat.le_refl _)
  refine ⟨.ref s1.heap.objs.size, upd H1 s1.heap.objs.size (.lst xs), I1.laid (t' := s1.toks) (fun b u e => Heap.get?_push_of_some _ e) (Nat.le_refl _) ?_, rfl, q _ hf⟩
  exact ⟨z, us, 0, r, Heap.get?_push_size _ rfl⟩
end

noncomputable abbrev Sp := List V → Hp → VK → XK → Prop
noncomputable abbrev CXT := List Env → Hp → Shared → XK → Value → Shared → Prop

structure Env0 (P : Program) (w : World) (K : PySem.W.Frag) (mg : Str → Option Value) (base : Heap) (A : Around) (outer : List Env) (s : Shared) (H : Hp) : Prop where
  frames : A.frames = some outer
  mod : Mod K mg base
  bs : ∀ b o, base.get? b = some o → s.heap.get? b = some o ∧ H b = none
  bsz : base.objs.size ≤ s.heap.objs.size
  funs : s.heap.FunFrames base outer
  frf : ∀ b ∈ frs outer, H b = none
  hok : HOk P w H s.heap
  bare : AllBare s.gens
noncomputable def CE (outer : List Env) (P : Program) (w : World) (H : Hp) (s : Shared) (Q : VK) (u : Value) (s' : Shared) : Prop :=
  ∃ v H', s'.os = s.os ∧ AllBare s'.gens ∧ Un (frs outer) [] H H' s.heap s'.heap ∧ HOk P w H' s'.heap ∧ RelV v u ∧ Q v H'
noncomputable def CR (CX : CXT) (outer : List Env) (P : Program) (w : World) (H : Hp) (s : Shared) (Q : VK) (E : XK) (r : Result) (s' : Shared) : Prop :=
  match r with
  | .ok (.ret u) => CE outer P w H s Q u s'
  | .ok _ => False
  | .error e => CX outer H s E e s'
structure FnOk (P : Program) (w : World) (K : PySem.W.Frag) (mg : Str → Option Value) (base : Heap) (CX : CXT) (k : Nat) (f : Addr) (fd : FuncData) (ps : List Str) (sp : Sp) : Prop where
  len : ∀ vs H Q E, sp vs H Q E → vs.length = ps.length
  run : ∀ (A : Around) (outer : List Env) (s : Shared) (H : Hp) (args : Args) (us : List Value) (vs : List V) (Q : VK) (E : XK), Room k A → Env0 P w K mg base A outer s H → BindsTo s fd args (ps.zip us) → Vals vs us → sp vs H Q E →
    codeAny (model P w) A (.call (.ref f) args) (CR CX outer P w H s Q E) s
theorem Env0.make {P : Program} {w : World} {K : PySem.W.Frag} {mg : Str → Option Value} {base : Heap} {A : Around} {outer : List Env} {s : Shared} {H : Hp} (e : Env0 P w K mg base A outer s H) (C : Addr) (us : List Value) (kw : List (Str × Value)) :
    Env0 P w K mg base (A.under (.builtin "type.__call__" ⟨.ref C :: us, kw⟩)) outer s H := ⟨by first | exact e.frames | (simpa [Around.under, Code.envs, Code.isFrame, pushEnvs] using e.frames), e.mod, e.bs, e.bsz, e.funs, e.frf, e.hok, e.bare⟩
section
variable {X : Cx} {pins : List (Addr × Obj)} {σ : St} {H : Hp} {s s' : Shared}
theorem Inv.env0 (I : Inv X pins σ H s) : Env0 X.prog X.w X.K X.mg X.base X.A X.stack s H :=
  ⟨I.ok.frames, I.ok.mod, I.bs, Nat.le_trans I.ok.bsz I.sz, I.stack, I.stkFree, I.hok, I.bare⟩
theorem Inv.after {Q : VK} {u : Value} (I : Inv X pins σ H s) (h : CE X.stack X.prog X.w H s Q u s') : EP X pins σ Q u s' := by
  obtain ⟨v, H', os, bare, un, hok, r, q⟩ := h
  obtain ⟨hh, g, d, t, os'⟩ := s'
  obtain rfl : os' = s.os := os
  exact ⟨v, H', I.call (h' := hh) (g' := g) (d' := d) (t' := t) (ch := []) un hok bare (fun b z => absurd z (by simp)), r, q⟩
end

noncomputable def tCall (sp : Sp) (dvs : List V) (E : XK) (t : TA) : TE := fun σ H Q => t σ H fun vs H1 => sp (vs ++ dvs) H1 Q E
noncomputable def tMeth (C : Addr) (m : Str) (sp : Sp) (dvs : List V) (E : XK) (ta : TE) (t : TA) : TE := fun σ H Q => ta σ H fun x H1 => ∃ a dx fs, x = .ref a ∧ H1 a = some (.ins C dx fs) ∧ fs.lookup m = none ∧
  t σ H1 fun vs H2 => sp (x :: (vs ++ dvs)) H2 Q E
noncomputable def tMake (C : Addr) (sp : Sp) (dvs : List V) (E : XK) (t : TA) : TE := fun σ H Q => t σ H fun vs H1 => ∀ x dx, H1 x = none → H1 dx = none → dx ≠ x →
  sp (.ref x :: (vs ++ dvs)) (upd (upd H1 dx (.own x)) x (.ins C dx [])) (fun v H2 => v = .non ∧ Q (.ref x) H2) E

noncomputable def Binds (K : PySem.W.Frag) (fd : FuncData) (ps : List Str) (ds : List Value) : Prop :=
  ∀ (s : Shared) (us : List Value), K.In s.heap → (us ++ ds).length = ps.length → BindsTo s fd ⟨us, []⟩ (ps.zip (us ++ ds))
theorem Binds.all {K : PySem.W.Frag} {fd : FuncData} {ps : List Str} (h : ∀ us : List Value, us.length = ps.length → bindArgs fd ⟨us, []⟩ = pure (ps.zip us)) : Binds K fd ps [] := fun s us _ hl => by
  rw [List.append_nil] at hl ⊢
  exact .of_eq (h us hl)

noncomputable def Passes (CX : CXT) (X : Cx) (E : XK) : Prop := ∀ (pins : List (Addr × Obj)) (σ : St) (H : Hp) (s : Shared) (e : Value) (s' : Shared), Inv X pins σ H s → CX X.stack H s E e s' → X.xe e s'

section
variable {X : Cx} {CX : CXT} {k : Nat} {f C : Addr} {fd : FuncData} {ps : List Str} {sp : Sp} {dvs : List V} {ds : List Value} {E : XK} {x m : Str} {p pos apos : Pos} {e o : Expr} {es : List Expr} {ta : TE} {t : TA}

theorem run_fn {pins : List (Addr × Obj)} {σ : St} {H : Hp} {s : Shared} {Q : VK} {us : List Value} {vs : List V} (F : FnOk X.prog X.w X.K X.mg X.base CX k f fd ps sp) (hr : Room k X.A) (hb : Binds X.K fd ps ds) (hd : Vals dvs ds) (hx : Passes CX X E)
    (I : Inv X pins σ H s) (r : Vals vs us) (h : sp (vs ++ dvs) H Q E) : wpAny (model X.prog X.w) X.A (call (.ref f) us) (EP X pins σ Q) X.xe s := by
  have r2 : Vals (vs ++ dvs) (us ++ ds) := r.append hd
  have hl : (us ++ ds).length = ps.length := by rw [← r2.length]; exact F.len _ _ _ _ h
  refine wpAny_call (codeAny_mono (F.run X.A X.stack s H ⟨us, []⟩ (us ++ ds) (vs ++ dvs) Q E hr I.env0 (hb s us I.kIn hl) r2 h) fun r s' hq => ?_)
  cases r with
  | error e => exact hx pins σ H s e s' I hq
  | ok fl =>
    cases fl with
    | ret u => exact I.after hq
    | next => exact False.elim hq
    | brk => exact False.elim hq
    | cont => exact False.elim hq

theorem pe_call (F : FnOk X.prog X.w X.K X.mg X.base CX k f fd ps sp) (hr : Room k X.A) (hg : Gl X x) (hm : X.mg x = some (.ref f)) (hk : PySem.W.keepIn X.K (.ref f) = true) (hb : Binds X.K fd ps ds) (hd : Vals dvs ds) (hx : Passes CX X E)
    (ha : PA X (e :: es) t) (hdb : autoParam ((x == ("__debug__" : Str)) = false) L2.Internal.auD._auto_1) (he : autoParam (starEach (e :: es) X.env = (false, eval e X.env) :: starEach es X.env) L2.Internal.auR._auto_1) (hpl : autoParam ((backTo pos (starEach es X.env)).any (·.1) = false) L2.Internal.auR._auto_1) :
    PE X (.Call (.Name x p) (e :: es) [] pos) (tCall sp dvs E t) := by
  intro pins s σ H Q I h
  refine wpAny_Call_Name_kw (ld_glob I hg hm ?_ hdb)
  refine PySem.W.callWith_K (h₀ := X.base) I.ok.mod.kin hk (thn (ha pos pins s σ H _ I h) fun us s1 ⟨vs, H1, I1, r, q⟩ => ⟨I1.kIn, ?_⟩) he hpl
  exact run_fn F hr hb hd hx I1 r q
theorem pe_meth {pl : Sem Bool} (he : PE X o ta) (c : Cls X.K C) (hm : Meth X.K C m f) (F : FnOk X.prog X.w X.K X.mg X.base CX k f fd ps sp) (hr : Room k X.A) (hb : Binds X.K fd ps ds) (hd : Vals dvs ds) (hx : Passes CX X E) (ha : PA X (e :: es) t)
    (hst : autoParam (starEach (e :: es) X.env = (false, eval e X.env) :: starEach es X.env) L2.Internal.auR._auto_1) (hpl : autoParam ((backTo pos (starEach es X.env)).any (·.1) = false) L2.Internal.auR._auto_1)
    (ht : eval (.Call (.Attribute o m apos) (e :: es) [] pos) X.env = (do
      let ov ← eval o X.env
      standAt apos.atName
      let (f, first) ← holding [ov] (getMethod ov m pl)
      callWith pos f first (backTo pos (starEach (e :: es) X.env)) (backToKw pos (keywordEach [] X.env))) := by rfl) :
    PE X (.Call (.Attribute o m apos) (e :: es) [] pos) (tMeth C m sp dvs E ta t) := by
  intro pins s σ H Q I h
  refine PySem.W.methodCall_KW (pl := pl) (thn (he pins s σ H _ I h) fun u s1 ⟨x, H1, I1, rx, a, dx, fs, ex, ea, l, q⟩ => ?_) ht
  subst ex
  obtain rfl : u = Value.ref a := rx
  refine getmeth_ok I1 ea c hm l ?_
  refine PySem.W.callWith_K (first := [.ref a]) (h₀ := X.base) I.ok.mod.kin hm.kp (thn (ha pos pins s1 σ H1 _ I1 q) fun us s2 ⟨vs, H2, I2, r, q2⟩ => ⟨I2.kIn, ?_⟩) hst hpl
  exact run_fn (us := .ref a :: us) (vs := .ref a :: vs) F hr hb hd hx I2 (.cons rfl r) q2
theorem pe_meth0 {pl : Sem Bool} (he : PE X o ta) (c : Cls X.K C) (hm : Meth X.K C m f) (F : FnOk X.prog X.w X.K X.mg X.base CX k f fd ps sp) (hr : Room k X.A) (hb : Binds X.K fd ps ds) (hd : Vals dvs ds) (hx : Passes CX X E)
    (ht : eval (.Call (.Attribute o m apos) [] [] pos) X.env = (do
      let ov ← eval o X.env
      standAt apos.atName
      let (f, first) ← holding [ov] (getMethod ov m pl)
      callWith pos f first (backTo pos (starEach [] X.env)) (backToKw pos (keywordEach [] X.env))) := by rfl) :
    PE X (.Call (.Attribute o m apos) [] [] pos) (tMeth C m sp dvs E ta tNil) := by
  intro pins s σ H Q I h
  refine PySem.W.methodCall_KW (pl := pl) (thn (he pins s σ H _ I h) fun u s1 ⟨x, H1, I1, rx, a, dx, fs, ex, ea, l, q⟩ => ?_) ht
  subst ex
  obtain rfl : u = Value.ref a := rx
  refine getmeth_ok I1 ea c hm l ?_
  exact PySem.W.callWith_K0 (first := [.ref a]) I1.kIn hm.kp (run_fn (us := [.ref a]) (vs := [.ref a]) F hr hb hd hx I1 (.cons rfl .nil) q)

structure Mk (K : PySem.W.Frag) (C f : Addr) : Prop where
  makes : PySem.W.makesIn K C = true
  init : PySem.W.findIn K (.ref C) "__init__" = some (some (.ref f))
  fn : PySem.W.isFn K (.ref f) = true
  kp : PySem.W.keepIn K (.ref C) = true

theorem run_make {pins : List (Addr × Obj)} {σ : St} {H : Hp} {s : Shared} {Q : VK} {us : List Value} {vs : List V} (M : Mk X.K C f) (F : FnOk X.prog X.w X.K X.mg X.base CX k f fd ps sp) (hr : Room (k + 1) X.A) (hb : Binds X.K fd ps ds) (hd : Vals dvs ds)
    (hx : Passes CX X E) (I : Inv X pins σ H s) (r : Vals vs us)
    (h : ∀ x dx, H x = none → H dx = none → dx ≠ x → sp (.ref x :: (vs ++ dvs)) (upd (upd H dx (.own x)) x (.ins C dx [])) (fun v H2 => v = .non ∧ Q (.ref x) H2) E) :
    wpAny (model X.prog X.w) X.A (call (.ref C) us) (EP X pins σ Q) X.xe s := by
  have hq := h (s.heap.objs.size + 1) s.heap.objs.size (I.hok.fresh (Nat.le_succ _)) (I.hok.fresh (Nat.le_refl _)) (Nat.ne_of_lt (Nat.lt_succ_self _))
  have I2 := Inv.made (C := C) I
  have r2 : Vals (V.ref (s.heap.objs.size + 1) :: (vs ++ dvs)) (Value.ref (s.heap.objs.size + 1) :: (us ++ ds)) := .cons rfl (r.append hd)
  have hl : (Value.ref (s.heap.objs.size + 1) :: us ++ ds).length = ps.length := by
    have e := r2.length
    rw [F.len _ _ _ _ hq] at e
    exact e.symm
  refine wpAny_call (make_map (f := f) I.kIn M.makes M.init (beq_iff_eq.mp M.fn) (codeAny_mono (F.run _ X.stack _ _ ⟨Value.ref (s.heap.objs.size + 1) :: us, []⟩ (Value.ref (s.heap.objs.size + 1) :: (us ++ ds)) _ _ E (hr.make C us [])
    (I2.env0.make C us []) (hb _ (Value.ref (s.heap.objs.size + 1) :: us) I2.kIn hl) r2 hq) fun r s' hq' => ?_))
  cases r with
  | error e => exact hx pins σ _ _ e s' I2 hq'
  | ok fl =>
    cases fl with
    | ret u =>
      obtain ⟨v, H', I3, rv, ev, q3⟩ := I2.after hq'
      subst ev
      exact ⟨rv, ⟨V.ref (s.heap.objs.size + 1), H', I3, rfl, q3⟩⟩
    | next => exact False.elim hq'
    | brk => exact False.elim hq'
    | cont => exact False.elim hq'
theorem pe_make (M : Mk X.K C f) (F : FnOk X.prog X.w X.K X.mg X.base CX k f fd ps sp) (hr : Room (k + 1) X.A) (hg : Gl X x) (hm : X.mg x = some (.ref C)) (hb : Binds X.K fd ps ds) (hd : Vals dvs ds) (hx : Passes CX X E)
    (ha : PA X (e :: es) t) (hdb : autoParam ((x == ("__debug__" : Str)) = false) L2.Internal.auD._auto_1) (he : autoParam (starEach (e :: es) X.env = (false, eval e X.env) :: starEach es X.env) L2.Internal.auR._auto_1) (hpl : autoParam ((backTo pos (starEach es X.env)).any (·.1) = false) L2.Internal.auR._auto_1) :
    PE X (.Call (.Name x p) (e :: es) [] pos) (tMake C sp dvs E t) := by
  intro pins s σ H Q I h
  refine wpAny_Call_Name_kw (ld_glob I hg hm ?_ hdb)
  refine PySem.W.callWith_K (h₀ := X.base) I.ok.mod.kin M.kp (thn (ha pos pins s σ H _ I h) fun us s1 ⟨vs, H1, I1, r, q⟩ => ⟨I1.kIn, ?_⟩) he hpl
  exact run_make M F hr hb hd hx I1 r q
theorem pe_make0 (M : Mk X.K C f) (F : FnOk X.prog X.w X.K X.mg X.base CX k f fd ps sp) (hr : Room (k + 1) X.A) (hg : Gl X x) (hm : X.mg x = some (.ref C)) (hb : Binds X.K fd ps ds) (hd : Vals dvs ds) (hx : Passes CX X E)
    (hdb : autoParam ((x == ("__debug__" : Str)) = false) L2.Internal.auD._auto_1) : PE X (.Call (.Name x p) [] [] pos) (tMake C sp dvs E tNil) := by
  intro pins s σ H Q I h
  refine wpAny_Call_Name_kw (ld_glob I hg hm ?_ hdb)
  exact PySem.W.callWith_K0 I.kIn M.kp (run_make (us := []) M F hr hb hd hx I .nil h)
end

noncomputable def PK (X : Cx) (kws : List Keyword) (t : TA) : Prop :=
  ∀ (pos : Pos) (pins : List (Addr × Obj)) (s : Shared) (σ : St) (H : Hp) (Q : List V → Hp → Prop), Inv X pins σ H s → t σ H Q → wpAny (model X.prog X.w) X.A (evalAll ((backToKw pos (keywordEach kws X.env)).map (·.2))) (AP X pins σ Q) X.xe s
section
variable {X : Cx} {CX : CXT} {k : Nat} {f C : Addr} {fd : FuncData} {ps ks : List Str} {sp : Sp} {E : XK} {x m : Str} {p pos apos kpos : Pos} {e o : Expr} {es : List Expr} {kws : List Keyword} {te ta : TE} {t tk : TA} {nm : Option Str}
structure KBinds (K : PySem.W.Frag) (fd : FuncData) (ps ks : List Str) (g : List Value → List Value → List Value) (gV : List V → List V → List V) : Prop where
  to : ∀ (s : Shared) (us ws : List Value), K.In s.heap → (g us ws).length = ps.length → BindsTo s fd ⟨us, ks.zip ws⟩ (ps.zip (g us ws))
  rel : ∀ {vs : List V} {us : List Value} {zs : List V} {ws : List Value}, Vals vs us → Vals zs ws → Vals (gV vs zs) (g us ws)
noncomputable def tCallK (sp : Sp) (gV : List V → List V → List V) (E : XK) (t tk : TA) : TE := fun σ H Q => t σ H fun vs H1 => tk σ H1 fun zs H2 => sp (gV vs zs) H2 Q E
variable {g : List Value → List Value → List Value} {gV : List V → List V → List V}
end

structure FnScope (N P : List Str) (sc : Scope) : Prop where
  kind : sc.kind = .function
  co : sc.isCoroutine = false
  gen : sc.isGenerator = false
  nd : N.Nodup
  pre : N.take P.length = P
  par : ∀ x ∈ P, sc.names.lookup x = some .local ∨ sc.names.lookup x = some .cell
  nofree : ∀ y ∈ sc.names, y.2 ≠ .free

theorem bindL_out {kindOf : Str → Option NameKind} {x : Str} : ∀ {binds : List (Str × Value)} {m : Str → Option Value}, (∀ v, (x, v) ∉ binds) → bindL kindOf binds m x = m x
  | [], _, _ => rfl
  | (n, v) :: r, m, h => by
    unfold bindL
    rw [bindL_out fun w hw => h w (List.mem_cons_of_mem _ hw)]
    split
    · have : x ≠ n := by rintro rfl; exact h v List.mem_cons_self
      simp [this]
    · rfl
theorem bindC_out {kindOf : Str → Option NameKind} {x : Str} : ∀ {binds : List (Str × Value)} {m : Str → Option Value}, (∀ v, (x, v) ∉ binds) → bindC kindOf binds m x = m x
  | [], _, _ => rfl
  | (n, v) :: r, m, h => by
    unfold bindC
    rw [bindC_out fun w hw => h w (List.mem_cons_of_mem _ hw)]
    split
    · rfl
    · have : x ≠ n := by rintro rfl; exact h v List.mem_cons_self
      simp [this]
theorem bindL_get {kindOf : Str → Option NameKind} {x : Str} {v : Value} : ∀ {P : List Str} {vs : List Value} {i : Nat} {m : Str → Option Value}, P.Nodup → P[i]? = some x → vs[i]? = some v → kindOf x = some .local →
    bindL kindOf (P.zip vs) m x = some v
  | [], _, _, _, _, h, _, _ => by simp at h
  | _ :: _, [], _, _, _, _, h, _ => by simp at h
  | p :: P, w :: vs, 0, m, nd, h1, h2, hk => by
    simp at h1 h2; subst h1; subst h2
    show bindL kindOf ((p, w) :: P.zip vs) m p = _
    unfold bindL
    rw [bindL_out fun v hv => (List.nodup_cons.mp nd).1 (List.of_mem_zip hv).1, if_pos hk]
    simp
  | p :: P, w :: vs, i + 1, m, nd, h1, h2, hk => by
    show bindL kindOf ((p, w) :: P.zip vs) m x = _
    unfold bindL
    exact bindL_get (i := i) (List.nodup_cons.mp nd).2 (by simpa using h1) (by simpa using h2) hk
theorem bindC_get {kindOf : Str → Option NameKind} {x : Str} {v : Value} : ∀ {P : List Str} {vs : List Value} {i : Nat} {m : Str → Option Value}, P.Nodup → P[i]? = some x → vs[i]? = some v → kindOf x ≠ some .local →
    bindC kindOf (P.zip vs) m x = some v
  | [], _, _, _, _, h, _, _ => by simp at h
  | _ :: _, [], _, _, _, _, h, _ => by simp at h
  | p :: P, w :: vs, 0, m, nd, h1, h2, hk => by
    simp at h1 h2; subst h1; subst h2
    show bindC kindOf ((p, w) :: P.zip vs) m p = _
    unfold bindC
    rw [bindC_out fun v hv => (List.nodup_cons.mp nd).1 (List.of_mem_zip hv).1, if_neg hk]
    simp
  | p :: P, w :: vs, i + 1, m, nd, h1, h2, hk => by
    show bindC kindOf ((p, w) :: P.zip vs) m x = _
    unfold bindC
    exact bindC_get (i := i) (List.nodup_cons.mp nd).2 (by simpa using h1) (by simpa using h2) hk

noncomputable def start (N : List Str) (vs : List V) : St := vs.map some ++ List.replicate (N.length - vs.length) none

noncomputable def cxOf (CX : CXT) (P : Program) (w : World) (K : PySem.W.Frag) (mg : Str → Option Value) (base : Heap) (N : List Str) (qual : Str) (scope : Scope) (f : Addr) (cd : Value) (A : Around) (outer : List Env) (s : Shared) (H : Hp) (E : XK) : Cx where
  prog := P
  w := w
  K := K
  mg := mg
  base := base
  A := A.deeper (envOfC qual scope s.heap.objs.size f cd)
  N := N
  s₀ := s
  H₀ := H
  env := envOfC qual scope s.heap.objs.size f cd
  outer := outer
  stack := envOfC qual scope s.heap.objs.size f cd :: outer
  ex := []
  calm := true
  fn := fun _ => true
  pn := []
  xe := fun e s' => wpAny (model P w) (A.deeper (envOfC qual scope s.heap.objs.size f cd)) (leaving (envOfC qual scope s.heap.objs.size f cd) e) (fun _ s'' => CX outer H s E e s'') (fun e' s'' => CX outer H s E e' s'') s'

theorem cell_has {sc : Scope} {n : Nat} {x : Str} (h : sc.names.lookup x = some .cell) : ∃ c, (cellsFrom n sc.names []).lookup x = some c := by
  have q := PySem.W.cellsFrom_some sc.names n [] (.inl h)
  exact Option.isSome_iff_exists.mp q

theorem inv_start {CX : CXT} {P : Program} {w : World} {K : PySem.W.Frag} {mg : Str → Option Value} {base : Heap} {N ps : List Str} {qual : Str} {scope : Scope} {f : Addr} {cd : Value} {A : Around} {outer : List Env} {s s1 : Shared} {H : Hp} {E : XK} {us : List Value} {vs : List V}
    (S : FnScope N ps scope) (hd : A.handled = none) (e0 : Env0 P w K mg base A outer s H) (hl : vs.length = ps.length) (r : Vals vs us)
    (x : InCallC s s.heap.objs.size (bindL (envOfC qual scope s.heap.objs.size f cd).kindOf (ps.zip us) fun _ => none) (cellsFrom (s.heap.objs.size + 1) scope.names []) (bindC (envOfC qual scope s.heap.objs.size f cd).kindOf (ps.zip us) fun _ => none) s1) :
    Inv (cxOf CX P w K mg base N qual scope f cd A outer s H E) [] (start N vs) H s1 := by
  have hpl : ps.length ≤ N.length := by have := congrArg List.length S.pre; rw [List.length_take] at this; omega
  obtain ⟨h1, tk, rfl, hk⟩ := x.done
  have noA : ∀ b : Addr, b ∉ (cxOf CX P w K mg base N qual scope f cd A outer s H E).ex := fun b z => absurd (show b ∈ ([] : List Addr) from z) (by simp)
  refine ⟨⟨e0.mod, S.kind, rfl, rfl, Nat.le_refl _, fun y z c h1 h2 => ?_, fun y hy => ?_, fun y c _ h => ?_, fun _ => hd, Around.frames_deeper e0.frames, .inr ⟨rfl, rfl⟩, fun b z => absurd z (noA b), e0.bs, e0.bsz, fun b _ _ => noA b, fun b z => absurd z (noA b), e0.funs, e0.frf⟩,
    rfl, e0.bare, Un.kept hk, ⟨_, x.toInCall.ns, fun i y v h1 h2 h3 => ?_⟩, fun y c h => ⟨_, x.cell y c h⟩, e0.hok.fresh (Nat.le_refl _), fun y c h => ?_, fun p hp => absurd (show p ∈ ([] : List (Addr × Obj)) from hp) (by simp), e0.hok.kept hk, ?_⟩
  · exact name_of_addr x.apart (PySem.mem_of_lookup h1) (PySem.mem_of_lookup h2)
  · have hy : scope.names.lookup y = some .cell ∨ scope.names.lookup y = some .free := hy
    rcases hy with hy | hy
    · exact cell_has hy
    · exact absurd rfl (S.nofree _ (PySem.mem_of_lookup hy))
  · exact Nat.le_of_lt (x.above y c (PySem.mem_of_lookup h))
  · have hi : i < vs.length := by
      unfold start at h2
      by_cases hi : i < vs.length
      · exact hi
      · rw [List.getElem?_append_right (by simpa using hi)] at h2
        rw [List.getElem?_replicate] at h2
        split at h2 <;> cases h2
    have ha : vs[i]? = some v := by
      unfold start at h2
      rw [List.getElem?_append_left (by simpa using hi), List.getElem?_map] at h2
      cases e : vs[i]? with
      | none => rw [e] at h2; cases h2
      | some a => rw [e] at h2; cases h2; rfl
    obtain ⟨u, hu, rv⟩ := r.get ha
    have hp : ps[i]? = some y := by
      rw [← S.pre, List.getElem?_take_of_lt (by omega)]; exact h1
    have ndP : ps.Nodup := by rw [← S.pre]; exact S.nd.sublist (List.take_sublist _ _)
    refine ⟨u, rv, ?_⟩
    rcases S.par y (List.mem_of_getElem? hp) with k | k
    · exact .inl ⟨k, bindL_get ndP hp hu k⟩
    · obtain ⟨c, e⟩ := cell_has (n := s.heap.objs.size + 1) k
      refine .inr ⟨.inl k, c, e, ?_⟩
      have q := x.cell y c e
      rw [bindC_get ndP hp hu (by show scope.names.lookup y ≠ _; rw [k]; decide)] at q
      exact q
  · exact e0.hok.fresh (Nat.le_of_lt (x.above y c (PySem.mem_of_lookup h)))
  · unfold start
    show _ = N.length
    rw [List.length_append, List.length_map, List.length_replicate]
    omega

theorem fn_of {CX : CXT} {P : Program} {w : World} {K : PySem.W.Frag} {mg : Str → Option Value} {base : Heap} {k : Nat} {f : Addr} {name qual : Str} {params : Arguments} {body : List Stmt} {scope : Scope} {dV kV doc pm cdv ct oc : Value} {an od : Option Addr}
    {osl : Array (Option Value)} {N ps : List Str} {sp : Sp} (lk : K.lookup f = some ⟨oc, od, .func (PySem.W.fnOf name qual params body scope dV kV doc pm an cdv ct), osl⟩) (hcd : PySem.W.codeIn K cdv qual = true) (S : FnScope N ps scope)
    (len : ∀ vs H Q E, sp vs H Q E → vs.length = ps.length)
    (hbody : ∀ (A : Around) (outer : List Env) (s : Shared) (H : Hp) (vs : List V) (Q : VK) (E : XK), Room k (A.deeper (envOfC qual scope s.heap.objs.size f cdv)) → sp vs H Q E →
      ∃ t, PSs (cxOf CX P w K mg base N qual scope f cdv A outer s H E) body t ∧ t { nx := fun _ H' => Q .non H', rt := Q } (start N vs) H) :
    FnOk P w K mg base CX (k + 1) f (PySem.W.fnOf name qual params body scope dV kV doc pm an cdv ct) ps sp := by
  refine ⟨len, fun A outer s H args us vs Q E hr e0 hb r hsp => ?_⟩
  have hl := len _ _ _ _ hsp
  have KX : K.In s.heap := e0.mod.kin.keeps fun b o e => (e0.bs b o e).1
  have lim : s.heap.NoLimit := e0.mod.nolimit.keeps fun b o e => (e0.bs b o e).1
  have hkind : ∀ y ∈ ps.zip us, scope.names.lookup y.1 = some .local ∨ (scope.names.lookup y.1 = some .cell ∧ ((cellsFrom (s.heap.objs.size + 1) scope.names []).lookup y.1).isSome = true) := fun ⟨n, v⟩ hy => by
    rcases S.par n (List.of_mem_zip hy).1 with q | q
    · exact .inl q
    · exact .inr ⟨q, PySem.W.cellsFrom_some _ _ _ (.inl q)⟩
  refine codeAny_call_function hr.depth (KX _ _ lk) rfl S.co S.gen rfl (PySem.W.codeRec_of KX hcd) (hb _ _ _ _ ?_)
  refine wpAny_newFunctionEnv_cells S.kind hkind fun env he s1 x => ?_
  subst he
  refine ⟨lim.keeps x.toInCall.keep, codeAny_func ?_⟩
  obtain ⟨t, ht, hq⟩ := hbody A outer s H vs Q E (hr.deeper _) hsp
  have I : Inv (cxOf CX P w K mg base N qual scope f cdv A outer s H E) [] (start N vs) H s1 := inv_start S hr.hd e0 hl r x
  refine wpAny_mono (ht [] s1 (start N vs) H _ I hq) (fun fl s' hs => ?_) fun e s' hs => hs
  have fin : ∀ {σ' : St} {H' : Hp} {v : V} {u : Value}, Inv (cxOf CX P w K mg base N qual scope f cdv A outer s H E) [] σ' H' s' → RelV v u → Q v H' → CE outer P w H s Q u s' :=
    fun {σ' H' v u} J rv q => ⟨v, H', J.os, J.bare, J.base, J.hok, rv, q⟩
  cases fl with
  | ret u =>
    obtain ⟨v, σ', H', J, rv, q⟩ := hs
    exact fin J rv q
  | next =>
    obtain ⟨σ', H', J, q⟩ := hs
    exact fin (v := V.non) (u := Value.none) J rfl q
  | brk =>
    obtain ⟨_, _, _, q⟩ := hs
    exact False.elim q
  | cont =>
    obtain ⟨_, _, _, q⟩ := hs
    exact False.elim q
end L2.Internal

namespace L2.Internal
open PySem PySem.Spec PyProof.Rows
section
variable {X : Cx} {x : Str} {p pos : Pos} {e : Expr} {es : List Expr} {t : TA} {id T : String} {r : List V → Hp → VK → Prop}

noncomputable def tCB (r : List V → Hp → VK → Prop) (t : TA) : TE := fun σ H Q => t σ H fun vs H1 => r vs H1 Q
theorem pe_callB (hc : CallR X (.builtin id) r) (hg : Gl X x) (hm : X.mg x = none) (hv : bootBuiltins x = some (.builtin id)) (ha : PA X (e :: es) t) (hn : autoParam (x ≠ "__name__") L2.Internal.auD._auto_1) (hdb : autoParam ((x == ("__debug__" : Str)) = false) L2.Internal.auD._auto_1)
    (he : autoParam (starEach (e :: es) X.env = (false, eval e X.env) :: starEach es X.env) L2.Internal.auR._auto_1) (hpl : autoParam ((backTo pos (starEach es X.env)).any (·.1) = false) L2.Internal.auR._auto_1) : PE X (.Call (.Name x p) (e :: es) [] pos) (tCB r t) := by
  intro pins s σ H Q I h
  refine wpAny_Call_Name_kw (ld_blt I hg hm hv ?_ hn hdb)
  exact PyProof.Rows.callWith_builtin1 (thn (ha pos pins s σ H _ I h) fun us s1 ⟨vs, H1, I1, r1, q1⟩ => hc pins s1 σ H1 vs us Q I1 r1 q1) he hpl
theorem pe_callTy (hc : CallR X (.type T) r) (hg : Gl X x) (hm : X.mg x = none) (hv : bootBuiltins x = some (.type T)) (ha : PA X (e :: es) t) (hn : autoParam (x ≠ "__name__") L2.Internal.auD._auto_1) (hdb : autoParam ((x == ("__debug__" : Str)) = false) L2.Internal.auD._auto_1)
    (he : autoParam (starEach (e :: es) X.env = (false, eval e X.env) :: starEach es X.env) L2.Internal.auR._auto_1) (hpl : autoParam ((backTo pos (starEach es X.env)).any (·.1) = false) L2.Internal.auR._auto_1) : PE X (.Call (.Name x p) (e :: es) [] pos) (tCB r t) := by
  intro pins s σ H Q I h
  refine wpAny_Call_Name_kw (ld_blt I hg hm hv ?_ hn hdb)
  exact PyProof.Rows.callWith_type1 (thn (ha pos pins s σ H _ I h) fun us s1 ⟨vs, H1, I1, r1, q1⟩ => hc pins s1 σ H1 vs us Q I1 r1 q1) he hpl
end
end L2.Internal

namespace L2.Internal
open PySem PySem.Spec PyProof.Rows

section
variable {κ : Type} [DecidableEq κ]
noncomputable def valV (kvs : List (κ × V)) (k : κ) : Option V := (kvs.find? fun kv => decide (kv.1 = k)).map (·.2)
noncomputable def putK (kvs : List (κ × V)) (k : κ) (v : V) : List (κ × V) :=
  if (kvs.any fun kv => decide (kv.1 = k)) = true then kvs.map (fun kv => if kv.1 = k then (kv.1, v) else kv) else kvs ++ [(k, v)]
noncomputable def dropK (kvs : List (κ × V)) (k : κ) : List (κ × V) := kvs.filter fun kv => decide (kv.1 ≠ k)

theorem valV_pos {p : κ × V} {r : List (κ × V)} {k : κ} (e : p.1 = k) : valV (p :: r) k = some p.2 := by simp [valV, List.find?_cons, e]
theorem valV_neg {p : κ × V} {r : List (κ × V)} {k : κ} (e : ¬ p.1 = k) : valV (p :: r) k = valV r k := by simp [valV, List.find?_cons, e]
theorem valV_any (k : κ) : ∀ kvs : List (κ × V), (kvs.any fun kv => decide (kv.1 = k)) = (valV kvs k).isSome
  | [] => rfl
  | p :: r => by
    rw [List.any_cons]
    by_cases e : p.1 = k
    · simp only [valV_pos e, decide_eq_true e, Bool.true_or, Option.isSome_some]
    · rw [valV_neg e, decide_eq_false e, Bool.false_or]; exact valV_any k r
theorem length_putK (kvs : List (κ × V)) (k : κ) (v : V) : (putK kvs k v).length ≤ kvs.length + 1 := by
  unfold putK
  split
  · rw [List.length_map]; omega
  · rw [List.length_append, List.length_cons, List.length_nil]; omega
theorem RelO.isSome_eq {o : Option V} {u : Option Value} (r : RelO o u) : o.isSome = u.isSome := by
  cases o with
  | none => cases u with
    | none => rfl
    | some _ => exact (show False from r).elim
  | some _ => cases u with
    | none => exact (show False from r).elim
    | some _ => rfl
theorem KV.val {kvs : List (κ × V)} {vs : List (κ × Value)} (r : KV kvs vs) (k : κ) : RelO (valV kvs k) (valueAt vs k) := by
  unfold KV at r
  induction r with
  | nil => exact True.intro
  | @cons p q ps qs h t ih =>
    obtain ⟨h1, h2⟩ := h
    by_cases e : p.1 = k
    · have e' : q.1 = k := h1.symm.trans e
      have b : valueAt (q :: qs) k = some q.2 := by simp [valueAt, List.find?_cons, e']
      rw [valV_pos e, b]; exact h2
    · have e' : ¬ q.1 = k := fun z => e (h1.trans z)
      have b : valueAt (q :: qs) k = valueAt qs k := by simp [valueAt, List.find?_cons, e']
      rw [valV_neg e, b]; exact ih
theorem KV.any {kvs : List (κ × V)} {vs : List (κ × Value)} (r : KV kvs vs) (k : κ) : (kvs.any fun kv => decide (kv.1 = k)) = vs.any fun kv => decide (kv.1 = k) := by
  unfold KV at r
  induction r with
  | nil => rfl
  | cons h t ih => rw [List.any_cons, List.any_cons, ih, h.1]
theorem KV.repl {kvs : List (κ × V)} {vs : List (κ × Value)} (r : KV kvs vs) (k : κ) {y : V} {u : Value} (ry : RelV y u) :
    KV (kvs.map fun kv => if kv.1 = k then (kv.1, y) else kv) (vs.map fun kv => if kv.1 = k then (kv.1, u) else kv) := by
  unfold KV at r ⊢
  induction r with
  | nil => exact .nil
  | @cons p q ps qs h t ih =>
    rw [List.map_cons, List.map_cons]
    refine .cons ?_ ih
    obtain ⟨h1, h2⟩ := h
    by_cases e : p.1 = k
    · rw [if_pos e, if_pos (h1.symm.trans e)]; exact ⟨h1, ry⟩
    · rw [if_neg e, if_neg (fun z => e (h1.trans z))]; exact ⟨h1, h2⟩
theorem KV.put {kvs : List (κ × V)} {vs : List (κ × Value)} (r : KV kvs vs) (k : κ) {y : V} {u : Value} (ry : RelV y u) : KV (putK kvs k y) (stored vs k u) := by
  unfold putK stored
  rw [r.any k]
  by_cases e : (vs.any fun kv => decide (kv.1 = k)) = true
  · rw [if_pos e, if_pos e]; exact r.repl k ry
  · rw [if_neg e, if_neg e]; exact Paired.snoc r ⟨rfl, ry⟩
theorem KV.length {kvs : List (κ × V)} {vs : List (κ × Value)} (r : KV kvs vs) : kvs.length = vs.length := Paired.length r
end


theorem kV_is {P : Program} {w : World} {k : Key} {u : Value} (r : RelV (kV k) u) : (mixKind P w).is k u = true := by
  cases k with
  | inl i => obtain ⟨t, e⟩ := (show ∃ t, u = Value.int i t from r); subst e; exact mixKind_int P w i t
  | inr x => obtain ⟨t, e⟩ := (show ∃ t, u = Value.str x t from r); subst e; exact mixKind_str P w x t
theorem items_are {P : Program} {w : World} : ∀ {ks : List Key} {us : List Value}, Vals (ks.map kV) us → ItemsAre (mixKind P w) ks us
  | [], _, r => by rw [List.map_nil] at r; cases r; exact .nil
  | k :: ks, _, r => by
    rw [List.map_cons] at r
    cases r with
    | cons h t => exact .cons (kV_is h) (items_are t)

noncomputable abbrev KT (H : Hp) : List (List Key × V) → List (List Key × Addr × Value) → Prop := Paired fun p q => p.1 = q.1 ∧ H q.2.1 = some (.tup (p.1.map kV)) ∧ RelV p.2 q.2.2
theorem KT.val {H : Hp} {kvs : List (List Key × V)} {xs : List (List Key × Addr × Value)} (r : KT H kvs xs) (k : List Key) : RelO (valV kvs k) ((atKey xs k).map (·.2)) := by
  induction r with
  | nil => exact True.intro
  | @cons p q ps qs h t ih =>
    obtain ⟨h1, _, h2⟩ := h
    by_cases e : p.1 = k
    · have e' : q.1 = k := h1.symm.trans e
      have b : atKey (q :: qs) k = some q.2 := by simp [atKey, List.find?_cons, e']
      rw [valV_pos e, b]; exact h2
    · have e' : ¬ q.1 = k := fun z => e (h1.trans z)
      have b : atKey (q :: qs) k = atKey qs k := by simp [atKey, List.find?_cons, e']
      rw [valV_neg e, b]; exact ih
theorem KT.repl {H : Hp} {kvs : List (List Key × V)} {xs : List (List Key × Addr × Value)} (r : KT H kvs xs) (k : List Key) {y : V} {u : Value} (ry : RelV y u) :
    KT H (kvs.map fun kv => if kv.1 = k then (kv.1, y) else kv) (xs.map (putAt k u)) := by
  induction r with
  | nil => exact .nil
  | @cons p q ps qs h t ih =>
    rw [List.map_cons, List.map_cons]
    refine .cons ?_ ih
    obtain ⟨h1, h2, h3⟩ := h
    unfold putAt
    by_cases e : p.1 = k
    · rw [if_pos e, if_pos (h1.symm.trans e)]; exact ⟨h1, h2, ry⟩
    · rw [if_neg e, if_neg (fun z => e (h1.trans z))]; exact ⟨h1, h2, h3⟩
theorem KT.put {H : Hp} {kvs : List (List Key × V)} {xs : List (List Key × Addr × Value)} (r : KT H kvs xs) (k : List Key) {b : Addr} {y : V} {u : Value} (hb : H b = some (.tup (k.map kV))) (ry : RelV y u) :
    KT H (putK kvs k y) (storedH xs k b u) := by
  have e : (kvs.any fun kv => decide (kv.1 = k)) = (atKey xs k).isSome := by
    rw [valV_any, (r.val k).isSome_eq, Option.isSome_map]
  unfold putK storedH
  rw [e]
  by_cases q : (atKey xs k).isSome = true
  · rw [if_pos q, if_pos q]; exact r.repl k ry
  · rw [if_neg q, if_neg q]; exact Paired.snoc r ⟨rfl, hb, ry⟩
theorem KT.keeps {H H' : Hp} {kvs : List (List Key × V)} {xs : List (List Key × Addr × Value)} (r : KT H kvs xs) (ht : ∀ b ys, H b = some (.tup ys) → H' b = some (.tup ys)) : KT H' kvs xs :=
  Paired.mapP r fun _ _ z => ⟨z.1, ht _ _ z.2.1, z.2.2⟩

section
variable {P : Program} {w : World} {H : Hp} {h : Heap} {a : Addr}
theorem rd_of {u : HO} (ok : HOk P w H h) (e : Rd H a u) : ObjOk P w H h a u := e.ok ok
theorem dk_rd {kvs : List (Key × V)} (ok : HOk P w H h) (e : Rd H a (.dK kvs)) : kvs.length ≤ sizeLine ∧ (a == sysModules) = false ∧ ∃ vs, KV kvs vs ∧ h.DictOf (mixKind P w) a vs :=
  show ObjOk P w H h a (.dK kvs) from rd_of ok e
theorem dk_of {kvs : List (Key × V)} (ok : HOk P w H h) (e : H a = some (.dK kvs)) : kvs.length ≤ sizeLine ∧ (a == sysModules) = false ∧ ∃ vs, KV kvs vs ∧ h.DictOf (mixKind P w) a vs := dk_rd ok (.inl e)
theorem key_of {ks : List Key} (ok : HOk P w H h) (e : H a = some (.tup (ks.map kV))) : (tupleKind (mixKind P w)).is h ks a := by
  obtain ⟨_, its, r, o, h1, h2, n, h3, _⟩ := (show ObjOk P w H h a (.tup (ks.map kV)) from ok a _ e)
  exact ⟨o, its.toArray, n, h1, h2, h3, by simpa using items_are r⟩
theorem dt_rd {kvs : List (List Key × V)} (ok : HOk P w H h) (e : Rd H a (.dT kvs)) : kvs.length ≤ sizeLine ∧ (a == sysModules) = false ∧
    ∃ xs, KT H kvs xs ∧ h.DictOfH (tupleKind (mixKind P w)) a xs := by
  obtain ⟨z, y, xs, r, o, es, ep, h1, h2, h3, h4, h5⟩ := (show ObjOk P w H h a (.dT kvs) from rd_of ok e)
  refine ⟨z, y, xs, r, o, es, ep, h1, h2, h3, h4, fun x hx => ?_, h5⟩
  have all : ∀ {l : List (List Key × V)} {m : List (List Key × Addr × Value)}, KT H l m → ∀ x ∈ m, (tupleKind (mixKind P w)).is h x.1 x.2.1 := by
    intro l m q
    induction q with
    | nil => intro x hx; exact nomatch hx
    | @cons p q ps qs hq t ih =>
      intro x hx
      rcases List.mem_cons.mp hx with e | hx
      · subst e
        exact key_of ok (by rw [← hq.1]; exact hq.2.1)
      · exact ih x hx
  exact all r x hx
theorem dt_of {kvs : List (List Key × V)} (ok : HOk P w H h) (e : H a = some (.dT kvs)) : kvs.length ≤ sizeLine ∧ (a == sysModules) = false ∧
    ∃ xs, KT H kvs xs ∧ h.DictOfH (tupleKind (mixKind P w)) a xs := dt_rd ok (.inl e)
end

noncomputable def DGet (H : Hp) (a : Addr) (y : V) (r : Option V) : Prop :=
  (∃ kvs k, Rd H a (.dK kvs) ∧ y = kV k ∧ r = valV kvs k) ∨ ∃ kvs k b, Rd H a (.dT kvs) ∧ y = .ref b ∧ H b = some (.tup (k.map kV)) ∧ r = valV kvs k
noncomputable def DPut (H : Hp) (a : Addr) (y v : V) (H' : Hp) : Prop :=
  (∃ kvs k, H a = some (.dK kvs) ∧ y = kV k ∧ kvs.length < sizeLine ∧ H' = upd H a (.dK (putK kvs k v))) ∨
  ∃ kvs k b, H a = some (.dT kvs) ∧ y = .ref b ∧ H b = some (.tup (k.map kV)) ∧ kvs.length < sizeLine ∧ H' = upd H a (.dT (putK kvs k v))
theorem DGet.k {H : Hp} {a : Addr} {kvs : List (Key × V)} {k : Key} (e : H a = some (.dK kvs)) : DGet H a (kV k) (valV kvs k) := .inl ⟨kvs, k, .inl e, rfl, rfl⟩
theorem DPut.k {H : Hp} {a : Addr} {kvs : List (Key × V)} {k : Key} {v : V} (e : H a = some (.dK kvs)) (hl : kvs.length < sizeLine) : DPut H a (kV k) v (upd H a (.dK (putK kvs k v))) := .inl ⟨kvs, k, e, rfl, hl, rfl⟩
section
variable {X : Cx} {pins : List (Addr × Obj)} {σ : St} {H : Hp} {s : Shared} {a : Addr} {y v : V} {u r : Value} {o : Option V} {A : Around} {E : Value → Shared → Prop}

theorem Inv.big (I : Inv X pins σ H s) : sysModules < s.heap.objs.size := by
  have h : mainGlobals < s.heap.objs.size := (I.mod.glob.keeps I.bk).lt
  exact Nat.lt_trans (by decide) h

theorem d_write {h' : Heap} {t' : Nat} {ob : HO} (I : Inv X pins σ H s) (mu : Mut (H a)) (hs : Heap.SameBut a s.heap h') (he : ∃ q, h'.get? a = some q) (new : ObjOk X.prog X.w (upd H a ob) h' a ob) :
    Inv X pins σ (upd H a ob) { s with heap := h', toks := t' } :=
  I.write (x := a) (e := a) mu (.inl rfl) (fun b q hb z => (hs.2 b hb).trans z) he new
theorem dk_new {P : Program} {w : World} {H' : Hp} {h' : Heap} {kvs : List (Key × V)} {vs : List (Key × Value)} (z : kvs.length ≤ sizeLine) (hd : (a == sysModules) = false) (rel : KV kvs vs) (dd : h'.DictOf (mixKind P w) a vs) :
    ObjOk P w H' h' a (.dK kvs) := ⟨z, hd, vs, rel, dd⟩
theorem d_setItem {H' : Hp} {Q : Unit → Shared → Prop} (hu : A.units + 1 < cLine) (I : Inv X pins σ H s) (g : DPut H a y v H') (ry : RelV y u) (rv : RelV v r) (h : ∀ s', Inv X pins σ H' s' → Q () s') :
    wpAny (model X.prog X.w) A (setItem (.ref a) u r) Q E s := by
  rcases g with ⟨kvs, k, e, ey, l, eH⟩ | ⟨kvs, k, b, e, ey, eb, l, eH⟩
  · subst ey eH
    obtain ⟨z, hd, vs, rel, dd⟩ := dk_of I.hok e
    have hz : vs.length ≤ sizeLine := by rw [← rel.length]; exact z
    have hl : (putK kvs k v).length ≤ sizeLine := by have := length_putK kvs k v; omega
    refine wpAny_setItem_pairs (hsz := hz) (kV_is ry) dd fun h' dd' hs => h _ ?_
    have he : ∃ q, h'.get? a = some q := let ⟨q, _, _, hq, _⟩ := dd'; ⟨q, hq⟩
    exact d_write I (by rw [e]; exact True.intro) hs he (dk_new hl hd (rel.put k rv) dd')
  · subst ey eH
    cases (show u = Value.ref b from ry)
    obtain ⟨z, hd, xs, rel, dd⟩ := dt_of I.hok e
    have hz : xs.length ≤ sizeLine := by rw [← Paired.length rel]; exact z
    have hl : (putK kvs k v).length ≤ sizeLine := by have := length_putK kvs k v; omega
    refine wpAny_setItem_heap (hsz := hz) (tupleKind_room_in1 hu) (key_of I.hok eb) dd fun h' dd' hs => h _ ?_
    obtain ⟨q, es, ep, hq, h2, h3, h4, _, h5⟩ := dd'
    refine d_write I (by rw [e]; exact True.intro) hs ⟨q, hq⟩ ⟨hl, hd, _, (rel.put k eb rv).keeps fun c ys ec => ?_, q, es, ep, hq, h2, h3, h4, h5⟩
    rw [upd_ne (ne_of ec e (fun z => nomatch z))]
    exact ec
end

section
variable {X : Cx} {pins : List (Addr × Obj)} {σ : St} {H : Hp} {s : Shared} {a : Addr} {kvs : List (Key × V)} {k : Key} {u : Value} {A : Around} {E : Value → Shared → Prop}
end


noncomputable def NoSl (i : Expr) : Prop := ∀ ov iv, subscripted i false ov iv = operate [ov, iv] (getItem ov iv)
noncomputable def tDGet (td ty : TE) : TE := fun σ H Q => td σ H fun x H1 => ty σ H1 fun y H2 => ∃ a v, x = .ref a ∧ DGet H2 a y (some v) ∧ Q v H2
noncomputable def tDIn (ty td : TE) : TE := fun σ H Q => ty σ H fun y H1 => td σ H1 fun x H2 => ∃ a o, x = .ref a ∧ DGet H2 a y o ∧ Q (.bl o.isSome) H2
noncomputable def tDNotIn (ty td : TE) : TE := fun σ H Q => ty σ H fun y H1 => td σ H1 fun x H2 => ∃ a o, x = .ref a ∧ DGet H2 a y o ∧ Q (.bl (!o.isSome)) H2
noncomputable def sDPut (td ty tv : TE) : TS := fun D σ H => tv σ H fun v H1 => td σ H1 fun x H2 => ty σ H2 fun y H3 => ∃ a H4, x = .ref a ∧ DPut H3 a y v H4 ∧ D.nx σ H4
noncomputable def sDAug (td ty tv : TE) (rd : V → V → Hp → VK → Prop) : TS := fun D σ H => td σ H fun x H1 => ty σ H1 fun y H2 => ∃ a v, x = .ref a ∧ DGet H2 a y (some v) ∧
  tv σ H2 fun y2 H3 => rd v y2 H3 fun z H4 => ∃ H5, DPut H4 a y z H5 ∧ D.nx σ H5
noncomputable def sDDel (td ty : TE) : TS := fun D σ H => td σ H fun x H1 => ty σ H1 fun y H2 => ∃ a kvs k, x = .ref a ∧ H2 a = some (.dK kvs) ∧ y = kV k ∧ (valV kvs k).isSome = true ∧ D.nx σ (upd H2 a (.dK (dropK kvs k)))

section
variable {X : Cx} {o i e value : Expr} {pos pos' tpos : Pos} {td ty tv : TE}
theorem ps_dput (hu : X.A.units + 1 < cLine) (ho : PE X o td) (hi : PE X i ty) (hv : PE X value tv) (hs : swapsWith value (some (.Subscript o i pos')) pos.line X.env = pure false) :
    PS X (.Assign [.Subscript o i pos'] value pos) (sDPut td ty tv) := by
  intro pins s σ H D I h
  refine wpAny_Assign_Subscript (thn (hv pins s σ H _ I h) fun r s1 ⟨v, H1, I1, rv, q1⟩ => thn (ho pins s1 σ H1 _ I1 q1) fun u s2 ⟨x, H2, I2, rx, q2⟩ => thn (hi pins s2 σ H2 _ I2 q2) fun iv s3 ⟨y, H3, I3, ry, a, H4, ex, g, q3⟩ => ?_) hs
  subst ex
  obtain rfl : u = Value.ref a := rx
  exact d_setItem hu I3 g ry rv fun s4 I4 => ⟨σ, H4, I4, q3⟩
end


theorem dk_empty {P : Program} {w : World} {H : Hp} (h : Heap) (hb : sysModules < h.objs.size) : ObjOk P w H (h.push { cls := .type "dict", data := .dict #[] }) h.objs.size (.dK []) :=
  ⟨Nat.zero_le _, beq_eq_false_iff_ne.mpr (Ne.symm (Nat.ne_of_lt hb)), [], .nil, Heap.DictOf.new h⟩
noncomputable def tDNewK : TE := fun _ H Q => ∀ p, H p = none → Q (.ref p) (upd H p (.dK []))
noncomputable def tDNewT : TE := fun _ H Q => ∀ p, H p = none → Q (.ref p) (upd H p (.dT []))
section
variable {X : Cx} {pos : Pos}
theorem pe_dnewK : PE X (.Dict [] [] pos) tDNewK := fun pins s σ H Q I h =>
  wpAny_Dict_empty ⟨.ref s.heap.objs.size, _, I.laid (a := s.heap.objs.size) (o := .dK []) (t' := s.toks) (fun _ _ q => Heap.get?_push_of_some _ q) (Nat.le_refl _) (dk_empty s.heap I.big), rfl, h _ (I.hok.fresh (Nat.le_refl _))⟩
end

noncomputable def tPairs : List (TE × TE) → St → Hp → (List (V × V) → Hp → Prop) → Prop
  | [], _, H, Q => Q [] H
  | (tk, tv) :: r, σ, H, Q => tk σ H fun x H1 => tv σ H1 fun y H2 => tPairs r σ H2 fun ps H3 => Q ((x, y) :: ps) H3
noncomputable abbrev VV : List (V × V) → List (Value × Value) → Prop := Paired fun p q => RelV p.1 q.1 ∧ RelV p.2 q.2
noncomputable def PPs (X : Cx) (pos : Pos) (keys : List (Option Expr)) (values : List Expr) (trs : List (TE × TE)) : Prop :=
  ∀ (pins : List (Addr × Obj)) (s : Shared) (σ : St) (H : Hp) (Q : List (V × V) → Hp → Prop), Inv X pins σ H s → tPairs trs σ H Q →
    wpAny (model X.prog X.w) X.A (evalPairs (pairTrees keys values X.env pos)) (fun vs s' => ∃ ps H', Inv X pins σ H' s' ∧ VV ps vs ∧ Q ps H') X.xe s
noncomputable def mergeK (kvs more : List (Key × V)) : List (Key × V) := more.foldl (fun acc kv => putK acc kv.1 kv.2) kvs
noncomputable def tDisp (trs : List (TE × TE)) : TE := fun σ H Q => ∀ p, H p = none → tPairs trs σ (upd H p (.dK [])) fun ps H2 => H2 p = some (.dK []) ∧ ∃ kvs : List (Key × V), ps = kvs.map (fun kv => (kV kv.1, kv.2)) ∧ kvs.length ≤ 15 ∧ Q (.ref p) (upd H2 p (.dK (mergeK [] kvs)))
structure M1 (X : Cx) (o : Expr) (m : Str) (apos : Pos) (e : Expr) (cpos : Pos) : Prop where
  base : attributeBase o m X.env (eval o X.env) = eval o X.env
  few : ((backTo cpos (starEach [e] X.env)).all (fun x => !x.1) && (backToKw cpos (keywordEach [] X.env)).all (fun x => x.1.isSome)
    && decide (([e] : List Expr).length + ([] : List Keyword).length + (if ([] : List Keyword).isEmpty then 0 else 1) < 30)) = true
  line : (apos.endLine == cpos.line) = true
  trees : backTo cpos (starEach [e] X.env) = [(false, eval e X.env)]
structure M2 (X : Cx) (o : Expr) (m : Str) (apos : Pos) (e f : Expr) (cpos : Pos) : Prop where
  base : attributeBase o m X.env (eval o X.env) = eval o X.env
  few : ((backTo cpos (starEach [e, f] X.env)).all (fun x => !x.1) && (backToKw cpos (keywordEach [] X.env)).all (fun x => x.1.isSome)
    && decide (([e, f] : List Expr).length + ([] : List Keyword).length + (if ([] : List Keyword).isEmpty then 0 else 1) < 30)) = true
  line : (apos.endLine == cpos.line) = true
  trees : backTo cpos (starEach [e, f] X.env) = [(false, eval e X.env), (false, eval f X.env)]

noncomputable def IsD (H : Hp) (a : Addr) : Prop := (∃ kvs, Rd H a (.dK kvs)) ∨ ∃ kvs, Rd H a (.dT kvs)
section
variable {X : Cx} {pins : List (Addr × Obj)} {σ : St} {H : Hp} {s : Shared} {a : Addr} {y d : V} {u r : Value} {o : Option V} {A : Around} {E : Value → Shared → Prop}
end

noncomputable def tDGet1 (td ty : TE) : TE := fun σ H Q => td σ H fun x H1 => ∃ a, x = .ref a ∧ IsD H1 a ∧ ty σ H1 fun y H2 => ∃ o, DGet H2 a y o ∧ Q (o.getD .non) H2
noncomputable def tDGet2 (td ty tx : TE) : TE := fun σ H Q => td σ H fun x H1 => ∃ a, x = .ref a ∧ IsD H1 a ∧ ty σ H1 fun y H2 => tx σ H2 fun z H3 => ∃ o, DGet H3 a y o ∧ Q (o.getD z) H3
noncomputable def tDPop1 (td ty : TE) : TE := fun σ H Q => td σ H fun x H1 => ∃ a, x = .ref a ∧ IsD H1 a ∧ ty σ H1 fun y H2 => ∃ kvs k v, H2 a = some (.dK kvs) ∧ y = kV k ∧ valV kvs k = some v ∧ Q v (upd H2 a (.dK (dropK kvs k)))
noncomputable def tDPop2 (td ty tx : TE) : TE := fun σ H Q => td σ H fun x H1 => ∃ a, x = .ref a ∧ IsD H1 a ∧ ty σ H1 fun y H2 => tx σ H2 fun z H3 => ∃ kvs k, H3 a = some (.dK kvs) ∧ y = kV k ∧
  (∀ v, valV kvs k = some v → Q v (upd H3 a (.dK (dropK kvs k)))) ∧ (valV kvs k = none → Q z H3)
section
variable {X : Cx} {o e f : Expr} {apos cpos : Pos} {td ty tx : TE}
end

section
variable {X : Cx} {pins : List (Addr × Obj)} {σ : St} {H : Hp} {s : Shared} {a : Addr} {kvs : List (Key × V)} {A : Around} {E : Value → Shared → Prop}
end


section
variable {X : Cx} {pins : List (Addr × Obj)} {σ : St} {H : Hp} {s : Shared} {a : Addr} {y : V} {u : Value} {A : Around} {E : Value → Shared → Prop}
end
end L2.Internal

namespace HT.Internal
open PySem PyProof.Rows

noncomputable def lexLt : List Int → List Int → Bool
  | [], [] => false
  | [], _ :: _ => true
  | _ :: _, [] => false
  | x :: xs, y :: ys => if x = y then lexLt xs ys else decide (x < y)
section
open PySem.SeqAt
open PySem.AutoSeq1 (wpAny_loadPart')
open PySem.MeetsSeq PySem.MeetsSeq2 PySem.MeetsSeq3

end

section
variable {prog : Program} {w : World} {A : Around} {E : Value → Shared → Prop} {s : Shared}

theorem cat_tup {t b : Addr} {vs ws : List Value} {Q : Value → Shared → Prop} (ht : IsTup s.heap t vs.toArray) (hb : IsTup s.heap b ws.toArray) (hv : vs ≠ [])
    (h1 : ws = [] → Q (.ref t) s) (h2 : ws ≠ [] → Q (.ref s.heap.objs.size) { s with heap := s.heap.push { cls := .type "tuple", data := .seq (vs ++ ws).toArray } })
    (hsz : vs.length + ws.length ≤ sizeLine) : wpAny (model prog w) A (binaryOp .Add (.ref t) (.ref b)) Q E s := by
  obtain ⟨⟨cls, dd, data, sl⟩, ho, hc, n, hd⟩ := id ht
  obtain ⟨⟨cls2, dd2, data2, sl2⟩, ho2, hc2, n2, hd2⟩ := id hb
  simp only at hc hd hc2 hd2
  subst hc hd hc2 hd2
  have e : vs.toArray ++ ws.toArray = (vs ++ ws).toArray := by simp
  by_cases hw : ws = []
  · exact concat_meets ⟨_, ho, rfl⟩ ⟨_, ho2, rfl⟩ noFill_tuple_add seq_tuple_add PySem.F.slot_tuple_add PySem.F.entry_tuple_add (PySem.F.args_tuple_add_2 _ _)
      (tuple_addW1 t b vs.toArray ws.toArray n n2 dd dd2 sl sl2 (by simpa using hv) (by simp [hw])) ⟨ho, ho2, h1 hw⟩
  · refine concat_meets ⟨_, ho, rfl⟩ ⟨_, ho2, rfl⟩ noFill_tuple_add seq_tuple_add PySem.F.slot_tuple_add PySem.F.entry_tuple_add (PySem.F.args_tuple_add_2 _ _)
      (tuple_addW2 t b vs.toArray ws.toArray n n2 dd dd2 sl sl2 (by simpa using hv) (by simpa using hw) (by rw [List.size_toArray, List.size_toArray]; exact hsz)) ⟨ho, ho2, ?_⟩
    rw [e]
    exact h2 hw

noncomputable def sIx (n d : Nat) : Option Int → Nat
  | none => d
  | some v => if v < 0 then (v + (n : Int)).toNat else min v.toNat n
end
end HT.Internal

namespace L2.Internal
open PySem PySem.Spec PyProof.Rows

noncomputable abbrev TO := St → Hp → (Option Int → Hp → Prop) → Prop
noncomputable def PO (X : Cx) (e : Option Expr) (t : TO) : Prop :=
  ∀ (pins : List (Addr × Obj)) (s : Shared) (σ : St) (H : Hp) (Q : Option Int → Hp → Prop), Inv X pins σ H s → t σ H Q →
    wpAny (model X.prog X.w) X.A (evalPart e X.env) (fun u s' => ∃ o H', Inv X pins σ H' s' ∧ IsPart u o ∧ Q o H') X.xe s
noncomputable def tNoPart : TO := fun _ H Q => Q none H
noncomputable def tPart (t : TE) : TO := fun σ H Q => t σ H fun x H1 => ∃ i, x = .int i ∧ Q (some i) H1

theorem intsAre_of {ns : List Int} : ∀ {us : List Value}, Vals (ns.map V.int) us → IntsAre us ns := by
  induction ns with
  | nil => intro us r; rw [List.map_nil] at r; cases r; exact .nil
  | cons n ns ih =>
    intro us r
    rw [List.map_cons] at r
    cases r with
    | cons r1 r2 =>
      obtain ⟨t, e⟩ := r1
      subst e
      exact .cons n t (ih r2)

section
variable {X : Cx} {e : Expr} {te : TE} {lo hi : Option Expr} {tl th : TO} {pos p2 : Pos}

theorem po_none : PO X none tNoPart := by
  intro pins s σ H Q I h
  rw [evalPart_none]
  exact wpAny_pure ⟨none, H, I, .none, h⟩
theorem po_some (h : PE X e te) : PO X (some e) (tPart te) := by
  intro pins s σ H Q I hw
  rw [evalPart_some]
  refine thn (h pins s σ H _ I hw) fun u s1 ⟨x, H1, I1, r1, q1⟩ => ?_
  obtain ⟨i, rfl, q⟩ := q1
  obtain ⟨t, rfl⟩ := r1
  exact ⟨some i, H1, I1, .int i t, q⟩

noncomputable def SlR (X : Cx) (r : V → Option Int → Option Int → Hp → VK → Prop) : Prop :=
  ∀ (pins : List (Addr × Obj)) (s : Shared) (σ : St) (H : Hp) (x : V) (v vl vu : Value) (lo hi : Option Int) (sl : Addr) (Q : VK), Inv X pins σ H s → RelV x v → s.heap.IsSliceOf sl vl vu .none → IsPart vl lo → IsPart vu hi → r x lo hi H Q →
    ∃ T id, typeLookup (.type T) "__getitem__" = pure (some (.builtin id)) ∧ s.TypeIs v T ∧ wpAny (model X.prog X.w) X.A (getItem v (.ref sl)) (EP X pins σ Q) X.xe s
noncomputable def tSl (r : V → Option Int → Option Int → Hp → VK → Prop) (te : TE) (tl th : TO) : TE := fun σ H Q => te σ H fun x H1 => tl σ H1 fun l H2 => th σ H2 fun u H3 => r x l u H3 Q
theorem pe_slice {r : V → Option Int → Option Int → Hp → VK → Prop} (hr : SlR X r) (he : PE X e te) (hl : PO X lo tl) (hu : PO X hi th) : PE X (.Subscript e (.Slice lo hi none p2) pos) (tSl r te tl th) := by
  intro pins s σ H Q I h
  refine Subscript_ (thn (he pins s σ H _ I h) fun v s1 ⟨x, H1, I1, r1, q1⟩ => ?_)
  refine wpAny_Slice (thn (hl pins s1 σ H1 _ I1 q1) fun vl s2 ⟨l, H2, I2, pl, q2⟩ => thn (hu pins s2 σ H2 _ I2 q2) fun vu s3 ⟨u, H3, I3, pu, q3⟩ => ?_)
  rw [evalPart_none]
  refine wpAny_pure ?_
  have I4 : Inv X pins σ H3 { s3 with heap := s3.heap.push { cls := .type "slice", data := .fields #[vl, vu, .none] } } := I3.kept (t' := s3.toks) fun b ob q => Heap.get?_push_of_some _ q
  obtain ⟨T, id, hT, ht, hg⟩ := hr pins { s3 with heap := s3.heap.push { cls := .type "slice", data := .fields #[vl, vu, .none] } } σ H3 x v vl vu l u s3.heap.objs.size Q I4 r1 (Heap.IsSliceOf.new ..) pl pu q3
  show wpAny (model X.prog X.w) X.A (subscriptTail e (.Slice lo hi none p2) v (.ref s3.heap.objs.size)) (EP X pins σ Q) X.xe { s3 with heap := s3.heap.push { cls := .type "slice", data := .fields #[vl, vu, .none] } }
  exact tail_any (ops := [.ref s3.heap.objs.size, v]) ht hT hg (by with_unfolding_all rfl)

noncomputable def cutV (xs : List V) (lo hi : Option Int) : List V := (xs.drop (HT.Internal.sIx xs.length 0 lo)).take (HT.Internal.sIx xs.length xs.length hi - HT.Internal.sIx xs.length 0 lo)
theorem cutV_length (xs : List V) (lo hi : Option Int) : (cutV xs lo hi).length ≤ xs.length := by
  unfold cutV
  rw [List.length_take, List.length_drop]
  omega
noncomputable def rSlT (K : PySem.W.Frag) : V → Option Int → Option Int → Hp → VK → Prop := fun x lo hi H Q => ∃ a xs, x = .ref a ∧ SqT K H a xs ∧
  ¬ (HT.Internal.sIx xs.length 0 lo = 0 ∧ HT.Internal.sIx xs.length xs.length hi = xs.length) ∧ ∀ p, H p = none → Q (.ref p) (upd H p (.tup (cutV xs lo hi)))
noncomputable def rLtT (K : PySem.W.Frag) : R2 := fun x y H Q => ∃ a b ns ms, x = .ref a ∧ y = .ref b ∧ SqT K H a (ns.map V.int) ∧ SqT K H b (ms.map V.int) ∧ Q (.bl (HT.Internal.lexLt ns ms)) H
noncomputable def rCatT (K : PySem.W.Frag) : R2 := fun x y H Q => ∃ a b xs ys, x = .ref a ∧ y = .ref b ∧ SqT K H a xs ∧ SqT K H b ys ∧ xs ≠ [] ∧ xs.length + ys.length ≤ sizeLine ∧
  (ys = [] → Q (.ref a) H) ∧ (ys ≠ [] → ∀ p, H p = none → Q (.ref p) (upd H p (.tup (xs ++ ys))))
theorem Vals.nil_iff {xs : List V} {us : List Value} (r : Vals xs us) : us = [] ↔ xs = [] := by
  cases r with
  | nil => simp
  | cons _ _ => simp
theorem op_catT : OpR X (binaryOp .Add) (rCatT X.K) := by
  intro pins s σ H x y v u Q I rx ry h
  obtain ⟨a, b, xs, ys, rfl, rfl, ha, hb, hx, hz, q1, q2⟩ := h
  cases rx
  cases ry
  obtain ⟨its, r1, p1, _⟩ := I.tuple ha
  obtain ⟨its2, r2, p2, _⟩ := I.tuple hb
  refine HT.Internal.cat_tup p1 p2 (fun z => hx (r1.nil_iff.mp z)) (fun z => ⟨.ref a, H, I, rfl, q1 (r2.nil_iff.mp z)⟩) (fun z => ?_) (by rw [← r1.length, ← r2.length]; exact hz)
  refine ⟨.ref s.heap.objs.size, _, I.laid (t' := s.toks) (o := .tup (xs ++ ys)) (fun b ob q => Heap.get?_push_of_some _ q) (Nat.le_refl _) ?_, rfl, q2 (fun w => z (r2.nil_iff.mpr w)) _ (I.hok.fresh (Nat.le_refl _))⟩
  exact ⟨by rw [List.length_append]; exact hz, _, r1.append r2, Tup0.new _ _⟩
end
end L2.Internal

namespace L2.Internal
open PySem PySem.Spec PyProof.Rows

noncomputable def ixN (n : Nat) (i : Int) : Option Nat := if 0 ≤ i then (if i < n then some i.toNat else none) else if -(n : Int) ≤ i then some (i + n).toNat else none
noncomputable def atI {α : Type} (xs : List α) (i : Int) : Option α := (ixN xs.length i).bind fun j => xs[j]?
theorem ixN_seq {n : Nat} {i : Int} {j : Nat} (h : ixN n i = some j) : seqIndex? i n = some j ∧ j < n ∧ -(n : Int) ≤ i ∧ i < n := by
  unfold ixN at h
  by_cases h0 : 0 ≤ i
  · rw [if_pos h0] at h
    by_cases h1 : i < n
    · rw [if_pos h1] at h
      have e : i.toNat = j := Option.some.inj h
      exact ⟨by rw [seqIndex_of h0 h1, e], by omega, by omega, h1⟩
    · rw [if_neg h1] at h; cases h
  · rw [if_neg h0] at h
    by_cases h1 : -(n : Int) ≤ i
    · rw [if_pos h1] at h
      have e : (i + n).toNat = j := Option.some.inj h
      exact ⟨by rw [seqIndex_neg (by omega) h1, e], by omega, h1, by omega⟩
    · rw [if_neg h1] at h; cases h
theorem atI_get {α : Type} {xs : List α} {i : Int} {v : α} (h : atI xs i = some v) : ∃ j, seqIndex? i xs.length = some j ∧ xs[j]? = some v ∧ j < xs.length ∧ -(xs.length : Int) ≤ i ∧ i < xs.length := by
  unfold atI at h
  cases e : ixN xs.length i with
  | none => rw [e] at h; cases h
  | some j =>
    rw [e] at h
    obtain ⟨h1, h2, h3, h4⟩ := ixN_seq e
    exact ⟨j, h1, h, h2, h3, h4⟩
theorem atI_nat {α : Type} {xs : List α} {j : Nat} {v : α} (h : xs[j]? = some v) : atI xs (j : Int) = some v := by
  have hj : j < xs.length := (List.getElem?_eq_some_iff.mp h).1
  have e : ixN xs.length (j : Int) = some j := by
    unfold ixN
    rw [if_pos (by omega), if_pos (by omega)]; simp
  unfold atI; rw [e]; exact h
noncomputable def PlainIx (b : Expr) : Prop := ∀ o i, subscripted b false o i = operate [o, i] (getItem o i)
noncomputable def IxR (X : Cx) (r : R2) : Prop :=
  ∀ (value slice : Expr) (pins : List (Addr × Obj)) (s : Shared) (σ : St) (H : Hp) (x y : V) (v u : Value) (Q : VK), Inv X pins σ H s → RelV x v → RelV y u → r x y H Q →
    subscripted slice false v u = operate [v, u] (getItem v u) → wpAny (model X.prog X.w) X.A (subscriptTail value slice v u) (EP X pins σ Q) X.xe s
noncomputable def MtR (X : Cx) (id : String) (r : V → List V → Hp → VK → Prop) : Prop :=
  ∀ (pins : List (Addr × Obj)) (s : Shared) (σ : St) (H : Hp) (x : V) (xs : List V) (v : Value) (us : List Value) (Q : VK), Inv X pins σ H s → RelV x v → Vals xs us → r x xs H Q →
    wpAny (model X.prog X.w) X.A (call (.builtin id) (v :: us)) (EP X pins σ Q) X.xe s
section
variable {X : Cx} {a b : Expr} {ta tb : TE} {pos : Pos}
theorem pe_ix {r : R2} (hr : IxR X r) (ha : PE X a ta) (hb : PE X b tb) (hs : PlainIx b) : PE X (.Subscript a b pos) (tOp r ta tb) := by
  intro pins s σ H Q I h
  exact Subscript_ (binT ha hb I h fun v u s2 x y H2 I2 rx ry q => hr a b pins s2 σ H2 x y v u Q I2 rx ry q (hs _ _))

noncomputable def rIxL (K : PySem.W.Frag) : R2 := fun x y H Q => ∃ p xs i v, x = .ref p ∧ y = .int i ∧ SqL K H p xs ∧ atI xs i = some v ∧ Q v H
noncomputable def rIxT (K : PySem.W.Frag) : R2 := fun x y H Q => ∃ p xs i v, x = .ref p ∧ y = .int i ∧ SqT K H p xs ∧ atI xs i = some v ∧ Q v H
noncomputable def rIxS : R2 := fun x y H Q => ∃ z i c, x = .str z ∧ y = .int i ∧ z.length ≤ sizeLine ∧ atI z.cps.toList i = some c ∧ Q (.str ⟨#[c]⟩) H
theorem ix_list : IxR X (rIxL X.K) := by
  intro value slice pins s σ H x y v u Q I rx ry h hs
  obtain ⟨p, xs, i, z, rfl, rfl, hq, he, q⟩ := h
  cases rx
  obtain ⟨t, rfl⟩ := ry
  obtain ⟨its, r, pl, hz⟩ := I.list hq
  obtain ⟨j, h1, h2, h3, h4, h5⟩ := atI_get he
  obtain ⟨w, ew, rw'⟩ := r.get h2
  have hl := r.length
  have hn := line63
  have fin : EP X pins σ Q w s := ⟨z, H, I, rw', q⟩
  by_cases h0 : 0 ≤ i
  · have hj : i.toNat = j := by
      rw [seqIndex_of h0 h5] at h1
      exact Option.some.inj h1
    exact item_listR pl.isList h0 (by omega) (by rw [hj]; simpa using ew) fin hs
  · have hj : (i + (its.toArray.size : Int)).toNat = j := by
      rw [seqIndex_neg (by omega) h4] at h1
      rw [List.size_toArray, ← hl]
      exact Option.some.inj h1
    exact subscriptTail_builtinR (x := w) pl.isList.typeIs slot_list_getitem.lookup
      (wpAny_getItem_list_neg (Q := fun r s' => r = w ∧ EP X pins σ Q r s') pl.isList (by omega) (by rw [List.size_toArray] <;> omega) (by omega) (by rw [hj]; simpa using ew) ⟨rfl, fin⟩) hs
theorem ix_tup : IxR X (rIxT X.K) := by
  intro value slice pins s σ H x y v u Q I rx ry h hs
  obtain ⟨p, xs, i, z, rfl, rfl, hq, he, q⟩ := h
  cases rx
  obtain ⟨t, rfl⟩ := ry
  obtain ⟨its, r, pl, hz⟩ := I.tuple hq
  obtain ⟨j, h1, h2, h3, h4, h5⟩ := atI_get he
  obtain ⟨w, ew, rw'⟩ := r.get h2
  have hl := r.length
  have hn := line63
  have fin : EP X pins σ Q w s := ⟨z, H, I, rw', q⟩
  exact subscriptTail_builtinR (x := w) pl.typeIs slot_tuple_getitem.lookup
    (getItem_tuple (j := j) (Q := fun r s' => r = w ∧ EP X pins σ Q r s') pl (by omega) (by omega) (by rw [List.size_toArray, ← hl]; exact h1) (by simpa using ew) ⟨rfl, fin⟩) hs
theorem ix_str : IxR X rIxS := by
  intro value slice pins s σ H x y v u Q I rx ry h hs
  obtain ⟨z, i, c, rfl, rfl, hz, he, q⟩ := h
  obtain ⟨t, rfl⟩ := rx
  obtain ⟨t', rfl⟩ := ry
  obtain ⟨j, h1, h2, h3, h4, h5⟩ := atI_get he
  have hl : z.cps.toList.length = z.length := by simp [Str.length]
  rw [hl] at h1 h4 h5
  have hn := line63
  exact tail_any (typeIs_str s z t) slot_str_getitem.lookup (getItem_str (c := c) (by
    have e1 : decide (i < -(2 ^ 63 : Int)) = false := decide_eq_false (by omega)
    have e2 : decide (i ≥ 2 ^ 63) = false := decide_eq_false (by omega)
    rw [e1, e2, Bool.or_false]) (by rw [h1]; simpa using h2) ⟨.str ⟨#[c]⟩, H, I.tok _, ⟨_, rfl⟩, q⟩) hs
noncomputable def rIx (K : PySem.W.Frag) : R2 := fun x y H Q => rIxL K x y H Q ∨ rIxT K x y H Q ∨ rIxS x y H Q
noncomputable def rSetL : V → V → V → Hp → (Hp → Prop) → Prop := fun o i v H Q => ∃ p xs k j, o = .ref p ∧ i = .int k ∧ H p = some (.lst xs) ∧ ixN xs.length k = some j ∧ Q (upd H p (.lst (xs.set j v)))
theorem slice_bounds (lo hi : Option Int) (n : Nat) : (sliceBounds lo hi none n).1 = ((HT.Internal.sIx n 0 lo : Nat) : Int) ∧ (sliceBounds lo hi none n).2.1 = ((HT.Internal.sIx n n hi : Nat) : Int) ∧ (sliceBounds lo hi none n).2.2 = 1 := by
  refine ⟨?_, ?_, rfl⟩
  · cases lo with
    | none => simp [sliceBounds, HT.Internal.sIx]
    | some i =>
      simp only [sliceBounds, HT.Internal.sIx, Option.getD_none, show (1 : Int) > 0 by decide, if_true]
      by_cases h : i < 0
      · simp only [h, if_true] <;> omega
      · simp only [h, if_false] <;> omega
  · cases hi with
    | none => simp [sliceBounds, HT.Internal.sIx]
    | some i =>
      simp only [sliceBounds, HT.Internal.sIx, Option.getD_none, show (1 : Int) > 0 by decide, if_true]
      by_cases h : i < 0
      · simp only [h, if_true] <;> omega
      · simp only [h, if_false] <;> omega
theorem slicePick_cut (its : List Value) (lo hi : Option Int) : slicePick its.toArray lo hi none = ((its.drop (HT.Internal.sIx its.length 0 lo)).take (HT.Internal.sIx its.length its.length hi - HT.Internal.sIx its.length 0 lo)).toArray := by
  obtain ⟨h1, h2, h3⟩ := slice_bounds lo hi its.toArray.size
  unfold slicePick
  rw [h1, h2, h3]
  simp only [sliceRange_one, pick_run, List.size_toArray] <;> rfl
noncomputable def rSlL (K : PySem.W.Frag) : V → Option Int → Option Int → Hp → VK → Prop := fun x lo hi H Q => ∃ a xs, x = .ref a ∧ SqL K H a xs ∧ ∀ p, H p = none → Q (.ref p) (upd H p (.lst (cutV xs lo hi)))
theorem sl_list : SlR X (rSlL X.K) := by
  intro pins s σ H x v vl vu lo hi sl Q I rx hs pl pu h
  obtain ⟨a, xs, rfl, hx, q⟩ := h
  cases rx
  obtain ⟨its, r, ht, hz⟩ := I.list hx
  have hlen := r.length
  refine ⟨"list", _, slot_list_getitem.lookup, ht.isList.typeIs, ?_⟩
  refine wpAny_getItem_list_slice ht.isList hs pl pu .none (by simp) ?_ (by rw [List.size_toArray] <;> omega)
  rw [slicePick_cut, ← hlen]
  refine ⟨.ref s.heap.objs.size, _, I.laid (t' := s.toks) (o := .lst (cutV xs lo hi)) (fun b ob q => Heap.get?_push_of_some _ q) (Nat.le_refl _) ?_, rfl, q _ (I.hok.fresh (Nat.le_refl _))⟩
  exact ⟨Nat.le_trans (cutV_length xs lo hi) hz, _, 0, (r.drop (HT.Internal.sIx xs.length 0 lo)).take (HT.Internal.sIx xs.length xs.length hi - HT.Internal.sIx xs.length 0 lo), Heap.get?_push_size _ rfl⟩

noncomputable def flatV : V → Bool
  | .non => true
  | .bl _ => true
  | .int _ => true
  | .str _ => true
  | _ => false
noncomputable def eqV : V → V → Bool
  | .non, .non => true
  | .bl a, .bl b => a == b
  | .bl a, .int b => (if a then 1 else 0) == b
  | .int a, .bl b => a == (if b then 1 else 0)
  | .int a, .int b => a == b
  | .str a, .str b => a == b
  | _, _ => false
theorem eqAt_V {A : Around} {s : Shared} {y x : V} {u v : Value} (ry : RelV y u) (rx : RelV x v) (fy : flatV y = true) (fx : flatV x = true) : SeqAt.EqAt A s u v (eqV y x) := by
  cases y with
  | non =>
    cases ry
    cases x with
    | non => cases rx; exact SeqAt.EqAt.same _
    | bl b => cases rx; exact SeqAt.EqAt.none_bool b
    | int b => obtain ⟨t, rfl⟩ := rx; exact SeqAt.EqAt.none_int b t
    | str b => obtain ⟨t, rfl⟩ := rx; exact SeqAt.EqAt.none_str b t
    | _ => exact absurd (show false = true from fx) Bool.false_ne_true
  | bl a =>
    cases ry
    cases x with
    | non => cases rx; exact SeqAt.EqAt.bool_none a
    | bl b => cases rx; exact SeqAt.EqAt.bool_bool a b
    | int b => obtain ⟨t, rfl⟩ := rx; exact SeqAt.EqAt.bool_int a b t
    | str b => obtain ⟨t, rfl⟩ := rx; exact SeqAt.EqAt.bool_str a b t
    | _ => exact absurd (show false = true from fx) Bool.false_ne_true
  | int a =>
    obtain ⟨t', rfl⟩ := ry
    cases x with
    | non => cases rx; exact SeqAt.EqAt.int_none a t'
    | bl b => cases rx; exact SeqAt.EqAt.int_bool a t' b
    | int b => obtain ⟨t, rfl⟩ := rx; exact SeqAt.EqAt.int_int a t' b t
    | str b => obtain ⟨t, rfl⟩ := rx; exact SeqAt.EqAt.int_str a t' b t
    | _ => exact absurd (show false = true from fx) Bool.false_ne_true
  | str a =>
    obtain ⟨t', rfl⟩ := ry
    cases x with
    | non => cases rx; exact SeqAt.EqAt.str_none a t'
    | bl b => cases rx; exact SeqAt.EqAt.str_bool a t' b
    | int b => obtain ⟨t, rfl⟩ := rx; exact SeqAt.EqAt.str_int a t' b t
    | str b => obtain ⟨t, rfl⟩ := rx; exact SeqAt.EqAt.str_str a t' b t
    | _ => exact absurd (show false = true from fx) Bool.false_ne_true
  | _ => exact absurd (show false = true from fy) Bool.false_ne_true
noncomputable def eqU (x : V) (u : Value) : Bool := match u with
  | .none => eqV .non x
  | .bool b => eqV (.bl b) x
  | .int i _ => eqV (.int i) x
  | .str z _ => eqV (.str z) x
  | _ => false
noncomputable def inV (x : V) (xs : List V) : Bool := xs.any fun y => eqV y x
noncomputable def rIn (K : PySem.W.Frag) (neg : Bool) : R2 := fun x y H Q => ∃ p xs, y = .ref p ∧ (SqL K H p xs ∨ SqT K H p xs) ∧ flatV x = true ∧ xs.all flatV = true ∧ Q (.bl (if neg then !inV x xs else inV x xs)) H
theorem call_len_seq : CallR X (.builtin "len") (fun xs H Q => ∃ p ys, xs = [.ref p] ∧ (SqL X.K H p ys ∨ SqT X.K H p ys) ∧ Q (.int ys.length) H) := by
  intro pins s σ H xs us Q I r h
  obtain ⟨p, ys, rfl, hq, q⟩ := h
  obtain ⟨u, rfl, rx⟩ := vals1 r
  cases rx
  have hn := line63
  rcases hq with hq | hq
  · obtain ⟨its, r', pl, hz⟩ := I.list hq
    have hlen := r'.length
    exact Calls.call_len_list pl.isList (by simp only [List.size_toArray] <;> omega) ⟨.int ys.length, H, I.tok _, ⟨s.toks + 1, by rw [List.size_toArray, hlen]⟩, q⟩
  · obtain ⟨its, r', pl, hz⟩ := I.tuple hq
    have hlen := r'.length
    exact len_tuple pl (by simp only [List.size_toArray] <;> omega) ⟨.int ys.length, H, I.tok _, ⟨s.toks + 1, by rw [List.size_toArray, hlen]⟩, q⟩
theorem call_list_of : CallR X (.type "list") (fun xs H Q => ∃ p ys, xs = [.ref p] ∧ (SqL X.K H p ys ∨ SqT X.K H p ys) ∧ ∀ l, H l = none → Q (.ref l) (upd H l (.lst ys))) := by
  intro pins s σ H xs us Q I r h
  obtain ⟨p, ys, rfl, hq, q⟩ := h
  obtain ⟨u, rfl, rx⟩ := vals1 r
  cases rx
  have fin : ∀ (its : List Value), Vals ys its → ys.length ≤ sizeLine → ∀ (h' : Heap) (c' : Nat), (∀ b o', s.heap.get? b = some o' → h'.get? b = some o') →
      h'.get? s.heap.objs.size = some { cls := .type "list", dict := none, data := .seq its.toArray c', slots := #[] } → EP X pins σ Q (.ref s.heap.objs.size) { s with heap := h' } := fun its r' hz h' c' kp e =>
    ⟨.ref s.heap.objs.size, _, I.laid (t' := s.toks) kp (Nat.le_refl _) (show ObjOk X.prog X.w _ h' _ (.lst ys) from ⟨hz, its, c', r', e⟩), rfl, q _ (I.hok.fresh (Nat.le_refl _))⟩
  rcases hq with hq | hq
  · obtain ⟨its, r', pl, hz⟩ := I.list hq
    have hlen := r'.length
    obtain ⟨o, ho, hc, n, hd⟩ := pl.isList
    exact call_list_seq p (.inl rfl) ho hc hd (fun h' c' kp e => fin its r' hz h' c' kp e) (by simp only [List.size_toArray] <;> omega)
  · obtain ⟨its, r', pl, hz⟩ := I.tuple hq
    have hlen := r'.length
    obtain ⟨o, ho, hc, n, hd⟩ := pl
    exact call_list_seq p (.inr rfl) ho hc hd (fun h' c' kp e => fin its r' hz h' c' kp e) (by simp only [List.size_toArray] <;> omega)
theorem call_tuple_of : CallR X (.type "tuple") (fun xs H Q => ∃ p ys, xs = [.ref p] ∧ ((SqL X.K H p ys ∧ ∀ l, H l = none → Q (.ref l) (upd H l (.tup ys))) ∨ (SqT X.K H p ys ∧ Q (.ref p) H))) := by
  intro pins s σ H xs us Q I r h
  obtain ⟨p, ys, rfl, h⟩ := h
  obtain ⟨u, rfl, rx⟩ := vals1 r
  cases rx
  rcases h with ⟨hq, q⟩ | ⟨hq, q⟩
  · obtain ⟨its, r', pl, hz⟩ := I.list hq
    have hlen := r'.length
    refine call_tuple_list pl.isList (fun h' kp => ?_) (by simp only [List.size_toArray] <;> omega)
    have I1 : Inv X pins σ H { s with heap := h' } := I.kept (t' := s.toks) kp
    have I2 : Inv X pins σ (upd H h'.objs.size (.tup ys)) { s with heap := h'.push { cls := .type "tuple", data := .seq its.toArray } } :=
      I1.laid (t' := s.toks) (fun b o e => Heap.get?_push_of_some _ e) (Nat.le_refl _) (show ObjOk X.prog X.w _ _ _ (.tup ys) from ⟨hz, its, r', Tup0.new _ _⟩)
    exact ⟨.ref h'.objs.size, _, I2, rfl, q _ (I1.hok.fresh (Nat.le_refl _))⟩
  · obtain ⟨its, r', pl, hz⟩ := I.tuple hq
    exact call_tuple_same pl ⟨.ref p, H, I, rfl, q⟩

noncomputable def tyV (K : PySem.W.Frag) (T : String) (x : V) (H : Hp) : Prop := match x with
  | .str _ => T = "str"
  | .int _ => T = "int"
  | .ref p => (T = "list" ∧ ∃ xs, SqL K H p xs) ∨ (T = "tuple" ∧ ∃ o, K.lookup p = some o ∧ o.cls = .type "tuple" ∧ o.dict = none) ∨
      (T = "dict" ∧ ((∃ kvs, H p = some (.dK kvs)) ∨ ∃ kvs, H p = some (.dT kvs))) ∨ (T = "set" ∧ ∃ S n, H p = some (.set S n))
  | _ => False
theorem tyV_is {pins : List (Addr × Obj)} {σ : St} {H : Hp} {s : Shared} {T : String} {x : V} {v : Value} (I : Inv X pins σ H s) (r : RelV x v) (ty : tyV X.K T x H) :
    s.TypeIs v T ∧ ∀ a, v = .ref a → ∃ ob, s.heap.get? a = some ob ∧ ob.dict = none := by
  cases x with
  | str z =>
    obtain ⟨t, rfl⟩ := r
    cases (show T = "str" from ty)
    exact ⟨typeIs_str s z t, fun _ e => nomatch e⟩
  | int i =>
    obtain ⟨t, rfl⟩ := r
    cases (show T = "int" from ty)
    exact ⟨typeIs_int s i t, fun _ e => nomatch e⟩
  | ref p =>
    cases r
    rcases ty with ⟨rfl, xs, hq⟩ | ⟨rfl, o, hk, hc, hd⟩ | ⟨rfl, hk⟩ | ⟨rfl, S, n, hk⟩
    · obtain ⟨its, _, pl, _⟩ := I.list hq
      refine ⟨pl.isList.typeIs, fun a e => ?_⟩
      cases e
      obtain ⟨o, n, e, c, hd, _⟩ := pl
      exact ⟨o, e, hd⟩
    · refine ⟨⟨o, I.kIn p o hk, hc⟩, fun a e => ?_⟩
      cases e
      exact ⟨o, I.kIn _ o hk, hd⟩
    · have z : ∃ o, s.heap.get? p = some o ∧ o.ExactDict := by
        rcases hk with ⟨kvs, hk⟩ | ⟨kvs, hk⟩
        · obtain ⟨_, _, _, _, o, _, _, e, ex, _⟩ := I.hok p _ hk
          exact ⟨o, e, ex⟩
        · obtain ⟨_, _, _, _, o, _, _, e, ex, _⟩ := I.hok p _ hk
          exact ⟨o, e, ex⟩
      obtain ⟨o, e, ex⟩ := z
      refine ⟨⟨o, e, ex.1⟩, fun a e2 => ?_⟩
      cases e2
      exact ⟨o, e, ex.2.1⟩
    · obtain ⟨o, _, _, _, e, ex, _⟩ := I.hok p _ hk
      refine ⟨⟨o, e, ex.1⟩, fun a e2 => ?_⟩
      cases e2
      exact ⟨o, e, ex.2.1⟩
  | _ => exact False.elim ty
noncomputable def tBM0 (K : PySem.W.Frag) (T : String) (r : V → List V → Hp → VK → Prop) (to : TE) : TE := fun σ H Q => to σ H fun x H1 => tyV K T x H1 ∧ r x [] H1 Q
noncomputable def tBM (K : PySem.W.Frag) (T : String) (r : V → List V → Hp → VK → Prop) (to : TE) (t : TA) : TE := fun σ H Q => to σ H fun x H1 => tyV K T x H1 ∧ t σ H1 fun xs H2 => r x xs H2 Q
variable {o e : Expr} {es : List Expr} {to : TE} {t : TA} {name : Str} {apos cpos : Pos} {T id : String} {r : V → List V → Hp → VK → Prop}
theorem pe_bm0 (pa : PlainAttrs T) (slot : Slot T name id) (hty : typeOf (.builtin id) = pure (.type "method_descriptor")) (hm : MtR X id r) (ho : PE X o to)
    (hbase : autoParam (attributeBase o name X.env (eval o X.env) = eval o X.env) L2.Internal.auR._auto_1) (hline : autoParam ((apos.endLine == cpos.line) = true) L2.Internal.auR._auto_1) : PE X (.Call (.Attribute o name apos) [] [] cpos) (tBM0 X.K T r to) := by
  intro pins s σ H Q I h
  refine wpAny_Call_method0_late hbase hline (thn (ho pins s σ H _ I h) fun v s1 ⟨x, H1, I1, r1, ty, q1⟩ => ?_)
  obtain ⟨h1, h2⟩ := tyV_is I1 r1 ty
  exact ⟨T, id, pa, slot, hty, h1, h2, Calls.callWith_builtin rfl (PySem.evalArgs_none (hm pins s1 σ H1 x [] v [] Q I1 r1 .nil q1))⟩
theorem pe_bm (pa : PlainAttrs T) (slot : Slot T name id) (hty : typeOf (.builtin id) = pure (.type "method_descriptor")) (hm : MtR X id r) (ho : PE X o to) (ha : PA X (e :: es) t)
    (hbase : autoParam (attributeBase o name X.env (eval o X.env) = eval o X.env) L2.Internal.auR._auto_1)
    (hfew : ((backTo cpos (starEach (e :: es) X.env)).all (fun x => !x.1) && (backToKw cpos (keywordEach [] X.env)).all (fun x => x.1.isSome)
      && decide ((e :: es).length + ([] : List Keyword).length + (if ([] : List Keyword).isEmpty then 0 else 1) < 30)) = true := by rfl)
    (hline : autoParam ((apos.endLine == cpos.line) = true) L2.Internal.auR._auto_1) (hs : autoParam (starEach (e :: es) X.env = (false, eval e X.env) :: starEach es X.env) L2.Internal.auR._auto_1) (hplain : autoParam ((backTo cpos (starEach es X.env)).any (·.1) = false) L2.Internal.auR._auto_1) :
    PE X (.Call (.Attribute o name apos) (e :: es) [] cpos) (tBM X.K T r to t) := by
  intro pins s σ H Q I h
  refine wpAny_Call_method_late hbase hfew hline rfl (thn (ho pins s σ H _ I h) fun v s1 ⟨x, H1, I1, r1, ty, q1⟩ => ?_)
  obtain ⟨h1, h2⟩ := tyV_is I1 r1 ty
  refine ⟨T, id, pa, slot, hty, h1, h2, ?_⟩
  have hA := ha cpos pins s1 σ H1 _ I1 q1
  rw [hs] at hA ⊢
  refine Calls.callWith_builtin (by show (false || (backTo cpos (starEach es X.env)).any (·.1)) = false; rw [hplain] <;> rfl) (Calls.evalArgs_plain ?_)
  exact thn hA fun us s2 ⟨vs, H2, I2, r2, q2⟩ => hm pins s2 σ H2 x vs v us Q I2 r1 r2 q2
/- xs.append(e), list.index on a module's tuple .. are MtR facts of 06m -/
end
end L2.Internal

namespace L2.Internal
open PySem PySem.Spec PyProof.Rows

noncomputable def MtM (X : Cx) (id : String) (r : V → List V → Hp → VK → Prop) : Prop :=
  ∀ (pins : List (Addr × Obj)) (s : Shared) (σ : St) (H : Hp) (x : V) (xs : List V) (v : Value) (us : List Value) (Q : VK), Inv X pins σ H s → RelV x v → Vals xs us → r x xs H Q →
    wpAny (model X.prog X.w) X.A (call (.builtin id) (v :: us)) (EP X pins σ Q) X.xe s

theorem Vals.one : ∀ {x : V} {us : List Value}, Vals [x] us → ∃ u, us = [u] ∧ RelV x u
  | _, _, .cons r .nil => ⟨_, rfl, r⟩
section
variable {X : Cx} {pins : List (Addr × Obj)} {σ : St} {H : Hp} {s : Shared} {l b : Addr} {xs ys zs : List V}

theorem Inv.lset {its its' : List Value} {n : Nat} {f : Array Value → Array Value} {t' : Nat} (I : Inv X pins σ H s) (hH : H l = some (.lst xs))
    (e : s.heap.get? l = some { cls := .type "list", data := .seq its.toArray n }) (hf : f its.toArray = its'.toArray) (hv : Vals ys its') (hz : ys.length ≤ sizeLine) :
    Inv X pins σ (upd H l (.lst ys)) { s with heap := s.heap.update l (Obj.mapSeq f), toks := t' } := by
  have q := PySem.IsL.update e f
  rw [hf] at q
  refine I.write (x := l) (e := l) (by rw [hH]; exact trivial) (.inl rfl) (fun b' u hb hu => (Heap.get?_update_other s.heap (Obj.mapSeq f) (Ne.symm hb)).trans hu) ⟨_, q⟩ ?_
  exact ⟨hz, its', _, hv, q⟩
theorem Inv.lnew {its : List Value} {t' : Nat} (I : Inv X pins σ H s) (hv : Vals ys its) (hz : ys.length ≤ sizeLine) :
    Inv X pins σ (upd H s.heap.objs.size (.lst ys)) { s with heap := s.heap.push { cls := .type "list", data := .seq its.toArray }, toks := t' } :=
  I.laid (fun _ _ q => Heap.get?_push_of_some _ q) (Nat.le_refl _) ⟨hz, its, 0, hv, Heap.get?_push_size _ rfl⟩
theorem Inv.fresh (I : Inv X pins σ H s) : H s.heap.objs.size = none := I.hok.fresh (Nat.le_refl _)
theorem Inv.lstM (I : Inv X pins σ H s) (hH : H l = some (.lst xs)) : xs.length ≤ sizeLine ∧ ∃ (its : List Value) (n : Nat), Vals xs its ∧ xs.length = its.length ∧ s.heap.get? l = some { cls := .type "list", data := .seq its.toArray n } := by
  obtain ⟨z, its, n, r, e⟩ := I.hok l _ hH
  exact ⟨z, its, n, r, r.length, e⟩

end

section
variable {X : Cx}

noncomputable def rAppend : V → List V → Hp → VK → Prop := fun x vs H Q => ∃ l xs y, x = .ref l ∧ vs = [y] ∧ H l = some (.lst xs) ∧ xs.length < sizeLine ∧ Q .non (upd H l (.lst (xs ++ [y])))
theorem mt_append : MtM X "list.append" rAppend := by
  intro pins s σ H x vs v us Q I rx rv h
  obtain ⟨l, xs, y, rfl, rfl, hH, hz, q⟩ := h
  cases rx
  obtain ⟨u, rfl, ru⟩ := rv.one
  obtain ⟨z, its, n, r, hl, e⟩ := I.lstM hH
  refine call_meets F.slot_list_append ⟨_, e, rfl⟩ F.entry_list_append (F.args_list_append_2 _ _) (PySem.list_append l its.toArray n u (by rw [List.size_toArray]; omega)) ⟨e, ?_⟩
  refine ⟨.non, _, I.lset (its' := its ++ [u]) hH e (by simp) (r.append (.cons ru .nil)) ?_, rfl, q⟩
  rw [List.length_append, List.length_singleton]
  omega

noncomputable def rExtend : V → List V → Hp → VK → Prop := fun x vs H Q => ∃ l b xs zs, x = .ref l ∧ vs = [.ref b] ∧ H l = some (.lst xs) ∧ H b = some (.lst zs) ∧ xs.length + zs.length ≤ sizeLine ∧ Q .non (upd H l (.lst (xs ++ zs)))
noncomputable def rPop : V → List V → Hp → VK → Prop := fun x vs H Q => ∃ l xs y, x = .ref l ∧ vs = [] ∧ H l = some (.lst xs) ∧ xs[xs.length - 1]? = some y ∧ Q y (upd H l (.lst xs.dropLast))
noncomputable def rPopAt : V → List V → Hp → VK → Prop := fun x vs H Q => ∃ l xs i k y, x = .ref l ∧ vs = [.int i] ∧ H l = some (.lst xs) ∧ -(2 ^ 63) ≤ i ∧ i < 2 ^ 63 ∧ seqIndex? i xs.length = some k ∧ xs[k]? = some y ∧ Q y (upd H l (.lst (xs.eraseIdx k)))
noncomputable def rReverse : V → List V → Hp → VK → Prop := fun x vs H Q => ∃ l xs, x = .ref l ∧ vs = [] ∧ H l = some (.lst xs) ∧ Q .non (upd H l (.lst xs.reverse))
noncomputable def rClear : V → List V → Hp → VK → Prop := fun x vs H Q => ∃ l xs, x = .ref l ∧ vs = [] ∧ H l = some (.lst xs) ∧ Q .non (upd H l (.lst []))
noncomputable def rCat : R2 := fun x y H Q => ∃ l b xs zs, x = .ref l ∧ y = .ref b ∧ H l = some (.lst xs) ∧ H b = some (.lst zs) ∧ xs.length + zs.length ≤ sizeLine ∧ ∀ p, H p = none → Q (.ref p) (upd H p (.lst (xs ++ zs)))
noncomputable def rRep : R2 := fun x y H Q => ∃ l k xs, x = .ref l ∧ y = .int k ∧ H l = some (.lst xs) ∧ -(2 ^ 63) ≤ k ∧ k < 2 ^ 63 ∧ xs.length * k.toNat ≤ sizeLine ∧
  ∀ p, H p = none → Q (.ref p) (upd H p (.lst (List.replicate k.toNat xs).flatten))
end

section
variable {prog : Program} {w : World} {A : Around} {E : Value → Shared → Prop} {s : Shared}
set_option maxRecDepth 100000 in
end

section
variable {X : Cx}
end
end L2.Internal

namespace Att.Internal
open PySem PySem.W PySem.Calls PyProof.Rows

theorem ints_of_wellAll {P : Params} {h : Heap} : ∀ (ns : List Int) (vs : List Value), WellAll P h vs (ns.map WData.int) → IntsAre vs ns := by
  intro ns
  induction ns with
  | nil =>
    intro vs w
    rw [List.map_nil] at w
    cases w
    exact .nil
  | cons n ns ih =>
    intro vs w
    rw [List.map_cons] at w
    cases w with
    | cons a b =>
      cases a
      exact .cons _ _ (ih _ b)

theorem script_of {l : OpenLaw} {n : Nat} (hn : l.most = some n) {P : Params} {h : Heap} {args : List WData} {vals : List Value}
    (hpre : l.row.toRowW.claim.pre args = true) (hwl : WellAll P h vals args) :
    ∃ a vs ns, vals = [Value.ref a] ∧ args = [WData.list (ns.map WData.int)] ∧ h.get? a = some { cls := .type "list", data := .seq vs.toArray } ∧ IntsAre vs ns ∧ ns.length ≤ n := by
  have hsh : WShape.hasAll [] args [.list .int] = true := (pre_splitW hpre).1
  have hc : l.pre.holds [] { args := args } = true := (pre_splitW hpre).2
  obtain ⟨d, r, rfl, h1, h2⟩ := hasAllW_cons hsh
  obtain rfl := hasAllW_nil h2
  obtain ⟨xs, rfl, h3⟩ := hasW_list h1
  obtain ⟨ns, rfl⟩ := items_int h3
  have hlen : ns.length ≤ n := by
    unfold OpenLaw.pre at hc
    have h4 : (WTm.not (.lt (.lit (.int (n : Int))) (.len (.arg 0)))).holds [] { args := [.list (ns.map .int)] } = true := by
      have h4 := (holds_andW hc).1
      rw [hn] at h4
      exact h4
    have h5 := condW_of h4 (w_not (w_lt w_lit (w_len_list (w_arg rfl))))
    rw [List.length_map] at h5
    refine Nat.le_of_not_lt fun q => ?_
    have q' : (n : Int) < ((ns.length : Nat) : Int) := by omega
    first
      | (rw [decide_eq_true q'] at h5; exact absurd h5 (by decide))
      | (simp at h5; omega)
  cases hwl with
  | cons w1 w2 =>
    cases w2
    cases w1 with
    | list ho hall => exact ⟨_, _, ns, rfl, rfl, ho, ints_of_wellAll ns _ hall, hlen⟩

theorem post_true (l : OpenLaw) (args : List WData) : l.row.toRowW.claim.post args (.bool true) args = true :=
  postW_of (r := l.row.toRowW) (X := (true == true))
    (show WShape.has [] (.bool true) .bool = true by first | rfl | decide | simp [WShape.has, WShape.arms, WShape.armsAll])
    (show (WTm.eq .res (.lit (.bool true))).value [] { args := args, res := some (.bool true), after := args } = some (.bool (true == true)) from w_eq_bool (w_res rfl) w_lit) rfl

theorem attach_call {l : OpenLaw} {n : Nat} {q : Program} {loose : List Str} {XP : (Str → Option Value) → Heap → Prop} {YP : World → Heap → Prop} {d : DefRec}
    (hn : l.most = some n) (hdf : d.params.defaults = [])
    (call : ∀ (w : World) (s₀ s₁ : Shared) (mg mb : Str → Option Value) (fa : Addr) (o : Obj) (pm cd doc : Value) (a : Addr) (vs : List Value) (ns : List Int),
      Ground q loose [] XP w s₀ mg mb s₁.heap → YP w s₁.heap →
      s₁.heap.get? fa = some o → o.data = .func (docDef d.name d.params d.body d.scope pm cd doc) → s₁.heap.CodeRec cd d.name → mg d.name = some (.ref fa) →
      s₁.heap.get? a = some { cls := .type "list", data := .seq vs.toArray } → IntsAre vs ns → ns.length ≤ n → s₁.gens = #[] →
      codeAny (model l.prog w) callerA (.call (.ref fa) ⟨[.ref a], []⟩) (fun r s' => r = .ok (.ret (.bool true)) ∧ OldK s₁.heap s'.heap ∧ s'.os = s₁.os ∧ AllBare s'.gens) s₁) :
    WalkO q loose XP YP l.row.toRowW d [] (fun f vs => PySem.call f vs) := by
  intro w s₀ s₁ mg mb G Y fa o pm cd doc dV kV ho hd hcd hD hmg hg args vals as hpre hlay hrd hwl hlo
  obtain rfl : dV = .none := Dflts.none hD hdf
  obtain rfl : kV = .none := Dflts.noKw hD
  obtain ⟨a, vs, ns, rfl, rfl, hobj, hints, hlen⟩ := script_of hn hpre hwl
  refine enter_call (codeAny_mono (call w s₀ s₁ mg mb fa o pm cd doc a vs ns G Y ho (fd_plain hd) hcd hmg hobj hints hlen hg) fun r s' hq => ?_)
  obtain ⟨rfl, h2, h3, h4⟩ := hq
  exact ⟨.inl ⟨.bool true, .bool true, [], rfl, fun _ => rfl, .bool true, post_true l _, fun _ => ⟨List.Pairwise.nil, fun _ hm => (nomatch hm)⟩⟩, h2, h3, h4⟩

section
variable {prog : Program} {w : World} {A : Around} {E : Value → Shared → Prop} {s : Shared} {K : Frag}

noncomputable def noObjs (h : Heap) : Heap := { h with objs := #[] }
noncomputable def ledger (h : Heap) (L d : Addr) : List (Addr × Obj) := (List.range h.objs.size).filterMap fun a => if a = L ∨ a = d then none else (h.get? a).map fun o => (a, o)
end
end Att.Internal

namespace L2.Internal
open PySem PySem.Spec PyProof.Rows

theorem vals_ints : ∀ {vs : List Value} {ns : List Int}, IntsAre vs ns → Vals (ns.map V.int) vs
  | _, _, .nil => .nil
  | _, _, .cons n t h => .cons ⟨t, rfl⟩ (vals_ints h)

noncomputable def Only (H : Hp) : Prop := ∀ b, H b = none ∨ ∃ o xs, H b = some (.frz o (.lst xs))

theorem law_call {P : Program} {w : World} {K : PySem.W.Frag} {mg mb : Str → Option Value} {CX : CXT} {k : Nat} {fa a : Addr} {fd : FuncData} {x : Str} {sp : Sp} {s₁ : Shared} {vs : List Value} {ns : List Int}
    (KX : K.In s₁.heap) (hns : s₁.heap.Ns mainGlobals mg) (hb : s₁.heap.Ns builtinsNs mb) (hbb : ∀ x : Str, x ≠ "__name__" → mb x = bootBuiltins x) (hlim : s₁.heap.NoLimit) (hg : s₁.gens = #[])
    (ha : s₁.heap.get? a = some { cls := .type "list", data := .seq vs.toArray }) (hi : IntsAre vs ns) (hl : ns.length ≤ sizeLine) (hr : Room k callerA)
    (F : ∀ base : Heap, K.In base → base.Ns mainGlobals mg → FnOk P w K mg base CX k fa fd [x] sp) (hbind : ∀ (s : Shared) (u : Value), BindsTo s fd ⟨[u], []⟩ [(x, u)])
    (hsp : ∀ H : Hp, Only H → SqL K H a (ns.map V.int) → sp [.ref a] H (fun v _ => v = .bl true) fun _ _ _ => False)
    (hCX : ∀ H e s', CX [] H s₁ (fun _ _ _ => False) e s' → False) :
    codeAny (model P w) callerA (.call (.ref fa) ⟨[.ref a], []⟩) (fun r s' => r = .ok (.ret (.bool true)) ∧ OldK s₁.heap s'.heap ∧ s'.os = s₁.os ∧ AllBare s'.gens) s₁ := by
  have rv := vals_ints hi
  have lenV := hi.length
  -- from an abstract heap in which nothing but the script may be tracked
  have core : ∀ H : Hp, Only H → SqL K H a (ns.map V.int) → HOk P w H s₁.heap → (∀ b, H b ≠ none → b = a) → (H a ≠ none → K.lookup a = none) →
      codeAny (model P w) callerA (.call (.ref fa) ⟨[.ref a], []⟩) (fun r s' => r = .ok (.ret (.bool true)) ∧ OldK s₁.heap s'.heap ∧ s'.os = s₁.os ∧ AllBare s'.gens) s₁ := by
    intro H hO hS hok hA hK
    have base_of : ∀ {b : Addr} {o : Obj}, s₁.heap.get? b = some o → H b = none → (hidT s₁.heap H).get? b = some o := fun e n => hidT_get e n
    have noA : ∀ {b : Addr} {o : Obj} {es : Array DictEntry} {ep : Nat}, s₁.heap.get? b = some o → o.data = .dict es ep → H b = none := fun {b o es ep} e d => by
      cases q : H b with
      | none => rfl
      | some u =>
        have e' : b = a := hA b (by rw [q]; simp)
        subst e'
        rw [ha] at e; cases e
        have d' : Data.seq vs.toArray _ = Data.dict es ep := d
        cases d'
    have nsK : ∀ {b : Addr} {m : Str → Option Value}, s₁.heap.Ns b m → (hidT s₁.heap H).Ns b m := fun {b m} ⟨o, es, ep, e, d, r⟩ => ⟨o, es, ep, base_of e (noA e d), d, r⟩
    have hKb : K.In (hidT s₁.heap H) := fun b o e => base_of (KX b o e) (by
      cases q : H b with
      | none => rfl
      | some u =>
        have e' : b = a := hA b (by rw [q]; simp)
        subst e'
        rw [hK (by rw [q]; simp)] at e; cases e)
    have hM : Mod K mg (hidT s₁.heap H) := ⟨hKb, nsK hns, ⟨mb, nsK hb, hbb⟩, let ⟨mc, h1, h2⟩ := hlim; ⟨mc, nsK h1, h2⟩⟩
    have e0 : Env0 P w K mg (hidT s₁.heap H) callerA [] s₁ H := ⟨rfl, hM, fun b o e => of_hidT e, Nat.le_of_eq (hidT_size _ _), trivial, fun b hb => absurd (show b ∈ ([] : List Addr) from hb) (by simp), hok, .of_eq hg⟩
    refine codeAny_mono ((F _ hKb (nsK hns)).run callerA [] s₁ H ⟨[.ref a], []⟩ [.ref a] [.ref a] _ _ hr e0 (hbind s₁ (.ref a)) (.cons rfl .nil) (hsp H hO hS)) fun r s' h => ?_
    cases r with
    | error e => exact (hCX H e s' h).elim
    | ok fl =>
      cases fl with
      | next => exact False.elim h
      | brk => exact False.elim h
      | cont => exact False.elim h
      | ret u =>
        obtain ⟨v, H', os, bare, un, hok', r', q⟩ := h
        have q' : v = .bl true := q
        subst q'
        obtain rfl : u = Value.bool true := r'
        refine ⟨rfl, OldK.of_keep fun b o e => ?_, os, bare⟩
        cases q : H b with
        | none => exact un.keep b o e q (by intro z; exact absurd (show b ∈ ([] : List Addr) from z) (by simp)) (by simp)
        | some u =>
          rcases hO b with z | ⟨ob, xs, z⟩
          · rw [q] at z; cases z
          · have z2 := un.frzs b ob _ z
            obtain ⟨e1, _⟩ := hok b _ z
            obtain ⟨e2, _⟩ := hok' b _ z2
            rw [e] at e1; cases e1
            exact e2
  cases hk : K.lookup a with
  | some o =>
    -- the script is one of the module's own objects
    have e := KX a o hk
    rw [ha] at e
    cases e
    refine core (fun _ => none) (fun _ => .inl rfl) (.inr ⟨_, vs.toArray, _, hk, rfl, rfl, rfl, by rw [List.size_toArray, lenV]; exact hl, by simpa using rv⟩) (fun b u z => by have z' : (none : Option HO) = some u := z; cases z') (fun b z => absurd rfl z) fun z => absurd rfl z
  | none =>
    refine core (fun b => if b = a then some (.frz { cls := .type "list", data := .seq vs.toArray } (.lst (ns.map V.int))) else none) (fun b => ?_) (.inl (.inr ⟨{ cls := .type "list", data := .seq vs.toArray }, if_pos rfl⟩)) (fun b u z => ?_) (fun b z => ?_) fun _ => hk
    · by_cases hb : b = a
      · exact .inr ⟨_, _, if_pos hb⟩
      · exact .inl (if_neg hb)
    · by_cases hb : b = a
      · have z' := (if_pos hb).symm.trans z
        cases z'
        subst hb
        exact ⟨ha, by rw [List.length_map]; exact hl, vs, _, rv, ha⟩
      · have z' := (if_neg hb).symm.trans z
        cases z'
    · by_cases hb : b = a
      · exact hb
      · exact absurd (if_neg hb) z
end L2.Internal

namespace L2.Internal
open PySem PySem.Spec PyProof.Rows

noncomputable abbrev KOf {K : PySem.W.Frag} {h : Heap} (_ : K.In h) : PySem.W.Frag := K

theorem walk_of {l : PySem.W.OpenLaw} {n k : Nat} {q : Program} {loose : List Str} {XP : (Str → Option Value) → Heap → Prop} {YP : World → Heap → Prop} {d : DefRec} {K : Params → PySem.W.Frag} {CX : World → CXT} {sp : World → Sp} {x : Str}
    (hn : l.most = some n) (hn2 : n ≤ sizeLine) (hdf : d.params.defaults = []) (hr : Room k callerA)
    (hY : ∀ (w : World) (h : Heap), YP w h → (K w.params).In h)
    (F : ∀ (w : World) (mg : Str → Option Value) (fa : Addr) (h : Heap), (K w.params).In h → h.Ns mainGlobals mg → mg d.name = some (.ref fa) →
      ∃ fd : FuncData, (∀ (s : Shared) (u : Value), BindsTo s fd ⟨[u], []⟩ [(x, u)]) ∧
        ∀ base : Heap, (K w.params).In base → base.Ns mainGlobals mg → FnOk l.prog w (K w.params) mg base (CX w) k fa fd [x] (sp w))
    (hsp : ∀ (w : World) (H : Hp) (a : Addr) (ns : List Int), ns.length ≤ n → Only H → SqL (K w.params) H a (ns.map V.int) → sp w [.ref a] H (fun v _ => v = .bl true) fun _ _ _ => False)
    (hCX : ∀ (w : World) (H : Hp) (s : Shared) (e : Value) (s' : Shared), CX w [] H s (fun _ _ _ => False) e s' → False) :
    PySem.W.WalkO q loose XP YP l.row.toRowW d [] (fun f vs => PySem.call f vs) := by
  refine Att.Internal.attach_call hn hdf fun w s₀ s₁ mg mb fa o pm cd doc a vs ns G Y ho hd hcd hmg hobj hints hlen hg => ?_
  have KX := hY w _ Y
  obtain ⟨fd, hb, hF⟩ := F w mg fa _ KX G.T.g hmg
  exact law_call KX G.T.g G.T.b G.T.builtins G.T.nolimit hg hobj hints (Nat.le_trans hlen hn2) hr hF hb (fun H hO hS => hsp w H a ns hlen hO hS) fun H e s' => hCX w H s₁ e s'
end L2.Internal

/- THE LAST THEOREM (shape; LID, My.* are yours):
   My.Adr: a structure of the addresses that your layer names (classes, functions); My.Txt K t: a structure (Prop) of the equations over K;
   My.txt_mk : {K} {implicit addresses ..} (e1 : nsIn K mainGlobals "law" = some (some (.ref f))) (e2 : K.lookup f = some ⟨oc, od, .func (fnOf "law" "law" params body scope dV kV doc pm an cdv ct), sl⟩) (e3 : codeIn K cdv "law" = true) .. : ∃ t, My.Txt K t

set_option maxRecDepth 100000 in
set_option maxHeartbeats 0 in
theorem PySem.Challenge.cw_LID_holds : PySem.Challenge.rw_LID.Holds := by
  w_on; o_law; k_head; (case hw => w_witness2)
  k_fill
  refine L2.Internal.walk_of (l := PySem.Challenge.rw_LID) (n := 63) (k := 40) (x := "script") (CX := fun w => ..) (sp := fun _ => My.sp_law) rfl (by decide) rfl ⟨rfl, by decide, by decide⟩ (fun w h Y => PySem.W.kIn_of Y) ?F ?S ?C
  case F =>
    intro w mg fa h KX G hmg
    have T : ∃ t, My.Txt (L2.Internal.KOf KX) t := by
      dsimp only [L2.Internal.KOf]                          -- K must stand as «<heap const> w.params» for k_is
      refine' My.txt_mk ?e1 ?e2 ?e3 ..
      (case e1 => PySem.W.k_is)                    -- in the order: a name -> its address -> its object -> its parts
      (case e2 => PySem.W.k_is)
      ..
    obtain ⟨t, T⟩ := T
    have e0 := hmg.symm.trans (PySem.W.mg_of KX G T.law)
    cases e0                                       -- fa is the law's own address
    exact ⟨_, fun s u => .of_eq rfl, fun base kb nb => My.law_fn T kb nb⟩     -- if «.of_eq rfl» comes too early: refine' ⟨_, ?b, fun base kb nb => My.law_fn T kb nb⟩; exact fun s u => .of_eq rfl
  case S => exact fun w H a ns hl hO hS => ..
  case C => exact ..
(the tactic k_is has no namespace: write k_is) -/

namespace L2.Internal
open PySem PySem.Spec PyProof.Rows

noncomputable def inClass (s : Stmt) (j : Nat) : Stmt := match s with
  | .ClassDef _ _ _ body _ _ _ _ _ _ _ => body.getD j (.Pass ⟨0, 0, 0, 0⟩)
  | _ => .Pass ⟨0, 0, 0, 0⟩
noncomputable def defArgs (s : Stmt) : Arguments := match s with
  | .FunctionDef _ a _ _ _ _ _ _ _ _ => a
  | _ => { posonlyargs := [], args := [], vararg := none, kwonlyargs := [], kw_defaults := [], kwarg := none, defaults := [] }
noncomputable def defBody (s : Stmt) : List Stmt := match s with
  | .FunctionDef _ _ b _ _ _ _ _ _ _ => b
  | _ => []
noncomputable def defScope (s : Stmt) : Scope := match s with
  | .FunctionDef _ _ _ _ _ _ sc _ _ _ => sc
  | _ => { kind := .function, names := [], isGenerator := false, isCoroutine := false }

noncomputable abbrev CX0 : CXT := fun _ _ _ _ _ _ => False
noncomputable abbrev E0 : XK := fun _ _ _ => False
theorem pass0 {X : Cx} : Passes CX0 X E0 := fun _ _ _ _ _ _ _ h => h.elim

structure Fun (K : PySem.W.Frag) (x qual : Str) (st : Stmt) (f : Addr) (fd : FuncData) : Prop where
  ex : ∃ (oc : Value) (od : Option Addr) (kV doc pm : Value) (an : Option Addr) (cdv ct : Value) (osl : Array (Option Value)),
    fd = PySem.W.fnOf x qual (defArgs st) (defBody st) (defScope st) .none kV doc pm an cdv ct ∧ K.lookup f = some ⟨oc, od, .func fd, osl⟩ ∧ PySem.W.codeIn K cdv qual = true
  kp : PySem.W.keepIn K (.ref f) = true
section
variable {P : Program} {w : World} {K : PySem.W.Frag} {mg : Str → Option Value} {base : Heap}
theorem Fun.ok {x qual : Str} {st : Stmt} {f : Addr} {fd : FuncData} {N ps : List Str} {k : Nat} {sp : Sp} (F : Fun K x qual st f fd) (S : FnScope N ps (defScope st)) (len : ∀ vs H Q E, sp vs H Q E → vs.length = ps.length)
    (hbody : ∀ (cdv : Value) (A : Around) (outer : List Env) (s : Shared) (H : Hp) (vs : List V) (Q : VK) (E : XK), Room k (A.deeper (envOfC qual (defScope st) s.heap.objs.size f cdv)) → sp vs H Q E →
      ∃ t, PSs (cxOf CX0 P w K mg base N qual (defScope st) f cdv A outer s H E).nox (defBody st) t ∧ t { nx := fun _ H' => Q .non H', rt := Q } (start N vs) H) : FnOk P w K mg base CX0 (k + 1) f fd ps sp := by
  obtain ⟨oc, od, kV, doc, pm, an, cdv, ct, osl, rfl, lk, hcd⟩ := F.ex
  refine fn_of lk hcd S len fun A outer s H vs Q E hr hsp => ?_
  obtain ⟨t, h, q⟩ := hbody cdv A outer s H vs Q E hr hsp
  exact ⟨t, h.nox, q⟩
theorem Fun.binds {x qual : Str} {st : Stmt} {f : Addr} {fd : FuncData} {ps : List Str} (F : Fun K x qual st f fd)
    (h : ∀ (kV doc pm : Value) (an : Option Addr) (cdv ct : Value) (us : List Value), us.length = ps.length → bindArgs (PySem.W.fnOf x qual (defArgs st) (defBody st) (defScope st) .none kV doc pm an cdv ct) ⟨us, []⟩ = pure (ps.zip us)) : Binds K fd ps [] := by
  obtain ⟨oc, od, kV, doc, pm, an, cdv, ct, osl, rfl, lk, hcd⟩ := F.ex
  exact .all (h kV doc pm an cdv ct)
theorem fun_mk {x qual : Str} {st : Stmt} {f : Addr} {oc : Value} {od an : Option Addr} {osl : Array (Option Value)} {kV doc pm cdv ct : Value} (l : K.lookup f = some ⟨oc, od, .func (PySem.W.fnOf x qual (defArgs st) (defBody st) (defScope st) .none kV doc pm an cdv ct), osl⟩)
    (c : PySem.W.codeIn K cdv qual = true) (k : PySem.W.keepIn K (.ref f) = true) : Fun K x qual st f (PySem.W.fnOf x qual (defArgs st) (defBody st) (defScope st) .none kV doc pm an cdv ct) := ⟨⟨oc, od, kV, doc, pm, an, cdv, ct, osl, rfl, l, c⟩, k⟩
end
section
variable {X : Cx}
theorem pv (i : Nat) {x : Str} {pos : Pos} (hN : autoParam (X.N[i]? = some x) L2.Internal.auR._auto_1) (hv : Vis X.env.scope x := by first | exact Or.inl rfl | exact Or.inr (Or.inl rfl) | exact Or.inr (Or.inr rfl)) (hd : autoParam ((x == ("__debug__" : Str)) = false) L2.Internal.auD._auto_1)
    (hcd : autoParam ((x == ("__classdict__" : Str)) = false) L2.Internal.auD._auto_1) : PE X (.Name x pos) (tVar i) := pe_var hN hv hd hcd
end

theorem iteF {A B : Prop} (h : B) : if false = true then A else B := by
  rw [if_neg Bool.false_ne_true]
  exact h
theorem iteT {A B : Prop} (h : A) : if true = true then A else B := by
  rw [if_pos rfl]
  exact h
theorem ite2 {c A B : Prop} [Decidable c] (h1 : c → A) (h2 : ¬ c → B) : if c then A else B := by
  by_cases h : c
  · rw [if_pos h]
    exact h1 h
  · rw [if_neg h]
    exact h2 h
noncomputable def Same (H H' : Hp) : Prop := ∀ b o, H b = some o → H' b = some o
theorem Same.refl (H : Hp) : Same H H := fun _ _ h => h
theorem Same.trans {H H1 H2 : Hp} (a : Same H H1) (b : Same H1 H2) : Same H H2 := fun c o h => b c o (a c o h)
theorem Same.free {H H' : Hp} (e : Same H H') {l : Addr} (h : H' l = Option.none) : H l = Option.none := by
  cases q : H l with
  | none => rfl
  | some o =>
    rw [e l o q] at h
    cases h
theorem Same.seq {K : PySem.W.Frag} {H H' : Hp} {a : Addr} {xs : List V} (e : Same H H') (h : SqL K H a xs) : SqL K H' a xs := by
  rcases h with (h | ⟨o, h⟩) | h
  · exact .inl (.inl (e _ _ h))
  · exact .inl (.inr ⟨o, e _ _ h⟩)
  · exact .inr h

section
variable {X : Cx}
end
section
variable {κ : Type} [DecidableEq κ]
end
end L2.Internal
namespace L2.Internal
open PySem PySem.Spec PyProof.Rows

section
variable {X : Cx}
theorem pe_gR {x : Str} {a : Addr} {pos : Pos} (hg : Gl X x) (hm : X.mg x = some (.ref a)) (hd : autoParam ((x == ("__debug__" : Str)) = false) L2.Internal.auD._auto_1) : PE X (.Name x pos) (tC (.ref a)) := pe_glob hg hm (show RelV (.ref a) _ from rfl) hd
theorem pe_bty {x : Str} {n : String} {pos : Pos} (hg : Gl X x) (hm : X.mg x = none) (hv : bootBuiltins x = some (.type n)) (hn : autoParam (x ≠ "__name__") L2.Internal.auD._auto_1) (hd : autoParam ((x == ("__debug__" : Str)) = false) L2.Internal.auD._auto_1) : PE X (.Name x pos) (tC (.ty n)) := pe_bltn hg hm hv (show RelV (.ty n) _ from rfl) hn hd
end
theorem bt_len : bootBuiltins "len" = some (.builtin "len") := by decide +kernel
theorem bt_all : bootBuiltins "all" = some (.builtin "all") := by decide +kernel
theorem bt_sum : bootBuiltins "sum" = some (.builtin "sum") := by decide +kernel
theorem bt_isinstance : bootBuiltins "isinstance" = some (.builtin "isinstance") := by decide +kernel
theorem bt_int : bootBuiltins "int" = some (.type "int") := by decide +kernel
theorem bt_str : bootBuiltins "str" = some (.type "str") := by decide +kernel
theorem bt_bool : bootBuiltins "bool" = some (.type "bool") := by decide +kernel
theorem bt_list : bootBuiltins "list" = some (.type "list") := by decide +kernel
theorem bt_tuple : bootBuiltins "tuple" = some (.type "tuple") := by decide +kernel
noncomputable def strsOf : List Expr → Option (List Str)
  | [] => some []
  | .Constant (.str x) _ _ :: r => (strsOf r).map (x :: ·)
  | _ => none
noncomputable def tStrs (xs : List Str) : TA := fun _ H Q => Q (xs.map V.str) H
theorem pa_strs {X : Cx} : ∀ {es : List Expr} {xs : List Str}, strsOf es = some xs → PA X es (tStrs xs)
  | [], xs, h => by
    have e : xs = [] := (Option.some.inj h).symm
    subst e
    exact pa_nil
  | .Constant (.str x) k p :: r, xs, h => by
    have h' : (strsOf r).map (x :: ·) = some xs := h
    obtain ⟨ys, hy, e⟩ := Option.map_eq_some_iff.mp h'
    subst e
    have ih := pa_strs (X := X) hy
    intro pos pins s σ H Q I q
    exact pa_cons (te := tC (.str x)) (t := tStrs ys) pe_str ih rfl pos pins s σ H Q I q

noncomputable def Its (x : Str) : It := ⟨fun i _ => i < x.cps.size, fun i H v H' => H' = H ∧ ∃ c, x.cps[i]? = some c ∧ v = .str ⟨#[c]⟩, fun i _ => i = x.cps.size⟩
section
variable {X : Cx} {tg : Expr}
noncomputable def iStr (tl : TE) : TI := fun σ H R => tl σ H fun v H1 => ∃ x, v = .str x ∧ R (Its x) H1
end
noncomputable def blk (X : Cx) (N : List Str) (scope : Scope) (cl : List (Str × Addr)) (C : Addr) (s₀ : Shared) (H₀ : Hp) (ex : List Addr) (pins : List (Addr × Obj)) : Cx :=
  { X with N := N, s₀ := s₀, H₀ := H₀, env := compEnvC scope cl C X.env, outer := X.stack, stack := X.stack, ex := ex, fn := fun _ => false, pn := X.pn ++ pins, xe := fun _ _ => False }
noncomputable def PTs (X : Cx) (cs : List Expr) (t : TT) : Prop :=
  ∀ (pins : List (Addr × Obj)) (s : Shared) (σ : St) (H : Hp) (Q : Bool → Hp → Prop), Inv X pins σ H s → t σ H Q →
    wpAny (model X.prog X.w) X.A (forIn cs true fun c r => if r = true then do let ok ← isTrue c X.env (eval c X.env); pure (ForInStep.yield ok) else pure (ForInStep.yield r)) (TP X pins σ Q) X.xe s
noncomputable def tAlways : TT := fun _ H Q => Q true H
theorem pts_nil {X : Cx} : PTs X [] tAlways := fun pins s σ H Q I h => wpAny_pure ⟨H, I, h⟩
structure BlkOk (X : Cx) (N : List Str) (scope : Scope) (cl : List (Str × Addr)) (f : St → St) (i : Nat) (x : Str) : Prop where
  kind : scope.kind = .function
  cell : ∀ y ∈ scope.names, y.2 ≠ .cell
  names : ∀ y ∈ scope.names, y.2 = .local → scope.names.lookup y.1 = some .local
  clos : closureFor scope X.env = pure cl
  lk : ∀ y c, cl.lookup y = some c → X.env.cells.lookup y = some c
  has : ∀ y, ((relabel scope X.env).names.lookup y = some .cell ∨ (relabel scope X.env).names.lookup y = some .free) → ∃ c, cl.lookup y = some c
  nd : N.Nodup
  ix : N[i]? = some x
  loc : scope.names.lookup x = some .local
  len : ∀ σ, σ.length = X.N.length → (f σ).length = N.length
  val : ∀ (σ : St) (k : Nat) (y : Str) (v : V), N[k]? = some y → (f σ)[k]? = some (some v) → ∃ j : Nat, X.N[j]? = some y ∧ σ[j]? = some (some v) ∧ X.env.scope.names.lookup y = some .cell ∧ (relabel scope X.env).names.lookup y = some .cell

theorem inv_blk {X : Cx} {N : List Str} {scope : Scope} {cl : List (Str × Addr)} {f : St → St} {i : Nat} {x : Str} (B : BlkOk X N scope cl f i x) {pins : List (Addr × Obj)} {σ : St} {H : Hp} {s : Shared} {h₁ : Heap} {tk : Nat} {m : Str → Option Value} {ex : List Addr}
    (I : Inv X pins σ H s) (hex : ∀ b ∈ ex, FpOk X pins H b ∧ b < s.heap.objs.size) (keep : ∀ b o, s.heap.get? b = some o → h₁.get? b = some o) (hn : h₁.Ns s.heap.objs.size m) :
    Inv (blk X N scope cl s.heap.objs.size s H ex pins) [] (f σ) H { s with heap := h₁, toks := tk } := by
  have nst : ∀ b, b ≠ X.env.locals → b ∉ X.fs → b ∉ frs X.stack := fun b h1 h2 hb => (List.mem_cons.mp (I.stkSub b hb)).elim h1 h2
  have ltC : ∀ y c, X.env.cells.lookup y = some c → c < s.heap.objs.size := fun y c e => by
    obtain ⟨v, o, ho, _⟩ := I.cell y c e
    exact Heap.lt_size ho
  refine ⟨⟨I.ok.mod, B.kind, I.ok.glob, I.ok.blt, Nat.le_refl _, fun y z c h1 h2 => I.ok.inj y z c (B.lk y c h1) (B.lk z c h2), fun y hy => B.has y hy, fun y c h => (nomatch h), I.ok.hd, I.ok.frames, .inl rfl, fun b hb => ?_, I.bs, Nat.le_trans I.ok.bsz I.sz, fun b o e hb => ?_, fun b hb => ?_, I.stack, I.stkFree⟩,
    rfl, I.bare, Un.kept keep, ⟨m, hn, fun k y v e1 e2 e3 => ?_⟩, fun y c e => ?_, I.hok.fresh (Nat.le_refl _), fun y c e => I.freeC y c (B.lk y c e), fun p hp => ?_, I.hok.kept keep, B.len σ I.len⟩
  · obtain ⟨⟨_, _, _, _, hc, _⟩, lt⟩ := hex b hb
    exact ⟨Nat.ne_of_lt lt, fun y c e => hc y c (B.lk y c e)⟩
  · obtain ⟨⟨_, _, _, h4, _, _⟩, _⟩ := hex b hb
    rcases h4 with z | z
    · exact I.ok.noex b o e z
    · exact absurd (Nat.lt_of_lt_of_le (Heap.lt_size (I.ok.bs b o e).1) z) (Nat.lt_irrefl _)
  · obtain ⟨⟨_, h2, h3, _, _, _⟩, _⟩ := hex b hb
    exact nst b h2 h3
  · obtain ⟨j, h1, h2, h3, h4⟩ := B.val σ k y v e1 e2
    obtain ⟨m', _, hl⟩ := I.loc
    obtain ⟨u, r, l⟩ := hl j y v h1 h2 (.inr (.inl h3))
    refine ⟨u, r, ?_⟩
    rcases l with ⟨hk, _⟩ | ⟨_, c, hc, z⟩
    · have hk' : X.env.scope.names.lookup y = some .local := hk
      rw [h3] at hk'
      cases hk'
    · obtain ⟨c', hc'⟩ := B.has y (.inl h4)
      have e : c' = c := Option.some.inj ((B.lk y c' hc').symm.trans hc)
      subst e
      obtain ⟨o, ho, hd⟩ := z
      exact .inr ⟨.inl h4, c', hc', o, keep _ o ho, hd⟩
  · obtain ⟨v, o, ho, hd⟩ := I.cell y c (B.lk y c e)
    exact ⟨v, o, keep _ o ho, hd⟩
  · rw [List.append_nil] at hp
    obtain ⟨e, n, ne, nf, d⟩ := I.pin p hp
    exact ⟨keep _ _ e, n, Nat.ne_of_lt (Heap.lt_size e), nst _ ne nf, d⟩

theorem lookup_relabel {env : Env} : ∀ {names : List (Str × NameKind)} {x : Str} {k : NameKind},
    (names.map fun (n, k) => if (k == NameKind.free && env.scope.kind == .function && env.kindOf n == some .cell) then (n, NameKind.cell) else (n, k)).lookup x = some k →
    ∃ k0, names.lookup x = some k0 ∧ (k = k0 ∨ (k0 = .free ∧ k = .cell))
  | [], _, _, h => by simp at h
  | (n, k0) :: r, x, k, h => by
    have ih := @lookup_relabel env r x k
    have h : List.lookup x ((if (k0 == NameKind.free && env.scope.kind == .function && env.kindOf n == some .cell) = true then (n, NameKind.cell) else (n, k0)) :: (r.map fun (n, k) => if (k == NameKind.free && env.scope.kind == .function && env.kindOf n == some .cell) then (n, NameKind.cell) else (n, k))) = some k := h
    cases hx : x == n with
    | true =>
      by_cases hc : (k0 == NameKind.free && env.scope.kind == .function && env.kindOf n == some .cell) = true
      · rw [if_pos hc] at h
        simp only [List.lookup_cons, hx] at h ⊢
        have hf : k0 = .free := by
          have hc' := hc
          simp only [Bool.and_eq_true] at hc'
          exact eq_of_beq hc'.1.1
        exact ⟨k0, rfl, .inr ⟨hf, (Option.some.inj h).symm⟩⟩
      · rw [if_neg hc] at h
        simp only [List.lookup_cons, hx] at h ⊢
        exact ⟨k0, rfl, .inl (Option.some.inj h).symm⟩
    | false =>
      have h2 : (r.map fun (n, k) => if (k == NameKind.free && env.scope.kind == .function && env.kindOf n == some .cell) then (n, NameKind.cell) else (n, k)).lookup x = some k := by
        by_cases hc : (k0 == NameKind.free && env.scope.kind == .function && env.kindOf n == some .cell) = true
        · rw [if_pos hc] at h; simp only [List.lookup_cons, hx] at h; exact h
        · rw [if_neg hc] at h; simp only [List.lookup_cons, hx] at h; exact h
      obtain ⟨k1, e1, e2⟩ := ih h2
      exact ⟨k1, by simp only [List.lookup_cons, hx]; exact e1, e2⟩
theorem lookup_relabel_free {env : Env} (hk : env.scope.kind = .function) : ∀ {names : List (Str × NameKind)} {x : Str}, env.scope.names.lookup x = some .cell → names.lookup x = some .free →
    (names.map fun (n, k) => if (k == NameKind.free && env.scope.kind == .function && env.kindOf n == some .cell) then (n, NameKind.cell) else (n, k)).lookup x = some .cell
  | [], _, _, h => by simp at h
  | (n, k0) :: r, x, hc, h => by
    have ih := @lookup_relabel_free env hk r x hc
    show List.lookup x ((if (k0 == NameKind.free && env.scope.kind == .function && env.kindOf n == some .cell) = true then (n, NameKind.cell) else (n, k0)) :: _) = _
    cases hx : x == n with
    | true =>
      simp only [List.lookup_cons, hx] at h
      cases h
      have e : x = n := eq_of_beq hx
      have hc' : env.kindOf n = some .cell := by rw [← e]; exact hc
      simp [List.lookup_cons, hx, hk, hc']
    | false =>
      simp only [List.lookup_cons, hx] at h
      by_cases hq : (k0 == NameKind.free && env.scope.kind == .function && env.kindOf n == some .cell) = true
      · rw [if_pos hq]; simp only [List.lookup_cons, hx]; exact ih h
      · rw [if_neg hq]; simp only [List.lookup_cons, hx]; exact ih h
theorem blk0 {X : Cx} {scope : Scope} {x : Str} (hk : scope.kind = .function) (hn : ∀ p ∈ scope.names, p.2 ≠ .cell ∧ p.2 ≠ .free) (hl : ∀ y ∈ scope.names, y.2 = .local → scope.names.lookup y.1 = some .local)
    (hx : scope.names.lookup x = some .local) (hc : closureFor scope X.env = pure []) : BlkOk X [x] scope [] (fun _ => [none]) 0 x where
  kind := hk
  cell := fun y hy => (hn y hy).1
  names := hl
  clos := hc
  lk := fun y c h => by simp at h
  has := fun y h => by
    rcases h with h | h
    · obtain ⟨k0, e, z⟩ := lookup_relabel h
      have m := hn _ (PySem.mem_of_lookup e)
      rcases z with z | ⟨z, _⟩
      · exact absurd z.symm m.1
      · exact absurd z m.2
    · obtain ⟨k0, e, z⟩ := lookup_relabel h
      have m := hn _ (PySem.mem_of_lookup e)
      rcases z with z | ⟨z, _⟩
      · exact absurd z.symm m.2
      · exact absurd z m.2
  nd := by simp
  ix := rfl
  loc := hx
  len := fun _ _ => rfl
  val := fun σ k y v h1 h2 => by
    cases k with
    | zero => simp at h2
    | succ k => simp at h2
noncomputable def LcP (J : It) (i : Nat) (tt : TT) (te : TE) (Q : VK) (τ : St) (H1 : Hp) (D : Addr) : Prop :=
  ∃ W : Nat → Nat → St → Hp → Prop, (∃ m, W 0 m τ (upd H1 D (.lst []))) ∧ ∀ k m σ' H2, W k m σ' H2 →
    (J.stop k H2 ∧ Q (.ref D) H2) ∨ (J.go k H2 ∧ ∀ v H3, J.yld k H2 v H3 → tt (σ'.set i (some v)) H3 fun ok H4 => if ok = true
      then te (σ'.set i (some v)) H4 fun y H5 => ∃ xs, H5 D = some (.lst xs) ∧ xs.length < sizeLine ∧ ∃ m', m' < m ∧ W (k + 1) m' (σ'.set i (some v)) (upd H5 D (.lst (xs ++ [y])))
      else ∃ m', m' < m ∧ W (k + 1) m' (σ'.set i (some v)) H4)
noncomputable def tLC (wi : TI) (f : St → St) (i : Nat) (tt : TT) (te : TE) : TE := fun σ H Q => wi σ H fun J H1 => ∀ D, H1 D = none → LcP J i tt te Q (f σ) H1 D

theorem pe_lc {X : Cx} {elt iter : Expr} {x : Str} {px : Pos} {ifs : List Expr} {scope : Scope} {pos : Pos} {N : List Str} {cl : List (Str × Addr)} {f : St → St} {i : Nat} {wi : TI} {tt : TT} {te : TE}
    (hc : X.calm = true) (B : BlkOk X N scope cl f i x) (hi : PI X (.Name x px) iter wi)
    (htt : ∀ C s₀ H₀ ex pins, PTs (blk X N scope cl C s₀ H₀ ex pins) ifs tt) (hte : ∀ C s₀ H₀ ex pins, PE (blk X N scope cl C s₀ H₀ ex pins) elt te)
    (hs : autoParam (∀ x, foldedSetIterable iter X.env x = pure x) L2.Internal.auI._auto_1) : PE X (.ListComp elt [⟨.Name x px, iter, ifs, 0⟩] scope pos) (tLC wi f i tt te) := by
  intro pins s σ H Q I h
  rw [eval_ListComp]
  refine wpAny_comprehension_free (use := none) rfl hs B.clos B.kind B.names (thn (hi pins s σ H _ I h) fun xv s1 h1 => thn h1 fun itv s2 h2 => ?_)
  obtain ⟨it, fp, tn, J, H2, rfl, I2, T, st2, f2, q⟩ := h2
  have hD : H2 s2.heap.objs.size = none := I2.fresh
  obtain ⟨W, ⟨m0, w0⟩, turn⟩ := q _ hD
  refine wpAny_newObj_type (wpAny_newFunctionEnv B.cell (by intro y hy; simp at hy) (fun h₁ hns₁ hsb₁ => ?_) B.kind)
  have I3 : Inv X pins σ (upd H2 s2.heap.objs.size (.lst [])) { s2 with heap := s2.heap.push { cls := .type "list", data := .seq ([] : List Value).toArray } } := I2.lnew (its := []) (ys := []) (t' := s2.toks) .nil (Nat.zero_le _)
  have lt2 : ∀ b ∈ fp, b < s2.heap.objs.size := fun b hb => by
    obtain ⟨o, ho, _⟩ := T.obj _ _ st2 b hb
    exact Heap.lt_size ho
  have fp3 : ∀ b ∈ fp, FpOk X pins (upd H2 s2.heap.objs.size (.lst [])) b := fun b hb => by
    refine ⟨?_, (f2 b hb).2⟩
    rw [upd_ne (Nat.ne_of_lt (lt2 b hb))]
    exact (f2 b hb).1
  generalize hs3 : ({ s2 with heap := s2.heap.push { cls := .type "list", data := .seq ([] : List Value).toArray } } : Shared) = s3 at I3 hns₁ hsb₁ ⊢
  have eh : s2.heap.push { cls := .type "list", data := .seq ([] : List Value).toArray } = s3.heap := by rw [← hs3]
  have lt3 : ∀ b ∈ fp, b < s3.heap.objs.size := fun b hb => by
    rw [← eh, Heap.size_push]
    exact Nat.lt_succ_of_lt (lt2 b hb)
  have old : ∀ b o, s3.heap.get? b = some o → h₁.get? b = some o := fun b o e => hsb₁.extBut b o (Nat.ne_of_lt (Heap.lt_size e)) (Heap.get?_push_of_some _ e)
  have I4 := inv_blk (tk := s3.toks + ([] : List (Str × Value)).length) B I3 (ex := fp) (fun b hb => ⟨fp3 b hb, lt3 b hb⟩) old hns₁
  have st4 : tn 0 h₁ := T.keep _ _ _ st2 fun b _ o e => old b o (by rw [← eh]; exact Heap.get?_push_of_some _ e)
  -- the iterators in the block
  have fpB : ∀ {H' : Hp}, (∀ b ∈ fp, H' b = none) → ∀ b ∈ fp, FpOk (blk X N scope cl s3.heap.objs.size s3 (upd H2 s2.heap.objs.size (.lst [])) fp pins) [] H' b := fun {H'} hn b hb => by
    obtain ⟨_, g2, g3, g4, g5, g6⟩ := f2 b hb
    refine ⟨hn b hb, Nat.ne_of_lt (lt3 b hb), fun z => (List.mem_cons.mp (I3.stkSub b z)).elim g2 g3, .inl hb, fun y c e => g5 y c (B.lk y c e), fun p hp => ?_⟩
    rw [List.append_nil] at hp
    exact g6 p hp
  have loop : ∀ s4 : Shared, s4 = { s3 with heap := h₁, toks := s3.toks + ([] : List (Str × Value)).length } →
      codeAny (model X.prog X.w) X.A (.compLoop (.ListComp elt [⟨.Name x px, iter, ifs, 0⟩] scope pos) 0 (.ref it) (.ref s2.heap.objs.size) (compEnvC scope cl s3.heap.objs.size X.env))
        (compPost (model X.prog X.w) X.A X.xe none (EP X pins σ Q) (.ref s2.heap.objs.size) s3.heap.objs.size) s4 := by
    rintro s4 rfl
    refine codeAny_compLoop_tests (I := fun n s' => ∃ k σ' H', Inv (blk X N scope cl s3.heap.objs.size s3 (upd H2 s2.heap.objs.size (.lst [])) fp pins) [] σ' H' s' ∧ tn k s'.heap ∧ (∀ b ∈ fp, H' b = none) ∧ W k n σ' H') ?_ m0
      ⟨0, f σ, _, I4, st4, fun b hb => (fp3 b hb).1, w0⟩
    rintro n s5 ⟨k, σ5, H5, I5, st5, fr5, w5⟩
    rcases turn k n σ5 H5 w5 with ⟨stop, qn⟩ | ⟨go, step⟩
    · refine wpAny_mono (T.done (blk X N scope cl s3.heap.objs.size s3 (upd H2 s2.heap.objs.size (.lst [])) fp pins) rfl rfl rfl hc k [] s5 σ5 H5 _ I5 (fpB fr5) st5 stop) (fun r s6 h6 => ?_) fun _ _ z => z
      obtain ⟨hr, I6⟩ := h6
      subst hr
      obtain ⟨m6, hn6, _⟩ := id I6.loc
      refine ⟨m6, hn6, fun h' sb => ?_⟩
      have nC : ∀ b o, s3.heap.get? b = some o → b ≠ s3.heap.objs.size := fun b o e => Nat.ne_of_lt (Heap.lt_size e)
      have u6 : Un (frs X.stack) fp (upd H2 s2.heap.objs.size (.lst [])) H5 s3.heap s6.heap := I6.base
      have u7 : Un (frs X.stack) fp (upd H2 s2.heap.objs.size (.lst [])) H5 s3.heap h' :=
        ⟨fun b o e z1 z2 z3 => (sb.2 b (nC b o e)).trans (u6.keep b o e z1 z2 z3), fun b o e z1 z2 z3 => by
          obtain ⟨sl, e1⟩ := u6.slot b o e z1 z2 z3
          exact ⟨sl, (sb.2 b (nC b o e)).trans e1⟩, u6.free, fun b o e z => by
          obtain ⟨o', e1⟩ := u6.there b o e z
          exact ⟨o', (sb.2 b (nC b o e)).trans e1⟩, u6.tups, u6.frzs, u6.tbls⟩
      have hok7 : HOk X.prog X.w H5 h' := fun b o e => (I6.hok b o e).stay (fun c w' hcc e1 => (sb.2 c (fun z => by
          have fr : H5 s3.heap.objs.size = none := I6.free
          rcases hcc with y | y
          · rw [← y, z, fr] at e; cases e
          · rw [z, fr] at y; cases y)).trans e1) (fun _ z => z) fun _ _ z => z
      have I7 : Inv X pins σ H5 { s6 with heap := h' } := I3.call' (s' := { s6 with heap := h' }) (ch := fp) I6.os u7 hok7 I6.bare fun b hb => by
        obtain ⟨_, g2, g3, g4, g5, g6⟩ := f2 b hb
        exact ⟨g4, g2, g5, g6⟩
      exact ⟨.ref s2.heap.objs.size, H5, I7, rfl, qn⟩
    · refine wpAny_mono (T.item (blk X N scope cl s3.heap.objs.size s3 (upd H2 s2.heap.objs.size (.lst [])) fp pins) rfl rfl rfl hc k [] s5 σ5 H5 _ I5 (fpB fr5) st5 go) (fun r s6 h6 => ?_) fun _ _ z => z
      obtain ⟨u, hr, h6⟩ := h6
      subst hr
      show wpAny _ _ (pure () >>= fun _ => assign (.Name x px) (compEnvC scope cl s3.heap.objs.size X.env) u) _ _ s6
      refine wpAny_bind (wpAny_mono (show wpAny _ _ (pure ()) _ _ s6 from h6) (fun _ s7 h7 => ?_) fun _ _ z => z)
      obtain ⟨v, H7, I7, r7, y7, st7, fr7⟩ := h7
      have I7' := I7.pinned (fpB fr7) (T.obj _ _ st7)
      refine wpAny_assign_Name (store_ok (X := blk X N scope cl s3.heap.objs.size s3 (upd H2 s2.heap.objs.size (.lst [])) fp pins) I7' B.nd B.ix (.inl (lookup_relabel_local B.loc)) r7 (fun s8 I8 => ?_) (.inr (lookup_relabel_local B.loc)))
      have back : ∀ {σ9 : St} {H9 : Hp} {s9 : Shared}, Inv (blk X N scope cl s3.heap.objs.size s3 (upd H2 s2.heap.objs.size (.lst [])) fp pins) ([] ++ pinsAt fp s7.heap) σ9 H9 s9 → (∃ m', m' < n ∧ W (k + 1) m' σ9 H9) →
          ∃ m', m' < n ∧ ∃ k σ' H', Inv (blk X N scope cl s3.heap.objs.size s3 (upd H2 s2.heap.objs.size (.lst [])) fp pins) [] σ' H' s9 ∧ tn k s9.heap ∧ (∀ b ∈ fp, H' b = none) ∧ W k m' σ' H' := fun {σ9 H9 s9} I9 q9 => by
        obtain ⟨m', hm, w9⟩ := q9
        refine ⟨m', hm, k + 1, σ9, H9, I9.unpinned, T.keep _ _ _ st7 fun b hb o e => (I9.pin (b, o) (List.mem_append_right _ (List.mem_append_right _ (mem_pinsAt hb e)))).1, fun b hb => ?_, w9⟩
        obtain ⟨o, e, d⟩ := T.obj _ _ st7 b hb
        exact (I9.pin (b, o) (List.mem_append_right _ (List.mem_append_right _ (mem_pinsAt hb e)))).2.1
      refine wpAny_mono (htt _ _ _ _ _ _ s8 _ H7 _ I8 (step v H7 y7)) (fun ok s9 h9 => ?_) fun _ _ z => False.elim z
      obtain ⟨H9, I9, q9⟩ := h9
      cases ok with
      | false =>
        rw [if_neg Bool.false_ne_true]
        rw [if_neg Bool.false_ne_true] at q9
        exact back I9 q9
      | true =>
        rw [if_pos rfl]
        rw [if_pos rfl] at q9
        refine wpAny_mono (hte _ _ _ _ _ _ s9 _ H9 _ I9 q9) (fun y s10 h10 => ?_) fun _ _ z => False.elim z
        obtain ⟨v10, H10, I10, r10, xs, hx10, hz, q10⟩ := h10
        refine wpAny_mono (mt_append (X := blk X N scope cl s3.heap.objs.size s3 (upd H2 s2.heap.objs.size (.lst [])) fp pins) _ s10 _ H10 (.ref s2.heap.objs.size) [v10] _ [y] (fun _ H11 => H11 = upd H10 s2.heap.objs.size (.lst (xs ++ [v10]))) I10 rfl (.cons r10 .nil) ⟨_, xs, v10, rfl, rfl, hx10, hz, rfl⟩) (fun _ s11 h11 => ?_) fun _ _ z => False.elim z
        obtain ⟨_, H11, I11, _, e11⟩ := h11
        subst e11
        exact back I11 q10
  exact codeAny_compStart_list (loop _ rfl) (T.self _ 0 _ _ _ st4 (loop _ rfl))

section
variable {X : Cx}
theorem bools_of {bs : List Bool} : ∀ {us : List Value}, Vals (bs.map V.bl) us → us = bs.map Value.bool := by
  induction bs with
  | nil => intro us r; rw [List.map_nil] at r; cases r; rfl
  | cons n ns ih =>
    intro us r
    rw [List.map_cons] at r
    cases r with
    | cons r1 r2 =>
      cases (show _ = Value.bool n from r1)
      rw [ih r2]
      rfl
theorem range_all' (bs : List Bool) : ((List.range bs.length).all fun i => (bs[i]?).getD true) = bs.all id := by
  induction bs with
  | nil => rfl
  | cons b r ih =>
    rw [List.length_cons, List.range_succ_eq_map, List.all_cons, List.all_map, List.all_cons, ← ih]
    rfl
theorem kept_iter' {h h' : Heap} {o : Obj} (hk : ∀ b x, b ∉ [h.objs.size] → (h.push o).get? b = some x → h'.get? b = some x) : ∀ b x, h.get? b = some x → h'.get? b = some x :=
  fun b x e => hk b x (fun hm => by rw [List.mem_singleton.mp hm] at e; exact Nat.lt_irrefl _ (Heap.lt_size e)) (Heap.get?_push_of_some _ e)
theorem call_all (hc : X.calm = true) : CallR X (.builtin "all") (fun xs H Q => ∃ (a : Addr) (bs : List Bool), xs = [.ref a] ∧ SqL X.K H a (bs.map V.bl) ∧ Q (.bl (bs.all id)) H) := by
  intro pins s σ H xs us Q I r h
  obtain ⟨a, bs, rfl, ha, q⟩ := h
  obtain ⟨u, rfl, ru⟩ := vals1 r
  cases ru
  obtain ⟨its, rv, pl, hz⟩ := I.list ha
  have ei := bools_of rv
  subst ei
  have hl : s.heap.IsList a (bs.map Value.bool).toArray := pl.isList
  have hlt : a < s.heap.objs.size := by obtain ⟨_, e, _⟩ := hl; exact Heap.lt_size e
  refine call_all_walk (wpAny_pyIter_list hl ?_)
  refine ⟨s.heap.objs.size, [s.heap.objs.size, a], [s.heap.objs.size], (bs.map Value.bool).toArray.size, _, _, fun i => (bs[i]?).getD true, rfl, Walks.list (A := X.A.in1) (I.ok.hd hc) _ a (Nat.ne_of_lt hlt) (bs.map Value.bool).toArray,
    ⟨⟨_, Heap.get?_push_size _ rfl, rfl, rfl⟩, hl.push _⟩, fun i v s' Q' E' hP hQ => ?_, fun h' tk hk => ?_⟩
  · have hv : (bs.map Value.bool)[i]? = some v := by simpa using hP
    rw [List.getElem?_map] at hv
    cases e : bs[i]? with
    | none => rw [e] at hv; cases hv
    | some b =>
      rw [e] at hv
      have e2 : v = Value.bool b := (Option.some.inj hv).symm
      subst e2
      simp only [e, Option.getD_some] at hQ
      exact wpAny_truthy_bool hQ
  · have e : ((List.range (bs.map Value.bool).toArray.size).all fun i => (bs[i]?).getD true) = bs.all id := by
      rw [List.size_toArray, List.length_map]; exact range_all' bs
    rw [e]
    exact ⟨.bl (bs.all id), H, I.kept (kept_iter' hk), rfl, q⟩

noncomputable def rSlS : V → Option Int → Option Int → Hp → VK → Prop := fun x lo hi H Q => ∃ z, x = .str z ∧ z.length ≤ sizeLine ∧ Q (.str (Txt.slice z lo hi)) H
theorem sl_str : SlR X rSlS := by
  intro pins s σ H x v vl vu lo hi sl Q I rx hs pl pu h
  obtain ⟨z, rfl, hz, q⟩ := h
  obtain ⟨t, rfl⟩ := rx
  refine ⟨"str", _, F.slot_str_getitem.lookup, typeIs_str _ _ _, ?_⟩
  have fin : ∀ t' k, EP X pins σ Q (.str (Txt.slice z lo hi) t') { s with toks := k } := fun t' k => ⟨.str _, H, I.tok k, ⟨t', rfl⟩, q⟩
  cases pl with
  | none =>
    cases pu with
    | none => exact wpAny_getItem_str_slice (l := none) (u := none) (st := none) hs rfl (post_val_or_str ⟨Nat.le_trans (Txt.slice_le z _ _) hz, fun t' k => fin t' k⟩)
    | int j u => exact wpAny_getItem_str_slice (l := none) (u := some (j, u)) (st := none) hs rfl (post_val_or_str ⟨Nat.le_trans (Txt.slice_le z _ _) hz, fun t' k => fin t' k⟩)
  | int i u' =>
    cases pu with
    | none => exact wpAny_getItem_str_slice (l := some (i, u')) (u := none) (st := none) hs rfl (post_val_or_str ⟨Nat.le_trans (Txt.slice_le z _ _) hz, fun t' k => fin t' k⟩)
    | int j u => exact wpAny_getItem_str_slice (l := some (i, u')) (u := some (j, u)) (st := none) hs rfl (post_val_or_str ⟨Nat.le_trans (Txt.slice_le z _ _) hz, fun t' k => fin t' k⟩)

theorem call_isi : CallR X (.builtin "isinstance") (fun xs H Q => ∃ x v c t b, xs = [x, v] ∧ (∀ u, RelV v u → u = c) ∧ TyOf X.K H x t ∧ PySem.W.kitOne X.K t c = some b ∧ Q (.bl b) H) := by
  intro pins s σ H xs us Q I r h
  obtain ⟨x, v, c, t, b, rfl, hc, ht, hk, q⟩ := h
  obtain ⟨u, u', rfl, ru, ru'⟩ := vals2 r
  cases hc u' ru'
  exact isinst_ok I ru ht hk fun tk => ⟨.bl b, H, I.tok tk, rfl, q⟩
end
end L2.Internal
namespace L2.Internal
open PySem PySem.Spec PyProof.Rows
section
variable {X : Cx}
noncomputable def eqVs : List V → List V → Bool
  | [], [] => true
  | x :: xs, y :: ys => eqV x y && eqVs xs ys
  | _, _ => false
noncomputable def rEqL (K : PySem.W.Frag) (neg : Bool) : R2 := fun x y H Q => ∃ a b xs ys, x = .ref a ∧ y = .ref b ∧ SqL K H a xs ∧ SqL K H b ys ∧ xs.all flatV = true ∧ ys.all flatV = true ∧ Q (.bl (if neg then !eqVs xs ys else eqVs xs ys)) H
open Builtin Builtin.Str in
noncomputable def rSplit : V → List V → Hp → VK → Prop := fun x xs H Q => ∃ z y, x = .str z ∧ xs = [.str y] ∧ (y.length == 0) = false ∧ z.length + 2 ≤ sizeLine ∧ ∀ l, H l = none → Q (.ref l) (upd H l (.lst ((Txt.split z y).map V.str)))
noncomputable def PE1 (X : Cx) (e : Expr) (t : TE) : Prop :=
  ∀ (pins : List (Addr × Obj)) (s : Shared) (σ : St) (H : Hp) (Q : VK), Inv X pins σ H s → 1 ≤ s.toks → t σ H Q → wpAny (model X.prog X.w) X.A (eval e X.env) (fun u s' => 1 ≤ s'.toks ∧ EP X pins σ Q u s') X.xe s
theorem PE.one {e : Expr} {t : TE} (h : PE X e t) : PE1 X e t := fun pins s σ H Q I ht hw => wpAny_mono (wpAny_toks_of ht (h pins s σ H Q I hw)) (fun _ _ z => z) fun _ _ z => z.2
noncomputable def tRepl (to : TE) (y z : Str) : TE := fun σ H Q => to σ H fun v H1 => ∃ x, v = .str x ∧ x.length + (x.length + 1) * z.length ≤ 16777216 ∧ Q (.str (Txt.replace x y z)) H1
noncomputable def PSs1 (X : Cx) (st : List Stmt) (t : TS) : Prop :=
  ∀ (pins : List (Addr × Obj)) (s : Shared) (σ : St) (H : Hp) (D : Ends), Inv X pins σ H s → 1 ≤ s.toks → t D σ H → wpAny (model X.prog X.w) X.A (execs st X.env) (SP X pins D) X.xe s
end
end L2.Internal
namespace L2.Internal
open PySem PySem.Spec PyProof.Rows
section
variable {X : Cx} {st : Stmt} {rest : List Stmt} {t u : TS}
noncomputable def tMid (N : St → Hp → Prop) (t u : TS) : TS := fun D σ H => t { D with nx := N } σ H ∧ ∀ σ' H', N σ' H' → u D σ' H'
end
end L2.Internal
namespace L2.Internal
open PySem PySem.Spec PyProof.Rows
section
variable {P : Program} {w : World} {H H' : Hp} {h h' : Heap} {a : Addr} {o : HO}
theorem ObjOk.there (x : ObjOk P w H h a o) : ∃ ob, h.get? a = some ob := by
  cases o with
  | lst xs => obtain ⟨_, _, _, _, e⟩ := x; exact ⟨_, e⟩
  | tup xs => obtain ⟨_, _, _, ⟨ob, e, _⟩⟩ := x; exact ⟨ob, e⟩
  | dK kvs => obtain ⟨_, _, _, _, ob, _, _, e, _⟩ := x; exact ⟨ob, e⟩
  | dT kvs => obtain ⟨_, _, _, _, ob, _, _, e, _⟩ := x; exact ⟨ob, e⟩
  | set S n => obtain ⟨ob, _, _, _, e, _⟩ := x; exact ⟨ob, e⟩
  | ins C dx fs => obtain ⟨_, _, _, e, _⟩ := x; exact ⟨_, e⟩
  | own y => exact x
  | xd fs => obtain ⟨_, ⟨ob, _, _, e, _⟩, _⟩ := x; exact ⟨ob, e⟩
  | rng lo hi => obtain ⟨_, _, _, e⟩ := x; exact ⟨_, e⟩
  | frz ob u => obtain ⟨e, _⟩ := x; exact ⟨_, e⟩
  | tbl ps => exact ⟨_, x⟩
  | met f y => exact ⟨_, x⟩
  | ext φ => exact x.2.1
end

structure Fl (P : Program) (w : World) (outer : List Env) (H : Hp) (s : Shared) (B : Heap) (H' : Hp) (s' : Shared) : Prop where
  os : s'.os = s.os
  bare : AllBare s'.gens
  un : Un (frs outer) [] H H' s.heap s'.heap
  hok : HOk P w H' s'.heap
  stay : B.StaysIn s'.heap
  trk : ∀ b u, H' b = some u → ∃ o, B.get? b = some o
  old : ∀ b o, s.heap.get? b = some o → b ∉ frs outer → ∃ o', B.get? b = some o'
noncomputable def CXE (P : Program) (w : World) : CXT := fun outer H s E e s' => ∃ (ea : Addr) (cls a0 : Value) (B : Heap) (H' : Hp), e = .ref ea ∧ Fl P w outer H s B H' s' ∧ Heap.FlyingW B outer ea cls a0 s'.heap ∧ E cls none H'

section
variable {X : Cx} {pins : List (Addr × Obj)} {σ : St} {H H' : Hp} {s s' : Shared} {B h : Heap}
theorem Inv.track {ea : Addr} {o : HO} (I : Inv X pins σ H s) (hn : H ea = none) (h0 : X.s₀.heap.get? ea = none) (hL : ea ≠ X.env.locals) (hC : ∀ x c, X.env.cells.lookup x = some c → c ≠ ea) (hP : ∀ p ∈ X.pn ++ pins, p.1 ≠ ea)
    (new : ObjOk X.prog X.w (upd H ea o) s.heap ea o) : Inv X pins σ (upd H ea o) s := by
  have ne : ∀ b u, H b = some u → b ≠ ea := fun b u e z => by rw [z, hn] at e; cases e
  refine ⟨I.ok, I.os, I.bare, ⟨I.base.keep, I.base.slot, fun b ob e n hx => ?_, I.base.there, fun b xs e => ?_, fun b ob u e => ?_, fun b ps e => ?_⟩, I.loc, I.cell, ?_, fun x c e => ?_, fun p hp => ?_, fun b u e => ?_, I.len⟩
  · rw [upd_ne (fun z => by rw [z, h0] at e; cases e)]
    exact I.base.free b ob e n hx
  · have e1 := I.base.tups b xs e
    rw [upd_ne (ne b _ e1)]
    exact e1
  · have e1 := I.base.frzs b ob u e
    rw [upd_ne (ne b _ e1)]
    exact e1
  · obtain ⟨more, e1⟩ := I.base.tbls b ps e
    exact ⟨more, by rw [upd_ne (ne b _ e1)]; exact e1⟩
  · rw [upd_ne (Ne.symm hL)]
    exact I.free
  · rw [upd_ne (hC x c e)]
    exact I.freeC x c e
  · obtain ⟨e, n, n2, nf, d⟩ := I.pin p hp
    exact ⟨e, by rw [upd_ne (hP p hp)]; exact n, n2, nf, d⟩
  · by_cases hb : b = ea
    · subst hb
      rw [upd_same] at e
      cases e
      exact new
    · rw [upd_ne hb] at e
      exact (I.hok b u e).stay (fun _ _ _ q => q) (fun c z => by rw [upd_ne (ne c _ z)]; exact z) fun c xs z => by rw [upd_ne (ne c _ z)]; exact z
end

section
variable {P : Program} {w : World} {K : PySem.W.Frag} {mg : Str → Option Value} {base : Heap} {N : List Str} {qual : Str} {scope : Scope} {f : Addr} {cd : Value} {A : Around} {outer : List Env} {s₀ : Shared} {H₀ : Hp} {E : XK}
end

noncomputable def VEbm : List Value := [.type "ValueError", .type "Exception", .type "BaseException", .type "object"]
noncomputable abbrev ExcV (K : PySem.W.Frag) (C : Addr) : Prop := PySem.W.excIn K C VEbm "ValueError.__new__" = true
section
variable {X : Cx} {C : Addr} {E : XK} {x : Str} {np cpos pos : Pos} {e : Expr} {es : List Expr} {t : TA}
noncomputable def Leaves (X : Cx) (E : XK) : Prop := ∀ (pins : List (Addr × Obj)) (σ : St) (H : Hp) (s : Shared) (h' : Heap) (ea : Addr) (cls : Value) (vs : List Value), Inv X pins σ H s → Heap.MadeExcOf s.heap h' ea cls vs → E cls none H → X.xe (.ref ea) { s with heap := h' }
noncomputable def tRaise (C : Addr) (E : XK) (t : TA) : TS := fun _ σ H => t σ H fun vs H1 => vs.length ≤ sizeLine ∧ E (.ref C) none H1
end

section
variable {P : Program} {w : World} {K : PySem.W.Frag} {mg : Str → Option Value} {base : Heap}
end

noncomputable def excO (ea : Addr) (cls : Value) : HO := .ext fun h => ∃ o, h.get? ea = some o ∧ o.cls = cls
noncomputable abbrev Cx.hand (X : Cx) (ea : Addr) : Cx := { X with A := X.A.mark (some (.ref ea)), calm := false, xe := fun _ _ => False }
section
variable {X : Cx} {pins : List (Addr × Obj)} {σ : St} {H : Hp} {s : Shared}
end
section
variable {X : Cx} {CX : CXT} {k : Nat} {f Y : Addr} {fd : FuncData} {ps : List Str} {sp : Sp} {dvs : List V} {ds : List Value} {E : XK} {x y n : Str} {p pos pos' py hpos tpos : Pos} {e : Expr} {es : List Expr} {t : TA} {b₀ : Stmt} {body : List Stmt} {tb : TS} {i : Nat}
noncomputable def tTryAs (K : PySem.W.Frag) (Y : Addr) (sp : Sp) (dvs : List V) (i : Nat) (t : TA) (tb : TS) : TS := fun D σ H => t σ H fun vs H1 => sp (vs ++ dvs) H1 (fun _ H2 => D.nx σ H2)
  (fun cls _ H2 => PySem.W.exmOne K cls (.ref Y) = some true ∧ ∀ ea, H2 ea = none → tb { nx := fun σ' H' => D.nx (σ'.set i none) H', rt := D.rt, bk := fun σ' H' => D.bk (σ'.set i none) H', ct := fun σ' H' => D.ct (σ'.set i none) H' } (σ.set i (some (.ref ea))) (upd H2 ea (excO ea cls)))
end

section
variable {X : Cx} {e : Expr} {es : List Expr} {te : TE} {pos : Pos}
noncomputable def tFV (te : TE) : TE := fun σ H Q => te σ H fun v H1 => (∃ x, v = .str x ∧ x.length ≤ sizeLine ∧ Q (.str x) H1) ∨ ∃ i : Int, v = .int i ∧ i.natAbs.log2 < 1920 ∧ Q (.str (toString i)) H1
noncomputable def tFVr (te : TE) : TE := fun σ H Q => te σ H fun v H1 => ∃ x, v = .str x ∧ (reprText x).length ≤ sizeLine ∧ Q (.str (reprText x)) H1
noncomputable def PJ (X : Cx) (es : List Expr) (t : Str → TE) : Prop :=
  ∀ (pins : List (Addr × Obj)) (s : Shared) (σ : St) (H : Hp) (Q : VK) (acc : Str), Inv X pins σ H s → t acc σ H Q → wpAny (model X.prog X.w) X.A (joinParts acc (evalEach es X.env)) (EP X pins σ Q) X.xe s
noncomputable def tJ0 : Str → TE := fun acc _ H Q => acc.length ≤ sizeLine ∧ Q (.str acc) H
noncomputable def tJ (te : TE) (t : Str → TE) : Str → TE := fun acc σ H Q => te σ H fun v H1 => ∃ y, v = .str y ∧ (acc ++ y).length ≤ sizeLine ∧ t (acc ++ y) σ H1 Q
end
end L2.Internal
namespace L2.Internal
open PySem PySem.Spec PyProof.Rows
section
variable {X : Cx}
end
inductive Dt where
  | flat (v : V)
  | tup (l : List Dt)
  | lst (l : List Dt)
mutual
inductive At (K : PySem.W.Frag) (H : Hp) : V → Dt → Prop where
  | flat {v : V} (h : flatV v = true) : At K H v (.flat v)
  | tup {a : Addr} {xs : List V} {ds : List Dt} (h : SqT K H a xs) (hs : Ats K H xs ds) : At K H (.ref a) (.tup ds)
  | lst {a : Addr} {xs : List V} {ds : List Dt} (h : SqL K H a xs) (hs : Ats K H xs ds) : At K H (.ref a) (.lst ds)
inductive Ats (K : PySem.W.Frag) (H : Hp) : List V → List Dt → Prop where
  | nil : Ats K H [] []
  | cons {x : V} {d : Dt} {xs : List V} {ds : List Dt} (h : At K H x d) (hs : Ats K H xs ds) : Ats K H (x :: xs) (d :: ds)
end
mutual
noncomputable def eqD : Dt → Dt → Bool
  | .flat a, .flat b => eqV a b
  | .tup l, .tup m => eqDs l m
  | .lst l, .lst m => eqDs l m
  | _, _ => false
noncomputable def eqDs : List Dt → List Dt → Bool
  | [], [] => true
  | x :: xs, y :: ys => eqD x y && eqDs xs ys
  | _, _ => false
end
mutual
noncomputable def cmpD : Dt → Dt → Bool
  | .flat _, .flat _ => true
  | .tup l, .tup m => cmpDs l m
  | .lst l, .lst m => if l.length = m.length then cmpDs l m else true
  | _, _ => false
noncomputable def cmpDs : List Dt → List Dt → Bool
  | x :: xs, y :: ys => cmpD x y && cmpDs xs ys
  | _, _ => true
end
mutual
noncomputable def depD : Dt → Nat
  | .flat _ => 0
  | .tup l => depDs l + 1
  | .lst l => depDs l + 1
noncomputable def depDs : List Dt → Nat
  | [] => 0
  | x :: xs => max (depD x) (depDs xs)
end
theorem Ats.length {K : PySem.W.Frag} {H : Hp} : ∀ {xs : List V} {ds : List Dt}, Ats K H xs ds → xs.length = ds.length
  | _, _, .nil => rfl
  | _, _, .cons _ t => by rw [List.length_cons, List.length_cons, Ats.length t]
theorem Ats.get {K : PySem.W.Frag} {H : Hp} : ∀ {xs : List V} {ds : List Dt} {j : Nat} {x : V}, Ats K H xs ds → xs[j]? = some x → ∃ d, ds[j]? = some d ∧ At K H x d
  | _, _, 0, _, .cons h _, e => ⟨_, rfl, by cases e; exact h⟩
  | _, _, j + 1, _, .cons _ t, e => Ats.get (j := j) t e
  | _, _, _, _, .nil, e => by simp at e
theorem eqDs_len : ∀ (l m : List Dt), l.length ≠ m.length → eqDs l m = false
  | [], [], h => absurd rfl h
  | x :: xs, y :: ys, h => by
    rw [eqDs, eqDs_len xs ys (fun e => h (by rw [List.length_cons, List.length_cons, e])), Bool.and_false]
  | [], y :: ys, _ => by rw [eqDs]; all_goals simp
  | x :: xs, [], _ => by rw [eqDs]; all_goals simp
noncomputable def eqDat (l m : List Dt) (j : Nat) : Bool := match l[j]?, m[j]? with
  | some a, some b => eqD a b
  | _, _ => false
theorem eqDs_range : ∀ (l m : List Dt), l.length = m.length → ((List.range l.length).all fun j => eqDat l m j) = eqDs l m
  | [], [], _ => by rw [eqDs]; rfl
  | x :: xs, y :: ys, h => by
    have ih := eqDs_range xs ys (by simpa using h)
    rw [List.length_cons, List.range_succ_eq_map, List.all_cons, List.all_map, eqDs, ← ih]
    rfl
  | [], _ :: _, h => by simp at h
  | _ :: _, [], h => by simp at h
theorem depDs_get : ∀ {l : List Dt} {j : Nat} {a : Dt}, l[j]? = some a → depD a ≤ depDs l
  | x :: xs, 0, a, e => by cases e; rw [depDs]; exact Nat.le_max_left ..
  | x :: xs, j + 1, a, e => by rw [depDs]; exact Nat.le_trans (depDs_get (j := j) e) (Nat.le_max_right ..)
  | [], _, _, e => by simp at e
theorem flat_same {v : V} (h : flatV v = true) : eqV v v = true := by
  cases v with
  | non => rfl
  | bl b => show (b == b) = true; simp
  | int i => show (i == i) = true; simp
  | str x => show (x == x) = true; simp
  | _ => exact absurd h Bool.false_ne_true
section
variable {X : Cx} {pins : List (Addr × Obj)} {σ : St} {H : Hp} {s : Shared}
noncomputable def Els (K : PySem.W.Frag) (H : Hp) (A : Around) (s : Shared) (ds es : List Dt) : Prop :=
  ∀ (j : Nat) (d1 d2 : Dt) (x y : V) (u v : Value), ds[j]? = some d1 → es[j]? = some d2 → RelV x u → RelV y v → At K H x d1 → At K H y d2 → SeqAt.EqAt A s u v (eqD d1 d2)
theorem els {A : Around} {xs ys : List V} {its its2 : List Value} {ds es : List Dt} (r : Vals xs its) (r2 : Vals ys its2) (hs : Ats X.K H xs ds) (hs' : Ats X.K H ys es) (EL : Els X.K H A s ds es) :
    ∀ j (h1 : j < its.toArray.size) (h2 : j < its2.toArray.size), SeqAt.EqAt A s its.toArray[j] its2.toArray[j] (eqDat ds es j) := fun j h1 h2 => by
  have l1 := r.length
  have l2 := r2.length
  have h1' : j < xs.length := by simp only [List.size_toArray] at h1; omega
  have h2' : j < ys.length := by simp only [List.size_toArray] at h2; omega
  obtain ⟨w1, e1, q1⟩ := r.get (List.getElem?_eq_getElem h1')
  obtain ⟨w2, e2, q2⟩ := r2.get (List.getElem?_eq_getElem h2')
  obtain ⟨d1, f1, p1⟩ := hs.get (List.getElem?_eq_getElem h1')
  obtain ⟨d2, f2, p2⟩ := hs'.get (List.getElem?_eq_getElem h2')
  have g1 : its.toArray[j] = w1 := by simpa using (List.getElem?_eq_some_iff.mp e1).2
  have g2 : its2.toArray[j] = w2 := by simpa using (List.getElem?_eq_some_iff.mp e2).2
  have ed : eqDat ds es j = eqD d1 d2 := by unfold eqDat; rw [f1, f2]
  rw [g1, g2, ed]
  exact EL j d1 d2 _ _ _ _ f1 f2 q1 q2 p1 p2
theorem tup_ans {ds es : List Dt} {n m : Nat} (h1 : n = ds.length) (h2 : m = es.length) : ((List.range (min n m)).all (eqDat ds es) && n == m) = eqD (.tup ds) (.tup es) := by
  subst h1 h2
  rw [eqD]
  by_cases hl : ds.length = es.length
  · rw [← eqDs_range ds es hl, ← hl, Nat.min_self]
    simp
  · rw [eqDs_len ds es hl, beq_eq_false_iff_ne.mpr hl, Bool.and_false]
theorem rc_tup {A : Around} {a b : Addr} {xs ys : List V} {ds es : List Dt} (I : Inv X pins σ H s) (h : SqT X.K H a xs) (hs : Ats X.K H xs ds) (h' : SqT X.K H b ys) (hs' : Ats X.K H ys es) (hu : A.units < cLine) (EL : Els X.K H A.in1 s ds es) :
    SeqAt.RcAt A s (.ref a) (.ref b) (eqD (.tup ds) (.tup es)) ∧ SeqAt.RcNeAt A s (.ref a) (.ref b) (!eqD (.tup ds) (.tup es)) := by
  obtain ⟨its, r, pl, _⟩ := I.tuple h
  obtain ⟨its2, r2, pl2, _⟩ := I.tuple h'
  have e := els r r2 hs hs' EL
  have l1 : its.toArray.size = ds.length := by rw [List.size_toArray, ← r.length, hs.length]
  have l2 : its2.toArray.size = es.length := by rw [List.size_toArray, ← r2.length, hs'.length]
  have k1 := SeqAt.RcAt.tuples (A := A) (s := s) pl pl2 hu e
  have k2 := SeqAt.RcNeAt.tuples (A := A) (s := s) pl pl2 hu e
  rw [tup_ans l1 l2] at k1 k2
  exact ⟨k1, k2⟩
noncomputable def rEqD (K : PySem.W.Frag) (neg : Bool) : R2 := fun x y H Q => ∃ a b d e, x = .ref a ∧ y = .ref b ∧ At K H x d ∧ At K H y e ∧ cmpD d e = true ∧ depD d ≤ 100 ∧ Q (.bl (if neg then !eqD d e else eqD d e)) H
end
section
variable {X : Cx}
end
end L2.Internal
namespace L2.Internal
open PySem PySem.Spec PyProof.Rows
noncomputable def KDict (P : Program) (w : World) (K : PySem.W.Frag) (a : Addr) (kvs : List (Key × V)) : Prop := (a == sysModules) = false ∧ ∃ vs, KV kvs vs ∧ ∀ h : Heap, K.In h → h.DictOf (mixKind P w) a vs
noncomputable def tKNotIn (a : Addr) (kvs : List (Key × V)) (ty td : TE) : TE := fun σ H Q => ty σ H fun y H1 => td σ H1 fun x H2 => ∃ k, x = .ref a ∧ y = kV k ∧ Q (.bl (!(valV kvs k).isSome)) H2
noncomputable def tKGet (a : Addr) (kvs : List (Key × V)) (td ty : TE) : TE := fun σ H Q => td σ H fun x H1 => ty σ H1 fun y H2 => ∃ k v, x = .ref a ∧ y = kV k ∧ valV kvs k = some v ∧ Q v H2
section
variable {X : Cx} {o i : Expr} {pos : Pos} {td ty : TE} {a : Addr} {kvs : List (Key × V)}
end
end L2.Internal
namespace L2.Internal
open PySem PySem.Spec PyProof.Rows
section
variable {X : Cx}
noncomputable def repS (x : Str) (n : Nat) : Str := ⟨(List.replicate n x.cps).foldl (· ++ ·) #[]⟩
end
section
variable {X : Cx} {k : Nat} {f Y : Addr} {fd : FuncData} {ps : List Str} {sp : Sp} {dvs : List V} {ds : List Value} {x y n : Str} {p pos pos' py hpos tpos pn : Pos} {e : Expr} {es : List Expr} {t : TA} {b₀ : Stmt} {body : List Stmt} {tb : TS} {i : Nat}
noncomputable def tTrySet (K : PySem.W.Frag) (Y : Addr) (sp : Sp) (dvs : List V) (i : Nat) (t : TA) (tb : TS) : TS := fun D σ H => t σ H fun vs H1 => sp (vs ++ dvs) H1 (fun v H2 => D.nx (σ.set i (some v)) H2)
  (fun cls _ H2 => PySem.W.exmOne K cls (.ref Y) = some true ∧ tb D σ H2)
end
end L2.Internal
namespace L2.Internal
end L2.Internal
namespace L2.Internal
open PySem PySem.Spec PyProof.Rows
noncomputable def intsOf : List Expr → Option (List Int)
  | [] => some []
  | .Constant (.int x) _ _ :: r => (intsOf r).map (x :: ·)
  | _ => none
noncomputable def tInts (xs : List Int) : TA := fun _ H Q => Q (xs.map V.int) H
end L2.Internal
namespace L2.Internal
open PySem PySem.Spec PyProof.Rows

section
variable {X : Cx} {pins : List (Addr × Obj)} {σ : St} {H : Hp} {s : Shared} {h' : Heap}
theorem Inv.turnedL {t' : Nat} {ch : List Addr} (I : Inv X pins σ H s) (k : ∀ b o, b ∉ ch → s.heap.get? b = some o → h'.get? b = some o) (hf : ∀ b ∈ ch, FpOk X pins H b) : Inv X pins σ H { s with heap := h', toks := t' } := by
  have nit : ∀ b u, H b = some u → b ∉ ch := fun b u e z => by
    have q := (hf b z).1
    rw [q] at e; cases e
  refine I.step (g' := s.gens) (d' := s.drawn) (ch := ch) (fun b hb => ?_) (fun b o _ _ hc e _ => k b o hc e) (fun b o _ _ hc e _ => ⟨o.slots, k b o hc e⟩) (fun _ _ _ _ n => n)
    (fun b o hc e => ⟨o, k b o hc e⟩) (fun _ _ e => e) (fun _ _ _ e => e) (fun b ps e => ⟨#[], by rw [e]; simp⟩) (fun m hm => ?_) (fun b u e => ?_) I.bare
  · obtain ⟨_, f1, _, f3, f4, f5⟩ := hf b hb
    exact ⟨f3, f1, f4, f5⟩
  · obtain ⟨o, es, ep, ho, r⟩ := hm
    exact ⟨o, es, ep, k _ o (fun z => (hf _ z).2.1 rfl) ho, r⟩
  · refine (I.hok b u e).stay (fun c v hc q => k c v ?_ q) (fun _ q => q) fun _ _ q => q
    rcases hc with z | z
    · rw [z]; exact nit b u e
    · exact nit c _ z
theorem Inv.pairNew {T : Addr} {h : Heap} {tk : Nat} {ux uy : Value} {x y : V} (I : Inv X pins σ H s) (hT : s.heap.objs.size ≤ T) (J : Inv X pins σ H { s with heap := h, toks := tk }) (ht : Tup0 h T #[ux, uy]) (rx : RelV x ux) (ry : RelV y uy) :
    H T = none ∧ Inv X pins σ (upd H T (.tup [x, y])) { s with heap := h, toks := tk } := by
  have f := I.fpOk (H' := H) hT (I.hok.fresh hT)
  refine ⟨f.1, J.track f.1 ?_ f.2.1 f.2.2.2.2.1 f.2.2.2.2.2 ⟨by show 2 ≤ sizeLine; decide, [ux, uy], .cons rx (.cons ry .nil), ht⟩⟩
  cases q : X.s₀.heap.get? T with
  | none => rfl
  | some o => exact absurd (Nat.lt_of_lt_of_le (Heap.lt_size q) (Nat.le_trans I.sz hT)) (Nat.lt_irrefl _)
end

noncomputable def Itz (K : PySem.W.Frag) (a b : Addr) : It :=
  ⟨fun i H => ∃ xs ys x y, SqL K H a xs ∧ SqL K H b ys ∧ xs[i]? = some x ∧ ys[i]? = some y,
   fun i H v H' => ∃ T x y, v = .ref T ∧ H T = none ∧ H' = upd H T (.tup [x, y]) ∧ (∀ xs, SqL K H a xs → xs[i]? = some x) ∧ ∀ ys, SqL K H b ys → ys[i]? = some y,
   fun i H => ∃ xs ys, SqL K H a xs ∧ SqL K H b ys ∧ i = min xs.length ys.length⟩
noncomputable def ZSt (z TI TO i1 i2 a b : Addr) (i : Nat) (h : Heap) : Prop := IsZip h z TI TO .none ∧ IsPair h TI (.ref i1) (.ref i2) ∧ (∃ u v, IsPair h TO u v) ∧ h.IsListIter i1 a i ∧ h.IsListIter i2 b i
theorem turn_zip {P : Program} {w : World} {K : PySem.W.Frag} {es : List Expr} {kk : Nat} {tp : Pos} {a b z TI TO i1 i2 : Addr} (D : ZipApart z TI TO i1 i2 a b) : Turn P w K (.Tuple es kk tp) (Itz K a b) [z, TI, TO, i1, i2] z (ZSt z TI TO i1 i2 a b) where
  mem := by simp
  obj := fun i h st c hc => by
    obtain ⟨g1, g2, ⟨u, v, g3⟩, ⟨o4, g4, _, d4⟩, ⟨o5, g5, _, d5⟩⟩ := st
    simp only [List.mem_cons, List.not_mem_nil, or_false] at hc
    rcases hc with e | e | e | e | e <;> subst e
    · exact ⟨_, g1, fun v q => nomatch q⟩
    · exact ⟨_, g2, fun v q => nomatch q⟩
    · exact ⟨_, g3, fun v q => nomatch q⟩
    · exact ⟨_, g4, fun v q => by rw [d4] at q; cases q⟩
    · exact ⟨_, g5, fun v q => by rw [d5] at q; cases q⟩
  keep := fun i h h' st k => by
    obtain ⟨g1, g2, ⟨u, v, g3⟩, g4, g5⟩ := st
    exact ⟨k z (by simp) _ g1, k TI (by simp) _ g2, ⟨u, v, k TO (by simp) _ g3⟩, g4.at fun o e => k i1 (by simp) o e, g5.at fun o e => k i2 (by simp) o e⟩
  item := by
    intro X hP hw hK hc i pins s σ H E I hf st hg
    subst hP hw hK
    obtain ⟨xs, ys, x, y, qx, qy, ex, ey⟩ := hg
    obtain ⟨i1s, r1, p1, z1⟩ := I.list qx
    obtain ⟨i2s, r2, p2, z2⟩ := I.list qy
    obtain ⟨g1, g2, g3, g4, g5⟩ := st
    obtain ⟨u3, v3, g3'⟩ := g3
    obtain ⟨ux, hux, rr1⟩ := r1.get ex
    obtain ⟨uy, huy, rr2⟩ := r2.get ey
    have hw : ∀ c ∈ [z, TO, i1, i2], FpOk X pins H c := fun c hc => hf c (by simp only [List.mem_cons, List.not_mem_nil, or_false] at hc ⊢; rcases hc with h | h | h | h <;> simp [h])
    refine wpAny_pyNext_zip_item D g1 g2 g3' g4 g5 p1.isList p2.isList (x := ux) (y := uy) (by simpa using hux) (by simpa using huy) fun h1 a1 a2 a3 a4 a5 a6 hk => ?_
    have kk1 : ∀ c o, c ∉ [z, TO, i1, i2] → s.heap.get? c = some o → h1.get? c = some o := fun c o hc e => hk c o (fun q => hc (by simp [q])) (fun q => hc (by simp [q])) (fun q => hc (by simp [q])) (fun q => hc (by simp [q])) e
    have J1 : Inv X pins σ H { s with heap := h1, toks := s.toks } := I.turnedL kk1 hw
    refine ⟨.ref s.heap.objs.size, rfl, wpAny_letOwnedTupleGo_zip a1 fun h2 a1' sb => ?_⟩
    have J2 : Inv X pins σ H { s with heap := h2, toks := s.toks } := Inv.turnedL (s := { s with heap := h1, toks := s.toks }) (h' := h2) (t' := s.toks) (ch := [z]) J1 (fun c o hc e => sb.extBut _ _ (fun q => hc (by simp [q])) e) fun c hc => hf c (by simp only [List.mem_cons, List.not_mem_nil, or_false] at hc ⊢; simp [hc])
    have zlt : z < s.heap.objs.size := Heap.lt_size g1
    have ht2 : Tup0 h2 s.heap.objs.size #[ux, uy] := ⟨_, sb.extBut _ _ (Nat.ne_of_gt zlt) a5, rfl, _, rfl, rfl⟩
    obtain ⟨fT, J3⟩ := I.pairNew (Nat.le_refl _) J2 ht2 rr1 rr2
    refine ⟨.ref s.heap.objs.size, _, J3, rfl, ⟨_, x, y, rfl, fT, rfl, fun l hl => by rw [I.list_inj hl qx]; exact ex, fun l hl => by rw [I.list_inj hl qy]; exact ey⟩,
      ⟨a1', sb.extBut _ _ D.TIz (hk _ _ D.TIz D.TITO D.TIi1 D.TIi2 g2), ⟨_, _, sb.extBut _ _ D.TOz a2⟩, a3.extBut sb.extBut D.i1z, a4.extBut sb.extBut D.i2z⟩, fun c hc => ?_⟩
    rw [upd_ne (fun q => ?_)]
    · exact (hf c hc).1
    · have lt : c < s.heap.objs.size := by
        obtain ⟨o4, e4, _⟩ := g4
        obtain ⟨o5, e5, _⟩ := g5
        simp only [List.mem_cons, List.not_mem_nil, or_false] at hc
        rcases hc with e | e | e | e | e <;> subst e
        · exact Heap.lt_size g1
        · exact Heap.lt_size g2
        · exact Heap.lt_size g3'
        · exact Heap.lt_size e4
        · exact Heap.lt_size e5
      exact absurd lt (by rw [q]; exact Nat.lt_irrefl _)
  done := by
    intro X hP hw hK hc i pins s σ H E I hf st hg
    subst hP hw hK
    obtain ⟨xs, ys, qx, qy, ei⟩ := hg
    obtain ⟨i1s, r1, p1, z1⟩ := I.list qx
    obtain ⟨i2s, r2, p2, z2⟩ := I.list qy
    obtain ⟨g1, g2, g3, g4, g5⟩ := st
    have W := WalksT.zip2 (prog := X.prog) (w := X.w) (I.ok.hd hc) z TI TO i1 i2 a b D i1s.toArray i2s.toArray
    have l1 := r1.length
    have l2 := r2.length
    have e : i = min i1s.toArray.size i2s.toArray.size := by simp only [List.size_toArray]; omega
    subst e
    exact W.done s _ _ ⟨g1, g2, g3, g4, g5, p1.isList, p2.isList⟩ fun h1 tk hk => ⟨rfl, I.turnedL hk fun c hc => hf c (by simp only [List.mem_cons, List.not_mem_nil, or_false] at hc ⊢; rcases hc with h | h | h | h <;> simp [h])⟩
  self := fun _ _ _ _ _ st h => wpAny_pyIter_zip st.1 h
theorem bt_zip : bootBuiltins "zip" = some (.type "zip") := by decide +kernel
theorem SqL.old {X : Cx} {pins : List (Addr × Obj)} {σ : St} {H : Hp} {s : Shared} {a : Addr} {xs : List V} (I : Inv X pins σ H s) (h : SqL X.K H a xs) : a < s.heap.objs.size := by
  obtain ⟨its, _, p, _⟩ := I.list h
  obtain ⟨o, e, _⟩ := p.isList
  exact Heap.lt_size e
noncomputable def iZip (K : PySem.W.Frag) (ta : TA) : TI := fun σ H R => ta σ H fun vs H1 => ∃ a b, vs = [.ref a, .ref b] ∧ (∃ xs, SqL K H1 a xs) ∧ (∃ ys, SqL K H1 b ys) ∧ R (Itz K a b) H1
section
variable {X : Cx}
theorem pi_zip {es : List Expr} {kk : Nat} {tp : Pos} {a b : Expr} {ta : TA} {p pos : Pos} (hg : Gl X "zip") (hm : X.mg "zip" = none) (ha : PA X [a, b] ta) (hs : autoParam (starEach [a, b] X.env = [(false, eval a X.env), (false, eval b X.env)]) L2.Internal.auR._auto_1) (hs2 : autoParam (starEach [b] X.env = [(false, eval b X.env)]) L2.Internal.auR._auto_1) :
    PI X (.Tuple es kk tp) (.Call (.Name "zip" p) [a, b] [] pos) (iZip X.K ta) := by
  intro pins s σ H R I h
  refine Call_ (ld_blt I hg hm bt_zip (PyProof.Rows.callWith_type1 (thn (ha pos pins s σ H _ I h) fun us s1 ⟨vs, H1, I1, r1, q1⟩ => ?_) (by rw [hs, hs2]) (by rw [hs2]; rfl)))
  obtain ⟨l1, l2, e, ⟨xs, q1⟩, ⟨ys, q2⟩, q⟩ := q1
  subst e
  obtain ⟨u, v, rfl, ru, rv⟩ := vals2 r1
  cases ru
  cases rv
  obtain ⟨i1s, w1, p1, z1⟩ := I1.list q1
  obtain ⟨i2s, w2, p2, z2⟩ := I1.list q2
  have o1 : @LT.lt Nat _ l1 s1.heap.objs.size := SqL.old I1 q1
  have o2 : @LT.lt Nat _ l2 s1.heap.objs.size := SqL.old I1 q2
  refine call_zip_2 p1.isList p2.isList fun h1 hz hTI hTO hi1 hi2 hsz hk => wpAny_pyIter_zip hz ?_
  have D : ZipApart (s1.heap.objs.size + 4) (s1.heap.objs.size + 2) (s1.heap.objs.size + 3) s1.heap.objs.size (s1.heap.objs.size + 1) l1 l2 := by constructor <;> exact fun (h : @Eq Nat _ _) => by omega
  refine ⟨_, _, _, _, H1, rfl, I1.kept (t' := s1.toks) hk, turn_zip D, ⟨hz, hTI, ⟨_, _, hTO⟩, hi1, hi2⟩, fun c hc => ?_, q⟩
  have ge : s1.heap.objs.size ≤ c := by
    simp only [List.mem_cons, List.not_mem_nil, or_false] at hc
    rcases hc with h | h | h | h | h <;> rw [h] <;> first | exact Nat.le_refl _ | exact Nat.le_add_right _ _
  exact I1.fpOk ge (I1.hok.fresh ge)
end

noncomputable def Ite (K : PySem.W.Frag) (a : Addr) : It :=
  ⟨fun i H => ∃ xs x, SqL K H a xs ∧ xs[i]? = some x,
   fun i H v H' => ∃ T x, v = .ref T ∧ H T = none ∧ H' = upd H T (.tup [.int (i : Int), x]) ∧ ∀ xs, SqL K H a xs → xs[i]? = some x,
   fun i H => ∃ xs, SqL K H a xs ∧ i = xs.length⟩
noncomputable def ESt (e it a : Addr) (i : Nat) (h : Heap) : Prop := (∃ old, IsEnum h e it i old) ∧ h.IsListIter it a i
noncomputable def iEnum (K : PySem.W.Frag) (ta : TA) : TI := fun σ H R => ta σ H fun vs H1 => ∃ a, vs = [.ref a] ∧ (∃ xs, SqL K H1 a xs) ∧ R (Ite K a) H1
section
variable {X : Cx}
end

noncomputable def LcG (J : It) (g : TG) (te : TE) (Q : VK) (τ : St) (H1 : Hp) (D : Addr) : Prop :=
  ∃ W : Nat → Nat → St → Hp → Prop, (∃ m, W 0 m τ (upd H1 D (.lst []))) ∧ ∀ k m σ' H2, W k m σ' H2 →
    (J.stop k H2 ∧ Q (.ref D) H2) ∨ (J.go k H2 ∧ ∀ v H3, J.yld k H2 v H3 → g v σ' H3 fun σ4 H4 => te σ4 H4 fun y H5 => ∃ xs, H5 D = some (.lst xs) ∧ xs.length < sizeLine ∧ ∃ m', m' < m ∧ W (k + 1) m' σ4 (upd H5 D (.lst (xs ++ [y]))))
noncomputable def tLG (wi : TI) (f : St → St) (g : TG) (te : TE) : TE := fun σ H Q => wi σ H fun J H1 => ∀ D, H1 D = none → LcG J g te Q (f σ) H1 D
theorem pe_lcP {X : Cx} {elt iter : Expr} {es : List Expr} {kk : Nat} {tp : Pos} {x : Str} {scope : Scope} {pos : Pos} {N : List Str} {cl : List (Str × Addr)} {f : St → St} {i : Nat} {wi : TI} {g : TG} {te : TE}
    (hc : X.calm = true) (B : BlkOk X N scope cl f i x) (hi : PI X (.Tuple es kk tp) iter wi)
    (hg : ∀ C s₀ H₀ ex pins, PG (blk X N scope cl C s₀ H₀ ex pins) (.Tuple es kk tp) g) (hte : ∀ C s₀ H₀ ex pins, PE (blk X N scope cl C s₀ H₀ ex pins) elt te)
    (hs : autoParam (∀ x, foldedSetIterable iter X.env x = pure x) L2.Internal.auI._auto_1) : PE X (.ListComp elt [⟨.Tuple es kk tp, iter, [], 0⟩] scope pos) (tLG wi f g te) := by
  intro pins s σ H Q I h
  rw [eval_ListComp]
  refine wpAny_comprehension_free (use := none) rfl hs B.clos B.kind B.names (thn (hi pins s σ H _ I h) fun xv s1 h1 => thn h1 fun itv s2 h2 => ?_)
  obtain ⟨it, fp, tn, J, H2, rfl, I2, T, st2, f2, q⟩ := h2
  have hD : H2 s2.heap.objs.size = none := I2.fresh
  obtain ⟨W, ⟨m0, w0⟩, turn⟩ := q _ hD
  refine wpAny_newObj_type (wpAny_newFunctionEnv B.cell (by intro y hy; simp at hy) (fun h₁ hns₁ hsb₁ => ?_) B.kind)
  have I3 : Inv X pins σ (upd H2 s2.heap.objs.size (.lst [])) { s2 with heap := s2.heap.push { cls := .type "list", data := .seq ([] : List Value).toArray } } := I2.lnew (its := []) (ys := []) (t' := s2.toks) .nil (Nat.zero_le _)
  have lt2 : ∀ b ∈ fp, b < s2.heap.objs.size := fun b hb => by
    obtain ⟨o, ho, _⟩ := T.obj _ _ st2 b hb
    exact Heap.lt_size ho
  have fp3 : ∀ b ∈ fp, FpOk X pins (upd H2 s2.heap.objs.size (.lst [])) b := fun b hb => by
    refine ⟨?_, (f2 b hb).2⟩
    rw [upd_ne (Nat.ne_of_lt (lt2 b hb))]
    exact (f2 b hb).1
  generalize hs3 : ({ s2 with heap := s2.heap.push { cls := .type "list", data := .seq ([] : List Value).toArray } } : Shared) = s3 at I3 hns₁ hsb₁ ⊢
  have eh : s2.heap.push { cls := .type "list", data := .seq ([] : List Value).toArray } = s3.heap := by rw [← hs3]
  have lt3 : ∀ b ∈ fp, b < s3.heap.objs.size := fun b hb => by
    rw [← eh, Heap.size_push]
    exact Nat.lt_succ_of_lt (lt2 b hb)
  have old : ∀ b o, s3.heap.get? b = some o → h₁.get? b = some o := fun b o e => hsb₁.extBut b o (Nat.ne_of_lt (Heap.lt_size e)) (Heap.get?_push_of_some _ e)
  have I4 := inv_blk (tk := s3.toks + ([] : List (Str × Value)).length) B I3 (ex := fp) (fun b hb => ⟨fp3 b hb, lt3 b hb⟩) old hns₁
  have st4 : tn 0 h₁ := T.keep _ _ _ st2 fun b _ o e => old b o (by rw [← eh]; exact Heap.get?_push_of_some _ e)
  have fpB : ∀ {H' : Hp}, (∀ b ∈ fp, H' b = none) → ∀ b ∈ fp, FpOk (blk X N scope cl s3.heap.objs.size s3 (upd H2 s2.heap.objs.size (.lst [])) fp pins) [] H' b := fun {H'} hn b hb => by
    obtain ⟨_, g2, g3, g4, g5, g6⟩ := f2 b hb
    refine ⟨hn b hb, Nat.ne_of_lt (lt3 b hb), fun z => (List.mem_cons.mp (I3.stkSub b z)).elim g2 g3, .inl hb, fun y c e => g5 y c (B.lk y c e), fun p hp => ?_⟩
    rw [List.append_nil] at hp
    exact g6 p hp
  have loop : ∀ s4 : Shared, s4 = { s3 with heap := h₁, toks := s3.toks + ([] : List (Str × Value)).length } →
      codeAny (model X.prog X.w) X.A (.compLoop (.ListComp elt [⟨.Tuple es kk tp, iter, [], 0⟩] scope pos) 0 (.ref it) (.ref s2.heap.objs.size) (compEnvC scope cl s3.heap.objs.size X.env))
        (compPost (model X.prog X.w) X.A X.xe none (EP X pins σ Q) (.ref s2.heap.objs.size) s3.heap.objs.size) s4 := by
    rintro s4 rfl
    refine PyProof.Rows.LCp.codeAny_compLoop_pair (I := fun n s' => ∃ k σ' H', Inv (blk X N scope cl s3.heap.objs.size s3 (upd H2 s2.heap.objs.size (.lst [])) fp pins) [] σ' H' s' ∧ tn k s'.heap ∧ (∀ b ∈ fp, H' b = none) ∧ W k n σ' H') ?_ m0
      ⟨0, f σ, _, I4, st4, fun b hb => (fp3 b hb).1, w0⟩
    rintro n s5 ⟨k, σ5, H5, I5, st5, fr5, w5⟩
    rcases turn k n σ5 H5 w5 with ⟨stop, qn⟩ | ⟨go, step⟩
    · refine wpAny_mono (T.done (blk X N scope cl s3.heap.objs.size s3 (upd H2 s2.heap.objs.size (.lst [])) fp pins) rfl rfl rfl hc k [] s5 σ5 H5 _ I5 (fpB fr5) st5 stop) (fun r s6 h6 => ?_) fun _ _ z => z
      obtain ⟨hr, I6⟩ := h6
      subst hr
      obtain ⟨m6, hn6, _⟩ := id I6.loc
      refine ⟨m6, hn6, fun h' sb => ?_⟩
      have nC : ∀ b o, s3.heap.get? b = some o → b ≠ s3.heap.objs.size := fun b o e => Nat.ne_of_lt (Heap.lt_size e)
      have u6 : Un (frs X.stack) fp (upd H2 s2.heap.objs.size (.lst [])) H5 s3.heap s6.heap := I6.base
      have u7 : Un (frs X.stack) fp (upd H2 s2.heap.objs.size (.lst [])) H5 s3.heap h' :=
        ⟨fun b o e z1 z2 z3 => (sb.2 b (nC b o e)).trans (u6.keep b o e z1 z2 z3), fun b o e z1 z2 z3 => by
          obtain ⟨sl, e1⟩ := u6.slot b o e z1 z2 z3
          exact ⟨sl, (sb.2 b (nC b o e)).trans e1⟩, u6.free, fun b o e z => by
          obtain ⟨o', e1⟩ := u6.there b o e z
          exact ⟨o', (sb.2 b (nC b o e)).trans e1⟩, u6.tups, u6.frzs, u6.tbls⟩
      have hok7 : HOk X.prog X.w H5 h' := fun b o e => (I6.hok b o e).stay (fun c w' hcc e1 => (sb.2 c (fun z => by
          have fr : H5 s3.heap.objs.size = none := I6.free
          rcases hcc with y | y
          · rw [← y, z, fr] at e; cases e
          · rw [z, fr] at y; cases y)).trans e1) (fun _ z => z) fun _ _ z => z
      have I7 : Inv X pins σ H5 { s6 with heap := h' } := I3.call' (s' := { s6 with heap := h' }) (ch := fp) I6.os u7 hok7 I6.bare fun b hb => by
        obtain ⟨_, g2, g3, g4, g5, g6⟩ := f2 b hb
        exact ⟨g4, g2, g5, g6⟩
      exact ⟨.ref s2.heap.objs.size, H5, I7, rfl, qn⟩
    · refine wpAny_mono (T.item (blk X N scope cl s3.heap.objs.size s3 (upd H2 s2.heap.objs.size (.lst [])) fp pins) rfl rfl rfl hc k [] s5 σ5 H5 _ I5 (fpB fr5) st5 go) (fun r s6 h6 => ?_) fun _ _ z => z
      obtain ⟨u, hr, h6⟩ := h6
      subst hr
      refine wpAny_mono h6 (fun _ s7 h7 => ?_) fun _ _ z => z
      obtain ⟨v, H7, I7, r7, y7, st7, fr7⟩ := h7
      have I7' := I7.pinned (fpB fr7) (T.obj _ _ st7)
      have back : ∀ {σ9 : St} {H9 : Hp} {s9 : Shared}, Inv (blk X N scope cl s3.heap.objs.size s3 (upd H2 s2.heap.objs.size (.lst [])) fp pins) ([] ++ pinsAt fp s7.heap) σ9 H9 s9 → (∃ m', m' < n ∧ W (k + 1) m' σ9 H9) →
          ∃ m', m' < n ∧ ∃ k σ' H', Inv (blk X N scope cl s3.heap.objs.size s3 (upd H2 s2.heap.objs.size (.lst [])) fp pins) [] σ' H' s9 ∧ tn k s9.heap ∧ (∀ b ∈ fp, H' b = none) ∧ W k m' σ' H' := fun {σ9 H9 s9} I9 q9 => by
        obtain ⟨m', hm, w9⟩ := q9
        refine ⟨m', hm, k + 1, σ9, H9, I9.unpinned, T.keep _ _ _ st7 fun b hb o e => (I9.pin (b, o) (List.mem_append_right _ (List.mem_append_right _ (mem_pinsAt hb e)))).1, fun b hb => ?_, w9⟩
        obtain ⟨o, e, d⟩ := T.obj _ _ st7 b hb
        exact (I9.pin (b, o) (List.mem_append_right _ (List.mem_append_right _ (mem_pinsAt hb e)))).2.1
      refine wpAny_mono (hg s3.heap.objs.size s3 (upd H2 s2.heap.objs.size (.lst [])) fp pins _ s7 σ5 H7 v u _ I7' r7 (step v H7 y7)) (fun _ s8 h8 => ?_) fun _ _ z => False.elim z
      obtain ⟨σ8, H8, I8, q8⟩ := h8
      refine wpAny_mono (hte _ _ _ _ _ _ s8 _ H8 _ I8 q8) (fun y s10 h10 => ?_) fun _ _ z => False.elim z
      obtain ⟨v10, H10, I10, r10, xs, hx10, hz, q10⟩ := h10
      refine wpAny_mono (mt_append (X := blk X N scope cl s3.heap.objs.size s3 (upd H2 s2.heap.objs.size (.lst [])) fp pins) _ s10 _ H10 (.ref s2.heap.objs.size) [v10] _ [y] (fun _ H11 => H11 = upd H10 s2.heap.objs.size (.lst (xs ++ [v10]))) I10 rfl (.cons r10 .nil) ⟨_, xs, v10, rfl, rfl, hx10, hz, rfl⟩) (fun _ s11 h11 => ?_) fun _ _ z => False.elim z
      obtain ⟨_, H11, I11, _, e11⟩ := h11
      subst e11
      exact back I11 q10
  exact codeAny_compStart_list (loop _ rfl) (T.self _ 0 _ _ _ st4 (loop _ rfl))
theorem blk02 {X : Cx} {scope : Scope} {x y : Str} (hk : scope.kind = .function) (hn : ∀ p ∈ scope.names, p.2 ≠ .cell ∧ p.2 ≠ .free) (hl : ∀ y ∈ scope.names, y.2 = .local → scope.names.lookup y.1 = some .local)
    (hx : scope.names.lookup x = some .local) (hxy : [x, y].Nodup) (hc : closureFor scope X.env = pure []) : BlkOk X [x, y] scope [] (fun _ => [none, none]) 0 x where
  kind := hk
  cell := fun y hy => (hn y hy).1
  names := hl
  clos := hc
  lk := fun y c h => by simp at h
  has := fun y h => by
    rcases h with h | h
    · obtain ⟨k0, e, z⟩ := lookup_relabel h
      have m := hn _ (PySem.mem_of_lookup e)
      rcases z with z | ⟨z, _⟩
      · exact absurd z.symm m.1
      · exact absurd z m.2
    · obtain ⟨k0, e, z⟩ := lookup_relabel h
      have m := hn _ (PySem.mem_of_lookup e)
      rcases z with z | ⟨z, _⟩
      · exact absurd z.symm m.2
      · exact absurd z m.2
  nd := hxy
  ix := rfl
  loc := hx
  len := fun _ _ => rfl
  val := fun σ k y v h1 h2 => by
    match k with
    | 0 => simp at h2
    | 1 => simp at h2
    | k + 2 => simp at h2

theorem lookup_cap {z : Str} : ∀ {cap : List (Str × Nat × Addr)}, z ∈ cap.map (·.1) → ∃ c, (cap.map fun p => (p.1, p.2.2)).lookup z = some c
  | [], h => by simp at h
  | p :: r, h => by
    cases e : z == p.1 with
    | true => exact ⟨p.2.2, by simp only [List.map_cons, List.lookup_cons, e]⟩
    | false =>
      have q : z ∈ r.map (·.1) := by
        rcases List.mem_cons.mp h with y | y
        · rw [y] at e; simp at e
        · exact y
      obtain ⟨c, hc⟩ := lookup_cap q
      exact ⟨c, by simp only [List.map_cons, List.lookup_cons, e]; exact hc⟩
theorem blkC {X : Cx} {scope : Scope} {x : Str} (ns : List Str) (cap : List (Str × Nat × Addr)) (hns : cap.map (·.1) = ns) (hk : scope.kind = .function) (hn : ∀ p ∈ scope.names, p.2 ≠ .cell ∧ (p.2 = .free → p.1 ∈ ns)) (hl : ∀ y ∈ scope.names, y.2 = .local → scope.names.lookup y.1 = some .local)
    (hx : scope.names.lookup x = some .local) (hnd : (x :: ns).Nodup) (hc : closureFor scope X.env = pure (cap.map fun p => (p.1, p.2.2))) (hok : X.env.scope.kind = .function)
    (h : ∀ p ∈ cap, scope.names.lookup p.1 = some .free ∧ X.env.cells.lookup p.1 = some p.2.2 ∧ X.env.scope.names.lookup p.1 = some .cell ∧ X.N[p.2.1]? = some p.1) :
    BlkOk X (x :: ns) scope (cap.map fun p => (p.1, p.2.2)) (fun σ => none :: cap.map fun p => σ.getD p.2.1 none) 0 x where
  kind := hk
  cell := fun y hy => (hn y hy).1
  names := hl
  clos := hc
  lk := fun z c q => by
    have m := PySem.mem_of_lookup q
    obtain ⟨p, hp, e⟩ := List.mem_map.mp m
    cases e
    exact (h p hp).2.1
  has := fun z q => by
    refine lookup_cap ?_
    rw [hns]
    rcases q with q | q
    · obtain ⟨k0, e, q⟩ := lookup_relabel q
      have m := hn _ (PySem.mem_of_lookup e)
      rcases q with q | ⟨q, _⟩
      · exact absurd q.symm m.1
      · exact m.2 q
    · obtain ⟨k0, e, q⟩ := lookup_relabel q
      have m := hn _ (PySem.mem_of_lookup e)
      rcases q with q | ⟨q, _⟩
      · exact m.2 q.symm
      · exact m.2 q
  nd := hnd
  ix := rfl
  loc := hx
  len := fun _ _ => by simp [← hns]
  val := fun σ k z v h1 h2 => by
    cases k with
    | zero => simp at h2
    | succ k =>
      rw [← hns, List.getElem?_cons_succ, List.getElem?_map] at h1
      rw [List.getElem?_cons_succ, List.getElem?_map] at h2
      cases e : cap[k]? with
      | none => rw [e] at h1; cases h1
      | some p =>
        rw [e] at h1 h2
        have ez : p.1 = z := Option.some.inj h1
        have ev : σ.getD p.2.1 none = some v := Option.some.inj h2
        subst ez
        obtain ⟨a1, a2, a3, a4⟩ := h p (List.mem_of_getElem? e)
        rw [List.getD_eq_getElem?_getD] at ev
        refine ⟨p.2.1, a4, ?_, a3, lookup_relabel_free hok a3 a1⟩
        cases q : σ[p.2.1]? with
        | none => rw [q] at ev; cases ev
        | some o => rw [q] at ev; exact congrArg some ev

theorem tys_of : ∀ {cs : List String} {us : List Value}, Vals (cs.map V.ty) us → us = cs.map Value.type
  | [], _, .nil => rfl
  | c :: cs, _, .cons h r => by
    cases (show _ = Value.type c from h)
    rw [tys_of r]; rfl
section
variable {X : Cx}
theorem call_isiT : CallR X (.builtin "isinstance") (fun xs H Q => ∃ (x : V) (tp : Addr) (cs : List String) (t : Value) (b : Bool), xs = [x, .ref tp] ∧ H tp = some (.tup (cs.map V.ty)) ∧ TyOf X.K H x t ∧ PySem.W.kitAny X.K t (cs.map Value.type) = some b ∧ Q (.bl b) H) := by
  intro pins s σ H xs us Q I r h
  obtain ⟨x, tp, cs, t, b, rfl, htp, ty, e, q⟩ := h
  obtain ⟨u, u', rfl, rx, ru'⟩ := vals2 r
  cases ru'
  obtain ⟨_, its, rv, o, ho, hc, n, hd, _⟩ := (show ObjOk X.prog X.w H s.heap tp (.tup (cs.map V.ty)) from I.hok tp _ htp)
  cases tys_of rv
  obtain ⟨oc, od, odt, osl⟩ := o
  cases (show oc = _ from hc)
  cases (show odt = _ from hd)
  have fin : ∀ tk, EP X pins σ Q (.bool b) { s with toks := tk } := fun tk => ⟨.bl b, H, I.tok tk, rfl, q⟩
  cases ty with
  | non => cases (show u = Value.none from rx); exact PySem.W.kia_tup PySem.W.kitx_none I.kIn True.intro ho e (fun z => nomatch z) fin
  | bl y => cases (show u = Value.bool y from rx); exact PySem.W.kia_tup PySem.W.kitx_bool I.kIn True.intro ho e (fun z => nomatch z) fin
  | int i => obtain ⟨t, q⟩ := (show ∃ t, u = Value.int i t from rx); cases q; exact PySem.W.kia_tup PySem.W.kitx_int I.kIn True.intro ho e (fun z => nomatch z) fin
  | str y => obtain ⟨t, q⟩ := (show ∃ t, u = Value.str y t from rx); cases q; exact PySem.W.kia_tup PySem.W.kitx_str I.kIn True.intro ho e (fun z => nomatch z) fin
  | flt y => obtain ⟨t, q⟩ := (show ∃ t, u = Value.float y t from rx); cases q; exact PySem.W.kia_tup PySem.W.kitx_float I.kIn True.intro ho e (fun z => nomatch z) fin
  | @lst a xs ea =>
    cases (show u = Value.ref a from rx)
    obtain ⟨_, _, n, _, h1⟩ := (show ObjOk X.prog X.w H s.heap a (.lst xs) from I.hok a _ ea)
    exact PySem.W.kia_tup PySem.W.kitx_list I.kIn ⟨_, h1, rfl⟩ ho e (fun z => nomatch z) fin
  | @frz a ob xs ea =>
    cases (show u = Value.ref a from rx)
    obtain ⟨_, _, _, n, _, h1⟩ := (show ObjOk X.prog X.w H s.heap a (.frz ob (.lst xs)) from I.hok a _ ea)
    exact PySem.W.kia_tup PySem.W.kitx_list I.kIn ⟨_, h1, rfl⟩ ho e (fun z => nomatch z) fin
  | @tup a xs ea =>
    cases (show u = Value.ref a from rx)
    obtain ⟨_, _, _, p⟩ := (show ObjOk X.prog X.w H s.heap a (.tup xs) from I.hok a _ ea)
    obtain ⟨o, h1, h2, _⟩ := p
    exact PySem.W.kia_tup PySem.W.kitx_tuple I.kIn ⟨o, h1, h2⟩ ho e (fun z => nomatch z) fin
  | @dK a kvs ea =>
    cases (show u = Value.ref a from rx)
    obtain ⟨_, _, vs, _, p⟩ := (show ObjOk X.prog X.w H s.heap a (.dK kvs) from I.hok a _ ea)
    obtain ⟨o, es, ep, h1, h2, _⟩ := p
    exact PySem.W.kia_tup PySem.W.kitx_dict I.kIn ⟨o, h1, h2.1⟩ ho e (fun z => nomatch z) fin
  | @dT a kvs ea =>
    cases (show u = Value.ref a from rx)
    obtain ⟨_, _, xs, _, o, es, ep, h1, h2, _⟩ := (show ObjOk X.prog X.w H s.heap a (.dT kvs) from I.hok a _ ea)
    exact PySem.W.kia_tup PySem.W.kitx_dict I.kIn ⟨o, h1, h2.1⟩ ho e (fun z => nomatch z) fin
  | @ins a C dx fs ea cl ha hn htk hm =>
    cases (show u = Value.ref a from rx)
    obtain ⟨mA, O, _⟩ := ins_get I.hok ea
    obtain ⟨od, J, _⟩ := O.look
    exact PySem.W.kia_tup (PySem.W.kitx_own (cl.get _) cl.hd ha hn htk hm) I.kIn J ho e (fun z => nomatch z) fin
end

structure ClsM (K : PySem.W.Frag) (C : Addr) (m : Str) (f : Addr) : Prop where
  ga : PySem.W.specialIn K (.ref C) "__getattribute__" = some (some (.builtin "type.__getattribute__"))
  rd : ∃ mc, PySem.W.readsIn K C mc = true ∧ PySem.W.findCls K (.ref C) mc m = some (.val (.ref f))
  kp : PySem.W.keepIn K (.ref f) = true
section
variable {X : Cx} {CX : CXT} {k : Nat} {f C : Addr} {fd : FuncData} {ps : List Str} {sp : Sp} {dvs : List V} {ds : List Value} {E : XK} {m : Str} {pos apos : Pos} {e o : Expr} {es : List Expr} {t : TA}
theorem pe_clsm {pl : Sem Bool} (he : PE X o (tC (.ref C))) (c : ClsM X.K C m f) (F : FnOk X.prog X.w X.K X.mg X.base CX k f fd ps sp) (hr : Room k X.A) (hb : Binds X.K fd ps ds) (hd : Vals dvs ds) (hx : Passes CX X E) (ha : PA X (e :: es) t)
    (hst : autoParam (starEach (e :: es) X.env = (false, eval e X.env) :: starEach es X.env) L2.Internal.auR._auto_1) (hpl : autoParam ((backTo pos (starEach es X.env)).any (·.1) = false) L2.Internal.auR._auto_1)
    (ht : eval (.Call (.Attribute o m apos) (e :: es) [] pos) X.env = (do
      let ov ← eval o X.env
      standAt apos.atName
      let (f, first) ← holding [ov] (getMethod ov m pl)
      callWith pos f first (backTo pos (starEach (e :: es) X.env)) (backToKw pos (keywordEach [] X.env))) := by rfl) :
    PE X (.Call (.Attribute o m apos) (e :: es) [] pos) (tCall sp dvs E t) := by
  intro pins s σ H Q I h
  refine PySem.W.methodCall_KW (pl := pl) (thn (he pins s σ H (fun v H1 => v = .ref C ∧ tCall sp dvs E t σ H1 Q) I ⟨rfl, h⟩) fun u s1 ⟨x, H1, I1, rx, ex, q⟩ => ?_) ht
  subst ex
  obtain rfl : u = Value.ref C := rx
  obtain ⟨mc, hr1, hf⟩ := c.rd
  refine PySem.W.method_cls I1.kIn c.ga (PySem.W.cls_value I1.kIn hr1 hf rfl ?_)
  refine PySem.W.callWith_K (first := []) (h₀ := X.base) I.ok.mod.kin c.kp (thn (ha pos pins _ σ H1 _ (I1.tok (s1.toks + 1)) q) fun us s2 ⟨vs, H2, I2, r, q2⟩ => ⟨I2.kIn, ?_⟩) hst hpl
  exact run_fn (us := us) (vs := vs) F hr hb hd hx I2 r q2
theorem PE.or {X : Cx} {e : Expr} {t u : TE} (h : PE X e t) (h' : PE X e u) : PE X e (fun σ H Q => t σ H Q ∨ u σ H Q) := fun pins s σ H Q I hw => hw.elim (h pins s σ H Q I) (h' pins s σ H Q I)
theorem PI.or {X : Cx} {tg e : Expr} {t u : TI} (h : PI X tg e t) (h' : PI X tg e u) : PI X tg e (fun σ H R => t σ H R ∨ u σ H R) := fun pins s σ H R I hw => hw.elim (h pins s σ H R I) (h' pins s σ H R I)
end

section
variable {X : Cx}
theorem call_sumA (hc : X.calm = true) : CallR X (.builtin "sum") (fun xs H Q => ∃ (a : Addr) (ns : List Int), xs = [.ref a] ∧ SqL X.K H a (ns.map V.int) ∧ ∀ n, Q (.int n) H) := by
  intro pins s σ H xs us Q I r h
  obtain ⟨a, ns, rfl, hq, q⟩ := h
  obtain ⟨u, rfl, ru⟩ := vals1 r
  cases ru
  obtain ⟨its, rv, p, hz⟩ := I.list hq
  obtain ⟨zs, e⟩ := (intsAre_of rv).allInts.items
  have l := p.isList
  rw [e] at l
  exact sum_intListG (I.ok.hd hc) l fun h' tk t' hk => ⟨.int _, H, I.kept (t' := tk) hk, ⟨_, rfl⟩, q _⟩
end

theorem ps_setLC {X : Cx} {elt iter : Expr} {x y : Str} {j : Nat} {py spos : Pos} {px : Pos} {ifs : List Expr} {scope : Scope} {pos : Pos} {N : List Str} {cl : List (Str × Addr)} {f : St → St} {i : Nat} {wi : TI} {tt : TT} {te : TE}
    (hc : X.calm = true) (B : BlkOk X N scope cl f i x) (hi : PI X (.Name x px) iter wi)
    (htt : ∀ C s₀ H₀ ex pins, PTs (blk X N scope cl C s₀ H₀ ex pins) ifs tt) (hte : ∀ C s₀ H₀ ex pins, PE (blk X N scope cl C s₀ H₀ ex pins) elt te)
    (hN : X.N.Nodup) (hj : X.N[j]? = some y) (hy : Loc X.env.scope y) (hsw : autoParam (swapsWith (.ListComp elt [⟨.Name x px, iter, ifs, 0⟩] scope pos) (some (.Name y py)) spos.line X.env = pure true) L2.Internal.auR._auto_1) (hs : autoParam (∀ x, foldedSetIterable iter X.env x = pure x) L2.Internal.auI._auto_1)
    (hf : autoParam (X.fn y = true ∨ X.env.scope.names.lookup y = some .local) L2.Internal.auL._auto_1) : PS X (.Assign [.Name y py] (.ListComp elt [⟨.Name x px, iter, ifs, 0⟩] scope pos) spos) (tAsg (tLC wi f i tt te) (gName j)) := by
  intro pins s σ H En I h
  rw [exec_Assign_Name_used _ _ _ _ hsw]
  refine wpAny_bind (wpAny_standAt (wpAny_bind ?_))
  show wpAny _ X.A (do let _ ← comprehension (.ListComp elt [⟨.Name x px, iter, ifs, 0⟩] scope pos) scope X.env _ (newList []) false (eval iter X.env) (some (assign (.Name y py) X.env))) _ _ s
  refine wpAny_bind (wpAny_mono (wpAny_comprehension_free (use := some (assign (.Name y py) X.env)) (Q := fun _ s' => SP X pins En .next s') rfl hs B.clos B.kind B.names (thn (hi pins s σ H _ I h) fun xv s1 h1 => thn h1 fun itv s2 h2 => ?_)) (fun _ s' hq => wpAny_pure (wpAny_pure hq)) fun _ _ e => e)
  obtain ⟨it, fp, tn, J, H2, rfl, I2, T, st2, f2, q⟩ := h2
  have hD : H2 s2.heap.objs.size = none := I2.fresh
  obtain ⟨W, ⟨m0, w0⟩, turn⟩ := q _ hD
  refine wpAny_newObj_type (wpAny_newFunctionEnv B.cell (by intro y hy; simp at hy) (fun h₁ hns₁ hsb₁ => ?_) B.kind)
  have I3 : Inv X pins σ (upd H2 s2.heap.objs.size (.lst [])) { s2 with heap := s2.heap.push { cls := .type "list", data := .seq ([] : List Value).toArray } } := I2.lnew (its := []) (ys := []) (t' := s2.toks) .nil (Nat.zero_le _)
  have lt2 : ∀ b ∈ fp, b < s2.heap.objs.size := fun b hb => by
    obtain ⟨o, ho, _⟩ := T.obj _ _ st2 b hb
    exact Heap.lt_size ho
  have fp3 : ∀ b ∈ fp, FpOk X pins (upd H2 s2.heap.objs.size (.lst [])) b := fun b hb => by
    refine ⟨?_, (f2 b hb).2⟩
    rw [upd_ne (Nat.ne_of_lt (lt2 b hb))]
    exact (f2 b hb).1
  generalize hs3 : ({ s2 with heap := s2.heap.push { cls := .type "list", data := .seq ([] : List Value).toArray } } : Shared) = s3 at I3 hns₁ hsb₁ ⊢
  have eh : s2.heap.push { cls := .type "list", data := .seq ([] : List Value).toArray } = s3.heap := by rw [← hs3]
  have lt3 : ∀ b ∈ fp, b < s3.heap.objs.size := fun b hb => by
    rw [← eh, Heap.size_push]
    exact Nat.lt_succ_of_lt (lt2 b hb)
  have old : ∀ b o, s3.heap.get? b = some o → h₁.get? b = some o := fun b o e => hsb₁.extBut b o (Nat.ne_of_lt (Heap.lt_size e)) (Heap.get?_push_of_some _ e)
  have I4 := inv_blk (tk := s3.toks + ([] : List (Str × Value)).length) B I3 (ex := fp) (fun b hb => ⟨fp3 b hb, lt3 b hb⟩) old hns₁
  have st4 : tn 0 h₁ := T.keep _ _ _ st2 fun b _ o e => old b o (by rw [← eh]; exact Heap.get?_push_of_some _ e)
  -- the iterators in the block
  have fpB : ∀ {H' : Hp}, (∀ b ∈ fp, H' b = none) → ∀ b ∈ fp, FpOk (blk X N scope cl s3.heap.objs.size s3 (upd H2 s2.heap.objs.size (.lst [])) fp pins) [] H' b := fun {H'} hn b hb => by
    obtain ⟨_, g2, g3, g4, g5, g6⟩ := f2 b hb
    refine ⟨hn b hb, Nat.ne_of_lt (lt3 b hb), fun z => (List.mem_cons.mp (I3.stkSub b z)).elim g2 g3, .inl hb, fun y c e => g5 y c (B.lk y c e), fun p hp => ?_⟩
    rw [List.append_nil] at hp
    exact g6 p hp
  have loop : ∀ s4 : Shared, s4 = { s3 with heap := h₁, toks := s3.toks + ([] : List (Str × Value)).length } →
      codeAny (model X.prog X.w) X.A (.compLoop (.ListComp elt [⟨.Name x px, iter, ifs, 0⟩] scope pos) 0 (.ref it) (.ref s2.heap.objs.size) (compEnvC scope cl s3.heap.objs.size X.env))
        (compPost (model X.prog X.w) X.A X.xe (some (assign (.Name y py) X.env)) (fun _ s' => SP X pins En .next s') (.ref s2.heap.objs.size) s3.heap.objs.size) s4 := by
    rintro s4 rfl
    refine codeAny_compLoop_tests (I := fun n s' => ∃ k σ' H', Inv (blk X N scope cl s3.heap.objs.size s3 (upd H2 s2.heap.objs.size (.lst [])) fp pins) [] σ' H' s' ∧ tn k s'.heap ∧ (∀ b ∈ fp, H' b = none) ∧ W k n σ' H') ?_ m0
      ⟨0, f σ, _, I4, st4, fun b hb => (fp3 b hb).1, w0⟩
    rintro n s5 ⟨k, σ5, H5, I5, st5, fr5, w5⟩
    rcases turn k n σ5 H5 w5 with ⟨stop, qn⟩ | ⟨go, step⟩
    · refine wpAny_mono (T.done (blk X N scope cl s3.heap.objs.size s3 (upd H2 s2.heap.objs.size (.lst [])) fp pins) rfl rfl rfl hc k [] s5 σ5 H5 _ I5 (fpB fr5) st5 stop) (fun r s6 h6 => ?_) fun _ _ z => z
      obtain ⟨hr, I6⟩ := h6
      subst hr
      obtain ⟨m6, hn6, _⟩ := id I6.loc
      have I7 : Inv X pins σ H5 s6 := I3.call' (s' := s6) (ch := fp) I6.os I6.base I6.hok I6.bare fun b hb => by
        obtain ⟨_, g2, g3, g4, g5, g6⟩ := f2 b hb
        exact ⟨g4, g2, g5, g6⟩
      obtain ⟨oC, es, ep, hoC, hdC, hkC⟩ := id hn6
      have hCL : s3.heap.objs.size ≠ X.env.locals := Nat.ne_of_gt I3.lt
      have I8 : Inv X (pins ++ [(s3.heap.objs.size, oC)]) σ H5 s6 := I7.pins_of fun p hp => (List.mem_append.mp hp).elim (fun z => I7.pin p (List.mem_append_right _ z)) fun z => by
        have ez : p = (s3.heap.objs.size, oC) := by simpa using z
        subst ez
        exact ⟨hoC, I6.free, hCL, I3.nofs (Nat.le_refl _), fun v q => by rw [hdC] at q; cases q⟩
      show wpAny _ X.A (assign (.Name y py) X.env (.ref s2.heap.objs.size)) _ _ s6
      refine wpAny_assign_Name (store_ok (X := X) I8 hN hj hy (v := .ref s2.heap.objs.size) rfl (fun s7 I9 => ?_) hf)
      have pC := I9.pin (s3.heap.objs.size, oC) (List.mem_append_right _ (List.mem_append_right _ (by simp)))
      refine ⟨m6, ⟨oC, es, ep, pC.1, hdC, hkC⟩, fun h' sb => ?_⟩
      refine ⟨σ.set j (some (.ref s2.heap.objs.size)), H5, ?_, qn⟩
      exact Inv.turned (h' := h') (t' := s7.toks) (it := s3.heap.objs.size) I9.unpinned (fun b o hb e => (sb.2 b hb).trans e) pC.2.1 hCL (.inr I3.sz) (fun z c e q => by
        obtain ⟨v, q2⟩ := I3.cell z c e
        exact absurd (q ▸ q2.lt) (Nat.lt_irrefl _)) fun p hp q => absurd (q ▸ Heap.lt_size (I3.pin p hp).1) (Nat.lt_irrefl _)
    · refine wpAny_mono (T.item (blk X N scope cl s3.heap.objs.size s3 (upd H2 s2.heap.objs.size (.lst [])) fp pins) rfl rfl rfl hc k [] s5 σ5 H5 _ I5 (fpB fr5) st5 go) (fun r s6 h6 => ?_) fun _ _ z => z
      obtain ⟨u, hr, h6⟩ := h6
      subst hr
      show wpAny _ _ (pure () >>= fun _ => assign (.Name x px) (compEnvC scope cl s3.heap.objs.size X.env) u) _ _ s6
      refine wpAny_bind (wpAny_mono (show wpAny _ _ (pure ()) _ _ s6 from h6) (fun _ s7 h7 => ?_) fun _ _ z => z)
      obtain ⟨v, H7, I7, r7, y7, st7, fr7⟩ := h7
      have I7' := I7.pinned (fpB fr7) (T.obj _ _ st7)
      refine wpAny_assign_Name (store_ok (X := blk X N scope cl s3.heap.objs.size s3 (upd H2 s2.heap.objs.size (.lst [])) fp pins) I7' B.nd B.ix (.inl (lookup_relabel_local B.loc)) r7 (fun s8 I8 => ?_) (.inr (lookup_relabel_local B.loc)))
      have back : ∀ {σ9 : St} {H9 : Hp} {s9 : Shared}, Inv (blk X N scope cl s3.heap.objs.size s3 (upd H2 s2.heap.objs.size (.lst [])) fp pins) ([] ++ pinsAt fp s7.heap) σ9 H9 s9 → (∃ m', m' < n ∧ W (k + 1) m' σ9 H9) →
          ∃ m', m' < n ∧ ∃ k σ' H', Inv (blk X N scope cl s3.heap.objs.size s3 (upd H2 s2.heap.objs.size (.lst [])) fp pins) [] σ' H' s9 ∧ tn k s9.heap ∧ (∀ b ∈ fp, H' b = none) ∧ W k m' σ' H' := fun {σ9 H9 s9} I9 q9 => by
        obtain ⟨m', hm, w9⟩ := q9
        refine ⟨m', hm, k + 1, σ9, H9, I9.unpinned, T.keep _ _ _ st7 fun b hb o e => (I9.pin (b, o) (List.mem_append_right _ (List.mem_append_right _ (mem_pinsAt hb e)))).1, fun b hb => ?_, w9⟩
        obtain ⟨o, e, d⟩ := T.obj _ _ st7 b hb
        exact (I9.pin (b, o) (List.mem_append_right _ (List.mem_append_right _ (mem_pinsAt hb e)))).2.1
      refine wpAny_mono (htt _ _ _ _ _ _ s8 _ H7 _ I8 (step v H7 y7)) (fun ok s9 h9 => ?_) fun _ _ z => False.elim z
      obtain ⟨H9, I9, q9⟩ := h9
      cases ok with
      | false =>
        rw [if_neg Bool.false_ne_true]
        rw [if_neg Bool.false_ne_true] at q9
        exact back I9 q9
      | true =>
        rw [if_pos rfl]
        rw [if_pos rfl] at q9
        refine wpAny_mono (hte _ _ _ _ _ _ s9 _ H9 _ I9 q9) (fun y s10 h10 => ?_) fun _ _ z => False.elim z
        obtain ⟨v10, H10, I10, r10, xs, hx10, hz, q10⟩ := h10
        refine wpAny_mono (mt_append (X := blk X N scope cl s3.heap.objs.size s3 (upd H2 s2.heap.objs.size (.lst [])) fp pins) _ s10 _ H10 (.ref s2.heap.objs.size) [v10] _ [y] (fun _ H11 => H11 = upd H10 s2.heap.objs.size (.lst (xs ++ [v10]))) I10 rfl (.cons r10 .nil) ⟨_, xs, v10, rfl, rfl, hx10, hz, rfl⟩) (fun _ s11 h11 => ?_) fun _ _ z => False.elim z
        obtain ⟨_, H11, I11, _, e11⟩ := h11
        subst e11
        exact back I11 q10
  exact codeAny_compStart_list (loop _ rfl) (T.self _ 0 _ _ _ st4 (loop _ rfl))

end L2.Internal
namespace L2.Internal
open PySem PySem.Spec PyProof.Rows

section
variable {prog : Program} {w : World} {A : Around} {E : Value → Shared → Prop} {s : Shared}
theorem nx_tup {j t : Addr} {i : Nat} {its} {x : Value} {Q : Value → Shared → Prop} (g : s.heap.IsTupleIter j t i) (d : s.heap.IsTuple t its) (e : its[i]? = some x)
    (k : ∀ h', h'.IsTupleIter j t (i + 1) → Heap.SameBut j s.heap h' → Q x { s with heap := h' }) : wpAny (model prog w) A (Builtin.SmallTypes.nextOf (.ref j)) Q E s := by
  obtain ⟨og, gg, gc, gd⟩ := id g
  obtain ⟨od, dd, _, dn, de⟩ := d
  unfold Builtin.SmallTypes.nextOf
  refine wpAny_bind (wpAny_callSpecial?_slot (name := Str.ofString "__next__") g.typeIs F.slot_tuple_iterator_next (wpAny_call_entry F.slot_tuple_iterator_next g.typeIs F.entry_tuple_iterator_next ?_ (F.args_tuple_iterator_next_1 _)))
  show wpAny _ _ (field (.ref j) 0 >>= _) _ _ s
  refine wpAny_bind (wpAny_field gg gd (x := .ref t) rfl ?_)
  show wpAny _ _ (if (Value.ref t == Value.none) = true then _ else _) _ _ s
  rw [if_neg (show ¬ ((Value.ref t == Value.none) = true) from fun q => nomatch q)]
  show wpAny _ _ (field (.ref j) 1 >>= _) _ _ s
  refine wpAny_bind (wpAny_field gg gd (x := .int i 0) rfl ?_)
  refine wpAny_bind (wpAny_seqItems dd de ?_)
  simp only [Int.toNat_natCast, e]
  refine wpAny_bind (wpAny_setField gg gd (by simp) (wpAny_pure ⟨x, rfl, wpAny_pure (k _ ?_ (Heap.SameBut.update ..))⟩))
  exact ⟨_, Heap.get?_update_self _ gg (Obj.isFreed_of_fields (Obj.data_mapFields gd _)), (Obj.cls_mapFields ..).trans gc, by rw [Obj.data_mapFields gd]; simp [rawInt]⟩
theorem nx_tup_end {j t : Addr} {i : Nat} {its} {Q : Value → Shared → Prop} (hh : A.handled = none) (g : s.heap.IsTupleIter j t i) (d : s.heap.IsTuple t its) (e : its[i]? = none)
    (k : ∀ h' x, Heap.ExtBut j s.heap h' → (∃ o, h'.get? x = some o ∧ o.cls = .type "StopIteration") → E (.ref x) { s with heap := h' }) : wpAny (model prog w) A (Builtin.SmallTypes.nextOf (.ref j)) Q E s := by
  obtain ⟨og, gg, gc, gd⟩ := id g
  obtain ⟨od, dd, _, dn, de⟩ := d
  unfold Builtin.SmallTypes.nextOf
  refine wpAny_bind (wpAny_callSpecial?_slot (name := Str.ofString "__next__") g.typeIs F.slot_tuple_iterator_next (wpAny_call_entry F.slot_tuple_iterator_next g.typeIs F.entry_tuple_iterator_next ?_ (F.args_tuple_iterator_next_1 _)))
  show wpAny _ _ (field (.ref j) 0 >>= _) _ _ s
  refine wpAny_bind (wpAny_field gg gd (x := .ref t) rfl ?_)
  show wpAny _ _ (if (Value.ref t == Value.none) = true then _ else _) _ _ s
  rw [if_neg (show ¬ ((Value.ref t == Value.none) = true) from fun q => nomatch q)]
  show wpAny _ _ (field (.ref j) 1 >>= _) _ _ s
  refine wpAny_bind (wpAny_field gg gd (x := .int i 0) rfl ?_)
  refine wpAny_bind (wpAny_seqItems dd de ?_)
  simp only [Int.toNat_natCast, e]
  refine wpAny_bind (wpAny_rule (wpAny_bind (wpAny_setField gg gd (by simp) ?_)))
  show wpAny _ _ (newExc (.type "StopIteration") [] >>= _) _ _ _
  refine wpAny_bind ?_
  simp only [newExc, newTuple]
  refine wpAny_bind (wpAny_newObj_type ?_ (by size_fits))
  refine wpAny_bind (m := firstArgMember _ _) (wpAny_of_eq (a := Value.none) (by first | rfl | (unfold firstArgMember; rfl)) ?_)
  refine wpAny_newObj_type ?_ (by size_fits)
  simp only [raiseNew]
  refine wpAny_bind (wpAny_handled ?_)
  first | rw [hh] | rw [show A.in1.handled = none from hh]
  exact wpAny_bind (wpAny_pure (wpAny_throw (k _ _ (((Heap.SameBut.update ..).extBut.push _).push _) ⟨_, Heap.get?_push_size _ rfl, rfl⟩)))

theorem zt_next {z TI TO j1 j2 t1 t2 : Addr} {k1 k2 : Nat} {xs ys : Array Value} {x y a b : Value} {Q : Value → Shared → Prop} (D : ZipApart z TI TO j1 j2 t1 t2)
    (gz : IsZip s.heap z TI TO .none) (gI : IsPair s.heap TI (.ref j1) (.ref j2)) (gO : IsPair s.heap TO a b)
    (g1 : s.heap.IsTupleIter j1 t1 k1) (g2 : s.heap.IsTupleIter j2 t2 k2) (d1 : s.heap.IsTuple t1 xs) (d2 : s.heap.IsTuple t2 ys) (ex : xs[k1]? = some x) (ey : ys[k2]? = some y)
    (k : ∀ h', IsZip h' z TI TO (rawInt s.heap.objs.size) → IsPair h' TO x y → h'.IsTupleIter j1 t1 (k1 + 1) → h'.IsTupleIter j2 t2 (k2 + 1) → IsPair h' s.heap.objs.size x y → h'.objs.size = s.heap.objs.size + 1 →
      (∀ c o, c ≠ z → c ≠ TO → c ≠ j1 → c ≠ j2 → s.heap.get? c = some o → h'.get? c = some o) → Q (.ref s.heap.objs.size) { s with heap := h' }) :
    wpAny (model prog w) A (Builtin.«zip.__next__» ⟨[.ref z], []⟩) (fun fin s' => ∃ v, fin = .done (.ret v) ∧ Q v s') E s := by
  show wpAny _ _ (field (.ref z) 2 >>= _) _ _ _
  refine wpAny_bind (wpAny_field gz rfl (x := .bool false) rfl ?_)
  show wpAny _ _ (field (.ref z) 3 >>= _) _ _ _
  refine wpAny_bind (wpAny_field gz rfl (x := .ref TI) rfl ?_)
  refine wpAny_bind (wpAny_seqItems gI rfl ?_)
  show wpAny _ _ (Builtin.SmallTypes.ownedTupleIsFree (.ref z) >>= _) _ _ _
  refine wpAny_bind ?_
  unfold Builtin.SmallTypes.ownedTupleIsFree
  refine wpAny_bind (wpAny_field gz rfl (x := .none) rfl (wpAny_pure ?_))
  simp only [if_true]
  refine wpAny_bind (wpAny_rule (wpAny_bind (wpAny_field gz rfl (x := .ref TO) rfl ?_)))
  refine wpAny_bind (wpAny_setField_rec gz (by simp) fun q1 gz1 b1 => ?_)
  replace gz1 : IsZip q1 z TI TO .ellipsis := gz1
  refine wpAny_bind ?_
  simp only [List.zipIdx_cons, List.zipIdx_nil, List.forIn_cons, List.forIn_nil]
  refine wpAny_bind (wpAny_bind (wpAny_onRaise ?_))
  show wpAny _ _ (Builtin.SmallTypes.nextOf (.ref j1) >>= _) _ _ _
  refine wpAny_bind (nx_tup (g1.extBut b1.extBut D.i1z) (d1.extBut b1.extBut D.l1z) ex fun q2 g12 b2 => wpAny_pure ?_)
  have gO2 : IsPair q2 TO a b := b2.extBut _ _ D.TOi1 (b1.extBut _ _ D.TOz gO)
  refine wpAny_bind (wpAny_seqItems gO2 rfl (wpAny_bind (wpAny_updateSeq_pair gO2 fun q3 gO3 b3 => ?_)))
  replace gO3 : IsPair q3 TO x b := gO3
  refine wpAny_bind (wpAny_letGo (wpAny_pure (wpAny_bind (wpAny_bind (wpAny_onRaise ?_)))))
  show wpAny _ _ (Builtin.SmallTypes.nextOf (.ref j2) >>= _) _ _ _
  refine wpAny_bind (nx_tup (((g2.extBut b1.extBut D.i2z).extBut b2.extBut D.i12.symm).extBut b3.extBut D.TOi2.symm) (((d2.extBut b1.extBut D.l2z).extBut b2.extBut D.l2i1).extBut b3.extBut D.l2TO) ey fun q4 g24 b4 => wpAny_pure ?_)
  have gO4 : IsPair q4 TO x b := b4.extBut _ _ D.TOi2 gO3
  refine wpAny_bind (wpAny_seqItems gO4 rfl (wpAny_bind (wpAny_updateSeq_pair gO4 fun q5 gO5 b5 => ?_)))
  replace gO5 : IsPair q5 TO x y := gO5
  refine wpAny_bind (wpAny_letGo (wpAny_pure (wpAny_pure (wpAny_bind (wpAny_seqItems gO5 rfl (wpAny_bind (wpAny_newTuple ?_)))))))
  have sz : q5.objs.size = s.heap.objs.size := by rw [b5.1, b4.1, b3.1, b2.1, b1.1]
  have gz5 : IsZip q5 z TI TO .ellipsis := b5.extBut _ _ D.TOz.symm (b4.extBut _ _ D.i2z.symm (b3.extBut _ _ D.TOz.symm (b2.extBut _ _ D.i1z.symm gz1)))
  have kp5 : ∀ c o, c ≠ z → c ≠ TO → c ≠ j1 → c ≠ j2 → s.heap.get? c = some o → q5.get? c = some o := fun c o n1 n2 n3 n4 e =>
    b5.extBut _ _ n2 (b4.extBut _ _ n4 (b3.extBut _ _ n2 (b2.extBut _ _ n3 (b1.extBut _ _ n1 e))))
  have g15 : q5.IsTupleIter j1 t1 (k1 + 1) := ((g12.extBut b3.extBut D.TOi1.symm).extBut b4.extBut D.i12).extBut b5.extBut D.TOi1.symm
  have g25 : q5.IsTupleIter j2 t2 (k2 + 1) := g24.extBut b5.extBut D.TOi2.symm
  have zlt : z < q5.objs.size := Heap.lt_size gz5
  show wpAny _ _ (Builtin.SmallTypes.ownedTupleHandOut (.ref z) (.ref q5.objs.size) >>= _) _ _ _
  refine wpAny_bind ?_
  unfold Builtin.SmallTypes.ownedTupleHandOut
  have gz6 : IsZip (q5.push { cls := .type "tuple", data := .seq #[x, y] }) z TI TO .ellipsis := Heap.get?_push_of_some _ gz5
  refine wpAny_bind (wpAny_setField_rec gz6 (by simp) fun q7 gz7 b7 => ?_)
  replace gz7 : IsZip q7 z TI TO (rawInt q5.objs.size) := gz7
  refine wpAny_setField_rec gz7 (by simp) fun q8 gz8 b8 => ?_
  replace gz8 : IsZip q8 z TI TO (rawInt q5.objs.size) := gz8
  have up : ∀ c o, c ≠ z → q5.get? c = some o → q8.get? c = some o := fun c o n1 e => b8.extBut _ _ n1 (b7.extBut _ _ n1 (Heap.get?_push_of_some _ e))
  have gT8 : IsPair q8 q5.objs.size x y := b8.extBut _ _ (Nat.ne_of_gt zlt) (b7.extBut _ _ (Nat.ne_of_gt zlt) (Heap.get?_push_size _ rfl))
  have sz8 : q8.objs.size = q5.objs.size + 1 := by rw [b8.1, b7.1, Heap.size_push]
  rw [sz] at gz8 gT8 sz8
  refine wpAny_pure ⟨_, rfl, ?_⟩
  show Q (.ref q5.objs.size) _
  rw [sz]
  refine k q8 gz8 (up _ _ D.TOz gO5) ?_ ?_ gT8 sz8 fun c o n1 n2 n3 n4 e => up c o n1 (kp5 c o n1 n2 n3 n4 e)
  · obtain ⟨o, e, r⟩ := g15; exact ⟨o, up _ o D.i1z e, r⟩
  · obtain ⟨o, e, r⟩ := g25; exact ⟨o, up _ o D.i2z e, r⟩
theorem zt_end {z TI TO j1 j2 t1 t2 : Addr} {k1 k2 : Nat} {xs ys : Array Value} {a b : Value} {Q : Fin → Shared → Prop} (hh : A.handled = none) (D : ZipApart z TI TO j1 j2 t1 t2)
    (gz : IsZip s.heap z TI TO .none) (gI : IsPair s.heap TI (.ref j1) (.ref j2)) (gO : IsPair s.heap TO a b)
    (g1 : s.heap.IsTupleIter j1 t1 k1) (g2 : s.heap.IsTupleIter j2 t2 k2) (d1 : s.heap.IsTuple t1 xs) (d2 : s.heap.IsTuple t2 ys) (hend : xs[k1]? = none ∨ ys[k2]? = none)
    (k : ∀ h' e, (∀ c o, c ≠ z → c ≠ TO → c ≠ j1 → c ≠ j2 → s.heap.get? c = some o → h'.get? c = some o) → (∃ o, h'.get? e = some o ∧ o.cls = .type "StopIteration") → E (.ref e) { s with heap := h' }) :
    wpAny (model prog w) A (Builtin.«zip.__next__» ⟨[.ref z], []⟩) Q E s := by
  show wpAny _ _ (field (.ref z) 2 >>= _) _ _ _
  refine wpAny_bind (wpAny_field gz rfl (x := .bool false) rfl ?_)
  show wpAny _ _ (field (.ref z) 3 >>= _) _ _ _
  refine wpAny_bind (wpAny_field gz rfl (x := .ref TI) rfl ?_)
  refine wpAny_bind (wpAny_seqItems gI rfl ?_)
  show wpAny _ _ (Builtin.SmallTypes.ownedTupleIsFree (.ref z) >>= _) _ _ _
  refine wpAny_bind ?_
  unfold Builtin.SmallTypes.ownedTupleIsFree
  refine wpAny_bind (wpAny_field gz rfl (x := .none) rfl (wpAny_pure ?_))
  simp only [if_true]
  refine wpAny_bind (wpAny_rule (wpAny_bind (wpAny_field gz rfl (x := .ref TO) rfl ?_)))
  refine wpAny_bind (wpAny_setField_rec gz (by simp) fun q1 gz1 b1 => ?_)
  replace gz1 : IsZip q1 z TI TO .ellipsis := gz1
  refine wpAny_bind ?_
  simp only [List.zipIdx_cons, List.zipIdx_nil, List.forIn_cons, List.forIn_nil]
  refine wpAny_bind (wpAny_bind (wpAny_onRaise ?_))
  show wpAny _ _ (Builtin.SmallTypes.nextOf (.ref j1) >>= _) _ _ _
  cases ex : xs[k1]? with
  | none =>
    refine wpAny_bind (nx_tup_end hh (g1.extBut b1.extBut D.i1z) (d1.extBut b1.extBut D.l1z) ex fun q2 e b2 he => ?_)
    obtain ⟨oe, hoe, hce⟩ := he
    have gz2 : IsZip q2 z TI TO .ellipsis := b2 _ _ D.i1z.symm gz1
    have nz : e ≠ z := fun q => by subst q; rw [gz2] at hoe; cases hoe; simp at hce
    refine wpAny_setField_rec gz2 (by simp) fun q3 _ b3 => k q3 e (fun c o n1 _ n3 _ q => b3.extBut _ _ n1 (b2 _ _ n3 (b1.extBut _ _ n1 q))) ⟨oe, b3.extBut _ _ nz hoe, hce⟩
  | some x =>
    have ey : ys[k2]? = none := hend.elim (fun q => by rw [ex] at q; cases q) id
    refine wpAny_bind (nx_tup (g1.extBut b1.extBut D.i1z) (d1.extBut b1.extBut D.l1z) ex fun q2 g12 b2 => wpAny_pure ?_)
    have gO2 : IsPair q2 TO a b := b2.extBut _ _ D.TOi1 (b1.extBut _ _ D.TOz gO)
    refine wpAny_bind (wpAny_seqItems gO2 rfl (wpAny_bind (wpAny_updateSeq_pair gO2 fun q3 gO3 b3 => ?_)))
    refine wpAny_bind (wpAny_letGo (wpAny_pure (wpAny_bind (wpAny_bind (wpAny_onRaise ?_)))))
    show wpAny _ _ (Builtin.SmallTypes.nextOf (.ref j2) >>= _) _ _ _
    refine wpAny_bind (nx_tup_end hh (((g2.extBut b1.extBut D.i2z).extBut b2.extBut D.i12.symm).extBut b3.extBut D.TOi2.symm) (((d2.extBut b1.extBut D.l2z).extBut b2.extBut D.l2i1).extBut b3.extBut D.l2TO) ey fun q4 e b4 he => ?_)
    obtain ⟨oe, hoe, hce⟩ := he
    have gz4 : IsZip q4 z TI TO .ellipsis := b4 _ _ D.i2z.symm (b3.extBut _ _ D.TOz.symm (b2.extBut _ _ D.i1z.symm gz1))
    have nz : e ≠ z := fun q => by subst q; rw [gz4] at hoe; cases hoe; simp at hce
    refine wpAny_setField_rec gz4 (by simp) fun q5 _ b5 => k q5 e (fun c o n1 n2 n3 n4 q => b5.extBut _ _ n1 (b4 _ _ n4 (b3.extBut _ _ n2 (b2.extBut _ _ n3 (b1.extBut _ _ n1 q))))) ⟨oe, b5.extBut _ _ nz hoe, hce⟩
theorem zt_pyNext {z TI TO j1 j2 t1 t2 : Addr} {k1 k2 : Nat} {xs ys : Array Value} {x y a b : Value} {Q : Option Value → Shared → Prop} (D : ZipApart z TI TO j1 j2 t1 t2)
    (gz : IsZip s.heap z TI TO .none) (gI : IsPair s.heap TI (.ref j1) (.ref j2)) (gO : IsPair s.heap TO a b)
    (g1 : s.heap.IsTupleIter j1 t1 k1) (g2 : s.heap.IsTupleIter j2 t2 k2) (d1 : s.heap.IsTuple t1 xs) (d2 : s.heap.IsTuple t2 ys) (ex : xs[k1]? = some x) (ey : ys[k2]? = some y)
    (k : ∀ h', IsZip h' z TI TO (rawInt s.heap.objs.size) → IsPair h' TO x y → h'.IsTupleIter j1 t1 (k1 + 1) → h'.IsTupleIter j2 t2 (k2 + 1) → IsPair h' s.heap.objs.size x y → h'.objs.size = s.heap.objs.size + 1 →
      (∀ c o, c ≠ z → c ≠ TO → c ≠ j1 → c ≠ j2 → s.heap.get? c = some o → h'.get? c = some o) → Q (some (.ref s.heap.objs.size)) { s with heap := h' }) :
    wpAny (model prog w) A (pyNext (.ref z)) Q E s := by
  have tz : s.TypeIs (.ref z) "zip" := ⟨_, gz, rfl⟩
  unfold pyNext
  exact wpAny_bind (wpAny_attempt (wpAny_callSpecial?_slot (name := Str.ofString "__next__") tz F.slot_zip_next (wpAny_call_entry F.slot_zip_next tz F.entry_zip_next
      (zt_next D gz gI gO g1 g2 d1 d2 ex ey fun h' a1 a2 a3 a4 a5 a6 a7 => wpAny_pure (k h' a1 a2 a3 a4 a5 a6 a7)) (F.args_zip_next_1 _))))
theorem zt_pyNext_end {z TI TO j1 j2 t1 t2 : Addr} {k1 k2 : Nat} {xs ys : Array Value} {a b : Value} {Q : Option Value → Shared → Prop} (hh : A.handled = none) (D : ZipApart z TI TO j1 j2 t1 t2)
    (gz : IsZip s.heap z TI TO .none) (gI : IsPair s.heap TI (.ref j1) (.ref j2)) (gO : IsPair s.heap TO a b)
    (g1 : s.heap.IsTupleIter j1 t1 k1) (g2 : s.heap.IsTupleIter j2 t2 k2) (d1 : s.heap.IsTuple t1 xs) (d2 : s.heap.IsTuple t2 ys) (hend : xs[k1]? = none ∨ ys[k2]? = none)
    (k : ∀ h', (∀ c o, c ≠ z → c ≠ TO → c ≠ j1 → c ≠ j2 → s.heap.get? c = some o → h'.get? c = some o) → Q none { s with heap := h' }) : wpAny (model prog w) A (pyNext (.ref z)) Q E s := by
  have tz : s.TypeIs (.ref z) "zip" := ⟨_, gz, rfl⟩
  unfold pyNext
  refine wpAny_bind (wpAny_attempt (wpAny_callSpecial?_slot (name := Str.ofString "__next__") tz F.slot_zip_next (wpAny_call_entry F.slot_zip_next tz F.entry_zip_next (zt_end hh D gz gI gO g1 g2 d1 d2 hend fun h' e kp he => ?_) (F.args_zip_next_1 _))))
  obtain ⟨o, ho, hc⟩ := he
  exact wpAny_bind (wpAny_isInstance (T := "StopIteration") (b := true) ⟨o, ho, hc⟩ isSubtype_stop (wpAny_pure (k _ kp)))
end

noncomputable abbrev zt1 (h : Heap) (t1 : Addr) : Heap := h.push { cls := .type "tuple_iterator", data := .fields #[.ref t1, .int 0 0] }
noncomputable abbrev zt2 (h : Heap) (t1 t2 : Addr) : Heap := (zt1 h t1).push { cls := .type "tuple_iterator", data := .fields #[.ref t2, .int 0 0] }
noncomputable abbrev zt3 (h : Heap) (t1 t2 : Addr) : Heap := (zt2 h t1 t2).push { cls := .type "tuple", data := .seq #[.ref h.objs.size, .ref (zt1 h t1).objs.size] }
noncomputable abbrev zt4 (h : Heap) (t1 t2 : Addr) : Heap := (zt3 h t1 t2).push { cls := .type "tuple", data := .seq #[.none, .none] }
noncomputable abbrev zt5 (h : Heap) (t1 t2 : Addr) : Heap := (zt4 h t1 t2).push { cls := .type "zip", data := .fields #[.none, .bool false, .bool false, .ref (zt2 h t1 t2).objs.size, .ref (zt3 h t1 t2).objs.size] }
theorem zt_new (t1 t2 : Addr) (xs ys : Array Value) : Meets (Builtin.«zip.__new__» ⟨[.type "zip", .ref t1, .ref t2], []⟩) (fun _ R s => s.heap.IsTuple t1 xs ∧ s.heap.IsTuple t2 ys ∧ R (.ok (.ret (.ref (zt4 s.heap t1 t2).objs.size))) { s with heap := zt5 s.heap t1 t2 }) :=
  .of_wp fun prog w A R s h => by
    obtain ⟨hp, g, d, tk, os⟩ := s; obtain ⟨d1, d2, h⟩ := h
    have hsub := sub_zip
    have dd1 : Heap.IsTuple (Shared.heap ⟨hp, g, d, tk, os⟩) t1 xs := d1
    have dd2 : Heap.IsTuple (Shared.heap ⟨hp.push { cls := .type "tuple_iterator", data := .fields #[.ref t1, .int 0 0] }, g, d, tk, os⟩) t2 ys := Heap.IsTuple.push d2 _
    wp_walk using wpAny_pyIter_tuple dd1, wpAny_pyIter_tuple dd2
    exact ⟨_, rfl, h⟩
section
variable {prog : Program} {w : World} {A : Around} {E : Value → Shared → Prop} {s : Shared}
theorem call_zipT {t1 t2 : Addr} {xs ys : Array Value} {Q : Value → Shared → Prop} (d1 : s.heap.IsTuple t1 xs) (d2 : s.heap.IsTuple t2 ys)
    (k : ∀ h', IsZip h' (s.heap.objs.size + 4) (s.heap.objs.size + 2) (s.heap.objs.size + 3) .none → IsPair h' (s.heap.objs.size + 2) (.ref s.heap.objs.size) (.ref (s.heap.objs.size + 1)) →
      IsPair h' (s.heap.objs.size + 3) .none .none → h'.IsTupleIter s.heap.objs.size t1 0 → h'.IsTupleIter (s.heap.objs.size + 1) t2 0 → (∀ c o, s.heap.get? c = some o → h'.get? c = some o) → Q (.ref (s.heap.objs.size + 4)) { s with heap := h' }) :
    wpAny (model prog w) A (call (.type "zip") [.ref t1, .ref t2]) Q E s := by
  refine callType_new F.called_zip (by decide) (F.typeCall_zip_2 _ _) (F.newCall_zip_2 _ _) (fun obj => F.args_object_init_3 obj _ _) F.entry_zip_new (zt_new t1 t2 xs ys) ⟨d1, d2, ?_⟩
  have z1 : (zt1 s.heap t1).objs.size = s.heap.objs.size + 1 := Heap.size_push ..
  have z2 : (zt2 s.heap t1 t2).objs.size = s.heap.objs.size + 2 := by rw [Heap.size_push, z1]
  have z3 : (zt3 s.heap t1 t2).objs.size = s.heap.objs.size + 3 := by rw [Heap.size_push, z2]
  have z4 : (zt4 s.heap t1 t2).objs.size = s.heap.objs.size + 4 := by rw [Heap.size_push, z3]
  have m5 : (zt5 s.heap t1 t2).get? (zt4 s.heap t1 t2).objs.size = some _ := Heap.get?_push_size _ rfl
  have m4 : (zt5 s.heap t1 t2).get? (zt3 s.heap t1 t2).objs.size = some _ := Heap.get?_push_of_some _ (Heap.get?_push_size _ rfl)
  have m3 : (zt5 s.heap t1 t2).get? (zt2 s.heap t1 t2).objs.size = some _ := Heap.get?_push_of_some _ (Heap.get?_push_of_some _ (Heap.get?_push_size _ rfl))
  have m2 : (zt5 s.heap t1 t2).get? (zt1 s.heap t1).objs.size = some _ := Heap.get?_push_of_some _ (Heap.get?_push_of_some _ (Heap.get?_push_of_some _ (Heap.get?_push_size _ rfl)))
  have m1 : (zt5 s.heap t1 t2).get? s.heap.objs.size = some _ := Heap.get?_push_of_some _ (Heap.get?_push_of_some _ (Heap.get?_push_of_some _ (Heap.get?_push_of_some _ (Heap.get?_push_size _ rfl))))
  show _ ∧ _
  rw [z2, z3, z4] at m5
  rw [z1, z2] at m3
  rw [z3] at m4
  rw [z1] at m2
  rw [z4]
  exact ⟨⟨_, m5, rfl⟩, k _ m5 m3 m4 ⟨_, m1, rfl, rfl⟩ ⟨_, m2, rfl, rfl⟩ fun c o q => Heap.get?_push_of_some _ (Heap.get?_push_of_some _ (Heap.get?_push_of_some _ (Heap.get?_push_of_some _ (Heap.get?_push_of_some _ q))))⟩
end

noncomputable def Itzt (K : PySem.W.Frag) (a b : Addr) : It :=
  ⟨fun i H => ∃ xs ys x y, SqT K H a xs ∧ SqT K H b ys ∧ xs[i]? = some x ∧ ys[i]? = some y,
   fun i H v H' => ∃ T x y, v = .ref T ∧ H T = none ∧ H' = upd H T (.tup [x, y]) ∧ (∀ xs, SqT K H a xs → xs[i]? = some x) ∧ ∀ ys, SqT K H b ys → ys[i]? = some y,
   fun i H => ∃ xs ys, SqT K H a xs ∧ SqT K H b ys ∧ i = min xs.length ys.length⟩
noncomputable def ZTSt (z TI TO i1 i2 a b : Addr) (i : Nat) (h : Heap) : Prop := IsZip h z TI TO .none ∧ IsPair h TI (.ref i1) (.ref i2) ∧ (∃ u v, IsPair h TO u v) ∧ h.IsTupleIter i1 a i ∧ h.IsTupleIter i2 b i
theorem turn_zipT {P : Program} {w : World} {K : PySem.W.Frag} {es : List Expr} {kk : Nat} {tp : Pos} {a b z TI TO i1 i2 : Addr} (D : ZipApart z TI TO i1 i2 a b) : Turn P w K (.Tuple es kk tp) (Itzt K a b) [z, TI, TO, i1, i2] z (ZTSt z TI TO i1 i2 a b) where
  mem := by simp
  obj := fun i h st c hc => by
    obtain ⟨g1, g2, ⟨u, v, g3⟩, ⟨o4, g4, _, d4⟩, ⟨o5, g5, _, d5⟩⟩ := st
    simp only [List.mem_cons, List.not_mem_nil, or_false] at hc
    rcases hc with e | e | e | e | e <;> subst e
    · exact ⟨_, g1, fun v q => nomatch q⟩
    · exact ⟨_, g2, fun v q => nomatch q⟩
    · exact ⟨_, g3, fun v q => nomatch q⟩
    · exact ⟨_, g4, fun v q => by rw [d4] at q; cases q⟩
    · exact ⟨_, g5, fun v q => by rw [d5] at q; cases q⟩
  keep := fun i h h' st k => by
    obtain ⟨g1, g2, ⟨u, v, g3⟩, ⟨o4, g4, r4⟩, ⟨o5, g5, r5⟩⟩ := st
    exact ⟨k z (by simp) _ g1, k TI (by simp) _ g2, ⟨u, v, k TO (by simp) _ g3⟩, ⟨o4, k i1 (by simp) o4 g4, r4⟩, ⟨o5, k i2 (by simp) o5 g5, r5⟩⟩
  item := by
    intro X hP hw hK hc i pins s σ H E I hf st hg
    subst hP hw hK
    obtain ⟨xs, ys, x, y, qx, qy, ex, ey⟩ := hg
    obtain ⟨i1s, r1, p1, z1⟩ := I.tuple qx
    obtain ⟨i2s, r2, p2, z2⟩ := I.tuple qy
    obtain ⟨g1, g2, ⟨u, v, g3⟩, g4, g5⟩ := st
    obtain ⟨ux, hux, rr1⟩ := r1.get ex
    obtain ⟨uy, huy, rr2⟩ := r2.get ey
    have hw : ∀ c ∈ [z, TO, i1, i2], FpOk X pins H c := fun c hc => hf c (by simp only [List.mem_cons, List.not_mem_nil, or_false] at hc ⊢; first | (rcases hc with h | h | h | h <;> simp [h]) | simp [hc])
    refine zt_pyNext D g1 g2 g3 g4 g5 (show s.heap.IsTuple a i1s.toArray from p1) (show s.heap.IsTuple b i2s.toArray from p2) (x := ux) (y := uy) (by simpa using hux) (by simpa using huy) fun h1 a1 a2 a3 a4 a5 a6 hk => ?_
    have kk1 : ∀ c o, c ∉ [z, TO, i1, i2] → s.heap.get? c = some o → h1.get? c = some o := fun c o hc e => hk c o (fun q => hc (by simp [q])) (fun q => hc (by simp [q])) (fun q => hc (by simp [q])) (fun q => hc (by simp [q])) e
    have J1 : Inv X pins σ H { s with heap := h1, toks := s.toks } := I.turnedL kk1 hw
    refine ⟨.ref s.heap.objs.size, rfl, wpAny_letOwnedTupleGo_zip a1 fun h2 a1' sb => ?_⟩
    have J2 : Inv X pins σ H { s with heap := h2, toks := s.toks } := Inv.turnedL (s := { s with heap := h1, toks := s.toks }) (h' := h2) (t' := s.toks) (ch := [z]) J1 (fun c o hc e => sb.extBut _ _ (fun q => hc (by simp [q])) e) fun c hc => hf c (by simp only [List.mem_cons, List.not_mem_nil, or_false] at hc ⊢; first | (rcases hc with h | h | h | h <;> simp [h]) | simp [hc])
    have zlt : z < s.heap.objs.size := Heap.lt_size g1
    have ht2 : Tup0 h2 s.heap.objs.size #[ux, uy] := ⟨_, sb.extBut _ _ (Nat.ne_of_gt zlt) a5, rfl, _, rfl, rfl⟩
    obtain ⟨fT, J3⟩ := I.pairNew (Nat.le_refl _) J2 ht2 rr1 rr2
    refine ⟨.ref s.heap.objs.size, _, J3, rfl, ⟨_, x, y, rfl, fT, rfl, fun l hl => by rw [I.tuple_inj hl qx]; exact ex, fun l hl => by rw [I.tuple_inj hl qy]; exact ey⟩,
      ⟨a1', sb.extBut _ _ D.TIz (hk _ _ D.TIz D.TITO D.TIi1 D.TIi2 g2), ⟨_, _, sb.extBut _ _ D.TOz a2⟩, a3.extBut sb.extBut D.i1z, a4.extBut sb.extBut D.i2z⟩, fun c hc => ?_⟩
    rw [upd_ne (fun q => ?_)]
    · exact (hf c hc).1
    · have lt : c < s.heap.objs.size := by
        obtain ⟨o4, e4, _⟩ := g4
        obtain ⟨o5, e5, _⟩ := g5
        simp only [List.mem_cons, List.not_mem_nil, or_false] at hc
        rcases hc with e | e | e | e | e <;> subst e
        · exact Heap.lt_size g1
        · exact Heap.lt_size g2
        · exact Heap.lt_size g3
        · exact Heap.lt_size e4
        · exact Heap.lt_size e5
      exact absurd lt (by rw [q]; exact Nat.lt_irrefl _)
  done := by
    intro X hP hw hK hc i pins s σ H E I hf st hg
    subst hP hw hK
    obtain ⟨xs, ys, qx, qy, ei⟩ := hg
    obtain ⟨i1s, r1, p1, z1⟩ := I.tuple qx
    obtain ⟨i2s, r2, p2, z2⟩ := I.tuple qy
    obtain ⟨g1, g2, ⟨u, v, g3⟩, g4, g5⟩ := st
    have l1 := r1.length
    have l2 := r2.length
    refine zt_pyNext_end (I.ok.hd hc) D g1 g2 g3 g4 g5 (show s.heap.IsTuple a i1s.toArray from p1) (show s.heap.IsTuple b i2s.toArray from p2) ?_ fun h1 hk => ⟨rfl, I.turnedL (t' := s.toks) (ch := [z, TO, i1, i2]) (fun c o hc e => hk c o (fun q => hc (by simp [q])) (fun q => hc (by simp [q])) (fun q => hc (by simp [q])) (fun q => hc (by simp [q])) e) fun c hc => hf c (by simp only [List.mem_cons, List.not_mem_nil, or_false] at hc ⊢; first | (rcases hc with h | h | h | h <;> simp [h]) | simp [hc])⟩
    simp only [List.getElem?_toArray, List.getElem?_eq_none_iff]
    omega
  self := fun _ _ _ _ _ st h => wpAny_pyIter_zip st.1 h
theorem SqT.old {X : Cx} {pins : List (Addr × Obj)} {σ : St} {H : Hp} {s : Shared} {a : Addr} {xs : List V} (I : Inv X pins σ H s) (h : SqT X.K H a xs) : a < s.heap.objs.size := by
  obtain ⟨its, _, p, _⟩ := I.tuple h
  obtain ⟨o, e, _⟩ := p
  exact Heap.lt_size e
noncomputable def iZipT (K : PySem.W.Frag) (ta : TA) : TI := fun σ H R => ta σ H fun vs H1 => ∃ a b, vs = [.ref a, .ref b] ∧ (∃ xs, SqT K H1 a xs) ∧ (∃ ys, SqT K H1 b ys) ∧ R (Itzt K a b) H1
section
variable {X : Cx}
theorem pi_zipT {es : List Expr} {kk : Nat} {tp : Pos} {a b : Expr} {ta : TA} {p pos : Pos} (hg : Gl X "zip") (hm : X.mg "zip" = none) (ha : PA X [a, b] ta) (hs : autoParam (starEach [a, b] X.env = [(false, eval a X.env), (false, eval b X.env)]) L2.Internal.auR._auto_1) (hs2 : autoParam (starEach [b] X.env = [(false, eval b X.env)]) L2.Internal.auR._auto_1) :
    PI X (.Tuple es kk tp) (.Call (.Name "zip" p) [a, b] [] pos) (iZipT X.K ta) := by
  intro pins s σ H R I h
  refine Call_ (ld_blt I hg hm bt_zip (PyProof.Rows.callWith_type1 (thn (ha pos pins s σ H _ I h) fun us s1 ⟨vs, H1, I1, r1, q1⟩ => ?_) (by rw [hs, hs2]) (by rw [hs2]; rfl)))
  obtain ⟨l1, l2, e, ⟨xs, q1⟩, ⟨ys, q2⟩, q⟩ := q1
  subst e
  obtain ⟨u, v, rfl, ru, rv⟩ := vals2 r1
  cases ru
  cases rv
  obtain ⟨i1s, w1, p1, z1⟩ := I1.tuple q1
  obtain ⟨i2s, w2, p2, z2⟩ := I1.tuple q2
  have o1 : @LT.lt Nat _ l1 s1.heap.objs.size := SqT.old I1 q1
  have o2 : @LT.lt Nat _ l2 s1.heap.objs.size := SqT.old I1 q2
  refine call_zipT (show s1.heap.IsTuple l1 i1s.toArray from p1) (show s1.heap.IsTuple l2 i2s.toArray from p2) fun h1 hz hTI hTO hi1 hi2 hk => wpAny_pyIter_zip hz ?_
  have D : ZipApart (s1.heap.objs.size + 4) (s1.heap.objs.size + 2) (s1.heap.objs.size + 3) s1.heap.objs.size (s1.heap.objs.size + 1) l1 l2 := by constructor <;> exact fun (h : @Eq Nat _ _) => by omega
  refine ⟨_, _, _, _, H1, rfl, I1.kept (t' := s1.toks) hk, turn_zipT D, ⟨hz, hTI, ⟨_, _, hTO⟩, hi1, hi2⟩, fun c hc => ?_, q⟩
  have ge : s1.heap.objs.size ≤ c := by
    simp only [List.mem_cons, List.not_mem_nil, or_false] at hc
    rcases hc with h | h | h | h | h <;> rw [h] <;> first | exact Nat.le_refl _ | exact Nat.le_add_right _ _
  exact I1.fpOk ge (I1.hok.fresh ge)
end
end L2.Internal
namespace L2.Internal
open PySem PySem.Spec PyProof.Rows
section
variable {prog : Program} {w : World} {A : Around} {E : Value → Shared → Prop} {s : Shared}
end

inductive Prs (H : Hp) : List V → List (Str × V) → Prop
  | nil : Prs H [] []
  | cons {a : Addr} {p : Str × V} {l : List V} {m : List (Str × V)} : H a = some (.tup [.str p.1, p.2]) → Prs H l m → Prs H (.ref a :: l) (p :: m)
noncomputable def kf (p : Str × V) : Key × V := (Sum.inr p.1, p.2)
section
variable {X : Cx} {pins : List (Addr × Obj)} {σ : St} {H : Hp} {d it t : Addr} {vs : List V} {A : Around} {R : Result → Shared → Prop}
end
section
variable {X : Cx}
end
end L2.Internal
namespace BO.Internal
open PySem L2.Internal
noncomputable def rIsi (K : PySem.W.Frag) : List V → Hp → VK → Prop := fun xs H Q => ∃ x v c t b, xs = [x, v] ∧ (∀ u, RelV v u → u = c) ∧ TyOf K H x t ∧ PySem.W.kitOne K t c = some b ∧ Q (.bl b) H
theorem sz {n : Nat} (h : n ≤ 100000) : n ≤ sizeLine := Nat.le_trans h (by decide)
theorem same_new {H : Hp} {p : Addr} (h : H p = none) (o : HO) : Same H (upd H p o) := fun b u q => by rw [upd_ne (ne_of_none q h)]; exact q
theorem atI_lt {α : Type} (l : List α) (i : Int) (h0 : 0 ≤ i) (h1 : i < (l.length : Int)) : ∃ c, atI l i = some c ∧ c ∈ l := by
  have e : i = ((i.toNat : Nat) : Int) := by omega
  have hi : i.toNat < l.length := by omega
  refine ⟨l[i.toNat], ?_, List.getElem_mem hi⟩
  have z : atI l ((i.toNat : Nat) : Int) = some l[i.toNat] := atI_nat (List.getElem?_eq_getElem hi)
  rw [← e] at z
  exact z
noncomputable def flN : V → Bool
  | .non => true
  | .int _ => true
  | .str _ => true
  | _ => false
mutual
inductive Im (H : Hp) : V → Dt → Prop where
  | flat {v : V} (h : flN v = true) : Im H v (.flat v)
  | tup {a : Addr} {xs : List V} {ds : List Dt} (h : H a = some (.tup xs)) (hs : Ims H xs ds) : Im H (.ref a) (.tup ds)
inductive Ims (H : Hp) : List V → List Dt → Prop where
  | nil : Ims H [] []
  | cons {x : V} {d : Dt} {xs : List V} {ds : List Dt} (h : Im H x d) (hs : Ims H xs ds) : Ims H (x :: xs) (d :: ds)
end
mutual
inductive Dta (H : Hp) : V → Dt → Prop where
  | flat {v : V} (h : flN v = true) : Dta H v (.flat v)
  | tup {a : Addr} {xs : List V} {ds : List Dt} (h : H a = some (.tup xs)) (hs : Dtas H xs ds) : Dta H (.ref a) (.tup ds)
  | lst {a : Addr} {xs : List V} {ds : List Dt} (h : H a = some (.lst xs)) (hs : Dtas H xs ds) : Dta H (.ref a) (.lst ds)
inductive Dtas (H : Hp) : List V → List Dt → Prop where
  | nil : Dtas H [] []
  | cons {x : V} {d : Dt} {xs : List V} {ds : List Dt} (h : Dta H x d) (hs : Dtas H xs ds) : Dtas H (x :: xs) (d :: ds)
end
noncomputable def TK (H H' : Hp) : Prop := ∀ a xs, H a = some (.tup xs) → H' a = some (.tup xs)
theorem Same.tk {H H' : Hp} (s : Same H H') : TK H H' := fun a xs e => s a _ e
mutual
theorem Im.mono {H H' : Hp} (k : TK H H') : ∀ {v : V} {d : Dt}, Im H v d → Im H' v d
  | _, _, .flat h => .flat h
  | _, _, .tup h hs => .tup (k _ _ h) (Ims.mono k hs)
theorem Ims.mono {H H' : Hp} (k : TK H H') : ∀ {v : List V} {d : List Dt}, Ims H v d → Ims H' v d
  | _, _, .nil => .nil
  | _, _, .cons h hs => .cons (Im.mono k h) (Ims.mono k hs)
end
mutual
theorem Im.da {H : Hp} : ∀ {v : V} {d : Dt}, Im H v d → Dta H v d
  | _, _, .flat h => .flat h
  | _, _, .tup h hs => .tup h (Ims.das hs)
theorem Ims.das {H : Hp} : ∀ {v : List V} {d : List Dt}, Ims H v d → Dtas H v d
  | _, _, .nil => .nil
  | _, _, .cons h hs => .cons (Im.da h) (Ims.das hs)
end
mutual
theorem Dta.same {H H' : Hp} (k : Same H H') : ∀ {v : V} {d : Dt}, Dta H v d → Dta H' v d
  | _, _, .flat h => .flat h
  | _, _, .tup h hs => .tup (k _ _ h) (Dtas.same k hs)
  | _, _, .lst h hs => .lst (k _ _ h) (Dtas.same k hs)
theorem Dtas.same {H H' : Hp} (k : Same H H') : ∀ {v : List V} {d : List Dt}, Dtas H v d → Dtas H' v d
  | _, _, .nil => .nil
  | _, _, .cons h hs => .cons (Dta.same k h) (Dtas.same k hs)
end
theorem Dtas.length {H : Hp} : ∀ {xs : List V} {ds : List Dt}, Dtas H xs ds → xs.length = ds.length
  | _, _, .nil => rfl
  | _, _, .cons _ t => by rw [List.length_cons, List.length_cons, Dtas.length t]
theorem Ims.length {H : Hp} : ∀ {xs : List V} {ds : List Dt}, Ims H xs ds → xs.length = ds.length
  | _, _, .nil => rfl
  | _, _, .cons _ t => by rw [List.length_cons, List.length_cons, Ims.length t]
theorem Dtas.get {H : Hp} : ∀ {xs : List V} {ds : List Dt} {j : Nat} {x : V}, Dtas H xs ds → xs[j]? = some x → ∃ d, ds[j]? = some d ∧ Dta H x d
  | _, _, 0, _, .cons h _, e => ⟨_, rfl, by cases e; exact h⟩
  | _, _, j + 1, _, .cons _ t, e => by
    rw [List.getElem?_cons_succ] at e
    obtain ⟨d, e1, e2⟩ := Dtas.get t e
    exact ⟨d, by rw [List.getElem?_cons_succ]; exact e1, e2⟩
theorem depDs_get : ∀ {l : List Dt} {j : Nat} {a : Dt}, l[j]? = some a → depD a ≤ depDs l
  | x :: xs, 0, a, h => by
    cases h
    exact Nat.le_max_left _ _
  | x :: xs, j + 1, a, h => by
    rw [List.getElem?_cons_succ] at h
    exact Nat.le_trans (depDs_get h) (Nat.le_max_right _ _)
theorem Ims.app {H : Hp} : ∀ {xs ys : List V} {ds es : List Dt}, Ims H xs ds → Ims H ys es → Ims H (xs ++ ys) (ds ++ es)
  | _, _, _, _, .nil, h => h
  | _, _, _, _, .cons a b, h => .cons a (Ims.app b h)
inductive All2 {α β : Type} (F : α → β → Prop) : List α → List β → Prop
  | nil : All2 F [] []
  | cons {a : α} {b : β} {l : List α} {m : List β} : F a b → All2 F l m → All2 F (a :: l) (b :: m)
theorem All2.imp {α β : Type} {F G : α → β → Prop} (f : ∀ a b, F a b → G a b) : ∀ {l : List α} {m : List β}, All2 F l m → All2 G l m
  | _, _, .nil => .nil
  | _, _, .cons h t => .cons (f _ _ h) (All2.imp f t)
theorem All2.snoc {α β : Type} {F : α → β → Prop} {a : α} {b : β} (h : F a b) : ∀ {l : List α} {m : List β}, All2 F l m → All2 F (l ++ [a]) (m ++ [b])
  | _, _, .nil => .cons h .nil
  | _, _, .cons x t => .cons x (All2.snoc h t)
theorem All2.length {α β : Type} {F : α → β → Prop} : ∀ {l : List α} {m : List β}, All2 F l m → l.length = m.length
  | _, _, .nil => rfl
  | _, _, .cons _ t => by rw [List.length_cons, List.length_cons, All2.length t]
theorem All2.get {α β : Type} {F : α → β → Prop} : ∀ {l : List α} {m : List β} {j : Nat} {x : α}, All2 F l m → l[j]? = some x → ∃ y, m[j]? = some y ∧ F x y
  | _, _, 0, _, .cons h _, e => ⟨_, rfl, by cases e; exact h⟩
  | _, _, j + 1, _, .cons _ t, e => by
    rw [List.getElem?_cons_succ] at e
    obtain ⟨d, e1, e2⟩ := All2.get t e
    exact ⟨d, by rw [List.getElem?_cons_succ]; exact e1, e2⟩

mutual
noncomputable def okD : Dt → Prop
  | .flat _ => True
  | .tup l => l.length ≤ 100000 ∧ okDs l
  | .lst l => l.length ≤ 100000 ∧ okDs l
noncomputable def okDs : List Dt → Prop
  | [] => True
  | x :: xs => okD x ∧ okDs xs
end
theorem okDs_get : ∀ {l : List Dt} {j : Nat} {a : Dt}, okDs l → l[j]? = some a → okD a
  | x :: xs, 0, a, o, h => by
    cases h
    exact o.1
  | x :: xs, j + 1, a, o, h => by
    rw [List.getElem?_cons_succ] at h
    exact okDs_get o.2 h
theorem okDs_map {α : Type} {f : α → Dt} : ∀ {l : List α}, (∀ x ∈ l, okD (f x)) → okDs (l.map f)
  | [], _ => trivial
  | x :: xs, h => ⟨h x (by simp), okDs_map fun y hy => h y (by simp [hy])⟩
theorem depDs_map {α : Type} {f : α → Dt} {n : Nat} : ∀ {l : List α}, (∀ x ∈ l, depD (f x) ≤ n) → depDs (l.map f) ≤ n
  | [], _ => Nat.zero_le _
  | x :: xs, h => Nat.max_le.mpr ⟨h x (by simp), depDs_map fun y hy => h y (by simp [hy])⟩

noncomputable def prL (p : Str × Int) : Dt := .tup [.flat (.str p.1), .flat (.int p.2)]
noncomputable def prD (l : List (Str × Int)) : Dt := .tup (l.map prL)
inductive Us where
  | num (a p s : Int)
  | call (a p s x y : Int)
  | take (a p s : Int) (l : List (Str × Int))
  | case (a p s : Int) (l : List (Str × Int))
  | row (a p s x : Int)
noncomputable def hdD (n : Str) (a p s : Int) : List Dt := [.flat (.str n), .flat (.int a), .flat (.int p), .flat (.int s)]
noncomputable def Us.d : Us → Dt
  | .num a p s => .tup (hdD "num" a p s)
  | .call a p s x y => .tup (hdD "call" a p s ++ [.flat (.int x), .flat (.int y)])
  | .take a p s l => .tup (hdD "take" a p s ++ [prD l])
  | .case a p s l => .tup (hdD "case" a p s ++ [prD l])
  | .row a p s x => .tup (hdD "row" a p s ++ [.flat (.int x)])
noncomputable def Us.ok : Us → Prop
  | .take _ _ _ l => l.length ≤ 10
  | .case _ _ _ l => l.length ≤ 10
  | _ => True
structure Mkg where
  s : Str
  f : Dt
  a : Int
  p : Int
noncomputable def Mkg.d (m : Mkg) : Dt := .tup [.flat (.str m.s), m.f, .flat (.int m.a), .flat (.int m.p)]
theorem prD_dep (l : List (Str × Int)) : depD (prD l) ≤ 2 := by
  have h : ∀ l : List (Str × Int), depDs (l.map prL) ≤ 1 := by
    intro l
    induction l with
    | nil => exact Nat.zero_le _
    | cons x t ih => exact Nat.max_le.mpr ⟨by simp [prL, depD, depDs], ih⟩
  exact Nat.succ_le_succ (h l)
theorem Us.dep (u : Us) : depD u.d ≤ 3 := by
  cases u with
  | num a p s => simp [Us.d, hdD, depD, depDs]
  | call a p s x y => simp [Us.d, hdD, depD, depDs]
  | take a p s l => have := prD_dep l; simp [Us.d, hdD, depD, depDs]; omega
  | case a p s l => have := prD_dep l; simp [Us.d, hdD, depD, depDs]; omega
  | row a p s x => simp [Us.d, hdD, depD, depDs]

theorem prD_ok {l : List (Str × Int)} (h : l.length ≤ 10) : okD (prD l) := ⟨by rw [List.length_map]; omega, okDs_map fun x _ => ⟨by show 2 ≤ 100000; decide, trivial, trivial, trivial⟩⟩
theorem Us.okd {u : Us} (h : u.ok) : okD u.d := by
  cases u with
  | num a p s => exact ⟨by show 4 ≤ 100000; decide, trivial, trivial, trivial, trivial, trivial⟩
  | call a p s x y => exact ⟨by show 6 ≤ 100000; decide, trivial, trivial, trivial, trivial, trivial, trivial, trivial⟩
  | take a p s l => exact ⟨by show 5 ≤ 100000; decide, trivial, trivial, trivial, trivial, prD_ok h, trivial⟩
  | case a p s l => exact ⟨by show 5 ≤ 100000; decide, trivial, trivial, trivial, trivial, prD_ok h, trivial⟩
  | row a p s x => exact ⟨by show 5 ≤ 100000; decide, trivial, trivial, trivial, trivial, trivial, trivial⟩

noncomputable def fU (a p s : V) : List (Str × V) := [("at", a), ("place", p), ("slot", s)]
noncomputable def fU1 (n : Str) (a p s x : V) : List (Str × V) := [("at", a), ("place", p), ("slot", s), (n, x)]
noncomputable def fU2 (a p s x y : V) : List (Str × V) := [("at", a), ("place", p), ("slot", s), ("arg", x), ("out", y)]
noncomputable def fM (s f a p : V) : List (Str × V) := [("shape", s), ("parts", f), ("at", a), ("place", p)]
noncomputable def fB (p0 p1 p2 p3 : Addr) (r : V) : List (Str × V) := [("points", .ref p0), ("makes", .ref p1), ("uses", .ref p2), ("flows", .ref p3), ("root", r)]
structure Cs where
  M : Addr
  N : Addr
  C : Addr
  T : Addr
  K : Addr
  R : Addr
  B : Addr
noncomputable def UsAt (c : Cs) (H : Hp) (v : V) : Us → Prop
  | .num a p s => ∃ x dx, v = .ref x ∧ H x = some (.ins c.N dx (fU (.int a) (.int p) (.int s)))
  | .call a p s y z => ∃ x dx, v = .ref x ∧ H x = some (.ins c.C dx (fU2 (.int a) (.int p) (.int s) (.int y) (.int z)))
  | .take a p s l => ∃ x dx f, v = .ref x ∧ H x = some (.ins c.T dx (fU1 "fields" (.int a) (.int p) (.int s) f)) ∧ Im H f (prD l) ∧ l.length ≤ 10
  | .case a p s l => ∃ x dx f, v = .ref x ∧ H x = some (.ins c.K dx (fU1 "arms" (.int a) (.int p) (.int s) f)) ∧ Im H f (prD l) ∧ l.length ≤ 10
  | .row a p s y => ∃ x dx, v = .ref x ∧ H x = some (.ins c.R dx (fU1 "out" (.int a) (.int p) (.int s) (.int y)))
noncomputable def MkAt (c : Cs) (H : Hp) (v : V) (m : Mkg) : Prop := ∃ x dx f, v = .ref x ∧ H x = some (.ins c.M dx (fM (.str m.s) f (.int m.a) (.int m.p))) ∧ Im H f m.f ∧ depD m.f ≤ 2 ∧ okD m.f
noncomputable def Fz : HO → Prop
  | .tup _ => True
  | .ins _ _ fs => fs.length ≠ 5 ∨ ∃ v r, fs = (("at" : Str), v) :: r
  | _ => False
noncomputable def FK (H H' : Hp) : Prop := ∀ a o, H a = some o → Fz o → H' a = some o
theorem FK.tk {H H' : Hp} (k : FK H H') : TK H H' := fun a xs e => k a _ e trivial
theorem Same.fk {H H' : Hp} (s : Same H H') : FK H H' := fun a o e _ => s a o e
theorem FK.trans {H H1 H2 : Hp} (a : FK H H1) (b : FK H1 H2) : FK H H2 := fun c o e f => b c o (a c o e f) f
theorem UsAt.mono {c : Cs} {H H' : Hp} {v : V} (k : FK H H') : ∀ {u : Us}, UsAt c H v u → UsAt c H' v u
  | .num _ _ _, ⟨x, dx, e, h⟩ => ⟨x, dx, e, k _ _ h (.inr ⟨_, _, rfl⟩)⟩
  | .call _ _ _ _ _, ⟨x, dx, e, h⟩ => ⟨x, dx, e, k _ _ h (.inr ⟨_, _, rfl⟩)⟩
  | .take _ _ _ _, ⟨x, dx, f, e, h, i, n⟩ => ⟨x, dx, f, e, k _ _ h (.inr ⟨_, _, rfl⟩), i.mono k.tk, n⟩
  | .case _ _ _ _, ⟨x, dx, f, e, h, i, n⟩ => ⟨x, dx, f, e, k _ _ h (.inr ⟨_, _, rfl⟩), i.mono k.tk, n⟩
  | .row _ _ _ _, ⟨x, dx, e, h⟩ => ⟨x, dx, e, k _ _ h (.inr ⟨_, _, rfl⟩)⟩
theorem UsAt.ok {c : Cs} {H : Hp} {v : V} : ∀ {u : Us}, UsAt c H v u → u.ok
  | .num _ _ _, _ => trivial
  | .call _ _ _ _ _, _ => trivial
  | .take _ _ _ _, ⟨_, _, _, _, _, _, n⟩ => n
  | .case _ _ _ _, ⟨_, _, _, _, _, _, n⟩ => n
  | .row _ _ _ _, _ => trivial
theorem MkAt.mono {c : Cs} {H H' : Hp} {v : V} {m : Mkg} (k : FK H H') : MkAt c H v m → MkAt c H' v m
  | ⟨x, dx, f, e, h, i, d⟩ => ⟨x, dx, f, e, k _ _ h (.inl (by show 4 ≠ 5; decide)), i.mono k.tk, d⟩

theorem lc_gen {J : It} {i : Nat} {te : TE} {Q : VK} {τ : St} {H1 : Hp} {D : Addr} (n : Nat) (hn : n < sizeLine) (R : List V → Hp → Prop) (hR : ∀ xs H H', R xs H → TK H H' → R xs H') (hD : H1 D = none) (hτ : τ.set i none = τ)
    (hgo : ∀ k H, Same H1 H → k < n → J.go k H) (hst : ∀ H, Same H1 H → J.stop n H) (h0 : R [] H1)
    (step : ∀ k H v H3 xs (Z : VK), Same H1 H → k < n → J.yld k H v H3 → R xs H → xs.length = k → (∀ y H5, Same H H5 → R (xs ++ [y]) H5 → Z y H5) → te (τ.set i (some v)) H3 Z)
    (hq : ∀ H' xs, Same H1 H' → R xs H' → xs.length = n → H' D = some (.lst xs) → Q (.ref D) H') : LcP J i tAlways te Q τ H1 D := by
  have nd : ∀ (H5 : Hp) (xs ys : List V), H5 D = some (.lst xs) → TK H5 (upd H5 D (.lst ys)) := fun H5 xs ys e a zs q => by rw [upd_ne (ne_of q e (fun z => nomatch z))]; exact q
  have up : ∀ {H : Hp} (o : HO), Same H1 H → Same H1 (upd H D o) := fun {H} o S b u e => by rw [upd_ne (ne_of_none e hD)]; exact S b u e
  refine ⟨fun k m σ' H2 => m = n - k ∧ k ≤ n ∧ (∃ o, σ' = τ.set i o) ∧ Same H1 H2 ∧ ∃ xs, H2 D = some (.lst xs) ∧ xs.length = k ∧ R xs H2, ⟨n, by simp, Nat.zero_le _, ⟨none, hτ.symm⟩, same_new hD _, [], upd_same, rfl, hR _ _ _ h0 (Same.tk (same_new hD _))⟩, ?_⟩
  rintro k m σ' H2 ⟨rfl, hk, ⟨o, rfl⟩, S, xs, e, hl, hr⟩
  by_cases hlt : k < n
  · refine .inr ⟨hgo k H2 S hlt, fun v H3 y => ?_⟩
    rw [List.set_set]
    refine step k H2 v H3 xs _ S hlt y hr hl fun y H5 S5 r5 => ?_
    refine ⟨xs, S5 D _ e, by omega, n - (k + 1), by omega, rfl, hlt, ⟨some v, rfl⟩, up _ (S.trans S5), xs ++ [y], upd_same, by rw [List.length_append, hl]; rfl, hR _ _ _ r5 (nd H5 _ _ (S5 D _ e))⟩
  · have e1 : k = n := by omega
    subst e1
    exact .inl ⟨hst H2 S, hq H2 xs S hr hl e⟩
theorem go_lst {K : PySem.W.Frag} {a : Addr} {xs : List V} {k : Nat} {H1 H : Hp} (e : H1 a = some (.lst xs)) (S : Same H1 H) (h : k < xs.length) : (Itl K a).go k H := ⟨xs, xs[k], SqL.of (S a _ e), List.getElem?_eq_getElem h⟩
theorem st_lst {K : PySem.W.Frag} {a : Addr} {xs : List V} {H1 H : Hp} (e : H1 a = some (.lst xs)) (S : Same H1 H) : (Itl K a).stop xs.length H := ⟨xs, SqL.of (S a _ e), Nat.le_refl _⟩
theorem go_tup {K : PySem.W.Frag} {a : Addr} {xs : List V} {k : Nat} {H1 H : Hp} (e : H1 a = some (.tup xs)) (S : Same H1 H) (h : k < xs.length) : (Itt K a).go k H := ⟨xs, xs[k], SqT.of (S a _ e), List.getElem?_eq_getElem h⟩
theorem st_tup {K : PySem.W.Frag} {a : Addr} {xs : List V} {H1 H : Hp} (e : H1 a = some (.tup xs)) (S : Same H1 H) : (Itt K a).stop xs.length H := ⟨xs, SqT.of (S a _ e), Nat.le_refl _⟩
inductive Ls (H : Hp) : List Addr → List (List V) → Prop
  | nil : Ls H [] []
  | cons {a : Addr} {c : List V} {l : List Addr} {m : List (List V)} : H a = some (.lst c) → Ls H l m → Ls H (a :: l) (c :: m)
theorem Ls.frame {H H' : Hp} {M : List Addr} (k : ∀ a o, H a = some o → a ∉ M → H' a = some o) : ∀ {l : List Addr} {m : List (List V)}, Ls H l m → (∀ a ∈ l, a ∉ M) → Ls H' l m
  | _, _, .nil, _ => .nil
  | _, _, .cons (a := a) h t, n => .cons (k _ _ h (n a (by simp))) (Ls.frame k t fun b hb => n b (by simp [hb]))
theorem Ls.get {H : Hp} : ∀ {l : List Addr} {m : List (List V)} {i : Nat} {a : Addr}, Ls H l m → l[i]? = some a → ∃ c, m[i]? = some c ∧ H a = some (.lst c)
  | _, _, 0, _, .cons h _, e => ⟨_, rfl, by cases e; exact h⟩
  | _, _, j + 1, _, .cons _ t, e => by
    rw [List.getElem?_cons_succ] at e
    obtain ⟨d, e1, e2⟩ := Ls.get t e
    exact ⟨d, by rw [List.getElem?_cons_succ]; exact e1, e2⟩
structure Sd where
  b : Addr
  dx : Addr
  p0 : Addr
  p1 : Addr
  p2 : Addr
  p3 : Addr
  d : Addr
  q0 : Addr
  q1 : Addr
  q2 : Addr
  q3 : Addr
noncomputable def Sd.ls (S : Sd) : List Addr := [S.p0, S.p1, S.p2, S.p3, S.d, S.q0, S.q1, S.q2, S.q3]
structure Bd where
  pts : List Int
  mks : List Mkg
  uss : List Us
  fls : List (Int × Int)
  root : Int
noncomputable def flD (p : Int × Int) : Dt := .tup [.flat (.int p.1), .flat (.int p.2)]
structure BSx (c : Cs) (H : Hp) (S : Sd) (E D : Bd) : Prop where
  nd : S.ls.Nodup
  ob : H S.b = some (.ins c.B S.dx (fB S.p0 S.p1 S.p2 S.p3 (.int D.root)))
  st : ∃ mv uv fv mv' uv' fv' : List V, Ls H S.ls [D.pts.map V.int, mv, uv, fv, [.ref S.q0, .ref S.q1, .ref S.q2, .ref S.q3, .int E.root], E.pts.map V.int, mv', uv', fv'] ∧
    All2 (MkAt c H) mv D.mks ∧ All2 (UsAt c H) uv D.uss ∧ Ims H fv (D.fls.map flD) ∧ Ims H mv' (E.mks.map Mkg.d) ∧ Ims H uv' (E.uss.map Us.d) ∧ Ims H fv' (E.fls.map flD)
theorem Ls.at {H : Hp} {l : List Addr} {m : List (List V)} (L : Ls H l m) {i : Nat} {a : Addr} {c : List V} (h1 : l[i]? = some a) (h2 : m[i]? = some c) : H a = some (.lst c) := by
  obtain ⟨d, e1, e2⟩ := L.get h1
  rw [h2] at e1
  cases e1
  exact e2
theorem fk_lst {H : Hp} {a : Addr} {xs : List V} {o : HO} (h : H a = some (.lst xs)) : FK H (upd H a o) := fun b u e f => by
  rw [upd_ne (ne_of e h (fun z => by rw [z] at f; exact f))]
  exact e
theorem fk_board {H : Hp} {a C dx p0 p1 p2 p3 : Addr} {r : V} {o : HO} (h : H a = some (.ins C dx (fB p0 p1 p2 p3 r))) : FK H (upd H a o) := fun b u e f => by
  rw [upd_ne (ne_of e h (fun z => by
    rw [z] at f
    rcases f with f | ⟨v, r, f⟩
    · exact f rfl
    · injection f with f _
      injection f with f _
      exact absurd f (by decide +kernel)))]
  exact e
section
variable {c : Cs} {H H' : Hp} {S : Sd} {E D : Bd}
theorem BSx.frame {M : List Addr} (B : BSx c H S E D) (k : ∀ a o, H a = some o → a ∉ M → H' a = some o) (hb : S.b ∉ M) (hl : ∀ a ∈ S.ls, a ∉ M) (fk : FK H H') : BSx c H' S E D := by
  obtain ⟨nd, ob, mv, uv, fv, mv', uv', fv', L, h1, h2, h3, h4, h5, h6⟩ := B
  exact ⟨nd, k _ _ ob hb, mv, uv, fv, mv', uv', fv', L.frame k hl, h1.imp fun _ _ => MkAt.mono fk, h2.imp fun _ _ => UsAt.mono fk, h3.mono fk.tk, h4.mono fk.tk, h5.mono fk.tk, h6.mono fk.tk⟩
end
theorem BSx.hl {c : Cs} {H : Hp} {S : Sd} {E D : Bd} {l : Addr} {xs : List V} {o : HO} (B : BSx c H S E D) (hn : l ∉ S.ls) (e : H l = some (.lst xs)) : BSx c (upd H l o) S E D := by
  refine B.frame (M := [l]) (fun a u q n => ?_) (fun z => ?_) (fun a ha z => ?_) (fk_lst e)
  · rw [upd_ne (fun z => n (by simp [z]))]; exact q
  · have z' : S.b = l := by simpa using z
    have q := B.ob
    rw [z', e] at q
    cases q
  · have z' : a = l := by simpa using z
    rw [z'] at ha
    exact hn ha
noncomputable def Bd.sm (D : Bd) (n : Nat) : Prop := D.pts.length ≤ n ∧ D.mks.length ≤ n ∧ D.uss.length ≤ n ∧ D.fls.length ≤ n
noncomputable def Hld (c : Cs) (H : Hp) (l : Addr) : Prop := H l = some (.lst []) ∨ ∃ x t u, H l = some (.lst [x, t]) ∧ UsAt c H x u ∧ Im H t (Us.d u)
noncomputable def Frm (M : List Addr) (H H' : Hp) : Prop := ∀ a o, H a = some o → a ∉ M → H' a = some o
theorem Frm.trans {M : List Addr} {H H1 H2 : Hp} (a : Frm M H H1) (b : Frm M H1 H2) : Frm M H H2 := fun c o e n => b c o (a c o e n) n
noncomputable def bdD (D : Bd) : Dt := .lst [.lst (D.pts.map fun i => .flat (.int i)), .lst (D.mks.map Mkg.d), .lst (D.uss.map Us.d), .lst (D.fls.map flD), .flat (.int D.root)]
theorem dtas_ints (H : Hp) : ∀ l : List Int, Dtas H (l.map V.int) (l.map fun i => .flat (.int i))
  | [] => .nil
  | _ :: t => .cons (.flat rfl) (dtas_ints H t)
theorem All2.right {α β : Type} {F : α → β → Prop} : ∀ {l : List α} {m : List β}, All2 F l m → ∀ y ∈ m, ∃ x, F x y
  | _, _, .nil, y, h => by simp at h
  | _, _, .cons f t, y, h => by
    rcases List.mem_cons.mp h with z | z
    · rw [z]; exact ⟨_, f⟩
    · exact All2.right t y z
end BO.Internal
namespace BO.Internal
open PySem L2.Internal
noncomputable def lk : List (Str × Int) → Str → Option Int
  | [], _ => none
  | p :: t, w => if p.1 = w then some p.2 else lk t w
noncomputable def pI (p : Str × Int) : Str × V := (p.1, .int p.2)
noncomputable def Dist (l : List (Str × Int)) : Prop := (l.map Prod.fst).Nodup
inductive Mf where
  | num
  | fn (x y : Int)
  | rcd (l : List (Str × Int))
  | tag (w : Str) (x : Int)
  | row (x : Int)
  | any
noncomputable def Mf.s : Mf → Str
  | .num => "num"
  | .fn _ _ => "fn"
  | .rcd _ => "rec"
  | .tag _ _ => "tag"
  | .row _ => "row"
  | .any => "any"
noncomputable def Mf.f : Mf → Dt
  | .num => .tup []
  | .fn x y => .tup [.flat (.int x), .flat (.int y)]
  | .rcd l => prD l
  | .tag w x => .tup [.flat (.str w), .flat (.int x)]
  | .row x => .tup [.flat (.int x)]
  | .any => .tup []
noncomputable def Mf.ok : Mf → Prop
  | .rcd l => l.length ≤ 10 ∧ Dist l
  | _ => True
noncomputable def mkg (m : Mf) (a p : Int) : Mkg := ⟨m.s, m.f, a, p⟩
noncomputable def Us.dist : Us → Prop
  | .take _ _ _ l => Dist l
  | .case _ _ _ l => Dist l
  | _ => True
noncomputable def fnd (m : List (Str × Int)) (p : Str × Int) : Option (Int × Int) := (lk m p.1).map fun x => (x, p.2)
noncomputable def taken (l m : List (Str × Int)) : Option (List (Int × Int)) := if (l.filterMap (fnd m)).length = l.length then some (l.filterMap (fnd m)) else none
noncomputable def meet : Us → Mf → Option (List (Int × Int))
  | .num _ _ _, .num => some []
  | .call _ _ _ x y, .fn a b => some [(x, a), (b, y)]
  | .take _ _ _ l, .rcd m => taken l m
  | .case _ _ _ l, .tag w x => (lk l w).map fun y => [(x, y)]
  | .row _ _ _ y, .row x => some [(x, y)]
  | _, _ => none
noncomputable def mtD : Option (List (Int × Int)) → Dt
  | none => .flat .non
  | some l => .lst (l.map flD)
end BO.Internal
namespace L2.Internal
open PySem PySem.Spec PyProof.Rows
section
variable {X : Cx} {e a b o f : Expr} {st : Stmt} {ta tb td ty tx to : TE} {pos apos cpos : Pos}
theorem PE.weak {t t' : TE} (h : PE X e t) (m : ∀ σ H Q, t' σ H Q → t σ H Q) : PE X e t' := fun pins s σ H Q I q => h pins s σ H Q I (m σ H Q q)
theorem PT.weak {t t' : TT} (h : PT X e t) (m : ∀ σ H Q, t' σ H Q → t σ H Q) : PT X e t' := fun pins s σ H Q I q => h pins s σ H Q I (m σ H Q q)
theorem OpR.weak {g : Value → Value → Sem Value} {r r' : R2} (h : OpR X g r) (m : ∀ x y H Q, r' x y H Q → r x y H Q) : OpR X g r' := fun pins s σ H x y v u Q I rx ry q => h pins s σ H x y v u Q I rx ry (m x y H Q q)
theorem IxR.weak {r r' : R2} (h : IxR X r) (m : ∀ x y H Q, r' x y H Q → r x y H Q) : IxR X r' := fun value slice pins s σ H x y v u Q I rx ry q hs => h value slice pins s σ H x y v u Q I rx ry (m x y H Q q) hs
noncomputable def mT (t : TE) : TE := fun σ H Q => ∃ Q0 : VK, t σ H Q0 ∧ ∀ x H1, Q0 x H1 → Q x H1
theorem PE.mono {t : TE} (h : PE X e t) : PE X e (mT t) := fun pins s σ H Q I ⟨Q0, h0, m⟩ => thn (h pins s σ H Q0 I h0) fun v s1 ⟨x, H1, I1, r1, q1⟩ => ⟨x, H1, I1, r1, m x H1 q1⟩
noncomputable def mR (r : R2) : R2 := fun x y H Q => ∃ Q0 : VK, r x y H Q0 ∧ ∀ x H1, Q0 x H1 → Q x H1
theorem OpR.mono {g : Value → Value → Sem Value} {r : R2} (h : OpR X g r) : OpR X g (mR r) := fun pins s σ H x y v u Q I rx ry ⟨Q0, h0, m⟩ => thn (h pins s σ H x y v u Q0 I rx ry h0) fun v s1 ⟨x, H1, I1, r1, q1⟩ => ⟨x, H1, I1, r1, m x H1 q1⟩
noncomputable def onV : Option (Option V) → (V → Prop) → Prop
  | some (some v), k => k v
  | _, _ => False
noncomputable def onS {α : Type} : Option α → (α → Prop) → Prop
  | some v, k => k v
  | none, _ => False
theorem onS_of {α : Type} {x : Option α} {v : α} {k : α → Prop} (h : x = some v) (q : k v) : onS x k := by rw [h]; exact q
theorem onS_ex {α : Type} {x : Option α} {k : α → Prop} (h : onS x k) : ∃ v, x = some v ∧ k v := by
  cases x with
  | none => exact h.elim
  | some v => exact ⟨v, rfl, h⟩
noncomputable def cV (i : Nat) : TE := fun σ H Q => onV σ[i]? fun v => Q v H
theorem cv (i : Nat) {x : Str} {pos : Pos} (hN : autoParam (X.N[i]? = some x) L2.Internal.auR._auto_1) (hv : Vis X.env.scope x := by first | exact Or.inl rfl | exact Or.inr (Or.inl rfl) | exact Or.inr (Or.inr rfl)) (hd : autoParam ((x == ("__debug__" : Str)) = false) L2.Internal.auD._auto_1)
    (hcd : autoParam ((x == ("__classdict__" : Str)) = false) L2.Internal.auD._auto_1) : PE X (.Name x pos) (cV i) := (pv i hN hv hd hcd).weak fun σ H Q h => by
  unfold cV at h
  cases q : σ[i]? with
  | none => rw [q] at h; exact h.elim
  | some o =>
    rw [q] at h
    cases o with
    | none => exact h.elim
    | some v => exact ⟨v, q, h⟩
noncomputable def cI0 (g : Int → Int → V) : R2 := fun x y H Q => match x, y with
  | .int i, .int j => Q (g i j) H
  | _, _ => False
noncomputable def cI (C : Int → Int → Prop) (g : Int → Int → V) : R2 := fun x y H Q => match x, y with
  | .int i, .int j => C i j ∧ Q (g i j) H
  | _, _ => False
theorem cI0_of {g : Int → Int → V} : ∀ x y H Q, cI0 g x y H Q → rI0 g x y H Q := fun x y H Q h => by
  unfold cI0 at h
  split at h
  · exact ⟨_, _, rfl, rfl, h⟩
  · exact h.elim
theorem cI_of {C : Int → Int → Prop} {g : Int → Int → V} : ∀ x y H Q, cI C g x y H Q → rI C g x y H Q := fun x y H Q h => by
  unfold cI at h
  split at h
  · exact ⟨_, _, rfl, rfl, h.1, h.2⟩
  · exact h.elim
theorem oc_add : OpR X (binaryOp .Add) (cI0 fun i j => .int (i + j)) := op_add.weak cI0_of
theorem oc_mul : OpR X (binaryOp .Mult) (cI CMul fun i j => .int (i * j)) := op_mul.weak cI_of
theorem oc_fdiv : OpR X (binaryOp .FloorDiv) (cI CDiv fun i j => .int (i / j)) := op_fdiv.weak cI_of
theorem oc_mod : OpR X (binaryOp .Mod) (cI (fun _ j => 0 < j) fun i j => .int (i % j)) := op_mod.weak cI_of
theorem oc_pow : OpR X (binaryOp .Pow) (cI CPow fun i j => .int (i ^ j.toNat)) := op_pow.weak cI_of
theorem oc_gt : OpR X (compareOp .Gt) (cI0 fun i j => .bl (decide (j < i))) := op_gt.weak cI0_of
noncomputable def cEq (n : Bool) : R2 := fun x y H Q => match x, y with
  | .int i, .int j => Q (.bl (xor n (decide (i = j)))) H
  | .str i, .str j => Q (.bl (xor n (decide (i = j)))) H
  | _, _ => False
theorem decS {i j : Str} : decide (V.str i = V.str j) = decide (i = j) := by
  rw [Bool.eq_iff_iff]
  simp
theorem decI {i j : Int} : decide (V.int i = V.int j) = decide (i = j) := by
  rw [Bool.eq_iff_iff]
  simp
theorem oc_eq : OpR X (compareOp .Eq) (cEq false) := op_eq.weak fun x y H Q h => by
  unfold cEq at h
  split at h
  · refine ⟨rfl, ?_⟩; rw [decI]; rw [Bool.false_xor] at h; exact h
  · refine ⟨rfl, ?_⟩; rw [decS]; rw [Bool.false_xor] at h; exact h
  · exact h.elim
noncomputable def onB : V → (Bool → Prop) → Prop
  | .bl k, q => q k
  | _, _ => False
theorem onB_ex {x : V} {k : Bool → Prop} (h : onB x k) : ∃ c, x = .bl c ∧ k c := by
  cases x <;> first | exact ⟨_, rfl, h⟩ | exact h.elim
noncomputable def cT (t : TE) : TT := fun σ H Q => t σ H fun x H' => onB x fun k => Q k H'
theorem ptc_cmpR {op : CmpOp} {r : R2} (ho : OpR X (compareOp op) r) (ha : PE X a ta) (hb : PE X b tb) (hm : behindInMarks op b = false) : PT X (.Compare a [op] [b] pos) (cT (tOp r ta tb)) :=
  (pt_cmpR ho.mono ha.mono hb.mono hm).weak fun σ H Q h => ⟨_, h, fun x H1 h1 => ⟨_, h1, fun y H2 h2 => ⟨_, h2, fun z H' h3 => onB_ex h3⟩⟩⟩
noncomputable def cIxL : R2 := fun x y H Q => match x, y with
  | .ref p, .int i => ∃ xs, H p = some (.lst xs) ∧ onS (atI xs i) fun v => Q v H
  | _, _ => False
noncomputable def cIxT : R2 := fun x y H Q => match x, y with
  | .ref p, .int i => ∃ xs, H p = some (.tup xs) ∧ onS (atI xs i) fun v => Q v H
  | _, _ => False
noncomputable def cIxS : R2 := fun x y H Q => match x, y with
  | .str z, .int i => z.length ≤ sizeLine ∧ onS (atI z.cps.toList i) fun c => Q (.str ⟨#[c]⟩) H
  | _, _ => False
theorem xc_list : IxR X cIxL := ix_list.weak fun x y H Q h => by
  unfold cIxL at h
  split at h
  · obtain ⟨xs, e, h⟩ := h
    obtain ⟨v, ev, h⟩ := onS_ex h
    exact ⟨_, xs, _, v, rfl, rfl, SqL.of e, ev, h⟩
  · exact h.elim
theorem xc_tup : IxR X cIxT := ix_tup.weak fun x y H Q h => by
  unfold cIxT at h
  split at h
  · obtain ⟨xs, e, h⟩ := h
    obtain ⟨v, ev, h⟩ := onS_ex h
    exact ⟨_, xs, _, v, rfl, rfl, SqT.of e, ev, h⟩
  · exact h.elim
noncomputable def Fd (H : Hp) (a C : Addr) (f : Str) (v : V) : Prop := ∃ dx fs, H a = some (.ins C dx fs) ∧ fs.lookup f = some v
noncomputable def Nf (H : Hp) (a C : Addr) (m : Str) : Prop := ∃ dx fs, H a = some (.ins C dx fs) ∧ fs.lookup m = none
noncomputable def cFld (C : Addr) (f : Str) (ta : TE) : TE := fun σ H Q => ta σ H fun x H1 => match x with
  | .ref a => ∃ v, Fd H1 a C f v ∧ Q v H1
  | _ => False
theorem pec_fld {C : Addr} {f : Str} (c : Cls X.K C) (n : NoAttr X.K C f) (he : PE X e ta) (hb : autoParam (attributeBase e f X.env (eval e X.env) = eval e X.env) L2.Internal.auR._auto_1) : PE X (.Attribute e f pos) (cFld C f ta) :=
  (pe_fld he.mono hb).weak fun σ H Q h => ⟨_, h, fun x H1 h1 => by
    cases x with
    | ref a =>
      obtain ⟨v, ⟨dx, fs, ea, ev⟩, q⟩ := h1
      exact ⟨a, C, dx, fs, v, rfl, ea, c, n, ev, q⟩
    | _ => exact h1.elim⟩
noncomputable def cMeth (C : Addr) (m : Str) (sp : Sp) (dvs : List V) (E : XK) (ta : TE) (t : TA) : TE := fun σ H Q => ta σ H fun x H1 => match x with
  | .ref a => Nf H1 a C m ∧ t σ H1 fun vs H2 => sp (.ref a :: (vs ++ dvs)) H2 Q E
  | _ => False
theorem pec_meth {C : Addr} {m : Str} {sp : Sp} {dvs : List V} {E : XK} {t : TA} (h : PE X e (tMeth C m sp dvs E (mT ta) t)) : PE X e (cMeth C m sp dvs E ta t) := h.weak fun σ H Q h => ⟨_, h, fun x H1 h1 => by
    cases x with
    | ref a =>
      obtain ⟨⟨dx, fs, ea, l⟩, q⟩ := h1
      exact ⟨a, dx, fs, rfl, ea, l, q⟩
    | _ => exact h1.elim⟩
noncomputable def csFld (C : Addr) (f : Str) (ta tv : TE) : TS := fun D σ H => tv σ H fun y H1 => ta σ H1 fun x H2 => match x with
  | .ref a => ∃ dx fs, H2 a = some (.ins C dx fs) ∧ fs.length < 1000 ∧ D.nx σ (upd H2 a (.ins C dx (putF f y fs)))
  | _ => False
noncomputable def cS : R2 := fun x y H Q => match x, y with
  | .str i, .str j => i.length + j.length ≤ sizeLine ∧ Q (.str (i ++ j)) H
  | _, _ => False
noncomputable def tDSet (td ty tx : TE) : TE := fun σ H Q => td σ H fun x H1 => ∃ a, x = .ref a ∧ IsD H1 a ∧ ty σ H1 fun y H2 => tx σ H2 fun z H3 => ∃ kvs k, H3 a = some (.dK kvs) ∧ y = kV k ∧ kvs.length < sizeLine ∧
  (∀ v, valV kvs k = some v → Q v H3) ∧ (valV kvs k = none → Q z (upd H3 a (.dK (putK kvs k z))))
noncomputable def cApp (to ta : TE) : TE := fun σ H Q => to σ H fun x H1 => match x with
  | .ref l => (∃ xs, H1 l = some (.lst xs)) ∧ ta σ H1 fun y H2 => ∃ xs, H2 l = some (.lst xs) ∧ xs.length < sizeLine ∧ Q .non (upd H2 l (.lst (xs ++ [y])))
  | _ => False
theorem pec_app (h : PE X e (tBM X.K "list" rAppend (mT to) (tCons (mT ta) tNil))) : PE X e (cApp to ta) := h.weak fun σ H Q h => ⟨_, h, fun x H1 h1 => by
    cases x with
    | ref l =>
      obtain ⟨⟨xs, e⟩, q⟩ := h1
      exact ⟨.inl ⟨rfl, xs, SqL.of e⟩, _, q, fun y H2 ⟨xs, e, hl, q2⟩ => ⟨l, xs, y, rfl, rfl, e, hl, q2⟩⟩
    | _ => exact h1.elim⟩
end
end L2.Internal
namespace BO.Internal
open PySem L2.Internal
noncomputable def wd : Bool → Str
  | true => "goes"
  | false => "here"
structure Rw where
  w : Bool
  a : Int
  b : Int
  y : Option (Int × Int)
noncomputable def Rw.k (r : Rw) : List Key := [.inr (wd r.w), .inl r.a, .inl r.b]
noncomputable def whyD : Option (Int × Int) → Dt
  | none => .flat .non
  | some p => flD p
noncomputable def Rw.d (r : Rw) : Dt := .tup [.flat (.str (wd r.w)), .flat (.int r.a), .flat (.int r.b), whyD r.y]
noncomputable def Rw.ok (N M : Int) (r : Rw) : Prop := 0 ≤ r.a ∧ (r.a < match r.w with | true => N | false => M) ∧ 0 ≤ r.b ∧ r.b < N
noncomputable def Rw.c (r : Rw) : Nat := (match r.w with | true => 0 | false => 4096) + r.a.toNat * 64 + r.b.toNat
noncomputable def ixn (A : Nat → Option Int) (p : Int) (n : Nat) : List Int := ((List.range n).filter fun j => decide (A j = some p)).map fun j => ((j : Nat) : Int)
noncomputable def bdn (A : Nat → Option Int) (q : Int → Bool) (p k : Int) (n : Nat) : List (Int × Int) := ((ixn A p n).filter q).map fun j => (k, j)
noncomputable def dueN (f : Rw → Int → List (Int × Int)) (R : List Rw) : Nat → List (Int × Int)
  | 0 => []
  | n + 1 => dueN f R n ++ match R[n]? with
    | some r => f r n
    | none => []
structure DL (H : Hp) (d : Addr) (L : List Addr) (f : Int → List V) (k : Nat) : Prop where
  ex : ∃ kvs : List (Key × V), H d = some (.dK kvs) ∧ kvs.length ≤ k ∧ (∀ p, valV kvs (.inl p) = none → f p = []) ∧
    (∀ p v, valV kvs (.inl p) = some v → ∃ l, l ∈ L ∧ v = .ref l ∧ H l = some (.lst (f p))) ∧ (∀ p q v, valV kvs (.inl p) = some v → valV kvs (.inl q) = some v → p = q)
noncomputable def putf (f : Int → List V) (p : Int) (x : V) : Int → List V := fun q => if q = p then f p ++ [x] else f q
structure Sda (H : Hp) (d : Addr) (L : List Addr) (f : Int → List V) (k : Nat) (p : Int) (l : Addr) (H1 : Hp) : Prop where
  here : H1 l = some (.lst (f p))
  fin : ∀ H2 x, Same H1 H2 → ∃ L', (∀ a ∈ L', a ∈ L ∨ a = l) ∧ DL (upd H2 l (.lst (f p ++ [x]))) d L' (putf f p x) (k + 1)
  fr : ∀ a o, H a = some o → a ≠ d → H1 a = some o
  own : l ∈ L ∨ H l = none
end BO.Internal
namespace BO.Internal
open PySem L2.Internal
open Classical in
noncomputable def putR (R : List Rw) (ρ : Rw) : List Rw := if ρ.k ∈ R.map Rw.k then R else R ++ [ρ]
noncomputable def putsR (R l : List Rw) : List Rw := l.foldl putR R
noncomputable def gosF (p : Int) (r : Rw) (n : Int) : List (Int × Int) := if r.w = true ∧ r.a = p then [(n, r.b)] else []
noncomputable def herF (p : Int) (r : Rw) (n : Int) : List (Int × Int) := if r.w = false ∧ r.b = p then [(n, r.a)] else []
end BO.Internal
namespace L2.Internal
open PySem PySem.Spec PyProof.Rows
section
variable {X : Cx}
theorem vals_mem : ∀ {xs : List V} {us : List Value} {u : Value}, Vals xs us → u ∈ us → ∃ (j : Nat) (x : V), xs[j]? = some x ∧ RelV x u
  | _, _, _, .nil, h => by cases h
  | x :: xs, v :: us, u, .cons r t, h => by
    rcases List.mem_cons.mp h with e | h
    · subst e; exact ⟨0, x, rfl, r⟩
    · obtain ⟨j, y, e, r'⟩ := vals_mem t h
      exact ⟨j + 1, y, e, r'⟩
noncomputable def rInD (K : PySem.W.Frag) : R2 := fun x y H Q => ∃ p xs ds d, y = .ref p ∧ SqL K H p xs ∧ Ats K H xs ds ∧ At K H x d ∧ (∀ e ∈ ds, cmpD e d = true ∧ depD e ≤ 100) ∧ (∃ (j : Nat) (e : Dt), ds[j]? = some e ∧ eqD e d = true) ∧ Q (.bl true) H
end
end L2.Internal
namespace L2.Internal
open PySem PySem.Spec PyProof.Rows
section
variable {X : Cx}
theorem bt_sorted : bootBuiltins "sorted" = some (.builtin "sorted") := by decide +kernel
end
section
variable {X : Cx} {pins : List (Addr × Obj)} {σ : St} {H : Hp} {s : Shared}
noncomputable def rEqE (K : PySem.W.Frag) (neg : Bool) : R2 := fun x y H Q => ∃ a b l m, x = .ref a ∧ y = .ref b ∧ At K H x (.tup l) ∧ At K H y (.tup m) ∧ cmpDs l m = true ∧ depDs l ≤ 200 ∧ Q (.bl (if neg then !eqDs l m else eqDs l m)) H
end
section
variable {prog : Program} {w : World} {A : Around} {R : Result → Shared → Prop} {I : Addr} {fp wr : List Addr} {n : Nat} {P : Nat → Value → Prop} {St : Nat → Heap → Prop}
end
section
variable {prog : Program} {w : World} {A : Around} {E : Value → Shared → Prop} {s : Shared} {l : Addr} {xs : Array (Int × Tok)}
end
section
variable {X : Cx}
noncomputable def tMaxD (K : PySem.W.Frag) (ta : TA) (td : TE) : TE := fun σ H Q => ta σ H fun vs H1 => td σ H1 fun x H2 => ∃ (a : Addr) (ns : List Int) (i : Int), vs = [.ref a] ∧ x = .int i ∧ SqL K H2 a (ns.map V.int) ∧ ∀ n, Q (.int n) H2
end
end L2.Internal
namespace L2.Internal
open PySem PySem.Spec PyProof.Rows
section
variable {X : Cx}
end
end L2.Internal
namespace L2.Internal
open PySem PySem.Spec PyProof.Rows PySem.W
noncomputable def KG {α : Type} (n : Nat) (P : α → Prop) : KasT α → Prop
  | .ret a => P a
  | .ask i j k => i < n ∧ j < n ∧ ∀ b, KG n P (k b)
theorem KG.bind {α β : Type} {n : Nat} {P : α → Prop} {R : β → Prop} {f : α → KasT β} : ∀ (t : KasT α), KG n P t → (∀ a, P a → KG n R (f a)) → KG n R (t.bind f)
  | .ret a, h, g => g a h
  | .ask _ _ k, h, g => ⟨h.1, h.2.1, fun b => KG.bind (k b) (h.2.2 b) g⟩
theorem KG.wp {α : Type} {n : Nat} {P : α → Prop} {cmp : Nat → Nat → (Bool → Shared → Prop) → Shared → Prop} {Q : α → Shared → Prop} {s : Shared} (hc : ∀ i j C, i < n → j < n → (∀ b, C b s) → cmp i j C s) (hq : ∀ a, P a → Q a s) :
    ∀ (t : KasT α), KG n P t → t.kasWp cmp Q s
  | .ret a, h => hq a h
  | .ask i j k, h => hc i j _ h.1 h.2.1 fun b => KG.wp hc hq (k b) (h.2.2 b)
noncomputable def PmN (n : Nat) (p : Array Nat) : Prop := p.Perm (List.toArray (List.range n))
theorem PmN.lt {n : Nat} {p : Array Nat} (h : PmN n p) (h0 : 0 < n) (k : Nat) : p.getD k 0 < n := by
  rw [Array.getD]
  split
  · rename_i hk
    have m : p[k] ∈ p.toList := by simp
    have := (Array.perm_iff_toList_perm.mp h).mem_iff.mp m
    simpa using this
  · exact h0
theorem PmN.rev {n : Nat} {p : Array Nat} (h : PmN n p) (i j : Nat) : PmN n (kas_rev p i j) := (mirror_perm p i j _).trans h
theorem kg_asc {n : Nat} {p : Array Nat} (h : PmN n p) (h0 : 0 < n) : ∀ f m, KG n (fun _ => True) (kas_asc p f m)
  | 0, _ => trivial
  | f + 1, m => ⟨h.lt h0 _, h.lt h0 _, fun b => by
    cases b with
    | true => exact trivial
    | false => exact kg_asc h h0 f (m + 1)⟩
theorem kg_desc {n : Nat} (h0 : 0 < n) : ∀ f p m q, PmN n p → KG n (fun r => PmN n r.1) (kas_desc f p m q)
  | 0, _, _, _, h => h
  | f + 1, p, m, q, h => ⟨h.lt h0 _, h.lt h0 _, fun b => by
    cases b with
    | true =>
      dsimp only
      rw [if_pos rfl]
      by_cases hq : q > 0
      · rw [if_pos hq]; exact kg_desc h0 f _ _ _ (h.rev _ _)
      · rw [if_neg hq]; exact kg_desc h0 f _ _ _ h
    | false =>
      dsimp only
      rw [if_neg Bool.false_ne_true]
      refine ⟨h.lt h0 _, h.lt h0 _, fun d => ?_⟩
      cases d with
      | true => exact h
      | false => exact kg_desc h0 f _ _ _ h⟩
theorem kg_tail {n : Nat} (h0 : 0 < n) {m r : Nat} {p : Array Nat} (h : PmN n p) : KG n (fun r => PmN n r.2) (kas_tail3 m r p) :=
  KG.bind _ (kg_asc (h.rev _ _) h0 _ _) fun _ _ => h.rev _ _
theorem kg_part {n : Nat} (h0 : 0 < n) {m r : Nat} {p : Array Nat} (h : PmN n p) : KG n (fun r => PmN n r.2) (kas_descPart m r p) := by
  refine KG.bind _ (kg_desc h0 _ _ _ _ h) fun a ha => ?_
  by_cases hq : a.2.2 > 0
  · rw [if_pos hq]; exact kg_tail h0 (ha.rev _ _)
  · rw [if_neg hq]; exact kg_tail h0 ha
theorem kg_count {n : Nat} (h0 : 0 < n) {r : Nat} {p : Array Nat} (h : PmN n p) : KG n (fun r => PmN n r.2) (kas_count r p) := by
  refine KG.bind _ (kg_asc h h0 _ _) fun a _ => ?_
  by_cases h1 : (a == r) = true
  · rw [if_pos h1]; exact h
  · rw [if_neg h1]
    by_cases h2 : a > 1
    · rw [if_pos h2]
      refine ⟨h.lt h0 _, h.lt h0 _, fun b => ?_⟩
      cases b with
      | true => exact h
      | false => exact kg_part h0 (h.rev _ _)
    · rw [if_neg h2]; exact kg_part h0 h
theorem kg_place {n : Nat} {p : Array Nat} (h : PmN n p) (h0 : 0 < n) (k : Nat) : ∀ f l r, KG n (fun _ => True) (kas_place p k f l r)
  | 0, _, _ => trivial
  | f + 1, l, r => by
    rw [kas_place]
    by_cases hl : l ≥ r
    · rw [if_pos hl]; exact trivial
    · rw [if_neg hl]
      refine ⟨h.lt h0 _, h.lt h0 _, fun b => ?_⟩
      cases b with
      | true => exact kg_place h h0 k f _ _
      | false => exact kg_place h h0 k f _ _
theorem kg_bin {n : Nat} (h0 : 0 < n) : ∀ f p k, PmN n p → KG n (PmN n) (kas_bin f p k)
  | 0, _, _, h => h
  | f + 1, p, k, h => KG.bind _ (kg_place h h0 k k 0 k) fun l _ => kg_bin h0 f _ _ ((bubble_perm p k (k - l)).trans h)
theorem kg_sort {n : Nat} (h0 : 0 < n) : KG n (PmN n) (kas_sort n) := by
  refine KG.bind _ (kg_count h0 (Array.Perm.refl _)) fun r hr => ?_
  by_cases h : r.1 < n
  · rw [if_pos h]; exact kg_bin h0 _ _ _ hr
  · rw [if_neg h]; exact hr
theorem pm_out {n : Nat} {p : Array Nat} (h : PmN n p) {vs : List Value} (hv : vs.length = n) : (p.toList.map fun i => vs.getD i Value.none).Perm vs := by
  have h1 := (Array.perm_iff_toList_perm.mp h).map fun i => vs.getD i Value.none
  have e : (List.range n).map (fun i => vs.getD i Value.none) = vs := by
    apply List.ext_getElem?
    intro i
    rw [List.getElem?_map]
    by_cases hi : i < n
    · rw [List.getElem?_range hi]
      have h' : i < vs.length := by omega
      simp [List.getElem?_eq_getElem h']
    · rw [List.getElem?_eq_none (by simp; omega), List.getElem?_eq_none (by omega)]
      rfl
  rw [show (List.toArray (List.range n)).toList = List.range n from rfl, e] at h1
  exact h1
section
variable {prog : Program} {w : World} {A : Around} {E : Value → Shared → Prop} {s : Shared}
noncomputable def Sortable (prog : Program) (w : World) (A : Around) (vs : List Value) (s : Shared) : Prop :=
  ∃ κ, (∀ (Q : SortKind → Shared → Prop) (E : Value → Shared → Prop), Q κ s → wpAny (model prog w) A (keyKind' vs.toArray) Q E s) ∧ ∀ i j C, i < vs.length → j < vs.length → (∀ b, C b s) → kas_ask prog w A κ vs i j C s
theorem lsort_any {a : Addr} {vs : List Value} {n : Nat} {P : PySem.Fin → Shared → Prop} (ho : s.heap.get? a = some (seqObj "list" vs.toArray n)) (h2 : 2 ≤ vs.length) (h64 : vs.length < 64)
    (hk : ∀ h', (∀ b o, b ≠ a → s.heap.get? b = some o → h'.get? b = some o) → Sortable prog w A vs { s with heap := h' })
    (hq : ∀ out : List Value, out.Perm vs → P (.done (.ret .none)) { s with heap := sortedHeap s.heap a vs (List.toArray out) }) : wpAny (model prog w) A (Builtin.«list.sort» ⟨[.ref a], []⟩) P E s := by
  have lt : a < s.heap.objs.size := Heap.lt_size ho
  obtain ⟨e1, g1⟩ : ∃ e1, (s.heap.update a (Obj.mapSeq fun _ => (#[] : Array Value))).get? a = some (seqObj "list" #[] e1) := ⟨_, get?_update_seq ho fun _ => #[]⟩
  have old : ∀ b o, b ≠ a → s.heap.get? b = some o → (((s.heap.update a (Obj.mapSeq fun _ => (#[] : Array Value))).push (seqObj "tuple" vs.toArray 0)).push (seqObj "list" #[] 0)).get? b = some o := fun b o nb e =>
    Heap.get?_push_of_some _ (Heap.get?_push_of_some _ ((Heap.get?_update_ne _ _ _ _ nb).trans e))
  have g2 : (((s.heap.update a (Obj.mapSeq fun _ => (#[] : Array Value))).push (seqObj "tuple" vs.toArray 0)).push (seqObj "list" #[] 0)).get? a = some (seqObj "list" #[] e1) := Heap.get?_push_of_some _ (Heap.get?_push_of_some _ g1)
  obtain ⟨κ, k1, k2⟩ := hk _ old
  rw [list_sort_plain]
  refine wpAny_bind (listItems_at ho rfl (wpAny_bind (listUpdate_at ho rfl ?_ (by rw [List.size_toArray, sizeLine_eq]; omega) (Nat.zero_le _))))
  refine wpAny_bind (seqEpoch_at g1 rfl (wpAny_bind (wpAny_newTuple ?_ (by show vs.length ≤ _; rw [sizeLine_eq]; omega))))
  refine wpAny_bind (wpAny_newList (wpAny_holding ?_) (Nat.zero_le _))
  dsimp only
  have n2 : ¬ vs.toArray.size < 2 := by rw [List.size_toArray]; omega
  rw [if_neg n2, if_neg n2]
  refine wpAny_bind (k1 _ _ ?_)
  refine wpAny_bind (wpAny_mono (kat_run (vs := vs) (ks := vs) (κ := κ) (G := fun p s' => PmN vs.length p ∧ s' = _) (Q := fun st' s' => ∃ p : Array Nat, PmN vs.length p ∧ arrOf st' = p.map (kas_item (vs.toArray.zip vs.toArray)) ∧ failedOf st' = none ∧ s' = _) rfl h2 h64 (fun p st' s' _ b1 b2 b3 => ⟨p, b3.1, b1, b2, b3.2⟩)
    (KG.wp k2 (fun p hp => ⟨hp, rfl⟩) _ (kg_sort (by omega)))) ?_ fun _ _ e => e)
  rintro ⟨⟨⟩, st'⟩ s' ⟨p, hp, har, hf, rfl⟩
  dsimp only
  rw [kat_snds rfl har]
  have po := pm_out hp (vs := vs) rfl
  have hz : (List.toArray (p.toList.map fun i => vs.getD i Value.none)).size = vs.length := by rw [List.size_toArray]; exact po.length_eq
  refine wpAny_bind (seqEpoch_at g2 rfl (wpAny_bind (listUpdate_at g2 rfl ?_ (Nat.zero_le _) (by rw [hz, sizeLine_eq]; omega))))
  rw [hf]
  simp only [bne_self_eq_false, Bool.false_eq_true, if_false]
  exact wpAny_pure (hq _ po)
theorem lsort_few {a : Addr} {vs : List Value} {n : Nat} {P : PySem.Fin → Shared → Prop} (ho : s.heap.get? a = some (seqObj "list" vs.toArray n)) (h2 : vs.length < 2)
    (hq : P (.done (.ret .none)) { s with heap := sortedHeap s.heap a vs (List.toArray vs) }) : wpAny (model prog w) A (Builtin.«list.sort» ⟨[.ref a], []⟩) P E s := by
  obtain ⟨e1, g1⟩ : ∃ e1, (s.heap.update a (Obj.mapSeq fun _ => (#[] : Array Value))).get? a = some (seqObj "list" #[] e1) := ⟨_, get?_update_seq ho fun _ => #[]⟩
  have g2 : (((s.heap.update a (Obj.mapSeq fun _ => (#[] : Array Value))).push (seqObj "tuple" vs.toArray 0)).push (seqObj "list" #[] 0)).get? a = some (seqObj "list" #[] e1) := Heap.get?_push_of_some _ (Heap.get?_push_of_some _ g1)
  rw [list_sort_plain]
  refine wpAny_bind (listItems_at ho rfl (wpAny_bind (listUpdate_at ho rfl ?_ (by rw [List.size_toArray, sizeLine_eq]; omega) (Nat.zero_le _))))
  refine wpAny_bind (seqEpoch_at g1 rfl (wpAny_bind (wpAny_newTuple ?_ (by show vs.length ≤ _; rw [sizeLine_eq]; omega))))
  refine wpAny_bind (wpAny_newList (wpAny_holding ?_) (Nat.zero_le _))
  dsimp only
  have n2 : vs.toArray.size < 2 := by rw [List.size_toArray]; omega
  rw [if_pos n2, if_pos n2]
  refine wpAny_bind (wpAny_pure ?_)
  rw [StateT.run_pure]
  refine wpAny_bind (wpAny_pure ?_)
  dsimp only
  have ez : (arrOf (SortSt.mk' general' (vs.toArray.zip vs.toArray) #[] 7 none)).map (·.2) = List.toArray vs := by
    show (vs.toArray.zip vs.toArray).map (·.2) = _
    apply Array.toList_inj.mp
    simp [List.map_snd_zip]
  refine wpAny_bind (seqEpoch_at g2 rfl (wpAny_bind (listUpdate_at g2 rfl ?_ (Nat.zero_le _) (by rw [Array.size_map]; show (vs.toArray.zip vs.toArray).size ≤ _; rw [sizeLine_eq]; simp; omega))))
  simp only [bne_self_eq_false, Bool.false_eq_true, if_false]
  refine wpAny_pure ?_
  rw [show (fun _ : Array Value => (arrOf (SortSt.mk' general' (vs.toArray.zip vs.toArray) #[] 7 none)).map (·.2)) = fun _ => List.toArray vs from funext fun _ => ez]
  exact hq
theorem sorted_any {l : Addr} {vs : List Value} {Q : Value → Shared → Prop} (hl : s.heap.IsList l vs.toArray) (h64 : vs.length < 64)
    (hk : 2 ≤ vs.length → ∀ h', (∀ b o, s.heap.get? b = some o → h'.get? b = some o) → Sortable prog w A.in1.in1 vs { s with heap := h' })
    (hq : ∀ out : List Value, out.Perm vs → Q (.ref (s.heap.objs.size + 1)) { s with heap := sortedAll s.heap vs (List.toArray out) }) : wpAny (model prog w) A (call (.builtin "sorted") [.ref l]) Q E s := by
  refine Calls.call_function_entry kind_sorted plain_sorted entry_sorted (args_sorted1 _) ?_
  unfold Builtin.«sorted»
  refine wpAny_bind (m := checkCount "sorted" 1 1 _) (wpAny_pure (wpAny_bind (collect_list hl ?_ (by rw [sizeLine_eq]; omega))))
  refine wpAny_bind (wpAny_newList ?_ (by rw [sizeLine_eq]; omega))
  have z1 : ((s.heap.push (seqObj "list" #[] 0)).update s.heap.objs.size (Obj.mapSeq (· ++ vs.toArray))).objs.size = s.heap.objs.size + 1 := by rw [Heap.size_update, size_push']
  have g1 : (((s.heap.push (seqObj "list" #[] 0)).update s.heap.objs.size (Obj.mapSeq (· ++ vs.toArray))).push (seqObj "list" vs.toArray 0)).get? (s.heap.objs.size + 1) = some (seqObj "list" vs.toArray 0) := by
    rw [← z1]
    exact Heap.get?_push_size _ rfl
  have old : ∀ b o, s.heap.get? b = some o → (((s.heap.push (seqObj "list" #[] 0)).update s.heap.objs.size (Obj.mapSeq (· ++ vs.toArray))).push (seqObj "list" vs.toArray 0)).get? b = some o := fun b o e =>
    Heap.get?_push_of_some _ ((Heap.get?_update_ne _ _ _ _ (Nat.ne_of_lt (Heap.lt_size e))).trans (Heap.get?_push_of_some _ e))
  show wpAny _ _ _ _ _ { s with heap := ((s.heap.push (seqObj "list" #[] 0)).update s.heap.objs.size (Obj.mapSeq (· ++ vs.toArray))).push (seqObj "list" vs.toArray 0) }
  rw [z1]
  refine wpAny_bind (wpAny_holding (wpAny_call_entry slot_list_sort ⟨_, g1, rfl⟩ entry_list_sort ?body (args_list_sort _)))
  case body =>
    by_cases h2 : 2 ≤ vs.length
    · exact lsort_any g1 h2 h64 (fun h' k => hk h2 h' fun b o e => k b o (Nat.ne_of_lt (Nat.lt_succ_of_lt (Heap.lt_size e))) (old b o e)) fun out po => ⟨_, rfl, wpAny_pure ⟨_, rfl, hq out po⟩⟩
    · exact lsort_few g1 (by omega) ⟨_, rfl, wpAny_pure ⟨_, rfl, hq vs (List.Perm.refl _)⟩⟩
noncomputable def KeyV (S : Bool) (x : Value) : Prop := if S = true then ∃ z t, x = .str z t else ∃ z t, x = .int z t
noncomputable def PairV (S : Bool) (h : Heap) (v : Value) : Prop := ∃ t o n x y j tk, v = .ref t ∧ h.get? t = some o ∧ o.cls = .type "tuple" ∧ o.data = .seq #[x, y] n ∧ KeyV S x ∧ y = .int j tk
theorem firsts_of {S : Bool} {h : Heap} : ∀ vs : List Value, (∀ v ∈ vs, PairV S h v) → ∃ fs, KatTups h vs fs ∧ fs.length = vs.length ∧ ∀ f ∈ fs, KeyV S f
  | [], _ => ⟨[], .nil, rfl, fun f hf => by cases hf⟩
  | v :: vs, hv => by
    obtain ⟨fs, h1, h2, h3⟩ := firsts_of vs fun u hu => hv u (by simp [hu])
    obtain ⟨t, o, n, x, y, j, tk, rfl, e1, e2, e3, kx, _⟩ := hv v (by simp)
    refine ⟨x :: fs, .cons e1 e2 e3 rfl h1, by simp [h2], fun f hf => ?_⟩
    rcases List.mem_cons.mp hf with rfl | hf
    · exact kx
    · exact h3 f hf
theorem key_eq {S : Bool} {x y : Value} (hx : KeyV S x) (hy : KeyV S y) {C : Bool → Shared → Prop} {E : Value → Shared → Prop} (hc : ∀ b, C b s) : wpAny (model prog w) A (eqBool x y) C E s := by
  cases S with
  | true =>
    obtain ⟨z, t, rfl⟩ := hx
    obtain ⟨z', t', rfl⟩ := hy
    exact eqBool_str (hc _)
  | false =>
    obtain ⟨z, t, rfl⟩ := hx
    obtain ⟨z', t', rfl⟩ := hy
    exact wpAny_eqBool_int (hc _)
theorem key_lt {S : Bool} {x y : Value} (hx : KeyV S x) (hy : KeyV S y) {C : Bool → Shared → Prop} {E : Value → Shared → Prop} (hc : ∀ b, C b s) : wpAny (model prog w) A (oneLt' true x y) C E s := by
  cases S with
  | true =>
    obtain ⟨z, t, rfl⟩ := hx
    obtain ⟨z', t', rfl⟩ := hy
    exact oneLt_str (hc _)
  | false =>
    obtain ⟨z, t, rfl⟩ := hx
    obtain ⟨z', t', rfl⟩ := hy
    exact oneLt_int (hc _)
noncomputable def tyS (S : Bool) : Value := if S = true then .type "str" else .type "int"
theorem sortable_pairs {S : Bool} {vs : List Value} (h2 : 2 ≤ vs.length) (hv : ∀ v ∈ vs, PairV S s.heap v) : Sortable prog w A vs s := by
  obtain ⟨fs, t, lf, kf⟩ := firsts_of vs hv
  have eT : (tyS S != Value.type "tuple") = true := by cases S <;> decide
  refine ⟨tuples' true, fun Q E q => ?_, fun i j C hi hj hc => ?_⟩
  · refine kat_kind (T := tyS S) t (by omega) (fun v hv' => ?_) (by cases S <;> decide) (by rw [eT]; exact q)
    have k := kf v hv'
    cases S with
    | true => obtain ⟨z, t, rfl⟩ := k; exact Looks.of_pure rfl
    | false => obtain ⟨z, t, rfl⟩ := k; exact Looks.of_pure rfl
  · unfold kas_ask
    have gi : vs.getD i Value.none = vs[i] := by simp [hi]
    have gj : vs.getD j Value.none = vs[j] := by simp [hj]
    rw [gi, gj]
    obtain ⟨a1, o1, n1, x1, y1, j1, k1, e1, f1, _, d1, kx1, rfl⟩ := hv _ (List.getElem_mem hi)
    obtain ⟨a2, o2, n2, x2, y2, j2, k2, e2, f2, _, d2, kx2, rfl⟩ := hv _ (List.getElem_mem hj)
    rw [e1, e2]
    refine kat_lt f1 d1 f2 d2 ?_
    show KatLex prog w A true _ C [(x1, x2), (.int j1 k1, .int j2 k2)] 0 s
    refine kat_cons (key_eq kx1 kx2 fun b => kat_go (fun _ => kat_yes (kat_cons (wpAny_eqBool_int (kat_go (fun _ => kat_yes (kat_nil (hc _))) fun _ => kat_no ?_)))) fun _ => kat_no ?_)
    · exact kat_one _ _ (lt_int (hc _))
    · exact key_lt kx1 kx2 hc
end
section
variable {X : Cx}
noncomputable def PairH (S : Bool) (H : Hp) (v : V) : Prop := ∃ t x j, v = .ref t ∧ H t = some (.tup [x, .int j]) ∧ if S = true then ∃ z, x = .str z else ∃ z, x = .int z
theorem vals2p {x y : V} {us : List Value} (h : Vals [x, y] us) : ∃ u w, us = [u, w] ∧ RelV x u ∧ RelV y w := by
  cases h with
  | cons h1 h =>
    cases h with
    | cons h2 h =>
      cases h
      exact ⟨_, _, rfl, h1, h2⟩
theorem pairV_of {S : Bool} {pins : List (Addr × Obj)} {σ : St} {H : Hp} {s : Shared} (I : Inv X pins σ H s) {v : V} {u : Value} (r : RelV v u) (h : PairH S H v) : PairV S s.heap u := by
  obtain ⟨t, x, j, rfl, e, kx⟩ := h
  cases r
  obtain ⟨_, its, rv, o, g, c, n, d, _⟩ := I.hok t _ e
  obtain ⟨u1, u2, rfl, r1, r2⟩ := vals2p rv
  obtain ⟨tk, rfl⟩ := r2
  refine ⟨t, o, n, u1, _, j, tk, rfl, g, c, d, ?_, rfl⟩
  cases S with
  | true => obtain ⟨z, rfl⟩ := kx; obtain ⟨t', rfl⟩ := r1; exact ⟨z, t', rfl⟩
  | false => obtain ⟨z, rfl⟩ := kx; obtain ⟨t', rfl⟩ := r1; exact ⟨z, t', rfl⟩
theorem PairV.keep {S : Bool} {h h' : Heap} {v : Value} (p : PairV S h v) (k : ∀ b o, h.get? b = some o → h'.get? b = some o) : PairV S h' v := by
  obtain ⟨t, o, n, x, y, j, tk, e, e1, r⟩ := p
  exact ⟨t, o, n, x, y, j, tk, e, k _ _ e1, r⟩
theorem vals_memP : ∀ {xs : List V} {us : List Value}, Vals xs us → ∀ u ∈ us, ∃ x ∈ xs, RelV x u
  | _, _, .nil, u, h => by cases h
  | _, _, .cons h r, u, hu => by
    rcases List.mem_cons.mp hu with rfl | hu
    · exact ⟨_, List.mem_cons_self, h⟩
    · obtain ⟨x, hx, e⟩ := vals_memP r u hu
      exact ⟨x, List.mem_cons_of_mem _ hx, e⟩
theorem vals_perm {us us' : List Value} (p : us'.Perm us) : ∀ {xs : List V}, Vals xs us → ∃ xs', xs'.Perm xs ∧ Vals xs' us' := by
  induction p with
  | nil => intro xs h; exact ⟨xs, .refl _, h⟩
  | cons x _ ih =>
    intro xs h
    cases h with
    | cons h r =>
      obtain ⟨xs', p', r'⟩ := ih r
      exact ⟨_, p'.cons _, .cons h r'⟩
  | swap x y l =>
    intro xs h
    cases h with
    | cons h1 r =>
      cases r with
      | cons h2 r => exact ⟨_, .swap _ _ _, .cons h2 (.cons h1 r)⟩
  | trans _ _ ih1 ih2 =>
    intro xs h
    obtain ⟨x1, p1, r1⟩ := ih2 h
    obtain ⟨x2, p2, r2⟩ := ih1 r1
    exact ⟨x2, p2.trans p1, r2⟩
theorem call_sortedP : CallR X (.builtin "sorted") (fun xs H Q => ∃ (S : Bool) (a : Addr) (ts : List V), xs = [.ref a] ∧ SqL X.K H a ts ∧ ts.length < 64 ∧ (∀ v ∈ ts, PairH S H v) ∧ ∀ (l : Addr) (ts' : List V), H l = none → ts'.Perm ts → Q (.ref l) (upd H l (.lst ts'))) := by
  intro pins s σ H xs us Q I r h
  obtain ⟨S, a, ts, rfl, hq, hlen, hp, q⟩ := h
  obtain ⟨u, rfl, ru⟩ := vals1 r
  cases ru
  obtain ⟨its, rv, p, hz⟩ := I.list hq
  have l1 := rv.length
  have pv : ∀ v ∈ its, PairV S s.heap v := fun v hv => by
    obtain ⟨x, hx, e⟩ := vals_memP rv v hv
    exact pairV_of I e (hp x hx)
  refine sorted_any p.isList (by omega) (fun h2 h' k => sortable_pairs h2 fun v hv => (pv v hv).keep k) fun out po => ?_
  obtain ⟨e, he⟩ := sortedAll_at s.heap its (List.toArray out)
  obtain ⟨ts', p', r'⟩ := vals_perm po rv
  refine ⟨.ref (s.heap.objs.size + 1), _, I.laid (t' := s.toks) (a := s.heap.objs.size + 1) (o := .lst ts') (fun _ _ => sortedAll_old) (Nat.le_succ _) ⟨?_, out, e, r', he⟩, rfl, q _ ts' (I.hok.fresh (Nat.le_succ _)) p'⟩
  rw [p'.length_eq]
  exact hz
end
end L2.Internal
namespace L2.Internal
open PySem PySem.Spec PyProof.Rows PySem.W
section
variable {fs ex : List Addr} {H H' : Hp} {h h' : Heap}
theorem Un.more (k : ∀ b u, h.get? b = some u → h'.get? b = some u) (S : ∀ b o, H b = some o → H' b = some o) (n : ∀ b u, h.get? b = some u → H b = none → H' b = none) : Un fs ex H H' h h' where
  keep := fun b u q _ _ _ => k b u q
  slot := fun b u q _ _ _ => ⟨u.slots, k b u q⟩
  free := fun b u q e _ => n b u q e
  there := fun b u q _ => ⟨u, k b u q⟩
  tups := fun b xs q => S _ _ q
  frzs := fun b u xs q => S _ _ q
  tbls := fun b ps q => ⟨#[], by rw [S _ _ q]; simp⟩
end
section
variable {X : Cx} {pins : List (Addr × Obj)} {σ : St} {H H' : Hp} {s : Shared} {h' : Heap}
theorem Inv.more {t' : Nat} (I : Inv X pins σ H s) (k : ∀ b u, s.heap.get? b = some u → h'.get? b = some u) (S : ∀ b o, H b = some o → H' b = some o) (n : ∀ b u, s.heap.get? b = some u → H b = none → H' b = none)
    (new : ∀ b o, H' b = some o → H b = none → ObjOk X.prog X.w H' h' b o) : Inv X pins σ H' { s with heap := h', toks := t' } :=
  I.un (Un.more k S n) fun b o e => by
    cases hb : H b with
    | none => exact new b o e hb
    | some u =>
      have e2 := S b u hb
      rw [e] at e2
      cases e2
      exact (I.hok b o hb).stay (fun c v _ q => k c v q) (fun c q => S _ _ q) fun c xs q => S _ _ q
end
section
variable {X : Cx}
theorem mt_items : MtR X "dict.items" (fun x xs H Q => ∃ d kvs, x = .ref d ∧ xs = [] ∧ H d = some (.dK kvs) ∧ ∀ r, H r = none → Q (.ref r) (upd H r (.ext fun h => h.IsItemsView r d))) := by
  intro pins s σ H x xs v us Q I rx r h
  obtain ⟨d, kvs, rfl, rfl, e, q⟩ := h
  cases rx
  cases r
  obtain ⟨hz, hs, vs, hv, hD⟩ := I.hok d _ e
  refine call_meetsIn PySem.F.slot_dict_items hD.typeIs PySem.F.entry_dict_items (PySem.F.args_dict_items_1 _) (meets_dict_items (mixKind _ _) d hs) ⟨⟨vs, hD⟩, ?_⟩
  refine ⟨.ref s.heap.objs.size, _, I.laid (t' := s.toks) (a := s.heap.objs.size) (o := .ext fun h => h.IsItemsView s.heap.objs.size d) (fun _ _ g => Heap.get?_push_of_some _ g) (Nat.le_refl _) ⟨⟨_, Heap.get?_push_size _ rfl, rfl, rfl⟩, ⟨_, Heap.get?_push_size _ rfl⟩, fun h1 h2 z k => ?_⟩, rfl, q _ (I.hok.fresh (Nat.le_refl _))⟩
  obtain ⟨o, g, c⟩ := z
  exact ⟨o, k _ g, c⟩
noncomputable def itT (p : Key × V) : HO := .tup [kV p.1, p.2]
noncomputable def itsH (H : Hp) (as : List Addr) (kvs : List (Key × V)) : Hp := fun b => match (as.zip kvs).find? (fun p => decide (p.1 = b)) with
  | some p => some (itT p.2)
  | none => H b
theorem its_old {H : Hp} {as : List Addr} {kvs : List (Key × V)} {b : Addr} (h : b ∉ as) : itsH H as kvs b = H b := by
  unfold itsH
  cases e : (as.zip kvs).find? (fun p => decide (p.1 = b)) with
  | none => rfl
  | some p =>
    have h1 := List.find?_some e
    have h2 := List.mem_of_find?_eq_some e
    have h3 := (List.of_mem_zip h2).1
    rw [of_decide_eq_true h1] at h3
    exact absurd h3 h
theorem its_new {H : Hp} : ∀ {as : List Addr} {kvs : List (Key × V)} {j : Nat} {a : Addr} {p : Key × V}, as.Nodup → as[j]? = some a → kvs[j]? = some p → itsH H as kvs a = some (itT p)
  | [], _, j, _, _, _, h, _ => by simp at h
  | _ :: _, [], j, _, _, _, _, h => by simp at h
  | b :: as, q :: kvs, 0, a, p, _, h1, h2 => by
    cases h1
    cases h2
    unfold itsH
    rw [List.zip_cons_cons, List.find?_cons_of_pos (by simp)]
  | b :: as, q :: kvs, j + 1, a, p, n, h1, h2 => by
    rw [List.getElem?_cons_succ] at h1 h2
    rw [List.nodup_cons] at n
    have ih := its_new (H := H) n.2 h1 h2
    have ne : b ≠ a := fun z => n.1 (z ▸ List.mem_of_getElem? h1)
    unfold itsH at ih ⊢
    rw [List.zip_cons_cons, List.find?_cons_of_neg (by simp [ne])]
    exact ih
theorem its_inv {H : Hp} {as : List Addr} {kvs : List (Key × V)} {b : Addr} {o : HO} (e : itsH H as kvs b = some o) (n : H b = none) : ∃ (j : Nat) (p : Key × V), as[j]? = some b ∧ kvs[j]? = some p ∧ o = itT p := by
  unfold itsH at e
  cases h : (as.zip kvs).find? (fun p => decide (p.1 = b)) with
  | none => rw [h] at e; rw [n] at e; cases e
  | some p =>
    rw [h] at e
    cases e
    have h0 := List.find?_some h
    have h1 : p.1 = b := of_decide_eq_true h0
    obtain ⟨j, hj⟩ := List.mem_iff_getElem?.mp (List.mem_of_find?_eq_some h)
    rw [List.getElem?_zip_eq_some] at hj
    exact ⟨j, p.2, by rw [← h1]; exact hj.1, hj.2, rfl⟩
theorem kv_at : ∀ {kvs : List (Key × V)} {vs : List (Key × Value)} {j : Nat} {p : Key × V}, KV kvs vs → kvs[j]? = some p → ∃ q, vs[j]? = some q ∧ p.1 = q.1 ∧ RelV p.2 q.2
  | _, _, 0, p, .cons h _, e => by cases e; exact ⟨_, rfl, h⟩
  | _, _, j + 1, p, .cons _ r, e => by
    rw [List.getElem?_cons_succ] at e
    obtain ⟨q, h1, h2⟩ := kv_at (show KV _ _ from r) e
    exact ⟨q, by rw [List.getElem?_cons_succ]; exact h1, h2⟩
  | _, _, j, p, .nil, e => by simp at e
theorem kv_len : ∀ {kvs : List (Key × V)} {vs : List (Key × Value)}, KV kvs vs → kvs.length = vs.length
  | _, _, .nil => rfl
  | _, _, .cons _ r => congrArg (· + 1) (kv_len (show KV _ _ from r))
theorem rise_nodup : ∀ {l : List Nat}, l.Pairwise (· < ·) → l.Nodup := fun h => h.imp fun z => Nat.ne_of_lt z
theorem vals_refs : ∀ as : List Addr, Vals (as.map V.ref) (as.map Value.ref)
  | [] => .nil
  | a :: as => .cons rfl (vals_refs as)
theorem perm_of_map {α β : Type} {f : α → β} {us vs : List β} (p : us.Perm vs) : ∀ as : List α, vs = as.map f → ∃ bs : List α, us = bs.map f ∧ bs.Perm as := by
  induction p with
  | nil =>
    intro as e
    exact ⟨as, e, .refl _⟩
  | cons x _ ih =>
    intro as e
    cases as with
    | nil => cases e
    | cons a t =>
      rw [List.map_cons, List.cons.injEq] at e
      obtain ⟨bs, h1, h2⟩ := ih t e.2
      exact ⟨a :: bs, by rw [h1, e.1]; rfl, h2.cons _⟩
  | swap x y l =>
    intro as e
    cases as with
    | nil => cases e
    | cons a t =>
      cases t with
      | nil => cases e
      | cons c t =>
        rw [List.map_cons, List.map_cons, List.cons.injEq, List.cons.injEq] at e
        exact ⟨c :: a :: t, by rw [e.1, e.2.1, e.2.2]; rfl, .swap _ _ _⟩
  | trans _ _ ih1 ih2 =>
    intro as e
    obtain ⟨bs, h1, h2⟩ := ih2 as e
    obtain ⟨cs, h3, h4⟩ := ih1 bs h1
    exact ⟨cs, h3, h4.trans h2⟩
theorem call_sortedI (hc : X.calm = true) : CallR X (.builtin "sorted") (fun xs H Q => ∃ (r d : Addr) (kvs : List (Key × V)), xs = [.ref r] ∧ H r = some (.ext fun h => h.IsItemsView r d) ∧ H d = some (.dK kvs) ∧ kvs.length < 64 ∧ (∀ p ∈ kvs, (∃ z, p.1 = .inr z) ∧ ∃ j, p.2 = .int j) ∧
    ∀ (H' : Hp) (l : Addr) (bs : List Addr) (ps : List (Key × V)), Same H H' → H l = none → H' l = some (.lst (bs.map V.ref)) → ps.Perm kvs → bs.length = ps.length → (∀ (j : Nat) (b : Addr) (p : Key × V), bs[j]? = some b → ps[j]? = some p → H' b = some (itT p)) → Q (.ref l) H') := by
  intro pins s σ H xs us Q I rx h
  obtain ⟨r, d, kvs, rfl, er, ed, hlen, hk, q⟩ := h
  obtain ⟨u, rfl, ru⟩ := vals1 rx
  cases ru
  obtain ⟨hv, _⟩ := I.hok r _ er
  obtain ⟨hz, hs, vs, kv, o, es, ep, g1, g2, g3, g4⟩ := I.hok d _ ed
  have lv := kv_len kv
  have hh : X.A.in1.handled = none := I.ok.hd hc
  refine Calls.call_function_entry kind_sorted plain_sorted entry_sorted (args_sorted1 _) ?_
  unfold Builtin.«sorted»
  refine wpAny_bind (m := checkCount "sorted" 1 1 _) (wpAny_pure ?_)
  refine wpAny_bind (kdx_collect (A := X.A.in1) (knd := mixKind X.prog X.w) (kvs := vs) (ep := ep) hh hv ⟨o, es, g1, g2, g3, g4⟩ (by rw [← lv]; exact hz) fun h1 tk as kp la G => ?_)
  refine wpAny_bind (wpAny_newList ?_ (by rw [List.length_map, sizeLine_eq]; omega))
  have g : (h1.push { cls := .type "list", data := .seq (as.map Value.ref).toArray }).get? h1.objs.size = some (seqObj "list" (as.map Value.ref).toArray 0) := Heap.get?_push_size _ rfl
  have pv : ∀ v ∈ as.map Value.ref, PairV true h1 v := fun v hv' => by
    obtain ⟨a, ha, rfl⟩ := List.mem_map.mp hv'
    obtain ⟨j, hj⟩ := List.mem_iff_getElem?.mp ha
    obtain ⟨key, k, x, e1, e2, e3⟩ := G.pairs j a hj
    have hj' : j < kvs.length := by have := (List.getElem?_eq_some_iff.mp hj).1; omega
    obtain ⟨⟨k', x'⟩, f1, f2, f3⟩ := kv_at kv (List.getElem?_eq_getElem hj')
    rw [e1] at f1
    cases f1
    obtain ⟨⟨z, f4⟩, ⟨n, f5⟩⟩ := hk _ (List.getElem_mem hj')
    rw [f5] at f3
    obtain ⟨t', rfl⟩ := f3
    rcases keyIs_shape e2 with ⟨i, t, z1, z2⟩ | ⟨y, t, z1, z2⟩
    · dsimp only at f2
      rw [f4] at f2
      rw [← f2] at z1
      cases z1
    · exact ⟨a, _, 0, key, _, n, t', rfl, e3, rfl, rfl, ⟨y, t, z2⟩, rfl⟩
  have nB : ∀ b u, s.heap.get? b = some u → b ≠ h1.objs.size := fun b u e => Nat.ne_of_lt (Heap.lt_size (kp b u e))
  have kp2 : ∀ b u, s.heap.get? b = some u → (h1.push { cls := .type "list", data := .seq (as.map Value.ref).toArray }).get? b = some u := fun b u e => Heap.get?_push_of_some _ (kp b u e)
  have HB : H h1.objs.size = none := by
    cases e : H h1.objs.size with
    | none => rfl
    | some o =>
      have z := (I.hok _ _ e).lt
      have : ∃ u, s.heap.get? h1.objs.size = some u := (I.hok _ _ e).there
      obtain ⟨u, eu⟩ := this
      exact absurd rfl (nB _ u eu)
  have Has : ∀ a ∈ as, H a = none := fun a ha => I.hok.fresh (Nat.le_of_lt (G.above a ha))
  have nas : h1.objs.size ∉ as := fun z => by
    have := G.there z
    exact absurd this (Nat.lt_irrefl _)
  have nd := rise_nodup G.rise
  -- behind the sort
  have fin : ∀ out : List Value, out.Perm (as.map Value.ref) → EP X pins σ Q (.ref h1.objs.size) { s with heap := sortedHeap (h1.push { cls := .type "list", data := .seq (as.map Value.ref).toArray }) h1.objs.size (as.map Value.ref) (List.toArray out), toks := tk } := fun out po => by
    obtain ⟨bs, rfl, pb⟩ := perm_of_map po as rfl
    have lz : as.length = kvs.length := by omega
    obtain ⟨qs, e1, pq⟩ := perm_of_map pb (as.zip kvs) (List.map_fst_zip (by omega)).symm
    have pp : (qs.map Prod.snd).Perm kvs := by
      have := pq.map Prod.snd
      rwa [List.map_snd_zip (by omega)] at this
    obtain ⟨e, he⟩ := sortedHeap_at (out := List.toArray (bs.map Value.ref)) g
    have oldh : ∀ b u, b ≠ h1.objs.size → (h1.push { cls := .type "list", data := .seq (as.map Value.ref).toArray }).get? b = some u → (sortedHeap (h1.push { cls := .type "list", data := .seq (as.map Value.ref).toArray }) h1.objs.size (as.map Value.ref) (List.toArray (bs.map Value.ref))).get? b = some u := fun b u nb eb => by
      rw [sortedHeap_old nb (Heap.lt_size eb)]
      exact eb
    have mem : ∀ {a : Addr}, a ∈ bs → a ∈ as := fun {a} h => pb.mem_iff.mp h
    refine ⟨.ref h1.objs.size, upd (itsH H as kvs) h1.objs.size (.lst (bs.map V.ref)), ?_, rfl, ?_⟩
    · refine I.more (t' := tk) (fun b u eb => oldh b u (nB b u eb) (kp2 b u eb)) (fun b o eb => ?_) (fun b u eb hb => ?_) fun b o eb hb => ?_
      · have n1 : b ∉ as := fun z => by rw [Has b z] at eb; cases eb
        have n2 : b ≠ h1.objs.size := fun z => by rw [z, HB] at eb; cases eb
        rw [upd_ne n2, its_old n1]
        exact eb
      · have n1 : b ∉ as := fun z => absurd (Heap.lt_size eb) (Nat.not_lt.mpr (Nat.le_of_lt (G.above b z)))
        rw [upd_ne (nB b u eb), its_old n1]
        exact hb
      · by_cases z : b = h1.objs.size
        · rw [z, upd_same] at eb
          cases eb
          rw [z]
          refine ⟨?_, bs.map Value.ref, e, vals_refs bs, he⟩
          rw [List.length_map, pb.length_eq, sizeLine_eq]
          omega
        · rw [upd_ne z] at eb
          obtain ⟨j, p, h1', h2', rfl⟩ := its_inv eb hb
          obtain ⟨key, k, x, f1, f2, f3⟩ := G.pairs j b h1'
          obtain ⟨w', y1, y2, y3⟩ := kv_at kv h2'
          rw [f1] at y1
          cases y1
          refine ⟨(by show 2 ≤ sizeLine; rw [sizeLine_eq]; omega), [key, x], .cons ?_ (.cons y3 .nil), _, oldh b _ z (Heap.get?_push_of_some _ f3), rfl, 0, rfl, rfl⟩
          dsimp only at y2
          rw [y2]
          rcases keyIs_shape f2 with ⟨i, t, z1, z2⟩ | ⟨y, t, z1, z2⟩
          · rw [z1, z2]; exact ⟨t, rfl⟩
          · rw [z1, z2]; exact ⟨t, rfl⟩
    · refine q _ _ bs (qs.map Prod.snd) (fun b o eb => ?_) HB upd_same pp (by rw [e1, List.length_map, List.length_map]) fun j b p hb hp => ?_
      · have n1 : b ∉ as := fun z => by rw [Has b z] at eb; cases eb
        have n2 : b ≠ h1.objs.size := fun z => by rw [z, HB] at eb; cases eb
        rw [upd_ne n2, its_old n1]
        exact eb
      · have mb := mem (List.mem_of_getElem? hb)
        rw [upd_ne (show b ≠ h1.objs.size from fun z => nas (z ▸ mb))]
        rw [e1, List.getElem?_map] at hb
        rw [List.getElem?_map] at hp
        cases eq : qs[j]? with
        | none => rw [eq] at hb; cases hb
        | some w' =>
          rw [eq] at hb hp
          cases hb
          cases hp
          obtain ⟨i, hi⟩ := List.mem_iff_getElem?.mp (pq.mem_iff.mp (List.mem_of_getElem? eq))
          rw [List.getElem?_zip_eq_some] at hi
          exact its_new nd hi.1 hi.2
  refine wpAny_bind (wpAny_holding (wpAny_call_entry slot_list_sort ⟨_, g, rfl⟩ entry_list_sort ?body (args_list_sort _)))
  case body =>
    by_cases h2 : 2 ≤ (as.map Value.ref).length
    · exact lsort_any g h2 (by rw [List.length_map]; omega) (fun h' k => sortable_pairs h2 fun v hv' => by
        obtain ⟨t, o', n, x, y, j, tk', e0, e1, r'⟩ := pv v hv'
        exact ⟨t, o', n, x, y, j, tk', e0, k _ _ (Nat.ne_of_lt (Heap.lt_size e1)) (Heap.get?_push_of_some _ e1), r'⟩) fun out po => ⟨_, rfl, wpAny_pure ⟨_, rfl, fin out po⟩⟩
    · exact lsort_few g (by omega) ⟨_, rfl, wpAny_pure ⟨_, rfl, fin _ (List.Perm.refl _)⟩⟩
end
end L2.Internal
namespace L2.Internal
open PySem PySem.Spec PyProof.Rows
mutual
noncomputable def nlD : Dt → Bool
  | .flat _ => true
  | .tup l => nlDs l
  | .lst _ => false
noncomputable def nlDs : List Dt → Bool
  | [] => true
  | x :: xs => nlD x && nlDs xs
end
theorem nlDs_get : ∀ {l : List Dt} {j : Nat} {a : Dt}, nlDs l = true → l[j]? = some a → nlD a = true
  | x :: xs, 0, a, h, e => by
    cases e
    rw [nlDs, Bool.and_eq_true] at h
    exact h.1
  | x :: xs, j + 1, a, h, e => by
    rw [nlDs, Bool.and_eq_true] at h
    exact nlDs_get h.2 e
  | [], j, a, _, e => by simp at e
section
variable {X : Cx} {pins : List (Addr × Obj)} {σ : St} {H : Hp} {s : Shared}
mutual
theorem at_same (I : Inv X pins σ H s) : ∀ {x : V} {d e : Dt}, At X.K H x d → At X.K H x e → nlD d = true → nlD e = true → eqD d e = true
  | _, _, _, .flat h, .flat _, _, _ => by rw [eqD]; exact flat_same h
  | _, _, _, .tup h hs, .tup h' hs', n, n' => by
    have e := I.tuple_inj h h'
    subst e
    rw [nlD] at n n'
    rw [eqD]
    exact ats_same I hs hs' n n'
  | _, _, _, .flat h, .tup _ _, _, _ => absurd h Bool.false_ne_true
  | _, _, _, .tup _ _, .flat h, _, _ => absurd h Bool.false_ne_true
  | _, _, _, .lst _ _, _, n, _ => by rw [nlD] at n; cases n
  | _, _, _, _, .lst _ _, _, n => by rw [nlD] at n; cases n
theorem ats_same (I : Inv X pins σ H s) : ∀ {xs : List V} {l m : List Dt}, Ats X.K H xs l → Ats X.K H xs m → nlDs l = true → nlDs m = true → eqDs l m = true
  | _, _, _, .nil, .nil, _, _ => by rw [eqDs]
  | _, _, _, .cons h t, .cons h' t', n, n' => by
    rw [nlDs, Bool.and_eq_true] at n n'
    rw [eqDs, at_same I h h' n.1 n'.1, ats_same I t t' n.2 n'.2]
    rfl
end
theorem eq_flat_tup {A : Around} (I : Inv X pins σ H s) {x : V} {u : Value} {b : Addr} {ys : List V} (r : RelV x u) (hx : flatV x = true) (h : SqT X.K H b ys) (hu : A.units < cLine) : SeqAt.EqAt A s u (.ref b) false ∧ SeqAt.EqAt A s (.ref b) u false := by
  obtain ⟨its, _, pl, _⟩ := I.tuple h
  cases x with
  | non => cases r; exact ⟨.none_tuple pl hu, .tuple_none pl hu⟩
  | bl k => cases r; exact ⟨.bool_tuple _ pl hu, .tuple_bool _ pl hu⟩
  | int i => obtain ⟨t, rfl⟩ := r; exact ⟨.int_tuple _ _ pl hu, .tuple_int _ _ pl hu⟩
  | str z => obtain ⟨t, rfl⟩ := r; exact ⟨.str_tuple _ _ pl hu, .tuple_str _ _ pl hu⟩
  | _ => cases hx
theorem eqAt_M (I : Inv X pins σ H s) : ∀ (n : Nat) (A : Around) {x y : V} {u v : Value} {d e : Dt}, RelV x u → RelV y v → At X.K H x d → At X.K H y e → nlD d = true → nlD e = true → depD d ≤ n → A.units + n < cLine → SeqAt.EqAt A s u v (eqD d e) := by
  intro n
  induction n with
  | zero =>
    intro A x y u v d e rx ry hx hy n1 n2 hd hu
    cases hx with
    | flat h =>
      cases hy with
      | flat h' => rw [eqD]; exact eqAt_V rx ry h h'
      | tup h' _ => cases ry; simp only [eqD]; exact (eq_flat_tup I rx h h' (by omega)).1
      | lst _ _ => rw [nlD] at n2; cases n2
    | tup _ _ => rw [depD] at hd; omega
    | lst _ _ => rw [depD] at hd; omega
  | succ n ih =>
    intro A x y u v d e rx ry hx hy n1 n2 hd hu
    cases hx with
    | flat h =>
      cases hy with
      | flat h' => rw [eqD]; exact eqAt_V rx ry h h'
      | tup h' _ => cases ry; simp only [eqD]; exact (eq_flat_tup I rx h h' (by omega)).1
      | lst _ _ => rw [nlD] at n2; cases n2
    | lst _ _ => rw [nlD] at n1; cases n1
    | @tup a xs ds h hs =>
      cases hy with
      | flat h' => cases rx; simp only [eqD]; exact (eq_flat_tup I ry h' h (by omega)).2
      | lst _ _ => rw [nlD] at n2; cases n2
      | @tup b ys es h' hs' =>
        cases rx
        cases ry
        by_cases hab : a = b
        · subst hab
          rw [at_same I (.tup h hs) (.tup h' hs') n1 n2]
          exact SeqAt.EqAt.same _
        · rw [depD] at hd
          rw [nlD] at n1 n2
          refine SeqAt.EqAt.of_refs hab (rc_tup I h hs h' hs' (by omega) fun j d1 d2 x y u v f1 f2 q1 q2 p1 p2 => ?_).1
          exact ih A.in1 q1 q2 p1 p2 (nlDs_get n1 f1) (nlDs_get n2 f2) (Nat.le_trans (depDs_get f1) (by omega)) (by show A.units + 1 + n < cLine; omega)
end
section
variable {X : Cx}
noncomputable def rNiD (K : PySem.W.Frag) : R2 := fun x y H Q => ∃ p xs ds d, y = .ref p ∧ SqL K H p xs ∧ Ats K H xs ds ∧ At K H x d ∧ nlD d = true ∧ (∀ e ∈ ds, nlD e = true ∧ depD e ≤ 100) ∧ ∀ b : Bool, Q (.bl b) H
theorem op_notInD {k : Nat} (hr : Room k X.A) : OpR X (compareOp .NotIn) (rNiD X.K) := by
  intro pins s σ H x y v u Q I rx ry h
  obtain ⟨p, xs, ds, d, rfl, hq, hs, hx, nd, hc, q⟩ := h
  cases ry
  have hu := hr.un
  obtain ⟨its, r, pl, hz⟩ := I.list hq
  have one : ∀ {j : Nat} {z : V} {w : Value}, xs[j]? = some z → RelV z w → ∃ e, ds[j]? = some e ∧ SeqAt.EqAt X.A.in1 s w v (eqD e d) := fun {j z w} hz rz => by
    obtain ⟨e, he, ha⟩ := hs.get hz
    have := hc e (List.mem_of_getElem? he)
    exact ⟨e, he, eqAt_M I 100 X.A.in1 rz rx ha hx this.1 nd this.2 (by show X.A.units + 1 + 100 < cLine; omega)⟩
  let E : Value → Prop := fun w => ∃ (j : Nat) (z : V) (e : Dt), xs[j]? = some z ∧ RelV z w ∧ ds[j]? = some e ∧ eqD e d = true
  haveI : DecidablePred E := fun _ => Classical.propDecidable _
  refine SeqAt.notIn_listAt (fun w => decide (E w)) pl.isList (fun w hw => ?_) ⟨.bl _, H, I, rfl, q _⟩
  by_cases hE : E w
  · obtain ⟨j, z, e, h1, h2, h3, h4⟩ := id hE
    obtain ⟨e', h5, h6⟩ := one h1 h2
    rw [h3] at h5
    cases h5
    rw [h4] at h6
    show SeqAt.EqAt _ _ _ _ (decide (E w))
    rw [decide_eq_true hE]
    exact h6
  · obtain ⟨j, z, h1, h2⟩ := vals_mem r (by simpa using hw)
    obtain ⟨e', h5, h6⟩ := one h1 h2
    have hz' : eqD e' d = false := by
      cases h : eqD e' d with
      | false => rfl
      | true => exact absurd ⟨j, z, e', h1, h2, h5, h⟩ hE
    rw [hz'] at h6
    show SeqAt.EqAt _ _ _ _ (decide (E w))
    rw [decide_eq_false hE]
    exact h6
end
end L2.Internal
set_option maxHeartbeats 1000000
namespace KK.Internal
open PySem L2.Internal BO.Internal
mutual
inductive Kd where
  | any
  | num
  | fn (a b : Kd)
  | rcd (l : Kds)
  | ch (l : Kds)
  | row (a : Kd)
inductive Kds where
  | nil
  | cons (w : Str) (k : Kd) (t : Kds)
end
noncomputable def sD (s : Str) : Dt := .flat (.str s)
mutual
noncomputable def Kd.d : Kd → Dt
  | .any => .tup [sD "any"]
  | .num => .tup [sD "num"]
  | .fn a b => .tup [sD "fn", a.d, b.d]
  | .rcd l => .tup [sD "rec", .tup l.ds]
  | .ch l => .tup [sD "choice", .tup l.ds]
  | .row a => .tup [sD "row", a.d]
noncomputable def Kds.ds : Kds → List Dt
  | .nil => []
  | .cons w k t => .tup [sD w, k.d] :: t.ds
end
mutual
noncomputable def Kd.sz : Kd → Nat
  | .any => 1
  | .num => 1
  | .fn a b => a.sz + b.sz + 1
  | .rcd l => l.sz + 1
  | .ch l => l.sz + 1
  | .row a => a.sz + 1
noncomputable def Kds.sz : Kds → Nat
  | .nil => 0
  | .cons _ k t => k.sz + t.sz
end
noncomputable def Kds.toL : Kds → List (Str × Kd)
  | .nil => []
  | .cons w k t => (w, k) :: t.toL
noncomputable def ltS (a b : Str) : Prop := PySem.Spec.ltCps a.cps.toList b.cps.toList = true
mutual
noncomputable def Kd.ok : Kd → Prop
  | .any => True
  | .num => True
  | .fn a b => a.ok ∧ b.ok
  | .rcd l => l.ok ∧ (l.toL.map Prod.fst).Nodup ∧ l.toL.length ≤ 10 ∧ l.toL.Pairwise fun p q => ltS p.1 q.1
  | .ch l => l.ok ∧ (l.toL.map Prod.fst).Nodup ∧ l.toL.length ≤ 10 ∧ l.toL.Pairwise fun p q => ltS p.1 q.1
  | .row a => a.ok
noncomputable def Kds.ok : Kds → Prop
  | .nil => True
  | .cons _ k t => k.ok ∧ t.ok
end
noncomputable def ofL : List (Str × Kd) → Kds
  | [] => .nil
  | p :: t => .cons p.1 p.2 (ofL t)
noncomputable def fD (p : Str × Kd) : Dt := .tup [sD p.1, p.2.d]
noncomputable def szL : List (Str × Kd) → Nat
  | [] => 0
  | p :: t => p.2.sz + szL t
noncomputable def Kd.tag : Kd → Str
  | .any => "any"
  | .num => "num"
  | .fn _ _ => "fn"
  | .rcd _ => "rec"
  | .ch _ => "choice"
  | .row _ => "row"
noncomputable def Kd.rest : Kd → List Dt
  | .any => []
  | .num => []
  | .fn a b => [a.d, b.d]
  | .rcd l => [.tup l.ds]
  | .ch l => [.tup l.ds]
  | .row a => [a.d]
noncomputable def isAny : Kd → Bool
  | .any => true
  | _ => false
noncomputable def isNo : Kd → Bool
  | .ch .nil => true
  | _ => false
noncomputable def noD : Dt := .tup [sD "choice", .tup []]
noncomputable def lkK : List (Str × Kd) → Str → Option Kd
  | [], _ => none
  | p :: t, x => if p.1 = x then some p.2 else lkK t x
noncomputable def fz (l : List (Str × Kd)) (x : Str) : Nat := match lkK l x with
  | some k => k.sz
  | none => 0
noncomputable def sumN : List Nat → Nat
  | [] => 0
  | n :: t => n + sumN t
noncomputable def pbw (l m : List (Str × Kd)) : List (Str × Kd) → Option (List (Kd × Kd))
  | [] => some []
  | p :: t => match lkK l p.1, lkK m p.1 with
    | some a, some b => (pbw l m t).map ((a, b) :: ·)
    | _, _ => none
noncomputable def szp : List (Kd × Kd) → Nat
  | [] => 0
  | p :: t => p.1.sz + p.2.sz + szp t
noncomputable def pw2 : Kd → Kd → Option (List (Kd × Kd))
  | .num, .num => some []
  | .fn a b, .fn c d => some [(c, a), (b, d)]
  | .rcd l, .rcd m => pbw l.toL m.toL m.toL
  | .ch l, .ch m => pbw l.toL m.toL l.toL
  | .row a, .row b => some [(a, b)]
  | _, _ => none
noncomputable def pw (a b : Kd) : Option (List (Kd × Kd)) := if (isAny b || isNo a) = true then some [] else pw2 a b
noncomputable def G (a : Kd) : Prop := a.ok ∧ a.sz ≤ 20
noncomputable def undF : Nat → List (Kd × Kd) → Bool
  | 0, _ => true
  | _ + 1, [] => true
  | f + 1, p :: st => match pw p.1 p.2 with
    | none => false
    | some l => undF f (l.reverse ++ st)
noncomputable def und (a b : Kd) : Bool := undF (a.sz + b.sz) [(a, b)]
noncomputable def pD (p : Kd × Kd) : Dt := .tup [p.1.d, p.2.d]
mutual
theorem im_at {K : PySem.W.Frag} {H : Hp} : ∀ {v : V} {d : Dt}, Im H v d → At K H v d
  | v, _, .flat h => .flat (by cases v <;> first | rfl | cases h)
  | _, _, .tup h hs => .tup (SqT.of h) (ims_at2 hs)
theorem ims_at2 {K : PySem.W.Frag} {H : Hp} : ∀ {v : List V} {d : List Dt}, Ims H v d → Ats K H v d
  | _, _, .nil => .nil
  | _, _, .cons h t => .cons (im_at h) (ims_at2 t)
end
noncomputable def lkP : List (Str × V) → Str → Option V
  | [], _ => none
  | p :: t, x => if p.1 = x then some p.2 else lkP t x
noncomputable def DKd (H : Hp) (d : Addr) (l : List (Str × Kd)) : Prop := ∃ kvs, H d = some (.dK kvs) ∧ ∀ w, match lkK l w with
    | some k => ∃ v, valV kvs (Sum.inr w) = some v ∧ Im H v k.d
    | none => valV kvs (Sum.inr w) = none
theorem DKd.some {H : Hp} {d : Addr} {l : List (Str × Kd)} {w : Str} {k : Kd} (h : DKd H d l) (e : lkK l w = some k) : ∃ v, DGet H d (.str w) (some v) ∧ Im H v k.d := by
  obtain ⟨kvs, e1, f⟩ := h
  have := f w
  rw [e] at this
  obtain ⟨v, h1, h2⟩ := this
  exact ⟨v, by rw [← h1]; exact DGet.k (k := (Sum.inr w : Key)) e1, h2⟩
theorem DKd.none {H : Hp} {d : Addr} {l : List (Str × Kd)} {w : Str} (h : DKd H d l) (e : lkK l w = none) : DGet H d (.str w) none := by
  obtain ⟨kvs, e1, f⟩ := h
  have := f w
  rw [e] at this
  rw [← this]
  exact DGet.k (k := (Sum.inr w : Key)) e1
noncomputable def PwV (H0 H : Hp) (v : V) : Option (List (Kd × Kd)) → Prop
  | none => v = .non
  | some r => ∃ t xs, v = .ref t ∧ H0 t = none ∧ H t = some (.lst xs) ∧ Ims H xs (r.map pD)
theorem Ims.atK {H : Hp} : ∀ {xs : List V} {ds : List Dt} {k : Nat} {v : V}, Ims H xs ds → xs[k]? = some v → ∃ d, ds[k]? = some d ∧ Im H v d
  | _, _, 0, _, .cons h _, e => by cases e; exact ⟨_, rfl, h⟩
  | _, _, k + 1, _, .cons _ t, e => Ims.atK (k := k) t e
theorem im_newK {H : Hp} {t : Addr} {xs : List V} {ds : List Dt} (h : H t = none) (i : Ims H xs ds) : Im (upd H t (.tup xs)) (.ref t) (.tup ds) := .tup upd_same (i.mono (Same.tk (same_new h _)))
theorem same_updK {H H2 : Hp} {l : Addr} (s : Same H H2) (h : H l = none) (o : HO) : Same H (upd H2 l o) := fun b u e => by rw [upd_ne (ne_of_none e h)]; exact s b u e
noncomputable def rTupOf (K : PySem.W.Frag) : List V → Hp → VK → Prop := fun xs H Q => ∃ p ys, xs = [.ref p] ∧ ((SqL K H p ys ∧ ∀ l, H l = none → Q (.ref l) (upd H l (.tup ys))) ∨ (SqT K H p ys ∧ Q (.ref p) H))
end KK.Internal
set_option maxHeartbeats 1000000
namespace KK.Internal
open PySem L2.Internal BO.Internal
noncomputable def iD (n : Int) : Dt := .flat (.int n)
noncomputable def ptB (D : Bd) : Bd := { D with pts := D.pts ++ [0] }
noncomputable def mkB (D : Bd) (s : Str) (f : Dt) (a : Int) : Bd := { D with mks := D.mks ++ [⟨s, f, a, 0⟩] }
noncomputable def usB (D : Bd) (u : Us) : Bd := { D with uss := D.uss ++ [u] }
mutual
noncomputable def low : Kd → Bd → Bd
  | .any, D => mkB (ptB D) "any" (.tup []) D.pts.length
  | .num, D => mkB (ptB D) "num" (.tup []) D.pts.length
  | .fn a b, D => mkB (low b (upp a (ptB D))) "fn" (.tup [iD (ptB D).pts.length, iD (upp a (ptB D)).pts.length]) D.pts.length
  | .rcd l, D => mkB (lowF l (ptB D)).1 "rec" (prD (lowF l (ptB D)).2) D.pts.length
  | .ch l, D => lowA l D.pts.length (ptB D)
  | .row a, D => mkB (low a (ptB D)) "row" (.tup [iD (ptB D).pts.length]) D.pts.length
noncomputable def upp : Kd → Bd → Bd
  | .any, D => ptB D
  | .num, D => usB (ptB D) (.num D.pts.length 0 0)
  | .fn a b, D => usB (upp b (low a (ptB D))) (.call D.pts.length 0 0 (ptB D).pts.length (low a (ptB D)).pts.length)
  | .rcd l, D => usB (uppF l (ptB D)).1 (.take D.pts.length 0 0 (uppF l (ptB D)).2)
  | .ch l, D => usB (uppF l (ptB D)).1 (.case D.pts.length 0 0 (uppF l (ptB D)).2)
  | .row a, D => usB (upp a (ptB D)) (.row D.pts.length 0 0 (ptB D).pts.length)
noncomputable def lowF : Kds → Bd → Bd × List (Str × Int)
  | .nil, D => (D, [])
  | .cons w k t, D => ((lowF t (low k D)).1, (w, (D.pts.length : Int)) :: (lowF t (low k D)).2)
noncomputable def uppF : Kds → Bd → Bd × List (Str × Int)
  | .nil, D => (D, [])
  | .cons w k t, D => ((uppF t (upp k D)).1, (w, (D.pts.length : Int)) :: (uppF t (upp k D)).2)
noncomputable def lowA : Kds → Int → Bd → Bd
  | .nil, _, D => D
  | .cons w k t, a, D => lowA t a (mkB (low k D) "tag" (.tup [sD w, iD D.pts.length]) a)
end
noncomputable def lowL : List (Str × Kd) → Bd → Bd × List (Str × Int)
  | [], D => (D, [])
  | p :: t, D => ((lowL t (low p.2 D)).1, (p.1, (D.pts.length : Int)) :: (lowL t (low p.2 D)).2)
noncomputable def uppL : List (Str × Kd) → Bd → Bd × List (Str × Int)
  | [], D => (D, [])
  | p :: t, D => ((uppL t (upp p.2 D)).1, (p.1, (D.pts.length : Int)) :: (uppL t (upp p.2 D)).2)
noncomputable def armL : List (Str × Kd) → Int → Bd → Bd
  | [], _, D => D
  | p :: t, a, D => armL t a (mkB (low p.2 D) "tag" (.tup [sD p.1, iD D.pts.length]) a)
noncomputable def Sm (D : Bd) (n : Nat) : Prop := D.pts.length ≤ n ∧ D.mks.length ≤ n ∧ D.uss.length ≤ n
structure Ad where
  b : Addr
  bx : Addr
  p0 : Addr
  p1 : Addr
  p2 : Addr
  p3 : Addr
noncomputable def Ad.ls (A : Ad) : List Addr := [A.p0, A.p1, A.p2, A.p3]
structure Bq (c : Cs) (H : Hp) (A : Ad) (r : V) (D : Bd) : Prop where
  b : H A.b = some (.ins c.B A.bx (fB A.p0 A.p1 A.p2 A.p3 r))
  e0 : H A.p0 = some (.lst (D.pts.map V.int))
  e1 : ∃ mv, H A.p1 = some (.lst mv) ∧ All2 (MkAt c H) mv D.mks
  e2 : ∃ uv, H A.p2 = some (.lst uv) ∧ All2 (UsAt c H) uv D.uss
  e3 : H A.p3 = some (.lst [])
  nd : A.ls.Nodup
structure Dq (H : Hp) (A : Ad) (D : Bd) : Prop where
  b : H A.b = some (.lst [.ref A.p0, .ref A.p1, .ref A.p2, .ref A.p3])
  nb : A.b ∉ A.ls
  e0 : H A.p0 = some (.lst (D.pts.map V.int))
  e1 : ∃ mv, H A.p1 = some (.lst mv) ∧ Ims H mv (D.mks.map Mkg.d)
  e2 : ∃ uv, H A.p2 = some (.lst uv) ∧ Ims H uv (D.uss.map Us.d)
  e3 : H A.p3 = some (.lst [])
  nd : A.ls.Nodup
noncomputable def FB (A : Ad) (H H' : Hp) : Prop := (∀ a o, H a = some o → a ∉ A.ls → H' a = some o) ∧ FK H H'
theorem FB.same {A : Ad} {H H' : Hp} (s : Same H H') : FB A H H' := ⟨fun a o e _ => s a o e, Same.fk s⟩
theorem FB.trans {A : Ad} {H H1 H2 : Hp} (a : FB A H H1) (b : FB A H1 H2) : FB A H H2 := ⟨fun c o e n => b.1 c o (a.1 c o e n) n, a.2.trans b.2⟩
theorem FB.upd {A : Ad} {H : Hp} {a : Addr} {xs ys : List V} (h : a ∈ A.ls) (e : H a = some (.lst xs)) : FB A H (upd H a (.lst ys)) := ⟨fun b o q n => by rw [upd_ne (fun z => n (by rw [z]; exact h))]; exact q, fk_lst e⟩
theorem Ad.ne {A : Ad} (h : A.ls.Nodup) : A.p0 ≠ A.p1 ∧ A.p0 ≠ A.p2 ∧ A.p0 ≠ A.p3 ∧ A.p1 ≠ A.p2 ∧ A.p1 ≠ A.p3 ∧ A.p2 ≠ A.p3 := by
  simp only [Ad.ls, List.nodup_cons, List.mem_cons, List.not_mem_nil, or_false, not_or] at h
  exact ⟨h.1.1, h.1.2.1, h.1.2.2, h.2.1.1, h.2.1.2, h.2.2.1⟩
section
variable {c : Cs} {H H' : Hp} {A : Ad} {r : V} {D : Bd}
theorem Bq.root (B : Bq c H A r D) (v : V) : Bq c (upd H A.b (.ins c.B A.bx (fB A.p0 A.p1 A.p2 A.p3 v))) A v D := by
  obtain ⟨b, e0, ⟨mv, m1, m2⟩, ⟨uv, u1, u2⟩, e3, nd⟩ := B
  have k := fk_board (o := .ins c.B A.bx (fB A.p0 A.p1 A.p2 A.p3 v)) b
  have ne : ∀ {a : Addr} {xs : List V}, H a = some (.lst xs) → a ≠ A.b := fun e => ne_of e b (fun h => nomatch h)
  exact ⟨upd_same, by rw [upd_ne (ne e0)]; exact e0, ⟨mv, by rw [upd_ne (ne m1)]; exact m1, m2.imp fun _ _ => MkAt.mono k⟩, ⟨uv, by rw [upd_ne (ne u1)]; exact u1, u2.imp fun _ _ => UsAt.mono k⟩, by rw [upd_ne (ne e3)]; exact e3, nd⟩
end
end KK.Internal
set_option maxHeartbeats 1000000
namespace KK.Internal
open PySem L2.Internal BO.Internal
structure Bw (c : Cs) (H : Hp) (A : Ad) (r : V) (D : Bd) : Prop where
  b : H A.b = some (.ins c.B A.bx (fB A.p0 A.p1 A.p2 A.p3 r))
  e0 : H A.p0 = some (.lst (D.pts.map V.int))
  e1 : ∃ mv, H A.p1 = some (.lst mv) ∧ All2 (MkAt c H) mv D.mks
  e2 : ∃ uv, H A.p2 = some (.lst uv) ∧ All2 (UsAt c H) uv D.uss
  e3 : ∃ fv, H A.p3 = some (.lst fv) ∧ Ims H fv (D.fls.map flD)
  nd : A.ls.Nodup
structure Dw (H : Hp) (A : Ad) (D : Bd) : Prop where
  b : H A.b = some (.lst [.ref A.p0, .ref A.p1, .ref A.p2, .ref A.p3])
  nb : A.b ∉ A.ls
  e0 : H A.p0 = some (.lst (D.pts.map V.int))
  e1 : ∃ mv, H A.p1 = some (.lst mv) ∧ Ims H mv (D.mks.map Mkg.d)
  e2 : ∃ uv, H A.p2 = some (.lst uv) ∧ Ims H uv (D.uss.map Us.d)
  e3 : ∃ fv, H A.p3 = some (.lst fv) ∧ Ims H fv (D.fls.map flD)
  nd : A.ls.Nodup
section
variable {c : Cs} {H H' : Hp} {A : Ad} {r : V} {D : Bd}
theorem Bw.same (B : Bw c H A r D) (s : Same H H') : Bw c H' A r D := by
  obtain ⟨b, e0, ⟨mv, m1, m2⟩, ⟨uv, u1, u2⟩, ⟨fv, g1, g2⟩, nd⟩ := B
  exact ⟨s _ _ b, s _ _ e0, ⟨mv, s _ _ m1, m2.imp fun _ _ => MkAt.mono (Same.fk s)⟩, ⟨uv, s _ _ u1, u2.imp fun _ _ => UsAt.mono (Same.fk s)⟩, ⟨fv, s _ _ g1, g2.mono (Same.tk s)⟩, nd⟩
theorem Bw.other (B : Bw c H A r D) {a : Addr} {xs ys : List V} (e : H a = some (.lst xs)) (n : a ∉ A.ls) : Bw c (upd H a (.lst ys)) A r D := by
  obtain ⟨b, e0, ⟨mv, m1, m2⟩, ⟨uv, u1, u2⟩, ⟨fv, g1, g2⟩, nd⟩ := B
  have k := fk_lst (o := .lst ys) e
  simp only [Ad.ls, List.mem_cons, List.not_mem_nil, or_false, not_or] at n
  exact ⟨by rw [upd_ne (ne_of b e (fun h => nomatch h))]; exact b, by rw [upd_ne (Ne.symm n.1)]; exact e0, ⟨mv, by rw [upd_ne (Ne.symm n.2.1)]; exact m1, m2.imp fun _ _ => MkAt.mono k⟩, ⟨uv, by rw [upd_ne (Ne.symm n.2.2.1)]; exact u1, u2.imp fun _ _ => UsAt.mono k⟩, ⟨fv, by rw [upd_ne (Ne.symm n.2.2.2)]; exact g1, g2.mono k.tk⟩, nd⟩
theorem Bw.pt (B : Bw c H A r D) (v : Int) : Bw c (upd H A.p0 (.lst (D.pts.map V.int ++ [.int v]))) A r { D with pts := D.pts ++ [v] } := by
  obtain ⟨b, e0, ⟨mv, m1, m2⟩, ⟨uv, u1, u2⟩, ⟨fv, g1, g2⟩, nd⟩ := B
  have k := fk_lst (o := .lst (D.pts.map V.int ++ [.int v])) e0
  obtain ⟨n1, n2, n3, _⟩ := Ad.ne nd
  exact ⟨by rw [upd_ne (ne_of b e0 (fun h => nomatch h))]; exact b, by rw [upd_same, List.map_append]; rfl, ⟨mv, by rw [upd_ne (Ne.symm n1)]; exact m1, m2.imp fun _ _ => MkAt.mono k⟩, ⟨uv, by rw [upd_ne (Ne.symm n2)]; exact u1, u2.imp fun _ _ => UsAt.mono k⟩, ⟨fv, by rw [upd_ne (Ne.symm n3)]; exact g1, g2.mono k.tk⟩, nd⟩
theorem Bw.addM (B : Bw c H A r D) {mv : List V} {x : V} {m : Mkg} (e : H A.p1 = some (.lst mv)) (hx : MkAt c H x m) : Bw c (upd H A.p1 (.lst (mv ++ [x]))) A r { D with mks := D.mks ++ [m] } := by
  obtain ⟨b, e0, ⟨mv', m1, m2⟩, ⟨uv, u1, u2⟩, ⟨fv, g1, g2⟩, nd⟩ := B
  rw [e] at m1
  cases m1
  have k := fk_lst (o := .lst (mv ++ [x])) e
  obtain ⟨n1, _, _, n4, n5, _⟩ := Ad.ne nd
  exact ⟨by rw [upd_ne (ne_of b e (fun h => nomatch h))]; exact b, by rw [upd_ne n1]; exact e0, ⟨_, upd_same, .snoc (hx.mono k) (m2.imp fun _ _ => MkAt.mono k)⟩, ⟨uv, by rw [upd_ne (Ne.symm n4)]; exact u1, u2.imp fun _ _ => UsAt.mono k⟩, ⟨fv, by rw [upd_ne (Ne.symm n5)]; exact g1, g2.mono k.tk⟩, nd⟩
theorem Bw.us (B : Bw c H A r D) {uv : List V} {x : V} {u : Us} (e : H A.p2 = some (.lst uv)) (hx : UsAt c H x u) : Bw c (upd H A.p2 (.lst (uv ++ [x]))) A r { D with uss := D.uss ++ [u] } := by
  obtain ⟨b, e0, ⟨mv, m1, m2⟩, ⟨uv', u1, u2⟩, ⟨fv, g1, g2⟩, nd⟩ := B
  rw [e] at u1
  cases u1
  have k := fk_lst (o := .lst (uv ++ [x])) e
  obtain ⟨_, n2, _, n4, _, n6⟩ := Ad.ne nd
  exact ⟨by rw [upd_ne (ne_of b e (fun h => nomatch h))]; exact b, by rw [upd_ne n2]; exact e0, ⟨mv, by rw [upd_ne n4]; exact m1, m2.imp fun _ _ => MkAt.mono k⟩, ⟨_, upd_same, .snoc (hx.mono k) (u2.imp fun _ _ => UsAt.mono k)⟩, ⟨fv, by rw [upd_ne (Ne.symm n6)]; exact g1, g2.mono k.tk⟩, nd⟩
theorem Bw.root (B : Bw c H A r D) (v : V) : Bw c (upd H A.b (.ins c.B A.bx (fB A.p0 A.p1 A.p2 A.p3 v))) A v D := by
  obtain ⟨b, e0, ⟨mv, m1, m2⟩, ⟨uv, u1, u2⟩, ⟨fv, g1, g2⟩, nd⟩ := B
  have k := fk_board (o := .ins c.B A.bx (fB A.p0 A.p1 A.p2 A.p3 v)) b
  have ne : ∀ {a : Addr} {xs : List V}, H a = some (.lst xs) → a ≠ A.b := fun e => ne_of e b (fun h => nomatch h)
  exact ⟨upd_same, by rw [upd_ne (ne e0)]; exact e0, ⟨mv, by rw [upd_ne (ne m1)]; exact m1, m2.imp fun _ _ => MkAt.mono k⟩, ⟨uv, by rw [upd_ne (ne u1)]; exact u1, u2.imp fun _ _ => UsAt.mono k⟩, ⟨fv, by rw [upd_ne (ne g1)]; exact g1, g2.mono k.tk⟩, nd⟩
theorem Dw.same (B : Dw H A D) (s : Same H H') : Dw H' A D := by
  obtain ⟨b, nb, e0, ⟨mv, m1, m2⟩, ⟨uv, u1, u2⟩, ⟨fv, g1, g2⟩, nd⟩ := B
  exact ⟨s _ _ b, nb, s _ _ e0, ⟨mv, s _ _ m1, m2.mono (Same.tk s)⟩, ⟨uv, s _ _ u1, u2.mono (Same.tk s)⟩, ⟨fv, s _ _ g1, g2.mono (Same.tk s)⟩, nd⟩
theorem Dw.fb {M : Ad} (B : Dw H A D) (F : FB M H H') (hb : A.b ∉ M.ls) (hl : ∀ a ∈ A.ls, a ∉ M.ls) : Dw H' A D := by
  obtain ⟨b, nb, e0, ⟨mv, m1, m2⟩, ⟨uv, u1, u2⟩, ⟨fv, g1, g2⟩, nd⟩ := B
  exact ⟨F.1 _ _ b hb, nb, F.1 _ _ e0 (hl _ (by simp [Ad.ls])), ⟨mv, F.1 _ _ m1 (hl _ (by simp [Ad.ls])), m2.mono F.2.tk⟩, ⟨uv, F.1 _ _ u1 (hl _ (by simp [Ad.ls])), u2.mono F.2.tk⟩, ⟨fv, F.1 _ _ g1 (hl _ (by simp [Ad.ls])), g2.mono F.2.tk⟩, nd⟩
theorem Bw.fb {M : Ad} (B : Bw c H A r D) (F : FB M H H') (hb : A.b ∉ M.ls) (hl : ∀ a ∈ A.ls, a ∉ M.ls) : Bw c H' A r D := by
  obtain ⟨b, e0, ⟨mv, m1, m2⟩, ⟨uv, u1, u2⟩, ⟨fv, g1, g2⟩, nd⟩ := B
  exact ⟨F.1 _ _ b hb, F.1 _ _ e0 (hl _ (by simp [Ad.ls])), ⟨mv, F.1 _ _ m1 (hl _ (by simp [Ad.ls])), m2.imp fun _ _ => MkAt.mono F.2⟩, ⟨uv, F.1 _ _ u1 (hl _ (by simp [Ad.ls])), u2.imp fun _ _ => UsAt.mono F.2⟩, ⟨fv, F.1 _ _ g1 (hl _ (by simp [Ad.ls])), g2.mono F.2.tk⟩, nd⟩
theorem Dw.other (B : Dw H A D) {a : Addr} {xs ys : List V} (e : H a = some (.lst xs)) (n : a ∉ A.ls) (nb' : a ≠ A.b) : Dw (upd H a (.lst ys)) A D := by
  obtain ⟨b, nb, e0, ⟨mv, m1, m2⟩, ⟨uv, u1, u2⟩, ⟨fv, g1, g2⟩, nd⟩ := B
  have k := (fk_lst (o := .lst ys) e).tk
  simp only [Ad.ls, List.mem_cons, List.not_mem_nil, or_false, not_or] at n
  exact ⟨by rw [upd_ne (Ne.symm nb')]; exact b, nb, by rw [upd_ne (Ne.symm n.1)]; exact e0, ⟨mv, by rw [upd_ne (Ne.symm n.2.1)]; exact m1, m2.mono k⟩, ⟨uv, by rw [upd_ne (Ne.symm n.2.2.1)]; exact u1, u2.mono k⟩, ⟨fv, by rw [upd_ne (Ne.symm n.2.2.2)]; exact g1, g2.mono k⟩, nd⟩
theorem Dw.nbs (B : Dw H A D) : A.b ≠ A.p0 ∧ A.b ≠ A.p1 ∧ A.b ≠ A.p2 := by
  have n := B.nb
  simp only [Ad.ls, List.mem_cons, List.not_mem_nil, or_false, not_or] at n
  exact ⟨n.1, n.2.1, n.2.2.1⟩
theorem Dw.pt (B : Dw H A D) (v : Int) : Dw (upd H A.p0 (.lst (D.pts.map V.int ++ [.int v]))) A { D with pts := D.pts ++ [v] } := by
  obtain ⟨nb0, _, _⟩ := B.nbs
  obtain ⟨b, nb, e0, ⟨mv, m1, m2⟩, ⟨uv, u1, u2⟩, ⟨fv, g1, g2⟩, nd⟩ := B
  have k := (fk_lst (o := .lst (D.pts.map V.int ++ [.int v])) e0).tk
  obtain ⟨n1, n2, n3, _⟩ := Ad.ne nd
  exact ⟨by rw [upd_ne nb0]; exact b, nb, by rw [upd_same, List.map_append]; rfl, ⟨mv, by rw [upd_ne (Ne.symm n1)]; exact m1, m2.mono k⟩, ⟨uv, by rw [upd_ne (Ne.symm n2)]; exact u1, u2.mono k⟩, ⟨fv, by rw [upd_ne (Ne.symm n3)]; exact g1, g2.mono k⟩, nd⟩
theorem Dw.addM (B : Dw H A D) {mv : List V} {x : V} {m : Mkg} (e : H A.p1 = some (.lst mv)) (hx : Im H x m.d) : Dw (upd H A.p1 (.lst (mv ++ [x]))) A { D with mks := D.mks ++ [m] } := by
  obtain ⟨_, nb1, _⟩ := B.nbs
  obtain ⟨b, nb, e0, ⟨mv', m1, m2⟩, ⟨uv, u1, u2⟩, ⟨fv, g1, g2⟩, nd⟩ := B
  rw [e] at m1
  cases m1
  have k := (fk_lst (o := .lst (mv ++ [x])) e).tk
  obtain ⟨n1, _, _, n4, n5, _⟩ := Ad.ne nd
  exact ⟨by rw [upd_ne nb1]; exact b, nb, by rw [upd_ne n1]; exact e0, ⟨_, upd_same, by rw [List.map_append]; exact (m2.mono k).app (.cons (hx.mono k) .nil)⟩, ⟨uv, by rw [upd_ne (Ne.symm n4)]; exact u1, u2.mono k⟩, ⟨fv, by rw [upd_ne (Ne.symm n5)]; exact g1, g2.mono k⟩, nd⟩
theorem Dw.us (B : Dw H A D) {uv : List V} {x : V} {u : Us} (e : H A.p2 = some (.lst uv)) (hx : Im H x u.d) : Dw (upd H A.p2 (.lst (uv ++ [x]))) A { D with uss := D.uss ++ [u] } := by
  obtain ⟨_, _, nb2⟩ := B.nbs
  obtain ⟨b, nb, e0, ⟨mv, m1, m2⟩, ⟨uv', u1, u2⟩, ⟨fv, g1, g2⟩, nd⟩ := B
  rw [e] at u1
  cases u1
  have k := (fk_lst (o := .lst (uv ++ [x])) e).tk
  obtain ⟨_, n2, _, n4, _, n6⟩ := Ad.ne nd
  exact ⟨by rw [upd_ne nb2]; exact b, nb, by rw [upd_ne n2]; exact e0, ⟨mv, by rw [upd_ne n4]; exact m1, m2.mono k⟩, ⟨_, upd_same, by rw [List.map_append]; exact (u2.mono k).app (.cons (hx.mono k) .nil)⟩, ⟨fv, by rw [upd_ne (Ne.symm n6)]; exact g1, g2.mono k⟩, nd⟩
end

theorem Bw.fl {c : Cs} {H : Hp} {A : Ad} {r : V} {D : Bd} (B : Bw c H A r D) {fv : List V} {x : V} {p : Int × Int} (e : H A.p3 = some (.lst fv)) (hx : Im H x (flD p)) : Bw c (upd H A.p3 (.lst (fv ++ [x]))) A r { D with fls := D.fls ++ [p] } := by
  obtain ⟨b, e0, ⟨mv, m1, m2⟩, ⟨uv, u1, u2⟩, ⟨fv', g1, g2⟩, nd⟩ := B
  rw [e] at g1
  cases g1
  have k := fk_lst (o := .lst (fv ++ [x])) e
  obtain ⟨_, _, n3, _, n5, n6⟩ := Ad.ne nd
  exact ⟨by rw [upd_ne (ne_of b e (fun h => nomatch h))]; exact b, by rw [upd_ne n3]; exact e0, ⟨mv, by rw [upd_ne n5]; exact m1, m2.imp fun _ _ => MkAt.mono k⟩, ⟨uv, by rw [upd_ne n6]; exact u1, u2.imp fun _ _ => UsAt.mono k⟩, ⟨_, upd_same, by rw [List.map_append]; exact (g2.mono k.tk).app (.cons (hx.mono k.tk) .nil)⟩, nd⟩
theorem Dw.nb3 {H : Hp} {A : Ad} {D : Bd} (B : Dw H A D) : A.b ≠ A.p3 := by
  have n := B.nb
  simp only [Ad.ls, List.mem_cons, List.not_mem_nil, or_false, not_or] at n
  exact n.2.2.2
theorem Dw.fl {H : Hp} {A : Ad} {D : Bd} (B : Dw H A D) {fv : List V} {x : V} {p : Int × Int} (e : H A.p3 = some (.lst fv)) (hx : Im H x (flD p)) : Dw (upd H A.p3 (.lst (fv ++ [x]))) A { D with fls := D.fls ++ [p] } := by
  have nb3 := B.nb3
  obtain ⟨b, nb, e0, ⟨mv, m1, m2⟩, ⟨uv, u1, u2⟩, ⟨fv', g1, g2⟩, nd⟩ := B
  rw [e] at g1
  cases g1
  have k := (fk_lst (o := .lst (fv ++ [x])) e).tk
  obtain ⟨_, _, n3, _, n5, n6⟩ := Ad.ne nd
  exact ⟨by rw [upd_ne nb3]; exact b, nb, by rw [upd_ne n3]; exact e0, ⟨mv, by rw [upd_ne n5]; exact m1, m2.mono k⟩, ⟨uv, by rw [upd_ne n6]; exact u1, u2.mono k⟩, ⟨_, upd_same, by rw [List.map_append]; exact (g2.mono k).app (.cons (hx.mono k) .nil)⟩, nd⟩
theorem Bw.out {c : Cs} {H : Hp} {A : Ad} {r : V} {D : Bd} (B : Bw c H A r D) {a : Addr} (h : H a = none) : a ∉ A.ls := fun m => by
  obtain ⟨b, e0, ⟨mv, m1, m2⟩, ⟨uv, u1, u2⟩, ⟨fv, e3, _⟩, nd⟩ := B
  simp only [Ad.ls, List.mem_cons, List.not_mem_nil, or_false] at m
  rcases m with rfl | rfl | rfl | rfl
  · rw [h] at e0; cases e0
  · rw [h] at m1; cases m1
  · rw [h] at u1; cases u1
  · rw [h] at e3; cases e3
theorem Dw.out {H : Hp} {A : Ad} {D : Bd} (B : Dw H A D) {a : Addr} (h : H a = none) : a ∉ A.ls := fun m => by
  obtain ⟨b, nb, e0, ⟨mv, m1, m2⟩, ⟨uv, u1, u2⟩, ⟨fv, e3, _⟩, nd⟩ := B
  simp only [Ad.ls, List.mem_cons, List.not_mem_nil, or_false] at m
  rcases m with rfl | rfl | rfl | rfl
  · rw [h] at e0; cases e0
  · rw [h] at m1; cases m1
  · rw [h] at u1; cases u1
  · rw [h] at e3; cases e3

theorem Dw.insd {H : Hp} {A : Ad} {D : Bd} {a C dx p0 p1 p2 p3 : Addr} {r : V} {o : HO} (B : Dw H A D) (e : H a = some (.ins C dx (fB p0 p1 p2 p3 r))) : Dw (upd H a o) A D := by
  obtain ⟨b, nb, e0, ⟨mv, m1, m2⟩, ⟨uv, u1, u2⟩, ⟨fv, g1, g2⟩, nd⟩ := B
  have k := (fk_board (o := o) e).tk
  have ne : ∀ {x : Addr} {xs : List V}, H x = some (.lst xs) → x ≠ a := fun e' => ne_of e' e (fun h => nomatch h)
  exact ⟨by rw [upd_ne (ne b)]; exact b, nb, by rw [upd_ne (ne e0)]; exact e0, ⟨mv, by rw [upd_ne (ne m1)]; exact m1, m2.mono k⟩, ⟨uv, by rw [upd_ne (ne u1)]; exact u1, u2.mono k⟩, ⟨fv, by rw [upd_ne (ne g1)]; exact g1, g2.mono k⟩, nd⟩
noncomputable def rLstOf (K : PySem.W.Frag) : List V → Hp → VK → Prop := fun xs H Q => ∃ p ys, xs = [.ref p] ∧ (SqL K H p ys ∨ SqT K H p ys) ∧ ∀ l, H l = none → Q (.ref l) (upd H l (.lst ys))
inductive Pm where
  | num
  | any
  | fn (i o : Nat)
  | rcd (l : List (Str × Nat))
  | tag (w : Str) (o : Nat)
  | row (o : Nat)
inductive Pu where
  | num
  | call (o i : Nat)
  | take (l : List (Str × Nat))
  | case (l : List (Str × Nat))
  | row (i : Nat)
noncomputable def mvL (b : Nat) (l : List (Str × Nat)) : List (Str × Int) := l.map fun p => (p.1, (b : Int) + (p.2 : Int))
noncomputable def nI (n : Nat) : Dt := iD (n : Int)
noncomputable def prN (l : List (Str × Nat)) : Dt := .tup (l.map fun p => .tup [sD p.1, nI p.2])
noncomputable def Pm.sh : Pm → Str
  | .num => "num"
  | .any => "any"
  | .fn _ _ => "fn"
  | .rcd _ => "rec"
  | .tag _ _ => "tag"
  | .row _ => "row"
noncomputable def Pm.rest : Pm → List Dt
  | .num => []
  | .any => []
  | .fn i o => [nI i, nI o]
  | .rcd l => [prN l]
  | .tag w o => [sD w, nI o]
  | .row o => [nI o]
noncomputable def Pm.d (m : Pm) : Dt := .tup (sD m.sh :: m.rest)
noncomputable def Pm.ok (no ni : Nat) : Pm → Prop
  | .fn i o => i < ni ∧ o < no
  | .rcd l => l.length ≤ 4 ∧ ∀ p ∈ l, p.2 < no
  | .tag _ o => o < no
  | .row o => o < no
  | _ => True
noncomputable def Pm.parts (b i : Nat) : Pm → Dt
  | .num => .tup []
  | .any => .tup []
  | .fn x o => .tup [iD ((i : Int) + (x : Int)), iD ((b : Int) + (o : Int))]
  | .rcd l => prD (mvL b l)
  | .tag w o => .tup [sD w, iD ((b : Int) + (o : Int))]
  | .row o => .tup [iD ((b : Int) + (o : Int))]
noncomputable def Pu.sh : Pu → Str
  | .num => "num"
  | .call _ _ => "call"
  | .take _ => "take"
  | .case _ => "case"
  | .row _ => "row"
noncomputable def Pu.rest : Pu → List Dt
  | .num => []
  | .call o i => [nI o, nI i]
  | .take l => [prN l]
  | .case l => [prN l]
  | .row i => [nI i]
noncomputable def Pu.d (u : Pu) : Dt := .tup (sD u.sh :: u.rest)
noncomputable def Pu.ok (no ni : Nat) : Pu → Prop
  | .num => True
  | .call o i => o < no ∧ i < ni
  | .take l => l.length ≤ 4 ∧ ∀ p ∈ l, p.2 < ni
  | .case l => l.length ≤ 4 ∧ ∀ p ∈ l, p.2 < ni
  | .row i => i < ni
noncomputable def Pu.us (b i : Nat) (a p : Int) : Pu → Us
  | .num => .num a p 0
  | .call o x => .call a p 0 ((b : Int) + (o : Int)) ((i : Int) + (x : Int))
  | .take l => .take a p 0 (mvL i l)
  | .case l => .case a p 0 (mvL i l)
  | .row x => .row a p 0 ((i : Int) + (x : Int))
structure Pp where
  outs : List (List Pm)
  ins : List (List Pu)
  fls : List (Nat × Nat)
structure Pp.ok (P : Pp) : Prop where
  o1 : 1 ≤ P.outs.length
  o8 : P.outs.length ≤ 8
  i8 : P.ins.length ≤ 8
  om : ∀ l ∈ P.outs, l.length ≤ 64 ∧ ∀ m ∈ l, m.ok P.outs.length P.ins.length
  iu : ∀ l ∈ P.ins, l.length ≤ 64 ∧ ∀ u ∈ l, u.ok P.outs.length P.ins.length
  ff : P.fls.length ≤ 64 ∧ ∀ p ∈ P.fls, p.1 < P.ins.length ∧ p.2 < P.outs.length
noncomputable def mkO (b i : Nat) (p : Int) (k : Nat) (l : List Pm) : List Mkg := l.map fun m => ⟨m.sh, m.parts b i, (b : Int) + (k : Int), p⟩
noncomputable def usO (b i : Nat) (p : Int) (k : Nat) (l : List Pu) : List Us := l.map (Pu.us b i ((i : Int) + (k : Int)) p)
noncomputable def mkA (b i : Nat) (p : Int) : Nat → List (List Pm) → List Mkg
  | _, [] => []
  | k, l :: t => mkO b i p k l ++ mkA b i p (k + 1) t
noncomputable def usA (b i : Nat) (p : Int) : Nat → List (List Pu) → List Us
  | _, [] => []
  | k, l :: t => usO b i p k l ++ usA b i p (k + 1) t
theorem mkA_snoc (b i : Nat) (p : Int) : ∀ (k : Nat) (l : List (List Pm)) (x : List Pm), mkA b i p k (l ++ [x]) = mkA b i p k l ++ mkO b i p (k + l.length) x
  | k, [], x => by simp [mkA]
  | k, y :: t, x => by
    rw [List.cons_append, mkA, mkA_snoc b i p (k + 1) t x, mkA, List.length_cons, List.append_assoc, show k + 1 + t.length = k + (t.length + 1) by omega]
theorem usA_snoc (b i : Nat) (p : Int) : ∀ (k : Nat) (l : List (List Pu)) (x : List Pu), usA b i p k (l ++ [x]) = usA b i p k l ++ usO b i p (k + l.length) x
  | k, [], x => by simp [usA]
  | k, y :: t, x => by
    rw [List.cons_append, usA, usA_snoc b i p (k + 1) t x, usA, List.length_cons, List.append_assoc, show k + 1 + t.length = k + (t.length + 1) by omega]
theorem mkA_len (b i : Nat) (p : Int) : ∀ (k : Nat) (l : List (List Pm)), (∀ x ∈ l, x.length ≤ 64) → (mkA b i p k l).length ≤ 64 * l.length
  | k, [], _ => by simp [mkA]
  | k, y :: t, h => by
    have h1 := h y (by simp)
    have h2 := mkA_len b i p (k + 1) t fun x hx => h x (by simp [hx])
    rw [mkA, List.length_append, mkO, List.length_map, List.length_cons]
    omega
theorem usA_len (b i : Nat) (p : Int) : ∀ (k : Nat) (l : List (List Pu)), (∀ x ∈ l, x.length ≤ 64) → (usA b i p k l).length ≤ 64 * l.length
  | k, [], _ => by simp [usA]
  | k, y :: t, h => by
    have h1 := h y (by simp)
    have h2 := usA_len b i p (k + 1) t fun x hx => h x (by simp [hx])
    rw [usA, List.length_append, usO, List.length_map, List.length_cons]
    omega
noncomputable def flF (b i : Nat) (p : Nat × Nat) : Int × Int := ((i : Int) + (p.1 : Int), (b : Int) + (p.2 : Int))
noncomputable def paste (P : Pp) (pl : Int) (D : Bd) : Bd :=
  { D with
    pts := D.pts ++ List.replicate (P.outs.length + P.ins.length) pl
    mks := D.mks ++ mkA D.pts.length (D.pts.length + P.outs.length) pl 0 P.outs
    uss := D.uss ++ usA D.pts.length (D.pts.length + P.outs.length) pl 0 P.ins
    fls := D.fls ++ P.fls.map (flF D.pts.length (D.pts.length + P.outs.length)) }
end KK.Internal
namespace K25.Internal
open PySem L2.Internal
theorem l0 {P : List Value → Prop} (h : P []) : ∀ us : List Value, us.length = 0 → P us := fun us e => by rw [List.eq_nil_of_length_eq_zero e]; exact h
theorem lS {n : Nat} {P : List Value → Prop} (h : ∀ a, ∀ us : List Value, us.length = n → P (a :: us)) : ∀ us : List Value, us.length = n + 1 → P us := fun us e => by
  cases us with
  | nil => cases e
  | cons a t => exact h a t (Nat.succ.inj e)
noncomputable def top (i : Nat) : Stmt := PySem.Challenge.pw_flowkinds_k25_a_paper_pasted.main.body.getD i (.Pass ⟨0, 0, 0, 0⟩)
noncomputable abbrev s__wall : Stmt := top 0
noncomputable abbrev s_pasted : Stmt := top 12
noncomputable abbrev s_new_points : Stmt := top 13
noncomputable abbrev s_parts_made : Stmt := top 14
noncomputable abbrev s_use_made : Stmt := top 15
noncomputable abbrev s_with_points : Stmt := top 16
noncomputable abbrev s__law_stem : Stmt := top 18
noncomputable abbrev s__law_words : Stmt := top 19
noncomputable abbrev s__law_alike : Stmt := top 20
noncomputable abbrev s__law_mix : Stmt := top 21
noncomputable abbrev s__law_told : Stmt := top 22
noncomputable abbrev s__law_words_by : Stmt := top 23
noncomputable abbrev s__law_making : Stmt := top 24
noncomputable abbrev s__law_using : Stmt := top 25
noncomputable abbrev s__law_paper : Stmt := top 26
noncomputable abbrev s__law_parts_due : Stmt := top 27
noncomputable abbrev s__law_use_due : Stmt := top 28
noncomputable abbrev s__law_paste : Stmt := top 29
noncomputable abbrev s_law : Stmt := top 30
noncomputable abbrev s_Make___init__ : Stmt := inClass (top 2) 0
noncomputable abbrev s_Make_told : Stmt := inClass (top 2) 1
noncomputable abbrev s_Use___init__ : Stmt := inClass (top 3) 0
noncomputable abbrev s_NumUse_met : Stmt := inClass (top 4) 0
noncomputable abbrev s_NumUse_told : Stmt := inClass (top 4) 1
noncomputable abbrev s_CallUse___init__ : Stmt := inClass (top 5) 0
noncomputable abbrev s_CallUse_met : Stmt := inClass (top 5) 1
noncomputable abbrev s_CallUse_told : Stmt := inClass (top 5) 2
noncomputable abbrev s_TakeUse___init__ : Stmt := inClass (top 6) 0
noncomputable abbrev s_TakeUse_met : Stmt := inClass (top 6) 1
noncomputable abbrev s_TakeUse_told : Stmt := inClass (top 6) 2
noncomputable abbrev s_CaseUse___init__ : Stmt := inClass (top 7) 0
noncomputable abbrev s_CaseUse_met : Stmt := inClass (top 7) 1
noncomputable abbrev s_CaseUse_told : Stmt := inClass (top 7) 2
noncomputable abbrev s_RowUse___init__ : Stmt := inClass (top 8) 0
noncomputable abbrev s_RowUse_met : Stmt := inClass (top 8) 1
noncomputable abbrev s_RowUse_told : Stmt := inClass (top 8) 2
noncomputable abbrev s_Board___init__ : Stmt := inClass (top 9) 0
noncomputable abbrev s_Board_point : Stmt := inClass (top 9) 1
noncomputable abbrev s_Board_make : Stmt := inClass (top 9) 2
noncomputable abbrev s_Board_use : Stmt := inClass (top 9) 3
noncomputable abbrev s_Board_flow : Stmt := inClass (top 9) 4
noncomputable abbrev s_Board_rooted : Stmt := inClass (top 9) 5
noncomputable abbrev s_Paper___init__ : Stmt := inClass (top 11) 0
set_option genInjectivity false in
set_option genSizeOf false in
structure Txt (K : PySem.W.Frag) (mg : Str → Option Value) where
  a_pasted : Addr
  fd_pasted : FuncData
  F_pasted : Fun K "pasted" "pasted" s_pasted a_pasted fd_pasted
  b_pasted : Binds K fd_pasted ["board", "paper", "place"] []
  m_pasted : mg "pasted" = some (.ref a_pasted)
  k_pasted : PySem.W.keepIn K (.ref a_pasted) = true
  a_new_points : Addr
  fd_new_points : FuncData
  F_new_points : Fun K "new_points" "new_points" s_new_points a_new_points fd_new_points
  b_new_points : Binds K fd_new_points ["board", "count", "place"] []
  m_new_points : mg "new_points" = some (.ref a_new_points)
  k_new_points : PySem.W.keepIn K (.ref a_new_points) = true
  a_parts_made : Addr
  fd_parts_made : FuncData
  F_parts_made : Fun K "parts_made" "parts_made" s_parts_made a_parts_made fd_parts_made
  b_parts_made : Binds K fd_parts_made ["making", "outs", "ins"] []
  m_parts_made : mg "parts_made" = some (.ref a_parts_made)
  k_parts_made : PySem.W.keepIn K (.ref a_parts_made) = true
  a_use_made : Addr
  fd_use_made : FuncData
  F_use_made : Fun K "use_made" "use_made" s_use_made a_use_made fd_use_made
  b_use_made : Binds K fd_use_made ["one", "at", "place", "outs", "ins"] []
  m_use_made : mg "use_made" = some (.ref a_use_made)
  k_use_made : PySem.W.keepIn K (.ref a_use_made) = true
  a_with_points : Addr
  fd_with_points : FuncData
  F_with_points : Fun K "with_points" "with_points" s_with_points a_with_points fd_with_points
  b_with_points : Binds K fd_with_points ["pairs", "points"] []
  m_with_points : mg "with_points" = some (.ref a_with_points)
  k_with_points : PySem.W.keepIn K (.ref a_with_points) = true
  a__law_stem : Addr
  fd__law_stem : FuncData
  F__law_stem : Fun K "_law_stem" "_law_stem" s__law_stem a__law_stem fd__law_stem
  b__law_stem : Binds K fd__law_stem ["_law_cell", "_law_size"] []
  m__law_stem : mg "_law_stem" = some (.ref a__law_stem)
  k__law_stem : PySem.W.keepIn K (.ref a__law_stem) = true
  a__law_words : Addr
  fd__law_words : FuncData
  F__law_words : Fun K "_law_words" "_law_words" s__law_words a__law_words fd__law_words
  b__law_words : Binds K fd__law_words ["_law_cell"] []
  m__law_words : mg "_law_words" = some (.ref a__law_words)
  k__law_words : PySem.W.keepIn K (.ref a__law_words) = true
  a__law_alike : Addr
  fd__law_alike : FuncData
  F__law_alike : Fun K "_law_alike" "_law_alike" s__law_alike a__law_alike fd__law_alike
  b__law_alike : Binds K fd__law_alike ["_law_found", "_law_due"] []
  m__law_alike : mg "_law_alike" = some (.ref a__law_alike)
  k__law_alike : PySem.W.keepIn K (.ref a__law_alike) = true
  a__law_mix : Addr
  fd__law_mix : FuncData
  F__law_mix : Fun K "_law_mix" "_law_mix" s__law_mix a__law_mix fd__law_mix
  b__law_mix : Binds K fd__law_mix ["_law_cell", "_law_k"] []
  m__law_mix : mg "_law_mix" = some (.ref a__law_mix)
  k__law_mix : PySem.W.keepIn K (.ref a__law_mix) = true
  a__law_told : Addr
  fd__law_told : FuncData
  F__law_told : Fun K "_law_told" "_law_told" s__law_told a__law_told fd__law_told
  b__law_told : Binds K fd__law_told ["_law_board"] []
  m__law_told : mg "_law_told" = some (.ref a__law_told)
  k__law_told : PySem.W.keepIn K (.ref a__law_told) = true
  a__law_words_by : Addr
  fd__law_words_by : FuncData
  F__law_words_by : Fun K "_law_words_by" "_law_words_by" s__law_words_by a__law_words_by fd__law_words_by
  b__law_words_by : Binds K fd__law_words_by ["_law_words_here", "_law_c", "_law_many", "_law_size"] []
  m__law_words_by : mg "_law_words_by" = some (.ref a__law_words_by)
  k__law_words_by : PySem.W.keepIn K (.ref a__law_words_by) = true
  a__law_making : Addr
  fd__law_making : FuncData
  F__law_making : Fun K "_law_making" "_law_making" s__law_making a__law_making fd__law_making
  b__law_making : Binds K fd__law_making ["_law_words_here", "_law_c", "_law_outs", "_law_ins"] []
  m__law_making : mg "_law_making" = some (.ref a__law_making)
  k__law_making : PySem.W.keepIn K (.ref a__law_making) = true
  a__law_using : Addr
  fd__law_using : FuncData
  F__law_using : Fun K "_law_using" "_law_using" s__law_using a__law_using fd__law_using
  b__law_using : Binds K fd__law_using ["_law_words_here", "_law_c", "_law_outs", "_law_ins"] []
  m__law_using : mg "_law_using" = some (.ref a__law_using)
  k__law_using : PySem.W.keepIn K (.ref a__law_using) = true
  a__law_paper : Addr
  fd__law_paper : FuncData
  F__law_paper : Fun K "_law_paper" "_law_paper" s__law_paper a__law_paper fd__law_paper
  b__law_paper : Binds K fd__law_paper ["_law_words_here", "_law_first", "_law_cells"] []
  m__law_paper : mg "_law_paper" = some (.ref a__law_paper)
  k__law_paper : PySem.W.keepIn K (.ref a__law_paper) = true
  a__law_parts_due : Addr
  fd__law_parts_due : FuncData
  F__law_parts_due : Fun K "_law_parts_due" "_law_parts_due" s__law_parts_due a__law_parts_due fd__law_parts_due
  b__law_parts_due : Binds K fd__law_parts_due ["_law_one", "_law_base", "_law_inner"] []
  m__law_parts_due : mg "_law_parts_due" = some (.ref a__law_parts_due)
  k__law_parts_due : PySem.W.keepIn K (.ref a__law_parts_due) = true
  a__law_use_due : Addr
  fd__law_use_due : FuncData
  F__law_use_due : Fun K "_law_use_due" "_law_use_due" s__law_use_due a__law_use_due fd__law_use_due
  b__law_use_due : Binds K fd__law_use_due ["_law_one", "_law_base", "_law_inner"] []
  m__law_use_due : mg "_law_use_due" = some (.ref a__law_use_due)
  k__law_use_due : PySem.W.keepIn K (.ref a__law_use_due) = true
  a__law_paste : Addr
  fd__law_paste : FuncData
  F__law_paste : Fun K "_law_paste" "_law_paste" s__law_paste a__law_paste fd__law_paste
  b__law_paste : Binds K fd__law_paste ["_law_told_here", "_law_paper_here", "_law_place"] []
  m__law_paste : mg "_law_paste" = some (.ref a__law_paste)
  k__law_paste : PySem.W.keepIn K (.ref a__law_paste) = true
  a_Make : Addr
  m_Make : mg "Make" = some (.ref a_Make)
  cl_Make : Cls K a_Make
  ty_Make : ∀ (H : Hp) (a dx : Addr) (fs : List (Str × V)), H a = some (.ins a_Make dx fs) → TyOf K H (.ref a) (.ref a_Make)
  n_Make_shape : NoAttr K a_Make "shape"
  n_Make_parts : NoAttr K a_Make "parts"
  n_Make_at : NoAttr K a_Make "at"
  n_Make_place : NoAttr K a_Make "place"
  a_Make___init__ : Addr
  fd_Make___init__ : FuncData
  F_Make___init__ : Fun K "__init__" "Make.__init__" s_Make___init__ a_Make___init__ fd_Make___init__
  b_Make___init__ : Binds K fd_Make___init__ ["self", "shape", "parts", "at", "place"] []
  mk_Make : Mk K a_Make a_Make___init__
  a_Make_told : Addr
  fd_Make_told : FuncData
  F_Make_told : Fun K "told" "Make.told" s_Make_told a_Make_told fd_Make_told
  b_Make_told : Binds K fd_Make_told ["self"] []
  me_Make_told : Meth K a_Make "told" a_Make_told
  a_Use : Addr
  m_Use : mg "Use" = some (.ref a_Use)
  cl_Use : Cls K a_Use
  ty_Use : ∀ (H : Hp) (a dx : Addr) (fs : List (Str × V)), H a = some (.ins a_Use dx fs) → TyOf K H (.ref a) (.ref a_Use)
  n_Use_at : NoAttr K a_Use "at"
  n_Use_place : NoAttr K a_Use "place"
  n_Use_slot : NoAttr K a_Use "slot"
  a_Use___init__ : Addr
  fd_Use___init__ : FuncData
  F_Use___init__ : Fun K "__init__" "Use.__init__" s_Use___init__ a_Use___init__ fd_Use___init__
  b_Use___init__ : Binds K fd_Use___init__ ["self", "at", "place", "slot"] []
  cm_Use___init__ : ClsM K a_Use "__init__" a_Use___init__
  mk_Use : Mk K a_Use a_Use___init__
  a_NumUse : Addr
  m_NumUse : mg "NumUse" = some (.ref a_NumUse)
  cl_NumUse : Cls K a_NumUse
  ty_NumUse : ∀ (H : Hp) (a dx : Addr) (fs : List (Str × V)), H a = some (.ins a_NumUse dx fs) → TyOf K H (.ref a) (.ref a_NumUse)
  n_NumUse_at : NoAttr K a_NumUse "at"
  n_NumUse_place : NoAttr K a_NumUse "place"
  n_NumUse_slot : NoAttr K a_NumUse "slot"
  a_NumUse_told : Addr
  fd_NumUse_told : FuncData
  F_NumUse_told : Fun K "told" "NumUse.told" s_NumUse_told a_NumUse_told fd_NumUse_told
  b_NumUse_told : Binds K fd_NumUse_told ["self"] []
  me_NumUse_told : Meth K a_NumUse "told" a_NumUse_told
  mk_NumUse : Mk K a_NumUse a_Use___init__
  a_CallUse : Addr
  m_CallUse : mg "CallUse" = some (.ref a_CallUse)
  cl_CallUse : Cls K a_CallUse
  ty_CallUse : ∀ (H : Hp) (a dx : Addr) (fs : List (Str × V)), H a = some (.ins a_CallUse dx fs) → TyOf K H (.ref a) (.ref a_CallUse)
  n_CallUse_arg : NoAttr K a_CallUse "arg"
  n_CallUse_out : NoAttr K a_CallUse "out"
  n_CallUse_at : NoAttr K a_CallUse "at"
  n_CallUse_place : NoAttr K a_CallUse "place"
  n_CallUse_slot : NoAttr K a_CallUse "slot"
  a_CallUse___init__ : Addr
  fd_CallUse___init__ : FuncData
  F_CallUse___init__ : Fun K "__init__" "CallUse.__init__" s_CallUse___init__ a_CallUse___init__ fd_CallUse___init__
  b_CallUse___init__ : Binds K fd_CallUse___init__ ["self", "at", "place", "slot", "arg", "out"] []
  mk_CallUse : Mk K a_CallUse a_CallUse___init__
  a_CallUse_told : Addr
  fd_CallUse_told : FuncData
  F_CallUse_told : Fun K "told" "CallUse.told" s_CallUse_told a_CallUse_told fd_CallUse_told
  b_CallUse_told : Binds K fd_CallUse_told ["self"] []
  me_CallUse_told : Meth K a_CallUse "told" a_CallUse_told
  a_TakeUse : Addr
  m_TakeUse : mg "TakeUse" = some (.ref a_TakeUse)
  cl_TakeUse : Cls K a_TakeUse
  ty_TakeUse : ∀ (H : Hp) (a dx : Addr) (fs : List (Str × V)), H a = some (.ins a_TakeUse dx fs) → TyOf K H (.ref a) (.ref a_TakeUse)
  n_TakeUse_fields : NoAttr K a_TakeUse "fields"
  n_TakeUse_at : NoAttr K a_TakeUse "at"
  n_TakeUse_place : NoAttr K a_TakeUse "place"
  n_TakeUse_slot : NoAttr K a_TakeUse "slot"
  a_TakeUse___init__ : Addr
  fd_TakeUse___init__ : FuncData
  F_TakeUse___init__ : Fun K "__init__" "TakeUse.__init__" s_TakeUse___init__ a_TakeUse___init__ fd_TakeUse___init__
  b_TakeUse___init__ : Binds K fd_TakeUse___init__ ["self", "at", "place", "slot", "fields"] []
  mk_TakeUse : Mk K a_TakeUse a_TakeUse___init__
  a_TakeUse_told : Addr
  fd_TakeUse_told : FuncData
  F_TakeUse_told : Fun K "told" "TakeUse.told" s_TakeUse_told a_TakeUse_told fd_TakeUse_told
  b_TakeUse_told : Binds K fd_TakeUse_told ["self"] []
  me_TakeUse_told : Meth K a_TakeUse "told" a_TakeUse_told
  a_CaseUse : Addr
  m_CaseUse : mg "CaseUse" = some (.ref a_CaseUse)
  cl_CaseUse : Cls K a_CaseUse
  ty_CaseUse : ∀ (H : Hp) (a dx : Addr) (fs : List (Str × V)), H a = some (.ins a_CaseUse dx fs) → TyOf K H (.ref a) (.ref a_CaseUse)
  n_CaseUse_arms : NoAttr K a_CaseUse "arms"
  n_CaseUse_at : NoAttr K a_CaseUse "at"
  n_CaseUse_place : NoAttr K a_CaseUse "place"
  n_CaseUse_slot : NoAttr K a_CaseUse "slot"
  a_CaseUse___init__ : Addr
  fd_CaseUse___init__ : FuncData
  F_CaseUse___init__ : Fun K "__init__" "CaseUse.__init__" s_CaseUse___init__ a_CaseUse___init__ fd_CaseUse___init__
  b_CaseUse___init__ : Binds K fd_CaseUse___init__ ["self", "at", "place", "slot", "arms"] []
  mk_CaseUse : Mk K a_CaseUse a_CaseUse___init__
  a_CaseUse_told : Addr
  fd_CaseUse_told : FuncData
  F_CaseUse_told : Fun K "told" "CaseUse.told" s_CaseUse_told a_CaseUse_told fd_CaseUse_told
  b_CaseUse_told : Binds K fd_CaseUse_told ["self"] []
  me_CaseUse_told : Meth K a_CaseUse "told" a_CaseUse_told
  a_RowUse : Addr
  m_RowUse : mg "RowUse" = some (.ref a_RowUse)
  cl_RowUse : Cls K a_RowUse
  ty_RowUse : ∀ (H : Hp) (a dx : Addr) (fs : List (Str × V)), H a = some (.ins a_RowUse dx fs) → TyOf K H (.ref a) (.ref a_RowUse)
  n_RowUse_out : NoAttr K a_RowUse "out"
  n_RowUse_at : NoAttr K a_RowUse "at"
  n_RowUse_place : NoAttr K a_RowUse "place"
  n_RowUse_slot : NoAttr K a_RowUse "slot"
  a_RowUse___init__ : Addr
  fd_RowUse___init__ : FuncData
  F_RowUse___init__ : Fun K "__init__" "RowUse.__init__" s_RowUse___init__ a_RowUse___init__ fd_RowUse___init__
  b_RowUse___init__ : Binds K fd_RowUse___init__ ["self", "at", "place", "slot", "out"] []
  mk_RowUse : Mk K a_RowUse a_RowUse___init__
  a_RowUse_told : Addr
  fd_RowUse_told : FuncData
  F_RowUse_told : Fun K "told" "RowUse.told" s_RowUse_told a_RowUse_told fd_RowUse_told
  b_RowUse_told : Binds K fd_RowUse_told ["self"] []
  me_RowUse_told : Meth K a_RowUse "told" a_RowUse_told
  a_Board : Addr
  m_Board : mg "Board" = some (.ref a_Board)
  cl_Board : Cls K a_Board
  ty_Board : ∀ (H : Hp) (a dx : Addr) (fs : List (Str × V)), H a = some (.ins a_Board dx fs) → TyOf K H (.ref a) (.ref a_Board)
  n_Board_points : NoAttr K a_Board "points"
  n_Board_makes : NoAttr K a_Board "makes"
  n_Board_uses : NoAttr K a_Board "uses"
  n_Board_flows : NoAttr K a_Board "flows"
  n_Board_root : NoAttr K a_Board "root"
  a_Board___init__ : Addr
  fd_Board___init__ : FuncData
  F_Board___init__ : Fun K "__init__" "Board.__init__" s_Board___init__ a_Board___init__ fd_Board___init__
  b_Board___init__ : Binds K fd_Board___init__ ["self"] []
  mk_Board : Mk K a_Board a_Board___init__
  a_Board_point : Addr
  fd_Board_point : FuncData
  F_Board_point : Fun K "point" "Board.point" s_Board_point a_Board_point fd_Board_point
  b_Board_point : Binds K fd_Board_point ["self", "place"] []
  me_Board_point : Meth K a_Board "point" a_Board_point
  a_Board_make : Addr
  fd_Board_make : FuncData
  F_Board_make : Fun K "make" "Board.make" s_Board_make a_Board_make fd_Board_make
  b_Board_make : Binds K fd_Board_make ["self", "shape", "parts", "at", "place"] []
  me_Board_make : Meth K a_Board "make" a_Board_make
  a_Board_use : Addr
  fd_Board_use : FuncData
  F_Board_use : Fun K "use" "Board.use" s_Board_use a_Board_use fd_Board_use
  b_Board_use : Binds K fd_Board_use ["self", "one"] []
  me_Board_use : Meth K a_Board "use" a_Board_use
  a_Board_flow : Addr
  fd_Board_flow : FuncData
  F_Board_flow : Fun K "flow" "Board.flow" s_Board_flow a_Board_flow fd_Board_flow
  b_Board_flow : Binds K fd_Board_flow ["self", "p", "q"] []
  me_Board_flow : Meth K a_Board "flow" a_Board_flow
  a_Board_rooted : Addr
  fd_Board_rooted : FuncData
  F_Board_rooted : Fun K "rooted" "Board.rooted" s_Board_rooted a_Board_rooted fd_Board_rooted
  b_Board_rooted : Binds K fd_Board_rooted ["self", "p"] []
  me_Board_rooted : Meth K a_Board "rooted" a_Board_rooted
  a_Paper : Addr
  m_Paper : mg "Paper" = some (.ref a_Paper)
  cl_Paper : Cls K a_Paper
  ty_Paper : ∀ (H : Hp) (a dx : Addr) (fs : List (Str × V)), H a = some (.ins a_Paper dx fs) → TyOf K H (.ref a) (.ref a_Paper)
  n_Paper_outs : NoAttr K a_Paper "outs"
  n_Paper_ins : NoAttr K a_Paper "ins"
  n_Paper_flows : NoAttr K a_Paper "flows"
  a_Paper___init__ : Addr
  fd_Paper___init__ : FuncData
  F_Paper___init__ : Fun K "__init__" "Paper.__init__" s_Paper___init__ a_Paper___init__ fd_Paper___init__
  b_Paper___init__ : Binds K fd_Paper___init__ ["self", "outs", "ins", "flows"] []
  mk_Paper : Mk K a_Paper a_Paper___init__
  z_all : mg "all" = none
  z_bool : mg "bool" = none
  z_int : mg "int" = none
  z_isinstance : mg "isinstance" = none
  z_len : mg "len" = none
  z_list : mg "list" = none
  z_range : mg "range" = none
  z_sorted : mg "sorted" = none
  z_str : mg "str" = none
  z_sum : mg "sum" = none
  z_tuple : mg "tuple" = none
  z_zip : mg "zip" = none
theorem sc_pasted : FnScope ["board", "paper", "place", "outs", "ins", "at", "makings", "making", "uses", "one", "flow"] ["board", "paper", "place"] (defScope s_pasted) := ⟨rfl, rfl, rfl, by decide +kernel, rfl, by decide +kernel, by decide +kernel⟩
theorem sc_new_points : FnScope ["board", "count", "place", "points", "number"] ["board", "count", "place"] (defScope s_new_points) := ⟨rfl, rfl, rfl, by decide +kernel, rfl, by decide +kernel, by decide +kernel⟩
theorem sc_parts_made : FnScope ["making", "outs", "ins"] ["making", "outs", "ins"] (defScope s_parts_made) := ⟨rfl, rfl, rfl, by decide +kernel, rfl, by decide +kernel, by decide +kernel⟩
theorem sc_use_made : FnScope ["one", "at", "place", "outs", "ins"] ["one", "at", "place", "outs", "ins"] (defScope s_use_made) := ⟨rfl, rfl, rfl, by decide +kernel, rfl, by decide +kernel, by decide +kernel⟩
theorem sc_with_points : FnScope ["pairs", "points"] ["pairs", "points"] (defScope s_with_points) := ⟨rfl, rfl, rfl, by decide +kernel, rfl, by decide +kernel, by decide +kernel⟩
theorem sc__law_stem : FnScope ["_law_cell", "_law_size", "_law_signs", "_law_stem_here", "_law_k", "_law_many"] ["_law_cell", "_law_size"] (defScope s__law_stem) := ⟨rfl, rfl, rfl, by decide +kernel, rfl, by decide +kernel, by decide +kernel⟩
theorem sc__law_words : FnScope ["_law_cell", "_law_size", "_law_words_here", "_law_stem_here", "_law_at", "_law_k", "_law_word", "_law_part"] ["_law_cell"] (defScope s__law_words) := ⟨rfl, rfl, rfl, by decide +kernel, rfl, by decide +kernel, by decide +kernel⟩
theorem sc__law_alike : FnScope ["_law_found", "_law_due"] ["_law_found", "_law_due"] (defScope s__law_alike) := ⟨rfl, rfl, rfl, by decide +kernel, rfl, by decide +kernel, by decide +kernel⟩
theorem sc__law_mix : FnScope ["_law_cell", "_law_k"] ["_law_cell", "_law_k"] (defScope s__law_mix) := ⟨rfl, rfl, rfl, by decide +kernel, rfl, by decide +kernel, by decide +kernel⟩
theorem sc__law_told : FnScope ["_law_board", "_law_makes", "_law_uses"] ["_law_board"] (defScope s__law_told) := ⟨rfl, rfl, rfl, by decide +kernel, rfl, by decide +kernel, by decide +kernel⟩
theorem sc__law_words_by : FnScope ["_law_words_here", "_law_c", "_law_many", "_law_size", "_law_held", "_law_k"] ["_law_words_here", "_law_c", "_law_many", "_law_size"] (defScope s__law_words_by) := ⟨rfl, rfl, rfl, by decide +kernel, rfl, by decide +kernel, by decide +kernel⟩
theorem sc__law_making : FnScope ["_law_words_here", "_law_c", "_law_outs", "_law_ins", "_law_shape", "_law_one"] ["_law_words_here", "_law_c", "_law_outs", "_law_ins"] (defScope s__law_making) := ⟨rfl, rfl, rfl, by decide +kernel, rfl, by decide +kernel, by decide +kernel⟩
theorem sc__law_using : FnScope ["_law_words_here", "_law_c", "_law_outs", "_law_ins", "_law_shape", "_law_one"] ["_law_words_here", "_law_c", "_law_outs", "_law_ins"] (defScope s__law_using) := ⟨rfl, rfl, rfl, by decide +kernel, rfl, by decide +kernel, by decide +kernel⟩
theorem sc__law_paper : FnScope ["_law_words_here", "_law_first", "_law_cells", "_law_outs", "_law_ins", "_law_flows", "_law_cell", "_law_c", "_law_side", "_law_one"] ["_law_words_here", "_law_first", "_law_cells"] (defScope s__law_paper) := ⟨rfl, rfl, rfl, by decide +kernel, rfl, by decide +kernel, by decide +kernel⟩
theorem sc__law_parts_due : FnScope ["_law_one", "_law_base", "_law_inner"] ["_law_one", "_law_base", "_law_inner"] (defScope s__law_parts_due) := ⟨rfl, rfl, rfl, by decide +kernel, rfl, by decide +kernel, by decide +kernel⟩
theorem sc__law_use_due : FnScope ["_law_one", "_law_base", "_law_inner"] ["_law_one", "_law_base", "_law_inner"] (defScope s__law_use_due) := ⟨rfl, rfl, rfl, by decide +kernel, rfl, by decide +kernel, by decide +kernel⟩
theorem sc__law_paste : FnScope ["_law_told_here", "_law_paper_here", "_law_place", "_law_base", "_law_inner", "_law_k", "_law_one", "_law_pair"] ["_law_told_here", "_law_paper_here", "_law_place"] (defScope s__law_paste) := ⟨rfl, rfl, rfl, by decide +kernel, rfl, by decide +kernel, by decide +kernel⟩
theorem sc_law : FnScope ["_law_script", "_law_first", "_law_words_here", "_law_half", "_law_papers", "_law_handed", "_law_board", "_law_due", "_law_k", "_law_root", "_law_turn", "_law_place", "_law_many"] ["_law_script"] (defScope s_law) := ⟨rfl, rfl, rfl, by decide +kernel, rfl, by decide +kernel, by decide +kernel⟩
theorem sc_Make___init__ : FnScope ["self", "shape", "parts", "at", "place"] ["self", "shape", "parts", "at", "place"] (defScope s_Make___init__) := ⟨rfl, rfl, rfl, by decide +kernel, rfl, by decide +kernel, by decide +kernel⟩
theorem sc_Make_told : FnScope ["self"] ["self"] (defScope s_Make_told) := ⟨rfl, rfl, rfl, by decide +kernel, rfl, by decide +kernel, by decide +kernel⟩
theorem sc_Use___init__ : FnScope ["self", "at", "place", "slot"] ["self", "at", "place", "slot"] (defScope s_Use___init__) := ⟨rfl, rfl, rfl, by decide +kernel, rfl, by decide +kernel, by decide +kernel⟩
theorem sc_NumUse_told : FnScope ["self"] ["self"] (defScope s_NumUse_told) := ⟨rfl, rfl, rfl, by decide +kernel, rfl, by decide +kernel, by decide +kernel⟩
theorem sc_CallUse___init__ : FnScope ["self", "at", "place", "slot", "arg", "out"] ["self", "at", "place", "slot", "arg", "out"] (defScope s_CallUse___init__) := ⟨rfl, rfl, rfl, by decide +kernel, rfl, by decide +kernel, by decide +kernel⟩
theorem sc_CallUse_told : FnScope ["self"] ["self"] (defScope s_CallUse_told) := ⟨rfl, rfl, rfl, by decide +kernel, rfl, by decide +kernel, by decide +kernel⟩
theorem sc_TakeUse___init__ : FnScope ["self", "at", "place", "slot", "fields"] ["self", "at", "place", "slot", "fields"] (defScope s_TakeUse___init__) := ⟨rfl, rfl, rfl, by decide +kernel, rfl, by decide +kernel, by decide +kernel⟩
theorem sc_TakeUse_told : FnScope ["self"] ["self"] (defScope s_TakeUse_told) := ⟨rfl, rfl, rfl, by decide +kernel, rfl, by decide +kernel, by decide +kernel⟩
theorem sc_CaseUse___init__ : FnScope ["self", "at", "place", "slot", "arms"] ["self", "at", "place", "slot", "arms"] (defScope s_CaseUse___init__) := ⟨rfl, rfl, rfl, by decide +kernel, rfl, by decide +kernel, by decide +kernel⟩
theorem sc_CaseUse_told : FnScope ["self"] ["self"] (defScope s_CaseUse_told) := ⟨rfl, rfl, rfl, by decide +kernel, rfl, by decide +kernel, by decide +kernel⟩
theorem sc_RowUse___init__ : FnScope ["self", "at", "place", "slot", "out"] ["self", "at", "place", "slot", "out"] (defScope s_RowUse___init__) := ⟨rfl, rfl, rfl, by decide +kernel, rfl, by decide +kernel, by decide +kernel⟩
theorem sc_RowUse_told : FnScope ["self"] ["self"] (defScope s_RowUse_told) := ⟨rfl, rfl, rfl, by decide +kernel, rfl, by decide +kernel, by decide +kernel⟩
theorem sc_Board___init__ : FnScope ["self"] ["self"] (defScope s_Board___init__) := ⟨rfl, rfl, rfl, by decide +kernel, rfl, by decide +kernel, by decide +kernel⟩
theorem sc_Board_point : FnScope ["self", "place"] ["self", "place"] (defScope s_Board_point) := ⟨rfl, rfl, rfl, by decide +kernel, rfl, by decide +kernel, by decide +kernel⟩
theorem sc_Board_make : FnScope ["self", "shape", "parts", "at", "place"] ["self", "shape", "parts", "at", "place"] (defScope s_Board_make) := ⟨rfl, rfl, rfl, by decide +kernel, rfl, by decide +kernel, by decide +kernel⟩
theorem sc_Board_use : FnScope ["self", "one"] ["self", "one"] (defScope s_Board_use) := ⟨rfl, rfl, rfl, by decide +kernel, rfl, by decide +kernel, by decide +kernel⟩
theorem sc_Board_flow : FnScope ["self", "p", "q"] ["self", "p", "q"] (defScope s_Board_flow) := ⟨rfl, rfl, rfl, by decide +kernel, rfl, by decide +kernel, by decide +kernel⟩
theorem sc_Board_rooted : FnScope ["self", "p"] ["self", "p"] (defScope s_Board_rooted) := ⟨rfl, rfl, rfl, by decide +kernel, rfl, by decide +kernel, by decide +kernel⟩
theorem sc_Paper___init__ : FnScope ["self", "outs", "ins", "flows"] ["self", "outs", "ins", "flows"] (defScope s_Paper___init__) := ⟨rfl, rfl, rfl, by decide +kernel, rfl, by decide +kernel, by decide +kernel⟩
noncomputable def sp_law (K : PySem.W.Frag) : Sp := fun vs H Q _ => ∃ (a : Addr) (ns : List Int), vs = [.ref a] ∧ SqL K H a (ns.map V.int) ∧ ns.length ≤ 63 ∧ ∀ H', Q (.bl true) H'
end K25.Internal
namespace K25.Internal
open PySem L2.Internal BO.Internal KK.Internal
seal L2.Internal.PE L2.Internal.PA L2.Internal.PS L2.Internal.PSs L2.Internal.PT L2.Internal.PI
theorem same_upd {H H2 : Hp} {l : Addr} (s : Same H H2) (h : H l = none) (o : HO) : Same H (upd H2 l o) := fun b u e => by rw [upd_ne (ne_of_none e h)]; exact s b u e
theorem fU_mk (a p s : V) : putF "slot" s (putF "place" p (putF "at" a [])) = fU a p s := by
  have h1 : ¬ ("at" : Str) = "place" := by decide +kernel
  have h2 : ¬ ("at" : Str) = "slot" := by decide +kernel
  have h3 : ¬ ("place" : Str) = "slot" := by decide +kernel
  simp only [putF, if_neg h1, if_neg h2, if_neg h3, fU]
theorem fU1_mk (n : Str) (a p s x : V) (h1 : ¬ ("at" : Str) = n) (h2 : ¬ ("place" : Str) = n) (h3 : ¬ ("slot" : Str) = n) : putF n x (fU a p s) = fU1 n a p s x := by
  simp only [putF, fU, if_neg h1, if_neg h2, if_neg h3, fU1]
theorem fU2_mk (a p s x y : V) : putF "out" y (putF "arg" x (fU a p s)) = fU2 a p s x y := by
  have h1 : ¬ ("at" : Str) = "arg" := by decide +kernel
  have h2 : ¬ ("place" : Str) = "arg" := by decide +kernel
  have h3 : ¬ ("slot" : Str) = "arg" := by decide +kernel
  have h4 : ¬ ("at" : Str) = "out" := by decide +kernel
  have h5 : ¬ ("place" : Str) = "out" := by decide +kernel
  have h6 : ¬ ("slot" : Str) = "out" := by decide +kernel
  have h7 : ¬ ("arg" : Str) = "out" := by decide +kernel
  simp only [putF, fU, if_neg h1, if_neg h2, if_neg h3, if_neg h4, if_neg h5, if_neg h6, if_neg h7, fU2]
theorem fM_mk (s f a p : V) : putF "place" p (putF "at" a (putF "parts" f (putF "shape" s []))) = fM s f a p := by
  have h1 : ¬ ("shape" : Str) = "parts" := by decide +kernel
  have h2 : ¬ ("shape" : Str) = "at" := by decide +kernel
  have h3 : ¬ ("shape" : Str) = "place" := by decide +kernel
  have h4 : ¬ ("parts" : Str) = "at" := by decide +kernel
  have h5 : ¬ ("parts" : Str) = "place" := by decide +kernel
  have h6 : ¬ ("at" : Str) = "place" := by decide +kernel
  simp only [putF, if_neg h1, if_neg h2, if_neg h3, if_neg h4, if_neg h5, if_neg h6, fM]
theorem len_put {f : Str} {v : V} {fs : List (Str × V)} {n : Nat} (h : fs.length < n) : (putF f v fs).length < n + 1 := Nat.lt_of_le_of_lt (length_putF f v fs) (Nat.succ_lt_succ h)
theorem fU_at (a p s : V) : (fU a p s).lookup ("at" : Str) = some (a) := by
  unfold fU
  rw [List.lookup_cons, show (("at" : Str) == "at") = true by decide +kernel]
theorem fU_place (a p s : V) : (fU a p s).lookup ("place" : Str) = some (p) := by
  unfold fU
  rw [List.lookup_cons, show (("place" : Str) == "at") = false by decide +kernel, List.lookup_cons, show (("place" : Str) == "place") = true by decide +kernel]
theorem fU_slot (a p s : V) : (fU a p s).lookup ("slot" : Str) = some (s) := by
  unfold fU
  rw [List.lookup_cons, show (("slot" : Str) == "at") = false by decide +kernel, List.lookup_cons, show (("slot" : Str) == "place") = false by decide +kernel, List.lookup_cons, show (("slot" : Str) == "slot") = true by decide +kernel]
theorem fU_no_told (a p s : V) : (fU a p s).lookup ("told" : Str) = none := by
  unfold fU
  rw [List.lookup_cons, show (("told" : Str) == "at") = false by decide +kernel, List.lookup_cons, show (("told" : Str) == "place") = false by decide +kernel, List.lookup_cons, show (("told" : Str) == "slot") = false by decide +kernel]
  rfl
theorem fU2_at (a p s x y : V) : (fU2 a p s x y).lookup ("at" : Str) = some (a) := by
  unfold fU2
  rw [List.lookup_cons, show (("at" : Str) == "at") = true by decide +kernel]
theorem fU2_place (a p s x y : V) : (fU2 a p s x y).lookup ("place" : Str) = some (p) := by
  unfold fU2
  rw [List.lookup_cons, show (("place" : Str) == "at") = false by decide +kernel, List.lookup_cons, show (("place" : Str) == "place") = true by decide +kernel]
theorem fU2_slot (a p s x y : V) : (fU2 a p s x y).lookup ("slot" : Str) = some (s) := by
  unfold fU2
  rw [List.lookup_cons, show (("slot" : Str) == "at") = false by decide +kernel, List.lookup_cons, show (("slot" : Str) == "place") = false by decide +kernel, List.lookup_cons, show (("slot" : Str) == "slot") = true by decide +kernel]
theorem fU2_arg (a p s x y : V) : (fU2 a p s x y).lookup ("arg" : Str) = some (x) := by
  unfold fU2
  rw [List.lookup_cons, show (("arg" : Str) == "at") = false by decide +kernel, List.lookup_cons, show (("arg" : Str) == "place") = false by decide +kernel, List.lookup_cons, show (("arg" : Str) == "slot") = false by decide +kernel, List.lookup_cons, show (("arg" : Str) == "arg") = true by decide +kernel]
theorem fU2_out (a p s x y : V) : (fU2 a p s x y).lookup ("out" : Str) = some (y) := by
  unfold fU2
  rw [List.lookup_cons, show (("out" : Str) == "at") = false by decide +kernel, List.lookup_cons, show (("out" : Str) == "place") = false by decide +kernel, List.lookup_cons, show (("out" : Str) == "slot") = false by decide +kernel, List.lookup_cons, show (("out" : Str) == "arg") = false by decide +kernel, List.lookup_cons, show (("out" : Str) == "out") = true by decide +kernel]
theorem fU2_no_told (a p s x y : V) : (fU2 a p s x y).lookup ("told" : Str) = none := by
  unfold fU2
  rw [List.lookup_cons, show (("told" : Str) == "at") = false by decide +kernel, List.lookup_cons, show (("told" : Str) == "place") = false by decide +kernel, List.lookup_cons, show (("told" : Str) == "slot") = false by decide +kernel, List.lookup_cons, show (("told" : Str) == "arg") = false by decide +kernel, List.lookup_cons, show (("told" : Str) == "out") = false by decide +kernel]
  rfl
theorem fM_shape (s f a p : V) : (fM s f a p).lookup ("shape" : Str) = some (s) := by
  unfold fM
  rw [List.lookup_cons, show (("shape" : Str) == "shape") = true by decide +kernel]
theorem fM_parts (s f a p : V) : (fM s f a p).lookup ("parts" : Str) = some (f) := by
  unfold fM
  rw [List.lookup_cons, show (("parts" : Str) == "shape") = false by decide +kernel, List.lookup_cons, show (("parts" : Str) == "parts") = true by decide +kernel]
theorem fM_at (s f a p : V) : (fM s f a p).lookup ("at" : Str) = some (a) := by
  unfold fM
  rw [List.lookup_cons, show (("at" : Str) == "shape") = false by decide +kernel, List.lookup_cons, show (("at" : Str) == "parts") = false by decide +kernel, List.lookup_cons, show (("at" : Str) == "at") = true by decide +kernel]
theorem fM_place (s f a p : V) : (fM s f a p).lookup ("place" : Str) = some (p) := by
  unfold fM
  rw [List.lookup_cons, show (("place" : Str) == "shape") = false by decide +kernel, List.lookup_cons, show (("place" : Str) == "parts") = false by decide +kernel, List.lookup_cons, show (("place" : Str) == "at") = false by decide +kernel, List.lookup_cons, show (("place" : Str) == "place") = true by decide +kernel]
theorem fM_no_told (s f a p : V) : (fM s f a p).lookup ("told" : Str) = none := by
  unfold fM
  rw [List.lookup_cons, show (("told" : Str) == "shape") = false by decide +kernel, List.lookup_cons, show (("told" : Str) == "parts") = false by decide +kernel, List.lookup_cons, show (("told" : Str) == "at") = false by decide +kernel, List.lookup_cons, show (("told" : Str) == "place") = false by decide +kernel]
  rfl
theorem fB_points (p0 p1 p2 p3 : Addr) (r : V) : (fB p0 p1 p2 p3 r).lookup ("points" : Str) = some (.ref p0) := by
  unfold fB
  rw [List.lookup_cons, show (("points" : Str) == "points") = true by decide +kernel]
theorem fB_makes (p0 p1 p2 p3 : Addr) (r : V) : (fB p0 p1 p2 p3 r).lookup ("makes" : Str) = some (.ref p1) := by
  unfold fB
  rw [List.lookup_cons, show (("makes" : Str) == "points") = false by decide +kernel, List.lookup_cons, show (("makes" : Str) == "makes") = true by decide +kernel]
theorem fB_uses (p0 p1 p2 p3 : Addr) (r : V) : (fB p0 p1 p2 p3 r).lookup ("uses" : Str) = some (.ref p2) := by
  unfold fB
  rw [List.lookup_cons, show (("uses" : Str) == "points") = false by decide +kernel, List.lookup_cons, show (("uses" : Str) == "makes") = false by decide +kernel, List.lookup_cons, show (("uses" : Str) == "uses") = true by decide +kernel]
theorem fB_flows (p0 p1 p2 p3 : Addr) (r : V) : (fB p0 p1 p2 p3 r).lookup ("flows" : Str) = some (.ref p3) := by
  unfold fB
  rw [List.lookup_cons, show (("flows" : Str) == "points") = false by decide +kernel, List.lookup_cons, show (("flows" : Str) == "makes") = false by decide +kernel, List.lookup_cons, show (("flows" : Str) == "uses") = false by decide +kernel, List.lookup_cons, show (("flows" : Str) == "flows") = true by decide +kernel]
theorem fB_root (p0 p1 p2 p3 : Addr) (r : V) : (fB p0 p1 p2 p3 r).lookup ("root" : Str) = some (r) := by
  unfold fB
  rw [List.lookup_cons, show (("root" : Str) == "points") = false by decide +kernel, List.lookup_cons, show (("root" : Str) == "makes") = false by decide +kernel, List.lookup_cons, show (("root" : Str) == "uses") = false by decide +kernel, List.lookup_cons, show (("root" : Str) == "flows") = false by decide +kernel, List.lookup_cons, show (("root" : Str) == "root") = true by decide +kernel]
theorem fB_no_point (p0 p1 p2 p3 : Addr) (r : V) : (fB p0 p1 p2 p3 r).lookup ("point" : Str) = none := by
  unfold fB
  rw [List.lookup_cons, show (("point" : Str) == "points") = false by decide +kernel, List.lookup_cons, show (("point" : Str) == "makes") = false by decide +kernel, List.lookup_cons, show (("point" : Str) == "uses") = false by decide +kernel, List.lookup_cons, show (("point" : Str) == "flows") = false by decide +kernel, List.lookup_cons, show (("point" : Str) == "root") = false by decide +kernel]
  rfl
theorem fB_no_make (p0 p1 p2 p3 : Addr) (r : V) : (fB p0 p1 p2 p3 r).lookup ("make" : Str) = none := by
  unfold fB
  rw [List.lookup_cons, show (("make" : Str) == "points") = false by decide +kernel, List.lookup_cons, show (("make" : Str) == "makes") = false by decide +kernel, List.lookup_cons, show (("make" : Str) == "uses") = false by decide +kernel, List.lookup_cons, show (("make" : Str) == "flows") = false by decide +kernel, List.lookup_cons, show (("make" : Str) == "root") = false by decide +kernel]
  rfl
theorem fB_no_use (p0 p1 p2 p3 : Addr) (r : V) : (fB p0 p1 p2 p3 r).lookup ("use" : Str) = none := by
  unfold fB
  rw [List.lookup_cons, show (("use" : Str) == "points") = false by decide +kernel, List.lookup_cons, show (("use" : Str) == "makes") = false by decide +kernel, List.lookup_cons, show (("use" : Str) == "uses") = false by decide +kernel, List.lookup_cons, show (("use" : Str) == "flows") = false by decide +kernel, List.lookup_cons, show (("use" : Str) == "root") = false by decide +kernel]
  rfl
theorem fB_no_flow (p0 p1 p2 p3 : Addr) (r : V) : (fB p0 p1 p2 p3 r).lookup ("flow" : Str) = none := by
  unfold fB
  rw [List.lookup_cons, show (("flow" : Str) == "points") = false by decide +kernel, List.lookup_cons, show (("flow" : Str) == "makes") = false by decide +kernel, List.lookup_cons, show (("flow" : Str) == "uses") = false by decide +kernel, List.lookup_cons, show (("flow" : Str) == "flows") = false by decide +kernel, List.lookup_cons, show (("flow" : Str) == "root") = false by decide +kernel]
  rfl
theorem fB_no_rooted (p0 p1 p2 p3 : Addr) (r : V) : (fB p0 p1 p2 p3 r).lookup ("rooted" : Str) = none := by
  unfold fB
  rw [List.lookup_cons, show (("rooted" : Str) == "points") = false by decide +kernel, List.lookup_cons, show (("rooted" : Str) == "makes") = false by decide +kernel, List.lookup_cons, show (("rooted" : Str) == "uses") = false by decide +kernel, List.lookup_cons, show (("rooted" : Str) == "flows") = false by decide +kernel, List.lookup_cons, show (("rooted" : Str) == "root") = false by decide +kernel]
  rfl
theorem fU1F_at (a p s x : V) : (fU1 "fields" a p s x).lookup ("at" : Str) = some (a) := by
  unfold fU1
  rw [List.lookup_cons, show (("at" : Str) == "at") = true by decide +kernel]
theorem fU1F_place (a p s x : V) : (fU1 "fields" a p s x).lookup ("place" : Str) = some (p) := by
  unfold fU1
  rw [List.lookup_cons, show (("place" : Str) == "at") = false by decide +kernel, List.lookup_cons, show (("place" : Str) == "place") = true by decide +kernel]
theorem fU1F_slot (a p s x : V) : (fU1 "fields" a p s x).lookup ("slot" : Str) = some (s) := by
  unfold fU1
  rw [List.lookup_cons, show (("slot" : Str) == "at") = false by decide +kernel, List.lookup_cons, show (("slot" : Str) == "place") = false by decide +kernel, List.lookup_cons, show (("slot" : Str) == "slot") = true by decide +kernel]
theorem fU1F_fields (a p s x : V) : (fU1 "fields" a p s x).lookup ("fields" : Str) = some (x) := by
  unfold fU1
  rw [List.lookup_cons, show (("fields" : Str) == "at") = false by decide +kernel, List.lookup_cons, show (("fields" : Str) == "place") = false by decide +kernel, List.lookup_cons, show (("fields" : Str) == "slot") = false by decide +kernel, List.lookup_cons, show (("fields" : Str) == "fields") = true by decide +kernel]
theorem fU1F_no_told (a p s x : V) : (fU1 "fields" a p s x).lookup ("told" : Str) = none := by
  unfold fU1
  rw [List.lookup_cons, show (("told" : Str) == "at") = false by decide +kernel, List.lookup_cons, show (("told" : Str) == "place") = false by decide +kernel, List.lookup_cons, show (("told" : Str) == "slot") = false by decide +kernel, List.lookup_cons, show (("told" : Str) == "fields") = false by decide +kernel]
  rfl
theorem fU1A_at (a p s x : V) : (fU1 "arms" a p s x).lookup ("at" : Str) = some (a) := by
  unfold fU1
  rw [List.lookup_cons, show (("at" : Str) == "at") = true by decide +kernel]
theorem fU1A_place (a p s x : V) : (fU1 "arms" a p s x).lookup ("place" : Str) = some (p) := by
  unfold fU1
  rw [List.lookup_cons, show (("place" : Str) == "at") = false by decide +kernel, List.lookup_cons, show (("place" : Str) == "place") = true by decide +kernel]
theorem fU1A_slot (a p s x : V) : (fU1 "arms" a p s x).lookup ("slot" : Str) = some (s) := by
  unfold fU1
  rw [List.lookup_cons, show (("slot" : Str) == "at") = false by decide +kernel, List.lookup_cons, show (("slot" : Str) == "place") = false by decide +kernel, List.lookup_cons, show (("slot" : Str) == "slot") = true by decide +kernel]
theorem fU1A_arms (a p s x : V) : (fU1 "arms" a p s x).lookup ("arms" : Str) = some (x) := by
  unfold fU1
  rw [List.lookup_cons, show (("arms" : Str) == "at") = false by decide +kernel, List.lookup_cons, show (("arms" : Str) == "place") = false by decide +kernel, List.lookup_cons, show (("arms" : Str) == "slot") = false by decide +kernel, List.lookup_cons, show (("arms" : Str) == "arms") = true by decide +kernel]
theorem fU1A_no_told (a p s x : V) : (fU1 "arms" a p s x).lookup ("told" : Str) = none := by
  unfold fU1
  rw [List.lookup_cons, show (("told" : Str) == "at") = false by decide +kernel, List.lookup_cons, show (("told" : Str) == "place") = false by decide +kernel, List.lookup_cons, show (("told" : Str) == "slot") = false by decide +kernel, List.lookup_cons, show (("told" : Str) == "arms") = false by decide +kernel]
  rfl
theorem fU1O_at (a p s x : V) : (fU1 "out" a p s x).lookup ("at" : Str) = some (a) := by
  unfold fU1
  rw [List.lookup_cons, show (("at" : Str) == "at") = true by decide +kernel]
theorem fU1O_place (a p s x : V) : (fU1 "out" a p s x).lookup ("place" : Str) = some (p) := by
  unfold fU1
  rw [List.lookup_cons, show (("place" : Str) == "at") = false by decide +kernel, List.lookup_cons, show (("place" : Str) == "place") = true by decide +kernel]
theorem fU1O_slot (a p s x : V) : (fU1 "out" a p s x).lookup ("slot" : Str) = some (s) := by
  unfold fU1
  rw [List.lookup_cons, show (("slot" : Str) == "at") = false by decide +kernel, List.lookup_cons, show (("slot" : Str) == "place") = false by decide +kernel, List.lookup_cons, show (("slot" : Str) == "slot") = true by decide +kernel]
theorem fU1O_out (a p s x : V) : (fU1 "out" a p s x).lookup ("out" : Str) = some (x) := by
  unfold fU1
  rw [List.lookup_cons, show (("out" : Str) == "at") = false by decide +kernel, List.lookup_cons, show (("out" : Str) == "place") = false by decide +kernel, List.lookup_cons, show (("out" : Str) == "slot") = false by decide +kernel, List.lookup_cons, show (("out" : Str) == "out") = true by decide +kernel]
theorem fU1O_no_told (a p s x : V) : (fU1 "out" a p s x).lookup ("told" : Str) = none := by
  unfold fU1
  rw [List.lookup_cons, show (("told" : Str) == "at") = false by decide +kernel, List.lookup_cons, show (("told" : Str) == "place") = false by decide +kernel, List.lookup_cons, show (("told" : Str) == "slot") = false by decide +kernel, List.lookup_cons, show (("told" : Str) == "out") = false by decide +kernel]
  rfl
section
variable {P : Program} {w : World} {K : PySem.W.Frag} {mg : Str → Option Value} {base : Heap}
noncomputable def sp_Use___init__ (K : PySem.W.Frag) : Sp := fun vs H Q _ => ∃ (x C dx : Addr) (a p s : V), vs = [.ref x, a, p, s] ∧ H x = some (.ins C dx []) ∧ Cls K C ∧ NoAttr K C "at" ∧ NoAttr K C "place" ∧ NoAttr K C "slot" ∧ Q .non (upd H x (.ins C dx (fU a p s)))
theorem ok_Use___init__ (T : Txt K mg) : FnOk P w K mg base CX0 1 T.a_Use___init__ T.fd_Use___init__ ["self", "at", "place", "slot"] (sp_Use___init__ K) := by
  refine T.F_Use___init__.ok sc_Use___init__ (fun vs H Q E h => ?_) (fun cdv A outer s H vs Q E hr h => ?_)
  · obtain ⟨x, C, dx, a, p, s, rfl, _⟩ := h
    rfl
  obtain ⟨x, C, dx, a, p, sl, rfl, hx, cl, n1, n2, n3, q⟩ := h
  refine ⟨_, (pss_cons (ps_fld (pv 0) (pv 1) rfl)
    (pss_cons (ps_fld (pv 0) (pv 2) rfl)
    (pss_one (ps_fld (pv 0) (pv 3) rfl)))), ?_⟩
  refine ⟨_, rfl, _, rfl, x, C, dx, [], rfl, hx, cl, n1, (by show 0 < 1000; decide), ?_⟩
  refine ⟨_, rfl, _, rfl, x, C, dx, _, rfl, upd_same, cl, n2, (by show 1 < 1000; decide), ?_⟩
  refine ⟨_, rfl, _, rfl, x, C, dx, _, rfl, upd_same, cl, n3, len_put (len_put (by show 0 < 998; decide)), ?_⟩
  rw [upd_upd, upd_upd, fU_mk]
  exact q
noncomputable def sp_CallUse___init__ (C : Addr) : Sp := fun vs H Q _ => ∃ (x dx : Addr) (a p s y z : V), vs = [.ref x, a, p, s, y, z] ∧ H x = some (.ins C dx []) ∧ Q .non (upd H x (.ins C dx (fU2 a p s y z)))
theorem ok_CallUse___init__ (T : Txt K mg) : FnOk P w K mg base CX0 2 T.a_CallUse___init__ T.fd_CallUse___init__ ["self", "at", "place", "slot", "arg", "out"] (sp_CallUse___init__ T.a_CallUse) := by
  have G_Use___init__ := ok_Use___init__ (P := P) (w := w) (base := base) T
  refine T.F_CallUse___init__.ok sc_CallUse___init__ (fun vs H Q E h => ?_) (fun cdv A outer s H vs Q E hr h => ?_)
  · obtain ⟨x, dx, a, p, s, y, z, rfl, _⟩ := h
    rfl
  obtain ⟨x, dx, a, p, sl, y, z, rfl, hx, q⟩ := h
  refine ⟨_, (pss_cons (ps_expr (pe_clsm (pe_gR rfl T.m_Use) T.cm_Use___init__ G_Use___init__ (hr.mono (by decide)) T.b_Use___init__ .nil pass0 (pa_cons (pv 0) (pa_cons (pv 1) (pa_cons (pv 2) (pa_cons (pv 3) pa_nil))))))
    (pss_cons (ps_fld (pv 0) (pv 4) rfl)
    (pss_one (ps_fld (pv 0) (pv 5) rfl)))), ?_⟩
  refine ⟨_, rfl, _, rfl, _, rfl, _, rfl, x, _, dx, a, p, sl, rfl, hx, T.cl_CallUse, T.n_CallUse_at, T.n_CallUse_place, T.n_CallUse_slot, ?_⟩
  refine ⟨_, rfl, _, rfl, x, _, dx, _, rfl, upd_same, T.cl_CallUse, T.n_CallUse_arg, (by show 3 < 1000; decide), ?_⟩
  refine ⟨_, rfl, _, rfl, x, _, dx, _, rfl, upd_same, T.cl_CallUse, T.n_CallUse_out, len_put (by show 3 < 999; decide), ?_⟩
  rw [upd_upd, upd_upd, fU2_mk]
  exact q
noncomputable def sp_U1 (C : Addr) (n : Str) : Sp := fun vs H Q _ => ∃ (x dx : Addr) (a p s y : V), vs = [.ref x, a, p, s, y] ∧ H x = some (.ins C dx []) ∧ Q .non (upd H x (.ins C dx (fU1 n a p s y)))
theorem ok_TakeUse___init__ (T : Txt K mg) : FnOk P w K mg base CX0 2 T.a_TakeUse___init__ T.fd_TakeUse___init__ ["self", "at", "place", "slot", "fields"] (sp_U1 T.a_TakeUse "fields") := by
  have G_Use___init__ := ok_Use___init__ (P := P) (w := w) (base := base) T
  refine T.F_TakeUse___init__.ok sc_TakeUse___init__ (fun vs H Q E h => ?_) (fun cdv A outer s H vs Q E hr h => ?_)
  · obtain ⟨x, dx, a, p, s, y, rfl, _⟩ := h
    rfl
  obtain ⟨x, dx, a, p, sl, y, rfl, hx, q⟩ := h
  refine ⟨_, (pss_cons (ps_expr (pe_clsm (pe_gR rfl T.m_Use) T.cm_Use___init__ G_Use___init__ (hr.mono (by decide)) T.b_Use___init__ .nil pass0 (pa_cons (pv 0) (pa_cons (pv 1) (pa_cons (pv 2) (pa_cons (pv 3) pa_nil))))))
    (pss_one (ps_fld (pv 0) (pv 4) rfl))), ?_⟩
  refine ⟨_, rfl, _, rfl, _, rfl, _, rfl, x, _, dx, a, p, sl, rfl, hx, T.cl_TakeUse, T.n_TakeUse_at, T.n_TakeUse_place, T.n_TakeUse_slot, ?_⟩
  refine ⟨_, rfl, _, rfl, x, _, dx, _, rfl, upd_same, T.cl_TakeUse, T.n_TakeUse_fields, (by show 3 < 1000; decide), ?_⟩
  rw [upd_upd, fU1_mk "fields" a p sl y (by decide +kernel) (by decide +kernel) (by decide +kernel)]
  exact q
theorem ok_CaseUse___init__ (T : Txt K mg) : FnOk P w K mg base CX0 2 T.a_CaseUse___init__ T.fd_CaseUse___init__ ["self", "at", "place", "slot", "arms"] (sp_U1 T.a_CaseUse "arms") := by
  have G_Use___init__ := ok_Use___init__ (P := P) (w := w) (base := base) T
  refine T.F_CaseUse___init__.ok sc_CaseUse___init__ (fun vs H Q E h => ?_) (fun cdv A outer s H vs Q E hr h => ?_)
  · obtain ⟨x, dx, a, p, s, y, rfl, _⟩ := h
    rfl
  obtain ⟨x, dx, a, p, sl, y, rfl, hx, q⟩ := h
  refine ⟨_, (pss_cons (ps_expr (pe_clsm (pe_gR rfl T.m_Use) T.cm_Use___init__ G_Use___init__ (hr.mono (by decide)) T.b_Use___init__ .nil pass0 (pa_cons (pv 0) (pa_cons (pv 1) (pa_cons (pv 2) (pa_cons (pv 3) pa_nil))))))
    (pss_one (ps_fld (pv 0) (pv 4) rfl))), ?_⟩
  refine ⟨_, rfl, _, rfl, _, rfl, _, rfl, x, _, dx, a, p, sl, rfl, hx, T.cl_CaseUse, T.n_CaseUse_at, T.n_CaseUse_place, T.n_CaseUse_slot, ?_⟩
  refine ⟨_, rfl, _, rfl, x, _, dx, _, rfl, upd_same, T.cl_CaseUse, T.n_CaseUse_arms, (by show 3 < 1000; decide), ?_⟩
  rw [upd_upd, fU1_mk "arms" a p sl y (by decide +kernel) (by decide +kernel) (by decide +kernel)]
  exact q
theorem ok_RowUse___init__ (T : Txt K mg) : FnOk P w K mg base CX0 2 T.a_RowUse___init__ T.fd_RowUse___init__ ["self", "at", "place", "slot", "out"] (sp_U1 T.a_RowUse "out") := by
  have G_Use___init__ := ok_Use___init__ (P := P) (w := w) (base := base) T
  refine T.F_RowUse___init__.ok sc_RowUse___init__ (fun vs H Q E h => ?_) (fun cdv A outer s H vs Q E hr h => ?_)
  · obtain ⟨x, dx, a, p, s, y, rfl, _⟩ := h
    rfl
  obtain ⟨x, dx, a, p, sl, y, rfl, hx, q⟩ := h
  refine ⟨_, (pss_cons (ps_expr (pe_clsm (pe_gR rfl T.m_Use) T.cm_Use___init__ G_Use___init__ (hr.mono (by decide)) T.b_Use___init__ .nil pass0 (pa_cons (pv 0) (pa_cons (pv 1) (pa_cons (pv 2) (pa_cons (pv 3) pa_nil))))))
    (pss_one (ps_fld (pv 0) (pv 4) rfl))), ?_⟩
  refine ⟨_, rfl, _, rfl, _, rfl, _, rfl, x, _, dx, a, p, sl, rfl, hx, T.cl_RowUse, T.n_RowUse_at, T.n_RowUse_place, T.n_RowUse_slot, ?_⟩
  refine ⟨_, rfl, _, rfl, x, _, dx, _, rfl, upd_same, T.cl_RowUse, T.n_RowUse_out, (by show 3 < 1000; decide), ?_⟩
  rw [upd_upd, fU1_mk "out" a p sl y (by decide +kernel) (by decide +kernel) (by decide +kernel)]
  exact q
noncomputable def sp_Make___init__ (C : Addr) : Sp := fun vs H Q _ => ∃ (x dx : Addr) (s f a p : V), vs = [.ref x, s, f, a, p] ∧ H x = some (.ins C dx []) ∧ Q .non (upd H x (.ins C dx (fM s f a p)))
theorem ok_Make___init__ (T : Txt K mg) : FnOk P w K mg base CX0 1 T.a_Make___init__ T.fd_Make___init__ ["self", "shape", "parts", "at", "place"] (sp_Make___init__ T.a_Make) := by
  refine T.F_Make___init__.ok sc_Make___init__ (fun vs H Q E h => ?_) (fun cdv A outer s H vs Q E hr h => ?_)
  · obtain ⟨x, dx, s, f, a, p, rfl, _⟩ := h
    rfl
  obtain ⟨x, dx, sh, f, a, p, rfl, hx, q⟩ := h
  refine ⟨_, (pss_cons (ps_fld (pv 0) (pv 1) rfl)
    (pss_cons (ps_fld (pv 0) (pv 2) rfl)
    (pss_cons (ps_fld (pv 0) (pv 3) rfl)
    (pss_one (ps_fld (pv 0) (pv 4) rfl))))), ?_⟩
  refine ⟨_, rfl, _, rfl, x, _, dx, [], rfl, hx, T.cl_Make, T.n_Make_shape, (by show 0 < 1000; decide), ?_⟩
  refine ⟨_, rfl, _, rfl, x, _, dx, _, rfl, upd_same, T.cl_Make, T.n_Make_parts, (by show 1 < 1000; decide), ?_⟩
  refine ⟨_, rfl, _, rfl, x, _, dx, _, rfl, upd_same, T.cl_Make, T.n_Make_at, len_put (len_put (by show 0 < 998; decide)), ?_⟩
  refine ⟨_, rfl, _, rfl, x, _, dx, _, rfl, upd_same, T.cl_Make, T.n_Make_place, len_put (len_put (len_put (by show 0 < 997; decide))), ?_⟩
  rw [upd_upd, upd_upd, upd_upd, fM_mk]
  exact q
noncomputable def sp_Make_told (C : Addr) : Sp := fun vs H Q _ => ∃ (x dx : Addr) (s1 f1 a1 p1 : V), vs = [.ref x] ∧ H x = some (.ins C dx (fM s1 f1 a1 p1)) ∧ ∀ t, H t = none → Q (.ref t) (upd H t (.tup [s1, f1, a1, p1]))
theorem ok_Make_told (T : Txt K mg) : FnOk P w K mg base CX0 1 T.a_Make_told T.fd_Make_told ["self"] (sp_Make_told T.a_Make) := by
  refine T.F_Make_told.ok sc_Make_told (fun vs H Q E h => ?_) (fun cdv A outer s H vs Q E hr h => ?_)
  · obtain ⟨x, dx, s1, f1, a1, p1, rfl, _⟩ := h
    rfl
  obtain ⟨x, dx, s1, f1, a1, p1, rfl, hx, q⟩ := h
  refine ⟨_, (pss_one (ps_ret (pe_tup (pa_cons (pe_fld (pv 0) rfl) (pa_cons (pe_fld (pv 0) rfl) (pa_cons (pe_fld (pv 0) rfl) (pa_cons (pe_fld (pv 0) rfl) pa_nil))))))), ?_⟩
  exact ⟨_, rfl, x, _, dx, _, _, rfl, hx, T.cl_Make, T.n_Make_shape, fM_shape _ _ _ _, _, rfl, x, _, dx, _, _, rfl, hx, T.cl_Make, T.n_Make_parts, fM_parts _ _ _ _, _, rfl, x, _, dx, _, _, rfl, hx, T.cl_Make, T.n_Make_at, fM_at _ _ _ _, _, rfl, x, _, dx, _, _, rfl, hx, T.cl_Make, T.n_Make_place, fM_place _ _ _ _, (by show 4 ≤ sizeLine; decide), fun t ht => q t ht⟩
noncomputable def sp_NumUse_told (C : Addr) : Sp := fun vs H Q _ => ∃ (x dx : Addr) (a1 p1 s1 : V), vs = [.ref x] ∧ H x = some (.ins C dx (fU a1 p1 s1)) ∧ ∀ t, H t = none → Q (.ref t) (upd H t (.tup [.str "num", a1, p1, s1]))
theorem ok_NumUse_told (T : Txt K mg) : FnOk P w K mg base CX0 1 T.a_NumUse_told T.fd_NumUse_told ["self"] (sp_NumUse_told T.a_NumUse) := by
  refine T.F_NumUse_told.ok sc_NumUse_told (fun vs H Q E h => ?_) (fun cdv A outer s H vs Q E hr h => ?_)
  · obtain ⟨x, dx, a1, p1, s1, rfl, _⟩ := h
    rfl
  obtain ⟨x, dx, a1, p1, s1, rfl, hx, q⟩ := h
  refine ⟨_, (pss_one (ps_ret (pe_tup (pa_cons pe_str (pa_cons (pe_fld (pv 0) rfl) (pa_cons (pe_fld (pv 0) rfl) (pa_cons (pe_fld (pv 0) rfl) pa_nil))))))), ?_⟩
  exact ⟨_, rfl, x, _, dx, _, _, rfl, hx, T.cl_NumUse, T.n_NumUse_at, fU_at _ _ _, _, rfl, x, _, dx, _, _, rfl, hx, T.cl_NumUse, T.n_NumUse_place, fU_place _ _ _, _, rfl, x, _, dx, _, _, rfl, hx, T.cl_NumUse, T.n_NumUse_slot, fU_slot _ _ _, (by show 4 ≤ sizeLine; decide), fun t ht => q t ht⟩
noncomputable def sp_CallUse_told (C : Addr) : Sp := fun vs H Q _ => ∃ (x dx : Addr) (a1 p1 s1 x1 y1 : V), vs = [.ref x] ∧ H x = some (.ins C dx (fU2 a1 p1 s1 x1 y1)) ∧ ∀ t, H t = none → Q (.ref t) (upd H t (.tup [.str "call", a1, p1, s1, x1, y1]))
theorem ok_CallUse_told (T : Txt K mg) : FnOk P w K mg base CX0 1 T.a_CallUse_told T.fd_CallUse_told ["self"] (sp_CallUse_told T.a_CallUse) := by
  refine T.F_CallUse_told.ok sc_CallUse_told (fun vs H Q E h => ?_) (fun cdv A outer s H vs Q E hr h => ?_)
  · obtain ⟨x, dx, a1, p1, s1, x1, y1, rfl, _⟩ := h
    rfl
  obtain ⟨x, dx, a1, p1, s1, x1, y1, rfl, hx, q⟩ := h
  refine ⟨_, (pss_one (ps_ret (pe_tup (pa_cons pe_str (pa_cons (pe_fld (pv 0) rfl) (pa_cons (pe_fld (pv 0) rfl) (pa_cons (pe_fld (pv 0) rfl) (pa_cons (pe_fld (pv 0) rfl) (pa_cons (pe_fld (pv 0) rfl) pa_nil))))))))), ?_⟩
  exact ⟨_, rfl, x, _, dx, _, _, rfl, hx, T.cl_CallUse, T.n_CallUse_at, fU2_at _ _ _ _ _, _, rfl, x, _, dx, _, _, rfl, hx, T.cl_CallUse, T.n_CallUse_place, fU2_place _ _ _ _ _, _, rfl, x, _, dx, _, _, rfl, hx, T.cl_CallUse, T.n_CallUse_slot, fU2_slot _ _ _ _ _, _, rfl, x, _, dx, _, _, rfl, hx, T.cl_CallUse, T.n_CallUse_arg, fU2_arg _ _ _ _ _, _, rfl, x, _, dx, _, _, rfl, hx, T.cl_CallUse, T.n_CallUse_out, fU2_out _ _ _ _ _, (by show 6 ≤ sizeLine; decide), fun t ht => q t ht⟩
noncomputable def sp_TakeUse_told (C : Addr) : Sp := fun vs H Q _ => ∃ (x dx : Addr) (a1 p1 s1 x1 : V), vs = [.ref x] ∧ H x = some (.ins C dx (fU1 "fields" a1 p1 s1 x1)) ∧ ∀ t, H t = none → Q (.ref t) (upd H t (.tup [.str "take", a1, p1, s1, x1]))
theorem ok_TakeUse_told (T : Txt K mg) : FnOk P w K mg base CX0 1 T.a_TakeUse_told T.fd_TakeUse_told ["self"] (sp_TakeUse_told T.a_TakeUse) := by
  refine T.F_TakeUse_told.ok sc_TakeUse_told (fun vs H Q E h => ?_) (fun cdv A outer s H vs Q E hr h => ?_)
  · obtain ⟨x, dx, a1, p1, s1, x1, rfl, _⟩ := h
    rfl
  obtain ⟨x, dx, a1, p1, s1, x1, rfl, hx, q⟩ := h
  refine ⟨_, (pss_one (ps_ret (pe_tup (pa_cons pe_str (pa_cons (pe_fld (pv 0) rfl) (pa_cons (pe_fld (pv 0) rfl) (pa_cons (pe_fld (pv 0) rfl) (pa_cons (pe_fld (pv 0) rfl) pa_nil)))))))), ?_⟩
  exact ⟨_, rfl, x, _, dx, _, _, rfl, hx, T.cl_TakeUse, T.n_TakeUse_at, fU1F_at _ _ _ _, _, rfl, x, _, dx, _, _, rfl, hx, T.cl_TakeUse, T.n_TakeUse_place, fU1F_place _ _ _ _, _, rfl, x, _, dx, _, _, rfl, hx, T.cl_TakeUse, T.n_TakeUse_slot, fU1F_slot _ _ _ _, _, rfl, x, _, dx, _, _, rfl, hx, T.cl_TakeUse, T.n_TakeUse_fields, fU1F_fields _ _ _ _, (by show 5 ≤ sizeLine; decide), fun t ht => q t ht⟩
noncomputable def sp_CaseUse_told (C : Addr) : Sp := fun vs H Q _ => ∃ (x dx : Addr) (a1 p1 s1 x1 : V), vs = [.ref x] ∧ H x = some (.ins C dx (fU1 "arms" a1 p1 s1 x1)) ∧ ∀ t, H t = none → Q (.ref t) (upd H t (.tup [.str "case", a1, p1, s1, x1]))
theorem ok_CaseUse_told (T : Txt K mg) : FnOk P w K mg base CX0 1 T.a_CaseUse_told T.fd_CaseUse_told ["self"] (sp_CaseUse_told T.a_CaseUse) := by
  refine T.F_CaseUse_told.ok sc_CaseUse_told (fun vs H Q E h => ?_) (fun cdv A outer s H vs Q E hr h => ?_)
  · obtain ⟨x, dx, a1, p1, s1, x1, rfl, _⟩ := h
    rfl
  obtain ⟨x, dx, a1, p1, s1, x1, rfl, hx, q⟩ := h
  refine ⟨_, (pss_one (ps_ret (pe_tup (pa_cons pe_str (pa_cons (pe_fld (pv 0) rfl) (pa_cons (pe_fld (pv 0) rfl) (pa_cons (pe_fld (pv 0) rfl) (pa_cons (pe_fld (pv 0) rfl) pa_nil)))))))), ?_⟩
  exact ⟨_, rfl, x, _, dx, _, _, rfl, hx, T.cl_CaseUse, T.n_CaseUse_at, fU1A_at _ _ _ _, _, rfl, x, _, dx, _, _, rfl, hx, T.cl_CaseUse, T.n_CaseUse_place, fU1A_place _ _ _ _, _, rfl, x, _, dx, _, _, rfl, hx, T.cl_CaseUse, T.n_CaseUse_slot, fU1A_slot _ _ _ _, _, rfl, x, _, dx, _, _, rfl, hx, T.cl_CaseUse, T.n_CaseUse_arms, fU1A_arms _ _ _ _, (by show 5 ≤ sizeLine; decide), fun t ht => q t ht⟩
noncomputable def sp_RowUse_told (C : Addr) : Sp := fun vs H Q _ => ∃ (x dx : Addr) (a1 p1 s1 x1 : V), vs = [.ref x] ∧ H x = some (.ins C dx (fU1 "out" a1 p1 s1 x1)) ∧ ∀ t, H t = none → Q (.ref t) (upd H t (.tup [.str "row", a1, p1, s1, x1]))
theorem ok_RowUse_told (T : Txt K mg) : FnOk P w K mg base CX0 1 T.a_RowUse_told T.fd_RowUse_told ["self"] (sp_RowUse_told T.a_RowUse) := by
  refine T.F_RowUse_told.ok sc_RowUse_told (fun vs H Q E h => ?_) (fun cdv A outer s H vs Q E hr h => ?_)
  · obtain ⟨x, dx, a1, p1, s1, x1, rfl, _⟩ := h
    rfl
  obtain ⟨x, dx, a1, p1, s1, x1, rfl, hx, q⟩ := h
  refine ⟨_, (pss_one (ps_ret (pe_tup (pa_cons pe_str (pa_cons (pe_fld (pv 0) rfl) (pa_cons (pe_fld (pv 0) rfl) (pa_cons (pe_fld (pv 0) rfl) (pa_cons (pe_fld (pv 0) rfl) pa_nil)))))))), ?_⟩
  exact ⟨_, rfl, x, _, dx, _, _, rfl, hx, T.cl_RowUse, T.n_RowUse_at, fU1O_at _ _ _ _, _, rfl, x, _, dx, _, _, rfl, hx, T.cl_RowUse, T.n_RowUse_place, fU1O_place _ _ _ _, _, rfl, x, _, dx, _, _, rfl, hx, T.cl_RowUse, T.n_RowUse_slot, fU1O_slot _ _ _ _, _, rfl, x, _, dx, _, _, rfl, hx, T.cl_RowUse, T.n_RowUse_out, fU1O_out _ _ _ _, (by show 5 ≤ sizeLine; decide), fun t ht => q t ht⟩
end
end K25.Internal
namespace K25.Internal
open PySem L2.Internal BO.Internal KK.Internal
seal L2.Internal.PE L2.Internal.PA L2.Internal.PS L2.Internal.PSs L2.Internal.PT L2.Internal.PI
section
variable {P : Program} {w : World} {K : PySem.W.Frag} {mg : Str → Option Value} {base : Heap}
noncomputable def sp__law_mix : Sp := fun vs H Q _ => ∃ c k : Int, vs = [.int c, .int k] ∧ 0 ≤ k ∧ k ≤ 100 ∧ ∀ n : Int, 0 ≤ n → n < 2147483647 → Q (.int n) H
theorem ok__law_mix (T : Txt K mg) : FnOk P w K mg base CX0 1 T.a__law_mix T.fd__law_mix ["_law_cell", "_law_k"] sp__law_mix := by
  refine T.F__law_mix.ok sc__law_mix (fun vs H Q E h => ?_) (fun cdv A outer s H vs Q E hr h => ?_)
  · obtain ⟨c, k, rfl, _⟩ := h
    rfl
  obtain ⟨c, k, rfl, h0, h1, q⟩ := h
  refine ⟨_, (pss_one (ps_ret (pe_op op_mod (pe_op op_mul (pe_op op_mod (pv 0) (pe_op op_add (pe_op op_pow pe_int pe_int) pe_int)) (pe_op op_add pe_int (pe_op op_mul (pe_op op_mul pe_int (pv 1)) (pv 1)))) pe_int))), ?_⟩
  have hp : (0 : Int) < 10 ^ (18 : Int).toNat + 9 := by decide +kernel
  have hs : (10 ^ (18 : Int).toNat + 9 : Int) < 2 ^ 64 := by decide +kernel
  have c0 := Int.emod_nonneg c (Int.ne_of_gt hp)
  have c1 := Int.emod_lt_of_pos c hp
  have z : -(2 ^ 64 : Int) < 0 := by decide
  refine ⟨_, rfl, _, _, rfl, rfl, ⟨by decide, by decide, by decide⟩, _, _, rfl, rfl, _, _, rfl, rfl, hp, _, rfl, _, _, rfl, rfl, .inl ⟨by decide, by decide⟩, _, rfl, _, _, rfl, rfl, .inl ⟨by omega, by omega⟩, _, _, rfl, rfl, _, _, rfl, rfl, .inl ⟨Int.lt_of_lt_of_le z c0, Int.lt_trans c1 hs⟩, _, _, rfl, rfl, (by show (0 : Int) < 2147483647; decide), ?_⟩
  exact q _ (Int.emod_nonneg _ (by decide)) (Int.emod_lt_of_pos _ (by decide))
noncomputable def sp__law_stem : Sp := fun vs H Q _ => ∃ c m : Int, vs = [.int c, .int m] ∧ 0 ≤ m ∧ m ≤ 100 ∧ ∀ x : Str, x.length ≤ 100 → Q (.str x) H
theorem sg36 : ("abcdefghijklmnopqrstuvwxyz0123456789" : Str).cps.toList.length = 36 := by decide +kernel
theorem one_len (c : Nat) : (⟨#[c]⟩ : Str).length = 1 := rfl
theorem ok__law_stem (T : Txt K mg) : FnOk P w K mg base CX0 1 T.a__law_stem T.fd__law_stem ["_law_cell", "_law_size"] sp__law_stem := by
  refine T.F__law_stem.ok sc__law_stem (fun vs H Q E h => ?_) (fun cdv A outer s H vs Q E hr h => ?_)
  · obtain ⟨c, m, rfl, _⟩ := h
    rfl
  obtain ⟨c, m, rfl, h0, h1, q⟩ := h
  refine ⟨_, (pss_cons (ps_set (i := 2) sc__law_stem.nd rfl (Or.inl rfl) pe_str)
    (pss_cons (ps_set (i := 3) sc__law_stem.nd rfl (Or.inl rfl) pe_str)
    (pss_cons (ps_for PassesOwn.never rfl (pi_range1 rfl T.z_range (pa_cons (pv 1) pa_nil)) (pg_name (i := 4) sc__law_stem.nd rfl (Or.inl rfl))
      (pss_cons (ps_set (i := 5) sc__law_stem.nd rfl (Or.inl rfl) pe_int)
      (pss_cons (ps_if (pt_cmpR op_eq (pv 4) pe_int (nomark _))
        (pss_one (ps_set (i := 5) sc__law_stem.nd rfl (Or.inl rfl) pe_int))
        pss_nil)
      (pss_cons (ps_set (i := 3) sc__law_stem.nd rfl (Or.inl rfl) (pe_op op_add_str (pv 3) (pe_ix ix_str (pv 2) (pe_op op_mod (pv 0) (pv 5)) (fun _ _ => rfl))))
      (pss_one (ps_set (i := 0) sc__law_stem.nd rfl (Or.inl rfl) (pe_op op_fdiv (pv 0) pe_int)))))))
    (pss_one (ps_ret (pv 3)))))), ?_⟩
  have sl : sizeLine = 16777216 := sizeLine_eq
  refine ⟨_, rfl, _, rfl, by omega, by omega, for_range (fun i σ H2 => ∃ (y : Str) (c : Int) (o o2 : Option V), σ = [some (.int c), some (.int m), some (.str "abcdefghijklmnopqrstuvwxyz0123456789"), some (.str y), o, o2] ∧ H2 = H ∧ y.length ≤ i)
    ⟨"", c, none, none, rfl, rfl, Nat.le_refl _⟩ ?_ ?_⟩
  · rintro i σ H2 hi ⟨y, c, o, o2, rfl, rfl, hy⟩
    have step : ∀ n : Int, (n = 26 ∨ n = 36) → ∃ ch : Nat, atI ("abcdefghijklmnopqrstuvwxyz0123456789" : Str).cps.toList (c % n) = some ch := fun n hn => by
      have hp : (0 : Int) < n := by omega
      have a0 := Int.emod_nonneg c (Int.ne_of_gt hp)
      have a1 := Int.emod_lt_of_pos c hp
      obtain ⟨ch, e, _⟩ := atI_lt ("abcdefghijklmnopqrstuvwxyz0123456789" : Str).cps.toList (c % n) a0 (by rw [sg36]; omega)
      exact ⟨ch, e⟩
    refine ⟨_, rfl, rfl, _, rfl, ite2 (fun _ => ?_) (fun _ => ?_)⟩
    · obtain ⟨ch, e⟩ := step 26 (.inl rfl)
      refine ⟨_, rfl, _, rfl, _, rfl, _, rfl, _, _, rfl, rfl, (by show (0 : Int) < 26; decide), _, _, _, rfl, rfl, sz (by decide +kernel), e, _, _, rfl, rfl, by rw [one_len]; omega, ?_⟩
      refine ⟨_, rfl, _, _, rfl, rfl, ⟨by decide, by decide⟩, ?_⟩
      exact ⟨_, _, _, _, rfl, rfl, by rw [Str.length_append, one_len]; omega⟩
    · obtain ⟨ch, e⟩ := step 36 (.inr rfl)
      refine ⟨_, rfl, _, rfl, _, rfl, _, rfl, _, _, rfl, rfl, (by show (0 : Int) < 36; decide), _, _, _, rfl, rfl, sz (by decide +kernel), e, _, _, rfl, rfl, by rw [one_len]; omega, ?_⟩
      refine ⟨_, rfl, _, _, rfl, rfl, ⟨by decide, by decide⟩, ?_⟩
      exact ⟨_, _, _, _, rfl, rfl, by rw [Str.length_append, one_len]; omega⟩
  · rintro σ H2 ⟨y, c, o, o2, rfl, rfl, hy⟩
    exact ⟨_, rfl, q y (by omega)⟩
noncomputable def sgn (k : Nat) : Nat := ("abcdefghijklmnop" : Str).cps.toList.getD k 0
noncomputable def w1 (A B : Str) (k : Nat) : Str := A ++ ⟨#[sgn k]⟩ ++ B
noncomputable def t7 (z : Int) : Nat := (atI ("t7" : Str).cps.toList z).getD 0
noncomputable def part (j : Nat) : Int := ([8, 4, 2, 1] : List Int).getD j 1
noncomputable def bit (k j : Nat) : Nat := t7 ((0 + (k : Int)) / part j % 2)
noncomputable def w2 (x : Str) (k : Nat) : Nat → Str
  | 0 => x
  | j + 1 => w2 x k j ++ ⟨#[bit k j]⟩
theorem at_getD {l : List Nat} {i : Nat} (h : i < l.length) : atI l (0 + (i : Int)) = some (l.getD i 0) := by
  rw [Int.zero_add, List.getD_eq_getElem?_getD, List.getElem?_eq_getElem h]
  exact atI_nat (List.getElem?_eq_getElem h)
theorem app_list (a b : Str) : (a ++ b).cps.toList = a.cps.toList ++ b.cps.toList := Array.toList_append
theorem map_nodup {f : Nat → Str} (h : ∀ a, a < 16 → ∀ b, b < 16 → a ≠ b → f a ≠ f b) : ((List.range 16).map f).Nodup := by
  rw [List.Nodup, List.pairwise_map]
  refine List.Pairwise.imp_of_mem (fun {a b} ha hb hlt => ?_) List.pairwise_lt_range
  exact h a (List.mem_range.mp ha) b (List.mem_range.mp hb) (Nat.ne_of_lt hlt)
theorem sgn_ne : ∀ a, a < 16 → ∀ b, b < 16 → a ≠ b → sgn a ≠ sgn b := by decide +kernel
theorem bit_ne : ∀ a, a < 16 → ∀ b, b < 16 → a ≠ b → [bit a 0, bit a 1, bit a 2, bit a 3] ≠ [bit b 0, bit b 1, bit b 2, bit b 3] := by decide +kernel
theorem w1_nodup (A B : Str) : ((List.range 16).map (w1 A B)).Nodup := map_nodup fun a ha b hb hn e => by
  have h := congrArg (fun z : Str => z.cps.toList) e
  simp only [w1, app_list] at h
  have h2 := List.append_cancel_left (List.append_cancel_right h)
  injection h2 with h3 _
  exact sgn_ne a ha b hb hn h3
theorem w2_nodup (x : Str) : ((List.range 16).map fun k => w2 x k 4).Nodup := map_nodup fun a ha b hb hn e => by
  have h := congrArg (fun z : Str => z.cps.toList) e
  simp only [w2, app_list, List.append_assoc] at h
  have h2 := List.append_cancel_left h
  exact bit_ne a ha b hb hn h2
theorem range_snoc {f : Nat → Str} (i : Nat) : (List.range (i + 1)).map f = (List.range i).map f ++ [f i] := by
  rw [List.range_succ, List.map_append]
  rfl
theorem w2_len (x : Str) (k : Nat) : ∀ j, (w2 x k j).length = x.length + j
  | 0 => rfl
  | j + 1 => by rw [w2, Str.length_append, one_len, w2_len x k j]; omega
noncomputable def Wd (H : Hp) (l : Addr) : Prop := ∃ ws : List Str, H l = some (.lst (ws.map V.str)) ∧ ws.length = 16 ∧ ws.Nodup ∧ ∀ x ∈ ws, x.length ≤ 300
noncomputable def sp__law_words : Sp := fun vs H Q _ => ∃ c : Int, vs = [.int c] ∧ ∀ l H', Same H H' → H l = none → Wd H' l → Q (.ref l) H'
theorem ok__law_words (T : Txt K mg) : FnOk P w K mg base CX0 2 T.a__law_words T.fd__law_words ["_law_cell"] sp__law_words := by
  have G__law_stem := ok__law_stem (P := P) (w := w) (base := base) T
  refine T.F__law_words.ok sc__law_words (fun vs H Q E h => ?_) (fun cdv A outer s H vs Q E hr h => ?_)
  · obtain ⟨c, rfl, _⟩ := h
    rfl
  obtain ⟨c, rfl, q⟩ := h
  refine ⟨_, (pss_cons (ps_set (i := 0) sc__law_words.nd rfl (Or.inl rfl) (pe_op op_mod (pv 0) (pe_op op_pow pe_int pe_int)))
    (pss_cons (ps_set (i := 1) sc__law_words.nd rfl (Or.inl rfl) (pe_op op_add (pe_op op_mod (pv 0) pe_int) pe_int))
    (pss_cons (ps_set (i := 2) sc__law_words.nd rfl (Or.inl rfl) (pe_lst pa_nil))
    (pss_cons (ps_if (pt_cmpR op_eq (pe_op op_mod (pe_op op_fdiv (pv 0) pe_int) pe_int) pe_int (nomark _))
      (pss_cons (ps_set (i := 3) sc__law_words.nd rfl (Or.inl rfl) (pe_call G__law_stem (hr.mono (by decide)) rfl T.m__law_stem T.k__law_stem T.b__law_stem .nil pass0 (pa_cons (pe_op op_fdiv (pv 0) pe_int) (pa_cons (pe_op op_add (pv 1) pe_int) pa_nil))))
      (pss_cons (ps_set (i := 4) sc__law_words.nd rfl (Or.inl rfl) (pe_op op_mod (pe_op op_fdiv (pv 0) pe_int) (pe_op op_add (pv 1) pe_int)))
      (pss_cons (ps_for PassesOwn.never rfl (pi_range1 rfl T.z_range (pa_cons pe_int pa_nil)) (pg_name (i := 5) sc__law_words.nd rfl (Or.inl rfl))
        (pss_one (ps_expr (pe_bm PySem.F.plainAttrs_list PySem.F.slot_list_append PySem.F.type_list_append mt_append (pv 2) (pa_cons (pe_op op_add_str (pe_op op_add_str (pe_slice sl_str (pv 3) po_none (po_some (pv 4))) (pe_ix ix_str pe_str (pv 5) (fun _ _ => rfl))) (pe_slice sl_str (pv 3) (po_some (pv 4)) po_none)) pa_nil)))))
      (pss_one (ps_ret (pv 2))))))
      pss_nil)
    (pss_cons (ps_set (i := 3) sc__law_words.nd rfl (Or.inl rfl) (pe_call G__law_stem (hr.mono (by decide)) rfl T.m__law_stem T.k__law_stem T.b__law_stem .nil pass0 (pa_cons (pe_op op_fdiv (pv 0) pe_int) (pa_cons (pv 1) pa_nil))))
    (pss_cons (ps_for PassesOwn.never rfl (pi_range1 rfl T.z_range (pa_cons pe_int pa_nil)) (pg_name (i := 5) sc__law_words.nd rfl (Or.inl rfl))
      (pss_cons (ps_set (i := 6) sc__law_words.nd rfl (Or.inl rfl) (pv 3))
      (pss_cons (ps_for PassesOwn.never rfl (pi_list (pe_lst (pa_cons pe_int (pa_cons pe_int (pa_cons pe_int (pa_cons pe_int pa_nil)))))) (pg_name (i := 7) sc__law_words.nd rfl (Or.inl rfl))
        (pss_one (ps_set (i := 6) sc__law_words.nd rfl (Or.inl rfl) (pe_op op_add_str (pv 6) (pe_ix ix_str pe_str (pe_op op_mod (pe_op op_fdiv (pv 5) (pv 7)) pe_int) (fun _ _ => rfl))))))
      (pss_one (ps_expr (pe_bm PySem.F.plainAttrs_list PySem.F.slot_list_append PySem.F.type_list_append mt_append (pv 2) (pa_cons (pv 6) pa_nil)))))))
    (pss_one (ps_ret (pv 2))))))))), ?_⟩
  have sl : sizeLine = 16777216 := sizeLine_eq
  refine ⟨_, rfl, _, _, rfl, rfl, ⟨by decide, by decide, by decide⟩, _, _, rfl, rfl, (by show (0 : Int) < 10 ^ (24 : Int).toNat; decide +kernel), ?_⟩
  dsimp only
  generalize c % 10 ^ (24 : Int).toNat = c
  refine ⟨_, rfl, _, _, rfl, rfl, (by show (0 : Int) < 8; decide), _, _, rfl, rfl, ?_⟩
  have s0 := Int.emod_nonneg c (show (8 : Int) ≠ 0 by decide)
  have s1 := Int.emod_lt_of_pos c (show (0 : Int) < 8 by decide)
  refine ⟨(by show 0 ≤ sizeLine; decide), fun l hl => ?_⟩
  have fin : ∀ (f : Nat → Str) (H2 : Hp), Same H H2 → H2 l = some (.lst (((List.range 16).map f).map V.str)) → ((List.range 16).map f).Nodup → (∀ k, (f k).length ≤ 300) → Q (.ref l) H2 := fun f H2 S e hw hn => q l H2 S hl ⟨_, e, by rw [List.length_map, List.length_range], hw, fun x hx => by obtain ⟨k, _, rfl⟩ := List.mem_map.mp hx; exact hn k⟩
  have S1 : Same H (upd H l (.lst [])) := same_new hl _
  refine ⟨_, rfl, _, _, rfl, rfl, ⟨by decide, by decide⟩, _, _, rfl, rfl, (by show (0 : Int) < 2; decide), rfl, _, rfl, ite2 (fun _ => ?_) (fun _ => ?_)⟩
  · refine ⟨_, rfl, _, _, rfl, rfl, ⟨by decide, by decide⟩, _, rfl, _, _, rfl, rfl, _, _, rfl, by omega, by omega, fun x hx => ?_⟩
    refine ⟨_, rfl, _, _, rfl, rfl, ⟨by decide, by decide⟩, _, rfl, _, _, rfl, rfl, _, _, rfl, rfl, (by show (0 : Int) < c % 8 + 1 + 4; omega), ?_⟩
    dsimp only
    generalize c / 16 % (c % 8 + 1 + 4) = at_
    refine ⟨16, rfl, by decide, by decide, for_range (fun i σ H2 => ∃ (o : Option V), σ = [some (.int c), some (.int (c % 8 + 1)), some (.ref l), some (.str x), some (.int at_), o, none, none] ∧ Same H H2 ∧ H2 l = some (.lst (((List.range i).map (w1 (Txt.slice x none (some at_)) (Txt.slice x (some at_) none))).map V.str)))
      ⟨none, rfl, S1, upd_same⟩ ?_ ?_⟩
    · rintro i σ H2 hi ⟨o, rfl, S, e⟩
      have hi16 : i < 16 := hi
      have e1 := at_getD (l := ("abcdefghijklmnop" : Str).cps.toList) (i := i) (by rw [show ("abcdefghijklmnop" : Str).cps.toList.length = 16 by decide +kernel]; omega)
      have la := Txt.slice_le x none (some at_)
      have lb := Txt.slice_le x (some at_) none
      refine ⟨_, rfl, .inl ⟨rfl, _, SqL.of e⟩, _, rfl, _, rfl, _, rfl, _, rfl, by omega, _, rfl, _, _, _, rfl, rfl, sz (by decide +kernel), e1, _, _, rfl, rfl, by rw [one_len]; omega, _, rfl, _, rfl, _, rfl, _, rfl, by omega, _, _, rfl, rfl, by rw [Str.length_append, one_len]; omega, l, _, _, rfl, rfl, e, by rw [List.length_map, List.length_map, List.length_range]; omega, ?_⟩
      refine ⟨_, rfl, same_upd S hl _, ?_⟩
      rw [upd_same, range_snoc, List.map_append]
      rfl
    · rintro σ H2 ⟨o, rfl, S, e⟩
      have la := Txt.slice_le x none (some at_)
      have lb := Txt.slice_le x (some at_) none
      exact ⟨_, rfl, fin _ H2 S e (w1_nodup _ _) fun k => by rw [w1, Str.length_append, Str.length_append, one_len]; omega⟩
  · refine ⟨_, rfl, _, _, rfl, rfl, ⟨by decide, by decide⟩, _, rfl, _, _, rfl, by omega, by omega, fun x hx => ?_⟩
    refine ⟨16, rfl, by decide, by decide, for_range (fun i σ H2 => ∃ (o o2 o3 : Option V), σ = [some (.int c), some (.int (c % 8 + 1)), some (.ref l), some (.str x), none, o, o2, o3] ∧ Same H H2 ∧ H2 l = some (.lst (((List.range i).map fun k => w2 x k 4).map V.str)))
      ⟨none, none, none, rfl, S1, upd_same⟩ ?_ ?_⟩
    · rintro i σ H2 hi ⟨o, o2, o3, rfl, S, e⟩
      have hi16 : i < 16 := hi
      refine ⟨_, rfl, (by show 4 ≤ sizeLine; decide), fun p hp => ⟨p, rfl, ⟨_, SqL.of upd_same⟩, ?_⟩⟩
      have S2 : Same H (upd H2 p (.lst [V.int 8, V.int 4, V.int 2, V.int 1])) := S.trans (same_new hp _)
      have nlp : l ≠ p := ne_of_none e hp
      refine for_list (xs := [V.int 8, V.int 4, V.int 2, V.int 1]) (fun j σ H3 => ∃ (o3 : Option V), σ = [some (.int c), some (.int (c % 8 + 1)), some (.ref l), some (.str x), none, some (.int (0 + (i : Int))), some (.str (w2 x i j)), o3] ∧ H3 = upd H2 p (.lst [V.int 8, V.int 4, V.int 2, V.int 1]) ∧ (w2 x i j).length ≤ 100 + j)
        ⟨o3, rfl, rfl, hx⟩ (fun j σ H3 _ ⟨o4, _, e3, _⟩ => by rw [e3]; exact SqL.of upd_same) ?_ ?_
      · rintro j v σ H3 hv ⟨o4, rfl, rfl, hy⟩
        have hj : j < 4 := (List.getElem?_eq_some_iff.mp hv).1
        have hn : v = .int (part j) ∧ 0 < part j ∧ part j < 1073741824 := by
          match j, hj, hv with
          | 0, _, hv => cases hv; exact ⟨rfl, by decide, by decide⟩
          | 1, _, hv => cases hv; exact ⟨rfl, by decide, by decide⟩
          | 2, _, hv => cases hv; exact ⟨rfl, by decide, by decide⟩
          | 3, _, hv => cases hv; exact ⟨rfl, by decide, by decide⟩
        obtain ⟨rfl, n0, n1⟩ := hn
        obtain ⟨ch, e1, _⟩ := atI_lt ("t7" : Str).cps.toList ((0 + (i : Int)) / part j % 2) (Int.emod_nonneg _ (by decide)) (by rw [show ("t7" : Str).cps.toList.length = 2 by decide +kernel]; exact Int.emod_lt_of_pos _ (by decide))
        have ech : ch = bit i j := by rw [bit, t7, e1]; rfl
        subst ech
        refine ⟨_, rfl, _, rfl, _, rfl, _, _, rfl, rfl, ⟨n0, n1⟩, _, _, rfl, rfl, (by show (0 : Int) < 2; decide), _, _, _, rfl, rfl, sz (by decide +kernel), e1, _, _, rfl, rfl, by rw [one_len]; omega, ?_⟩
        exact ⟨_, rfl, rfl, by rw [w2, Str.length_append, one_len]; omega⟩
      · rintro σ H3 ⟨o4, rfl, rfl, hy⟩
        have e4 : (upd H2 p (.lst [V.int 8, V.int 4, V.int 2, V.int 1])) l = some (.lst (((List.range i).map fun k => w2 x k 4).map V.str)) := by rw [upd_ne nlp]; exact e
        refine ⟨_, rfl, .inl ⟨rfl, _, SqL.of e4⟩, _, rfl, l, _, _, rfl, rfl, e4, by rw [List.length_map, List.length_map, List.length_range]; omega, ?_⟩
        refine ⟨_, _, _, rfl, same_upd S2 hl _, ?_⟩
        rw [upd_same, range_snoc, List.map_append]
        rfl
    · rintro σ H2 ⟨o, o2, o3, rfl, S, e⟩
      exact ⟨_, rfl, fin _ H2 S e (w2_nodup x) fun k => by have := w2_len x k 4; omega⟩
end
end K25.Internal
namespace K25.Internal
open PySem L2.Internal BO.Internal KK.Internal
seal L2.Internal.PE L2.Internal.PA L2.Internal.PS L2.Internal.PSs L2.Internal.PT L2.Internal.PI
section
variable {P : Program} {w : World} {K : PySem.W.Frag} {mg : Str → Option Value} {base : Heap}
noncomputable def sp_alike : Nat → Sp
  | 0 => fun _ _ _ _ => False
  | n + 1 => fun vs H Q _ => ∃ (x y : V) (d : Dt), vs = [x, y] ∧ Dta H x d ∧ Dta H y d ∧ depD d ≤ n ∧ okD d ∧ ∀ H', Same H H' → Q (.bl true) H'
theorem len_tup {K : PySem.W.Frag} {H : Hp} {a : Addr} {xs : List V} (h : H a = some (.tup xs)) : LenV K (.ref a) H xs.length := .inr ⟨xs, SqT.of h, rfl⟩
theorem len_lst {K : PySem.W.Frag} {H : Hp} {a : Addr} {xs : List V} (h : H a = some (.lst xs)) : LenV K (.ref a) H xs.length := .inl ⟨xs, SqL.of h, rfl⟩
theorem all_true (n : Nat) : (List.replicate n true).all id = true := by
  rw [List.all_eq_true]
  intro b hb
  exact (List.mem_replicate.mp hb).2
theorem lc_true {J : It} {g : TG} {te : TE} {Q : VK} {τ : St} {H1 : Hp} {D : Addr} (n : Nat) (hn : n < sizeLine) (hD : H1 D = none)
    (hgo : ∀ k H, Same H1 H → k < n → J.go k H) (hst : ∀ H, Same H1 H → J.stop n H)
    (step : ∀ (k : Nat) (H : Hp) (v : V) (H3 : Hp) (R : St → V → Hp → Prop), Same H1 H → k < n → J.yld k H v H3 → ∀ σ' : St, σ'.length = τ.length → (∀ (σ4 : St) (H5 : Hp), σ4.length = τ.length → Same H H5 → R σ4 (.bl true) H5) → g v σ' H3 fun σ4 H4 => te σ4 H4 (R σ4))
    (hq : ∀ H', Same H1 H' → H' D = some (.lst ((List.replicate n true).map V.bl)) → Q (.ref D) H') : LcG J g te Q τ H1 D := by
  refine ⟨fun k m σ' H2 => m = n - k ∧ k ≤ n ∧ σ'.length = τ.length ∧ Same H1 H2 ∧ H2 D = some (.lst ((List.replicate k true).map V.bl)), ⟨n, by simp, Nat.zero_le _, rfl, same_new hD _, upd_same⟩, ?_⟩
  rintro k m σ' H2 ⟨rfl, hk, hl, S, e⟩
  by_cases hlt : k < n
  · refine .inr ⟨hgo k H2 S hlt, fun v H3 y => step k H2 v H3 (fun (σ4 : St) (x : V) (H5 : Hp) => ∃ xs, H5 D = some (.lst xs) ∧ xs.length < sizeLine ∧ ∃ m', m' < n - k ∧ m' = n - (k + 1) ∧ k + 1 ≤ n ∧ σ4.length = τ.length ∧ Same H1 (upd H5 D (.lst (xs ++ [x]))) ∧ (upd H5 D (.lst (xs ++ [x]))) D = some (.lst ((List.replicate (k + 1) true).map V.bl))) S hlt y σ' hl fun σ4 H5 h4 S5 => ?_⟩
    refine ⟨_, S5 D _ e, by rw [List.length_map, List.length_replicate]; omega, n - (k + 1), by omega, rfl, hlt, h4, same_upd (S.trans S5) hD _, ?_⟩
    rw [upd_same, List.replicate_succ', List.map_append]
    rfl
  · have e1 : k = n := by omega
    subst e1
    exact .inl ⟨hst H2 S, hq H2 S e⟩
theorem ok__law_alike (T : Txt K mg) : ∀ n, FnOk P w K mg base CX0 (n + 1) T.a__law_alike T.fd__law_alike ["_law_found", "_law_due"] (sp_alike n)
  | 0 => T.F__law_alike.ok sc__law_alike (fun vs H Q E h => h.elim) (fun cdv A outer s H vs Q E hr h => h.elim)
  | n + 1 => by
    have G__law_alike := ok__law_alike T n
    refine T.F__law_alike.ok sc__law_alike (fun vs H Q E h => ?_) (fun cdv A outer s H vs Q E hr h => ?_)
    · obtain ⟨x, y, d, rfl, _⟩ := h
      rfl
    obtain ⟨x, y, d, rfl, hx, hy, hd, ho, q⟩ := h
    refine ⟨_, (pss_cons (ps_if (pt_val (pe_callB call_isiT rfl T.z_isinstance bt_isinstance (pa_cons (pv 1) (pa_cons (pe_tup (pa_cons (pe_bty rfl T.z_list bt_list) (pa_cons (pe_bty rfl T.z_tuple bt_tuple) pa_nil))) pa_nil))))
      (pss_cons (ps_if (PW.pt (pw_or (pt_not (pt_val (pe_callB call_isiT rfl T.z_isinstance bt_isinstance (pa_cons (pv 0) (pa_cons (pe_tup (pa_cons (pe_bty rfl T.z_list bt_list) (pa_cons (pe_bty rfl T.z_tuple bt_tuple) pa_nil))) pa_nil))))) (pw_or1 (pt_cmpR op_ne (pe_callB call_isi rfl T.z_isinstance bt_isinstance (pa_cons (pv 0) (pa_cons (pe_bty rfl T.z_list bt_list) pa_nil))) (pe_callB call_isi rfl T.z_isinstance bt_isinstance (pa_cons (pv 1) (pa_cons (pe_bty rfl T.z_list bt_list) pa_nil))) (nomark _)))))
        (pss_one (ps_ret pe_bl))
        pss_nil)
      (pss_one (ps_ret (pe_and (pe_cmpR op_eq (pe_callB call_len rfl T.z_len bt_len (pa_cons (pv 0) pa_nil)) (pe_callB call_len rfl T.z_len bt_len (pa_cons (pv 1) pa_nil)) (nomark _)) (pe_one (pe_callB (call_all rfl) rfl T.z_all bt_all (pa_cons (pe_lcP (g := gTup K 2 (gCons (gName 0) (gCons (gName 1) gNil))) rfl (blk02 (x := "_law_one") (y := "_law_other") rfl (by decide +kernel) (by decide +kernel) rfl (by decide) rfl) (PI.or (pi_zip rfl T.z_zip (pa_cons (pv 0) (pa_cons (pv 1) pa_nil))) (pi_zipT rfl T.z_zip (pa_cons (pv 0) (pa_cons (pv 1) pa_nil)))) (fun c1 c2 c3 c4 c5 => pg_tup (n := 2) (X := blk _ ["_law_one", "_law_other"] _ _ c1 c2 c3 c4 c5) rfl (pgs_cons (pg_name (X := blk _ ["_law_one", "_law_other"] _ _ c1 c2 c3 c4 c5) (i := 0) (show (["_law_one", "_law_other"] : List Str).Nodup by decide +kernel) rfl (.inl (lookup_relabel_local rfl)) (.inr (lookup_relabel_local rfl))) (pgs_cons (pg_name (X := blk _ ["_law_one", "_law_other"] _ _ c1 c2 c3 c4 c5) (i := 1) (show (["_law_one", "_law_other"] : List Str).Nodup by decide +kernel) rfl (.inl (lookup_relabel_local rfl)) (.inr (lookup_relabel_local rfl))) pgs_nil))) (fun _ _ _ _ _ => (pe_call G__law_alike (hr.mono (by omega)) rfl T.m__law_alike T.k__law_alike T.b__law_alike .nil pass0 (pa_cons (pv 0) (pa_cons (pv 1) pa_nil))))) pa_nil)))))))
      pss_nil)
    (pss_cons (ps_if (pt_val (pe_callB call_isi rfl T.z_isinstance bt_isinstance (pa_cons (pv 1) (pa_cons (pe_bty rfl T.z_str bt_str) pa_nil))))
      (pss_one (ps_ret (pe_and (pe_callB call_isi rfl T.z_isinstance bt_isinstance (pa_cons (pv 0) (pa_cons (pe_bty rfl T.z_str bt_str) pa_nil))) (pe_one (pe_cmpR op_eq (pv 0) (pv 1) (nomark _))))))
      pss_nil)
    (pss_cons (ps_if (pt_cmp (pc_isN (pv 1)))
      (pss_one (ps_ret (pe_cmp (pc_isN (pv 0)))))
      pss_nil)
    (pss_one (ps_ret (pe_and (pe_callB call_isi rfl T.z_isinstance bt_isinstance (pa_cons (pv 0) (pa_cons (pe_bty rfl T.z_int bt_int) pa_nil))) (pe_and (pe_not (pe_callB call_isi rfl T.z_isinstance bt_isinstance (pa_cons (pv 0) (pa_cons (pe_bty rfl T.z_bool bt_bool) pa_nil)))) (pe_one (pe_cmpR op_eq (pv 0) (pv 1) (nomark _)))))))))), ?_⟩
    have sl : sizeLine = 16777216 := sizeLine_eq
    cases hy with
    | flat h =>
      cases hx
      cases x with
      | non =>
        refine ⟨_, rfl, (by show 2 ≤ sizeLine; decide), fun t ht => ⟨_, t, ["list", "tuple"], _, false, rfl, upd_same, .non, rfl, _, rfl, iteF ?_⟩⟩
        refine ⟨_, rfl, _, _, _, _, false, rfl, fun _ r => r, .non, rfl, _, rfl, iteF ?_⟩
        refine ⟨_, rfl, _, rfl, ?_⟩
        rw [decide_eq_true rfl]
        refine iteT ⟨_, rfl, ?_⟩
        dsimp only
        rw [decide_eq_true rfl]
        exact q _ (same_new ht _)
      | int i =>
        refine ⟨_, rfl, (by show 2 ≤ sizeLine; decide), fun t ht => ⟨_, t, ["list", "tuple"], _, false, rfl, upd_same, .int i, rfl, _, rfl, iteF ?_⟩⟩
        refine ⟨_, rfl, _, _, _, _, false, rfl, fun _ r => r, .int i, rfl, _, rfl, iteF ?_⟩
        refine ⟨_, rfl, _, rfl, ?_⟩
        rw [decide_eq_false (fun z => nomatch z)]
        refine iteF ⟨_, rfl, _, _, _, _, true, rfl, fun _ r => r, .int i, rfl, _, rfl, iteT ⟨_, rfl, _, _, _, _, false, rfl, fun _ r => r, .int i, rfl, _, rfl, _, rfl, iteT ⟨_, rfl, _, rfl, rfl, ?_⟩⟩⟩
        dsimp only
        rw [decide_eq_true rfl]
        exact q _ (same_new ht _)
      | str z =>
        refine ⟨_, rfl, (by show 2 ≤ sizeLine; decide), fun t ht => ⟨_, t, ["list", "tuple"], _, false, rfl, upd_same, .str z, rfl, _, rfl, iteF ?_⟩⟩
        refine ⟨_, rfl, _, _, _, _, true, rfl, fun _ r => r, .str z, rfl, _, rfl, iteT ?_⟩
        refine ⟨_, rfl, _, _, _, _, true, rfl, fun _ r => r, .str z, rfl, _, rfl, iteT ⟨_, rfl, _, rfl, rfl, ?_⟩⟩
        dsimp only
        rw [decide_eq_true rfl]
        exact q _ (same_new ht _)
      | bl b => cases h
      | byt b => cases h
      | flt b => cases h
      | ref a => cases h
      | ty n => cases h
    | @tup b ys ds hb hys =>
      cases hx with
      | @tup a xs _ ha hxs =>
      have lx := hxs.length
      have ly := hys.length
      have dd : depDs ds + 1 ≤ n := hd
      refine ⟨_, rfl, (by show 2 ≤ sizeLine; decide), fun t ht => ⟨_, t, ["list", "tuple"], _, true, rfl, upd_same, .tup (same_new ht _ _ _ hb), rfl, _, rfl, iteT ?_⟩⟩
      have S1 : Same H (upd H t (.tup [V.ty "list", V.ty "tuple"])) := same_new ht _
      generalize upd H t (.tup [V.ty "list", V.ty "tuple"]) = H1 at S1 ⊢
      refine ⟨_, rfl, (by show 2 ≤ sizeLine; decide), fun t2 ht2 => ⟨_, t2, ["list", "tuple"], _, true, rfl, upd_same, .tup (same_new ht2 _ _ _ (S1 _ _ ha)), rfl, _, rfl, ?_⟩⟩
      have S2 : Same H (upd H1 t2 (.tup [V.ty "list", V.ty "tuple"])) := S1.trans (same_new ht2 _)
      generalize upd H1 t2 (.tup [V.ty "list", V.ty "tuple"]) = H2 at S2 ⊢
      refine iteF ⟨_, rfl, _, _, _, _, false, rfl, fun _ r => r, .tup (S2 _ _ ha), rfl, _, rfl, _, _, _, _, false, rfl, fun _ r => r, .tup (S2 _ _ hb), rfl, rfl, _, rfl, iteF ?_⟩
      refine ⟨_, rfl, _, xs.length, rfl, len_tup (S2 _ _ ha), _, rfl, _, ys.length, rfl, len_tup (S2 _ _ hb), rfl, _, rfl, ?_⟩
      rw [decide_eq_true (show V.int (xs.length : Int) = V.int (ys.length : Int) by rw [lx, ly])]
      cases n with
      | zero => omega
      | succ m =>
      refine iteT (.inr ⟨_, rfl, _, rfl, a, b, rfl, ⟨_, SqT.of (S2 _ _ ha)⟩, ⟨_, SqT.of (S2 _ _ hb)⟩, fun D hD => ?_⟩)
      refine lc_true xs.length (by have := ho.1; omega) hD (fun k H3 S3 hk => ⟨xs, ys, xs[k], ys[k]'(by omega), SqT.of (S3 _ _ (S2 _ _ ha)), SqT.of (S3 _ _ (S2 _ _ hb)), List.getElem?_eq_getElem hk, List.getElem?_eq_getElem (by omega)⟩)
        (fun H3 S3 => ⟨xs, ys, SqT.of (S3 _ _ (S2 _ _ ha)), SqT.of (S3 _ _ (S2 _ _ hb)), by omega⟩) ?_ ?_
      · rintro k H3 v H4 R S3 hk ⟨p, x1, y1, rfl, hp, rfl, e1, e2⟩ σ' hl r
        obtain ⟨u1, u2, rfl⟩ : ∃ u1 u2, σ' = [u1, u2] := by
          match σ', hl with
          | [u1, u2], _ => exact ⟨u1, u2, rfl⟩
        have S4 : Same H (upd H3 p (.tup [x1, y1])) := (S2.trans S3).trans (same_new hp _)
        obtain ⟨d1, f1, g1⟩ := hxs.get (e1 xs (SqT.of (S3 _ _ (S2 _ _ ha))))
        obtain ⟨d2, f2, g2⟩ := hys.get (e2 ys (SqT.of (S3 _ _ (S2 _ _ hb))))
        have ed : d2 = d1 := by rw [f1] at f2; exact (Option.some.inj f2).symm
        subst ed
        have dp := BO.Internal.depDs_get f1
        refine ⟨p, [x1, y1], rfl, SqT.of upd_same, rfl, x1, [y1], rfl, y1, [], rfl, rfl, _, rfl, _, rfl, x1, y1, d2, rfl, g1.same S4, g2.same S4, by omega, okDs_get ho.2 f1, fun H5 S5 => ?_⟩
        exact r _ _ rfl ((same_new hp _).trans S5)
      · intro H3 S3 hD3
        refine ⟨D, List.replicate xs.length true, rfl, SqL.of hD3, ?_⟩
        rw [all_true]
        exact q _ (S2.trans S3)
    | @lst b ys ds hb hys =>
      cases hx with
      | @lst a xs _ ha hxs =>
      have lx := hxs.length
      have ly := hys.length
      have dd : depDs ds + 1 ≤ n := hd
      refine ⟨_, rfl, (by show 2 ≤ sizeLine; decide), fun t ht => ⟨_, t, ["list", "tuple"], _, true, rfl, upd_same, .lst (same_new ht _ _ _ hb), rfl, _, rfl, iteT ?_⟩⟩
      have S1 : Same H (upd H t (.tup [V.ty "list", V.ty "tuple"])) := same_new ht _
      generalize upd H t (.tup [V.ty "list", V.ty "tuple"]) = H1 at S1 ⊢
      refine ⟨_, rfl, (by show 2 ≤ sizeLine; decide), fun t2 ht2 => ⟨_, t2, ["list", "tuple"], _, true, rfl, upd_same, .lst (same_new ht2 _ _ _ (S1 _ _ ha)), rfl, _, rfl, ?_⟩⟩
      have S2 : Same H (upd H1 t2 (.tup [V.ty "list", V.ty "tuple"])) := S1.trans (same_new ht2 _)
      generalize upd H1 t2 (.tup [V.ty "list", V.ty "tuple"]) = H2 at S2 ⊢
      refine iteF ⟨_, rfl, _, _, _, _, true, rfl, fun _ r => r, .lst (S2 _ _ ha), rfl, _, rfl, _, _, _, _, true, rfl, fun _ r => r, .lst (S2 _ _ hb), rfl, rfl, _, rfl, iteF ?_⟩
      refine ⟨_, rfl, _, xs.length, rfl, len_lst (S2 _ _ ha), _, rfl, _, ys.length, rfl, len_lst (S2 _ _ hb), rfl, _, rfl, ?_⟩
      rw [decide_eq_true (show V.int (xs.length : Int) = V.int (ys.length : Int) by rw [lx, ly])]
      cases n with
      | zero => omega
      | succ m =>
      refine iteT (.inl ⟨_, rfl, _, rfl, a, b, rfl, ⟨_, SqL.of (S2 _ _ ha)⟩, ⟨_, SqL.of (S2 _ _ hb)⟩, fun D hD => ?_⟩)
      refine lc_true xs.length (by have := ho.1; omega) hD (fun k H3 S3 hk => ⟨xs, ys, xs[k], ys[k]'(by omega), SqL.of (S3 _ _ (S2 _ _ ha)), SqL.of (S3 _ _ (S2 _ _ hb)), List.getElem?_eq_getElem hk, List.getElem?_eq_getElem (by omega)⟩)
        (fun H3 S3 => ⟨xs, ys, SqL.of (S3 _ _ (S2 _ _ ha)), SqL.of (S3 _ _ (S2 _ _ hb)), by omega⟩) ?_ ?_
      · rintro k H3 v H4 R S3 hk ⟨p, x1, y1, rfl, hp, rfl, e1, e2⟩ σ' hl r
        obtain ⟨u1, u2, rfl⟩ : ∃ u1 u2, σ' = [u1, u2] := by
          match σ', hl with
          | [u1, u2], _ => exact ⟨u1, u2, rfl⟩
        have S4 : Same H (upd H3 p (.tup [x1, y1])) := (S2.trans S3).trans (same_new hp _)
        obtain ⟨d1, f1, g1⟩ := hxs.get (e1 xs (SqL.of (S3 _ _ (S2 _ _ ha))))
        obtain ⟨d2, f2, g2⟩ := hys.get (e2 ys (SqL.of (S3 _ _ (S2 _ _ hb))))
        have ed : d2 = d1 := by rw [f1] at f2; exact (Option.some.inj f2).symm
        subst ed
        have dp := BO.Internal.depDs_get f1
        refine ⟨p, [x1, y1], rfl, SqT.of upd_same, rfl, x1, [y1], rfl, y1, [], rfl, rfl, _, rfl, _, rfl, x1, y1, d2, rfl, g1.same S4, g2.same S4, by omega, okDs_get ho.2 f1, fun H5 S5 => ?_⟩
        exact r _ _ rfl ((same_new hp _).trans S5)
      · intro H3 S3 hD3
        refine ⟨D, List.replicate xs.length true, rfl, SqL.of hD3, ?_⟩
        rw [all_true]
        exact q _ (S2.trans S3)
end
end K25.Internal
namespace K25.Internal
open PySem L2.Internal BO.Internal KK.Internal
seal L2.Internal.PE L2.Internal.PA L2.Internal.PS L2.Internal.PSs L2.Internal.PT L2.Internal.PI
theorem same_make {H : Hp} {x dx : Addr} {o : HO} (hx : H x = none) (hd : H dx = none) : Same H (upd (upd H dx (.own x)) x o) := fun b u e => by
  rw [upd_ne (ne_of_none e hx), upd_ne (ne_of_none e hd)]; exact e
theorem fB_root' (p0 p1 p2 p3 : Addr) (r v : V) : putF "root" v (fB p0 p1 p2 p3 r) = fB p0 p1 p2 p3 v := by
  have h1 : ¬ ("points" : Str) = "root" := by decide +kernel
  have h2 : ¬ ("makes" : Str) = "root" := by decide +kernel
  have h3 : ¬ ("uses" : Str) = "root" := by decide +kernel
  have h4 : ¬ ("flows" : Str) = "root" := by decide +kernel
  simp only [putF, fB, if_neg h1, if_neg h2, if_neg h3, if_neg h4, if_pos]
theorem fB_mk (p0 p1 p2 p3 : Addr) (r : V) : putF "root" r (putF "flows" (.ref p3) (putF "uses" (.ref p2) (putF "makes" (.ref p1) (putF "points" (.ref p0) [])))) = fB p0 p1 p2 p3 r := by
  have h1 : ¬ ("points" : Str) = "root" := by decide +kernel
  have h2 : ¬ ("makes" : Str) = "root" := by decide +kernel
  have h3 : ¬ ("uses" : Str) = "root" := by decide +kernel
  have h4 : ¬ ("flows" : Str) = "root" := by decide +kernel
  have h5 : ¬ ("points" : Str) = "flows" := by decide +kernel
  have h6 : ¬ ("makes" : Str) = "flows" := by decide +kernel
  have h7 : ¬ ("uses" : Str) = "flows" := by decide +kernel
  have h8 : ¬ ("points" : Str) = "uses" := by decide +kernel
  have h9 : ¬ ("makes" : Str) = "uses" := by decide +kernel
  have h10 : ¬ ("points" : Str) = "makes" := by decide +kernel
  simp only [putF, fB, if_neg h1, if_neg h2, if_neg h3, if_neg h4, if_neg h5, if_neg h6, if_neg h7, if_neg h8, if_neg h9, if_neg h10]
section
variable {P : Program} {w : World} {K : PySem.W.Frag} {mg : Str → Option Value} {base : Heap}
noncomputable def sp_Board___init__ (C : Addr) : Sp := fun vs H Q _ => ∃ (x dx : Addr), vs = [.ref x] ∧ H x = some (.ins C dx []) ∧ ∀ (p0 p1 p2 p3 : Addr) (H' : Hp), (∀ a ∈ [p0, p1, p2, p3], H a = none) → [p0, p1, p2, p3].Nodup → H' x = some (.ins C dx (fB p0 p1 p2 p3 (.int 0))) → Ls H' [p0, p1, p2, p3] [[], [], [], []] → (∀ b o, H b = some o → b ≠ x → H' b = some o) → Q .non H'
theorem ok_Board___init__ (T : Txt K mg) : FnOk P w K mg base CX0 1 T.a_Board___init__ T.fd_Board___init__ ["self"] (sp_Board___init__ T.a_Board) := by
  refine T.F_Board___init__.ok sc_Board___init__ (fun vs H Q E h => ?_) (fun cdv A outer s H vs Q E hr h => ?_)
  · obtain ⟨x, dx, rfl, _⟩ := h
    rfl
  obtain ⟨x, dx, rfl, hx, q⟩ := h
  refine ⟨_, (pss_cons (ps_fld (pv 0) (pe_lst pa_nil) rfl)
    (pss_cons (ps_fld (pv 0) (pe_lst pa_nil) rfl)
    (pss_cons (ps_fld (pv 0) (pe_lst pa_nil) rfl)
    (pss_cons (ps_fld (pv 0) (pe_lst pa_nil) rfl)
    (pss_one (ps_fld (pv 0) pe_int rfl)))))), ?_⟩
  have z0 : (0 : Nat) ≤ sizeLine := by decide
  refine ⟨z0, fun p0 h0 => ⟨_, rfl, x, _, dx, _, rfl, (by rw [upd_ne (ne_of_none hx h0)]; exact hx), T.cl_Board, T.n_Board_points, (by show 0 < 1000; decide), ?_⟩⟩
  refine ⟨z0, fun p1 h1 => ⟨_, rfl, x, _, dx, _, rfl, (by rw [upd_ne (ne_of_none upd_same h1)]; exact upd_same), T.cl_Board, T.n_Board_makes, (by show 1 < 1000; decide), ?_⟩⟩
  refine ⟨z0, fun p2 h2 => ⟨_, rfl, x, _, dx, _, rfl, (by rw [upd_ne (ne_of_none upd_same h2)]; exact upd_same), T.cl_Board, T.n_Board_uses, len_put (len_put (by show 0 < 998; decide)), ?_⟩⟩
  refine ⟨z0, fun p3 h3 => ⟨_, rfl, x, _, dx, _, rfl, (by rw [upd_ne (ne_of_none upd_same h3)]; exact upd_same), T.cl_Board, T.n_Board_flows, len_put (len_put (len_put (by show 0 < 997; decide))), ?_⟩⟩
  refine ⟨_, rfl, x, _, dx, _, rfl, upd_same, T.cl_Board, T.n_Board_root, len_put (len_put (len_put (len_put (by show 0 < 996; decide)))), ?_⟩
  have n0 : x ≠ p0 := ne_of_none hx h0
  have n1 : x ≠ p1 := ne_of_none upd_same h1
  have n2 : x ≠ p2 := ne_of_none upd_same h2
  have n3 : x ≠ p3 := ne_of_none upd_same h3
  have d10 : p0 ≠ p1 := ne_of_none (by rw [upd_ne (Ne.symm n0)]; exact upd_same) h1
  have d20 : p0 ≠ p2 := ne_of_none (by rw [upd_ne (Ne.symm n0), upd_ne d10, upd_ne (Ne.symm n0)]; exact upd_same) h2
  have d21 : p1 ≠ p2 := ne_of_none (by rw [upd_ne (Ne.symm n1)]; exact upd_same) h2
  have d30 : p0 ≠ p3 := ne_of_none (by rw [upd_ne (Ne.symm n0), upd_ne d20, upd_ne (Ne.symm n0), upd_ne d10, upd_ne (Ne.symm n0)]; exact upd_same) h3
  have d31 : p1 ≠ p3 := ne_of_none (by rw [upd_ne (Ne.symm n1), upd_ne d21, upd_ne (Ne.symm n1)]; exact upd_same) h3
  have d32 : p2 ≠ p3 := ne_of_none (by rw [upd_ne (Ne.symm n2)]; exact upd_same) h3
  rw [upd_ne (Ne.symm n1), upd_ne (Ne.symm d10)] at h1
  rw [upd_ne (Ne.symm n2), upd_ne (Ne.symm d21), upd_ne (Ne.symm n2), upd_ne (Ne.symm d20)] at h2
  rw [upd_ne (Ne.symm n3), upd_ne (Ne.symm d32), upd_ne (Ne.symm n3), upd_ne (Ne.symm d31), upd_ne (Ne.symm n3), upd_ne (Ne.symm d30)] at h3
  refine q p0 p1 p2 p3 _ ?_ ?_ ?_ ?_ ?_
  · intro a ha
    simp only [List.mem_cons, List.not_mem_nil, or_false] at ha
    rcases ha with e | e | e | e <;> rw [e] <;> assumption
  · simp only [List.nodup_cons, List.mem_cons, List.not_mem_nil, or_false, not_or]
    exact ⟨⟨d10, d20, d30⟩, ⟨d21, d31⟩, d32, fun z => z, List.nodup_nil⟩
  · rw [upd_same, fB_mk]
  · refine .cons ?_ (.cons ?_ (.cons ?_ (.cons ?_ .nil)))
    · rw [upd_ne (Ne.symm n0), upd_ne (Ne.symm n0), upd_ne d30, upd_ne (Ne.symm n0), upd_ne d20, upd_ne (Ne.symm n0), upd_ne d10, upd_ne (Ne.symm n0)]; exact upd_same
    · rw [upd_ne (Ne.symm n1), upd_ne (Ne.symm n1), upd_ne d31, upd_ne (Ne.symm n1), upd_ne d21, upd_ne (Ne.symm n1)]; exact upd_same
    · rw [upd_ne (Ne.symm n2), upd_ne (Ne.symm n2), upd_ne d32, upd_ne (Ne.symm n2)]; exact upd_same
    · rw [upd_ne (Ne.symm n3), upd_ne (Ne.symm n3)]; exact upd_same
  · intro b o e hb
    rw [upd_ne hb, upd_ne hb, upd_ne (ne_of_none e h3), upd_ne hb, upd_ne (ne_of_none e h2), upd_ne hb, upd_ne (ne_of_none e h1), upd_ne hb, upd_ne (ne_of_none e h0)]
    exact e
noncomputable def sp_Board_point (C : Addr) : Sp := fun vs H Q _ => ∃ (x dx p0 p1 p2 p3 : Addr) (r v : V) (xs : List V), vs = [.ref x, v] ∧ H x = some (.ins C dx (fB p0 p1 p2 p3 r)) ∧ H p0 = some (.lst xs) ∧ xs.length < sizeLine ∧ Q (.int xs.length) (upd H p0 (.lst (xs ++ [v])))
theorem ok_Board_point (T : Txt K mg) : FnOk P w K mg base CX0 1 T.a_Board_point T.fd_Board_point ["self", "place"] (sp_Board_point T.a_Board) := by
  refine T.F_Board_point.ok sc_Board_point (fun vs H Q E h => ?_) (fun cdv A outer s H vs Q E hr h => ?_)
  · obtain ⟨x, dx, p0, p1, p2, p3, r, v, xs, rfl, _⟩ := h
    rfl
  obtain ⟨x, dx, p0, p1, p2, p3, r, v, xs, rfl, hx, h0, hl, q⟩ := h
  refine ⟨_, (pss_cons (ps_expr (pe_bm PySem.F.plainAttrs_list PySem.F.slot_list_append PySem.F.type_list_append mt_append (pe_fld (pv 0) rfl) (pa_cons (pv 1) pa_nil)))
    (pss_one (ps_ret (pe_op op_sub (pe_callB call_len_seq rfl T.z_len bt_len (pa_cons (pe_fld (pv 0) rfl) pa_nil)) pe_int)))), ?_⟩
  refine ⟨_, rfl, x, _, dx, _, _, rfl, hx, T.cl_Board, T.n_Board_points, fB_points _ _ _ _ _, .inl ⟨rfl, _, SqL.of h0⟩, _, rfl, p0, _, _, rfl, rfl, h0, hl, ?_⟩
  have hx2 : (upd H p0 (.lst (xs ++ [v]))) x = some (.ins T.a_Board dx (fB p0 p1 p2 p3 r)) := by rw [upd_ne (ne_of hx h0 (fun z => nomatch z))]; exact hx
  refine ⟨_, rfl, x, _, dx, _, _, rfl, hx2, T.cl_Board, T.n_Board_points, fB_points _ _ _ _ _, p0, _, rfl, .inl (SqL.of upd_same), _, _, rfl, rfl, ?_⟩
  show Q (V.int (((xs ++ [v]).length : Int) - 1)) _
  rw [List.length_append, show (((xs.length + [v].length : Nat) : Int) - 1) = (xs.length : Int) by simp]
  exact q
noncomputable def sp_Board_make (C M : Addr) : Sp := fun vs H Q _ => ∃ (x dx p0 p1 p2 p3 : Addr) (r s f a p : V) (xs : List V), vs = [.ref x, s, f, a, p] ∧ H x = some (.ins C dx (fB p0 p1 p2 p3 r)) ∧ H p1 = some (.lst xs) ∧ xs.length < sizeLine ∧ ∀ m dm, H m = none → H dm = none → Q .non (upd (upd (upd H dm (.own m)) m (.ins M dm (fM s f a p))) p1 (.lst (xs ++ [.ref m])))
theorem ok_Board_make (T : Txt K mg) : FnOk P w K mg base CX0 3 T.a_Board_make T.fd_Board_make ["self", "shape", "parts", "at", "place"] (sp_Board_make T.a_Board T.a_Make) := by
  have G_Make___init__ := ok_Make___init__ (P := P) (w := w) (base := base) T
  refine T.F_Board_make.ok sc_Board_make (fun vs H Q E h => ?_) (fun cdv A outer s H vs Q E hr h => ?_)
  · obtain ⟨x, dx, p0, p1, p2, p3, r, s, f, a, p, xs, rfl, _⟩ := h
    rfl
  obtain ⟨x, dx, p0, p1, p2, p3, r, sh, f, a, p, xs, rfl, hx, h0, hl, q⟩ := h
  refine ⟨_, (pss_one (ps_expr (pe_bm PySem.F.plainAttrs_list PySem.F.slot_list_append PySem.F.type_list_append mt_append (pe_fld (pv 0) rfl) (pa_cons (pe_make T.mk_Make G_Make___init__ (hr.mono (by decide)) rfl T.m_Make T.b_Make___init__ .nil pass0 (pa_cons (pv 1) (pa_cons (pv 2) (pa_cons (pv 3) (pa_cons (pv 4) pa_nil))))) pa_nil)))), ?_⟩
  refine ⟨_, rfl, x, _, dx, _, _, rfl, hx, T.cl_Board, T.n_Board_makes, fB_makes _ _ _ _ _, .inl ⟨rfl, _, SqL.of h0⟩, _, rfl, _, rfl, _, rfl, _, rfl, fun m dm hm hdm nm => ?_⟩
  refine ⟨m, dm, _, _, _, _, rfl, upd_same, rfl, ?_⟩
  rw [upd_upd]
  have h1 : (upd (upd H dm (.own m)) m (.ins T.a_Make dm (fM sh f a p))) p1 = some (.lst xs) := same_make hm hdm _ _ h0
  exact ⟨p1, _, _, rfl, rfl, h1, hl, q m dm hm hdm⟩
noncomputable def sp_Board_use (C : Addr) : Sp := fun vs H Q _ => ∃ (x dx p0 p1 p2 p3 : Addr) (r v : V) (xs : List V), vs = [.ref x, v] ∧ H x = some (.ins C dx (fB p0 p1 p2 p3 r)) ∧ H p2 = some (.lst xs) ∧ xs.length < sizeLine ∧ Q .non (upd H p2 (.lst (xs ++ [v])))
theorem ok_Board_use (T : Txt K mg) : FnOk P w K mg base CX0 1 T.a_Board_use T.fd_Board_use ["self", "one"] (sp_Board_use T.a_Board) := by
  refine T.F_Board_use.ok sc_Board_use (fun vs H Q E h => ?_) (fun cdv A outer s H vs Q E hr h => ?_)
  · obtain ⟨x, dx, p0, p1, p2, p3, r, v, xs, rfl, _⟩ := h
    rfl
  obtain ⟨x, dx, p0, p1, p2, p3, r, v, xs, rfl, hx, h0, hl, q⟩ := h
  refine ⟨_, (pss_one (ps_expr (pe_bm PySem.F.plainAttrs_list PySem.F.slot_list_append PySem.F.type_list_append mt_append (pe_fld (pv 0) rfl) (pa_cons (pv 1) pa_nil)))), ?_⟩
  exact ⟨_, rfl, x, _, dx, _, _, rfl, hx, T.cl_Board, T.n_Board_uses, fB_uses _ _ _ _ _, .inl ⟨rfl, _, SqL.of h0⟩, _, rfl, p2, _, _, rfl, rfl, h0, hl, q⟩
noncomputable def sp_Board_flow (C : Addr) : Sp := fun vs H Q _ => ∃ (x dx p0 p1 p2 p3 : Addr) (r v u : V) (xs : List V), vs = [.ref x, v, u] ∧ H x = some (.ins C dx (fB p0 p1 p2 p3 r)) ∧ H p3 = some (.lst xs) ∧ xs.length < sizeLine ∧ ∀ t, H t = none → Q .non (upd (upd H t (.tup [v, u])) p3 (.lst (xs ++ [.ref t])))
theorem ok_Board_flow (T : Txt K mg) : FnOk P w K mg base CX0 1 T.a_Board_flow T.fd_Board_flow ["self", "p", "q"] (sp_Board_flow T.a_Board) := by
  refine T.F_Board_flow.ok sc_Board_flow (fun vs H Q E h => ?_) (fun cdv A outer s H vs Q E hr h => ?_)
  · obtain ⟨x, dx, p0, p1, p2, p3, r, v, u, xs, rfl, _⟩ := h
    rfl
  obtain ⟨x, dx, p0, p1, p2, p3, r, v, u, xs, rfl, hx, h0, hl, q⟩ := h
  refine ⟨_, (pss_one (ps_expr (pe_bm PySem.F.plainAttrs_list PySem.F.slot_list_append PySem.F.type_list_append mt_append (pe_fld (pv 0) rfl) (pa_cons (pe_tup (pa_cons (pv 1) (pa_cons (pv 2) pa_nil))) pa_nil)))), ?_⟩
  refine ⟨_, rfl, x, _, dx, _, _, rfl, hx, T.cl_Board, T.n_Board_flows, fB_flows _ _ _ _ _, .inl ⟨rfl, _, SqL.of h0⟩, _, rfl, _, rfl, (by show 2 ≤ sizeLine; decide), fun t ht => ?_⟩
  exact ⟨p3, _, _, rfl, rfl, same_new ht _ _ _ h0, hl, q t ht⟩
noncomputable def sp_Board_rooted (C : Addr) : Sp := fun vs H Q _ => ∃ (x dx p0 p1 p2 p3 : Addr) (r v : V), vs = [.ref x, v] ∧ H x = some (.ins C dx (fB p0 p1 p2 p3 r)) ∧ Q .non (upd H x (.ins C dx (fB p0 p1 p2 p3 v)))
theorem ok_Board_rooted (T : Txt K mg) : FnOk P w K mg base CX0 1 T.a_Board_rooted T.fd_Board_rooted ["self", "p"] (sp_Board_rooted T.a_Board) := by
  refine T.F_Board_rooted.ok sc_Board_rooted (fun vs H Q E h => ?_) (fun cdv A outer s H vs Q E hr h => ?_)
  · obtain ⟨x, dx, p0, p1, p2, p3, r, v, rfl, _⟩ := h
    rfl
  obtain ⟨x, dx, p0, p1, p2, p3, r, v, rfl, hx, q⟩ := h
  refine ⟨_, (pss_one (ps_fld (pv 0) (pv 1) rfl)), ?_⟩
  refine ⟨_, rfl, _, rfl, x, _, dx, _, rfl, hx, T.cl_Board, T.n_Board_root, (by show 5 < 1000; decide), ?_⟩
  rw [fB_root']
  exact q
end
end K25.Internal
namespace K25.Internal
open PySem L2.Internal BO.Internal KK.Internal
seal L2.Internal.PE L2.Internal.PA L2.Internal.PS L2.Internal.PSs L2.Internal.PT L2.Internal.PI
theorem hu_of {k : Nat} {A : Around} (hr : Room k A) : A.units + 1 < cLine := by have := hr.un; omega
theorem free_of {H H1 : Hp} {p : Addr} (S : Same H H1) (h : H1 p = none) : H p = none := by
  cases e : H p with
  | none => rfl
  | some o => rw [S _ _ e] at h; cases h
theorem ims1 {H : Hp} {xs : List V} {d : Dt} (h : Ims H xs [d]) : ∃ x, xs = [x] ∧ Im H x d := by
  cases h with
  | cons h hs => cases hs; exact ⟨_, rfl, h⟩
theorem ims2K {H : Hp} {xs : List V} {d e : Dt} (h : Ims H xs [d, e]) : ∃ x y, xs = [x, y] ∧ Im H x d ∧ Im H y e := by
  cases h with
  | cons h hs =>
    obtain ⟨y, rfl, hy⟩ := ims1 hs
    exact ⟨_, y, rfl, h, hy⟩
section
variable {i : Nat} {s w : Str} {t u : TS} {D : Ends} {σ : St} {H : Hp}
theorem tsh_no {a : Addr} {r : List V} (hv : σ[i]? = some (some (.ref a))) (ha : H a = some (.tup (.str s :: r))) (h : s ≠ w) (q : u D σ H) : tIfS (cT (tOp (cEq false) (tOp cIxT (cV i) (tC (.int 0))) (tC (.str w)))) t u D σ H := by
  show onV σ[i]? _
  rw [hv]
  refine ⟨_, ha, onS_of (atI_nat (j := 0) rfl) ?_⟩
  show if (false ^^ decide (s = w)) = true then t D σ H else u D σ H
  rw [decide_eq_false h]
  exact q
theorem tsh_yes {a : Addr} {r : List V} (hv : σ[i]? = some (some (.ref a))) (ha : H a = some (.tup (.str s :: r))) (h : s = w) (q : t D σ H) : tIfS (cT (tOp (cEq false) (tOp cIxT (cV i) (tC (.int 0))) (tC (.str w)))) t u D σ H := by
  show onV σ[i]? _
  rw [hv]
  refine ⟨_, ha, onS_of (atI_nat (j := 0) rfl) ?_⟩
  show if (false ^^ decide (s = w)) = true then t D σ H else u D σ H
  rw [decide_eq_true h]
  exact q
theorem sq_no {u' : TS} {a : Addr} {r : List V} (hv : σ[i]? = some (some (.ref a))) (ha : H a = some (.tup (.str s :: r))) (h : s ≠ w) (q : u { D with nx := u' D } σ H) : tSeq (tIfS (cT (tOp (cEq false) (tOp cIxT (cV i) (tC (.int 0))) (tC (.str w)))) t u) u' D σ H := tsh_no (D := { D with nx := u' D }) hv ha h q
theorem sq_yes {u' : TS} {a : Addr} {r : List V} (hv : σ[i]? = some (some (.ref a))) (ha : H a = some (.tup (.str s :: r))) (h : s = w) (q : t { D with nx := u' D } σ H) : tSeq (tIfS (cT (tOp (cEq false) (tOp cIxT (cV i) (tC (.int 0))) (tC (.str w)))) t u) u' D σ H := tsh_yes (D := { D with nx := u' D }) hv ha h q
end
section
variable {K : PySem.W.Frag} {mg : Str → Option Value}
noncomputable def cs (T : Txt K mg) : Cs := ⟨T.a_Make, T.a_NumUse, T.a_CallUse, T.a_TakeUse, T.a_CaseUse, T.a_RowUse, T.a_Board⟩
end
theorem im_int {H : Hp} (n : Int) : Im H (.int n) (iD n) := .flat rfl
theorem im_str {H : Hp} (s : Str) : Im H (.str s) (sD s) := .flat rfl
theorem _root_.KK.Internal.FB.new {A : Ad} {H H' : Hp} (F : FB A H H') {a : Addr} (h : H a = none) (o : HO) : FB A H (upd H' a o) := ⟨fun b u e n => by rw [upd_ne (ne_of_none e h)]; exact F.1 b u e n, fun b u e f => by rw [upd_ne (ne_of_none e h)]; exact F.2 b u e f⟩
theorem _root_.KK.Internal.FB.then {A : Ad} {H H1 H2 : Hp} (F : FB A H H1) (S : Same H1 H2) : FB A H H2 := F.trans (FB.same S)
theorem take_snocK {α : Type} {l : List α} {i : Nat} {a : α} (h : l[i]? = some a) : l.take (i + 1) = l.take i ++ [a] := by
  rw [List.take_add_one, h]
  rfl
section
variable {i : Nat} {s w : Str} {t : TS} {D : Ends} {σ : St} {H : Hp}
theorem sn_no {u' : TS} {a : Addr} {r : List V} (hv : σ[i]? = some (some (.ref a))) (ha : H a = some (.tup (.str s :: r))) (h : s ≠ w) (q : u' D σ H) : tSeq (tIfS (cT (tOp (cEq false) (tOp cIxT (cV i) (tC (.int 0))) (tC (.str w)))) t tNext) u' D σ H := sq_no hv ha h q
end
noncomputable def ptsL (b n : Nat) : List V := (List.range n).map fun k : Nat => V.int ((b : Int) + (k : Int))
theorem ptsL_len (b n : Nat) : (ptsL b n).length = n := by rw [ptsL, List.length_map, List.length_range]
theorem ptsL_at {b n k : Nat} (h : k < n) : atI (ptsL b n) (k : Int) = some (.int ((b : Int) + (k : Int))) := atI_nat (by rw [ptsL, List.getElem?_map, List.getElem?_range h]; rfl)
theorem ptsL_snoc (b n : Nat) : ptsL b (n + 1) = ptsL b n ++ [.int ((b : Int) + (n : Int))] := by rw [ptsL, List.range_succ, List.map_append]; rfl
theorem im_tup {H : Hp} {x : V} {ds : List Dt} (h : Im H x (.tup ds)) : ∃ t xs, x = .ref t ∧ H t = some (.tup xs) ∧ Ims H xs ds := by
  cases h with
  | tup e hs => exact ⟨_, _, rfl, e, hs⟩
theorem im_nI {H : Hp} {x : V} {n : Nat} (h : Im H x (nI n)) : x = .int (n : Int) := by
  unfold nI iD at h
  cases h
  rfl
theorem im_sD {H : Hp} {x : V} {s : Str} (h : Im H x (sD s)) : x = .str s := by
  unfold sD at h
  cases h
  rfl
theorem pm_at {H : Hp} {x : V} {m : Pm} (h : Im H x m.d) : ∃ t r, x = .ref t ∧ H t = some (.tup (.str m.sh :: r)) ∧ Ims H r m.rest := by
  obtain ⟨t, xs, rfl, e, hs⟩ := im_tup h
  cases hs with
  | cons h1 hs => rw [im_sD h1] at e; exact ⟨t, _, rfl, e, hs⟩
theorem pu_at {H : Hp} {x : V} {m : Pu} (h : Im H x m.d) : ∃ t r, x = .ref t ∧ H t = some (.tup (.str m.sh :: r)) ∧ Ims H r m.rest := by
  obtain ⟨t, xs, rfl, e, hs⟩ := im_tup h
  cases hs with
  | cons h1 hs => rw [im_sD h1] at e; exact ⟨t, _, rfl, e, hs⟩
theorem prN_at {H : Hp} {xs : List V} {l : List (Str × Nat)} {k : Nat} {v : V} (h : Ims H xs (l.map fun p => .tup [sD p.1, nI p.2])) (hv : xs[k]? = some v) : ∃ p t, l[k]? = some p ∧ v = .ref t ∧ H t = some (.tup [.str p.1, .int (p.2 : Int)]) := by
  obtain ⟨d, hd, im⟩ := KK.Internal.Ims.atK h hv
  rw [List.getElem?_map] at hd
  cases e : l[k]? with
  | none => rw [e] at hd; cases hd
  | some p =>
    rw [e] at hd
    cases hd
    obtain ⟨t, ys, rfl, et, hs⟩ := im_tup im
    obtain ⟨y1, y2, rfl, j1, j2⟩ := ims2K hs
    rw [im_sD j1, im_nI j2] at et
    exact ⟨p, t, rfl, rfl, et⟩
theorem mvL_snoc {b k : Nat} {l : List (Str × Nat)} {p : Str × Nat} (h : l[k]? = some p) : mvL b (l.take (k + 1)) = mvL b (l.take k) ++ [(p.1, (b : Int) + (p.2 : Int))] := by
  rw [take_snocK h, mvL, List.map_append]
  rfl
section
variable {P : Program} {w : World} {K : PySem.W.Frag} {mg : Str → Option Value} {base : Heap}
noncomputable def sp_wp : Sp := fun vs H Q _ => ∃ (x : V) (p : Addr) (l : List (Str × Nat)) (b n : Nat), vs = [x, .ref p] ∧ Im H x (prN l) ∧ l.length ≤ 4 ∧ (∀ y ∈ l, y.2 < n) ∧ H p = some (.lst (ptsL b n)) ∧ ∀ v H', Same H H' → Im H' v (prD (mvL b l)) → Q v H'
theorem ok_with_points (T : Txt K mg) : FnOk P w K mg base CX0 1 T.a_with_points T.fd_with_points ["pairs", "points"] sp_wp := by
  refine T.F_with_points.ok sc_with_points (fun vs H Q E h => ?_) (fun cdv A0 outer s H vs Q E hr h => ?_)
  · obtain ⟨x, p, l, b, n, rfl, _⟩ := h
    rfl
  obtain ⟨x, p, l, b, n, rfl, ix, l4, ln, ep, q⟩ := h
  refine ⟨_, (pss_one (ps_ret (pe_callTy call_tuple_of rfl T.z_tuple bt_tuple (pa_cons (pe_lc rfl (blkC (x := "pair") ["points"] [("points", 1, s.heap.objs.size + 1)] rfl rfl (by decide +kernel) (by decide +kernel) rfl (by decide +kernel) rfl rfl (by intro p hp; simp only [List.mem_cons, List.not_mem_nil, or_false] at hp; rcases hp with rfl <;> exact ⟨rfl, rfl, rfl, rfl⟩)) (pi_tup (cv 0)) (fun _ _ _ _ _ => pts_nil) (fun _ _ _ _ _ => (pe_tup (pa_cons (pe_ix xc_tup (cv 0) pe_int (fun _ _ => rfl)) (pa_cons (pe_ix xc_list (cv 1) (pe_ix xc_tup (cv 0) pe_int (fun _ _ => rfl)) (fun _ _ => rfl)) pa_nil))))) pa_nil)))), ?_⟩
  have sl : sizeLine = 16777216 := sizeLine_eq
  obtain ⟨t, xs, rfl, et, hs⟩ := im_tup ix
  have lx := hs.length
  rw [List.length_map] at lx
  refine ⟨t, rfl, ⟨_, SqT.of et⟩, fun D hD => ?_⟩
  refine lc_gen xs.length (by omega) (fun ys H2 => Ims H2 ys ((mvL b (l.take ys.length)).map prL)) (fun ys _ _ h k => h.mono k) hD rfl (fun k H S hk => go_tup et S hk) (fun H S => st_tup et S) .nil ?_ ?_
  · rintro k H2 v H3 ys Z S2 hk ⟨rfl, hv⟩ hys hl z
    obtain ⟨y, t', hy, rfl, et'⟩ := prN_at (hs.mono (Same.tk S2)) (hv _ (SqT.of (S2 _ _ et)))
    refine ⟨_, et', onS_of (atI_nat (j := 0) rfl) ⟨_, et', onS_of (atI_nat (j := 1) rfl) ⟨_, S2 _ _ ep, onS_of (ptsL_at (ln y (List.mem_of_getElem? hy))) ⟨(by show 2 ≤ sizeLine; decide), fun t2 h2 => ?_⟩⟩⟩⟩
    have S4 := same_new h2 (.tup [.str y.1, .int ((b : Int) + (y.2 : Int))])
    refine z _ _ S4 ?_
    rw [List.length_append, List.length_singleton, hl, mvL_snoc hy, List.map_append]
    rw [hl] at hys
    exact (hys.mono (Same.tk S4)).app (.cons (im_newK h2 (.cons (im_str _) (.cons (im_int _) .nil))) .nil)
  · rintro H2 ys S2 hys hl eD
    rw [hl, lx, List.take_length] at hys
    refine ⟨D, ys, rfl, .inl ⟨SqL.of eD, fun tp htp => ?_⟩⟩
    exact q _ _ (S2.trans (same_new htp _)) (im_newK htp hys)
noncomputable def sp_parts : Sp := fun vs H Q _ => ∃ (x : V) (o i : Addr) (m : Pm) (b c no ni : Nat), vs = [x, .ref o, .ref i] ∧ Im H x m.d ∧ m.ok no ni ∧ H o = some (.lst (ptsL b no)) ∧ H i = some (.lst (ptsL c ni)) ∧ ∀ v H', Same H H' → Im H' v (m.parts b c) → Q v H'
theorem ok_parts_made (T : Txt K mg) : FnOk P w K mg base CX0 2 T.a_parts_made T.fd_parts_made ["making", "outs", "ins"] sp_parts := by
  have G_with_points := ok_with_points (P := P) (w := w) (base := base) T
  refine T.F_parts_made.ok sc_parts_made (fun vs H Q E h => ?_) (fun cdv A0 outer s H vs Q E hr h => ?_)
  · obtain ⟨x, o, i, m, b, c, no, ni, rfl, _⟩ := h
    rfl
  obtain ⟨x, o, i, m, b, c, no, ni, rfl, ix, ok, eo, ei, q⟩ := h
  refine ⟨_, (pss_cons (ps_if (ptc_cmpR oc_eq (pe_ix xc_tup (cv 0) pe_int (fun _ _ => rfl)) pe_str (nomark _))
      (pss_one (ps_ret (pe_tup (pa_cons (pe_ix xc_list (cv 2) (pe_ix xc_tup (cv 0) pe_int (fun _ _ => rfl)) (fun _ _ => rfl)) (pa_cons (pe_ix xc_list (cv 1) (pe_ix xc_tup (cv 0) pe_int (fun _ _ => rfl)) (fun _ _ => rfl)) pa_nil)))))
      pss_nil)
    (pss_cons (ps_if (ptc_cmpR oc_eq (pe_ix xc_tup (cv 0) pe_int (fun _ _ => rfl)) pe_str (nomark _))
      (pss_one (ps_ret (pe_call G_with_points (hr.mono (by decide)) rfl T.m_with_points T.k_with_points T.b_with_points .nil pass0 (pa_cons (pe_ix xc_tup (cv 0) pe_int (fun _ _ => rfl)) (pa_cons (cv 1) pa_nil)))))
      pss_nil)
    (pss_cons (ps_if (ptc_cmpR oc_eq (pe_ix xc_tup (cv 0) pe_int (fun _ _ => rfl)) pe_str (nomark _))
      (pss_one (ps_ret (pe_tup (pa_cons (pe_ix xc_tup (cv 0) pe_int (fun _ _ => rfl)) (pa_cons (pe_ix xc_list (cv 1) (pe_ix xc_tup (cv 0) pe_int (fun _ _ => rfl)) (fun _ _ => rfl)) pa_nil)))))
      pss_nil)
    (pss_cons (ps_if (ptc_cmpR oc_eq (pe_ix xc_tup (cv 0) pe_int (fun _ _ => rfl)) pe_str (nomark _))
      (pss_one (ps_ret (pe_tup (pa_cons (pe_ix xc_list (cv 1) (pe_ix xc_tup (cv 0) pe_int (fun _ _ => rfl)) (fun _ _ => rfl)) pa_nil))))
      pss_nil)
    (pss_one (ps_ret (pe_tup pa_nil))))))), ?_⟩
  have sl : sizeLine = 16777216 := sizeLine_eq
  obtain ⟨t, r, rfl, e, hs⟩ := pm_at ix
  cases m with
  | num =>
    replace e : H t = some (.tup (.str "num" :: r)) := e
    refine sn_no rfl e (by decide +kernel) (sn_no rfl e (by decide +kernel) (sn_no rfl e (by decide +kernel) (sn_no rfl e (by decide +kernel) ?_)))
    exact ⟨(by show 0 ≤ sizeLine; decide), fun t0 h0 => q _ _ (same_new h0 _) (im_newK h0 .nil)⟩
  | any =>
    replace e : H t = some (.tup (.str "any" :: r)) := e
    refine sn_no rfl e (by decide +kernel) (sn_no rfl e (by decide +kernel) (sn_no rfl e (by decide +kernel) (sn_no rfl e (by decide +kernel) ?_)))
    exact ⟨(by show 0 ≤ sizeLine; decide), fun t0 h0 => q _ _ (same_new h0 _) (im_newK h0 .nil)⟩
  | fn x y =>
    obtain ⟨v1, v2, rfl, j1, j2⟩ := ims2K hs
    rw [im_nI j1, im_nI j2] at e
    replace e : H t = some (.tup [.str "fn", .int (x : Int), .int (y : Int)]) := e
    refine sq_yes rfl e rfl ?_
    exact ⟨_, e, onS_of (atI_nat (j := 1) rfl) ⟨_, ei, onS_of (ptsL_at ok.1) ⟨_, e, onS_of (atI_nat (j := 2) rfl) ⟨_, eo, onS_of (ptsL_at ok.2) ⟨(by show 2 ≤ sizeLine; decide), fun t0 h0 => q _ _ (same_new h0 _) (im_newK h0 (.cons (im_int _) (.cons (im_int _) .nil)))⟩⟩⟩⟩⟩
  | rcd l =>
    obtain ⟨v1, rfl, j1⟩ := ims1 hs
    replace e : H t = some (.tup [.str "rec", v1]) := e
    refine sn_no rfl e (by decide +kernel) (sq_yes rfl e rfl ?_)
    exact ⟨_, e, onS_of (atI_nat (j := 1) rfl) ⟨v1, o, l, b, no, rfl, j1, ok.1, ok.2, eo, q⟩⟩
  | tag z y =>
    obtain ⟨v1, v2, rfl, j1, j2⟩ := ims2K hs
    rw [im_sD j1, im_nI j2] at e
    replace e : H t = some (.tup [.str "tag", .str z, .int (y : Int)]) := e
    refine sn_no rfl e (by decide +kernel) (sn_no rfl e (by decide +kernel) (sq_yes rfl e rfl ?_))
    exact ⟨_, e, onS_of (atI_nat (j := 1) rfl) ⟨_, e, onS_of (atI_nat (j := 2) rfl) ⟨_, eo, onS_of (ptsL_at ok) ⟨(by show 2 ≤ sizeLine; decide), fun t0 h0 => q _ _ (same_new h0 _) (im_newK h0 (.cons (im_str _) (.cons (im_int _) .nil)))⟩⟩⟩⟩
  | row y =>
    obtain ⟨v1, rfl, j1⟩ := ims1 hs
    rw [im_nI j1] at e
    replace e : H t = some (.tup [.str "row", .int (y : Int)]) := e
    refine sn_no rfl e (by decide +kernel) (sn_no rfl e (by decide +kernel) (sn_no rfl e (by decide +kernel) (sq_yes rfl e rfl ?_)))
    exact ⟨_, e, onS_of (atI_nat (j := 1) rfl) ⟨_, eo, onS_of (ptsL_at ok) ⟨(by show 1 ≤ sizeLine; decide), fun t0 h0 => q _ _ (same_new h0 _) (im_newK h0 (.cons (im_int _) .nil))⟩⟩⟩
noncomputable def sp_um (c : Cs) : Sp := fun vs H Q _ => ∃ (x : V) (a p : Int) (o i : Addr) (u : Pu) (b d no ni : Nat), vs = [x, .int a, .int p, .ref o, .ref i] ∧ Im H x u.d ∧ u.ok no ni ∧ H o = some (.lst (ptsL b no)) ∧ H i = some (.lst (ptsL d ni)) ∧ ∀ v H', Same H H' → UsAt c H' v (u.us b d a p) → Q v H'
theorem ok_use_made (T : Txt K mg) : FnOk P w K mg base CX0 4 T.a_use_made T.fd_use_made ["one", "at", "place", "outs", "ins"] (sp_um (cs T)) := by
  have G_with_points := ok_with_points (P := P) (w := w) (base := base) T
  have G_Use___init__ := ok_Use___init__ (P := P) (w := w) (base := base) T
  have G_CallUse___init__ := ok_CallUse___init__ (P := P) (w := w) (base := base) T
  have G_TakeUse___init__ := ok_TakeUse___init__ (P := P) (w := w) (base := base) T
  have G_CaseUse___init__ := ok_CaseUse___init__ (P := P) (w := w) (base := base) T
  have G_RowUse___init__ := ok_RowUse___init__ (P := P) (w := w) (base := base) T
  refine T.F_use_made.ok sc_use_made (fun vs H Q E h => ?_) (fun cdv A0 outer s H vs Q E hr h => ?_)
  · obtain ⟨x, a, p, o, i, u, b, d, no, ni, rfl, _⟩ := h
    rfl
  obtain ⟨x, a, p, o, i, u, b, d, no, ni, rfl, ix, ok, eo, ei, q⟩ := h
  refine ⟨_, (pss_cons (ps_if (ptc_cmpR oc_eq (pe_ix xc_tup (cv 0) pe_int (fun _ _ => rfl)) pe_str (nomark _))
      (pss_one (ps_ret (pe_make T.mk_CallUse G_CallUse___init__ (hr.mono (by decide)) rfl T.m_CallUse T.b_CallUse___init__ .nil pass0 (pa_cons (cv 1) (pa_cons (cv 2) (pa_cons pe_int (pa_cons (pe_ix xc_list (cv 3) (pe_ix xc_tup (cv 0) pe_int (fun _ _ => rfl)) (fun _ _ => rfl)) (pa_cons (pe_ix xc_list (cv 4) (pe_ix xc_tup (cv 0) pe_int (fun _ _ => rfl)) (fun _ _ => rfl)) pa_nil))))))))
      pss_nil)
    (pss_cons (ps_if (ptc_cmpR oc_eq (pe_ix xc_tup (cv 0) pe_int (fun _ _ => rfl)) pe_str (nomark _))
      (pss_one (ps_ret (pe_make T.mk_TakeUse G_TakeUse___init__ (hr.mono (by decide)) rfl T.m_TakeUse T.b_TakeUse___init__ .nil pass0 (pa_cons (cv 1) (pa_cons (cv 2) (pa_cons pe_int (pa_cons (pe_call G_with_points (hr.mono (by decide)) rfl T.m_with_points T.k_with_points T.b_with_points .nil pass0 (pa_cons (pe_ix xc_tup (cv 0) pe_int (fun _ _ => rfl)) (pa_cons (cv 4) pa_nil))) pa_nil)))))))
      pss_nil)
    (pss_cons (ps_if (ptc_cmpR oc_eq (pe_ix xc_tup (cv 0) pe_int (fun _ _ => rfl)) pe_str (nomark _))
      (pss_one (ps_ret (pe_make T.mk_CaseUse G_CaseUse___init__ (hr.mono (by decide)) rfl T.m_CaseUse T.b_CaseUse___init__ .nil pass0 (pa_cons (cv 1) (pa_cons (cv 2) (pa_cons pe_int (pa_cons (pe_call G_with_points (hr.mono (by decide)) rfl T.m_with_points T.k_with_points T.b_with_points .nil pass0 (pa_cons (pe_ix xc_tup (cv 0) pe_int (fun _ _ => rfl)) (pa_cons (cv 4) pa_nil))) pa_nil)))))))
      pss_nil)
    (pss_cons (ps_if (ptc_cmpR oc_eq (pe_ix xc_tup (cv 0) pe_int (fun _ _ => rfl)) pe_str (nomark _))
      (pss_one (ps_ret (pe_make T.mk_RowUse G_RowUse___init__ (hr.mono (by decide)) rfl T.m_RowUse T.b_RowUse___init__ .nil pass0 (pa_cons (cv 1) (pa_cons (cv 2) (pa_cons pe_int (pa_cons (pe_ix xc_list (cv 4) (pe_ix xc_tup (cv 0) pe_int (fun _ _ => rfl)) (fun _ _ => rfl)) pa_nil)))))))
      pss_nil)
    (pss_one (ps_ret (pe_make T.mk_NumUse G_Use___init__ (hr.mono (by decide)) rfl T.m_NumUse T.b_Use___init__ .nil pass0 (pa_cons (cv 1) (pa_cons (cv 2) (pa_cons pe_int pa_nil)))))))))), ?_⟩
  have sl : sizeLine = 16777216 := sizeLine_eq
  obtain ⟨t, r, rfl, e, hs⟩ := pu_at ix
  cases u with
  | num =>
    replace e : H t = some (.tup (.str "num" :: r)) := e
    refine sn_no rfl e (by decide +kernel) (sn_no rfl e (by decide +kernel) (sn_no rfl e (by decide +kernel) (sn_no rfl e (by decide +kernel) ?_)))
    refine fun x dx hx hdx nx => ⟨x, _, dx, _, _, _, rfl, upd_same, T.cl_NumUse, T.n_NumUse_at, T.n_NumUse_place, T.n_NumUse_slot, rfl, ?_⟩
    rw [upd_upd]
    exact q _ _ (same_make hx hdx) ⟨x, dx, rfl, upd_same⟩
  | call y z =>
    obtain ⟨v1, v2, rfl, j1, j2⟩ := ims2K hs
    rw [im_nI j1, im_nI j2] at e
    replace e : H t = some (.tup [.str "call", .int (y : Int), .int (z : Int)]) := e
    refine sq_yes rfl e rfl ?_
    refine ⟨_, e, onS_of (atI_nat (j := 1) rfl) ⟨_, eo, onS_of (ptsL_at ok.1) ⟨_, e, onS_of (atI_nat (j := 2) rfl) ⟨_, ei, onS_of (ptsL_at ok.2) fun x dx hx hdx nx => ⟨x, dx, _, _, _, _, _, rfl, upd_same, rfl, ?_⟩⟩⟩⟩⟩
    rw [upd_upd]
    exact q _ _ (same_make hx hdx) ⟨x, dx, rfl, upd_same⟩
  | take l =>
    obtain ⟨v1, rfl, j1⟩ := ims1 hs
    replace e : H t = some (.tup [.str "take", v1]) := e
    refine sn_no rfl e (by decide +kernel) (sq_yes rfl e rfl ?_)
    refine ⟨_, e, onS_of (atI_nat (j := 1) rfl) ⟨v1, i, l, d, ni, rfl, j1, ok.1, ok.2, ei, fun v H3 S3 I3 x dx hx hdx nx => ⟨x, dx, _, _, _, _, rfl, upd_same, rfl, ?_⟩⟩⟩
    rw [upd_upd]
    exact q _ _ (S3.trans (same_make hx hdx)) ⟨x, dx, v, rfl, upd_same, I3.mono (Same.tk (same_make hx hdx)), by rw [mvL, List.length_map]; have := ok.1; omega⟩
  | case l =>
    obtain ⟨v1, rfl, j1⟩ := ims1 hs
    replace e : H t = some (.tup [.str "case", v1]) := e
    refine sn_no rfl e (by decide +kernel) (sn_no rfl e (by decide +kernel) (sq_yes rfl e rfl ?_))
    refine ⟨_, e, onS_of (atI_nat (j := 1) rfl) ⟨v1, i, l, d, ni, rfl, j1, ok.1, ok.2, ei, fun v H3 S3 I3 x dx hx hdx nx => ⟨x, dx, _, _, _, _, rfl, upd_same, rfl, ?_⟩⟩⟩
    rw [upd_upd]
    exact q _ _ (S3.trans (same_make hx hdx)) ⟨x, dx, v, rfl, upd_same, I3.mono (Same.tk (same_make hx hdx)), by rw [mvL, List.length_map]; have := ok.1; omega⟩
  | row y =>
    obtain ⟨v1, rfl, j1⟩ := ims1 hs
    rw [im_nI j1] at e
    replace e : H t = some (.tup [.str "row", .int (y : Int)]) := e
    refine sn_no rfl e (by decide +kernel) (sn_no rfl e (by decide +kernel) (sn_no rfl e (by decide +kernel) (sq_yes rfl e rfl ?_)))
    refine ⟨_, e, onS_of (atI_nat (j := 1) rfl) ⟨_, ei, onS_of (ptsL_at ok) fun x dx hx hdx nx => ⟨x, dx, _, _, _, _, rfl, upd_same, rfl, ?_⟩⟩⟩
    rw [upd_upd]
    exact q _ _ (same_make hx hdx) ⟨x, dx, rfl, upd_same⟩
end
end K25.Internal
namespace K25.Internal
open PySem L2.Internal BO.Internal KK.Internal
seal L2.Internal.PE L2.Internal.PA L2.Internal.PS L2.Internal.PSs L2.Internal.PT L2.Internal.PI
theorem for_zip {K : PySem.W.Frag} {a b : Addr} {xs ys : List V} {g : TG} {tb : TS} {D : Ends} {σ : St} {H : Hp} (Pv : Nat → St → Hp → Prop) (h0 : Pv 0 σ H) (hl : ∀ i σ H, i ≤ xs.length → Pv i σ H → SqL K H a xs ∧ SqL K H b ys) (hn : ys.length = xs.length)
    (hs : ∀ (i : Nat) (x y : V) (σ : St) (H : Hp) (T : Addr), xs[i]? = some x → ys[i]? = some y → Pv i σ H → H T = none → g (.ref T) σ (upd H T (.tup [x, y])) fun σ2 H2 => tb { D with nx := Pv (i + 1), ct := Pv (i + 1), bk := D.nx } σ2 H2) (hd : ∀ σ H, Pv xs.length σ H → D.nx σ H) :
    ∃ W : Nat → Nat → St → Hp → Prop, (∃ m, W 0 m σ H) ∧ ∀ i m σ H, W i m σ H →
      ((Itz K a b).stop i H ∧ D.nx σ H) ∨ ((Itz K a b).go i H ∧ ∃ N : St → Hp → Prop, (∀ σ' H', N σ' H' → ∃ m', m' < m ∧ W (i + 1) m' σ' H') ∧ ∀ x H', (Itz K a b).yld i H x H' → g x σ H' fun σ2 H2 => tb { D with nx := N, ct := N, bk := D.nx } σ2 H2) := by
  refine ⟨fun i m σ H => m = xs.length - i ∧ i ≤ xs.length ∧ Pv i σ H, ⟨xs.length, by simp, Nat.zero_le _, h0⟩, ?_⟩
  rintro i m σ H ⟨rfl, hi, p⟩
  obtain ⟨q1, q2⟩ := hl i σ H hi p
  by_cases hlt : i < xs.length
  · refine .inr ⟨⟨xs, ys, xs[i], ys[i]'(by omega), q1, q2, by simp [hlt], List.getElem?_eq_getElem (by omega)⟩, Pv (i + 1), fun σ' H' p' => ⟨xs.length - (i + 1), by omega, rfl, hlt, p'⟩, fun v H' y => ?_⟩
    obtain ⟨T, x, y, rfl, hT, rfl, hx, hy⟩ := y
    exact hs i x y σ H T (hx xs q1) (hy ys q2) p hT
  · have e : i = xs.length := by omega
    subst e
    exact .inl ⟨⟨xs, ys, q1, q2, by omega⟩, hd σ H p⟩

noncomputable def fP (o i f : Addr) : List (Str × V) := [("outs", .ref o), ("ins", .ref i), ("flows", .ref f)]
theorem fP_outs (o i f : Addr) : (fP o i f).lookup ("outs" : Str) = some (.ref o) := by
  unfold fP
  rw [List.lookup_cons, show (("outs" : Str) == "outs") = true by decide +kernel]
theorem fP_ins (o i f : Addr) : (fP o i f).lookup ("ins" : Str) = some (.ref i) := by
  unfold fP
  rw [List.lookup_cons, show (("ins" : Str) == "outs") = false by decide +kernel, List.lookup_cons, show (("ins" : Str) == "ins") = true by decide +kernel]
theorem fP_flows (o i f : Addr) : (fP o i f).lookup ("flows" : Str) = some (.ref f) := by
  unfold fP
  rw [List.lookup_cons, show (("flows" : Str) == "outs") = false by decide +kernel, List.lookup_cons, show (("flows" : Str) == "ins") = false by decide +kernel, List.lookup_cons, show (("flows" : Str) == "flows") = true by decide +kernel]
theorem fP_mk (o i f : Addr) : putF "flows" (.ref f) (putF "ins" (.ref i) (putF "outs" (.ref o) [])) = fP o i f := by
  have h1 : ¬ ("outs" : Str) = "ins" := by decide +kernel
  have h2 : ¬ ("outs" : Str) = "flows" := by decide +kernel
  have h3 : ¬ ("ins" : Str) = "flows" := by decide +kernel
  simp only [putF, if_neg h1, if_neg h2, if_neg h3, fP]
noncomputable def flN2 (p : Nat × Nat) : Dt := .tup [nI p.1, nI p.2]
noncomputable def outD (l : List Pm) : Dt := .tup (l.map Pm.d)
noncomputable def inD (l : List Pu) : Dt := .tup (l.map Pu.d)
structure L3 (H : Hp) (o i f : Addr) (P : Pp) : Prop where
  o : ∃ xs, H o = some (.lst xs) ∧ Ims H xs (P.outs.map outD)
  i : ∃ xs, H i = some (.lst xs) ∧ Ims H xs (P.ins.map inD)
  f : ∃ xs, H f = some (.lst xs) ∧ Ims H xs (P.fls.map flN2)
theorem L3.fr {H H' : Hp} {o i f : Addr} {P : Pp} (h : L3 H o i f P) (k : ∀ a ∈ [o, i, f], ∀ xs, H a = some (.lst xs) → H' a = some (.lst xs)) (tk : TK H H') : L3 H' o i f P := by
  obtain ⟨⟨x, h1, h2⟩, ⟨y, h3, h4⟩, ⟨z, h5, h6⟩⟩ := h
  exact ⟨⟨x, k _ (by simp) _ h1, h2.mono tk⟩, ⟨y, k _ (by simp) _ h3, h4.mono tk⟩, ⟨z, k _ (by simp) _ h5, h6.mono tk⟩⟩
theorem L3.same {H H' : Hp} {o i f : Addr} {P : Pp} (h : L3 H o i f P) (s : Same H H') : L3 H' o i f P := h.fr (fun a _ xs e => s _ _ e) (Same.tk s)
theorem L3.fb {H H' : Hp} {A : Ad} {o i f : Addr} {P : Pp} (h : L3 H o i f P) (F : FB A H H') (n : ∀ a ∈ [o, i, f], a ∉ A.ls) : L3 H' o i f P := h.fr (fun a ha xs e => F.1 _ _ e (n a ha)) F.2.tk
noncomputable def PapAt (C : Addr) (H : Hp) (x o i f : Addr) : Prop := ∃ dx, H x = some (.ins C dx (fP o i f))
theorem PapAt.fk {C : Addr} {H H' : Hp} {x o i f : Addr} (h : PapAt C H x o i f) (k : FK H H') : PapAt C H' x o i f := by
  obtain ⟨dx, e⟩ := h
  exact ⟨dx, k _ _ e (.inl (by show 3 ≠ 5; decide))⟩
theorem _root_.KK.Internal.Bw.made {c : Cs} {H : Hp} {A : Ad} {r : V} {D : Bd} (B : Bw c H A r D) {x dx : Addr} {mv : List V} {f : V} (hx : H x = none) (hdx : H dx = none) (e : H A.p1 = some (.lst mv)) {s : Str} {d : Dt} {a p : Int} (hf : Im H f d) (hd : depD d ≤ 2) (ho : okD d) :
    Bw c (upd (upd (upd H dx (.own x)) x (.ins c.M dx (fM (.str s) f (.int a) (.int p)))) A.p1 (.lst (mv ++ [.ref x]))) A r { D with mks := D.mks ++ [⟨s, d, a, p⟩] } ∧ FB A H (upd (upd (upd H dx (.own x)) x (.ins c.M dx (fM (.str s) f (.int a) (.int p)))) A.p1 (.lst (mv ++ [.ref x]))) := by
  have S := same_make (o := .ins c.M dx (fM (.str s) f (.int a) (.int p))) hx hdx
  have M : MkAt c (upd (upd H dx (.own x)) x (.ins c.M dx (fM (.str s) f (.int a) (.int p)))) (.ref x) ⟨s, d, a, p⟩ := ⟨x, dx, f, rfl, upd_same, hf.mono (Same.tk S), hd, ho⟩
  exact ⟨(B.same S).addM (S _ _ e) M, (FB.same S).trans (FB.upd (by simp [Ad.ls]) (S _ _ e))⟩
theorem parts_ok {m : Pm} {b i no ni : Nat} (h : m.ok no ni) : depD (m.parts b i) ≤ 2 ∧ okD (m.parts b i) := by
  cases m with
  | num => simp [Pm.parts, depD, depDs, okD, okDs]
  | any => simp [Pm.parts, depD, depDs, okD, okDs]
  | fn x y => simp [Pm.parts, iD, depD, depDs, okD, okDs]
  | rcd l => exact ⟨prD_dep _, prD_ok (by rw [mvL, List.length_map]; have := h.1; omega)⟩
  | tag z y => simp [Pm.parts, iD, sD, depD, depDs, okD, okDs]
  | row y => simp [Pm.parts, iD, depD, depDs, okD, okDs]
theorem ptsR (D : Bd) (n : Nat) (pl : Int) : (D.pts ++ List.replicate n pl).length = D.pts.length + n := by rw [List.length_append, List.length_replicate]
section
variable {P : Program} {w : World} {K : PySem.W.Frag} {mg : Str → Option Value} {base : Heap}
noncomputable def sp_Paper (C : Addr) : Sp := fun vs H Q _ => ∃ (x dx o i f : Addr), vs = [.ref x, .ref o, .ref i, .ref f] ∧ H x = some (.ins C dx []) ∧ Q .non (upd H x (.ins C dx (fP o i f)))
theorem ok_Paper___init__ (T : Txt K mg) : FnOk P w K mg base CX0 1 T.a_Paper___init__ T.fd_Paper___init__ ["self", "outs", "ins", "flows"] (sp_Paper T.a_Paper) := by
  refine T.F_Paper___init__.ok sc_Paper___init__ (fun vs H Q E h => ?_) (fun cdv A outer s H vs Q E hr h => ?_)
  · obtain ⟨x, dx, o, i, f, rfl, _⟩ := h
    rfl
  obtain ⟨x, dx, o, i, f, rfl, hx, q⟩ := h
  refine ⟨_, (pss_cons (ps_fld (pv 0) (pv 1) rfl)
    (pss_cons (ps_fld (pv 0) (pv 2) rfl)
    (pss_one (ps_fld (pv 0) (pv 3) rfl)))), ?_⟩
  refine ⟨_, rfl, _, rfl, x, _, dx, _, rfl, hx, T.cl_Paper, T.n_Paper_outs, (by show 0 < 1000; decide), ?_⟩
  refine ⟨_, rfl, _, rfl, x, _, dx, _, rfl, upd_same, T.cl_Paper, T.n_Paper_ins, (by show 1 < 1000; decide), ?_⟩
  refine ⟨_, rfl, _, rfl, x, _, dx, _, rfl, upd_same, T.cl_Paper, T.n_Paper_flows, len_put (len_put (by show 0 < 998; decide)), ?_⟩
  rw [upd_upd, upd_upd, fP_mk]
  exact q
noncomputable def sp_np (c : Cs) : Sp := fun vs H Q _ => ∃ (A : Ad) (r : V) (D : Bd) (n : Nat) (pl : Int), vs = [.ref A.b, .int (n : Int), .int pl] ∧ Bw c H A r D ∧ n ≤ 8 ∧ D.pts.length ≤ 1000 ∧ ∀ l H', FB A H H' → H l = none → l ∉ A.ls → H' l = some (.lst (ptsL D.pts.length n)) → Bw c H' A r { D with pts := D.pts ++ List.replicate n pl } → Q (.ref l) H'
theorem ok_new_points (T : Txt K mg) : FnOk P w K mg base CX0 2 T.a_new_points T.fd_new_points ["board", "count", "place"] (sp_np (cs T)) := by
  have G_Board_point := ok_Board_point (P := P) (w := w) (base := base) T
  refine T.F_new_points.ok sc_new_points (fun vs H Q E h => ?_) (fun cdv A0 outer s H vs Q E hr h => ?_)
  · obtain ⟨A, r, D, n, pl, rfl, _⟩ := h
    rfl
  obtain ⟨A, r, D, n, pl, rfl, B, n8, sm, q⟩ := h
  refine ⟨_, (pss_cons (ps_set (i := 3) sc_new_points.nd rfl (Or.inl rfl) (pe_lst pa_nil))
    (pss_cons (ps_for PassesOwn.never rfl (pi_range1 rfl T.z_range (pa_cons (cv 1) pa_nil)) (pg_name (i := 4) sc_new_points.nd rfl (Or.inl rfl))
      (pss_one (ps_expr (pec_app (pe_bm PySem.F.plainAttrs_list PySem.F.slot_list_append PySem.F.type_list_append mt_append (PE.mono (cv 3)) (pa_cons (PE.mono (pec_meth (pe_meth (PE.mono (cv 0)) T.cl_Board T.me_Board_point G_Board_point (hr.mono (by decide)) T.b_Board_point .nil pass0 (pa_cons (cv 2) pa_nil)))) pa_nil))))))
    (pss_one (ps_ret (cv 3))))), ?_⟩
  have sl : sizeLine = 16777216 := sizeLine_eq
  refine ⟨(by show 0 ≤ sizeLine; decide), fun l hl => ?_⟩
  have nl := B.out hl
  have B0 := B.same (same_new hl (.lst []))
  have F0 : FB A H (upd H l (.lst [])) := FB.same (same_new hl _)
  have e0 : (upd H l (.lst [])) l = some (.lst []) := upd_same
  dsimp only [gName]
  generalize upd H l (.lst []) = H0 at B0 F0 e0 ⊢
  refine ⟨(n : Int), rfl, by omega, by omega, for_range (fun k σ H2 => ∃ o4 : Option V, σ = [some (.ref A.b), some (.int (n : Int)), some (.int pl), some (.ref l), o4] ∧ k ≤ 8 ∧ FB A H H2 ∧ H2 l = some (.lst (ptsL D.pts.length k)) ∧ Bw (cs T) H2 A r { D with pts := D.pts ++ List.replicate k pl })
    ⟨none, rfl, by omega, F0, e0, by rw [List.replicate_zero, List.append_nil]; exact B0⟩ ?_ ?_⟩
  · rintro k σ H2 hk ⟨o4, rfl, k8, F2, e2, B2⟩
    rw [Int.toNat_natCast] at hk
    have lp : (D.pts ++ List.replicate k pl).length = D.pts.length + k := ptsR D k pl
    dsimp only [gName]
    refine ⟨⟨_, e2⟩, ⟨_, _, B2.b, fB_no_point _ _ _ _ _⟩, A.b, A.bx, A.p0, A.p1, A.p2, A.p3, r, .int pl, _, rfl, B2.b, B2.e0, by rw [List.length_map]; show (D.pts ++ List.replicate k pl).length < _; omega, ?_⟩
    have B3 := B2.pt pl
    have F3 := FB.upd (A := A) (ys := ({ D with pts := D.pts ++ List.replicate k pl } : Bd).pts.map V.int ++ [.int pl]) (by simp [Ad.ls]) B2.e0
    have e3 := F3.1 _ _ e2 nl
    rw [List.length_map]
    show ∃ xs, _ ∧ _
    refine ⟨_, e3, by rw [ptsL_len]; omega, _, rfl, by omega, ?_, ?_, ?_⟩
    · refine ⟨fun a o e n => ?_, fun a o e f => ?_⟩
      · rw [upd_ne (ne_of_none e hl)]
        exact F3.1 a o (F2.1 a o e n) n
      · rw [upd_ne (ne_of_none e hl)]
        exact F3.2 a o (F2.2 a o e f) f
    · rw [upd_same, ptsL_snoc]
      show some (HO.lst (_ ++ [V.int (((D.pts ++ List.replicate k pl).length : Nat) : Int)])) = _
      rw [lp]
      rfl
    · have B4 := B3.other (ys := ptsL D.pts.length k ++ [.int (((D.pts ++ List.replicate k pl).length : Nat) : Int)]) e3 nl
      rw [List.replicate_succ', ← List.append_assoc]
      exact B4
  · rintro σ H2 ⟨o4, rfl, k8, F2, e2, B2⟩
    rw [Int.toNat_natCast] at e2 B2
    exact q l H2 F2 hl nl e2 B2
end
end K25.Internal
namespace K25.Internal
open PySem L2.Internal BO.Internal KK.Internal
seal L2.Internal.PE L2.Internal.PA L2.Internal.PS L2.Internal.PSs L2.Internal.PT L2.Internal.PI
theorem ims_at {H : Hp} {α : Type} {f : α → Dt} {xs : List V} {l : List α} {k : Nat} {v : V} (h : Ims H xs (l.map f)) (hv : xs[k]? = some v) : ∃ a, l[k]? = some a ∧ Im H v (f a) := by
  obtain ⟨d, hd, im⟩ := KK.Internal.Ims.atK h hv
  rw [List.getElem?_map] at hd
  cases e : l[k]? with
  | none => rw [e] at hd; cases hd
  | some p =>
    rw [e] at hd
    cases hd
    exact ⟨p, rfl, im⟩
theorem ptsL_get {b n k : Nat} {v : V} (h : (ptsL b n)[k]? = some v) : v = .int ((b : Int) + (k : Int)) ∧ k < n := by
  have hk : k < n := by
    have := (List.getElem?_eq_some_iff.mp h).1
    rw [ptsL_len] at this
    exact this
  rw [ptsL, List.getElem?_map, List.getElem?_range hk] at h
  cases h
  exact ⟨rfl, hk⟩
noncomputable def Sz (D : Bd) (n : Nat) : Prop := D.pts.length ≤ n ∧ D.mks.length ≤ 100 * n ∧ D.uss.length ≤ 100 * n ∧ D.fls.length ≤ 100 * n
theorem sz_paste {Pq : Pp} {pl : Int} {D : Bd} {n : Nat} (h : Sz D n) (ok : Pq.ok) : Sz (paste Pq pl D) (n + 16) := by
  obtain ⟨h1, h2, h3, h4⟩ := h
  have a1 := ok.o8
  have a2 := ok.i8
  have a3 := mkA_len D.pts.length (D.pts.length + Pq.outs.length) pl 0 Pq.outs fun x hx => (ok.om x hx).1
  have a4 := usA_len D.pts.length (D.pts.length + Pq.outs.length) pl 0 Pq.ins fun x hx => (ok.iu x hx).1
  have a5 := ok.ff.1
  refine ⟨?_, ?_, ?_, ?_⟩
  · show (D.pts ++ List.replicate _ pl).length ≤ _
    rw [ptsR]
    omega
  · show (D.mks ++ mkA _ _ _ _ _).length ≤ _
    rw [List.length_append]
    omega
  · show (D.uss ++ usA _ _ _ _ _).length ≤ _
    rw [List.length_append]
    omega
  · show (D.fls ++ Pq.fls.map _).length ≤ _
    rw [List.length_append, List.length_map]
    omega
section
variable {P : Program} {w : World} {K : PySem.W.Frag} {mg : Str → Option Value} {base : Heap}
noncomputable def sp_paste (c : Cs) (C : Addr) : Sp := fun vs H Q _ => ∃ (A : Ad) (r : V) (D : Bd) (x o i f : Addr) (Pq : Pp) (pl : Int) (n : Nat), vs = [.ref A.b, .ref x, .int pl] ∧ Bw c H A r D ∧ PapAt C H x o i f ∧ L3 H o i f Pq ∧ (∀ a ∈ [o, i, f], a ∉ A.ls) ∧ Pq.ok ∧ Sz D n ∧ n ≤ 900 ∧ ∀ H', FB A H H' → Bw c H' A r (paste Pq pl D) → Q (.int D.pts.length) H'
theorem ok_pasted (T : Txt K mg) : FnOk P w K mg base CX0 5 T.a_pasted T.fd_pasted ["board", "paper", "place"] (sp_paste (cs T) T.a_Paper) := by
  have G_new_points := ok_new_points (P := P) (w := w) (base := base) T
  have G_parts_made := ok_parts_made (P := P) (w := w) (base := base) T
  have G_use_made := ok_use_made (P := P) (w := w) (base := base) T
  have G_Board_make := ok_Board_make (P := P) (w := w) (base := base) T
  have G_Board_use := ok_Board_use (P := P) (w := w) (base := base) T
  have G_Board_flow := ok_Board_flow (P := P) (w := w) (base := base) T
  refine T.F_pasted.ok sc_pasted (fun vs H Q E h => ?_) (fun cdv A0 outer s H vs Q E hr h => ?_)
  · obtain ⟨A, r, D, x, o, i, f, Pq, pl, n, rfl, _⟩ := h
    rfl
  obtain ⟨A, r, D, x, o, i, f, Pq, pl, n, rfl, B, Px, L, nA, ok, sz0, n9, q⟩ := h
  refine ⟨_, (pss_cons (ps_set (i := 3) sc_pasted.nd rfl (Or.inl rfl) (pe_call G_new_points (hr.mono (by decide)) rfl T.m_new_points T.k_new_points T.b_new_points .nil pass0 (pa_cons (cv 0) (pa_cons (pe_callB call_len_seq rfl T.z_len bt_len (pa_cons (pec_fld T.cl_Paper T.n_Paper_outs (cv 1)) pa_nil)) (pa_cons (cv 2) pa_nil)))))
    (pss_cons (ps_set (i := 4) sc_pasted.nd rfl (Or.inl rfl) (pe_call G_new_points (hr.mono (by decide)) rfl T.m_new_points T.k_new_points T.b_new_points .nil pass0 (pa_cons (cv 0) (pa_cons (pe_callB call_len_seq rfl T.z_len bt_len (pa_cons (pec_fld T.cl_Paper T.n_Paper_ins (cv 1)) pa_nil)) (pa_cons (cv 2) pa_nil)))))
    (pss_cons (ps_for PassesOwn.never rfl (pi_zip rfl T.z_zip (pa_cons (cv 3) (pa_cons (pec_fld T.cl_Paper T.n_Paper_outs (cv 1)) pa_nil))) (pg_tup rfl (pgs_cons (pg_name (i := 5) sc_pasted.nd rfl (Or.inl rfl)) (pgs_cons (pg_name (i := 6) sc_pasted.nd rfl (Or.inl rfl)) pgs_nil)))
      (pss_one (ps_for PassesOwn.never rfl (pi_tup (cv 6)) (pg_name (i := 7) sc_pasted.nd rfl (Or.inl rfl))
        (pss_one (ps_expr (pec_meth (pe_meth (PE.mono (cv 0)) T.cl_Board T.me_Board_make G_Board_make (hr.mono (by decide)) T.b_Board_make .nil pass0 (pa_cons (pe_ix xc_tup (cv 7) pe_int (fun _ _ => rfl)) (pa_cons (pe_call G_parts_made (hr.mono (by decide)) rfl T.m_parts_made T.k_parts_made T.b_parts_made .nil pass0 (pa_cons (cv 7) (pa_cons (cv 3) (pa_cons (cv 4) pa_nil)))) (pa_cons (cv 5) (pa_cons (cv 2) pa_nil)))))))))))
    (pss_cons (ps_for PassesOwn.never rfl (pi_zip rfl T.z_zip (pa_cons (cv 4) (pa_cons (pec_fld T.cl_Paper T.n_Paper_ins (cv 1)) pa_nil))) (pg_tup rfl (pgs_cons (pg_name (i := 5) sc_pasted.nd rfl (Or.inl rfl)) (pgs_cons (pg_name (i := 8) sc_pasted.nd rfl (Or.inl rfl)) pgs_nil)))
      (pss_one (ps_for PassesOwn.never rfl (pi_tup (cv 8)) (pg_name (i := 9) sc_pasted.nd rfl (Or.inl rfl))
        (pss_one (ps_expr (pec_meth (pe_meth (PE.mono (cv 0)) T.cl_Board T.me_Board_use G_Board_use (hr.mono (by decide)) T.b_Board_use .nil pass0 (pa_cons (pe_call G_use_made (hr.mono (by decide)) rfl T.m_use_made T.k_use_made T.b_use_made .nil pass0 (pa_cons (cv 9) (pa_cons (cv 5) (pa_cons (cv 2) (pa_cons (cv 3) (pa_cons (cv 4) pa_nil)))))) pa_nil))))))))
    (pss_cons (ps_for PassesOwn.never rfl (pi_list (pec_fld T.cl_Paper T.n_Paper_flows (cv 1))) (pg_name (i := 10) sc_pasted.nd rfl (Or.inl rfl))
      (pss_one (ps_expr (pec_meth (pe_meth (PE.mono (cv 0)) T.cl_Board T.me_Board_flow G_Board_flow (hr.mono (by decide)) T.b_Board_flow .nil pass0 (pa_cons (pe_ix xc_list (cv 4) (pe_ix xc_tup (cv 10) pe_int (fun _ _ => rfl)) (fun _ _ => rfl)) (pa_cons (pe_ix xc_list (cv 3) (pe_ix xc_tup (cv 10) pe_int (fun _ _ => rfl)) (fun _ _ => rfl)) pa_nil)))))))
    (pss_one (ps_ret (pe_ix xc_list (cv 3) pe_int (fun _ _ => rfl))))))))), ?_⟩
  have sl : sizeLine = 16777216 := sizeLine_eq
  obtain ⟨z1, z2, z3, z4⟩ := sz0
  have o1 := ok.o1
  have o8 := ok.o8
  have i8 := ok.i8
  -- the outs
  obtain ⟨dx, ex⟩ := id Px
  obtain ⟨xo, eo, io⟩ := L.o
  have lo := io.length
  rw [List.length_map] at lo
  refine ⟨_, ⟨_, _, ex, fP_outs _ _ _⟩, o, xo, rfl, .inl (SqL.of eo), A, r, D, Pq.outs.length, pl, by rw [lo]; rfl, B, o8, by omega, fun po H1 F1 hpo npo epo B1 => ?_⟩
  have L1 := L.fb F1 nA
  have P1 := Px.fk F1.2
  obtain ⟨dx1, ex1⟩ := id P1
  obtain ⟨xi, ei, ii⟩ := L1.i
  have li := ii.length
  rw [List.length_map] at li
  have lp1 := ptsR D Pq.outs.length pl
  dsimp only [gName]
  refine ⟨_, ⟨_, _, ex1, fP_ins _ _ _⟩, i, xi, rfl, .inl (SqL.of ei), A, r, _, Pq.ins.length, pl, by rw [li]; rfl, B1, i8, by show (D.pts ++ List.replicate _ pl).length ≤ _; omega, fun pi H2 F2 hpi npi epi B2 => ?_⟩
  have epi' : H2 pi = some (.lst (ptsL (D.pts.length + Pq.outs.length) Pq.ins.length)) := by
    rw [epi]
    show some (HO.lst (ptsL (D.pts ++ List.replicate _ pl).length _)) = _
    rw [lp1]
  have B2' : Bw (cs T) H2 A r { D with pts := D.pts ++ List.replicate (Pq.outs.length + Pq.ins.length) pl } := by
    have : (D.pts ++ List.replicate Pq.outs.length pl) ++ List.replicate Pq.ins.length pl = D.pts ++ List.replicate (Pq.outs.length + Pq.ins.length) pl := by rw [List.append_assoc, List.replicate_append_replicate]
    rw [← this]
    exact B2
  have F02 := F1.trans F2
  have epo2 := F2.1 _ _ epo npo
  have Lq2 := L1.fb F2 nA
  have P2 := P1.fk F2.2
  clear B2 epi B1 L1 P1 ex1 ei ii li eo io lo ex L Px hpo hpi F1 F2
  generalize hb : D.pts.length = b at *
  dsimp only [gName]
  obtain ⟨dx2, ex2⟩ := id P2
  obtain ⟨xo, eo, io⟩ := Lq2.o
  have lo := io.length
  rw [List.length_map] at lo
  -- the makings
  refine ⟨_, ⟨_, _, ex2, fP_outs _ _ _⟩, po, o, rfl, ⟨_, SqL.of epo2⟩, ⟨_, SqL.of eo⟩, for_zip (xs := ptsL b Pq.outs.length) (ys := xo) (fun k σ H3 => ∃ o5 o6 o7 : Option V, σ = [some (.ref A.b), some (.ref x), some (.int pl), some (.ref po), some (.ref pi), o5, o6, o7, none, none, none] ∧ k ≤ Pq.outs.length ∧ FB A H2 H3 ∧ Bw (cs T) H3 A r { D with pts := D.pts ++ List.replicate (Pq.outs.length + Pq.ins.length) pl, mks := D.mks ++ mkA b (b + Pq.outs.length) pl 0 (Pq.outs.take k) })
    ⟨none, none, none, rfl, Nat.zero_le _, FB.same (Same.refl _), by rw [List.take_zero, mkA, List.append_nil]; exact B2'⟩ (fun k σ H3 _ ⟨_, _, _, _, _, F, _⟩ => ⟨SqL.of (F.1 _ _ epo2 npo), SqL.of (F.1 _ _ eo (nA _ (by simp)))⟩) (by rw [ptsL_len]; exact lo) ?_ ?_⟩
  · rintro k v1 v2 σ H3 tt hv1 hv2 ⟨o5, o6, o7, rfl, kle, F3, B3⟩ htt
    obtain ⟨rfl, hk⟩ := ptsL_get hv1
    have sT := same_new htt (.tup [.int ((b : Int) + (k : Int)), v2])
    refine ⟨tt, _, rfl, SqT.of upd_same, rfl, _, _, rfl, _, _, rfl, rfl, ?_⟩
    have F4 := F3.trans (FB.same sT)
    have B4 := B3.same sT
    generalize upd H3 tt (.tup [.int ((b : Int) + (k : Int)), v2]) = H4 at F4 B4 ⊢
    obtain ⟨l, hl, il⟩ := ims_at (io.mono F4.2.tk) hv2
    obtain ⟨ta, ys, rfl, eta, iy⟩ := im_tup il
    have om := ok.om l (List.mem_of_getElem? hl)
    have ly := iy.length
    rw [List.length_map] at ly
    have la := mkA_len b (b + Pq.outs.length) pl 0 (Pq.outs.take k) fun y hy => (ok.om y (List.mem_of_mem_take hy)).1
    rw [List.length_take] at la
    dsimp only [gName]
    refine ⟨ta, rfl, ⟨_, SqT.of eta⟩, for_tup (xs := ys) (fun j σ H5 => ∃ o7 : Option V, σ = [some (.ref A.b), some (.ref x), some (.int pl), some (.ref po), some (.ref pi), some (.int ((b : Int) + (k : Int))), some (.ref ta), o7, none, none, none] ∧ j ≤ ys.length ∧ FB A H2 H5 ∧ TK H4 H5 ∧ Bw (cs T) H5 A r { D with pts := D.pts ++ List.replicate (Pq.outs.length + Pq.ins.length) pl, mks := D.mks ++ mkA b (b + Pq.outs.length) pl 0 (Pq.outs.take k) ++ mkO b (b + Pq.outs.length) pl k (l.take j) })
      ⟨_, rfl, Nat.zero_le _, F4, fun _ _ e => e, by rw [List.take_zero, mkO, List.map_nil, List.append_nil]; exact B4⟩ (fun j σ H5 _ ⟨_, _, _, _, tk, _⟩ => SqT.of (tk _ _ eta)) ?_ ?_⟩
    · rintro j v σ H5 hv ⟨o7, rfl, jle, F5, tk5, B5⟩
      obtain ⟨m, hm, im⟩ := ims_at (iy.mono tk5) hv
      have jl : j < l.length := (List.getElem?_eq_some_iff.mp hm).1
      have mok := om.2 m (List.mem_of_getElem? hm)
      obtain ⟨t, rr, rfl, et, hs⟩ := pm_at im
      dsimp only [gName]
      refine ⟨⟨_, _, B5.b, fB_no_make _ _ _ _ _⟩, _, et, onS_of (atI_nat (j := 0) rfl) ⟨.ref t, po, pi, m, b, b + Pq.outs.length, Pq.outs.length, Pq.ins.length, rfl, im, mok, F5.1 _ _ epo2 npo, F5.1 _ _ epi' npi, fun pv H6 S6 I6 => ?_⟩⟩
      have B6 := B5.same S6
      obtain ⟨mv, em, am⟩ := B6.e1
      have lm := am.length
      have lmk : (D.mks ++ mkA b (b + Pq.outs.length) pl 0 (Pq.outs.take k) ++ mkO b (b + Pq.outs.length) pl k (l.take j)).length ≤ 100000 := by
        rw [List.length_append, List.length_append, mkO, List.length_map, List.length_take]
        have := om.1
        omega
      have lm2 : mv.length ≤ 100000 := by rw [lm]; exact lmk
      refine ⟨A.b, A.bx, A.p0, A.p1, A.p2, A.p3, r, _, _, _, _, mv, rfl, B6.b, em, by omega, fun y dy hy hdy => ?_⟩
      obtain ⟨pd, po'⟩ := parts_ok (b := b) (i := b + Pq.outs.length) mok
      obtain ⟨B7, F7⟩ := B6.made (s := m.sh) (a := (b : Int) + (k : Int)) (p := pl) hy hdy em I6 pd po'
      refine ⟨_, rfl, by omega, (F5.then S6).trans F7, fun a xs e => F7.2.tk _ _ (Same.tk S6 _ _ (tk5 _ _ e)), ?_⟩
      rw [take_snocK hm, mkO, List.map_append, ← List.append_assoc]
      exact B7
    · rintro σ H5 ⟨o7, rfl, jle, F5, tk5, B5⟩
      rw [ly, List.take_length] at B5
      refine ⟨_, _, _, rfl, by omega, F5, ?_⟩
      rw [take_snocK hl, mkA_snoc, List.length_take, Nat.min_eq_left (by omega), Nat.zero_add, ← List.append_assoc]
      exact B5
  rintro σ H3 ⟨o5, o6, o7, rfl, _, F3, B3⟩
  rw [ptsL_len, List.take_length] at B3
  have P3 := P2.fk F3.2
  have L3' := Lq2.fb F3 nA
  obtain ⟨dx3, ex3⟩ := id P3
  obtain ⟨xi, ei, ii⟩ := L3'.i
  have li := ii.length
  rw [List.length_map] at li
  have epi3 := F3.1 _ _ epi' npi
  have epo3 := F3.1 _ _ epo2 npo
  dsimp only [gName]
  -- the uses
  refine ⟨_, ⟨_, _, ex3, fP_ins _ _ _⟩, pi, i, rfl, ⟨_, SqL.of epi3⟩, ⟨_, SqL.of ei⟩, for_zip (xs := ptsL (b + Pq.outs.length) Pq.ins.length) (ys := xi) (fun k σ H4 => ∃ o5 o6 o7 o8 o9 : Option V, σ = [some (.ref A.b), some (.ref x), some (.int pl), some (.ref po), some (.ref pi), o5, o6, o7, o8, o9, none] ∧ k ≤ Pq.ins.length ∧ FB A H3 H4 ∧ Bw (cs T) H4 A r { D with pts := D.pts ++ List.replicate (Pq.outs.length + Pq.ins.length) pl, mks := D.mks ++ mkA b (b + Pq.outs.length) pl 0 Pq.outs, uss := D.uss ++ usA b (b + Pq.outs.length) pl 0 (Pq.ins.take k) })
    ⟨_, _, _, none, none, rfl, Nat.zero_le _, FB.same (Same.refl _), by rw [List.take_zero, usA, List.append_nil]; exact B3⟩ (fun k σ H4 _ ⟨_, _, _, _, _, _, _, F, _⟩ => ⟨SqL.of (F.1 _ _ epi3 npi), SqL.of (F.1 _ _ ei (nA _ (by simp)))⟩) (by rw [ptsL_len]; exact li) ?_ ?_⟩
  · rintro k v1 v2 σ H4 tt hv1 hv2 ⟨o5, o6, o7, o8, o9, rfl, kle, F4, B4⟩ htt
    obtain ⟨rfl, hk⟩ := ptsL_get hv1
    have sT := same_new htt (.tup [.int (((b + Pq.outs.length : Nat) : Int) + (k : Int)), v2])
    refine ⟨tt, _, rfl, SqT.of upd_same, rfl, _, _, rfl, _, _, rfl, rfl, ?_⟩
    have F5 := F4.trans (FB.same sT)
    have B5 := B4.same sT
    generalize upd H4 tt (.tup [.int (((b + Pq.outs.length : Nat) : Int) + (k : Int)), v2]) = H5 at F5 B5 ⊢
    obtain ⟨l, hl, il⟩ := ims_at (ii.mono F5.2.tk) hv2
    obtain ⟨ta, ys, rfl, eta, iy⟩ := im_tup il
    have om := ok.iu l (List.mem_of_getElem? hl)
    have ly := iy.length
    rw [List.length_map] at ly
    have la := usA_len b (b + Pq.outs.length) pl 0 (Pq.ins.take k) fun y hy => (ok.iu y (List.mem_of_mem_take hy)).1
    rw [List.length_take] at la
    dsimp only [gName]
    refine ⟨ta, rfl, ⟨_, SqT.of eta⟩, for_tup (xs := ys) (fun j σ H6 => ∃ o6 o7 o9 : Option V, σ = [some (.ref A.b), some (.ref x), some (.int pl), some (.ref po), some (.ref pi), some (.int (((b + Pq.outs.length : Nat) : Int) + (k : Int))), o6, o7, some (.ref ta), o9, none] ∧ j ≤ ys.length ∧ FB A H3 H6 ∧ TK H5 H6 ∧ Bw (cs T) H6 A r { D with pts := D.pts ++ List.replicate (Pq.outs.length + Pq.ins.length) pl, mks := D.mks ++ mkA b (b + Pq.outs.length) pl 0 Pq.outs, uss := D.uss ++ usA b (b + Pq.outs.length) pl 0 (Pq.ins.take k) ++ usO b (b + Pq.outs.length) pl k (l.take j) })
      ⟨_, _, _, rfl, Nat.zero_le _, F5, fun _ _ e => e, by rw [List.take_zero, usO, List.map_nil, List.append_nil]; exact B5⟩ (fun j σ H6 _ ⟨_, _, _, _, _, _, tk, _⟩ => SqT.of (tk _ _ eta)) ?_ ?_⟩
    · rintro j v σ H6 hv ⟨o6, o7, o9, rfl, jle, F6, tk6, B6⟩
      obtain ⟨m, hm, im⟩ := ims_at (iy.mono tk6) hv
      have jl : j < l.length := (List.getElem?_eq_some_iff.mp hm).1
      have mok := om.2 m (List.mem_of_getElem? hm)
      dsimp only [gName]
      refine ⟨⟨_, _, B6.b, fB_no_use _ _ _ _ _⟩, v, _, pl, po, pi, m, b, b + Pq.outs.length, Pq.outs.length, Pq.ins.length, rfl, im, mok, F6.1 _ _ epo3 npo, F6.1 _ _ epi3 npi, fun pv H7 S7 U7 => ?_⟩
      have B7 := B6.same S7
      obtain ⟨uv, eu, au⟩ := B7.e2
      have lu := au.length
      have luk : (D.uss ++ usA b (b + Pq.outs.length) pl 0 (Pq.ins.take k) ++ usO b (b + Pq.outs.length) pl k (l.take j)).length ≤ 100000 := by
        rw [List.length_append, List.length_append, usO, List.length_map, List.length_take]
        have := om.1
        omega
      have lu2 : uv.length ≤ 100000 := by rw [lu]; exact luk
      refine ⟨A.b, A.bx, A.p0, A.p1, A.p2, A.p3, r, _, uv, rfl, B7.b, eu, by omega, ?_⟩
      have B8 := B7.us eu U7
      have F8 := FB.upd (A := A) (ys := uv ++ [pv]) (by simp [Ad.ls]) eu
      refine ⟨_, _, _, rfl, by omega, (F6.then S7).trans F8, fun a xs e => F8.2.tk _ _ (Same.tk S7 _ _ (tk6 _ _ e)), ?_⟩
      rw [take_snocK hm, usO, List.map_append, ← List.append_assoc]
      exact B8
    · rintro σ H6 ⟨o6, o7, o9, rfl, jle, F6, tk6, B6⟩
      rw [ly, List.take_length] at B6
      refine ⟨_, _, _, _, _, rfl, by omega, F6, ?_⟩
      rw [take_snocK hl, usA_snoc, List.length_take, Nat.min_eq_left (by omega), Nat.zero_add, ← List.append_assoc]
      exact B6
  rintro σ H4 ⟨o5, o6, o7, o8, o9, rfl, _, F4, B4⟩
  rw [ptsL_len, List.take_length] at B4
  have P4 := P3.fk F4.2
  have L4 := L3'.fb F4 nA
  obtain ⟨dx4, ex4⟩ := id P4
  obtain ⟨xf, ef, jf⟩ := L4.f
  have lf := jf.length
  rw [List.length_map] at lf
  have epi4 := F4.1 _ _ epi3 npi
  have epo4 := F4.1 _ _ epo3 npo
  dsimp only [gName]
  -- the flows
  refine ⟨_, ⟨_, _, ex4, fP_flows _ _ _⟩, f, rfl, ⟨_, SqL.of ef⟩, for_list (xs := xf) (fun k σ H5 => ∃ o10 : Option V, σ = [some (.ref A.b), some (.ref x), some (.int pl), some (.ref po), some (.ref pi), o5, o6, o7, o8, o9, o10] ∧ k ≤ xf.length ∧ FB A H4 H5 ∧ Bw (cs T) H5 A r { D with pts := D.pts ++ List.replicate (Pq.outs.length + Pq.ins.length) pl, mks := D.mks ++ mkA b (b + Pq.outs.length) pl 0 Pq.outs, uss := D.uss ++ usA b (b + Pq.outs.length) pl 0 Pq.ins, fls := D.fls ++ (Pq.fls.take k).map (flF b (b + Pq.outs.length)) })
    ⟨none, rfl, Nat.zero_le _, FB.same (Same.refl _), by rw [List.take_zero, List.map_nil, List.append_nil]; exact B4⟩ (fun k σ H5 _ ⟨_, _, _, F, _⟩ => SqL.of (F.1 _ _ ef (nA _ (by simp)))) ?_ ?_⟩
  · rintro k v σ H5 hv ⟨o10, rfl, kle, F5, B5⟩
    have kl := (List.getElem?_eq_some_iff.mp hv).1
    obtain ⟨p, hp, ip⟩ := ims_at (jf.mono F5.2.tk) hv
    have pok := ok.ff.2 p (List.mem_of_getElem? hp)
    obtain ⟨t, ys, rfl, et, iy⟩ := im_tup ip
    obtain ⟨y1, y2, rfl, j1, j2⟩ := ims2K iy
    rw [im_nI j1, im_nI j2] at et
    obtain ⟨fv, efv, ifv⟩ := B5.e3
    have lfv := ifv.length
    have lfk : (D.fls ++ (Pq.fls.take k).map (flF b (b + Pq.outs.length))).length ≤ 100000 := by
      rw [List.length_append, List.length_map, List.length_take]
      have := ok.ff.1
      omega
    have lf2 : fv.length ≤ 100000 := by rw [lfv, List.length_map]; exact lfk
    dsimp only [gName]
    refine ⟨⟨_, _, B5.b, fB_no_flow _ _ _ _ _⟩, _, et, onS_of (atI_nat (j := 0) rfl) ⟨_, F5.1 _ _ epi4 npi, onS_of (ptsL_at pok.1) ⟨_, et, onS_of (atI_nat (j := 1) rfl) ⟨_, F5.1 _ _ epo4 npo, onS_of (ptsL_at pok.2) ⟨A.b, A.bx, A.p0, A.p1, A.p2, A.p3, r, _, _, fv, rfl, B5.b, efv, by omega, fun tn htn => ?_⟩⟩⟩⟩⟩
    have S6 := same_new htn (.tup [.int (((b + Pq.outs.length : Nat) : Int) + (p.1 : Int)), .int ((b : Int) + (p.2 : Int))])
    have B6 := (B5.same S6).fl (p := flF b (b + Pq.outs.length) p) (S6 _ _ efv) (im_newK htn (.cons (im_int _) (.cons (im_int _) .nil)))
    refine ⟨_, rfl, by omega, (F5.then S6).trans (FB.upd (by simp [Ad.ls]) (S6 _ _ efv)), ?_⟩
    rw [take_snocK hp, List.map_append, ← List.append_assoc]
    exact B6
  rintro σ H5 ⟨o10, rfl, _, F5, B5⟩
  rw [lf, List.take_length] at B5
  refine ⟨_, F5.1 _ _ epo4 npo, onS_of (ptsL_at (k := 0) (by omega)) ?_⟩
  have e0 : (b : Int) + ((0 : Nat) : Int) = (b : Int) := by omega
  rw [e0]
  refine q _ (((F02.trans F3).trans F4).trans F5) ?_
  unfold paste
  rw [hb]
  exact B5
end
end K25.Internal
namespace K25.Internal
open PySem L2.Internal BO.Internal KK.Internal
seal L2.Internal.PE L2.Internal.PA L2.Internal.PS L2.Internal.PSs L2.Internal.PT L2.Internal.PI
noncomputable def _root_.KK.Internal.Pu.tail (b c : Nat) : Pu → List Dt
  | .num => []
  | .call o x => [iD ((b : Int) + (o : Int)), iD ((c : Int) + (x : Int))]
  | .take l => [prD (mvL c l)]
  | .case l => [prD (mvL c l)]
  | .row x => [iD ((c : Int) + (x : Int))]
theorem us_d (u : Pu) (b c : Nat) (a p : Int) : (u.us b c a p).d = .tup (hdD u.sh a p 0 ++ u.tail b c) := by
  cases u <;> simp [Pu.us, Us.d, Pu.tail, Pu.sh, iD]
theorem for_nat {n : Nat} {g : TG} {tb : TS} {D : Ends} {σ : St} {H : Hp} {z : Int} (hz : z = (n : Int)) (Pv : Nat → St → Hp → Prop) (h0 : Pv 0 σ H)
    (hs : ∀ i σ H, i < n → Pv i σ H → g (.int (0 + (i : Int))) σ H fun σ2 H2 => tb { D with nx := Pv (i + 1), ct := Pv (i + 1), bk := D.nx } σ2 H2) (hd : ∀ σ H, Pv n σ H → D.nx σ H) :
    ∃ W : Nat → Nat → St → Hp → Prop, (∃ m, W 0 m σ H) ∧ ∀ i m σ H, W i m σ H →
      ((Itr 0 z.toNat).stop i H ∧ D.nx σ H) ∨ ((Itr 0 z.toNat).go i H ∧ ∃ N : St → Hp → Prop, (∀ σ' H', N σ' H' → ∃ m', m' < m ∧ W (i + 1) m' σ' H') ∧ ∀ x H', (Itr 0 z.toNat).yld i H x H' → g x σ H' fun σ2 H2 => tb { D with nx := N, ct := N, bk := D.nx } σ2 H2) := by
  subst hz
  rw [Int.toNat_natCast]
  exact for_range Pv h0 hs hd
section
variable {P : Program} {w : World} {K : PySem.W.Frag} {mg : Str → Option Value} {base : Heap}
noncomputable def sp_pd : Sp := fun vs H Q _ => ∃ (x : V) (m : Pm) (b c : Nat) (no ni : Nat), vs = [x, .int (b : Int), .int (c : Int)] ∧ Im H x m.d ∧ m.ok no ni ∧ ∀ v H', Same H H' → Im H' v (m.parts b c) → Q v H'
theorem ok__law_parts_due (T : Txt K mg) : FnOk P w K mg base CX0 1 T.a__law_parts_due T.fd__law_parts_due ["_law_one", "_law_base", "_law_inner"] sp_pd := by
  refine T.F__law_parts_due.ok sc__law_parts_due (fun vs H Q E h => ?_) (fun cdv A0 outer s H vs Q E hr h => ?_)
  · obtain ⟨x, m, b, c, no, ni, rfl, _⟩ := h
    rfl
  obtain ⟨x, m, b, c, no, ni, rfl, ix, ok, q⟩ := h
  refine ⟨_, (pss_cons (ps_if (ptc_cmpR oc_eq (pe_ix xc_tup (cv 0) pe_int (fun _ _ => rfl)) pe_str (nomark _))
      (pss_one (ps_ret (pe_tup (pa_cons (pe_op oc_add (cv 2) (pe_ix xc_tup (cv 0) pe_int (fun _ _ => rfl))) (pa_cons (pe_op oc_add (cv 1) (pe_ix xc_tup (cv 0) pe_int (fun _ _ => rfl))) pa_nil)))))
      pss_nil)
    (pss_cons (ps_if (ptc_cmpR oc_eq (pe_ix xc_tup (cv 0) pe_int (fun _ _ => rfl)) pe_str (nomark _))
      (pss_one (ps_ret (pe_callTy call_tuple_of rfl T.z_tuple bt_tuple (pa_cons (pe_lc rfl (blkC (x := "_law_part") ["_law_base"] [("_law_base", 1, s.heap.objs.size + 1)] rfl rfl (by decide +kernel) (by decide +kernel) rfl (by decide +kernel) rfl rfl (by intro p hp; simp only [List.mem_cons, List.not_mem_nil, or_false] at hp; rcases hp with rfl <;> exact ⟨rfl, rfl, rfl, rfl⟩)) (pi_tup (pe_ix xc_tup (cv 0) pe_int (fun _ _ => rfl))) (fun _ _ _ _ _ => pts_nil) (fun _ _ _ _ _ => (pe_tup (pa_cons (pe_ix xc_tup (cv 0) pe_int (fun _ _ => rfl)) (pa_cons (pe_op oc_add (cv 1) (pe_ix xc_tup (cv 0) pe_int (fun _ _ => rfl))) pa_nil))))) pa_nil))))
      pss_nil)
    (pss_cons (ps_if (ptc_cmpR oc_eq (pe_ix xc_tup (cv 0) pe_int (fun _ _ => rfl)) pe_str (nomark _))
      (pss_one (ps_ret (pe_tup (pa_cons (pe_ix xc_tup (cv 0) pe_int (fun _ _ => rfl)) (pa_cons (pe_op oc_add (cv 1) (pe_ix xc_tup (cv 0) pe_int (fun _ _ => rfl))) pa_nil)))))
      pss_nil)
    (pss_cons (ps_if (ptc_cmpR oc_eq (pe_ix xc_tup (cv 0) pe_int (fun _ _ => rfl)) pe_str (nomark _))
      (pss_one (ps_ret (pe_tup (pa_cons (pe_op oc_add (cv 1) (pe_ix xc_tup (cv 0) pe_int (fun _ _ => rfl))) pa_nil))))
      pss_nil)
    (pss_one (ps_ret (pe_tup pa_nil))))))), ?_⟩
  have sl : sizeLine = 16777216 := sizeLine_eq
  obtain ⟨t, r, rfl, e, hs⟩ := pm_at ix
  cases m with
  | num =>
    replace e : H t = some (.tup (.str "num" :: r)) := e
    refine sn_no rfl e (by decide +kernel) (sn_no rfl e (by decide +kernel) (sn_no rfl e (by decide +kernel) (sn_no rfl e (by decide +kernel) ?_)))
    exact ⟨(by show 0 ≤ sizeLine; decide), fun t0 h0 => q _ _ (same_new h0 _) (im_newK h0 .nil)⟩
  | any =>
    replace e : H t = some (.tup (.str "any" :: r)) := e
    refine sn_no rfl e (by decide +kernel) (sn_no rfl e (by decide +kernel) (sn_no rfl e (by decide +kernel) (sn_no rfl e (by decide +kernel) ?_)))
    exact ⟨(by show 0 ≤ sizeLine; decide), fun t0 h0 => q _ _ (same_new h0 _) (im_newK h0 .nil)⟩
  | fn x y =>
    obtain ⟨v1, v2, rfl, j1, j2⟩ := ims2K hs
    rw [im_nI j1, im_nI j2] at e
    replace e : H t = some (.tup [.str "fn", .int (x : Int), .int (y : Int)]) := e
    refine sq_yes rfl e rfl ?_
    exact ⟨_, e, onS_of (atI_nat (j := 1) rfl) ⟨_, e, onS_of (atI_nat (j := 2) rfl) ⟨(by show 2 ≤ sizeLine; decide), fun t0 h0 => q _ _ (same_new h0 _) (im_newK h0 (.cons (im_int _) (.cons (im_int _) .nil)))⟩⟩⟩
  | rcd l =>
    obtain ⟨v1, rfl, j1⟩ := ims1 hs
    replace e : H t = some (.tup [.str "rec", v1]) := e
    obtain ⟨tl, xs, rfl, et, hl⟩ := im_tup j1
    have lx := hl.length
    rw [List.length_map] at lx
    have l4 : l.length ≤ 4 := ok.1
    refine sn_no rfl e (by decide +kernel) (sq_yes rfl e rfl ?_)
    refine ⟨_, e, onS_of (atI_nat (j := 1) rfl) ⟨tl, rfl, ⟨_, SqT.of et⟩, fun D hD => ?_⟩⟩
    refine lc_gen xs.length (by omega) (fun ys H2 => Ims H2 ys ((mvL b (l.take ys.length)).map prL)) (fun ys _ _ h k => h.mono k) hD rfl (fun k H S hk => go_tup et S hk) (fun H S => st_tup et S) .nil ?_ ?_
    · rintro k H2 v H3 ys Z S2 hk ⟨rfl, hv⟩ hys hl' z
      obtain ⟨y, t', hy, rfl, et'⟩ := prN_at (hl.mono (Same.tk S2)) (hv _ (SqT.of (S2 _ _ et)))
      refine ⟨_, et', onS_of (atI_nat (j := 0) rfl) ⟨_, et', onS_of (atI_nat (j := 1) rfl) ⟨(by show 2 ≤ sizeLine; decide), fun t2 h2 => ?_⟩⟩⟩
      have S4 := same_new h2 (.tup [.str y.1, .int ((b : Int) + (y.2 : Int))])
      refine z _ _ S4 ?_
      rw [List.length_append, List.length_singleton, hl', mvL_snoc hy, List.map_append]
      rw [hl'] at hys
      exact (hys.mono (Same.tk S4)).app (.cons (im_newK h2 (.cons (im_str _) (.cons (im_int _) .nil))) .nil)
    · rintro H2 ys S2 hys hl' eD
      rw [hl', lx, List.take_length] at hys
      refine ⟨D, ys, rfl, .inl ⟨SqL.of eD, fun tp htp => ?_⟩⟩
      exact q _ _ (S2.trans (same_new htp _)) (im_newK htp hys)
  | tag z y =>
    obtain ⟨v1, v2, rfl, j1, j2⟩ := ims2K hs
    rw [im_sD j1, im_nI j2] at e
    replace e : H t = some (.tup [.str "tag", .str z, .int (y : Int)]) := e
    refine sn_no rfl e (by decide +kernel) (sn_no rfl e (by decide +kernel) (sq_yes rfl e rfl ?_))
    exact ⟨_, e, onS_of (atI_nat (j := 1) rfl) ⟨_, e, onS_of (atI_nat (j := 2) rfl) ⟨(by show 2 ≤ sizeLine; decide), fun t0 h0 => q _ _ (same_new h0 _) (im_newK h0 (.cons (im_str _) (.cons (im_int _) .nil)))⟩⟩⟩
  | row y =>
    obtain ⟨v1, rfl, j1⟩ := ims1 hs
    rw [im_nI j1] at e
    replace e : H t = some (.tup [.str "row", .int (y : Int)]) := e
    refine sn_no rfl e (by decide +kernel) (sn_no rfl e (by decide +kernel) (sn_no rfl e (by decide +kernel) (sq_yes rfl e rfl ?_)))
    exact ⟨_, e, onS_of (atI_nat (j := 1) rfl) ⟨(by show 1 ≤ sizeLine; decide), fun t0 h0 => q _ _ (same_new h0 _) (im_newK h0 (.cons (im_int _) .nil))⟩⟩
noncomputable def sp_ud : Sp := fun vs H Q _ => ∃ (x : V) (u : Pu) (b c no ni : Nat), vs = [x, .int (b : Int), .int (c : Int)] ∧ Im H x u.d ∧ u.ok no ni ∧ ∀ t ts H', Same H H' → H' t = some (.tup ts) → Ims H' ts (u.tail b c) → Q (.ref t) H'
theorem ok__law_use_due (T : Txt K mg) : FnOk P w K mg base CX0 1 T.a__law_use_due T.fd__law_use_due ["_law_one", "_law_base", "_law_inner"] sp_ud := by
  refine T.F__law_use_due.ok sc__law_use_due (fun vs H Q E h => ?_) (fun cdv A0 outer s H vs Q E hr h => ?_)
  · obtain ⟨x, u, b, c, no, ni, rfl, _⟩ := h
    rfl
  obtain ⟨x, u, b, c, no, ni, rfl, ix, ok, q⟩ := h
  refine ⟨_, (pss_cons (ps_if (ptc_cmpR oc_eq (pe_ix xc_tup (cv 0) pe_int (fun _ _ => rfl)) pe_str (nomark _))
      (pss_one (ps_ret (pe_tup (pa_cons (pe_op oc_add (cv 1) (pe_ix xc_tup (cv 0) pe_int (fun _ _ => rfl))) (pa_cons (pe_op oc_add (cv 2) (pe_ix xc_tup (cv 0) pe_int (fun _ _ => rfl))) pa_nil)))))
      pss_nil)
    (pss_cons (ps_if (ptc_cmpR oc_eq (pe_ix xc_tup (cv 0) pe_int (fun _ _ => rfl)) pe_str (nomark _))
      (pss_one (ps_ret (pe_tup (pa_cons (pe_op oc_add (cv 2) (pe_ix xc_tup (cv 0) pe_int (fun _ _ => rfl))) pa_nil))))
      pss_nil)
    (pss_cons (ps_if (ptc_cmpR oc_eq (pe_ix xc_tup (cv 0) pe_int (fun _ _ => rfl)) pe_str (nomark _))
      (pss_one (ps_ret (pe_tup pa_nil)))
      pss_nil)
    (pss_one (ps_ret (pe_tup (pa_cons (pe_callTy call_tuple_of rfl T.z_tuple bt_tuple (pa_cons (pe_lc rfl (blkC (x := "_law_part") ["_law_inner"] [("_law_inner", 2, s.heap.objs.size + 1)] rfl rfl (by decide +kernel) (by decide +kernel) rfl (by decide +kernel) rfl rfl (by intro p hp; simp only [List.mem_cons, List.not_mem_nil, or_false] at hp; rcases hp with rfl <;> exact ⟨rfl, rfl, rfl, rfl⟩)) (pi_tup (pe_ix xc_tup (cv 0) pe_int (fun _ _ => rfl))) (fun _ _ _ _ _ => pts_nil) (fun _ _ _ _ _ => (pe_tup (pa_cons (pe_ix xc_tup (cv 0) pe_int (fun _ _ => rfl)) (pa_cons (pe_op oc_add (cv 1) (pe_ix xc_tup (cv 0) pe_int (fun _ _ => rfl))) pa_nil))))) pa_nil)) pa_nil))))))), ?_⟩
  have sl : sizeLine = 16777216 := sizeLine_eq
  obtain ⟨t, r, rfl, e, hs⟩ := pu_at ix
  have pairs : ∀ {l : List (Str × Nat)} {tl : Addr} {xs : List V} {Q' : VK} {D : Addr}, l.length ≤ 4 → H tl = some (.tup xs) → Ims H xs (l.map fun p => .tup [sD p.1, nI p.2]) → H D = none →
      (∀ H' ys, Same H H' → Ims H' ys ((mvL c l).map prL) → H' D = some (.lst ys) → Q' (.ref D) H') →
      LcP (Itt K tl) 0 tAlways (tTup (tCons (tOp cIxT (cV 0) (tC (.int 0))) (tCons (tOp (cI0 fun i j => .int (i + j)) (cV 1) (tOp cIxT (cV 0) (tC (.int 1)))) tNil))) Q' [none, some (.int (c : Int))] H D := fun {l tl xs Q' D} l4 et hl hD q' => by
    have lx := hl.length
    rw [List.length_map] at lx
    refine lc_gen xs.length (by omega) (fun ys H2 => Ims H2 ys ((mvL c (l.take ys.length)).map prL)) (fun ys _ _ h k => h.mono k) hD rfl (fun k H S hk => go_tup et S hk) (fun H S => st_tup et S) .nil ?_ ?_
    · rintro k H2 v H3 ys Z S2 hk ⟨rfl, hv⟩ hys hl' z
      obtain ⟨y, t', hy, rfl, et'⟩ := prN_at (hl.mono (Same.tk S2)) (hv _ (SqT.of (S2 _ _ et)))
      refine ⟨_, et', onS_of (atI_nat (j := 0) rfl) ⟨_, et', onS_of (atI_nat (j := 1) rfl) ⟨(by show 2 ≤ sizeLine; decide), fun t2 h2 => ?_⟩⟩⟩
      have S4 := same_new h2 (.tup [.str y.1, .int ((c : Int) + (y.2 : Int))])
      refine z _ _ S4 ?_
      rw [List.length_append, List.length_singleton, hl', mvL_snoc hy, List.map_append]
      rw [hl'] at hys
      exact (hys.mono (Same.tk S4)).app (.cons (im_newK h2 (.cons (im_str _) (.cons (im_int _) .nil))) .nil)
    · rintro H2 ys S2 hys hl' eD
      rw [hl', lx, List.take_length] at hys
      exact q' _ _ S2 hys eD
  cases u with
  | num =>
    replace e : H t = some (.tup (.str "num" :: r)) := e
    refine sn_no rfl e (by decide +kernel) (sn_no rfl e (by decide +kernel) (sq_yes rfl e rfl ?_))
    exact ⟨(by show 0 ≤ sizeLine; decide), fun t0 h0 => q _ _ _ (same_new h0 _) upd_same .nil⟩
  | call y z =>
    obtain ⟨v1, v2, rfl, j1, j2⟩ := ims2K hs
    rw [im_nI j1, im_nI j2] at e
    replace e : H t = some (.tup [.str "call", .int (y : Int), .int (z : Int)]) := e
    refine sq_yes rfl e rfl ?_
    exact ⟨_, e, onS_of (atI_nat (j := 1) rfl) ⟨_, e, onS_of (atI_nat (j := 2) rfl) ⟨(by show 2 ≤ sizeLine; decide), fun t0 h0 => q _ _ _ (same_new h0 _) upd_same (.cons (im_int _) (.cons (im_int _) .nil))⟩⟩⟩
  | row y =>
    obtain ⟨v1, rfl, j1⟩ := ims1 hs
    rw [im_nI j1] at e
    replace e : H t = some (.tup [.str "row", .int (y : Int)]) := e
    refine sn_no rfl e (by decide +kernel) (sq_yes rfl e rfl ?_)
    exact ⟨_, e, onS_of (atI_nat (j := 1) rfl) ⟨(by show 1 ≤ sizeLine; decide), fun t0 h0 => q _ _ _ (same_new h0 _) upd_same (.cons (im_int _) .nil)⟩⟩
  | take l =>
    obtain ⟨v1, rfl, j1⟩ := ims1 hs
    replace e : H t = some (.tup [.str "take", v1]) := e
    obtain ⟨tl, xs, rfl, et, hl⟩ := im_tup j1
    refine sn_no rfl e (by decide +kernel) (sn_no rfl e (by decide +kernel) (sn_no rfl e (by decide +kernel) ?_))
    refine ⟨_, e, onS_of (atI_nat (j := 1) rfl) ⟨tl, rfl, ⟨_, SqT.of et⟩, fun D hD => pairs ok.1 et hl hD fun H2 ys S2 I2 eD => ⟨D, ys, rfl, .inl ⟨SqL.of eD, fun tp htp => ⟨(by show 1 ≤ sizeLine; decide), fun t0 h0 => ?_⟩⟩⟩⟩⟩
    exact q _ _ _ ((S2.trans (same_new htp _)).trans (same_new h0 _)) upd_same (.cons ((im_newK htp I2).mono (Same.tk (same_new h0 _))) .nil)
  | case l =>
    obtain ⟨v1, rfl, j1⟩ := ims1 hs
    replace e : H t = some (.tup [.str "case", v1]) := e
    obtain ⟨tl, xs, rfl, et, hl⟩ := im_tup j1
    refine sn_no rfl e (by decide +kernel) (sn_no rfl e (by decide +kernel) (sn_no rfl e (by decide +kernel) ?_))
    refine ⟨_, e, onS_of (atI_nat (j := 1) rfl) ⟨tl, rfl, ⟨_, SqT.of et⟩, fun D hD => pairs ok.1 et hl hD fun H2 ys S2 I2 eD => ⟨D, ys, rfl, .inl ⟨SqL.of eD, fun tp htp => ⟨(by show 1 ≤ sizeLine; decide), fun t0 h0 => ?_⟩⟩⟩⟩⟩
    exact q _ _ _ ((S2.trans (same_new htp _)).trans (same_new h0 _)) upd_same (.cons ((im_newK htp I2).mono (Same.tk (same_new h0 _))) .nil)
end
end K25.Internal
namespace K25.Internal
open PySem L2.Internal BO.Internal KK.Internal
seal L2.Internal.PE L2.Internal.PA L2.Internal.PS L2.Internal.PSs L2.Internal.PT L2.Internal.PI
section
variable {P : Program} {w : World} {K : PySem.W.Frag} {mg : Str → Option Value} {base : Heap}
noncomputable def sp_lp : Sp := fun vs H Q _ => ∃ (M : Ad) (D : Bd) (pp o i f : Addr) (Pq : Pp) (pl : Int) (n : Nat), vs = [.ref M.b, .ref pp, .int pl] ∧ Dw H M D ∧ H pp = some (.lst [.ref o, .ref i, .ref f]) ∧ L3 H o i f Pq ∧ (∀ a ∈ [pp, o, i, f], a ∉ M.ls) ∧ Pq.ok ∧ Sz D n ∧ n ≤ 900 ∧ ∀ H', FB M H H' → Dw H' M (paste Pq pl D) → Q .non H'
theorem ok__law_paste (T : Txt K mg) : FnOk P w K mg base CX0 2 T.a__law_paste T.fd__law_paste ["_law_told_here", "_law_paper_here", "_law_place"] sp_lp := by
  have G__law_parts_due := ok__law_parts_due (P := P) (w := w) (base := base) T
  have G__law_use_due := ok__law_use_due (P := P) (w := w) (base := base) T
  refine T.F__law_paste.ok sc__law_paste (fun vs H Q E h => ?_) (fun cdv A0 outer s H vs Q E hr h => ?_)
  · obtain ⟨M, D, pp, o, i, f, Pq, pl, n, rfl, _⟩ := h
    rfl
  obtain ⟨M, D, pp, o, i, f, Pq, pl, n, rfl, B, epp, L, nM, ok, sz0, n9, q⟩ := h
  refine ⟨_, (pss_cons (ps_set (i := 3) sc__law_paste.nd rfl (Or.inl rfl) (pe_callB call_len_seq rfl T.z_len bt_len (pa_cons (pe_ix xc_list (cv 0) pe_int (fun _ _ => rfl)) pa_nil)))
    (pss_cons (ps_set (i := 4) sc__law_paste.nd rfl (Or.inl rfl) (pe_op oc_add (cv 3) (pe_callB call_len_seq rfl T.z_len bt_len (pa_cons (pe_ix xc_list (cv 1) pe_int (fun _ _ => rfl)) pa_nil))))
    (pss_cons (ps_for PassesOwn.never rfl (pi_range1 rfl T.z_range (pa_cons (pe_op oc_add (pe_callB call_len_seq rfl T.z_len bt_len (pa_cons (pe_ix xc_list (cv 1) pe_int (fun _ _ => rfl)) pa_nil)) (pe_callB call_len_seq rfl T.z_len bt_len (pa_cons (pe_ix xc_list (cv 1) pe_int (fun _ _ => rfl)) pa_nil))) pa_nil)) (pg_name (i := 5) sc__law_paste.nd rfl (Or.inl rfl))
      (pss_one (ps_expr (pec_app (pe_bm PySem.F.plainAttrs_list PySem.F.slot_list_append PySem.F.type_list_append mt_append (PE.mono (pe_ix xc_list (cv 0) pe_int (fun _ _ => rfl))) (pa_cons (PE.mono (cv 2)) pa_nil))))))
    (pss_cons (ps_for PassesOwn.never rfl (pi_range1 rfl T.z_range (pa_cons (pe_callB call_len_seq rfl T.z_len bt_len (pa_cons (pe_ix xc_list (cv 1) pe_int (fun _ _ => rfl)) pa_nil)) pa_nil)) (pg_name (i := 5) sc__law_paste.nd rfl (Or.inl rfl))
      (pss_one (ps_for PassesOwn.never rfl (pi_tup (pe_ix xc_list (pe_ix xc_list (cv 1) pe_int (fun _ _ => rfl)) (cv 5) (fun _ _ => rfl))) (pg_name (i := 6) sc__law_paste.nd rfl (Or.inl rfl))
        (pss_one (ps_expr (pec_app (pe_bm PySem.F.plainAttrs_list PySem.F.slot_list_append PySem.F.type_list_append mt_append (PE.mono (pe_ix xc_list (cv 0) pe_int (fun _ _ => rfl))) (pa_cons (PE.mono (pe_tup (pa_cons (pe_ix xc_tup (cv 6) pe_int (fun _ _ => rfl)) (pa_cons (pe_call G__law_parts_due (hr.mono (by decide)) rfl T.m__law_parts_due T.k__law_parts_due T.b__law_parts_due .nil pass0 (pa_cons (cv 6) (pa_cons (cv 3) (pa_cons (cv 4) pa_nil)))) (pa_cons (pe_op oc_add (cv 3) (cv 5)) (pa_cons (cv 2) pa_nil)))))) pa_nil))))))))
    (pss_cons (ps_for PassesOwn.never rfl (pi_range1 rfl T.z_range (pa_cons (pe_callB call_len_seq rfl T.z_len bt_len (pa_cons (pe_ix xc_list (cv 1) pe_int (fun _ _ => rfl)) pa_nil)) pa_nil)) (pg_name (i := 5) sc__law_paste.nd rfl (Or.inl rfl))
      (pss_one (ps_for PassesOwn.never rfl (pi_tup (pe_ix xc_list (pe_ix xc_list (cv 1) pe_int (fun _ _ => rfl)) (cv 5) (fun _ _ => rfl))) (pg_name (i := 6) sc__law_paste.nd rfl (Or.inl rfl))
        (pss_one (ps_expr (pec_app (pe_bm PySem.F.plainAttrs_list PySem.F.slot_list_append PySem.F.type_list_append mt_append (PE.mono (pe_ix xc_list (cv 0) pe_int (fun _ _ => rfl))) (pa_cons (PE.mono (pe_op op_catT (pe_tup (pa_cons (pe_ix xc_tup (cv 6) pe_int (fun _ _ => rfl)) (pa_cons (pe_op oc_add (cv 4) (cv 5)) (pa_cons (cv 2) (pa_cons pe_int pa_nil))))) (pe_call G__law_use_due (hr.mono (by decide)) rfl T.m__law_use_due T.k__law_use_due T.b__law_use_due .nil pass0 (pa_cons (cv 6) (pa_cons (cv 3) (pa_cons (cv 4) pa_nil)))))) pa_nil))))))))
    (pss_one (ps_for PassesOwn.never rfl (pi_list (pe_ix xc_list (cv 1) pe_int (fun _ _ => rfl))) (pg_name (i := 7) sc__law_paste.nd rfl (Or.inl rfl))
      (pss_one (ps_expr (pec_app (pe_bm PySem.F.plainAttrs_list PySem.F.slot_list_append PySem.F.type_list_append mt_append (PE.mono (pe_ix xc_list (cv 0) pe_int (fun _ _ => rfl))) (pa_cons (PE.mono (pe_tup (pa_cons (pe_op oc_add (cv 4) (pe_ix xc_tup (cv 7) pe_int (fun _ _ => rfl))) (pa_cons (pe_op oc_add (cv 3) (pe_ix xc_tup (cv 7) pe_int (fun _ _ => rfl))) pa_nil)))) pa_nil)))))))))))), ?_⟩
  have sl : sizeLine = 16777216 := sizeLine_eq
  obtain ⟨z1, z2, z3, z4⟩ := sz0
  have o1 := ok.o1
  have o8 := ok.o8
  have i8 := ok.i8
  have nL : ∀ a ∈ [o, i, f], a ∉ M.ls := fun a ha => nM a (List.mem_cons_of_mem _ ha)
  have npp := nM pp (by simp)
  obtain ⟨xo, eo, io⟩ := L.o
  have lo := io.length
  rw [List.length_map] at lo
  obtain ⟨xi, ei, ii⟩ := L.i
  have li := ii.length
  rw [List.length_map] at li
  refine ⟨_, B.b, onS_of (atI_nat (j := 0) rfl) ⟨M.p0, _, rfl, .inl (SqL.of B.e0), ?_⟩⟩
  dsimp only [gName]
  rw [List.length_map]
  refine ⟨_, epp, onS_of (atI_nat (j := 0) rfl) ⟨o, _, rfl, .inl (SqL.of eo), ?_⟩⟩
  dsimp only [gName]
  rw [lo]
  generalize hb : D.pts.length = b at *
  have ebi : (b : Int) + (Pq.outs.length : Int) = ((b + Pq.outs.length : Nat) : Int) := by omega
  refine ⟨_, epp, onS_of (atI_nat (j := 0) rfl) ⟨o, _, rfl, .inl (SqL.of eo), _, epp, onS_of (atI_nat (j := 1) rfl) ⟨i, _, rfl, .inl (SqL.of ei), ?_⟩⟩⟩
  -- the points
  refine ⟨_, rfl, by omega, by omega, for_nat (n := Pq.outs.length + Pq.ins.length) (by rw [lo, li]; omega) (fun k σ H2 => ∃ o5 : Option V, σ = [some (.ref M.b), some (.ref pp), some (.int pl), some (.int (b : Int)), some (.int ((b : Int) + (Pq.outs.length : Int))), o5, none, none] ∧ k ≤ Pq.outs.length + Pq.ins.length ∧ FB M H H2 ∧ Dw H2 M { D with pts := D.pts ++ List.replicate k pl })
    ⟨none, rfl, Nat.zero_le _, FB.same (Same.refl _), by rw [List.replicate_zero, List.append_nil]; exact B⟩ ?_ ?_⟩
  · rintro k σ H2 hk ⟨o5, rfl, kle, F2, B2⟩
    have lp : (D.pts ++ List.replicate k pl).length = b + k := by rw [ptsR, hb]
    dsimp only [gName]
    refine ⟨_, B2.b, onS_of (atI_nat (j := 0) rfl) ⟨⟨_, B2.e0⟩, _, B2.e0, by rw [List.length_map]; show (D.pts ++ List.replicate k pl).length < _; omega, _, rfl, by omega, F2.trans (FB.upd (by simp [Ad.ls]) B2.e0), ?_⟩⟩
    have B3 := B2.pt pl
    rw [List.replicate_succ', ← List.append_assoc]
    exact B3
  rintro σ H2 ⟨o5, rfl, _, F2, B2⟩
  have epp2 := F2.1 _ _ epp npp
  have eo2 := F2.1 _ _ eo (nL _ (by simp))
  have io2 := io.mono F2.2.tk
  have Lq2 := L.fb F2 nL
  -- the makings
  refine ⟨_, epp2, onS_of (atI_nat (j := 0) rfl) ⟨o, _, rfl, .inl (SqL.of eo2), ?_⟩⟩
  refine ⟨_, rfl, by omega, by omega, for_nat (n := Pq.outs.length) (by rw [lo]) (fun k σ H3 => ∃ o5 o6 : Option V, σ = [some (.ref M.b), some (.ref pp), some (.int pl), some (.int (b : Int)), some (.int ((b : Int) + (Pq.outs.length : Int))), o5, o6, none] ∧ k ≤ Pq.outs.length ∧ FB M H2 H3 ∧ Dw H3 M { D with pts := D.pts ++ List.replicate (Pq.outs.length + Pq.ins.length) pl, mks := D.mks ++ mkA b (b + Pq.outs.length) pl 0 (Pq.outs.take k) })
    ⟨_, none, rfl, Nat.zero_le _, FB.same (Same.refl _), by rw [List.take_zero, mkA, List.append_nil]; exact B2⟩ ?_ ?_⟩
  · rintro k σ H3 hk ⟨o5, o6, rfl, kle, F3, B3⟩
    obtain ⟨v2, hv2⟩ : ∃ v2, xo[k]? = some v2 := ⟨_, List.getElem?_eq_getElem (by omega)⟩
    obtain ⟨l, hl, il⟩ := ims_at (io2.mono F3.2.tk) hv2
    obtain ⟨ta, ys, rfl, eta, iy⟩ := im_tup il
    have om := ok.om l (List.mem_of_getElem? hl)
    have ly := iy.length
    rw [List.length_map] at ly
    have la := mkA_len b (b + Pq.outs.length) pl 0 (Pq.outs.take k) fun y hy => (ok.om y (List.mem_of_mem_take hy)).1
    rw [List.length_take] at la
    dsimp only [gName]
    refine ⟨_, F3.1 _ _ epp2 npp, onS_of (atI_nat (j := 0) rfl) ⟨_, F3.1 _ _ eo2 (nL _ (by simp)), onS_of (v := .ref ta) (by rw [Int.zero_add]; exact atI_nat hv2) ⟨ta, rfl, ⟨_, SqT.of eta⟩, for_tup (xs := ys) (fun j σ H5 => ∃ o6 : Option V, σ = [some (.ref M.b), some (.ref pp), some (.int pl), some (.int (b : Int)), some (.int ((b : Int) + (Pq.outs.length : Int))), some (.int (0 + (k : Int))), o6, none] ∧ j ≤ ys.length ∧ FB M H2 H5 ∧ TK H3 H5 ∧ Dw H5 M { D with pts := D.pts ++ List.replicate (Pq.outs.length + Pq.ins.length) pl, mks := D.mks ++ mkA b (b + Pq.outs.length) pl 0 (Pq.outs.take k) ++ mkO b (b + Pq.outs.length) pl k (l.take j) })
      ⟨_, rfl, Nat.zero_le _, F3, fun _ _ e => e, by rw [List.take_zero, mkO, List.map_nil, List.append_nil]; exact B3⟩ (fun j σ H5 _ ⟨_, _, _, _, tk, _⟩ => SqT.of (tk _ _ eta)) ?_ ?_⟩⟩⟩
    · rintro j v σ H5 hv ⟨o6, rfl, jle, F5, tk5, B5⟩
      obtain ⟨m, hm, im⟩ := ims_at (iy.mono tk5) hv
      have jl : j < l.length := (List.getElem?_eq_some_iff.mp hm).1
      have mok := om.2 m (List.mem_of_getElem? hm)
      obtain ⟨t, rr, rfl, et, hs⟩ := pm_at im
      obtain ⟨mv, em, am⟩ := B5.e1
      dsimp only [gName]
      refine ⟨_, B5.b, onS_of (atI_nat (j := 1) rfl) ⟨⟨_, em⟩, _, et, onS_of (atI_nat (j := 0) rfl) ⟨.ref t, m, b, b + Pq.outs.length, _, _, by rw [ebi]; rfl, im, mok, fun pv H6 S6 I6 => ⟨(by show 4 ≤ sizeLine; decide), fun t2 h2 => ?_⟩⟩⟩⟩
      have S7 := S6.trans (same_new h2 (.tup [.str m.sh, pv, .int ((b : Int) + (0 + (k : Int))), .int pl]))
      have B7 := B5.same S7
      have lm := am.length
      rw [List.length_map] at lm
      have lmk : (D.mks ++ mkA b (b + Pq.outs.length) pl 0 (Pq.outs.take k) ++ mkO b (b + Pq.outs.length) pl k (l.take j)).length ≤ 100000 := by
        rw [List.length_append, List.length_append, mkO, List.length_map, List.length_take]
        have := om.1
        omega
      have lm2 : mv.length ≤ 100000 := by rw [lm]; exact lmk
      have ix : Im (upd H6 t2 (.tup [.str m.sh, pv, .int ((b : Int) + (0 + (k : Int))), .int pl])) (.ref t2) (Mkg.d ⟨m.sh, m.parts b (b + Pq.outs.length), (b : Int) + (k : Int), pl⟩) := by
        have ed : Mkg.d ⟨m.sh, m.parts b (b + Pq.outs.length), (b : Int) + (k : Int), pl⟩ = Mkg.d ⟨m.sh, m.parts b (b + Pq.outs.length), (b : Int) + (0 + (k : Int)), pl⟩ := by rw [Int.zero_add]
        rw [ed]
        exact im_newK h2 (.cons (im_str _) (.cons I6 (.cons (im_int _) (.cons (im_int _) .nil))))
      refine ⟨mv, S7 _ _ em, by omega, _, rfl, by omega, (F5.then S7).trans (FB.upd (by simp [Ad.ls]) (S7 _ _ em)), fun a xs e => (fk_lst (S7 _ _ em)).tk _ _ (Same.tk S7 _ _ (tk5 _ _ e)), ?_⟩
      have B8 := B7.addM (S7 _ _ em) ix
      rw [take_snocK hm, mkO, List.map_append, ← List.append_assoc]
      exact B8
    · rintro σ H5 ⟨o6, rfl, jle, F5, tk5, B5⟩
      rw [ly, List.take_length] at B5
      refine ⟨_, _, rfl, by omega, F5, ?_⟩
      rw [take_snocK hl, mkA_snoc, List.length_take, Nat.min_eq_left (by omega), Nat.zero_add, ← List.append_assoc]
      exact B5
  rintro σ H3 ⟨o5, o6, rfl, _, F3, B3⟩
  rw [List.take_length] at B3
  have epp3 := F3.1 _ _ epp2 npp
  have L3' := Lq2.fb F3 nL
  obtain ⟨xi, ei3, ii3⟩ := L3'.i
  have li := ii3.length
  rw [List.length_map] at li
  -- the uses
  refine ⟨_, epp3, onS_of (atI_nat (j := 1) rfl) ⟨i, _, rfl, .inl (SqL.of ei3), ?_⟩⟩
  refine ⟨_, rfl, by omega, by omega, for_nat (n := Pq.ins.length) (by rw [li]) (fun k σ H4 => ∃ o5 o6 : Option V, σ = [some (.ref M.b), some (.ref pp), some (.int pl), some (.int (b : Int)), some (.int ((b : Int) + (Pq.outs.length : Int))), o5, o6, none] ∧ k ≤ Pq.ins.length ∧ FB M H3 H4 ∧ Dw H4 M { D with pts := D.pts ++ List.replicate (Pq.outs.length + Pq.ins.length) pl, mks := D.mks ++ mkA b (b + Pq.outs.length) pl 0 Pq.outs, uss := D.uss ++ usA b (b + Pq.outs.length) pl 0 (Pq.ins.take k) })
    ⟨_, _, rfl, Nat.zero_le _, FB.same (Same.refl _), by rw [List.take_zero, usA, List.append_nil]; exact B3⟩ ?_ ?_⟩
  · rintro k σ H4 hk ⟨o5, o6, rfl, kle, F4, B4⟩
    obtain ⟨v2, hv2⟩ : ∃ v2, xi[k]? = some v2 := ⟨_, List.getElem?_eq_getElem (by omega)⟩
    obtain ⟨l, hl, il⟩ := ims_at (ii3.mono F4.2.tk) hv2
    obtain ⟨ta, ys, rfl, eta, iy⟩ := im_tup il
    have om := ok.iu l (List.mem_of_getElem? hl)
    have ly := iy.length
    rw [List.length_map] at ly
    have la := usA_len b (b + Pq.outs.length) pl 0 (Pq.ins.take k) fun y hy => (ok.iu y (List.mem_of_mem_take hy)).1
    rw [List.length_take] at la
    dsimp only [gName]
    refine ⟨_, F4.1 _ _ epp3 npp, onS_of (atI_nat (j := 1) rfl) ⟨_, F4.1 _ _ ei3 (nL _ (by simp)), onS_of (v := .ref ta) (by rw [Int.zero_add]; exact atI_nat hv2) ⟨ta, rfl, ⟨_, SqT.of eta⟩, for_tup (xs := ys) (fun j σ H5 => ∃ o6 : Option V, σ = [some (.ref M.b), some (.ref pp), some (.int pl), some (.int (b : Int)), some (.int ((b : Int) + (Pq.outs.length : Int))), some (.int (0 + (k : Int))), o6, none] ∧ j ≤ ys.length ∧ FB M H3 H5 ∧ TK H4 H5 ∧ Dw H5 M { D with pts := D.pts ++ List.replicate (Pq.outs.length + Pq.ins.length) pl, mks := D.mks ++ mkA b (b + Pq.outs.length) pl 0 Pq.outs, uss := D.uss ++ usA b (b + Pq.outs.length) pl 0 (Pq.ins.take k) ++ usO b (b + Pq.outs.length) pl k (l.take j) })
      ⟨_, rfl, Nat.zero_le _, F4, fun _ _ e => e, by rw [List.take_zero, usO, List.map_nil, List.append_nil]; exact B4⟩ (fun j σ H5 _ ⟨_, _, _, _, tk, _⟩ => SqT.of (tk _ _ eta)) ?_ ?_⟩⟩⟩
    · rintro j v σ H5 hv ⟨o6, rfl, jle, F5, tk5, B5⟩
      obtain ⟨m, hm, im⟩ := ims_at (iy.mono tk5) hv
      have jl : j < l.length := (List.getElem?_eq_some_iff.mp hm).1
      have mok := om.2 m (List.mem_of_getElem? hm)
      obtain ⟨t, rr, rfl, et, hs⟩ := pu_at im
      obtain ⟨uv, eu, au⟩ := B5.e2
      dsimp only [gName]
      refine ⟨_, B5.b, onS_of (atI_nat (j := 2) rfl) ⟨⟨_, eu⟩, _, et, onS_of (atI_nat (j := 0) rfl) ⟨(by show 4 ≤ sizeLine; decide), fun t1 h1 => ?_⟩⟩⟩
      have S6 := same_new h1 (.tup [.str m.sh, .int ((b : Int) + (Pq.outs.length : Int) + (0 + (k : Int))), .int pl, .int 0])
      refine ⟨.ref t, m, b, b + Pq.outs.length, _, _, by rw [ebi]; rfl, im.mono (Same.tk S6), mok, fun t2 ts H7 S7 e7 I7 => ?_⟩
      have lts := I7.length
      have ltl : (m.tail b (b + Pq.outs.length)).length ≤ 2 := by cases m <;> simp [Pu.tail]
      have lu := au.length
      rw [List.length_map] at lu
      have luk : (D.uss ++ usA b (b + Pq.outs.length) pl 0 (Pq.ins.take k) ++ usO b (b + Pq.outs.length) pl k (l.take j)).length ≤ 100000 := by
        rw [List.length_append, List.length_append, usO, List.length_map, List.length_take]
        have := om.1
        omega
      have lu2 : uv.length ≤ 100000 := by rw [lu]; exact luk
      have ed : hdD m.sh (((b + Pq.outs.length : Nat) : Int) + (k : Int)) pl 0 = hdD m.sh ((b : Int) + (Pq.outs.length : Int) + (0 + (k : Int))) pl 0 := by rw [Int.zero_add, ebi]
      have i4 : ∀ H' : Hp, Ims H' [.str m.sh, .int ((b : Int) + (Pq.outs.length : Int) + (0 + (k : Int))), .int pl, .int 0] (hdD m.sh (((b + Pq.outs.length : Nat) : Int) + (k : Int)) pl 0) := fun H' => by
        rw [ed]
        exact .cons (im_str _) (.cons (im_int _) (.cons (im_int _) (.cons (im_int _) .nil)))
      have fin : ∀ (t3 : Addr) (H8 : Hp), Same H5 H8 → Im H8 (.ref t3) (m.us b (b + Pq.outs.length) (((b + Pq.outs.length : Nat) : Int) + (k : Int)) pl).d → H8 M.p2 = some (.lst uv) ∧ FB M H3 (upd H8 M.p2 (.lst (uv ++ [.ref t3]))) ∧ TK H4 (upd H8 M.p2 (.lst (uv ++ [.ref t3]))) ∧ Dw (upd H8 M.p2 (.lst (uv ++ [.ref t3]))) M { D with pts := D.pts ++ List.replicate (Pq.outs.length + Pq.ins.length) pl, mks := D.mks ++ mkA b (b + Pq.outs.length) pl 0 Pq.outs, uss := D.uss ++ usA b (b + Pq.outs.length) pl 0 (Pq.ins.take k) ++ usO b (b + Pq.outs.length) pl k (l.take (j + 1)) } := fun t3 H8 S8 ix => by
        refine ⟨S8 _ _ eu, (F5.then S8).trans (FB.upd (by simp [Ad.ls]) (S8 _ _ eu)), fun a xs e => (fk_lst (S8 _ _ eu)).tk _ _ (Same.tk S8 _ _ (tk5 _ _ e)), ?_⟩
        have B9 := (B5.same S8).us (S8 _ _ eu) ix
        rw [take_snocK hm, usO, List.map_append, ← List.append_assoc]
        exact B9
      refine ⟨t1, t2, _, ts, rfl, rfl, SqT.of (S7 _ _ upd_same), SqT.of e7, by simp, by show 4 + ts.length ≤ _; omega, fun hts => ?_, fun _ t3 h3 => ?_⟩
      · subst hts
        have i0 : Im H7 (.ref t1) (m.us b (b + Pq.outs.length) (((b + Pq.outs.length : Nat) : Int) + (k : Int)) pl).d := by
          rw [us_d, List.eq_nil_of_length_eq_zero lts.symm, List.append_nil]
          exact .tup (S7 _ _ upd_same) (i4 _)
        obtain ⟨f1, f2, f3, f4⟩ := fin t1 H7 (S6.trans S7) i0
        exact ⟨uv, f1, by omega, _, rfl, by omega, f2, f3, f4⟩
      · have i3 : Im (upd H7 t3 (.tup ([.str m.sh, .int ((b : Int) + (Pq.outs.length : Int) + (0 + (k : Int))), .int pl, .int 0] ++ ts))) (.ref t3) (m.us b (b + Pq.outs.length) (((b + Pq.outs.length : Nat) : Int) + (k : Int)) pl).d := by
          rw [us_d]
          exact im_newK h3 (Ims.app (i4 _) I7)
        obtain ⟨f1, f2, f3, f4⟩ := fin t3 _ ((S6.trans S7).trans (same_new h3 _)) i3
        exact ⟨uv, f1, by omega, _, rfl, by omega, f2, f3, f4⟩
    · rintro σ H5 ⟨o6, rfl, jle, F5, tk5, B5⟩
      rw [ly, List.take_length] at B5
      refine ⟨_, _, rfl, by omega, F5, ?_⟩
      rw [take_snocK hl, usA_snoc, List.length_take, Nat.min_eq_left (by omega), Nat.zero_add, ← List.append_assoc]
      exact B5
  rintro σ H4 ⟨o5, o6, rfl, _, F4, B4⟩
  rw [List.take_length] at B4
  have epp4 := F4.1 _ _ epp3 npp
  have L4 := L3'.fb F4 nL
  obtain ⟨xf, ef, jf⟩ := L4.f
  have lf := jf.length
  rw [List.length_map] at lf
  -- the flows
  refine ⟨_, epp4, onS_of (atI_nat (j := 2) rfl) ⟨f, rfl, ⟨_, SqL.of ef⟩, for_list (xs := xf) (fun k σ H5 => ∃ o7 : Option V, σ = [some (.ref M.b), some (.ref pp), some (.int pl), some (.int (b : Int)), some (.int ((b : Int) + (Pq.outs.length : Int))), o5, o6, o7] ∧ k ≤ xf.length ∧ FB M H4 H5 ∧ Dw H5 M { D with pts := D.pts ++ List.replicate (Pq.outs.length + Pq.ins.length) pl, mks := D.mks ++ mkA b (b + Pq.outs.length) pl 0 Pq.outs, uss := D.uss ++ usA b (b + Pq.outs.length) pl 0 Pq.ins, fls := D.fls ++ (Pq.fls.take k).map (flF b (b + Pq.outs.length)) })
    ⟨none, rfl, Nat.zero_le _, FB.same (Same.refl _), by rw [List.take_zero, List.map_nil, List.append_nil]; exact B4⟩ (fun k σ H5 _ ⟨_, _, _, F, _⟩ => SqL.of (F.1 _ _ ef (nL _ (by simp)))) ?_ ?_⟩⟩
  · rintro k v σ H5 hv ⟨o7, rfl, kle, F5, B5⟩
    have kl := (List.getElem?_eq_some_iff.mp hv).1
    obtain ⟨p, hp, ip⟩ := ims_at (jf.mono F5.2.tk) hv
    obtain ⟨t, ys, rfl, et, iy⟩ := im_tup ip
    obtain ⟨y1, y2, rfl, j1, j2⟩ := ims2K iy
    rw [im_nI j1, im_nI j2] at et
    obtain ⟨fv, efv, ifv⟩ := B5.e3
    have lfv := ifv.length
    have lfk : (D.fls ++ (Pq.fls.take k).map (flF b (b + Pq.outs.length))).length ≤ 100000 := by
      rw [List.length_append, List.length_map, List.length_take]
      have := ok.ff.1
      omega
    have lf2 : fv.length ≤ 100000 := by rw [lfv, List.length_map]; exact lfk
    dsimp only [gName]
    refine ⟨_, B5.b, onS_of (atI_nat (j := 3) rfl) ⟨⟨_, efv⟩, _, et, onS_of (atI_nat (j := 0) rfl) ⟨_, et, onS_of (atI_nat (j := 1) rfl) ⟨(by show 2 ≤ sizeLine; decide), fun tn htn => ?_⟩⟩⟩⟩
    have S6 := same_new htn (.tup [.int ((b : Int) + (Pq.outs.length : Int) + (p.1 : Int)), .int ((b : Int) + (p.2 : Int))])
    have ix : Im (upd H5 tn (.tup [.int ((b : Int) + (Pq.outs.length : Int) + (p.1 : Int)), .int ((b : Int) + (p.2 : Int))])) (.ref tn) (flD (flF b (b + Pq.outs.length) p)) := by
      unfold flF
      rw [← ebi]
      exact im_newK htn (.cons (im_int _) (.cons (im_int _) .nil))
    have B6 := (B5.same S6).fl (S6 _ _ efv) ix
    refine ⟨fv, S6 _ _ efv, by omega, _, rfl, by omega, (F5.then S6).trans (FB.upd (by simp [Ad.ls]) (S6 _ _ efv)), ?_⟩
    rw [take_snocK hp, List.map_append, ← List.append_assoc]
    exact B6
  rintro σ H5 ⟨o7, rfl, _, F5, B5⟩
  rw [lf, List.take_length] at B5
  refine q _ (((F2.trans F3).trans F4).trans F5) ?_
  unfold paste
  rw [hb]
  exact B5
end
end K25.Internal
namespace K25.Internal
open PySem L2.Internal BO.Internal KK.Internal
seal L2.Internal.PE L2.Internal.PA L2.Internal.PS L2.Internal.PSs L2.Internal.PT L2.Internal.PI
section
variable {i : Nat} {s w : Str} {t u : TS} {D : Ends} {σ : St} {H : Hp}
theorem vs_no {u' : TS} (hv : σ[i]? = some (some (.str s))) (h : s ≠ w) (q : u' D σ H) : tSeq (tIfS (cT (tOp (cEq false) (cV i) (tC (.str w)))) t tNext) u' D σ H := by
  show onV σ[i]? _
  rw [hv]
  show if (false ^^ decide (s = w)) = true then _ else _
  rw [decide_eq_false h]
  exact q
theorem vs_yes {u' : TS} (hv : σ[i]? = some (some (.str s))) (h : s = w) (q : t { D with nx := u' D } σ H) : tSeq (tIfS (cT (tOp (cEq false) (cV i) (tC (.str w)))) t u) u' D σ H := by
  show onV σ[i]? _
  rw [hv]
  show if (false ^^ decide (s = w)) = true then _ else _
  rw [decide_eq_true h]
  exact q
end
theorem lastT {H1 : Hp} : ∀ {s2 : Str} {t : TS} {D : Ends} {σ : St} {u' : TS}, σ[4]? = some (some (.str s2)) → s2 ≠ "row" → (s2 ≠ "fn" ∨ ∃ k : Nat, 1 ≤ k ∧ σ[3]? = some (some (.int (k : Int)))) → u' D σ H1 → tSeq (tIfS (tOr (cT (tOp (cEq false) (cV 4) (tC (.str "row")))) (tAnd (cT (tOp (cEq false) (cV 4) (tC (.str "fn")))) (cT (tOp (cEq false) (cV 3) (tC (.int 0)))))) t tNext) u' D σ H1 := by
  intro s2 t D σ u' hv hn hf qq
  show onV σ[4]? _
  rw [hv]
  show if (false ^^ decide (s2 = "row")) = true then _ else onV σ[4]? _
  rw [decide_eq_false hn, hv]
  refine iteF ?_
  show if (false ^^ decide (s2 = "fn")) = true then _ else _
  by_cases e : s2 = "fn"
  · rcases hf with hf | ⟨k, hk, h3⟩
    · exact absurd e hf
    · rw [decide_eq_true e]
      refine iteT ?_
      show onV σ[3]? _
      rw [h3]
      show if (false ^^ decide ((k : Int) = 0)) = true then _ else _
      rw [decide_eq_false (by omega)]
      exact qq
  · rw [decide_eq_false e]
    exact qq
theorem last0T {H1 : Hp} : ∀ {s2 : Str} {k : Int} {t : TS} {D : Ends} {σ : St} {u' : TS}, σ[4]? = some (some (.str s2)) → s2 = "fn" → σ[3]? = some (some (.int k)) → k = 0 → t { D with nx := u' D } σ H1 → tSeq (tIfS (tOr (cT (tOp (cEq false) (cV 4) (tC (.str "row")))) (tAnd (cT (tOp (cEq false) (cV 4) (tC (.str "fn")))) (cT (tOp (cEq false) (cV 3) (tC (.int 0)))))) t tNext) u' D σ H1 := by
  intro s2 k t D σ u' hv hs h3 hk qq
  show onV σ[4]? _
  rw [hv]
  show if (false ^^ decide (s2 = "row")) = true then _ else onV σ[4]? _
  rw [decide_eq_false (show ¬ s2 = "row" by rw [hs]; decide +kernel), hv]
  refine iteF ?_
  show if (false ^^ decide (s2 = "fn")) = true then _ else _
  rw [decide_eq_true hs]
  refine iteT ?_
  show onV σ[3]? _
  rw [h3]
  show if (false ^^ decide (k = 0)) = true then _ else _
  rw [decide_eq_true hk]
  exact qq
theorem twoT {H1 : Hp} : ∀ {s2 : Str} {t : TS} {D : Ends} {σ : St} {u' : TS}, σ[4]? = some (some (.str s2)) → s2 ≠ "take" → s2 ≠ "case" → u' D σ H1 → tSeq (tIfS (tOr (cT (tOp (cEq false) (cV 4) (tC (.str "take")))) (cT (tOp (cEq false) (cV 4) (tC (.str "case"))))) t tNext) u' D σ H1 := by
  intro s2 t D σ u' hv hn hf qq
  show onV σ[4]? _
  rw [hv]
  show if (false ^^ decide (s2 = "take")) = true then _ else onV σ[4]? _
  rw [decide_eq_false hn, hv]
  refine iteF ?_
  show if (false ^^ decide (s2 = "case")) = true then _ else _
  rw [decide_eq_false hf]
  exact qq
theorem two1T {H1 : Hp} : ∀ {s2 : Str} {t : TS} {D : Ends} {σ : St} {u' : TS}, σ[4]? = some (some (.str s2)) → (s2 = "take" ∨ s2 = "case") → t { D with nx := u' D } σ H1 → tSeq (tIfS (tOr (cT (tOp (cEq false) (cV 4) (tC (.str "take")))) (cT (tOp (cEq false) (cV 4) (tC (.str "case"))))) t tNext) u' D σ H1 := by
  intro s2 t D σ u' hv hf qq
  show onV σ[4]? _
  rw [hv]
  show if (false ^^ decide (s2 = "take")) = true then _ else onV σ[4]? _
  by_cases e : s2 = "take"
  · rw [decide_eq_true e]
    exact qq
  · rw [decide_eq_false e, hv]
    refine iteF ?_
    show if (false ^^ decide (s2 = "case")) = true then _ else _
    rw [decide_eq_true (hf.resolve_left e)]
    exact qq
theorem lastRT {H1 : Hp} {s2 : Str} {t : TS} {D : Ends} {σ : St} {u' : TS} (hv : σ[4]? = some (some (.str s2))) (hs : s2 = "row") (qq : t { D with nx := u' D } σ H1) : tSeq (tIfS (tOr (cT (tOp (cEq false) (cV 4) (tC (.str "row")))) (tAnd (cT (tOp (cEq false) (cV 4) (tC (.str "fn")))) (cT (tOp (cEq false) (cV 3) (tC (.int 0)))))) t tNext) u' D σ H1 := by
  show onV σ[4]? _
  rw [hv]
  show if (false ^^ decide (s2 = "row")) = true then _ else onV σ[4]? _
  rw [decide_eq_true hs]
  exact qq
theorem wd_same {H H' : Hp} {l : Addr} (h : Wd H l) (S : Same H H') : Wd H' l := by
  obtain ⟨ws, e, n⟩ := h
  exact ⟨ws, S l _ e, n⟩
theorem wd_at {H : Hp} {l : Addr} (h : Wd H l) : ∃ ws : List Str, H l = some (.lst (ws.map V.str)) ∧ ∀ i : Int, ∃ z, atI (ws.map V.str) (i % 16) = some (.str z) := by
  obtain ⟨ws, e, n, _⟩ := h
  refine ⟨ws, e, fun i => ?_⟩
  have h0 := Int.emod_nonneg i (show (16 : Int) ≠ 0 by decide)
  have h1 := Int.emod_lt_of_pos i (show (0 : Int) < 16 by decide)
  obtain ⟨v, hv, mv⟩ := atI_lt (ws.map V.str) (i % 16) h0 (by rw [List.length_map, n]; omega)
  obtain ⟨z, _, rfl⟩ := List.mem_map.mp mv
  exact ⟨z, hv⟩
theorem mod_nat {x : Int} {n : Nat} (h : 1 ≤ n) : ∃ y : Nat, x % (n : Int) = (y : Int) ∧ y < n := by
  have h0 := Int.emod_nonneg x (show (n : Int) ≠ 0 by omega)
  have h1 := Int.emod_lt_of_pos x (show (0 : Int) < (n : Int) by omega)
  exact ⟨(x % (n : Int)).toNat, (Int.toNat_of_nonneg h0).symm, by omega⟩
theorem putK_mem {κ : Type} [DecidableEq κ] {kvs : List (κ × V)} {k : κ} {v : V} {p : κ × V} (h : p ∈ putK kvs k v) : p ∈ kvs ∨ p = (k, v) := by
  unfold putK at h
  split at h
  · obtain ⟨q, hq, e⟩ := List.mem_map.mp h
    by_cases hk : q.1 = k
    · rw [if_pos hk, hk] at e
      exact .inr e.symm
    · rw [if_neg hk] at e
      exact .inl (e ▸ hq)
  · rcases List.mem_append.mp h with h | h
    · exact .inl h
    · exact .inr (List.mem_singleton.mp h)
theorem its_ims {n : Nat} {H : Hp} : ∀ {bs : List Addr} {ps : List (Key × V)}, (∀ p ∈ ps, ∃ (z : Str) (y : Nat), p = (.inr z, .int (y : Int)) ∧ y < n) → bs.length = ps.length → (∀ (j : Nat) (b : Addr) (p : Key × V), bs[j]? = some b → ps[j]? = some p → H b = some (itT p)) →
    ∃ l : List (Str × Nat), l.length = ps.length ∧ (∀ q ∈ l, q.2 < n) ∧ Ims H (bs.map V.ref) (l.map fun p => .tup [sD p.1, nI p.2])
  | [], [], _, _, _ => ⟨[], rfl, fun q hq => (by cases hq), .nil⟩
  | [], _ :: _, _, h, _ => by cases h
  | _ :: _, [], _, h, _ => by cases h
  | b :: bs, p :: ps, hp, hl, hb => by
    obtain ⟨l, h1, h2, h3⟩ := its_ims (n := n) (H := H) (bs := bs) (ps := ps) (fun q hq => hp q (by simp [hq])) (by simpa using hl) (fun j b' p' e1 e2 => hb (j + 1) b' p' (by simpa using e1) (by simpa using e2))
    obtain ⟨z, y, rfl, hy⟩ := hp p (by simp)
    refine ⟨(z, y) :: l, by simp [h1], fun q hq => ?_, ?_⟩
    · rcases List.mem_cons.mp hq with rfl | hq
      · exact hy
      · exact h2 q hq
    · exact .cons (.tup (hb 0 b _ rfl rfl) (.cons (im_str _) (.cons (im_int _) .nil))) h3
section
variable {P : Program} {w : World} {K : PySem.W.Frag} {mg : Str → Option Value} {base : Heap}
noncomputable def sp_wb : Sp := fun vs H Q _ => ∃ (wl : Addr) (c : Int) (m n : Nat), vs = [.ref wl, .int c, .int (m : Int), .int (n : Int)] ∧ Wd H wl ∧ m ≤ 4 ∧ 1 ≤ n ∧ ∀ v l H', Same H H' → l.length ≤ 4 → (∀ p ∈ l, p.2 < n) → Im H' v (prN l) → Q v H'
theorem ok__law_words_by (T : Txt K mg) : FnOk P w K mg base CX0 2 T.a__law_words_by T.fd__law_words_by ["_law_words_here", "_law_c", "_law_many", "_law_size"] sp_wb := by
  have G__law_mix := ok__law_mix (P := P) (w := w) (base := base) T
  refine T.F__law_words_by.ok sc__law_words_by (fun vs H Q E h => ?_) (fun cdv A0 outer s H vs Q E hr h => ?_)
  · obtain ⟨wl, c, m, n, rfl, _⟩ := h
    rfl
  obtain ⟨wl, c, m, n, rfl, hw, m4, n1, q⟩ := h
  have hu := hu_of hr
  refine ⟨_, (pss_cons (ps_set (i := 4) sc__law_words_by.nd rfl (Or.inl rfl) pe_dnewK)
    (pss_cons (ps_for PassesOwn.never rfl (pi_range1 rfl T.z_range (pa_cons (cv 2) pa_nil)) (pg_name (i := 5) sc__law_words_by.nd rfl (Or.inl rfl))
      (pss_one (ps_dput hu (cv 4) (pe_ix xc_list (cv 0) (pe_op oc_mod (pe_op oc_add (cv 1) (pe_op oc_mul pe_int (cv 5))) pe_int) (fun _ _ => rfl)) (pe_op oc_mod (pe_call G__law_mix (hr.mono (by decide)) rfl T.m__law_mix T.k__law_mix T.b__law_mix .nil pass0 (pa_cons (cv 1) (pa_cons (pe_op oc_add pe_int (cv 5)) pa_nil))) (cv 3)) rfl)))
    (pss_one (ps_ret (pe_callTy call_tuple_of rfl T.z_tuple bt_tuple (pa_cons (pe_callB (call_sortedI rfl) rfl T.z_sorted bt_sorted (pa_cons (pe_bm0 PySem.F.plainAttrs_dict PySem.F.slot_dict_items PySem.F.type_dict_items mt_items (cv 4)) pa_nil)) pa_nil)))))), ?_⟩
  have sl : sizeLine = 16777216 := sizeLine_eq
  refine fun d hd => ?_
  have S0 := same_new hd (.dK [])
  have e0 : (upd H d (.dK [])) d = some (.dK []) := upd_same
  dsimp only [gName]
  generalize upd H d (.dK []) = H0 at S0 e0 ⊢
  refine ⟨(m : Int), rfl, by omega, by omega, for_nat (n := m) rfl (fun k σ H2 => ∃ (kvs : List (Key × V)) (o5 : Option V), σ = [some (.ref wl), some (.int c), some (.int (m : Int)), some (.int (n : Int)), some (.ref d), o5] ∧ Same H H2 ∧ H2 d = some (.dK kvs) ∧ kvs.length ≤ k ∧ ∀ p ∈ kvs, ∃ (z : Str) (y : Nat), p = (.inr z, .int (y : Int)) ∧ y < n)
    ⟨[], none, rfl, S0, e0, Nat.le_refl _, fun p hp => (by cases hp)⟩ ?_ ?_⟩
  · rintro k σ H2 hk ⟨kvs, o5, rfl, S2, e2, lk, hp⟩
    obtain ⟨ws, ew, wat⟩ := wd_at (wd_same hw S2)
    dsimp only [gName]
    refine ⟨c, _, rfl, by omega, by omega, fun n0 h0 h1 => ⟨by show (0 : Int) < (n : Int); omega, ?_⟩⟩
    obtain ⟨y, ey, hy⟩ := mod_nat (x := n0) n1
    obtain ⟨z, hz⟩ := wat (c + 5 * (0 + (k : Int)))
    refine ⟨.inl ⟨by decide, by decide⟩, (by show (0 : Int) < 16; decide), _, ew, onS_of hz ⟨d, _, rfl, DPut.k (k := .inr z) e2 (by omega), putK kvs (.inr z) (.int (n0 % (n : Int))), _, rfl, fun a o e => ?_, upd_same, ?_, fun p hp' => ?_⟩⟩
    · rw [upd_ne (ne_of_none e hd)]
      exact S2 a o e
    · have := length_putK kvs (.inr z : Key) (V.int (n0 % (n : Int)))
      omega
    · rcases putK_mem hp' with h | h
      · exact hp p h
      · exact ⟨z, y, by rw [h, ey], hy⟩
  · rintro σ H2 ⟨kvs, o5, rfl, S2, e2, lk, hp⟩
    refine ⟨.inr (.inr (.inl ⟨rfl, .inl ⟨_, e2⟩⟩)), d, kvs, rfl, rfl, e2, fun r hr => ?_⟩
    have S3 := same_new hr (.ext fun h => h.IsItemsView r d)
    refine ⟨r, d, kvs, rfl, upd_same, S3 _ _ e2, by omega, fun p h => ?_, fun H' l bs ps S4 hl el pp lb hb => ?_⟩
    · obtain ⟨z, y, rfl, _⟩ := hp p h
      exact ⟨⟨z, rfl⟩, ⟨_, rfl⟩⟩
    · obtain ⟨l2, a1, a2, a3⟩ := its_ims (n := n) (H := H') (fun p h => hp p (pp.mem_iff.mp h)) lb hb
      refine ⟨l, _, rfl, .inl ⟨SqL.of el, fun tp htp => ?_⟩⟩
      exact q _ l2 _ ((S2.trans (S3.trans S4)).trans (same_new htp _)) (by rw [a1, pp.length_eq]; omega) a2 (im_newK htp a3)
noncomputable def sp_mak : Sp := fun vs H Q _ => ∃ (wl : Addr) (c : Int) (no ni : Nat), vs = [.ref wl, .int c, .int (no : Int), .int (ni : Int)] ∧ Wd H wl ∧ 1 ≤ no ∧ ∀ v m H', Same H H' → Pm.ok no ni m → Im H' v m.d → Q v H'
theorem ok__law_making (T : Txt K mg) : FnOk P w K mg base CX0 3 T.a__law_making T.fd__law_making ["_law_words_here", "_law_c", "_law_outs", "_law_ins"] sp_mak := by
  have G__law_mix := ok__law_mix (P := P) (w := w) (base := base) T
  have G__law_words_by := ok__law_words_by (P := P) (w := w) (base := base) T
  refine T.F__law_making.ok sc__law_making (fun vs H Q E h => ?_) (fun cdv A0 outer s H vs Q E hr h => ?_)
  · obtain ⟨wl, c, no, ni, rfl, _⟩ := h
    rfl
  obtain ⟨wl, c, no, ni, rfl, hw, n1, q⟩ := h
  refine ⟨_, (pss_cons (ps_set (i := 4) sc__law_making.nd rfl (Or.inl rfl) (pe_ix xc_list (pe_lst (pa_strs (xs := ["num", "fn", "rec", "tag", "row", "any", "fn", "row"]) (by decide +kernel))) (pe_op oc_mod (cv 1) pe_int) (fun _ _ => rfl)))
    (pss_cons (ps_set (i := 5) sc__law_making.nd rfl (Or.inl rfl) (pe_op oc_mod (pe_call G__law_mix (hr.mono (by decide)) rfl T.m__law_mix T.k__law_mix T.b__law_mix .nil pass0 (pa_cons (cv 1) (pa_cons pe_int pa_nil))) (cv 2)))
    (pss_cons (ps_if (ptc_cmpR oc_eq (cv 4) pe_str (nomark _))
      (pss_one (ps_ret (pe_tup (pa_cons (cv 4) (pa_cons (pe_call G__law_words_by (hr.mono (by decide)) rfl T.m__law_words_by T.k__law_words_by T.b__law_words_by .nil pass0 (pa_cons (cv 0) (pa_cons (pe_op oc_fdiv (cv 1) pe_int) (pa_cons (pe_op oc_mod (pe_call G__law_mix (hr.mono (by decide)) rfl T.m__law_mix T.k__law_mix T.b__law_mix .nil pass0 (pa_cons (cv 1) (pa_cons pe_int pa_nil))) pe_int) (pa_cons (cv 2) pa_nil))))) pa_nil)))))
      pss_nil)
    (pss_cons (ps_if (ptc_cmpR oc_eq (cv 4) pe_str (nomark _))
      (pss_one (ps_ret (pe_tup (pa_cons (cv 4) (pa_cons (pe_ix xc_list (cv 0) (pe_op oc_mod (pe_op oc_fdiv (cv 1) pe_int) pe_int) (fun _ _ => rfl)) (pa_cons (cv 5) pa_nil))))))
      pss_nil)
    (pss_cons (ps_if (PW.pt (pw_or (ptc_cmpR oc_eq (cv 4) pe_str (nomark _)) (pw_or1 (PW.pt (pw_and (ptc_cmpR oc_eq (cv 4) pe_str (nomark _)) (pw_and1 (ptc_cmpR oc_eq (cv 3) pe_int (nomark _))))))))
      (pss_one (ps_ret (pe_tup (pa_cons pe_str (pa_cons (cv 5) pa_nil)))))
      pss_nil)
    (pss_cons (ps_if (ptc_cmpR oc_eq (cv 4) pe_str (nomark _))
      (pss_one (ps_ret (pe_tup (pa_cons (cv 4) (pa_cons (pe_op oc_mod (pe_call G__law_mix (hr.mono (by decide)) rfl T.m__law_mix T.k__law_mix T.b__law_mix .nil pass0 (pa_cons (cv 1) (pa_cons pe_int pa_nil))) (cv 3)) (pa_cons (cv 5) pa_nil))))))
      pss_nil)
    (pss_one (ps_ret (pe_tup (pa_cons (cv 4) pa_nil)))))))))), ?_⟩
  have sl : sizeLine = 16777216 := sizeLine_eq
  refine ⟨(by show 8 ≤ sizeLine; decide), fun L hL => ⟨(by show (0 : Int) < 8; decide), _, upd_same, ?_⟩⟩
  have S1 := same_new hL (.lst ((["num", "fn", "rec", "tag", "row", "any", "fn", "row"] : List Str).map V.str))
  have h0 := Int.emod_nonneg c (show (8 : Int) ≠ 0 by decide)
  have h1 := Int.emod_lt_of_pos c (show (0 : Int) < 8 by decide)
  obtain ⟨v, hv, mv⟩ := atI_lt ((["num", "fn", "rec", "tag", "row", "any", "fn", "row"] : List Str).map V.str) (c % 8) h0 (by show _ < (8 : Int); exact h1)
  obtain ⟨sh, hsh, rfl⟩ := List.mem_map.mp mv
  refine onS_of hv ?_
  have hw1 := wd_same hw S1
  dsimp only [gName]
  generalize upd H L (.lst ((["num", "fn", "rec", "tag", "row", "any", "fn", "row"] : List Str).map V.str)) = H1 at S1 hw1 ⊢
  refine ⟨c, 2, rfl, by decide, by decide, fun n0 _ _ => ⟨by show (0 : Int) < (no : Int); omega, ?_⟩⟩
  obtain ⟨y, ey, hy⟩ := mod_nat (x := n0) n1
  dsimp only [gName]
  rw [ey]
  have cs6 : sh = "num" ∨ sh = "fn" ∨ sh = "rec" ∨ sh = "tag" ∨ sh = "row" ∨ sh = "any" := by
    simp only [List.mem_cons, List.not_mem_nil, or_false] at hsh
    rcases hsh with h | h | h | h | h | h | h | h
    · exact .inl h
    · exact .inr (.inl h)
    · exact .inr (.inr (.inl h))
    · exact .inr (.inr (.inr (.inl h)))
    · exact .inr (.inr (.inr (.inr (.inl h))))
    · exact .inr (.inr (.inr (.inr (.inr h))))
    · exact .inr (.inl h)
    · exact .inr (.inr (.inr (.inr (.inl h))))
  rcases cs6 with rfl | rfl | rfl | rfl | rfl | rfl
  · refine vs_no rfl (by decide +kernel) (vs_no rfl (by decide +kernel) (lastT rfl (by decide +kernel) (.inl (by decide +kernel)) (vs_no rfl (by decide +kernel) ?_)))
    exact ⟨(by show 1 ≤ sizeLine; decide), fun t ht => q _ .num _ (S1.trans (same_new ht _)) trivial (im_newK ht (.cons (im_str _) .nil))⟩
  · refine vs_no rfl (by decide +kernel) (vs_no rfl (by decide +kernel) ?_)
    rcases Nat.eq_zero_or_pos ni with z | z
    · subst z
      refine last0T rfl rfl rfl rfl ?_
      exact ⟨(by show 2 ≤ sizeLine; decide), fun t ht => q _ (.row y) _ (S1.trans (same_new ht _)) hy (im_newK ht (.cons (im_str _) (.cons (im_int _) .nil)))⟩
    · refine lastT rfl (by decide +kernel) (.inr ⟨ni, z, rfl⟩) (vs_yes rfl rfl ?_)
      refine ⟨c, 3, rfl, by decide, by decide, fun n1' _ _ => ⟨by show (0 : Int) < (ni : Int); omega, ?_⟩⟩
      obtain ⟨x, ex, hx⟩ := mod_nat (x := n1') (show 1 ≤ ni from z)
      have ix : ∀ H' : Hp, Im H' (.int (n1' % (ni : Int))) (nI x) := fun H' => by rw [ex]; exact im_int _
      exact ⟨(by show 3 ≤ sizeLine; decide), fun t ht => q _ (.fn x y) _ (S1.trans (same_new ht _)) ⟨hx, hy⟩ (im_newK ht (.cons (im_str _) (.cons (ix _) (.cons (im_int _) .nil))))⟩
  · refine vs_yes rfl rfl ?_
    refine ⟨⟨by decide, by decide⟩, c, 3, rfl, by decide, by decide, fun n1' _ _ => ⟨(by show (0 : Int) < 4; decide), ?_⟩⟩
    obtain ⟨x, ex, hx⟩ := mod_nat (x := n1') (n := 4) (by decide)
    refine ⟨wl, c / 8, x, no, ?_, hw1, by omega, n1, fun v l H2 S2 l4 hl il => ⟨(by show 2 ≤ sizeLine; decide), fun t ht => q _ (.rcd l) _ ((S1.trans S2).trans (same_new ht _)) ⟨l4, hl⟩ (im_newK ht (.cons (im_str _) (.cons il .nil)))⟩⟩
    show [V.ref wl, _, V.int (n1' % ((4 : Nat) : Int)), _] = _
    rw [ex]
    try rfl
  · refine vs_no rfl (by decide +kernel) (vs_yes rfl rfl ?_)
    obtain ⟨ws, ew, wat⟩ := wd_at hw1
    obtain ⟨z, hz⟩ := wat (c / 8)
    exact ⟨⟨by decide, by decide⟩, (by show (0 : Int) < 16; decide), _, ew, onS_of hz ⟨(by show 3 ≤ sizeLine; decide), fun t ht => q _ (.tag z y) _ (S1.trans (same_new ht _)) hy (im_newK ht (.cons (im_str _) (.cons (im_str _) (.cons (im_int _) .nil))))⟩⟩
  · refine vs_no rfl (by decide +kernel) (vs_no rfl (by decide +kernel) ?_)
    refine lastRT rfl rfl ?_
    exact ⟨(by show 2 ≤ sizeLine; decide), fun t ht => q _ (.row y) _ (S1.trans (same_new ht _)) hy (im_newK ht (.cons (im_str _) (.cons (im_int _) .nil)))⟩
  · refine vs_no rfl (by decide +kernel) (vs_no rfl (by decide +kernel) (lastT rfl (by decide +kernel) (.inl (by decide +kernel)) (vs_no rfl (by decide +kernel) ?_)))
    exact ⟨(by show 1 ≤ sizeLine; decide), fun t ht => q _ .any _ (S1.trans (same_new ht _)) trivial (im_newK ht (.cons (im_str _) .nil))⟩
noncomputable def sp_usg : Sp := fun vs H Q _ => ∃ (wl : Addr) (c : Int) (no ni : Nat), vs = [.ref wl, .int c, .int (no : Int), .int (ni : Int)] ∧ Wd H wl ∧ 1 ≤ no ∧ 1 ≤ ni ∧ ∀ v m H', Same H H' → Pu.ok no ni m → Im H' v m.d → Q v H'
theorem ok__law_using (T : Txt K mg) : FnOk P w K mg base CX0 3 T.a__law_using T.fd__law_using ["_law_words_here", "_law_c", "_law_outs", "_law_ins"] sp_usg := by
  have G__law_mix := ok__law_mix (P := P) (w := w) (base := base) T
  have G__law_words_by := ok__law_words_by (P := P) (w := w) (base := base) T
  refine T.F__law_using.ok sc__law_using (fun vs H Q E h => ?_) (fun cdv A0 outer s H vs Q E hr h => ?_)
  · obtain ⟨wl, c, no, ni, rfl, _⟩ := h
    rfl
  obtain ⟨wl, c, no, ni, rfl, hw, n1, n2, q⟩ := h
  refine ⟨_, (pss_cons (ps_set (i := 4) sc__law_using.nd rfl (Or.inl rfl) (pe_ix xc_list (pe_lst (pa_cons pe_str (pa_cons pe_str (pa_cons pe_str (pa_cons pe_str (pa_cons pe_str (pa_cons pe_str pa_nil))))))) (pe_op oc_mod (cv 1) pe_int) (fun _ _ => rfl)))
    (pss_cons (ps_set (i := 5) sc__law_using.nd rfl (Or.inl rfl) (pe_op oc_mod (pe_call G__law_mix (hr.mono (by decide)) rfl T.m__law_mix T.k__law_mix T.b__law_mix .nil pass0 (pa_cons (cv 1) (pa_cons pe_int pa_nil))) (cv 3)))
    (pss_cons (ps_if (PW.pt (pw_or (ptc_cmpR oc_eq (cv 4) pe_str (nomark _)) (pw_or1 (ptc_cmpR oc_eq (cv 4) pe_str (nomark _)))))
      (pss_one (ps_ret (pe_tup (pa_cons (cv 4) (pa_cons (pe_call G__law_words_by (hr.mono (by decide)) rfl T.m__law_words_by T.k__law_words_by T.b__law_words_by .nil pass0 (pa_cons (cv 0) (pa_cons (pe_op oc_fdiv (cv 1) pe_int) (pa_cons (pe_op oc_mod (pe_call G__law_mix (hr.mono (by decide)) rfl T.m__law_mix T.k__law_mix T.b__law_mix .nil pass0 (pa_cons (cv 1) (pa_cons pe_int pa_nil))) pe_int) (pa_cons (cv 3) pa_nil))))) pa_nil)))))
      pss_nil)
    (pss_cons (ps_if (ptc_cmpR oc_eq (cv 4) pe_str (nomark _))
      (pss_one (ps_ret (pe_tup (pa_cons (cv 4) (pa_cons (pe_op oc_mod (pe_call G__law_mix (hr.mono (by decide)) rfl T.m__law_mix T.k__law_mix T.b__law_mix .nil pass0 (pa_cons (cv 1) (pa_cons pe_int pa_nil))) (cv 2)) (pa_cons (cv 5) pa_nil))))))
      pss_nil)
    (pss_cons (ps_if (ptc_cmpR oc_eq (cv 4) pe_str (nomark _))
      (pss_one (ps_ret (pe_tup (pa_cons (cv 4) (pa_cons (cv 5) pa_nil)))))
      pss_nil)
    (pss_one (ps_ret (pe_tup (pa_cons (cv 4) pa_nil))))))))), ?_⟩
  have sl : sizeLine = 16777216 := sizeLine_eq
  refine ⟨(by show 6 ≤ sizeLine; decide), fun L hL => ?_⟩
  have S1 := same_new hL (.lst [V.str "num", V.str "call", V.str "take", V.str "case", V.str "row", V.str "call"])
  have h0 := Int.emod_nonneg c (show (6 : Int) ≠ 0 by decide)
  have h1 := Int.emod_lt_of_pos c (show (0 : Int) < 6 by decide)
  obtain ⟨v, hv, mv⟩ := atI_lt [V.str "num", V.str "call", V.str "take", V.str "case", V.str "row", V.str "call"] (c % 6) h0 (by show _ < (6 : Int); exact h1)
  obtain ⟨sh, hsh, rfl⟩ := List.mem_map.mp (show v ∈ (["num", "call", "take", "case", "row", "call"] : List Str).map V.str from mv)
  refine ⟨(by show (0 : Int) < 6; decide), _, upd_same, onS_of hv ?_⟩
  have hw1 := wd_same hw S1
  dsimp only [gName]
  generalize upd H L (.lst [V.str "num", V.str "call", V.str "take", V.str "case", V.str "row", V.str "call"]) = H1 at S1 hw1 ⊢
  refine ⟨c, 2, rfl, by decide, by decide, fun n0 _ _ => ⟨by show (0 : Int) < (ni : Int); omega, ?_⟩⟩
  obtain ⟨y, ey, hy⟩ := mod_nat (x := n0) n2
  dsimp only [gName]
  rw [ey]
  have cs5 : sh = "num" ∨ sh = "call" ∨ sh = "take" ∨ sh = "case" ∨ sh = "row" := by
    simp only [List.mem_cons, List.not_mem_nil, or_false] at hsh
    rcases hsh with h | h | h | h | h | h
    · exact .inl h
    · exact .inr (.inl h)
    · exact .inr (.inr (.inl h))
    · exact .inr (.inr (.inr (.inl h)))
    · exact .inr (.inr (.inr (.inr h)))
    · exact .inr (.inl h)
  rcases cs5 with rfl | rfl | rfl | rfl | rfl
  · refine twoT rfl (by decide +kernel) (by decide +kernel) (vs_no rfl (by decide +kernel) (vs_no rfl (by decide +kernel) ?_))
    exact ⟨(by show 1 ≤ sizeLine; decide), fun t ht => q _ .num _ (S1.trans (same_new ht _)) trivial (im_newK ht (.cons (im_str _) .nil))⟩
  · refine twoT rfl (by decide +kernel) (by decide +kernel) (vs_yes rfl rfl ?_)
    refine ⟨c, 3, rfl, by decide, by decide, fun n1' _ _ => ⟨by show (0 : Int) < (no : Int); omega, ?_⟩⟩
    obtain ⟨x, ex, hx⟩ := mod_nat (x := n1') n1
    have ix : ∀ H' : Hp, Im H' (.int (n1' % (no : Int))) (nI x) := fun H' => by rw [ex]; exact im_int _
    exact ⟨(by show 3 ≤ sizeLine; decide), fun t ht => q _ (.call x y) _ (S1.trans (same_new ht _)) ⟨hx, hy⟩ (im_newK ht (.cons (im_str _) (.cons (ix _) (.cons (im_int _) .nil))))⟩
  · refine two1T rfl (.inl rfl) ?_
    refine ⟨⟨by decide, by decide⟩, c, 3, rfl, by decide, by decide, fun n1' _ _ => ⟨(by show (0 : Int) < 4; decide), ?_⟩⟩
    obtain ⟨x, ex, hx⟩ := mod_nat (x := n1') (n := 4) (by decide)
    refine ⟨wl, c / 6, x, ni, ?_, hw1, by omega, n2, fun v l H2 S2 l4 hl il => ⟨(by show 2 ≤ sizeLine; decide), fun t ht => q _ (.take l) _ ((S1.trans S2).trans (same_new ht _)) ⟨l4, hl⟩ (im_newK ht (.cons (im_str _) (.cons il .nil)))⟩⟩
    show [V.ref wl, _, V.int (n1' % ((4 : Nat) : Int)), _] = _
    rw [ex]
    try rfl
  · refine two1T rfl (.inr rfl) ?_
    refine ⟨⟨by decide, by decide⟩, c, 3, rfl, by decide, by decide, fun n1' _ _ => ⟨(by show (0 : Int) < 4; decide), ?_⟩⟩
    obtain ⟨x, ex, hx⟩ := mod_nat (x := n1') (n := 4) (by decide)
    refine ⟨wl, c / 6, x, ni, ?_, hw1, by omega, n2, fun v l H2 S2 l4 hl il => ⟨(by show 2 ≤ sizeLine; decide), fun t ht => q _ (.case l) _ ((S1.trans S2).trans (same_new ht _)) ⟨l4, hl⟩ (im_newK ht (.cons (im_str _) (.cons il .nil)))⟩⟩
    show [V.ref wl, _, V.int (n1' % ((4 : Nat) : Int)), _] = _
    rw [ex]
    try rfl
  · refine twoT rfl (by decide +kernel) (by decide +kernel) (vs_no rfl (by decide +kernel) (vs_yes rfl rfl ?_))
    exact ⟨(by show 2 ≤ sizeLine; decide), fun t ht => q _ (.row y) _ (S1.trans (same_new ht _)) hy (im_newK ht (.cons (im_str _) (.cons (im_int _) .nil)))⟩
end
end K25.Internal
namespace K25.Internal
open PySem L2.Internal BO.Internal KK.Internal
seal L2.Internal.PE L2.Internal.PA L2.Internal.PS L2.Internal.PSs L2.Internal.PT L2.Internal.PI
noncomputable def FrD (D : Addr) (H H' : Hp) : Prop := ∀ a o, H a = some o → a ≠ D → H' a = some o
theorem lc_genF {J : It} {i : Nat} {te : TE} {Q : VK} {τ : St} {H1 : Hp} {D : Addr} (n : Nat) (hn : n < sizeLine) (R : List V → Hp → Prop) (hR : ∀ xs H H', R xs H → FrD D H H' → R xs H') (hD : H1 D = none) (hτ : τ.set i none = τ)
    (hgo : ∀ k H, Same H1 H → k < n → J.go k H) (hst : ∀ H, Same H1 H → J.stop n H) (h0 : R [] H1)
    (step : ∀ k H v H3 xs (Z : VK), Same H1 H → k < n → J.yld k H v H3 → R xs H → xs.length = k → H D = some (.lst xs) → (∀ y H5, Same H H5 → R (xs ++ [y]) H5 → Z y H5) → te (τ.set i (some v)) H3 Z)
    (hq : ∀ H' xs, Same H1 H' → R xs H' → xs.length = n → H' D = some (.lst xs) → Q (.ref D) H') : LcP J i tAlways te Q τ H1 D := by
  have nd : ∀ (H5 : Hp) (o : HO), FrD D H5 (upd H5 D o) := fun H5 o a u e n => by rw [upd_ne n]; exact e
  have up : ∀ {H : Hp} (o : HO), Same H1 H → Same H1 (upd H D o) := fun {H} o S b u e => by rw [upd_ne (ne_of_none e hD)]; exact S b u e
  refine ⟨fun k m σ' H2 => m = n - k ∧ k ≤ n ∧ (∃ o, σ' = τ.set i o) ∧ Same H1 H2 ∧ ∃ xs, H2 D = some (.lst xs) ∧ xs.length = k ∧ R xs H2, ⟨n, by simp, Nat.zero_le _, ⟨none, hτ.symm⟩, same_new hD _, [], upd_same, rfl, hR _ _ _ h0 (nd _ _)⟩, ?_⟩
  rintro k m σ' H2 ⟨rfl, hk, ⟨o, rfl⟩, S, xs, e, hl, hr⟩
  by_cases hlt : k < n
  · refine .inr ⟨hgo k H2 S hlt, fun v H3 y => ?_⟩
    rw [List.set_set]
    refine step k H2 v H3 xs _ S hlt y hr hl e fun y H5 S5 r5 => ?_
    refine ⟨xs, S5 D _ e, by omega, n - (k + 1), by omega, rfl, hlt, ⟨some v, rfl⟩, up _ (S.trans S5), xs ++ [y], upd_same, by rw [List.length_append, hl]; rfl, hR _ _ _ r5 (nd H5 _)⟩
  · have e1 : k = n := by omega
    subst e1
    exact .inl ⟨hst H2 S, hq H2 xs S hr hl e⟩

theorem ne_mem {x a : Addr} {l : List Addr} (h : x ∉ l) (m : a ∈ l) : x ≠ a := fun e => h (e ▸ m)
theorem nodup_ixA {as : List Addr} (nd : as.Nodup) {i j : Nat} {a : Addr} (h1 : as[i]? = some a) (h2 : as[j]? = some a) : i = j := by
  obtain ⟨l1, e1⟩ := List.getElem?_eq_some_iff.mp h1
  obtain ⟨l2, e2⟩ := List.getElem?_eq_some_iff.mp h2
  exact (List.getElem_inj nd).mp (e1.trans e2.symm)
structure Rw {α : Type} (H : Hp) (as : List Addr) (ls : List (List α)) (f : α → Dt) : Prop where
  len : as.length = ls.length
  get : ∀ (k : Nat) (a : Addr) (l : List α), as[k]? = some a → ls[k]? = some l → ∃ xs, H a = some (.lst xs) ∧ Ims H xs (l.map f)
theorem Rw.same {α : Type} {H H' : Hp} {as : List Addr} {ls : List (List α)} {f : α → Dt} (h : Rw H as ls f) (s : Same H H') : Rw H' as ls f :=
  ⟨h.len, fun k a l h1 h2 => let ⟨xs, e, i⟩ := h.get k a l h1 h2; ⟨xs, s _ _ e, i.mono (Same.tk s)⟩⟩
theorem Rw.other {α : Type} {H : Hp} {as : List Addr} {ls : List (List α)} {f : α → Dt} {a : Addr} {xs ys : List V} (h : Rw H as ls f) (e : H a = some (.lst xs)) (n : a ∉ as) : Rw (upd H a (.lst ys)) as ls f :=
  ⟨h.len, fun k b l h1 h2 => let ⟨zs, e2, i⟩ := h.get k b l h1 h2; ⟨zs, by rw [upd_ne (ne_mem n (List.mem_of_getElem? h1)).symm]; exact e2, i.mono (fk_lst e).tk⟩⟩
theorem Rw.put {α : Type} {H : Hp} {as : List Addr} {ls : List (List α)} {f : α → Dt} {k : Nat} {a : Addr} {l : List α} {xs : List V} {x : V} {y : α} (h : Rw H as ls f) (nd : as.Nodup) (ha : as[k]? = some a) (hl : ls[k]? = some l) (e : H a = some (.lst xs)) (i : Ims H xs (l.map f)) (ix : Im H x (f y)) :
    Rw (upd H a (.lst (xs ++ [x]))) as (ls.set k (l ++ [y])) f := by
  have tk := (fk_lst (o := .lst (xs ++ [x])) e).tk
  refine ⟨by rw [List.length_set]; exact h.len, fun j b m h1 h2 => ?_⟩
  by_cases hj : k = j
  · subst hj
    rw [ha] at h1
    cases h1
    rw [List.getElem?_set_self (List.getElem?_eq_some_iff.mp hl).1] at h2
    cases h2
    exact ⟨_, upd_same, by rw [List.map_append]; exact (i.mono tk).app (.cons (ix.mono tk) .nil)⟩
  · rw [List.getElem?_set_ne hj] at h2
    obtain ⟨zs, e2, i2⟩ := h.get j b m h1 h2
    have hab : b ≠ a := fun z => hj (nodup_ixA nd ha (z ▸ h1))
    exact ⟨zs, by rw [upd_ne hab]; exact e2, i2.mono tk⟩
structure PS (H : Hp) (lo li lf : Addr) (oa ia : List Addr) (Pq : Pp) : Prop where
  elo : H lo = some (.lst (oa.map V.ref))
  eli : H li = some (.lst (ia.map V.ref))
  elf : ∃ fv, H lf = some (.lst fv) ∧ Ims H fv (Pq.fls.map flN2)
  ro : Rw H oa Pq.outs Pm.d
  ri : Rw H ia Pq.ins Pu.d
  nd : (lo :: li :: lf :: (oa ++ ia)).Nodup
theorem PS.same {H H' : Hp} {lo li lf : Addr} {oa ia : List Addr} {Pq : Pp} (h : PS H lo li lf oa ia Pq) (s : Same H H') : PS H' lo li lf oa ia Pq :=
  ⟨s _ _ h.elo, s _ _ h.eli, let ⟨fv, e, i⟩ := h.elf; ⟨fv, s _ _ e, i.mono (Same.tk s)⟩, h.ro.same s, h.ri.same s, h.nd⟩
theorem PS.nds {H : Hp} {lo li lf : Addr} {oa ia : List Addr} {Pq : Pp} (h : PS H lo li lf oa ia Pq) : lo ≠ li ∧ lo ≠ lf ∧ li ≠ lf ∧ lo ∉ oa ∧ lo ∉ ia ∧ li ∉ oa ∧ li ∉ ia ∧ lf ∉ oa ∧ lf ∉ ia ∧ oa.Nodup ∧ ia.Nodup ∧ ∀ a ∈ oa, a ∉ ia := by
  have n := h.nd
  simp only [List.nodup_cons, List.mem_cons, List.mem_append, not_or, List.nodup_append] at n
  obtain ⟨⟨a1, a2, a3, a4⟩, ⟨b1, b2, b3⟩, ⟨c1, c2⟩, d1, d2, d3⟩ := n
  exact ⟨a1, a2, b1, a3, a4, b2, b3, c1, c2, d1, d2, fun a h1 h2 => d3 a h1 a h2 rfl⟩
section
variable {H : Hp} {lo li lf : Addr} {oa ia : List Addr} {Pq : Pp}
theorem PS.addO (h : PS H lo li lf oa ia Pq) {k : Nat} {a : Addr} {l : List Pm} {xs : List V} {x : V} {y : Pm} (ha : oa[k]? = some a) (hl : Pq.outs[k]? = some l) (e : H a = some (.lst xs)) (i : Ims H xs (l.map Pm.d)) (ix : Im H x y.d) :
    PS (upd H a (.lst (xs ++ [x]))) lo li lf oa ia { Pq with outs := Pq.outs.set k (l ++ [y]) } := by
  obtain ⟨_, _, _, n1, _, n2, _, n3, _, d1, _, d3⟩ := h.nds
  have m := List.mem_of_getElem? ha
  have tk := (fk_lst (o := .lst (xs ++ [x])) e).tk
  obtain ⟨fv, ef, jf⟩ := h.elf
  exact ⟨by rw [upd_ne (ne_mem n1 m)]; exact h.elo, by rw [upd_ne (ne_mem n2 m)]; exact h.eli, ⟨fv, by rw [upd_ne (ne_mem n3 m)]; exact ef, jf.mono tk⟩, h.ro.put d1 ha hl e i ix, h.ri.other e (d3 a m), h.nd⟩
theorem PS.addI (h : PS H lo li lf oa ia Pq) {k : Nat} {a : Addr} {l : List Pu} {xs : List V} {x : V} {y : Pu} (ha : ia[k]? = some a) (hl : Pq.ins[k]? = some l) (e : H a = some (.lst xs)) (i : Ims H xs (l.map Pu.d)) (ix : Im H x y.d) :
    PS (upd H a (.lst (xs ++ [x]))) lo li lf oa ia { Pq with ins := Pq.ins.set k (l ++ [y]) } := by
  obtain ⟨_, _, _, _, n1, _, n2, _, n3, _, d1, d3⟩ := h.nds
  have m := List.mem_of_getElem? ha
  have tk := (fk_lst (o := .lst (xs ++ [x])) e).tk
  obtain ⟨fv, ef, jf⟩ := h.elf
  exact ⟨by rw [upd_ne (ne_mem n1 m)]; exact h.elo, by rw [upd_ne (ne_mem n2 m)]; exact h.eli, ⟨fv, by rw [upd_ne (ne_mem n3 m)]; exact ef, jf.mono tk⟩, h.ro.other e (fun z => d3 a z m), h.ri.put d1 ha hl e i ix, h.nd⟩
theorem PS.addF (h : PS H lo li lf oa ia Pq) {fv : List V} {x : V} {y : Nat × Nat} (e : H lf = some (.lst fv)) (i : Ims H fv (Pq.fls.map flN2)) (ix : Im H x (flN2 y)) :
    PS (upd H lf (.lst (fv ++ [x]))) lo li lf oa ia { Pq with fls := Pq.fls ++ [y] } := by
  obtain ⟨_, n1, n2, _, _, _, _, n3, n4, _, _, _⟩ := h.nds
  have tk := (fk_lst (o := .lst (fv ++ [x])) e).tk
  exact ⟨by rw [upd_ne n1]; exact h.elo, by rw [upd_ne n2]; exact h.eli, ⟨_, upd_same, by rw [List.map_append]; exact (i.mono tk).app (.cons (ix.mono tk) .nil)⟩, h.ro.other e n3, h.ri.other e n4, h.nd⟩
end
structure Pok (Pq : Pp) (no ni i : Nat) : Prop where
  hno : Pq.outs.length = no
  hni : Pq.ins.length = ni
  om : ∀ l ∈ Pq.outs, l.length ≤ i ∧ ∀ m ∈ l, Pm.ok no ni m
  iu : ∀ l ∈ Pq.ins, l.length ≤ i ∧ ∀ u ∈ l, Pu.ok no ni u
  ff : Pq.fls.length ≤ i ∧ ∀ p ∈ Pq.fls, p.1 < ni ∧ p.2 < no
theorem Pok.succ {Pq : Pp} {no ni i : Nat} (h : Pok Pq no ni i) : Pok Pq no ni (i + 1) :=
  ⟨h.hno, h.hni, fun l hl => ⟨Nat.le_succ_of_le (h.om l hl).1, (h.om l hl).2⟩, fun l hl => ⟨Nat.le_succ_of_le (h.iu l hl).1, (h.iu l hl).2⟩, ⟨Nat.le_succ_of_le h.ff.1, h.ff.2⟩⟩
theorem Pok.addO {Pq : Pp} {no ni i k : Nat} {l : List Pm} {y : Pm} (h : Pok Pq no ni i) (hl : Pq.outs[k]? = some l) (hy : y.ok no ni) : Pok { Pq with outs := Pq.outs.set k (l ++ [y]) } no ni (i + 1) := by
  have hm := List.mem_of_getElem? hl
  refine ⟨by show (Pq.outs.set k _).length = no; rw [List.length_set]; exact h.hno, h.hni, fun m hm' => ?_, h.succ.iu, h.succ.ff⟩
  rcases List.mem_or_eq_of_mem_set hm' with z | z
  · exact h.succ.om m z
  · rw [z]
    refine ⟨by rw [List.length_append, List.length_singleton]; exact Nat.succ_le_succ (h.om l hm).1, fun u hu => ?_⟩
    rcases List.mem_append.mp hu with hu | hu
    · exact (h.om l hm).2 u hu
    · rw [List.mem_singleton.mp hu]; exact hy
theorem Pok.addI {Pq : Pp} {no ni i k : Nat} {l : List Pu} {y : Pu} (h : Pok Pq no ni i) (hl : Pq.ins[k]? = some l) (hy : y.ok no ni) : Pok { Pq with ins := Pq.ins.set k (l ++ [y]) } no ni (i + 1) := by
  have hm := List.mem_of_getElem? hl
  refine ⟨h.hno, by show (Pq.ins.set k _).length = ni; rw [List.length_set]; exact h.hni, h.succ.om, fun m hm' => ?_, h.succ.ff⟩
  rcases List.mem_or_eq_of_mem_set hm' with z | z
  · exact h.succ.iu m z
  · rw [z]
    refine ⟨by rw [List.length_append, List.length_singleton]; exact Nat.succ_le_succ (h.iu l hm).1, fun u hu => ?_⟩
    rcases List.mem_append.mp hu with hu | hu
    · exact (h.iu l hm).2 u hu
    · rw [List.mem_singleton.mp hu]; exact hy
theorem Pok.addF {Pq : Pp} {no ni i : Nat} {y : Nat × Nat} (h : Pok Pq no ni i) (hy : y.1 < ni ∧ y.2 < no) : Pok { Pq with fls := Pq.fls ++ [y] } no ni (i + 1) := by
  refine ⟨h.hno, h.hni, h.succ.om, h.succ.iu, by show (Pq.fls ++ [y]).length ≤ _; rw [List.length_append, List.length_singleton]; exact Nat.succ_le_succ h.ff.1, fun p hp => ?_⟩
  rcases List.mem_append.mp hp with hp | hp
  · exact h.ff.2 p hp
  · rw [List.mem_singleton.mp hp]; exact hy
theorem nl_pr : ∀ l : List (Str × Nat), nlDs (l.map fun p => .tup [sD p.1, nI p.2]) = true
  | [] => rfl
  | p :: t => by
    rw [List.map_cons, nlDs, nl_pr t]
    rfl
theorem dep_pr (l : List (Str × Nat)) : depD (prN l) ≤ 2 := by
  have : depDs (l.map fun p => Dt.tup [sD p.1, nI p.2]) ≤ 1 := depDs_map fun p _ => by simp [sD, nI, iD, depD, depDs]
  exact Nat.succ_le_succ this
theorem dep1 (s : Str) (d : Dt) (h : depD d ≤ 2) (n : nlD d = true) : nlD (.tup [sD s, d]) = true ∧ depD (.tup [sD s, d]) ≤ 100 := by
  constructor
  · simp only [nlD, nlDs, sD, n]
    rfl
  · simp only [depD, depDs, sD]
    omega
theorem nl_pm (m : Pm) : nlD m.d = true ∧ depD m.d ≤ 100 := by
  cases m with
  | rcd l => exact dep1 _ _ (dep_pr l) (nl_pr l)
  | _ => simp [Pm.d, Pm.rest, nlD, nlDs, sD, nI, iD, depD, depDs]
theorem nl_pu (m : Pu) : nlD m.d = true ∧ depD m.d ≤ 100 := by
  cases m with
  | take l => exact dep1 _ _ (dep_pr l) (nl_pr l)
  | case l => exact dep1 _ _ (dep_pr l) (nl_pr l)
  | _ => simp [Pu.d, Pu.rest, nlD, nlDs, sD, nI, iD, depD, depDs]
theorem nl_fl (p : Nat × Nat) : nlD (flN2 p) = true ∧ depD (flN2 p) ≤ 100 := by simp [flN2, nlD, nlDs, nI, iD, depD, depDs]
theorem side_step {K : PySem.W.Frag} {α : Type} {f : α → Dt} {σ : St} {H : Hp} {D : Ends} {a : Addr} {x : V} {xs : List V} {l : List α} {y : α} (h8 : σ[8]? = some (some (.ref a))) (h9 : σ[9]? = some (some x)) (ea : H a = some (.lst xs)) (is : Ims H xs (l.map f)) (ix : Im H x (f y)) (nl : ∀ z, nlD (f z) = true ∧ depD (f z) ≤ 100) (hl : xs.length < sizeLine)
    (q1 : D.nx σ H) (q2 : D.nx σ (upd H a (.lst (xs ++ [x])))) : tIfS (cT (tOp (rNiD K) (cV 9) (cV 8))) (tDrop (cApp (cV 8) (cV 9))) tNext D σ H := by
  show onV σ[9]? _
  rw [h9]
  show onV σ[8]? _
  rw [h8]
  refine ⟨a, xs, _, _, rfl, SqL.of ea, ims_at2 is, im_at ix, (nl y).1, fun e he => ?_, fun b => ?_⟩
  · obtain ⟨z, _, rfl⟩ := List.mem_map.mp he
    exact nl z
  · show if b = true then _ else _
    refine ite2 (fun _ => ?_) (fun _ => q1)
    show onV σ[8]? _
    rw [h8]
    refine ⟨⟨_, ea⟩, ?_⟩
    show onV σ[9]? _
    rw [h9]
    exact ⟨xs, ea, hl, q2⟩
theorem ims_perm {H : Hp} {α : Type} {f : α → Dt} {us vs : List V} (p : us.Perm vs) : ∀ l : List α, Ims H vs (l.map f) → ∃ l' : List α, l'.Perm l ∧ Ims H us (l'.map f) := by
  induction p with
  | nil =>
    intro l h
    exact ⟨l, .refl _, h⟩
  | cons x _ ih =>
    intro l h
    cases l with
    | nil => cases h
    | cons a t =>
      rw [List.map_cons] at h
      cases h with
      | cons h1 h2 =>
        obtain ⟨l', p', i'⟩ := ih t h2
        exact ⟨a :: l', p'.cons _, .cons h1 i'⟩
  | swap x y l0 =>
    intro l h
    cases l with
    | nil => cases h
    | cons a t =>
      cases t with
      | nil => rw [List.map_cons] at h; cases h with | cons h1 h2 => cases h2
      | cons c t =>
        rw [List.map_cons, List.map_cons] at h
        cases h with
        | cons h1 h2 =>
          cases h2 with
          | cons h3 h4 => exact ⟨c :: a :: t, .swap _ _ _, .cons h3 (.cons h1 h4)⟩
  | trans _ _ ih1 ih2 =>
    intro l h
    obtain ⟨l1, p1, i1⟩ := ih2 l h
    obtain ⟨l2, p2, i2⟩ := ih1 l1 i1
    exact ⟨l2, p2.trans p1, i2⟩
end K25.Internal
namespace K25.Internal
open PySem L2.Internal BO.Internal KK.Internal
seal L2.Internal.PE L2.Internal.PA L2.Internal.PS L2.Internal.PSs L2.Internal.PT L2.Internal.PI
noncomputable def Emp (H1 : Hp) (D : Addr) (xs : List V) (H : Hp) : Prop := ∃ l : List Addr, xs = l.map V.ref ∧ l.Nodup ∧ ∀ a ∈ l, a ≠ D ∧ H a = some (.lst []) ∧ H1 a = none
theorem emp_lc {Q : VK} {H1 : Hp} {D : Addr} {n : Nat} (hn : n < sizeLine) (hD : H1 D = none)
    (hq : ∀ H' l, Same H1 H' → (D :: l).Nodup → l.length = n → (∀ a ∈ D :: l, H1 a = none) → (∀ a ∈ l, H' a = some (.lst [])) → H' D = some (.lst (l.map V.ref)) → Q (.ref D) H') : LcP (Itr 0 n) 0 tAlways (tLst tNil) Q [none] H1 D := by
  refine lc_genF n hn (Emp H1 D) (fun xs H H' ⟨l, h1, h2, h3⟩ f => ⟨l, h1, h2, fun a ha => ⟨(h3 a ha).1, f _ _ (h3 a ha).2.1 (h3 a ha).1, (h3 a ha).2.2⟩⟩) hD rfl (fun k H _ hk => hk) (fun H _ => Nat.le_refl _) ⟨[], rfl, List.nodup_nil, fun a ha => by cases ha⟩ ?_ ?_
  · rintro k H v H3 xs Z S hk ⟨rfl, rfl⟩ ⟨l, rfl, nd, h3⟩ hl eD z
    refine ⟨(by show 0 ≤ sizeLine; decide), fun a ha => z _ _ (same_new ha _) ⟨l ++ [a], by rw [List.map_append]; rfl, ?_, fun b hb => ?_⟩⟩
    · refine List.nodup_append.mpr ⟨nd, by simp, fun b hb c hc => ?_⟩
      rw [List.mem_singleton.mp hc]
      exact ne_of_none (h3 b hb).2.1 ha
    · rcases List.mem_append.mp hb with hb | hb
      · exact ⟨(h3 b hb).1, same_new ha _ _ _ (h3 b hb).2.1, (h3 b hb).2.2⟩
      · rw [List.mem_singleton.mp hb]
        exact ⟨(ne_of_none eD ha).symm, upd_same, free_of S ha⟩
  · rintro H' xs S ⟨l, rfl, nd, h3⟩ hl eD
    rw [List.length_map] at hl
    refine hq H' l S (List.nodup_cons.mpr ⟨fun z => (h3 D z).1 rfl, nd⟩) hl (fun a ha => ?_) (fun a ha => (h3 a ha).2.1) eD
    rcases List.mem_cons.mp ha with rfl | ha
    · exact hD
    · exact (h3 a ha).2.2
theorem emp_rw {α : Type} {f : α → Dt} {H : Hp} {l : List Addr} {n : Nat} (hl : l.length = n) (h : ∀ a ∈ l, H a = some (.lst [])) : Rw H l (List.replicate n ([] : List α)) f :=
  ⟨by rw [hl, List.length_replicate], fun k a m h1 h2 => by
    have hm : m = [] := by
      have := List.mem_of_getElem? h2
      exact List.eq_of_mem_replicate this
    subst hm
    exact ⟨[], h a (List.mem_of_getElem? h1), .nil⟩⟩
section
variable {P : Program} {w : World} {K : PySem.W.Frag} {mg : Str → Option Value} {base : Heap}
noncomputable def sp_pap : Sp := fun vs H Q _ => ∃ (wl cl : Addr) (fi : Int) (ns : List Int), vs = [.ref wl, .int fi, .ref cl] ∧ Wd H wl ∧ H cl = some (.lst (ns.map V.int)) ∧ ns.length ≤ 63 ∧ ∀ pp o i f Pq H', Same H H' → (∀ a ∈ [pp, o, i, f], H a = none) → [pp, o, i, f].Nodup → H' pp = some (.lst [.ref o, .ref i, .ref f]) → L3 H' o i f Pq → Pq.ok → Q (.ref pp) H'
theorem ok__law_paper (T : Txt K mg) : FnOk P w K mg base CX0 4 T.a__law_paper T.fd__law_paper ["_law_words_here", "_law_first", "_law_cells"] sp_pap := by
  have G__law_making := ok__law_making (P := P) (w := w) (base := base) T
  have G__law_using := ok__law_using (P := P) (w := w) (base := base) T
  refine T.F__law_paper.ok sc__law_paper (fun vs H Q E h => ?_) (fun cdv A0 outer s H vs Q E hr h => ?_)
  · obtain ⟨wl, cl, fi, ns, rfl, _⟩ := h
    rfl
  obtain ⟨wl, cl, fi, ns, rfl, hw, ecl, ln, q⟩ := h
  refine ⟨_, (pss_cons (ps_setLC (j := 3) rfl (blk0 (x := "_law_k") rfl (by decide +kernel) (by decide +kernel) rfl rfl) (pi_range1 rfl T.z_range (pa_cons (pe_op oc_add pe_int (pe_op oc_mod (cv 1) pe_int)) pa_nil)) (fun _ _ _ _ _ => pts_nil) (fun _ _ _ _ _ => (pe_lst pa_nil)) sc__law_paper.nd rfl (Or.inl rfl))
    (pss_cons (ps_setLC (j := 4) rfl (blk0 (x := "_law_k") rfl (by decide +kernel) (by decide +kernel) rfl rfl) (pi_range1 rfl T.z_range (pa_cons (pe_op oc_mod (pe_op oc_fdiv (cv 1) pe_int) pe_int) pa_nil)) (fun _ _ _ _ _ => pts_nil) (fun _ _ _ _ _ => (pe_lst pa_nil)) sc__law_paper.nd rfl (Or.inl rfl))
    (pss_cons (ps_set (i := 5) sc__law_paper.nd rfl (Or.inl rfl) (pe_lst pa_nil))
    (pss_cons (ps_for PassesOwn.never rfl (pi_list (cv 2)) (pg_name (i := 6) sc__law_paper.nd rfl (Or.inl rfl))
      (pss_cons (ps_set (i := 7) sc__law_paper.nd rfl (Or.inl rfl) (pe_op oc_mod (cv 6) (pe_op oc_pow pe_int pe_int)))
      (pss_cons (ps_if (PW.pt (pw_or (ptc_cmpR oc_eq (pe_op oc_mod (cv 7) pe_int) pe_int (nomark _)) (pw_or1 (ptc_cmpR oc_eq (pe_callB call_len_seq rfl T.z_len bt_len (pa_cons (cv 4) pa_nil)) pe_int (nomark _)))))
        (pss_cons (ps_set (i := 8) sc__law_paper.nd rfl (Or.inl rfl) (pe_ix xc_list (cv 3) (pe_op oc_mod (pe_op oc_fdiv (cv 7) pe_int) (pe_callB call_len_seq rfl T.z_len bt_len (pa_cons (cv 3) pa_nil))) (fun _ _ => rfl)))
        (pss_one (ps_set (i := 9) sc__law_paper.nd rfl (Or.inl rfl) (pe_call G__law_making (hr.mono (by decide)) rfl T.m__law_making T.k__law_making T.b__law_making .nil pass0 (pa_cons (cv 0) (pa_cons (pe_op oc_fdiv (cv 7) pe_int) (pa_cons (pe_callB call_len_seq rfl T.z_len bt_len (pa_cons (cv 3) pa_nil)) (pa_cons (pe_callB call_len_seq rfl T.z_len bt_len (pa_cons (cv 4) pa_nil)) pa_nil))))))))
        (pss_one (ps_if (ptc_cmpR oc_eq (pe_op oc_mod (cv 7) pe_int) pe_int (nomark _))
          (pss_cons (ps_set (i := 8) sc__law_paper.nd rfl (Or.inl rfl) (pe_ix xc_list (cv 4) (pe_op oc_mod (pe_op oc_fdiv (cv 7) pe_int) (pe_callB call_len_seq rfl T.z_len bt_len (pa_cons (cv 4) pa_nil))) (fun _ _ => rfl)))
          (pss_one (ps_set (i := 9) sc__law_paper.nd rfl (Or.inl rfl) (pe_call G__law_using (hr.mono (by decide)) rfl T.m__law_using T.k__law_using T.b__law_using .nil pass0 (pa_cons (cv 0) (pa_cons (pe_op oc_fdiv (cv 7) pe_int) (pa_cons (pe_callB call_len_seq rfl T.z_len bt_len (pa_cons (cv 3) pa_nil)) (pa_cons (pe_callB call_len_seq rfl T.z_len bt_len (pa_cons (cv 4) pa_nil)) pa_nil))))))))
          (pss_cons (ps_set (i := 8) sc__law_paper.nd rfl (Or.inl rfl) (cv 5))
          (pss_one (ps_set (i := 9) sc__law_paper.nd rfl (Or.inl rfl) (pe_tup (pa_cons (pe_op oc_mod (pe_op oc_fdiv (cv 7) pe_int) (pe_callB call_len_seq rfl T.z_len bt_len (pa_cons (cv 4) pa_nil))) (pa_cons (pe_op oc_mod (pe_op oc_fdiv (cv 7) pe_int) (pe_callB call_len_seq rfl T.z_len bt_len (pa_cons (cv 3) pa_nil))) pa_nil)))))))))
      (pss_one (ps_if (ptc_cmpR (op_notInD hr) (cv 9) (cv 8) rfl)
        (pss_one (ps_expr (pec_app (pe_bm PySem.F.plainAttrs_list PySem.F.slot_list_append PySem.F.type_list_append mt_append (PE.mono (cv 8)) (pa_cons (PE.mono (cv 9)) pa_nil)))))
        pss_nil)))))
    (pss_one (ps_ret (pe_lst (pa_cons (pe_lc rfl (blk0 (x := "_law_one") rfl (by decide +kernel) (by decide +kernel) rfl rfl) (pi_list (cv 3)) (fun _ _ _ _ _ => pts_nil) (fun _ _ _ _ _ => (pe_callTy (r := rTupOf K) call_tuple_of rfl T.z_tuple bt_tuple (pa_cons (cv 0) pa_nil)))) (pa_cons (pe_lc rfl (blk0 (x := "_law_one") rfl (by decide +kernel) (by decide +kernel) rfl rfl) (pi_list (cv 4)) (fun _ _ _ _ _ => pts_nil) (fun _ _ _ _ _ => (pe_callTy (r := rTupOf K) call_tuple_of rfl T.z_tuple bt_tuple (pa_cons (cv 0) pa_nil)))) (pa_cons (pe_callB call_sortedP rfl T.z_sorted bt_sorted (pa_cons (cv 5) pa_nil)) pa_nil)))))))))), ?_⟩
  have sl : sizeLine = 16777216 := sizeLine_eq
  -- the outs
  obtain ⟨x8, ex8, hx8⟩ := mod_nat (x := fi) (n := 8) (by decide)
  refine ⟨(by show (0 : Int) < 8; decide), _, rfl, ?_, ?_, fun lo hlo => ?_⟩
  · show -(2 ^ 62) ≤ 1 + fi % ((8 : Nat) : Int); rw [ex8]; omega
  · show 1 + fi % ((8 : Nat) : Int) < 2 ^ 62; rw [ex8]; omega
  have e8 : (1 + fi % 8).toNat = 1 + x8 := by
    have : fi % 8 = (x8 : Int) := ex8
    rw [this]
    omega
  show LcP (Itr 0 (1 + fi % 8).toNat) _ _ _ _ _ _ _
  rw [e8]
  refine emp_lc (by omega) hlo fun H1 oa S1 nd1 lo1 fr1 em1 elo => ?_
  dsimp only [gName]
  -- the ins
  obtain ⟨x9, ex9, hx9⟩ := mod_nat (x := fi / 8) (n := 9) (by decide)
  refine ⟨⟨by decide, by decide⟩, (by show (0 : Int) < 9; decide), _, rfl, ?_, ?_, fun li hli => ?_⟩
  · show -(2 ^ 62) ≤ fi / 8 % ((9 : Nat) : Int); rw [ex9]; omega
  · show fi / 8 % ((9 : Nat) : Int) < 2 ^ 62; rw [ex9]; omega
  have e9 : (fi / 8 % 9).toNat = x9 := by
    have : fi / 8 % 9 = (x9 : Int) := ex9
    rw [this, Int.toNat_natCast]
  show LcP (Itr 0 (fi / 8 % 9).toNat) _ _ _ _ _ _ _
  rw [e9]
  refine emp_lc (by omega) hli fun H2 ia S2 nd2 li2 fr2 em2 eli => ?_
  dsimp only [gName]
  refine ⟨(by show 0 ≤ sizeLine; decide), fun lf hlf => ?_⟩
  have S3 := same_new hlf (.lst [])
  have S02 := S1.trans S2
  have S03 := S02.trans S3
  have hs1 : ∀ a ∈ lo :: oa, ∃ o, H1 a = some o := fun a ha => by
    rcases List.mem_cons.mp ha with rfl | ha
    · exact ⟨_, elo⟩
    · exact ⟨_, em1 a ha⟩
  have hs2 : ∀ a ∈ li :: ia, ∃ o, H2 a = some o := fun a ha => by
    rcases List.mem_cons.mp ha with rfl | ha
    · exact ⟨_, eli⟩
    · exact ⟨_, em2 a ha⟩
  have d12 : ∀ a ∈ lo :: oa, ∀ b ∈ li :: ia, a ≠ b := fun a ha b hb => by
    obtain ⟨o, e⟩ := hs1 a ha
    exact ne_of_none e (fr2 b hb)
  have d1f : ∀ a ∈ lo :: oa, a ≠ lf := fun a ha => by
    obtain ⟨o, e⟩ := hs1 a ha
    exact ne_of_none (S2 _ _ e) hlf
  have d2f : ∀ a ∈ li :: ia, a ≠ lf := fun a ha => by
    obtain ⟨o, e⟩ := hs2 a ha
    exact ne_of_none e hlf
  have fr0 : ∀ a ∈ lo :: li :: lf :: (oa ++ ia), H a = none := fun a ha => by
    simp only [List.mem_cons, List.mem_append] at ha
    rcases ha with rfl | rfl | rfl | ha | ha
    · exact fr1 _ (by simp)
    · exact free_of S1 (fr2 _ (by simp))
    · exact free_of S02 hlf
    · exact fr1 a (by simp [ha])
    · exact free_of S1 (fr2 a (by simp [ha]))
  have ndA : (lo :: li :: lf :: (oa ++ ia)).Nodup := by
    rw [List.nodup_cons] at nd1 nd2
    simp only [List.nodup_cons, List.mem_cons, List.mem_append, not_or, List.nodup_append]
    exact ⟨⟨d12 lo (by simp) li (by simp), d1f lo (by simp), nd1.1, fun z => d12 lo (by simp) lo (by simp [z]) rfl⟩, ⟨d2f li (by simp), fun z => d12 li (by simp [z]) li (by simp) rfl, nd2.1⟩, ⟨fun z => d1f lf (by simp [z]) rfl, fun z => d2f lf (by simp [z]) rfl⟩, nd1.2, nd2.2, fun a ha b hb => d12 a (by simp [ha]) b (by simp [hb])⟩
  have ps0 : PS (upd H2 lf (.lst [])) lo li lf oa ia ⟨List.replicate (1 + x8) [], List.replicate x9 [], []⟩ :=
    ⟨S3 _ _ (S2 _ _ elo), S3 _ _ eli, ⟨[], upd_same, .nil⟩, emp_rw lo1 (fun a ha => S3 _ _ (S2 _ _ (em1 a ha))), emp_rw li2 (fun a ha => S3 _ _ (em2 a ha)), ndA⟩
  have pk0 : Pok ⟨List.replicate (1 + x8) [], List.replicate x9 [], []⟩ (1 + x8) x9 0 :=
    ⟨List.length_replicate, List.length_replicate, fun l hl => by rw [List.eq_of_mem_replicate hl]; exact ⟨Nat.le_refl _, fun m hm => by cases hm⟩, fun l hl => by rw [List.eq_of_mem_replicate hl]; exact ⟨Nat.le_refl _, fun m hm => by cases hm⟩, Nat.le_refl _, fun p hp => by cases hp⟩
  dsimp only [gName]
  generalize upd H2 lf (.lst []) = H3 at S3 S03 ps0 ⊢
  -- the cells
  refine ⟨cl, rfl, ⟨_, SqL.of (S03 _ _ ecl)⟩, for_list (xs := ns.map V.int) (fun k σ H4 => ∃ (Pq : Pp) (o6 o7 o8 o9 : Option V), σ = [some (.ref wl), some (.int fi), some (.ref cl), some (.ref lo), some (.ref li), some (.ref lf), o6, o7, o8, o9] ∧ Same H H4 ∧ PS H4 lo li lf oa ia Pq ∧ Pok Pq (1 + x8) x9 k)
    ⟨_, none, none, none, none, rfl, S03, ps0, pk0⟩ (fun k σ H4 _ ⟨_, _, _, _, _, _, S, _⟩ => SqL.of (S _ _ ecl)) ?_ ?_⟩
  · rintro k v σ H4 hv ⟨Pq, o6, o7, o8, o9, rfl, S4, ps, pk⟩
    have hk := (List.getElem?_eq_some_iff.mp hv).1
    rw [List.length_map] at hk
    obtain ⟨x, rfl⟩ : ∃ x : Int, v = .int x := by
      rw [List.getElem?_map] at hv
      cases e : ns[k]? with
      | none => rw [e] at hv; cases hv
      | some m => rw [e] at hv; exact ⟨m, (Option.some.inj hv).symm⟩
    have lo4 := ps.ro.len
    rw [pk.hno] at lo4
    have li4 := ps.ri.len
    rw [pk.hni] at li4
    have hw4 := wd_same hw S4
    have upS : ∀ {H5 : Hp} {a : Addr} {o : HO}, Same H H5 → a ∈ lo :: li :: lf :: (oa ++ ia) → Same H (upd H5 a o) := fun {H5 a o} S m b u e => by
      rw [upd_ne (ne_of_none e (fr0 a m))]
      exact S b u e
    have mkA' : ∀ (c : Int) (σ' : St) (H5 : Hp) (v : V) (m : Pm) (kk : Nat) (a : Addr) (D : Ends), Same H4 H5 → m.ok (1 + x8) x9 → Im H5 v m.d → oa[kk]? = some a → σ' = [some (.ref wl), some (.int fi), some (.ref cl), some (.ref lo), some (.ref li), some (.ref lf), some (.int x), some (.int c), some (.ref a), some v] → (∀ H6 Pq', Same H H6 → PS H6 lo li lf oa ia Pq' → Pok Pq' (1 + x8) x9 (k + 1) → D.nx σ' H6) → tIfS (cT (tOp (rNiD K) (cV 9) (cV 8))) (tDrop (cApp (cV 8) (cV 9))) tNext D σ' H5 := fun c σ' H5 v m kk a D S5 mok im ha hσ nx => by
      obtain ⟨l, hl⟩ : ∃ l, Pq.outs[kk]? = some l := ⟨_, List.getElem?_eq_getElem (by have := (List.getElem?_eq_some_iff.mp ha).1; rw [pk.hno]; omega)⟩
      have ps5 := ps.same S5
      obtain ⟨xs, e, is⟩ := ps5.ro.get kk a l ha hl
      have lx := is.length
      rw [List.length_map] at lx
      have := (pk.om l (List.mem_of_getElem? hl)).1
      subst hσ
      exact side_step rfl rfl e is im nl_pm (by omega) (nx _ _ (S4.trans S5) ps5 pk.succ) (nx _ _ (upS (S4.trans S5) (by simp [List.mem_of_getElem? ha])) (ps5.addO ha hl e is im) (pk.addO hl mok))
    have usA' : ∀ (c : Int) (σ' : St) (H5 : Hp) (v : V) (m : Pu) (kk : Nat) (a : Addr) (D : Ends), Same H4 H5 → m.ok (1 + x8) x9 → Im H5 v m.d → ia[kk]? = some a → σ' = [some (.ref wl), some (.int fi), some (.ref cl), some (.ref lo), some (.ref li), some (.ref lf), some (.int x), some (.int c), some (.ref a), some v] → (∀ H6 Pq', Same H H6 → PS H6 lo li lf oa ia Pq' → Pok Pq' (1 + x8) x9 (k + 1) → D.nx σ' H6) → tIfS (cT (tOp (rNiD K) (cV 9) (cV 8))) (tDrop (cApp (cV 8) (cV 9))) tNext D σ' H5 := fun c σ' H5 v m kk a D S5 mok im ha hσ nx => by
      obtain ⟨l, hl⟩ : ∃ l, Pq.ins[kk]? = some l := ⟨_, List.getElem?_eq_getElem (by have := (List.getElem?_eq_some_iff.mp ha).1; rw [pk.hni]; omega)⟩
      have ps5 := ps.same S5
      obtain ⟨xs, e, is⟩ := ps5.ri.get kk a l ha hl
      have lx := is.length
      rw [List.length_map] at lx
      have := (pk.iu l (List.mem_of_getElem? hl)).1
      subst hσ
      exact side_step rfl rfl e is im nl_pu (by omega) (nx _ _ (S4.trans S5) ps5 pk.succ) (nx _ _ (upS (S4.trans S5) (by simp [List.mem_of_getElem? ha])) (ps5.addI ha hl e is im) (pk.addI hl mok))
    have flA' : ∀ (c : Int) (σ' : St) (H5 : Hp) (v : V) (p : Nat × Nat) (D : Ends), Same H4 H5 → (p.1 < x9 ∧ p.2 < 1 + x8) → Im H5 v (flN2 p) → σ' = [some (.ref wl), some (.int fi), some (.ref cl), some (.ref lo), some (.ref li), some (.ref lf), some (.int x), some (.int c), some (.ref lf), some v] → (∀ H6 Pq', Same H H6 → PS H6 lo li lf oa ia Pq' → Pok Pq' (1 + x8) x9 (k + 1) → D.nx σ' H6) → tIfS (cT (tOp (rNiD K) (cV 9) (cV 8))) (tDrop (cApp (cV 8) (cV 9))) tNext D σ' H5 := fun c σ' H5 v p D S5 pok im hσ nx => by
      have ps5 := ps.same S5
      obtain ⟨xs, e, is⟩ := ps5.elf
      have lx := is.length
      rw [List.length_map] at lx
      have := pk.ff.1
      subst hσ
      exact side_step rfl rfl e is im nl_fl (by omega) (nx _ _ (S4.trans S5) ps5 pk.succ) (nx _ _ (upS (S4.trans S5) (by simp)) (ps5.addF e is im) (pk.addF pok))
    have refAt : ∀ {l : List Addr} {j : Nat}, j < l.length → ∃ a, l[j]? = some a ∧ atI (l.map V.ref) (j : Int) = some (.ref a) := fun {l j} hj => ⟨l[j], List.getElem?_eq_getElem hj, atI_nat (by rw [List.getElem?_map, List.getElem?_eq_getElem hj]; rfl)⟩
    dsimp only [gName]
    refine ⟨⟨by decide, by decide, by decide⟩, (by show (0 : Int) < 10 ^ (40 : Int).toNat; decide +kernel), ?_⟩
    dsimp only [gName]
    generalize x % 10 ^ (40 : Int).toNat = c
    -- a making
    refine ⟨(by show (0 : Int) < 3; decide), ?_⟩
    have lenO : (((oa.map V.ref).length : Nat) : Int) = ((1 + x8 : Nat) : Int) := by rw [List.length_map, lo4]
    have lenI : (((ia.map V.ref).length : Nat) : Int) = (x9 : Int) := by rw [List.length_map, li4]
    obtain ⟨y1, ey1, hy1⟩ := mod_nat (x := c / 3) (n := 1 + x8) (by omega)
    obtain ⟨a1, ha1, at1⟩ := refAt (l := oa) (j := y1) (by omega)
    refine ite2 (fun _ => iteT ?_) (fun _ => ⟨li, _, rfl, .inl (SqL.of ps.eli), ite2 (fun _ => ?_) (fun h2 => ⟨(by show (0 : Int) < 3; decide), ?_⟩)⟩)
    · refine ⟨⟨by decide, by decide⟩, lo, _, rfl, .inl (SqL.of ps.elo), (by show (0 : Int) < _; rw [lenO]; omega), _, ps.elo, onS_of (v := .ref a1) (by rw [lenO, ey1]; exact at1) ?_⟩
      dsimp only [gName]
      refine ⟨⟨by decide, by decide⟩, lo, _, rfl, .inl (SqL.of ps.elo), li, _, rfl, .inl (SqL.of ps.eli), wl, c / 24, 1 + x8, x9, by rw [lenO, lenI]; rfl, hw4, by omega, fun v m H5 S5 mok im => ?_⟩
      exact mkA' c _ H5 v m y1 a1 _ S5 mok im ha1 rfl (fun H6 Pq' S6 ps6 pk6 => ⟨Pq', _, _, _, _, rfl, S6, ps6, pk6⟩)
    · refine ⟨⟨by decide, by decide⟩, lo, _, rfl, .inl (SqL.of ps.elo), (by show (0 : Int) < _; rw [lenO]; omega), _, ps.elo, onS_of (v := .ref a1) (by rw [lenO, ey1]; exact at1) ?_⟩
      dsimp only [gName]
      refine ⟨⟨by decide, by decide⟩, lo, _, rfl, .inl (SqL.of ps.elo), li, _, rfl, .inl (SqL.of ps.eli), wl, c / 24, 1 + x8, x9, by rw [lenO, lenI]; rfl, hw4, by omega, fun v m H5 S5 mok im => ?_⟩
      exact mkA' c _ H5 v m y1 a1 _ S5 mok im ha1 rfl (fun H6 Pq' S6 ps6 pk6 => ⟨Pq', _, _, _, _, rfl, S6, ps6, pk6⟩)
    have n9 : 1 ≤ x9 := by
      rcases Nat.eq_zero_or_pos x9 with z | z
      · exact absurd (by rw [decide_eq_true (show (((ia.map V.ref).length : Nat) : Int) = 0 by rw [lenI, z]; rfl)]; rfl) h2
      · exact z
    obtain ⟨y2, ey2, hy2⟩ := mod_nat (x := c / 3) n9
    refine ite2 (fun _ => ?_) (fun _ => ?_)
    · obtain ⟨a2, ha2, at2⟩ := refAt (l := ia) (j := y2) (by omega)
      refine ⟨⟨by decide, by decide⟩, li, _, rfl, .inl (SqL.of ps.eli), (by show (0 : Int) < _; rw [lenI]; omega), _, ps.eli, onS_of (v := .ref a2) (by rw [lenI, ey2]; exact at2) ?_⟩
      dsimp only [gName]
      refine ⟨⟨by decide, by decide⟩, lo, _, rfl, .inl (SqL.of ps.elo), li, _, rfl, .inl (SqL.of ps.eli), wl, c / 27, 1 + x8, x9, by rw [lenO, lenI]; rfl, hw4, by omega, n9, fun v m H5 S5 mok im => ?_⟩
      exact usA' c _ H5 v m y2 a2 _ S5 mok im ha2 rfl (fun H6 Pq' S6 ps6 pk6 => ⟨Pq', _, _, _, _, rfl, S6, ps6, pk6⟩)
    · dsimp only [gName]
      obtain ⟨y3, ey3, hy3⟩ := mod_nat (x := c / 27) (n := 1 + x8) (by omega)
      refine ⟨⟨by decide, by decide⟩, li, _, rfl, .inl (SqL.of ps.eli), (by show (0 : Int) < _; rw [lenI]; omega), ⟨by decide, by decide⟩, lo, _, rfl, .inl (SqL.of ps.elo), (by show (0 : Int) < _; rw [lenO]; omega), (by show 2 ≤ sizeLine; decide), fun t ht => ?_⟩
      have i1 : ∀ H' : Hp, Im H' (.int (c / 3 % (((ia.map V.ref).length : Nat) : Int))) (nI y2) := fun H' => by rw [lenI, ey2]; exact im_int _
      have i2 : ∀ H' : Hp, Im H' (.int (c / 27 % (((oa.map V.ref).length : Nat) : Int))) (nI y3) := fun H' => by rw [lenO, ey3]; exact im_int _
      exact flA' c _ _ _ (y2, y3) _ (same_new ht _) ⟨hy2, hy3⟩ (im_newK ht (.cons (i1 _) (.cons (i2 _) .nil))) rfl (fun H6 Pq' S6 ps6 pk6 => ⟨Pq', _, _, _, _, rfl, S6, ps6, pk6⟩)
  · rintro σ H4 ⟨Pq, o6, o7, o8, o9, rfl, S4, ps, pk⟩
    rw [List.length_map] at pk
    have l63 : ns.length ≤ 63 := ln
    have lo4 := ps.ro.len
    rw [pk.hno] at lo4
    have li4 := ps.ri.len
    rw [pk.hni] at li4
    refine ⟨lo, rfl, ⟨_, SqL.of ps.elo⟩, fun d1 hd1 => ?_⟩
    refine lc_gen (oa.map V.ref).length (by rw [List.length_map]; omega) (fun ys H5 => Ims H5 ys ((Pq.outs.take ys.length).map outD)) (fun ys _ _ h k => h.mono k) hd1 rfl (fun k H S hk => go_lst ps.elo S hk) (fun H S => st_lst ps.elo S) .nil ?_ ?_
    · rintro k H5 v H6 ys Z S5 hk ⟨rfl, hv⟩ hys hl z
      have hv2 := hv _ (SqL.of (S5 _ _ ps.elo))
      rw [List.length_map] at hk
      rw [List.getElem?_map, List.getElem?_eq_getElem hk] at hv2
      cases hv2
      obtain ⟨l, hl2⟩ : ∃ l, Pq.outs[k]? = some l := ⟨_, List.getElem?_eq_getElem (by rw [pk.hno]; omega)⟩
      obtain ⟨xs, e, is⟩ := (ps.same S5).ro.get k _ l (List.getElem?_eq_getElem hk) hl2
      refine ⟨_, xs, rfl, .inl ⟨SqL.of e, fun tp htp => z _ _ (same_new htp _) ?_⟩⟩
      rw [List.length_append, List.length_singleton, hl, take_snocK hl2, List.map_append]
      rw [hl] at hys
      exact (hys.mono (Same.tk (same_new htp _))).app (.cons (im_newK htp is) .nil)
    rintro H5 ys1 S5 i5 l5 e5
    rw [l5, List.length_map, lo4, ← pk.hno, List.take_length] at i5
    have ps5 := ps.same S5
    refine ⟨li, rfl, ⟨_, SqL.of ps5.eli⟩, fun d2 hd2 => ?_⟩
    refine lc_gen (ia.map V.ref).length (by rw [List.length_map]; omega) (fun ys H6 => Ims H6 ys ((Pq.ins.take ys.length).map inD)) (fun ys _ _ h k => h.mono k) hd2 rfl (fun k H S hk => go_lst ps5.eli S hk) (fun H S => st_lst ps5.eli S) .nil ?_ ?_
    · rintro k H6 v H7 ys Z S6 hk ⟨rfl, hv⟩ hys hl z
      have hv2 := hv _ (SqL.of (S6 _ _ ps5.eli))
      rw [List.length_map] at hk
      rw [List.getElem?_map, List.getElem?_eq_getElem hk] at hv2
      cases hv2
      obtain ⟨l, hl2⟩ : ∃ l, Pq.ins[k]? = some l := ⟨_, List.getElem?_eq_getElem (by rw [pk.hni]; omega)⟩
      obtain ⟨xs, e, is⟩ := (ps5.same S6).ri.get k _ l (List.getElem?_eq_getElem hk) hl2
      refine ⟨_, xs, rfl, .inl ⟨SqL.of e, fun tp htp => z _ _ (same_new htp _) ?_⟩⟩
      rw [List.length_append, List.length_singleton, hl, take_snocK hl2, List.map_append]
      rw [hl] at hys
      exact (hys.mono (Same.tk (same_new htp _))).app (.cons (im_newK htp is) .nil)
    rintro H6 ys2 S6 i6 l6 e6
    rw [l6, List.length_map, li4, ← pk.hni, List.take_length] at i6
    have ps6 := ps5.same S6
    obtain ⟨fv, ef, jf⟩ := ps6.elf
    have lfv := jf.length
    rw [List.length_map] at lfv
    have f63 := pk.ff.1
    refine ⟨false, lf, fv, rfl, SqL.of ef, by omega, fun v hv => ?_, fun d3 ts hd3 pm => ⟨(by show 3 ≤ sizeLine; decide), fun pp hpp => ?_⟩⟩
    · obtain ⟨j, hj⟩ := List.mem_iff_getElem?.mp hv
      obtain ⟨p, _, ip⟩ := ims_at jf hj
      obtain ⟨t, zs, rfl, et, iz⟩ := im_tup ip
      obtain ⟨z1, z2, rfl, j1, j2⟩ := ims2K iz
      rw [im_nI j1, im_nI j2] at et
      exact ⟨t, _, _, rfl, et, ⟨_, rfl⟩⟩
    obtain ⟨fl', pf, jf'⟩ := ims_perm pm _ jf
    have s7 := same_new hd3 (.lst ts)
    have s8 := same_new hpp (.lst [.ref d1, .ref d2, .ref d3])
    have S48 : Same H4 _ := ((S5.trans S6).trans s7).trans s8
    refine q pp d1 d2 d3 ⟨Pq.outs, Pq.ins, fl'⟩ _ (S4.trans S48) (fun a ha => ?_) ?_ upd_same ⟨⟨ys1, s8 _ _ (s7 _ _ (S6 _ _ e5)), i5.mono (Same.tk ((S6.trans s7).trans s8))⟩, ⟨ys2, s8 _ _ (s7 _ _ e6), i6.mono (Same.tk (s7.trans s8))⟩, ⟨ts, s8 _ _ upd_same, jf'.mono (Same.tk (s7.trans s8))⟩⟩ ⟨by rw [pk.hno]; omega, by rw [pk.hno]; omega, by rw [pk.hni]; omega, fun l hl => ?_, fun l hl => ?_, by show fl'.length ≤ 64; rw [pf.length_eq]; omega, fun p hp => ?_⟩
    · simp only [List.mem_cons, List.not_mem_nil, or_false] at ha
      rcases ha with rfl | rfl | rfl | rfl
      · exact free_of S4 (free_of ((S5.trans S6).trans s7) hpp)
      · exact free_of S4 hd1
      · exact free_of S4 (free_of S5 hd2)
      · exact free_of S4 (free_of (S5.trans S6) hd3)
    · simp only [List.nodup_cons, List.mem_cons, List.not_mem_nil, or_false, not_or]
      exact ⟨⟨(ne_of_none (s7 _ _ (S6 _ _ e5)) hpp).symm, (ne_of_none (s7 _ _ e6) hpp).symm, (ne_of_none (upd_same (H := H6) (a := d3) (o := .lst ts)) hpp).symm⟩, ⟨ne_of_none e5 hd2, ne_of_none (S6 _ _ e5) hd3⟩, ne_of_none e6 hd3, fun z => z, List.nodup_nil⟩
    · show l.length ≤ 64 ∧ ∀ m ∈ l, Pm.ok Pq.outs.length Pq.ins.length m
      rw [pk.hno, pk.hni]
      exact ⟨by have := (pk.om l hl).1; omega, (pk.om l hl).2⟩
    · show l.length ≤ 64 ∧ ∀ m ∈ l, Pu.ok Pq.outs.length Pq.ins.length m
      rw [pk.hno, pk.hni]
      exact ⟨by have := (pk.iu l hl).1; omega, (pk.iu l hl).2⟩
    · show p.1 < Pq.ins.length ∧ p.2 < Pq.outs.length
      rw [pk.hno, pk.hni]
      exact pk.ff.2 p (pf.mem_iff.mp hp)
end
end K25.Internal
namespace K25.Internal
open PySem L2.Internal BO.Internal KK.Internal
seal L2.Internal.PE L2.Internal.PA L2.Internal.PS L2.Internal.PSs L2.Internal.PT L2.Internal.PI
noncomputable def bdW (D : Bd) : Dt := .lst [.lst (D.pts.map fun i => .flat (.int i)), .lst (D.mks.map Mkg.d), .lst (D.uss.map Us.d), .lst (D.fls.map flD)]
theorem bq_good {c : Cs} {H : Hp} {A : Ad} {r : V} {D : Bd} (B : Bw c H A r D) {n : Nat} (h : Sz D n) (hn : n ≤ 900) : depD (bdW D) ≤ 6 ∧ okD (bdW D) := by
  obtain ⟨b, e0, ⟨mv, e1, h1⟩, ⟨uv, e2, h2⟩, ⟨fv, e3, h3⟩, nd⟩ := B
  obtain ⟨a0, a1, a2, a3⟩ := h
  have m1 : ∀ m ∈ D.mks, depD m.f ≤ 2 ∧ okD m.f := fun m hm => by
    obtain ⟨x, _, _, _, _, _, _, d, o⟩ := h1.right m hm
    exact ⟨d, o⟩
  have m2 : ∀ u ∈ D.uss, u.ok := fun u hu => by
    obtain ⟨x, q⟩ := h2.right u hu
    exact q.ok
  have d0 : depDs (D.pts.map fun i => Dt.flat (.int i)) ≤ 3 := depDs_map fun x _ => Nat.zero_le _
  have d1 : depDs (D.mks.map Mkg.d) ≤ 3 := depDs_map fun m hm => by
    have := (m1 m hm).1
    simp [Mkg.d, depD, depDs]
    omega
  have d2 : depDs (D.uss.map Us.d) ≤ 3 := depDs_map fun u _ => u.dep
  have d3 : depDs (D.fls.map flD) ≤ 3 := depDs_map fun p _ => by simp [flD, depD, depDs]
  refine ⟨?_, (by show 4 ≤ 100000; decide), ⟨by rw [List.length_map]; omega, okDs_map fun _ _ => trivial⟩, ⟨by rw [List.length_map]; omega, okDs_map fun m hm => ⟨by show 4 ≤ 100000; decide, trivial, (m1 m hm).2, trivial, trivial, trivial⟩⟩, ⟨by rw [List.length_map]; omega, okDs_map fun u hu => Us.okd (m2 u hu)⟩, ⟨by rw [List.length_map]; omega, okDs_map fun p _ => ⟨by show 2 ≤ 100000; decide, trivial, trivial, trivial⟩⟩, trivial⟩
  simp only [bdW, depD, depDs]
  omega
theorem dq_data {H : Hp} {A : Ad} {D : Bd} (B : Dw H A D) : Dta H (.ref A.b) (bdW D) := by
  obtain ⟨mv, m1, m2⟩ := B.e1
  obtain ⟨uv, u1, u2⟩ := B.e2
  obtain ⟨fv, f1, f2⟩ := B.e3
  exact .lst B.b (.cons (.lst B.e0 (dtas_ints _ _)) (.cons (.lst m1 m2.das) (.cons (.lst u1 u2.das) (.cons (.lst f1 f2.das) .nil))))
section
variable {P : Program} {w : World} {K : PySem.W.Frag} {mg : Str → Option Value} {base : Heap}
noncomputable def sp_told (c : Cs) : Sp := fun vs H Q _ => ∃ (A : Ad) (r : V) (D : Bd) (n : Nat), vs = [.ref A.b] ∧ Bw c H A r D ∧ Sz D n ∧ n ≤ 900 ∧ ∀ v H', Same H H' → Dta H' v (bdW D) → Q v H'
theorem ok__law_told (T : Txt K mg) : FnOk P w K mg base CX0 2 T.a__law_told T.fd__law_told ["_law_board"] (sp_told (cs T)) := by
  have G_Make_told := ok_Make_told (P := P) (w := w) (base := base) T
  have G_NumUse_told := ok_NumUse_told (P := P) (w := w) (base := base) T
  have G_CallUse_told := ok_CallUse_told (P := P) (w := w) (base := base) T
  have G_TakeUse_told := ok_TakeUse_told (P := P) (w := w) (base := base) T
  have G_CaseUse_told := ok_CaseUse_told (P := P) (w := w) (base := base) T
  have G_RowUse_told := ok_RowUse_told (P := P) (w := w) (base := base) T
  refine T.F__law_told.ok sc__law_told (fun vs H Q E h => ?_) (fun cdv A0 outer s H vs Q E hr h => ?_)
  · obtain ⟨A, r, D, n, rfl, _⟩ := h
    rfl
  obtain ⟨A, r, D, n, rfl, B, sm, hn, q⟩ := h
  refine ⟨_, (pss_cons (ps_setLC (j := 1) rfl (blk0 (x := "_law_one") rfl (by decide +kernel) (by decide +kernel) rfl rfl) (pi_list (pec_fld T.cl_Board T.n_Board_makes (cv 0))) (fun _ _ _ _ _ => pts_nil) (fun _ _ _ _ _ => (pec_meth (pe_meth0 (PE.mono (cv 0)) T.cl_Make T.me_Make_told G_Make_told (hr.mono (by decide)) T.b_Make_told .nil pass0))) sc__law_told.nd rfl (Or.inl rfl))
    (pss_cons (ps_setLC (j := 2) rfl (blk0 (x := "_law_one") rfl (by decide +kernel) (by decide +kernel) rfl rfl) (pi_list (pec_fld T.cl_Board T.n_Board_uses (cv 0))) (fun _ _ _ _ _ => pts_nil) (fun _ _ _ _ _ => (PE.or (pec_meth (pe_meth0 (PE.mono (cv 0)) T.cl_NumUse T.me_NumUse_told G_NumUse_told (hr.mono (by decide)) T.b_NumUse_told .nil pass0)) (PE.or (pec_meth (pe_meth0 (PE.mono (cv 0)) T.cl_CallUse T.me_CallUse_told G_CallUse_told (hr.mono (by decide)) T.b_CallUse_told .nil pass0)) (PE.or (pec_meth (pe_meth0 (PE.mono (cv 0)) T.cl_TakeUse T.me_TakeUse_told G_TakeUse_told (hr.mono (by decide)) T.b_TakeUse_told .nil pass0)) (PE.or (pec_meth (pe_meth0 (PE.mono (cv 0)) T.cl_CaseUse T.me_CaseUse_told G_CaseUse_told (hr.mono (by decide)) T.b_CaseUse_told .nil pass0)) (pec_meth (pe_meth0 (PE.mono (cv 0)) T.cl_RowUse T.me_RowUse_told G_RowUse_told (hr.mono (by decide)) T.b_RowUse_told .nil pass0))))))) sc__law_told.nd rfl (Or.inl rfl))
    (pss_one (ps_ret (pe_lst (pa_cons (pe_callTy call_list_of rfl T.z_list bt_list (pa_cons (pec_fld T.cl_Board T.n_Board_points (cv 0)) pa_nil)) (pa_cons (cv 1) (pa_cons (cv 2) (pa_cons (pe_callTy call_list_of rfl T.z_list bt_list (pa_cons (pec_fld T.cl_Board T.n_Board_flows (cv 0)) pa_nil)) pa_nil))))))))), ?_⟩
  have sl : sizeLine = 16777216 := sizeLine_eq
  obtain ⟨mv, em, am⟩ := B.e1
  obtain ⟨uv, eu, au⟩ := B.e2
  have lm := am.length
  have lu := au.length
  have s1 := sm.2.1
  have s2 := sm.2.2.1
  refine ⟨_, ⟨_, _, B.b, fB_makes _ _ _ _ _⟩, A.p1, rfl, ⟨_, SqL.of em⟩, fun d hd => ?_⟩
  refine lc_gen mv.length (by omega) (fun xs H => Ims H xs ((D.mks.take xs.length).map Mkg.d)) (fun xs H H' h k => h.mono k) hd rfl (fun k H S hk => go_lst em S hk) (fun H S => st_lst em S) .nil ?_ ?_
  · rintro k H2 v H3 xs Z S2 hk ⟨rfl, hv⟩ I2 hl z
    obtain ⟨m, hm, x, dx, f, rfl, ex, hf, _⟩ := am.get (hv _ (SqL.of (S2 _ _ em)))
    have ex2 := S2 _ _ ex
    refine ⟨⟨_, _, ex2, fM_no_told _ _ _ _⟩, x, dx, _, _, _, _, rfl, ex2, fun t ht => z _ _ (same_new ht _) ?_⟩
    show Ims _ (xs ++ [V.ref t]) ((D.mks.take (xs ++ [V.ref t]).length).map Mkg.d)
    rw [List.length_append, List.length_singleton, take_snocK (by rw [hl]; exact hm), List.map_append]
    exact (Ims.mono (Same.tk (same_new ht _)) I2).app (.cons (im_newK ht (.cons (im_str _) (.cons (hf.mono (Same.tk S2)) (.cons (im_int _) (.cons (im_int _) .nil))))) .nil)
  rintro H2 xs S2 I2 hl eD
  have I2' : Ims H2 xs ((D.mks.take xs.length).map Mkg.d) := I2
  rw [hl, lm, List.take_length] at I2'
  have B2 := B.same S2
  have eu2 := S2 _ _ eu
  refine ⟨_, ⟨_, _, B2.b, fB_uses _ _ _ _ _⟩, A.p2, rfl, ⟨_, SqL.of eu2⟩, fun d2 hd2 => ?_⟩
  refine lc_gen uv.length (by omega) (fun xs H => Ims H xs ((D.uss.take xs.length).map Us.d)) (fun xs H H' h k => h.mono k) hd2 rfl (fun k H S hk => go_lst eu2 S hk) (fun H S => st_lst eu2 S) .nil ?_ ?_
  · rintro k H3 v H4 ys Z S3 hk ⟨rfl, hv⟩ I3 hl3 z
    obtain ⟨u, hu, ua⟩ := au.get (hv _ (SqL.of (S3 _ _ eu2)))
    have S := S2.trans S3
    have fin : ∀ {t : Addr} {ts : List V} {ds : List Dt}, H4 t = none → Ims H4 ts ds → Us.d u = .tup ds → Z (.ref t) (upd H4 t (.tup ts)) := fun {t ts ds} ht i e => z _ _ (same_new ht _) (by
      show Ims _ (ys ++ [V.ref t]) ((D.uss.take (ys ++ [V.ref t]).length).map Us.d)
      rw [List.length_append, List.length_singleton, take_snocK (by rw [hl3]; exact hu), List.map_append]
      refine (Ims.mono (Same.tk (same_new ht _)) I3).app (.cons ?_ .nil)
      rw [e]
      exact im_newK ht i)
    have h4 : ∀ (s : Str) (a p sl : Int), Ims H4 [.str s, .int a, .int p, .int sl] (hdD s a p sl) := fun s a p sl => .cons (im_str _) (.cons (im_int _) (.cons (im_int _) (.cons (im_int _) .nil)))
    cases u with
    | num a p sl =>
      obtain ⟨x, dx, rfl, ex⟩ := ua
      have ex2 := S _ _ ex
      exact .inl ⟨⟨_, _, ex2, fU_no_told _ _ _⟩, x, dx, _, _, _, rfl, ex2, fun t ht => fin ht (h4 "num" a p sl) rfl⟩
    | call a p sl y1 y2 =>
      obtain ⟨x, dx, rfl, ex⟩ := ua
      have ex2 := S _ _ ex
      exact .inr (.inl ⟨⟨_, _, ex2, fU2_no_told _ _ _ _ _⟩, x, dx, _, _, _, _, _, rfl, ex2, fun t ht => fin ht ((h4 "call" a p sl).app (.cons (im_int y1) (.cons (im_int y2) .nil))) rfl⟩)
    | take a p sl l =>
      obtain ⟨x, dx, f, rfl, ex, hf, _⟩ := ua
      have ex2 := S _ _ ex
      exact .inr (.inr (.inl ⟨⟨_, _, ex2, fU1F_no_told _ _ _ _⟩, x, dx, _, _, _, _, rfl, ex2, fun t ht => fin ht ((h4 "take" a p sl).app (.cons (hf.mono (Same.tk S)) .nil)) rfl⟩))
    | case a p sl l =>
      obtain ⟨x, dx, f, rfl, ex, hf, _⟩ := ua
      have ex2 := S _ _ ex
      exact .inr (.inr (.inr (.inl ⟨⟨_, _, ex2, fU1A_no_told _ _ _ _⟩, x, dx, _, _, _, _, rfl, ex2, fun t ht => fin ht ((h4 "case" a p sl).app (.cons (hf.mono (Same.tk S)) .nil)) rfl⟩)))
    | row a p sl y1 =>
      obtain ⟨x, dx, rfl, ex⟩ := ua
      have ex2 := S _ _ ex
      exact .inr (.inr (.inr (.inr ⟨⟨_, _, ex2, fU1O_no_told _ _ _ _⟩, x, dx, _, _, _, _, rfl, ex2, fun t ht => fin ht ((h4 "row" a p sl).app (.cons (im_int y1) .nil)) rfl⟩)))
  rintro H3 ys S3 I3 hl3 eD2
  have I3' : Ims H3 ys ((D.uss.take ys.length).map Us.d) := I3
  rw [hl3, lu, List.take_length] at I3'
  have S := S2.trans S3
  have B3 := B.same S
  refine ⟨_, ⟨_, _, B3.b, fB_points _ _ _ _ _⟩, A.p0, _, rfl, .inl (SqL.of B3.e0), fun l0 h0 => ?_⟩
  have S4 := same_new h0 (.lst (D.pts.map V.int))
  obtain ⟨fv, ef, jf⟩ := B3.e3
  refine ⟨_, ⟨_, _, S4 _ _ B3.b, fB_flows _ _ _ _ _⟩, A.p3, _, rfl, .inl (SqL.of (S4 _ _ ef)), fun l3 h3 => ⟨(by show 4 ≤ sizeLine; decide), fun l hl => ?_⟩⟩
  have S5 := same_new h3 (.lst fv)
  have S6 := same_new hl (.lst [.ref l0, .ref d, .ref d2, .ref l3])
  have S46 := S4.trans (S5.trans S6)
  refine q _ _ (S.trans S46) ?_
  exact .lst upd_same (.cons (.lst ((S5.trans S6) _ _ upd_same) (dtas_ints _ _)) (.cons (.lst ((S3.trans S46) _ _ eD) (I2'.mono (Same.tk (S3.trans S46))).das) (.cons (.lst (S46 _ _ eD2) (I3'.mono (Same.tk S46)).das) (.cons (.lst (S6 _ _ upd_same) (jf.mono (Same.tk S46)).das) .nil))))
end
end K25.Internal
namespace K25.Internal
open PySem L2.Internal BO.Internal KK.Internal
seal L2.Internal.PE L2.Internal.PA L2.Internal.PS L2.Internal.PSs L2.Internal.PT L2.Internal.PI
theorem cut_ints (ns : List Int) (lo hi : Option Int) : ∃ ms : List Int, cutV (ns.map V.int) lo hi = ms.map V.int ∧ ms.length ≤ ns.length := by
  refine ⟨(ns.drop (HT.Internal.sIx (ns.map V.int).length 0 lo)).take (HT.Internal.sIx (ns.map V.int).length (ns.map V.int).length hi - HT.Internal.sIx (ns.map V.int).length 0 lo), ?_, ?_⟩
  · unfold cutV
    rw [← List.map_drop, ← List.map_take]
  · rw [List.length_take, List.length_drop]
    omega
noncomputable def D0 : Bd := ⟨[], [], [], [], 0⟩
noncomputable def Dp (pts : List Int) : Bd := ⟨pts, [], [], [], 0⟩
theorem due_new {H : Hp} {q0 q1 q2 q3 dd : Addr} (h0 : H q0 = none) (h1 : (upd H q0 (.lst [])) q1 = none) (h2 : (upd (upd H q0 (.lst [])) q1 (.lst [])) q2 = none) (h3 : (upd (upd (upd H q0 (.lst [])) q1 (.lst [])) q2 (.lst [])) q3 = none)
    (h4 : (upd (upd (upd (upd H q0 (.lst [])) q1 (.lst [])) q2 (.lst [])) q3 (.lst [])) dd = none) :
    Same H (upd (upd (upd (upd (upd H q0 (.lst [])) q1 (.lst [])) q2 (.lst [])) q3 (.lst [])) dd (.lst [.ref q0, .ref q1, .ref q2, .ref q3])) ∧
    Dw (upd (upd (upd (upd (upd H q0 (.lst [])) q1 (.lst [])) q2 (.lst [])) q3 (.lst [])) dd (.lst [.ref q0, .ref q1, .ref q2, .ref q3])) ⟨dd, dd, q0, q1, q2, q3⟩ (Dp []) ∧ H dd = none ∧ ∀ a ∈ [q0, q1, q2, q3], H a = none := by
  have S1 := same_new h0 (.lst [])
  have e0 : (upd H q0 (.lst [])) q0 = some (.lst []) := upd_same
  generalize upd H q0 (.lst []) = H1 at *
  have S2 := same_new h1 (.lst [])
  have e1 : (upd H1 q1 (.lst [])) q1 = some (.lst []) := upd_same
  have n01 := ne_of_none e0 h1
  generalize upd H1 q1 (.lst []) = H2 at *
  have S3 := same_new h2 (.lst [])
  have e2 : (upd H2 q2 (.lst [])) q2 = some (.lst []) := upd_same
  have n02 := ne_of_none (S2 _ _ e0) h2
  have n12 := ne_of_none e1 h2
  generalize upd H2 q2 (.lst []) = H3 at *
  have S4 := same_new h3 (.lst [])
  have e3 : (upd H3 q3 (.lst [])) q3 = some (.lst []) := upd_same
  have n03 := ne_of_none (S3 _ _ (S2 _ _ e0)) h3
  have n13 := ne_of_none (S3 _ _ e1) h3
  have n23 := ne_of_none e2 h3
  generalize upd H3 q3 (.lst []) = H4 at *
  have S5 := same_new h4 (.lst [.ref q0, .ref q1, .ref q2, .ref q3])
  have S14 := S1.trans (S2.trans (S3.trans S4))
  have f0 := S4 _ _ (S3 _ _ (S2 _ _ e0))
  have f1 := S4 _ _ (S3 _ _ e1)
  have f2 := S4 _ _ e2
  refine ⟨S14.trans S5, ⟨upd_same, ?_, S5 _ _ f0, ⟨_, S5 _ _ f1, .nil⟩, ⟨_, S5 _ _ f2, .nil⟩, ⟨_, S5 _ _ e3, .nil⟩, ?_⟩, S14.free h4, fun a ha => ?_⟩
  · simp only [Ad.ls, List.mem_cons, List.not_mem_nil, or_false, not_or]
    exact ⟨Ne.symm (ne_of_none f0 h4), Ne.symm (ne_of_none f1 h4), Ne.symm (ne_of_none f2 h4), Ne.symm (ne_of_none e3 h4)⟩
  · simp only [Ad.ls, List.nodup_cons, List.mem_cons, List.not_mem_nil, or_false, not_or]
    exact ⟨⟨n01, n02, n03⟩, ⟨n12, n13⟩, n23, fun z => z, List.nodup_nil⟩
  · simp only [List.mem_cons, List.not_mem_nil, or_false] at ha
    rcases ha with rfl | rfl | rfl | rfl
    · exact h0
    · exact S1.free h1
    · exact (S1.trans S2).free h2
    · exact (S1.trans (S2.trans S3)).free h3
structure Apart (A M : Ad) : Prop where
  s1 : ∀ a ∈ A.ls, a ∉ M.ls
  s2 : ∀ a ∈ M.ls, a ∉ A.ls
  s3 : A.b ∉ M.ls
  s4 : M.b ∉ A.ls
  s5 : A.b ≠ M.b
theorem Apart.of {H : Hp} {A M : Ad} (ha : ∀ a ∈ A.b :: A.ls, ∃ o, H a = some o) (hm : ∀ a ∈ M.b :: M.ls, H a = none) : Apart A M := by
  have k : ∀ a ∈ A.b :: A.ls, ∀ m ∈ M.b :: M.ls, a ≠ m := fun a h1 m h2 => by
    obtain ⟨o, e⟩ := ha a h1
    exact ne_of_none e (hm m h2)
  exact ⟨fun a h z => k a (by simp [h]) a (by simp [z]) rfl, fun a h z => k a (by simp [z]) a (by simp [h]) rfl, fun z => k A.b (by simp) A.b (by simp [z]) rfl, fun z => k M.b (by simp [z]) M.b (by simp) rfl, k A.b (by simp) M.b (by simp)⟩
theorem fb_from {A : Ad} {H1 H2 H3 : Hp} (S : Same H1 H2) (F : FB A H2 H3) (fr : ∀ a ∈ A.ls, H1 a = none) : Same H1 H3 := fun a o e => F.1 a o (S a o e) fun m => by
  rw [fr a m] at e
  cases e

theorem lc_genT {J : It} {i : Nat} {te : TE} {Q : VK} {τ : St} {H1 : Hp} {D : Addr} (n : Nat) (hn : n < sizeLine) (R : List V → Hp → Prop) (hR : ∀ xs H H', R xs H → FrD D H H' → TK H H' → R xs H') (hD : H1 D = none) (hτ : τ.set i none = τ)
    (hgo : ∀ k H, Same H1 H → k < n → J.go k H) (hst : ∀ H, Same H1 H → J.stop n H) (h0 : R [] H1)
    (step : ∀ k H v H3 xs (Z : VK), Same H1 H → k < n → J.yld k H v H3 → R xs H → xs.length = k → H D = some (.lst xs) → (∀ y H5, Same H H5 → R (xs ++ [y]) H5 → Z y H5) → te (τ.set i (some v)) H3 Z)
    (hq : ∀ H' xs, Same H1 H' → R xs H' → xs.length = n → H' D = some (.lst xs) → Q (.ref D) H') : LcP J i tAlways te Q τ H1 D := by
  have nd : ∀ (H5 : Hp) (o : HO), FrD D H5 (upd H5 D o) := fun H5 o a u e n => by rw [upd_ne n]; exact e
  have up : ∀ {H : Hp} (o : HO), Same H1 H → Same H1 (upd H D o) := fun {H} o S b u e => by rw [upd_ne (ne_of_none e hD)]; exact S b u e
  refine ⟨fun k m σ' H2 => m = n - k ∧ k ≤ n ∧ (∃ o, σ' = τ.set i o) ∧ Same H1 H2 ∧ ∃ xs, H2 D = some (.lst xs) ∧ xs.length = k ∧ R xs H2, ⟨n, by simp, Nat.zero_le _, ⟨none, hτ.symm⟩, same_new hD _, [], upd_same, rfl, hR _ _ _ h0 (nd _ _) (Same.tk (same_new hD _))⟩, ?_⟩
  rintro k m σ' H2 ⟨rfl, hk, ⟨o, rfl⟩, S, xs, e, hl, hr⟩
  by_cases hlt : k < n
  · refine .inr ⟨hgo k H2 S hlt, fun v H3 y => ?_⟩
    rw [List.set_set]
    refine step k H2 v H3 xs _ S hlt y hr hl e fun y H5 S5 r5 => ?_
    refine ⟨xs, S5 D _ e, by omega, n - (k + 1), by omega, rfl, hlt, ⟨some v, rfl⟩, up _ (S.trans S5), xs ++ [y], upd_same, by rw [List.length_append, hl]; rfl, hR _ _ _ r5 (nd H5 _) (fk_lst (S5 D _ e)).tk⟩
  · have e1 : k = n := by omega
    subst e1
    exact .inl ⟨hst H2 S, hq H2 xs S hr hl e⟩
structure Q4 where
  x : Addr
  o : Addr
  i : Addr
  f : Addr
noncomputable def HandR (C : Addr) (H1 : Hp) (D : Addr) (Ps : List Pp) (xs : List V) (H : Hp) : Prop := ∃ rs : List Q4, xs = rs.map (fun r => V.ref r.x) ∧ ∀ (k : Nat) (r : Q4) (Pq : Pp), rs[k]? = some r → Ps[k]? = some Pq → PapAt C H r.x r.o r.i r.f ∧ L3 H r.o r.i r.f Pq ∧ ∀ a ∈ [r.x, r.o, r.i, r.f], a ≠ D
theorem HandR.mono {C : Addr} {H1 H H' : Hp} {D : Addr} {Ps : List Pp} {xs : List V} (h : HandR C H1 D Ps xs H) (f : FrD D H H') (tk : TK H H') : HandR C H1 D Ps xs H' := by
  obtain ⟨rs, e, g⟩ := h
  refine ⟨rs, e, fun k r Pq h1 h2 => ?_⟩
  obtain ⟨⟨dx, p⟩, l, n⟩ := g k r Pq h1 h2
  exact ⟨⟨dx, f _ _ p (n _ (by simp))⟩, l.fr (fun a ha xs e => f _ _ e (n a (List.mem_cons_of_mem _ ha))) tk, n⟩
noncomputable def papD (Pq : Pp) : Dt := .lst [.lst (Pq.outs.map outD), .lst (Pq.ins.map inD), .lst (Pq.fls.map flN2)]
theorem L3.da {H : Hp} {o i f : Addr} {Pq : Pp} (h : L3 H o i f Pq) : Dtas H [.ref o, .ref i, .ref f] [.lst (Pq.outs.map outD), .lst (Pq.ins.map inD), .lst (Pq.fls.map flN2)] := by
  obtain ⟨⟨x, h1, h2⟩, ⟨y, h3, h4⟩, ⟨z, h5, h6⟩⟩ := h
  exact .cons (.lst h1 h2.das) (.cons (.lst h3 h4.das) (.cons (.lst h5 h6.das) .nil))
theorem okd_pr {l : List (Str × Nat)} (h : l.length ≤ 4) : okD (prN l) := ⟨by rw [List.length_map]; omega, okDs_map fun x _ => ⟨by show 2 ≤ 100000; decide, trivial, trivial, trivial⟩⟩
theorem pm_good {m : Pm} {no ni : Nat} (h : m.ok no ni) : depD m.d ≤ 3 ∧ okD m.d := by
  cases m with
  | rcd l =>
    refine ⟨?_, by show 2 ≤ 100000; decide, trivial, okd_pr h.1, trivial⟩
    have := dep_pr l
    show max (depD (sD _)) (max (depD (prN l)) 0) + 1 ≤ 3
    simp only [sD, depD]
    omega
  | _ => simp [Pm.d, Pm.rest, sD, nI, iD, depD, depDs, okD, okDs]
theorem pu_good {m : Pu} {no ni : Nat} (h : m.ok no ni) : depD m.d ≤ 3 ∧ okD m.d := by
  cases m with
  | take l =>
    refine ⟨?_, by show 2 ≤ 100000; decide, trivial, okd_pr h.1, trivial⟩
    have := dep_pr l
    show max (depD (sD _)) (max (depD (prN l)) 0) + 1 ≤ 3
    simp only [sD, depD]
    omega
  | case l =>
    refine ⟨?_, by show 2 ≤ 100000; decide, trivial, okd_pr h.1, trivial⟩
    have := dep_pr l
    show max (depD (sD _)) (max (depD (prN l)) 0) + 1 ≤ 3
    simp only [sD, depD]
    omega
  | _ => simp [Pu.d, Pu.rest, sD, nI, iD, depD, depDs, okD, okDs]
theorem pap_good {Pq : Pp} (ok : Pq.ok) : depD (papD Pq) ≤ 6 ∧ okD (papD Pq) := by
  have d1 : depDs (Pq.outs.map outD) ≤ 4 := depDs_map fun l hl => Nat.succ_le_succ (depDs_map fun m hm => (pm_good ((ok.om l hl).2 m hm)).1)
  have d2 : depDs (Pq.ins.map inD) ≤ 4 := depDs_map fun l hl => Nat.succ_le_succ (depDs_map fun m hm => (pu_good ((ok.iu l hl).2 m hm)).1)
  have d3 : depDs (Pq.fls.map flN2) ≤ 4 := depDs_map fun p _ => by simp [flN2, nI, iD, depD, depDs]
  refine ⟨?_, by show 3 ≤ 100000; decide, ⟨by rw [List.length_map]; have := ok.o8; omega, okDs_map fun l hl => ⟨by rw [List.length_map]; have := (ok.om l hl).1; omega, okDs_map fun m hm => (pm_good ((ok.om l hl).2 m hm)).2⟩⟩, ⟨by rw [List.length_map]; have := ok.i8; omega, okDs_map fun l hl => ⟨by rw [List.length_map]; have := (ok.iu l hl).1; omega, okDs_map fun m hm => (pu_good ((ok.iu l hl).2 m hm)).2⟩⟩, ⟨by rw [List.length_map]; have := ok.ff.1; omega, okDs_map fun p _ => ⟨by show 2 ≤ 100000; decide, trivial, trivial, trivial⟩⟩, trivial⟩
  simp only [papD, depD, depDs]
  omega
end K25.Internal
namespace K25.Internal
open PySem L2.Internal BO.Internal KK.Internal
seal L2.Internal.PE L2.Internal.PA L2.Internal.PS L2.Internal.PSs L2.Internal.PT L2.Internal.PI
theorem asg_c {v : V} {i : Nat} {u : TS} {D : Ends} {σ : St} {H : Hp} (q : u D (σ.set i (some v)) H) : tSeq (tAsg (tC v) (gName i)) u D σ H := q
theorem root_if2 {tl tm te : TE} {ta u : TS} {D : Ends} {σ : St} {H : Hp} {n : Int} (Pr : St → Hp → Prop) (hu : ∀ σ2 H2, Pr σ2 H2 → u D σ2 H2) (hl : ∀ Q : VK, Q (.int n) H → tl σ H Q) (hm : ∀ Q : VK, (∀ b : Bool, Q (.bl b) H) → tm σ H Q) (p2 : Pr σ H) (p1 : 0 < n → ∀ D' : Ends, (∀ σ2 H2, Pr σ2 H2 → D'.nx σ2 H2) → tSeq ta (tDrop te) D' σ H) :
    tSeq (tIfS (tAnd (cT (tOp (cI0 fun i j => .bl (decide (j < i))) tl (tC (.int 0)))) (cT tm)) (tSeq ta (tDrop te)) tNext) u D σ H := by
  refine hl _ ?_
  show if decide ((0 : Int) < n) = true then _ else _
  refine ite2 (fun h => ?_) (fun _ => hu _ _ p2)
  refine hm _ fun b => ?_
  show if b = true then _ else _
  refine ite2 (fun _ => ?_) (fun _ => hu _ _ p2)
  exact p1 (of_decide_eq_true h) _ hu
noncomputable def OutR (D : Addr) (rs : List Q4) (Ps : List Pp) (xs : List V) (H : Hp) : Prop := ∃ ls : List Addr, xs = ls.map V.ref ∧ ∀ (k : Nat) (a : Addr) (r : Q4) (Pq : Pp), ls[k]? = some a → rs[k]? = some r → Ps[k]? = some Pq → a ≠ D ∧ H a = some (.lst [.ref r.o, .ref r.i, .ref r.f]) ∧ L3 H r.o r.i r.f Pq ∧ ∀ b ∈ [r.o, r.i, r.f], b ≠ D
theorem OutR.mono {H H' : Hp} {D : Addr} {rs : List Q4} {Ps : List Pp} {xs : List V} (h : OutR D rs Ps xs H) (f : FrD D H H') (tk : TK H H') : OutR D rs Ps xs H' := by
  obtain ⟨ls, e, g⟩ := h
  refine ⟨ls, e, fun k a r Pq h1 h2 h3 => ?_⟩
  obtain ⟨n1, e1, l, n2⟩ := g k a r Pq h1 h2 h3
  exact ⟨n1, f _ _ e1 n1, l.fr (fun b hb xs e => f _ _ e (n2 b hb)) tk, n2⟩
section
variable {P : Program} {w : World} {K : PySem.W.Frag} {mg : Str → Option Value} {base : Heap}
theorem all_law (T : Txt K mg) {a : Addr} {fd : FuncData} (F : Fun K "law" "law" s_law a fd) : FnOk P w K mg base CX0 60 a fd ["_law_script"] (sp_law K) := by
  have G__law_words := ok__law_words (P := P) (w := w) (base := base) T
  have G__law_mix := ok__law_mix (P := P) (w := w) (base := base) T
  have G__law_paper := ok__law_paper (P := P) (w := w) (base := base) T
  have G__law_paste := ok__law_paste (P := P) (w := w) (base := base) T
  have G__law_alike := ok__law_alike (P := P) (w := w) (base := base) T 8
  have G__law_told := ok__law_told (P := P) (w := w) (base := base) T
  have G_pasted := ok_pasted (P := P) (w := w) (base := base) T
  have G_Paper___init__ := ok_Paper___init__ (P := P) (w := w) (base := base) T
  have G_Board___init__ := ok_Board___init__ (P := P) (w := w) (base := base) T
  have G_Board_point := ok_Board_point (P := P) (w := w) (base := base) T
  have G_Board_rooted := ok_Board_rooted (P := P) (w := w) (base := base) T
  refine F.ok sc_law (fun vs H Q E h => ?_) (fun cdv A0 outer s H vs Q E hr h => ?_)
  · obtain ⟨a, ns, rfl, _⟩ := h
    rfl
  obtain ⟨ad, ns, rfl, hsq, hlen, q⟩ := h
  refine ⟨_, (pss_cons (ps_set (i := 1) sc_law.nd rfl (Or.inl rfl) (pe_op oc_mod (pe_callB (call_sumA rfl) rfl T.z_sum bt_sum (pa_cons (pe_slice sl_list (cv 0) po_none (po_some pe_int)) pa_nil)) (pe_op oc_pow pe_int pe_int)))
    (pss_cons (ps_set (i := 2) sc_law.nd rfl (Or.inl rfl) (pe_call G__law_words (hr.mono (by decide)) rfl T.m__law_words T.k__law_words T.b__law_words .nil pass0 (pa_cons (cv 1) pa_nil)))
    (pss_cons (ps_set (i := 3) sc_law.nd rfl (Or.inl rfl) (pe_op oc_add (pe_op oc_fdiv (pe_callB call_len_seq rfl T.z_len bt_len (pa_cons (cv 0) pa_nil)) pe_int) pe_int))
    (pss_cons (ps_set (i := 4) sc_law.nd rfl (Or.inl rfl) (pe_lst (pa_cons (pe_call G__law_paper (hr.mono (by decide)) rfl T.m__law_paper T.k__law_paper T.b__law_paper .nil pass0 (pa_cons (cv 2) (pa_cons (pe_op oc_fdiv (cv 1) pe_int) (pa_cons (pe_slice sl_list (cv 0) (po_some pe_int) (po_some (cv 3))) pa_nil)))) (pa_cons (pe_call G__law_paper (hr.mono (by decide)) rfl T.m__law_paper T.k__law_paper T.b__law_paper .nil pass0 (pa_cons (cv 2) (pa_cons (pe_op oc_fdiv (cv 1) pe_int) (pa_cons (pe_slice sl_list (cv 0) (po_some (cv 3)) po_none) pa_nil)))) pa_nil))))
    (pss_cons (ps_setLC (j := 5) rfl (blk0 (x := "_law_one") rfl (by decide +kernel) (by decide +kernel) rfl rfl) (pi_list (cv 4)) (fun _ _ _ _ _ => pts_nil) (fun _ _ _ _ _ => (pe_make T.mk_Paper G_Paper___init__ (hr.mono (by decide)) rfl T.m_Paper T.b_Paper___init__ .nil pass0 (pa_cons (pe_callTy (r := rLstOf K) call_list_of rfl T.z_list bt_list (pa_cons (pe_ix xc_list (cv 0) pe_int (fun _ _ => rfl)) pa_nil)) (pa_cons (pe_callTy (r := rLstOf K) call_list_of rfl T.z_list bt_list (pa_cons (pe_ix xc_list (cv 0) pe_int (fun _ _ => rfl)) pa_nil)) (pa_cons (pe_callTy (r := rLstOf K) call_list_of rfl T.z_list bt_list (pa_cons (pe_ix xc_list (cv 0) pe_int (fun _ _ => rfl)) pa_nil)) pa_nil))))) sc_law.nd rfl (Or.inl rfl))
    (pss_cons (ps_set (i := 6) sc_law.nd rfl (Or.inl rfl) (pe_make0 T.mk_Board G_Board___init__ (hr.mono (by decide)) rfl T.m_Board T.b_Board___init__ .nil pass0))
    (pss_cons (ps_set (i := 7) sc_law.nd rfl (Or.inl rfl) (pe_lst (pa_cons (pe_lst pa_nil) (pa_cons (pe_lst pa_nil) (pa_cons (pe_lst pa_nil) (pa_cons (pe_lst pa_nil) pa_nil))))))
    (pss_cons (ps_for PassesOwn.never rfl (pi_range1 rfl T.z_range (pa_cons (pe_op oc_mod (pe_op oc_fdiv (cv 1) pe_int) pe_int) pa_nil)) (pg_name (i := 8) sc_law.nd rfl (Or.inl rfl))
      (pss_cons (ps_expr (pec_app (pe_bm PySem.F.plainAttrs_list PySem.F.slot_list_append PySem.F.type_list_append mt_append (PE.mono (pe_ix xc_list (cv 7) pe_int (fun _ _ => rfl))) (pa_cons (PE.mono (pe_op oc_mod (pe_call G__law_mix (hr.mono (by decide)) rfl T.m__law_mix T.k__law_mix T.b__law_mix .nil pass0 (pa_cons (cv 1) (pa_cons (cv 8) pa_nil))) (pe_op oc_pow pe_int pe_int))) pa_nil))))
      (pss_one (ps_expr (pec_meth (pe_meth (PE.mono (cv 6)) T.cl_Board T.me_Board_point G_Board_point (hr.mono (by decide)) T.b_Board_point .nil pass0 (pa_cons (pe_ix xc_list (pe_ix xc_list (cv 7) pe_int (fun _ _ => rfl)) (cv 8) (fun _ _ => rfl)) pa_nil)))))))
    (pss_cons (ps_set (i := 9) sc_law.nd rfl (Or.inl rfl) pe_int)
    (pss_cons (ps_if (PW.pt (pw_and (ptc_cmpR oc_gt (pe_callB call_len_seq rfl T.z_len bt_len (pa_cons (pe_ix xc_list (cv 7) pe_int (fun _ _ => rfl)) pa_nil)) pe_int (nomark _)) (pw_and1 (ptc_cmpR oc_eq (pe_op oc_mod (pe_op oc_fdiv (cv 1) pe_int) pe_int) pe_int (nomark _)))))
      (pss_cons (ps_set (i := 9) sc_law.nd rfl (Or.inl rfl) (pe_op oc_mod (pe_op oc_fdiv (cv 1) pe_int) (pe_callB call_len_seq rfl T.z_len bt_len (pa_cons (pe_ix xc_list (cv 7) pe_int (fun _ _ => rfl)) pa_nil))))
      (pss_one (ps_expr (pec_meth (pe_meth (PE.mono (cv 6)) T.cl_Board T.me_Board_rooted G_Board_rooted (hr.mono (by decide)) T.b_Board_rooted .nil pass0 (pa_cons (cv 9) pa_nil))))))
      pss_nil)
    (pss_cons (ps_for PassesOwn.never rfl (pi_range1 rfl T.z_range (pa_cons pe_int pa_nil)) (pg_name (i := 10) sc_law.nd rfl (Or.inl rfl))
      (pss_cons (ps_set (i := 11) sc_law.nd rfl (Or.inl rfl) (pe_op oc_mod (pe_call G__law_mix (hr.mono (by decide)) rfl T.m__law_mix T.k__law_mix T.b__law_mix .nil pass0 (pa_cons (cv 1) (pa_cons (pe_op oc_add pe_int (cv 10)) pa_nil))) (pe_op oc_pow pe_int pe_int)))
      (pss_cons (ps_set (i := 12) sc_law.nd rfl (Or.inl rfl) (pe_callB call_len_seq rfl T.z_len bt_len (pa_cons (pe_ix xc_list (cv 7) pe_int (fun _ _ => rfl)) pa_nil)))
      (pss_cons (ps_expr (pe_call G__law_paste (hr.mono (by decide)) rfl T.m__law_paste T.k__law_paste T.b__law_paste .nil pass0 (pa_cons (cv 7) (pa_cons (pe_ix xc_list (cv 4) (pe_op oc_mod (cv 10) pe_int) (fun _ _ => rfl)) (pa_cons (cv 11) pa_nil)))))
      (pss_cons (ps_if (pt_not (pt_val (pe_call G__law_alike (hr.mono (by decide)) rfl T.m__law_alike T.k__law_alike T.b__law_alike .nil pass0 (pa_cons (pe_call G_pasted (hr.mono (by decide)) rfl T.m_pasted T.k_pasted T.b_pasted .nil pass0 (pa_cons (cv 6) (pa_cons (pe_ix xc_list (cv 5) (pe_op oc_mod (cv 10) pe_int) (fun _ _ => rfl)) (pa_cons (cv 11) pa_nil)))) (pa_cons (cv 12) pa_nil)))))
        (pss_one (ps_ret pe_bl))
        pss_nil)
      (pss_one (ps_if (PW.pt (pw_or (pt_not (pt_val (pe_call G__law_alike (hr.mono (by decide)) rfl T.m__law_alike T.k__law_alike T.b__law_alike .nil pass0 (pa_cons (pe_call G__law_told (hr.mono (by decide)) rfl T.m__law_told T.k__law_told T.b__law_told .nil pass0 (pa_cons (cv 6) pa_nil)) (pa_cons (cv 7) pa_nil))))) (pw_or1 (pt_not (pt_val (pe_call G__law_alike (hr.mono (by decide)) rfl T.m__law_alike T.k__law_alike T.b__law_alike .nil pass0 (pa_cons (pec_fld T.cl_Board T.n_Board_root (cv 6)) (pa_cons (cv 9) pa_nil))))))))
        (pss_one (ps_ret pe_bl))
        pss_nil)))))))
    (pss_one (ps_ret (pe_call G__law_alike (hr.mono (by decide)) rfl T.m__law_alike T.k__law_alike T.b__law_alike .nil pass0 (pa_cons (pe_lc rfl (blk0 (x := "_law_one") rfl (by decide +kernel) (by decide +kernel) rfl rfl) (pi_list (cv 5)) (fun _ _ _ _ _ => pts_nil) (fun _ _ _ _ _ => (pe_lst (pa_cons (pec_fld T.cl_Paper T.n_Paper_outs (cv 0)) (pa_cons (pec_fld T.cl_Paper T.n_Paper_ins (cv 0)) (pa_cons (pec_fld T.cl_Paper T.n_Paper_flows (cv 0)) pa_nil)))))) (pa_cons (cv 4) pa_nil)))))))))))))))), ?_⟩
  have sl : sizeLine = 16777216 := sizeLine_eq
  obtain ⟨ms, em, lm⟩ := cut_ints ns none (some 1)
  refine ⟨_, rfl, ad, _, rfl, hsq, fun c1 hc1 => ⟨c1, ms, rfl, SqL.of (by rw [upd_same, em]), fun n0 => ⟨⟨by decide, by decide, by decide⟩, (by show (0 : Int) < 10 ^ (30 : Int).toNat; decide +kernel), ?_⟩⟩⟩
  dsimp only [gName]
  generalize n0 % 10 ^ (30 : Int).toNat = c
  refine ⟨c, rfl, fun wl Hw S1 _ hw => ?_⟩
  have Sw := (same_new hc1 (.lst (cutV (ns.map V.int) none (some 1)))).trans S1
  dsimp only [gName]
  refine ⟨ad, _, rfl, .inl (Sw.seq hsq), ⟨by decide, by decide⟩, ?_⟩
  dsimp only [gName]
  obtain ⟨k1, ek1, lk1⟩ := cut_ints ns (some 1) (some ((((ns.map V.int).length : Nat) : Int) / 2 + 1))
  obtain ⟨k2, ek2, lk2⟩ := cut_ints ns (some ((((ns.map V.int).length : Nat) : Int) / 2 + 1)) none
  -- the papers
  refine ⟨⟨by decide, by decide⟩, _, rfl, _, rfl, ad, _, rfl, Sw.seq hsq, fun c2 hc2 => ?_⟩
  have s2 := same_new hc2 (.lst (cutV (ns.map V.int) (some 1) (some ((((ns.map V.int).length : Nat) : Int) / 2 + 1))))
  have e2 : (upd Hw c2 (.lst (cutV (ns.map V.int) (some 1) (some ((((ns.map V.int).length : Nat) : Int) / 2 + 1))))) c2 = some (.lst (k1.map V.int)) := by rw [upd_same, ek1]
  refine ⟨wl, c2, c / 3, k1, rfl, wd_same hw s2, e2, by omega, fun pp1 o1 i1 f1 P1 H2 S2 fr1 nd1 epp1 L1 ok1 => ?_⟩
  have S02 := s2.trans S2
  refine ⟨⟨by decide, by decide⟩, _, rfl, ad, _, rfl, (Sw.trans S02).seq hsq, fun c3 hc3 => ?_⟩
  have s3 := same_new hc3 (.lst (cutV (ns.map V.int) (some ((((ns.map V.int).length : Nat) : Int) / 2 + 1)) none))
  have e3 : (upd H2 c3 (.lst (cutV (ns.map V.int) (some ((((ns.map V.int).length : Nat) : Int) / 2 + 1)) none))) c3 = some (.lst (k2.map V.int)) := by rw [upd_same, ek2]
  refine ⟨wl, c3, c / 216, k2, rfl, wd_same hw (S02.trans s3), e3, by omega, fun pp2 o2 i2 f2 P2 H3 S3 fr2 nd2 epp2 Lq2 ok2 => ⟨(by show 2 ≤ sizeLine; decide), fun pl hpl => ?_⟩⟩
  have s4 := same_new hpl (.lst [.ref pp1, .ref pp2])
  have S23 := s3.trans S3
  have L1' := (L1.same S23).same s4
  have Lq2' := Lq2.same s4
  have epp1' := s4 _ _ (S23 _ _ epp1)
  have epp2' := s4 _ _ epp2
  have epl : (upd H3 pl (.lst [.ref pp1, .ref pp2])) pl = some (.lst [.ref pp1, .ref pp2]) := upd_same
  have Sw4 := (S02.trans S23).trans s4
  clear L1 Lq2 epp1 epp2 fr1 fr2 nd1 nd2 s2 e2 s3 e3 hc2 hc3 S23
  dsimp only [gName]
  generalize upd H3 pl (.lst [.ref pp1, .ref pp2]) = H4 at L1' Lq2' epp1' epp2' epl Sw4 ⊢
  clear hpl s4 S02 S2 S3
  -- the two as handed in
  have two : ∀ {k : Nat} {v : V}, [V.ref pp1, V.ref pp2][k]? = some v → ∃ (pp o i f : Addr) (Pq : Pp), v = .ref pp ∧ [P1, P2][k]? = some Pq ∧ H4 pp = some (.lst [.ref o, .ref i, .ref f]) ∧ L3 H4 o i f Pq := fun {k v} h => by
    match k, h with
    | 0, h => cases h; exact ⟨pp1, o1, i1, f1, P1, rfl, rfl, epp1', L1'⟩
    | 1, h => cases h; exact ⟨pp2, o2, i2, f2, P2, rfl, rfl, epp2', Lq2'⟩
  refine ⟨pl, rfl, ⟨_, SqL.of epl⟩, fun hl hhl => ?_⟩
  refine lc_genT 2 (by omega) (HandR T.a_Paper H4 hl [P1, P2]) (fun xs H H' h f tk => h.mono f tk) hhl rfl (fun k H S hk => go_lst epl S hk) (fun H S => st_lst epl S) ⟨[], rfl, fun k r Pq h => by simp at h⟩ ?_ ?_
  · rintro k H5 v H6 xs Z S5 hk ⟨rfl, hv⟩ ⟨rs, rfl, g⟩ hlk eD z
    obtain ⟨pp, o, i, f, Pq, rfl, hPq, epp, L⟩ := two (hv _ (SqL.of (S5 _ _ epl)))
    have L5 := L.same S5
    have epp5 := S5 _ _ epp
    obtain ⟨⟨xo, eo, io⟩, ⟨xi, ei, ii⟩, ⟨xf, ef, jf⟩⟩ := id L5
    refine ⟨_, epp5, onS_of (atI_nat (j := 0) rfl) ⟨o, _, rfl, .inl (SqL.of eo), fun l1 hl1 => ?_⟩⟩
    have t1 := same_new hl1 (.lst xo)
    refine ⟨_, t1 _ _ epp5, onS_of (atI_nat (j := 1) rfl) ⟨i, _, rfl, .inl (SqL.of (t1 _ _ ei)), fun l2 hl2 => ?_⟩⟩
    have t2 := same_new hl2 (.lst xi)
    refine ⟨_, t2 _ _ (t1 _ _ epp5), onS_of (atI_nat (j := 2) rfl) ⟨f, _, rfl, .inl (SqL.of (t2 _ _ (t1 _ _ ef))), fun l3 hl3 x dx hx hdx nx => ?_⟩⟩
    have t3 := same_new hl3 (.lst xf)
    refine ⟨x, dx, l1, l2, l3, rfl, upd_same, rfl, ?_⟩
    rw [upd_upd]
    have t4 := same_make (o := .ins T.a_Paper dx (fP l1 l2 l3)) hx hdx
    have T14 := ((t1.trans t2).trans t3).trans t4
    refine z _ _ T14 ⟨rs ++ [⟨x, l1, l2, l3⟩], by rw [List.map_append]; rfl, fun j r Pq' hr hP => ?_⟩
    rw [List.length_map] at hlk
    by_cases hj : j < rs.length
    · rw [List.getElem?_append_left hj] at hr
      obtain ⟨h1, h2, h3⟩ := g j r Pq' hr hP
      exact ⟨h1.fk (Same.fk T14), h2.same T14, h3⟩
    · have hj2 : j = rs.length := by
        have := (List.getElem?_eq_some_iff.mp hr).1
        rw [List.length_append, List.length_singleton] at this
        omega
      rw [hj2, List.getElem?_append_right (Nat.le_refl _), Nat.sub_self] at hr
      cases hr
      rw [hj2, hlk, hPq] at hP
      cases hP
      refine ⟨⟨dx, upd_same⟩, ⟨⟨xo, (t2.trans (t3.trans t4)) _ _ upd_same, io.mono (Same.tk T14)⟩, ⟨xi, (t3.trans t4) _ _ upd_same, ii.mono (Same.tk T14)⟩, ⟨xf, t4 _ _ upd_same, jf.mono (Same.tk T14)⟩⟩, fun b hb => ?_⟩
      have eD3 := ((t1.trans t2).trans t3) _ _ eD
      simp only [List.mem_cons, List.not_mem_nil, or_false] at hb
      rcases hb with rfl | rfl | rfl | rfl
      · exact (ne_of_none eD3 hx).symm
      · exact (ne_of_none eD hl1).symm
      · exact (ne_of_none (t1 _ _ eD) hl2).symm
      · exact (ne_of_none ((t1.trans t2) _ _ eD) hl3).symm
  rintro H5 xs S5 ⟨rs, rfl, g⟩ hlr ehl
  rw [List.length_map] at hlr
  obtain ⟨r1, r2, rfl⟩ : ∃ r1 r2, rs = [r1, r2] := by
    match rs, hlr with
    | [r1, r2], _ => exact ⟨r1, r2, rfl⟩
  obtain ⟨Q1, M1, _⟩ := g 0 r1 P1 rfl rfl
  obtain ⟨Q2, M2, _⟩ := g 1 r2 P2 rfl rfl
  have L15 := L1'.same S5
  have L25 := Lq2'.same S5
  have ep15 := S5 _ _ epp1'
  have ep25 := S5 _ _ epp2'
  have epl5 := S5 _ _ epl
  have Sw5 := Sw4.trans S5
  clear g two L1' Lq2' epp1' epp2' epl S5 Sw4 hhl
  dsimp only [gName]
  -- the board
  refine fun b bx hb hbx _ => ⟨b, bx, rfl, upd_same, fun p0 p1 p2 p3 H6 fr nd eb L kp => ⟨rfl, ?_⟩⟩
  have Sm1 : Same H5 (upd (upd H5 bx (.own b)) b (.ins (cs T).B bx [])) := same_make hb hbx
  have S6 : Same H5 H6 := fun a o e => kp a o (Sm1 a o e) (ne_of_none e hb)
  have B6 : Bw (cs T) H6 ⟨b, bx, p0, p1, p2, p3⟩ (.int 0) (Dp []) := ⟨eb, L.at (i := 0) rfl rfl, ⟨[], L.at (i := 1) rfl rfl, .nil⟩, ⟨[], L.at (i := 2) rfl rfl, .nil⟩, ⟨[], L.at (i := 3) rfl rfl, .nil⟩, nd⟩
  have fA : ∀ a ∈ [p0, p1, p2, p3], H5 a = none := fun a ha => Sm1.free (fr a ha)
  clear L fr kp Sm1 hbx
  dsimp only [gName]
  refine ⟨(by show 0 ≤ sizeLine; decide), fun q0 h0 => ⟨(by show 0 ≤ sizeLine; decide), fun q1 h1 => ⟨(by show 0 ≤ sizeLine; decide), fun q2 h2 => ⟨(by show 0 ≤ sizeLine; decide), fun q3 h3 => ⟨(by show 4 ≤ sizeLine; decide), fun dd hdd => ?_⟩⟩⟩⟩⟩
  obtain ⟨S7, D7, f4, f5⟩ := due_new h0 h1 h2 h3 hdd
  dsimp only [gName]
  generalize upd (upd (upd (upd (upd H6 q0 (.lst [])) q1 (.lst [])) q2 (.lst [])) q3 (.lst [])) dd (.lst [.ref q0, .ref q1, .ref q2, .ref q3]) = H7 at S7 D7 ⊢
  have ap : Apart ⟨b, bx, p0, p1, p2, p3⟩ ⟨dd, dd, q0, q1, q2, q3⟩ := Apart.of (H := H6) (fun a ha => by
      simp only [Ad.ls, List.mem_cons, List.not_mem_nil, or_false] at ha
      rcases ha with rfl | rfl | rfl | rfl | rfl
      · exact ⟨_, B6.b⟩
      · exact ⟨_, B6.e0⟩
      · obtain ⟨mv, e, _⟩ := B6.e1; exact ⟨_, e⟩
      · obtain ⟨mv, e, _⟩ := B6.e2; exact ⟨_, e⟩
      · obtain ⟨mv, e, _⟩ := B6.e3; exact ⟨_, e⟩) (fun a ha => by
      rcases List.mem_cons.mp ha with rfl | ha
      · exact f4
      · exact f5 a ha)
  have B7 := B6.same S7
  have S57 := S6.trans S7
  have fM : ∀ a ∈ [q0, q1, q2, q3], H5 a = none := fun a ha => S6.free (f5 a ha)
  clear S7 S6 B6 f4 f5 h0 h1 h2 h3 hdd
  obtain ⟨A, eA⟩ : ∃ A : Ad, A = ⟨b, bx, p0, p1, p2, p3⟩ := ⟨_, rfl⟩
  obtain ⟨M, eM⟩ : ∃ M : Ad, M = ⟨dd, dd, q0, q1, q2, q3⟩ := ⟨_, rfl⟩
  rw [← eA, ← eM] at ap
  rw [← eA] at B7
  rw [← eM] at D7
  replace fA : ∀ a ∈ A.ls, H5 a = none := by rw [eA]; exact fA
  replace fM : ∀ a ∈ M.ls, H5 a = none := by rw [eM]; exact fM
  have hbA : b = A.b := by rw [eA]
  have hdM : dd = M.b := by rw [eM]
  have fb : H5 A.b = none := by rw [← hbA]; exact hb
  rw [hbA, hdM]
  clear eA eM hbA hdM hb eb nd
  have r0 := Int.emod_nonneg (c / 7) (show (6 : Int) ≠ 0 by decide)
  have r1' := Int.emod_lt_of_pos (c / 7) (show (0 : Int) < 6 by decide)
  refine ⟨⟨by decide, by decide⟩, (by show (0 : Int) < 6; decide), c / 7 % 6, rfl, by omega, by omega, for_range (fun i σ H8 => ∃ (pts : List Int) (o8 : Option V), σ = [some (.ref ad), some (.int c), some (.ref wl), some (.int ((((ns.map V.int).length : Nat) : Int) / 2 + 1)), some (.ref pl), some (.ref hl), some (.ref A.b), some (.ref M.b), o8, none, none, none, none] ∧ pts.length = i ∧ Same H5 H8 ∧ Bw (cs T) H8 A (.int 0) (Dp pts) ∧ Dw H8 M (Dp pts))
    ⟨[], none, rfl, rfl, S57, B7, D7⟩ ?_ ?_⟩
  · rintro i σ H8 hi ⟨pts, o8, rfl, hlp, S8, B8, D8⟩
    have i6 : i < 6 := by omega
    dsimp only [gName]
    refine ⟨_, D8.b, onS_of (atI_nat (j := 0) rfl) ⟨⟨_, D8.e0⟩, c, 0 + (i : Int), rfl, by omega, by omega, fun z0 z1 z2 => ⟨⟨by decide, by decide, by decide⟩, (by show (0 : Int) < 10 ^ (9 : Int).toNat; decide +kernel), _, D8.e0, by rw [List.length_map]; show pts.length < _; omega, ?_⟩⟩⟩
    dsimp only
    generalize z0 % 10 ^ (9 : Int).toNat = v
    have D9 : Dw (upd H8 M.p0 (.lst (pts.map V.int ++ [.int v]))) M (Dp (pts ++ [v])) := D8.pt v
    have B9 := B8.other (ys := pts.map V.int ++ [.int v]) D8.e0 (ap.s2 _ (by simp [Ad.ls]))
    have S9 : Same H5 (upd H8 M.p0 (.lst (pts.map V.int ++ [.int v]))) := same_updK S8 (fM _ (by simp [Ad.ls])) _
    show cMeth _ _ _ _ _ _ _ _ (upd H8 M.p0 (.lst (pts.map V.int ++ [.int v]))) _
    generalize upd H8 M.p0 (.lst (pts.map V.int ++ [.int v])) = H9 at D9 B9 S9 ⊢
    have hat : atI ((pts ++ [v]).map V.int) (0 + (i : Int)) = some (.int v) := by
      rw [Int.zero_add]
      exact atI_nat (by rw [List.map_append, List.getElem?_append_right (by rw [List.length_map]; omega), List.length_map, hlp, Nat.sub_self]; rfl)
    refine ⟨⟨_, _, B9.b, fB_no_point _ _ _ _ _⟩, _, D9.b, onS_of (atI_nat (j := 0) rfl) ⟨_, D9.e0, onS_of hat ⟨A.b, A.bx, A.p0, A.p1, A.p2, A.p3, _, .int v, _, rfl, B9.b, B9.e0, by rw [List.length_map]; show pts.length < _; omega, ?_⟩⟩⟩
    refine ⟨pts ++ [v], _, rfl, by rw [List.length_append, hlp]; rfl, same_updK S9 (fA _ (by simp [Ad.ls])) _, B9.pt v, D9.other B9.e0 (ap.s1 _ (by simp [Ad.ls])) (fun z => ap.s4 (by rw [← z]; simp [Ad.ls]))⟩
  rintro σ H8 ⟨pts, o8, rfl, hlp, S8, B8, D8⟩
  have l6 : pts.length ≤ 6 := by omega
  dsimp only [gName]
  have pick : ∀ z : Int, ∃ (pp o i f : Addr) (Pq : Pp) (r : Q4), atI [V.ref pp1, V.ref pp2] (z % 2) = some (.ref pp) ∧ atI [V.ref r1.x, V.ref r2.x] (z % 2) = some (.ref r.x) ∧ H5 pp = some (.lst [.ref o, .ref i, .ref f]) ∧ L3 H5 o i f Pq ∧ PapAt T.a_Paper H5 r.x r.o r.i r.f ∧ L3 H5 r.o r.i r.f Pq ∧ Pq.ok := fun z => by
    rcases Int.emod_two_eq z with e | e
    · rw [e]
      exact ⟨pp1, o1, i1, f1, P1, r1, atI_nat (j := 0) rfl, atI_nat (j := 0) rfl, ep15, L15, Q1, M1, ok1⟩
    · rw [e]
      exact ⟨pp2, o2, i2, f2, P2, r2, atI_nat (j := 1) rfl, atI_nat (j := 1) rfl, ep25, L25, Q2, M2, ok2⟩
  have outL : ∀ {Z : Ad} {o i f : Addr} {Pq : Pp}, (∀ a ∈ Z.ls, H5 a = none) → L3 H5 o i f Pq → ∀ a ∈ [o, i, f], a ∉ Z.ls := fun {Z o i f Pq} fr L a ha z => by
    obtain ⟨⟨_, h1, _⟩, ⟨_, h2, _⟩, ⟨_, h3, _⟩⟩ := L
    have h0 := fr a z
    simp only [List.mem_cons, List.not_mem_nil, or_false] at ha
    rcases ha with rfl | rfl | rfl
    · rw [h0] at h1; cases h1
    · rw [h0] at h2; cases h2
    · rw [h0] at h3; cases h3
  refine asg_c ?_
  refine root_if2 (n := (pts.length : Int)) (fun σ2 H9 => ∃ ro : Int, σ2 = [some (.ref ad), some (.int c), some (.ref wl), some (.int ((((ns.map V.int).length : Nat) : Int) / 2 + 1)), some (.ref pl), some (.ref hl), some (.ref A.b), some (.ref M.b), o8, some (.int ro), none, none, none] ∧ Same H5 H9 ∧ Bw (cs T) H9 A (.int ro) (Dp pts) ∧ Dw H9 M (Dp pts)) ?_ (fun Q h => ⟨_, D8.b, onS_of (atI_nat (j := 0) rfl) ⟨M.p0, _, rfl, .inl (SqL.of D8.e0), by rw [List.length_map]; exact h⟩⟩) (fun Q h => ⟨⟨by decide, by decide⟩, (by show (0 : Int) < 2; decide), h _⟩) ⟨0, rfl, S8, B8, D8⟩ (fun hn D' hD' => ?_)
  · rintro σ2 H9 ⟨ro, rfl, S9, B9, D9⟩
    refine ⟨3, rfl, by decide, by decide, for_range (fun i σ H10 => ∃ (D : Bd) (o10 o11 o12 : Option V), σ = [some (.ref ad), some (.int c), some (.ref wl), some (.int ((((ns.map V.int).length : Nat) : Int) / 2 + 1)), some (.ref pl), some (.ref hl), some (.ref A.b), some (.ref M.b), o8, some (.int ro), o10, o11, o12] ∧ Same H5 H10 ∧ Bw (cs T) H10 A (.int ro) D ∧ Dw H10 M D ∧ Sz D (6 + 16 * i))
      ⟨Dp pts, none, none, none, rfl, S9, B9, D9, l6, Nat.zero_le _, Nat.zero_le _, Nat.zero_le _⟩ ?_ ?_⟩
    · rintro i σ H10 hi ⟨D, o10, o11, o12, rfl, S10, B10, D10, sz⟩
      have i3 : i < 3 := hi
      obtain ⟨pp, o, ii, f, Pq, r, at1, at2, epp, L, Pr, Lr, ok⟩ := pick (0 + (i : Int))
      dsimp only [gName]
      refine ⟨c, 20 + (0 + (i : Int)), rfl, by omega, by omega, fun z0 _ _ => ⟨⟨by decide, by decide, by decide⟩, (by show (0 : Int) < 10 ^ (9 : Int).toNat; decide +kernel), ?_⟩⟩
      dsimp only [gName]
      generalize z0 % 10 ^ (9 : Int).toNat = plc
      refine ⟨_, D10.b, onS_of (atI_nat (j := 0) rfl) ⟨M.p0, _, rfl, .inl (SqL.of D10.e0), ?_⟩⟩
      dsimp only [gName]
      rw [List.length_map]
      have nM : ∀ a ∈ [pp, o, ii, f], a ∉ M.ls := fun a ha => by
        rcases List.mem_cons.mp ha with rfl | ha
        · intro z
          rw [fM _ z] at epp
          cases epp
        · exact outL fM L a ha
      refine ⟨(by show (0 : Int) < 2; decide), _, S10 _ _ epl5, onS_of at1 ⟨M, D, pp, o, ii, f, Pq, plc, 6 + 16 * i, rfl, D10, S10 _ _ epp, L.same S10, nM, ok, sz, by omega, fun H11 F11 D11 => ?_⟩⟩
      have S11 := fb_from S10 F11 fM
      have B11 := B10.fb F11 ap.s3 ap.s1
      refine ⟨(by show (0 : Int) < 2; decide), _, S11 _ _ ehl, onS_of at2 ⟨A, .int ro, D, r.x, r.o, r.i, r.f, Pq, plc, 6 + 16 * i, rfl, B11, Pr.fk (Same.fk S11), Lr.same S11, outL fA Lr, ok, sz, by omega, fun H12 F12 B12 => ?_⟩⟩
      have S12 := fb_from S11 F12 fA
      have D12 := D11.fb F12 ap.s4 ap.s2
      have sz2 := sz_paste (pl := plc) sz ok
      refine ⟨.int D.pts.length, .int D.pts.length, .flat (.int D.pts.length), by rw [List.length_map]; rfl, .flat rfl, .flat rfl, Nat.zero_le _, trivial, fun H13 S13 => ⟨true, rfl, iteF ?_⟩⟩
      have B13 := B12.same S13
      have D13 := D12.same S13
      have gd := bq_good B13 sz2 (by omega)
      refine ⟨A, .int ro, _, _, rfl, B13, sz2, by omega, fun v H14 S14 dv => ?_⟩
      refine ⟨v, .ref M.b, bdW (paste Pq plc D), rfl, dv, (dq_data D13).same S14, Nat.le_trans gd.1 (by decide), gd.2, fun H15 S15 => ⟨true, rfl, iteF ?_⟩⟩
      have B15 := B13.same (S14.trans S15)
      refine ⟨_, ⟨_, _, B15.b, fB_root _ _ _ _ _⟩, .int ro, .int ro, .flat (.int ro), rfl, .flat rfl, .flat rfl, Nat.zero_le _, trivial, fun H16 S16 => ⟨true, rfl, iteF ?_⟩⟩
      exact ⟨paste Pq plc D, _, _, _, rfl, (S12.trans S13).trans ((S14.trans S15).trans S16), B15.same S16, D13.same ((S14.trans S15).trans S16), sz2⟩
    · rintro σ H10 ⟨D, o10, o11, o12, rfl, S10, B10, D10, sz⟩
      have ehl10 := S10 _ _ ehl
      refine ⟨hl, rfl, ⟨_, SqL.of ehl10⟩, fun d hd => ?_⟩
      have nb : ∀ {r : Q4} {Pq : Pp}, L3 H5 r.o r.i r.f Pq → ∀ b ∈ [r.o, r.i, r.f], b ≠ d := fun {r Pq} L b hb => by
        obtain ⟨⟨_, h1, _⟩, ⟨_, h2, _⟩, ⟨_, h3, _⟩⟩ := L.same S10
        simp only [List.mem_cons, List.not_mem_nil, or_false] at hb
        rcases hb with rfl | rfl | rfl
        · exact ne_of_none h1 hd
        · exact ne_of_none h2 hd
        · exact ne_of_none h3 hd
      refine lc_genT 2 (by omega) (OutR d [r1, r2] [P1, P2]) (fun xs H H' h f tk => h.mono f tk) hd rfl (fun k H S hk => go_lst ehl10 S hk) (fun H S => st_lst ehl10 S) ⟨[], rfl, fun k a r Pq h => by simp at h⟩ ?_ ?_
      · rintro k H11 v H12 xs Z S11 hk ⟨rfl, hv⟩ ⟨ls, rfl, g⟩ hlk eD z
        have two : ∀ {k : Nat} {v : V}, [V.ref r1.x, V.ref r2.x][k]? = some v → ∃ (r : Q4) (Pq : Pp), v = .ref r.x ∧ [r1, r2][k]? = some r ∧ [P1, P2][k]? = some Pq ∧ PapAt T.a_Paper H5 r.x r.o r.i r.f ∧ L3 H5 r.o r.i r.f Pq := fun {k v} h => by
          match k, h with
          | 0, h => cases h; exact ⟨r1, P1, rfl, rfl, rfl, Q1, M1⟩
          | 1, h => cases h; exact ⟨r2, P2, rfl, rfl, rfl, Q2, M2⟩
        obtain ⟨r, Pq, rfl, hr, hP, Pr, Lr⟩ := two (hv _ (SqL.of (S11 _ _ ehl10)))
        have S511 := S10.trans S11
        obtain ⟨dx, ex⟩ := Pr.fk (Same.fk S511)
        refine ⟨_, ⟨_, _, ex, fP_outs _ _ _⟩, _, ⟨_, _, ex, fP_ins _ _ _⟩, _, ⟨_, _, ex, fP_flows _ _ _⟩, (by show 3 ≤ sizeLine; decide), fun a ha => z _ _ (same_new ha _) ⟨ls ++ [a], by rw [List.map_append]; rfl, fun j a' r' Pq' hj hr' hP' => ?_⟩⟩
        rw [List.length_map] at hlk
        by_cases hjl : j < ls.length
        · rw [List.getElem?_append_left hjl] at hj
          obtain ⟨h1, h2, h3, h4⟩ := g j a' r' Pq' hj hr' hP'
          exact ⟨h1, same_new ha _ _ _ h2, h3.same (same_new ha _), h4⟩
        · have hj2 : j = ls.length := by
            have := (List.getElem?_eq_some_iff.mp hj).1
            rw [List.length_append, List.length_singleton] at this
            omega
          rw [hj2, List.getElem?_append_right (Nat.le_refl _), Nat.sub_self] at hj
          cases hj
          rw [hj2, hlk, hr] at hr'
          cases hr'
          rw [hj2, hlk, hP] at hP'
          cases hP'
          exact ⟨(ne_of_none eD ha).symm, upd_same, Lr.same (S511.trans (same_new ha _)), nb Lr⟩
      rintro H11 xs S11 ⟨ls, rfl, g⟩ hll eD
      rw [List.length_map] at hll
      obtain ⟨a1, a2, rfl⟩ : ∃ a1 a2, ls = [a1, a2] := by
        match ls, hll with
        | [a1, a2], _ => exact ⟨a1, a2, rfl⟩
      obtain ⟨_, e1, l1, _⟩ := g 0 a1 r1 P1 rfl rfl rfl
      obtain ⟨_, e2, l2, _⟩ := g 1 a2 r2 P2 rfl rfl rfl
      have S511 := S10.trans S11
      have g1 := pap_good ok1
      have g2 := pap_good ok2
      refine ⟨.ref d, .ref pl, .lst [papD P1, papD P2], rfl, .lst eD (.cons (.lst e1 l1.da) (.cons (.lst e2 l2.da) .nil)), .lst (S511 _ _ epl5) (.cons (.lst (S511 _ _ ep15) (L15.same S511).da) (.cons (.lst (S511 _ _ ep25) (L25.same S511).da) .nil)), ?_, ⟨by show 2 ≤ 100000; decide, g1.2, g2.2, trivial⟩, fun H12 S12 => q _⟩
      show max (depD (papD P1)) (max (depD (papD P2)) 0) + 1 ≤ 7
      have := g1.1
      have := g2.1
      omega
  · refine ⟨⟨by decide, by decide⟩, _, D8.b, onS_of (atI_nat (j := 0) rfl) ⟨M.p0, _, rfl, .inl (SqL.of D8.e0), (by show (0 : Int) < _; rw [List.length_map]; exact hn), ?_⟩⟩
    dsimp only [gName]
    refine ⟨⟨_, _, B8.b, fB_no_rooted _ _ _ _ _⟩, A.b, A.bx, A.p0, A.p1, A.p2, A.p3, _, _, rfl, B8.b, ?_⟩
    exact hD' _ _ ⟨_, rfl, same_updK S8 fb _, B8.root _, D8.insd B8.b⟩
end
end K25.Internal
noncomputable def PySem.W.Fast.tw13909028056047074692 : Nat := 0
noncomputable def PySem.W.Fast.tw16749824235070575011 : Nat := 0
noncomputable def PySem.W.Fast.tw2356288194395809476 : Nat := 0
noncomputable def PySem.W.Fast.tw329858413841648898 : Nat := 0
noncomputable def PySem.W.Fast.tw3706068914466090273 : Nat := 0
noncomputable def PySem.W.Fast.tw5787950798212245689 : Nat := 0
noncomputable def PySem.W.Fast.tw5805246361916858890 : Nat := 0
noncomputable def PySem.W.Fast.tw8274467030439197208 : Nat := 0
noncomputable def PySem.W.Fast.tw898302014155361003 : Nat := 0
namespace K25.Internal
open PySem L2.Internal
theorem all_mk {l : PySem.W.OpenLaw} {w : World} {K : PySem.W.Frag} {h : Heap} {mg : Str → Option Value} {fa fL : Addr} (X : K.In h) (G : h.Ns mainGlobals mg) (hfa : mg "law" = some (.ref fa))
    {f1 : Addr} {od1 an1 : Option Addr} {sl1 : Array (Option Value)} {oc1 kV1 dc1 pm1 cd1 ct1 : Value} {f2 : Addr} {od2 an2 : Option Addr} {sl2 : Array (Option Value)} {oc2 kV2 dc2 pm2 cd2 ct2 : Value} {f3 : Addr} {od3 an3 : Option Addr} {sl3 : Array (Option Value)} {oc3 kV3 dc3 pm3 cd3 ct3 : Value} {f4 : Addr} {od4 an4 : Option Addr} {sl4 : Array (Option Value)} {oc4 kV4 dc4 pm4 cd4 ct4 : Value} {f5 : Addr} {od5 an5 : Option Addr} {sl5 : Array (Option Value)} {oc5 kV5 dc5 pm5 cd5 ct5 : Value} {f6 : Addr} {od6 an6 : Option Addr} {sl6 : Array (Option Value)} {oc6 kV6 dc6 pm6 cd6 ct6 : Value} {f7 : Addr} {od7 an7 : Option Addr} {sl7 : Array (Option Value)} {oc7 kV7 dc7 pm7 cd7 ct7 : Value} {f8 : Addr} {od8 an8 : Option Addr} {sl8 : Array (Option Value)} {oc8 kV8 dc8 pm8 cd8 ct8 : Value} {f9 : Addr} {od9 an9 : Option Addr} {sl9 : Array (Option Value)} {oc9 kV9 dc9 pm9 cd9 ct9 : Value} {f10 : Addr} {od10 an10 : Option Addr} {sl10 : Array (Option Value)} {oc10 kV10 dc10 pm10 cd10 ct10 : Value} {f11 : Addr} {od11 an11 : Option Addr} {sl11 : Array (Option Value)} {oc11 kV11 dc11 pm11 cd11 ct11 : Value} {f12 : Addr} {od12 an12 : Option Addr} {sl12 : Array (Option Value)} {oc12 kV12 dc12 pm12 cd12 ct12 : Value} {f13 : Addr} {od13 an13 : Option Addr} {sl13 : Array (Option Value)} {oc13 kV13 dc13 pm13 cd13 ct13 : Value} {f14 : Addr} {od14 an14 : Option Addr} {sl14 : Array (Option Value)} {oc14 kV14 dc14 pm14 cd14 ct14 : Value} {f15 : Addr} {od15 an15 : Option Addr} {sl15 : Array (Option Value)} {oc15 kV15 dc15 pm15 cd15 ct15 : Value} {f16 : Addr} {od16 an16 : Option Addr} {sl16 : Array (Option Value)} {oc16 kV16 dc16 pm16 cd16 ct16 : Value} {f17 : Addr} {od17 an17 : Option Addr} {sl17 : Array (Option Value)} {oc17 kV17 dc17 pm17 cd17 ct17 : Value} {C18 : Addr} {f19 : Addr} {od19 an19 : Option Addr} {sl19 : Array (Option Value)} {oc19 kV19 dc19 pm19 cd19 ct19 : Value} {f20 : Addr} {od20 an20 : Option Addr} {sl20 : Array (Option Value)} {oc20 kV20 dc20 pm20 cd20 ct20 : Value} {C21 : Addr} {f22 : Addr} {od22 an22 : Option Addr} {sl22 : Array (Option Value)} {oc22 kV22 dc22 pm22 cd22 ct22 : Value} {C23 : Addr} {f24 : Addr} {od24 an24 : Option Addr} {sl24 : Array (Option Value)} {oc24 kV24 dc24 pm24 cd24 ct24 : Value} {C25 : Addr} {f26 : Addr} {od26 an26 : Option Addr} {sl26 : Array (Option Value)} {oc26 kV26 dc26 pm26 cd26 ct26 : Value} {f27 : Addr} {od27 an27 : Option Addr} {sl27 : Array (Option Value)} {oc27 kV27 dc27 pm27 cd27 ct27 : Value} {C28 : Addr} {f29 : Addr} {od29 an29 : Option Addr} {sl29 : Array (Option Value)} {oc29 kV29 dc29 pm29 cd29 ct29 : Value} {f30 : Addr} {od30 an30 : Option Addr} {sl30 : Array (Option Value)} {oc30 kV30 dc30 pm30 cd30 ct30 : Value} {C31 : Addr} {f32 : Addr} {od32 an32 : Option Addr} {sl32 : Array (Option Value)} {oc32 kV32 dc32 pm32 cd32 ct32 : Value} {f33 : Addr} {od33 an33 : Option Addr} {sl33 : Array (Option Value)} {oc33 kV33 dc33 pm33 cd33 ct33 : Value} {C34 : Addr} {f35 : Addr} {od35 an35 : Option Addr} {sl35 : Array (Option Value)} {oc35 kV35 dc35 pm35 cd35 ct35 : Value} {f36 : Addr} {od36 an36 : Option Addr} {sl36 : Array (Option Value)} {oc36 kV36 dc36 pm36 cd36 ct36 : Value} {C37 : Addr} {f38 : Addr} {od38 an38 : Option Addr} {sl38 : Array (Option Value)} {oc38 kV38 dc38 pm38 cd38 ct38 : Value} {f39 : Addr} {od39 an39 : Option Addr} {sl39 : Array (Option Value)} {oc39 kV39 dc39 pm39 cd39 ct39 : Value} {f40 : Addr} {od40 an40 : Option Addr} {sl40 : Array (Option Value)} {oc40 kV40 dc40 pm40 cd40 ct40 : Value} {f41 : Addr} {od41 an41 : Option Addr} {sl41 : Array (Option Value)} {oc41 kV41 dc41 pm41 cd41 ct41 : Value} {f42 : Addr} {od42 an42 : Option Addr} {sl42 : Array (Option Value)} {oc42 kV42 dc42 pm42 cd42 ct42 : Value} {f43 : Addr} {od43 an43 : Option Addr} {sl43 : Array (Option Value)} {oc43 kV43 dc43 pm43 cd43 ct43 : Value} {C44 : Addr} {f45 : Addr} {od45 an45 : Option Addr} {sl45 : Array (Option Value)} {oc45 kV45 dc45 pm45 cd45 ct45 : Value}
    {odL anL : Option Addr} {slL : Array (Option Value)} {ocL kVL dcL pmL cdL ctL : Value}
    (a1 : PySem.W.nsIn K mainGlobals "pasted" = some (some (.ref f1)))
    (l1 : K.lookup f1 = some ⟨oc1, od1, .func (PySem.W.fnOf "pasted" "pasted" (defArgs s_pasted) (defBody s_pasted) (defScope s_pasted) .none kV1 dc1 pm1 an1 cd1 ct1), sl1⟩)
    (c1 : PySem.W.codeIn K cd1 "pasted" = true)
    (k1 : PySem.W.keepIn K (.ref f1) = true)
    (a2 : PySem.W.nsIn K mainGlobals "new_points" = some (some (.ref f2)))
    (l2 : K.lookup f2 = some ⟨oc2, od2, .func (PySem.W.fnOf "new_points" "new_points" (defArgs s_new_points) (defBody s_new_points) (defScope s_new_points) .none kV2 dc2 pm2 an2 cd2 ct2), sl2⟩)
    (c2 : PySem.W.codeIn K cd2 "new_points" = true)
    (k2 : PySem.W.keepIn K (.ref f2) = true)
    (a3 : PySem.W.nsIn K mainGlobals "parts_made" = some (some (.ref f3)))
    (l3 : K.lookup f3 = some ⟨oc3, od3, .func (PySem.W.fnOf "parts_made" "parts_made" (defArgs s_parts_made) (defBody s_parts_made) (defScope s_parts_made) .none kV3 dc3 pm3 an3 cd3 ct3), sl3⟩)
    (c3 : PySem.W.codeIn K cd3 "parts_made" = true)
    (k3 : PySem.W.keepIn K (.ref f3) = true)
    (a4 : PySem.W.nsIn K mainGlobals "use_made" = some (some (.ref f4)))
    (l4 : K.lookup f4 = some ⟨oc4, od4, .func (PySem.W.fnOf "use_made" "use_made" (defArgs s_use_made) (defBody s_use_made) (defScope s_use_made) .none kV4 dc4 pm4 an4 cd4 ct4), sl4⟩)
    (c4 : PySem.W.codeIn K cd4 "use_made" = true)
    (k4 : PySem.W.keepIn K (.ref f4) = true)
    (a5 : PySem.W.nsIn K mainGlobals "with_points" = some (some (.ref f5)))
    (l5 : K.lookup f5 = some ⟨oc5, od5, .func (PySem.W.fnOf "with_points" "with_points" (defArgs s_with_points) (defBody s_with_points) (defScope s_with_points) .none kV5 dc5 pm5 an5 cd5 ct5), sl5⟩)
    (c5 : PySem.W.codeIn K cd5 "with_points" = true)
    (k5 : PySem.W.keepIn K (.ref f5) = true)
    (a6 : PySem.W.nsIn K mainGlobals "_law_stem" = some (some (.ref f6)))
    (l6 : K.lookup f6 = some ⟨oc6, od6, .func (PySem.W.fnOf "_law_stem" "_law_stem" (defArgs s__law_stem) (defBody s__law_stem) (defScope s__law_stem) .none kV6 dc6 pm6 an6 cd6 ct6), sl6⟩)
    (c6 : PySem.W.codeIn K cd6 "_law_stem" = true)
    (k6 : PySem.W.keepIn K (.ref f6) = true)
    (a7 : PySem.W.nsIn K mainGlobals "_law_words" = some (some (.ref f7)))
    (l7 : K.lookup f7 = some ⟨oc7, od7, .func (PySem.W.fnOf "_law_words" "_law_words" (defArgs s__law_words) (defBody s__law_words) (defScope s__law_words) .none kV7 dc7 pm7 an7 cd7 ct7), sl7⟩)
    (c7 : PySem.W.codeIn K cd7 "_law_words" = true)
    (k7 : PySem.W.keepIn K (.ref f7) = true)
    (a8 : PySem.W.nsIn K mainGlobals "_law_alike" = some (some (.ref f8)))
    (l8 : K.lookup f8 = some ⟨oc8, od8, .func (PySem.W.fnOf "_law_alike" "_law_alike" (defArgs s__law_alike) (defBody s__law_alike) (defScope s__law_alike) .none kV8 dc8 pm8 an8 cd8 ct8), sl8⟩)
    (c8 : PySem.W.codeIn K cd8 "_law_alike" = true)
    (k8 : PySem.W.keepIn K (.ref f8) = true)
    (a9 : PySem.W.nsIn K mainGlobals "_law_mix" = some (some (.ref f9)))
    (l9 : K.lookup f9 = some ⟨oc9, od9, .func (PySem.W.fnOf "_law_mix" "_law_mix" (defArgs s__law_mix) (defBody s__law_mix) (defScope s__law_mix) .none kV9 dc9 pm9 an9 cd9 ct9), sl9⟩)
    (c9 : PySem.W.codeIn K cd9 "_law_mix" = true)
    (k9 : PySem.W.keepIn K (.ref f9) = true)
    (a10 : PySem.W.nsIn K mainGlobals "_law_told" = some (some (.ref f10)))
    (l10 : K.lookup f10 = some ⟨oc10, od10, .func (PySem.W.fnOf "_law_told" "_law_told" (defArgs s__law_told) (defBody s__law_told) (defScope s__law_told) .none kV10 dc10 pm10 an10 cd10 ct10), sl10⟩)
    (c10 : PySem.W.codeIn K cd10 "_law_told" = true)
    (k10 : PySem.W.keepIn K (.ref f10) = true)
    (a11 : PySem.W.nsIn K mainGlobals "_law_words_by" = some (some (.ref f11)))
    (l11 : K.lookup f11 = some ⟨oc11, od11, .func (PySem.W.fnOf "_law_words_by" "_law_words_by" (defArgs s__law_words_by) (defBody s__law_words_by) (defScope s__law_words_by) .none kV11 dc11 pm11 an11 cd11 ct11), sl11⟩)
    (c11 : PySem.W.codeIn K cd11 "_law_words_by" = true)
    (k11 : PySem.W.keepIn K (.ref f11) = true)
    (a12 : PySem.W.nsIn K mainGlobals "_law_making" = some (some (.ref f12)))
    (l12 : K.lookup f12 = some ⟨oc12, od12, .func (PySem.W.fnOf "_law_making" "_law_making" (defArgs s__law_making) (defBody s__law_making) (defScope s__law_making) .none kV12 dc12 pm12 an12 cd12 ct12), sl12⟩)
    (c12 : PySem.W.codeIn K cd12 "_law_making" = true)
    (k12 : PySem.W.keepIn K (.ref f12) = true)
    (a13 : PySem.W.nsIn K mainGlobals "_law_using" = some (some (.ref f13)))
    (l13 : K.lookup f13 = some ⟨oc13, od13, .func (PySem.W.fnOf "_law_using" "_law_using" (defArgs s__law_using) (defBody s__law_using) (defScope s__law_using) .none kV13 dc13 pm13 an13 cd13 ct13), sl13⟩)
    (c13 : PySem.W.codeIn K cd13 "_law_using" = true)
    (k13 : PySem.W.keepIn K (.ref f13) = true)
    (a14 : PySem.W.nsIn K mainGlobals "_law_paper" = some (some (.ref f14)))
    (l14 : K.lookup f14 = some ⟨oc14, od14, .func (PySem.W.fnOf "_law_paper" "_law_paper" (defArgs s__law_paper) (defBody s__law_paper) (defScope s__law_paper) .none kV14 dc14 pm14 an14 cd14 ct14), sl14⟩)
    (c14 : PySem.W.codeIn K cd14 "_law_paper" = true)
    (k14 : PySem.W.keepIn K (.ref f14) = true)
    (a15 : PySem.W.nsIn K mainGlobals "_law_parts_due" = some (some (.ref f15)))
    (l15 : K.lookup f15 = some ⟨oc15, od15, .func (PySem.W.fnOf "_law_parts_due" "_law_parts_due" (defArgs s__law_parts_due) (defBody s__law_parts_due) (defScope s__law_parts_due) .none kV15 dc15 pm15 an15 cd15 ct15), sl15⟩)
    (c15 : PySem.W.codeIn K cd15 "_law_parts_due" = true)
    (k15 : PySem.W.keepIn K (.ref f15) = true)
    (a16 : PySem.W.nsIn K mainGlobals "_law_use_due" = some (some (.ref f16)))
    (l16 : K.lookup f16 = some ⟨oc16, od16, .func (PySem.W.fnOf "_law_use_due" "_law_use_due" (defArgs s__law_use_due) (defBody s__law_use_due) (defScope s__law_use_due) .none kV16 dc16 pm16 an16 cd16 ct16), sl16⟩)
    (c16 : PySem.W.codeIn K cd16 "_law_use_due" = true)
    (k16 : PySem.W.keepIn K (.ref f16) = true)
    (a17 : PySem.W.nsIn K mainGlobals "_law_paste" = some (some (.ref f17)))
    (l17 : K.lookup f17 = some ⟨oc17, od17, .func (PySem.W.fnOf "_law_paste" "_law_paste" (defArgs s__law_paste) (defBody s__law_paste) (defScope s__law_paste) .none kV17 dc17 pm17 an17 cd17 ct17), sl17⟩)
    (c17 : PySem.W.codeIn K cd17 "_law_paste" = true)
    (k17 : PySem.W.keepIn K (.ref f17) = true)
    (a18 : PySem.W.nsIn K mainGlobals "Make" = some (some (.ref C18)))
    (pg18 : PySem.W.plainGet K C18 Str.empty = true)
    (hd18 : PySem.W.hasDictIn K C18 = true)
    (po18 : PySem.W.plainOver K C18 = true)
    (sa18 : PySem.W.findIn K (.ref C18) "__setattr__" = some (some (.builtin "object.__setattr__")))
    (t1_18 : PySem.W.findIn K (.ref C18) "__class__" = some (some (.builtin "object.__class__")))
    (t2_18 : PySem.W.specialIn K (.builtin "object.__class__") "__get__" = some (some (.builtin "getset_descriptor.__get__")))
    (t3_18 : PySem.W.takesIn K (.builtin "object.__class__") = some true)
    (t4_18 : PySem.W.mroIn K C18 (.type "object") = some true)
    (n18_shape : PySem.W.findIn K (.ref C18) "shape" = some none)
    (n18_parts : PySem.W.findIn K (.ref C18) "parts" = some none)
    (n18_at : PySem.W.findIn K (.ref C18) "at" = some none)
    (n18_place : PySem.W.findIn K (.ref C18) "place" = some none)
    (i19 : PySem.W.findIn K (.ref C18) "__init__" = some (some (.ref f19)))
    (j19 : PySem.W.isFn K (.ref f19) = true)
    (l19 : K.lookup f19 = some ⟨oc19, od19, .func (PySem.W.fnOf "__init__" "Make.__init__" (defArgs s_Make___init__) (defBody s_Make___init__) (defScope s_Make___init__) .none kV19 dc19 pm19 an19 cd19 ct19), sl19⟩)
    (c19 : PySem.W.codeIn K cd19 "Make.__init__" = true)
    (k19 : PySem.W.keepIn K (.ref f19) = true)
    (mk18 : PySem.W.makesIn K C18 = true)
    (kc18 : PySem.W.keepIn K (.ref C18) = true)
    (i20 : PySem.W.findIn K (.ref C18) "told" = some (some (.ref f20)))
    (j20 : PySem.W.isFn K (.ref f20) = true)
    (l20 : K.lookup f20 = some ⟨oc20, od20, .func (PySem.W.fnOf "told" "Make.told" (defArgs s_Make_told) (defBody s_Make_told) (defScope s_Make_told) .none kV20 dc20 pm20 an20 cd20 ct20), sl20⟩)
    (c20 : PySem.W.codeIn K cd20 "Make.told" = true)
    (k20 : PySem.W.keepIn K (.ref f20) = true)
    (a21 : PySem.W.nsIn K mainGlobals "Use" = some (some (.ref C21)))
    (pg21 : PySem.W.plainGet K C21 Str.empty = true)
    (hd21 : PySem.W.hasDictIn K C21 = true)
    (po21 : PySem.W.plainOver K C21 = true)
    (sa21 : PySem.W.findIn K (.ref C21) "__setattr__" = some (some (.builtin "object.__setattr__")))
    (t1_21 : PySem.W.findIn K (.ref C21) "__class__" = some (some (.builtin "object.__class__")))
    (t2_21 : PySem.W.specialIn K (.builtin "object.__class__") "__get__" = some (some (.builtin "getset_descriptor.__get__")))
    (t3_21 : PySem.W.takesIn K (.builtin "object.__class__") = some true)
    (t4_21 : PySem.W.mroIn K C21 (.type "object") = some true)
    (n21_at : PySem.W.findIn K (.ref C21) "at" = some none)
    (n21_place : PySem.W.findIn K (.ref C21) "place" = some none)
    (n21_slot : PySem.W.findIn K (.ref C21) "slot" = some none)
    (i22 : PySem.W.findIn K (.ref C21) "__init__" = some (some (.ref f22)))
    (j22 : PySem.W.isFn K (.ref f22) = true)
    (l22 : K.lookup f22 = some ⟨oc22, od22, .func (PySem.W.fnOf "__init__" "Use.__init__" (defArgs s_Use___init__) (defBody s_Use___init__) (defScope s_Use___init__) .none kV22 dc22 pm22 an22 cd22 ct22), sl22⟩)
    (c22 : PySem.W.codeIn K cd22 "Use.__init__" = true)
    (k22 : PySem.W.keepIn K (.ref f22) = true)
    (cg22 : PySem.W.specialIn K (.ref C21) "__getattribute__" = some (some (.builtin "type.__getattribute__")))
    (cr22 : PySem.W.readsIn K C21 (.type "type") = true)
    (cf22 : PySem.W.findCls K (.ref C21) (.type "type") "__init__" = some (.val (.ref f22)))
    (mk21 : PySem.W.makesIn K C21 = true)
    (kc21 : PySem.W.keepIn K (.ref C21) = true)
    (a23 : PySem.W.nsIn K mainGlobals "NumUse" = some (some (.ref C23)))
    (pg23 : PySem.W.plainGet K C23 Str.empty = true)
    (hd23 : PySem.W.hasDictIn K C23 = true)
    (po23 : PySem.W.plainOver K C23 = true)
    (sa23 : PySem.W.findIn K (.ref C23) "__setattr__" = some (some (.builtin "object.__setattr__")))
    (t1_23 : PySem.W.findIn K (.ref C23) "__class__" = some (some (.builtin "object.__class__")))
    (t2_23 : PySem.W.specialIn K (.builtin "object.__class__") "__get__" = some (some (.builtin "getset_descriptor.__get__")))
    (t3_23 : PySem.W.takesIn K (.builtin "object.__class__") = some true)
    (t4_23 : PySem.W.mroIn K C23 (.type "object") = some true)
    (n23_at : PySem.W.findIn K (.ref C23) "at" = some none)
    (n23_place : PySem.W.findIn K (.ref C23) "place" = some none)
    (n23_slot : PySem.W.findIn K (.ref C23) "slot" = some none)
    (i24 : PySem.W.findIn K (.ref C23) "told" = some (some (.ref f24)))
    (j24 : PySem.W.isFn K (.ref f24) = true)
    (l24 : K.lookup f24 = some ⟨oc24, od24, .func (PySem.W.fnOf "told" "NumUse.told" (defArgs s_NumUse_told) (defBody s_NumUse_told) (defScope s_NumUse_told) .none kV24 dc24 pm24 an24 cd24 ct24), sl24⟩)
    (c24 : PySem.W.codeIn K cd24 "NumUse.told" = true)
    (k24 : PySem.W.keepIn K (.ref f24) = true)
    (mk23 : PySem.W.makesIn K C23 = true)
    (kc23 : PySem.W.keepIn K (.ref C23) = true)
    (ii23 : PySem.W.findIn K (.ref C23) "__init__" = some (some (.ref f22)))
    (a25 : PySem.W.nsIn K mainGlobals "CallUse" = some (some (.ref C25)))
    (pg25 : PySem.W.plainGet K C25 Str.empty = true)
    (hd25 : PySem.W.hasDictIn K C25 = true)
    (po25 : PySem.W.plainOver K C25 = true)
    (sa25 : PySem.W.findIn K (.ref C25) "__setattr__" = some (some (.builtin "object.__setattr__")))
    (t1_25 : PySem.W.findIn K (.ref C25) "__class__" = some (some (.builtin "object.__class__")))
    (t2_25 : PySem.W.specialIn K (.builtin "object.__class__") "__get__" = some (some (.builtin "getset_descriptor.__get__")))
    (t3_25 : PySem.W.takesIn K (.builtin "object.__class__") = some true)
    (t4_25 : PySem.W.mroIn K C25 (.type "object") = some true)
    (n25_arg : PySem.W.findIn K (.ref C25) "arg" = some none)
    (n25_out : PySem.W.findIn K (.ref C25) "out" = some none)
    (n25_at : PySem.W.findIn K (.ref C25) "at" = some none)
    (n25_place : PySem.W.findIn K (.ref C25) "place" = some none)
    (n25_slot : PySem.W.findIn K (.ref C25) "slot" = some none)
    (i26 : PySem.W.findIn K (.ref C25) "__init__" = some (some (.ref f26)))
    (j26 : PySem.W.isFn K (.ref f26) = true)
    (l26 : K.lookup f26 = some ⟨oc26, od26, .func (PySem.W.fnOf "__init__" "CallUse.__init__" (defArgs s_CallUse___init__) (defBody s_CallUse___init__) (defScope s_CallUse___init__) .none kV26 dc26 pm26 an26 cd26 ct26), sl26⟩)
    (c26 : PySem.W.codeIn K cd26 "CallUse.__init__" = true)
    (k26 : PySem.W.keepIn K (.ref f26) = true)
    (mk25 : PySem.W.makesIn K C25 = true)
    (kc25 : PySem.W.keepIn K (.ref C25) = true)
    (i27 : PySem.W.findIn K (.ref C25) "told" = some (some (.ref f27)))
    (j27 : PySem.W.isFn K (.ref f27) = true)
    (l27 : K.lookup f27 = some ⟨oc27, od27, .func (PySem.W.fnOf "told" "CallUse.told" (defArgs s_CallUse_told) (defBody s_CallUse_told) (defScope s_CallUse_told) .none kV27 dc27 pm27 an27 cd27 ct27), sl27⟩)
    (c27 : PySem.W.codeIn K cd27 "CallUse.told" = true)
    (k27 : PySem.W.keepIn K (.ref f27) = true)
    (a28 : PySem.W.nsIn K mainGlobals "TakeUse" = some (some (.ref C28)))
    (pg28 : PySem.W.plainGet K C28 Str.empty = true)
    (hd28 : PySem.W.hasDictIn K C28 = true)
    (po28 : PySem.W.plainOver K C28 = true)
    (sa28 : PySem.W.findIn K (.ref C28) "__setattr__" = some (some (.builtin "object.__setattr__")))
    (t1_28 : PySem.W.findIn K (.ref C28) "__class__" = some (some (.builtin "object.__class__")))
    (t2_28 : PySem.W.specialIn K (.builtin "object.__class__") "__get__" = some (some (.builtin "getset_descriptor.__get__")))
    (t3_28 : PySem.W.takesIn K (.builtin "object.__class__") = some true)
    (t4_28 : PySem.W.mroIn K C28 (.type "object") = some true)
    (n28_fields : PySem.W.findIn K (.ref C28) "fields" = some none)
    (n28_at : PySem.W.findIn K (.ref C28) "at" = some none)
    (n28_place : PySem.W.findIn K (.ref C28) "place" = some none)
    (n28_slot : PySem.W.findIn K (.ref C28) "slot" = some none)
    (i29 : PySem.W.findIn K (.ref C28) "__init__" = some (some (.ref f29)))
    (j29 : PySem.W.isFn K (.ref f29) = true)
    (l29 : K.lookup f29 = some ⟨oc29, od29, .func (PySem.W.fnOf "__init__" "TakeUse.__init__" (defArgs s_TakeUse___init__) (defBody s_TakeUse___init__) (defScope s_TakeUse___init__) .none kV29 dc29 pm29 an29 cd29 ct29), sl29⟩)
    (c29 : PySem.W.codeIn K cd29 "TakeUse.__init__" = true)
    (k29 : PySem.W.keepIn K (.ref f29) = true)
    (mk28 : PySem.W.makesIn K C28 = true)
    (kc28 : PySem.W.keepIn K (.ref C28) = true)
    (i30 : PySem.W.findIn K (.ref C28) "told" = some (some (.ref f30)))
    (j30 : PySem.W.isFn K (.ref f30) = true)
    (l30 : K.lookup f30 = some ⟨oc30, od30, .func (PySem.W.fnOf "told" "TakeUse.told" (defArgs s_TakeUse_told) (defBody s_TakeUse_told) (defScope s_TakeUse_told) .none kV30 dc30 pm30 an30 cd30 ct30), sl30⟩)
    (c30 : PySem.W.codeIn K cd30 "TakeUse.told" = true)
    (k30 : PySem.W.keepIn K (.ref f30) = true)
    (a31 : PySem.W.nsIn K mainGlobals "CaseUse" = some (some (.ref C31)))
    (pg31 : PySem.W.plainGet K C31 Str.empty = true)
    (hd31 : PySem.W.hasDictIn K C31 = true)
    (po31 : PySem.W.plainOver K C31 = true)
    (sa31 : PySem.W.findIn K (.ref C31) "__setattr__" = some (some (.builtin "object.__setattr__")))
    (t1_31 : PySem.W.findIn K (.ref C31) "__class__" = some (some (.builtin "object.__class__")))
    (t2_31 : PySem.W.specialIn K (.builtin "object.__class__") "__get__" = some (some (.builtin "getset_descriptor.__get__")))
    (t3_31 : PySem.W.takesIn K (.builtin "object.__class__") = some true)
    (t4_31 : PySem.W.mroIn K C31 (.type "object") = some true)
    (n31_arms : PySem.W.findIn K (.ref C31) "arms" = some none)
    (n31_at : PySem.W.findIn K (.ref C31) "at" = some none)
    (n31_place : PySem.W.findIn K (.ref C31) "place" = some none)
    (n31_slot : PySem.W.findIn K (.ref C31) "slot" = some none)
    (i32 : PySem.W.findIn K (.ref C31) "__init__" = some (some (.ref f32)))
    (j32 : PySem.W.isFn K (.ref f32) = true)
    (l32 : K.lookup f32 = some ⟨oc32, od32, .func (PySem.W.fnOf "__init__" "CaseUse.__init__" (defArgs s_CaseUse___init__) (defBody s_CaseUse___init__) (defScope s_CaseUse___init__) .none kV32 dc32 pm32 an32 cd32 ct32), sl32⟩)
    (c32 : PySem.W.codeIn K cd32 "CaseUse.__init__" = true)
    (k32 : PySem.W.keepIn K (.ref f32) = true)
    (mk31 : PySem.W.makesIn K C31 = true)
    (kc31 : PySem.W.keepIn K (.ref C31) = true)
    (i33 : PySem.W.findIn K (.ref C31) "told" = some (some (.ref f33)))
    (j33 : PySem.W.isFn K (.ref f33) = true)
    (l33 : K.lookup f33 = some ⟨oc33, od33, .func (PySem.W.fnOf "told" "CaseUse.told" (defArgs s_CaseUse_told) (defBody s_CaseUse_told) (defScope s_CaseUse_told) .none kV33 dc33 pm33 an33 cd33 ct33), sl33⟩)
    (c33 : PySem.W.codeIn K cd33 "CaseUse.told" = true)
    (k33 : PySem.W.keepIn K (.ref f33) = true)
    (a34 : PySem.W.nsIn K mainGlobals "RowUse" = some (some (.ref C34)))
    (pg34 : PySem.W.plainGet K C34 Str.empty = true)
    (hd34 : PySem.W.hasDictIn K C34 = true)
    (po34 : PySem.W.plainOver K C34 = true)
    (sa34 : PySem.W.findIn K (.ref C34) "__setattr__" = some (some (.builtin "object.__setattr__")))
    (t1_34 : PySem.W.findIn K (.ref C34) "__class__" = some (some (.builtin "object.__class__")))
    (t2_34 : PySem.W.specialIn K (.builtin "object.__class__") "__get__" = some (some (.builtin "getset_descriptor.__get__")))
    (t3_34 : PySem.W.takesIn K (.builtin "object.__class__") = some true)
    (t4_34 : PySem.W.mroIn K C34 (.type "object") = some true)
    (n34_out : PySem.W.findIn K (.ref C34) "out" = some none)
    (n34_at : PySem.W.findIn K (.ref C34) "at" = some none)
    (n34_place : PySem.W.findIn K (.ref C34) "place" = some none)
    (n34_slot : PySem.W.findIn K (.ref C34) "slot" = some none)
    (i35 : PySem.W.findIn K (.ref C34) "__init__" = some (some (.ref f35)))
    (j35 : PySem.W.isFn K (.ref f35) = true)
    (l35 : K.lookup f35 = some ⟨oc35, od35, .func (PySem.W.fnOf "__init__" "RowUse.__init__" (defArgs s_RowUse___init__) (defBody s_RowUse___init__) (defScope s_RowUse___init__) .none kV35 dc35 pm35 an35 cd35 ct35), sl35⟩)
    (c35 : PySem.W.codeIn K cd35 "RowUse.__init__" = true)
    (k35 : PySem.W.keepIn K (.ref f35) = true)
    (mk34 : PySem.W.makesIn K C34 = true)
    (kc34 : PySem.W.keepIn K (.ref C34) = true)
    (i36 : PySem.W.findIn K (.ref C34) "told" = some (some (.ref f36)))
    (j36 : PySem.W.isFn K (.ref f36) = true)
    (l36 : K.lookup f36 = some ⟨oc36, od36, .func (PySem.W.fnOf "told" "RowUse.told" (defArgs s_RowUse_told) (defBody s_RowUse_told) (defScope s_RowUse_told) .none kV36 dc36 pm36 an36 cd36 ct36), sl36⟩)
    (c36 : PySem.W.codeIn K cd36 "RowUse.told" = true)
    (k36 : PySem.W.keepIn K (.ref f36) = true)
    (a37 : PySem.W.nsIn K mainGlobals "Board" = some (some (.ref C37)))
    (pg37 : PySem.W.plainGet K C37 Str.empty = true)
    (hd37 : PySem.W.hasDictIn K C37 = true)
    (po37 : PySem.W.plainOver K C37 = true)
    (sa37 : PySem.W.findIn K (.ref C37) "__setattr__" = some (some (.builtin "object.__setattr__")))
    (t1_37 : PySem.W.findIn K (.ref C37) "__class__" = some (some (.builtin "object.__class__")))
    (t2_37 : PySem.W.specialIn K (.builtin "object.__class__") "__get__" = some (some (.builtin "getset_descriptor.__get__")))
    (t3_37 : PySem.W.takesIn K (.builtin "object.__class__") = some true)
    (t4_37 : PySem.W.mroIn K C37 (.type "object") = some true)
    (n37_points : PySem.W.findIn K (.ref C37) "points" = some none)
    (n37_makes : PySem.W.findIn K (.ref C37) "makes" = some none)
    (n37_uses : PySem.W.findIn K (.ref C37) "uses" = some none)
    (n37_flows : PySem.W.findIn K (.ref C37) "flows" = some none)
    (n37_root : PySem.W.findIn K (.ref C37) "root" = some none)
    (i38 : PySem.W.findIn K (.ref C37) "__init__" = some (some (.ref f38)))
    (j38 : PySem.W.isFn K (.ref f38) = true)
    (l38 : K.lookup f38 = some ⟨oc38, od38, .func (PySem.W.fnOf "__init__" "Board.__init__" (defArgs s_Board___init__) (defBody s_Board___init__) (defScope s_Board___init__) .none kV38 dc38 pm38 an38 cd38 ct38), sl38⟩)
    (c38 : PySem.W.codeIn K cd38 "Board.__init__" = true)
    (k38 : PySem.W.keepIn K (.ref f38) = true)
    (mk37 : PySem.W.makesIn K C37 = true)
    (kc37 : PySem.W.keepIn K (.ref C37) = true)
    (i39 : PySem.W.findIn K (.ref C37) "point" = some (some (.ref f39)))
    (j39 : PySem.W.isFn K (.ref f39) = true)
    (l39 : K.lookup f39 = some ⟨oc39, od39, .func (PySem.W.fnOf "point" "Board.point" (defArgs s_Board_point) (defBody s_Board_point) (defScope s_Board_point) .none kV39 dc39 pm39 an39 cd39 ct39), sl39⟩)
    (c39 : PySem.W.codeIn K cd39 "Board.point" = true)
    (k39 : PySem.W.keepIn K (.ref f39) = true)
    (i40 : PySem.W.findIn K (.ref C37) "make" = some (some (.ref f40)))
    (j40 : PySem.W.isFn K (.ref f40) = true)
    (l40 : K.lookup f40 = some ⟨oc40, od40, .func (PySem.W.fnOf "make" "Board.make" (defArgs s_Board_make) (defBody s_Board_make) (defScope s_Board_make) .none kV40 dc40 pm40 an40 cd40 ct40), sl40⟩)
    (c40 : PySem.W.codeIn K cd40 "Board.make" = true)
    (k40 : PySem.W.keepIn K (.ref f40) = true)
    (i41 : PySem.W.findIn K (.ref C37) "use" = some (some (.ref f41)))
    (j41 : PySem.W.isFn K (.ref f41) = true)
    (l41 : K.lookup f41 = some ⟨oc41, od41, .func (PySem.W.fnOf "use" "Board.use" (defArgs s_Board_use) (defBody s_Board_use) (defScope s_Board_use) .none kV41 dc41 pm41 an41 cd41 ct41), sl41⟩)
    (c41 : PySem.W.codeIn K cd41 "Board.use" = true)
    (k41 : PySem.W.keepIn K (.ref f41) = true)
    (i42 : PySem.W.findIn K (.ref C37) "flow" = some (some (.ref f42)))
    (j42 : PySem.W.isFn K (.ref f42) = true)
    (l42 : K.lookup f42 = some ⟨oc42, od42, .func (PySem.W.fnOf "flow" "Board.flow" (defArgs s_Board_flow) (defBody s_Board_flow) (defScope s_Board_flow) .none kV42 dc42 pm42 an42 cd42 ct42), sl42⟩)
    (c42 : PySem.W.codeIn K cd42 "Board.flow" = true)
    (k42 : PySem.W.keepIn K (.ref f42) = true)
    (i43 : PySem.W.findIn K (.ref C37) "rooted" = some (some (.ref f43)))
    (j43 : PySem.W.isFn K (.ref f43) = true)
    (l43 : K.lookup f43 = some ⟨oc43, od43, .func (PySem.W.fnOf "rooted" "Board.rooted" (defArgs s_Board_rooted) (defBody s_Board_rooted) (defScope s_Board_rooted) .none kV43 dc43 pm43 an43 cd43 ct43), sl43⟩)
    (c43 : PySem.W.codeIn K cd43 "Board.rooted" = true)
    (k43 : PySem.W.keepIn K (.ref f43) = true)
    (a44 : PySem.W.nsIn K mainGlobals "Paper" = some (some (.ref C44)))
    (pg44 : PySem.W.plainGet K C44 Str.empty = true)
    (hd44 : PySem.W.hasDictIn K C44 = true)
    (po44 : PySem.W.plainOver K C44 = true)
    (sa44 : PySem.W.findIn K (.ref C44) "__setattr__" = some (some (.builtin "object.__setattr__")))
    (t1_44 : PySem.W.findIn K (.ref C44) "__class__" = some (some (.builtin "object.__class__")))
    (t2_44 : PySem.W.specialIn K (.builtin "object.__class__") "__get__" = some (some (.builtin "getset_descriptor.__get__")))
    (t3_44 : PySem.W.takesIn K (.builtin "object.__class__") = some true)
    (t4_44 : PySem.W.mroIn K C44 (.type "object") = some true)
    (n44_outs : PySem.W.findIn K (.ref C44) "outs" = some none)
    (n44_ins : PySem.W.findIn K (.ref C44) "ins" = some none)
    (n44_flows : PySem.W.findIn K (.ref C44) "flows" = some none)
    (i45 : PySem.W.findIn K (.ref C44) "__init__" = some (some (.ref f45)))
    (j45 : PySem.W.isFn K (.ref f45) = true)
    (l45 : K.lookup f45 = some ⟨oc45, od45, .func (PySem.W.fnOf "__init__" "Paper.__init__" (defArgs s_Paper___init__) (defBody s_Paper___init__) (defScope s_Paper___init__) .none kV45 dc45 pm45 an45 cd45 ct45), sl45⟩)
    (c45 : PySem.W.codeIn K cd45 "Paper.__init__" = true)
    (k45 : PySem.W.keepIn K (.ref f45) = true)
    (mk44 : PySem.W.makesIn K C44 = true)
    (kc44 : PySem.W.keepIn K (.ref C44) = true)
    (z_all : PySem.W.nsIn K mainGlobals "all" = some none)
    (z_bool : PySem.W.nsIn K mainGlobals "bool" = some none)
    (z_int : PySem.W.nsIn K mainGlobals "int" = some none)
    (z_isinstance : PySem.W.nsIn K mainGlobals "isinstance" = some none)
    (z_len : PySem.W.nsIn K mainGlobals "len" = some none)
    (z_list : PySem.W.nsIn K mainGlobals "list" = some none)
    (z_range : PySem.W.nsIn K mainGlobals "range" = some none)
    (z_sorted : PySem.W.nsIn K mainGlobals "sorted" = some none)
    (z_str : PySem.W.nsIn K mainGlobals "str" = some none)
    (z_sum : PySem.W.nsIn K mainGlobals "sum" = some none)
    (z_tuple : PySem.W.nsIn K mainGlobals "tuple" = some none)
    (z_zip : PySem.W.nsIn K mainGlobals "zip" = some none)
    (aL : PySem.W.nsIn K mainGlobals "law" = some (some (.ref fL))) (lL : K.lookup fL = some ⟨ocL, odL, .func (PySem.W.fnOf "law" "law" (defArgs s_law) (defBody s_law) (defScope s_law) .none kVL dcL pmL anL cdL ctL), slL⟩) (cL : PySem.W.codeIn K cdL "law" = true) (kL : PySem.W.keepIn K (.ref fL) = true) :
    ∃ fd : FuncData, (∀ (s : Shared) (v : Value), BindsTo s fd ⟨[v], []⟩ [("_law_script", v)]) ∧ ∀ base : Heap, K.In base → base.Ns mainGlobals mg → FnOk l.prog w K mg base CX0 60 fa fd ["_law_script"] (sp_law K) := by
  have e := hfa.symm.trans (PySem.W.mg_of X G aL)
  cases e
  have T : Txt K mg := ⟨f1, _, fun_mk (st := s_pasted) l1 c1 k1, (fun_mk (st := s_pasted) l1 c1 k1).binds (ps := ["board", "paper", "place"]) (fun _ _ _ _ _ _ => lS (fun _ => lS (fun _ => lS (fun _ => l0 rfl)))), PySem.W.mg_of X G a1, k1,
    f2, _, fun_mk (st := s_new_points) l2 c2 k2, (fun_mk (st := s_new_points) l2 c2 k2).binds (ps := ["board", "count", "place"]) (fun _ _ _ _ _ _ => lS (fun _ => lS (fun _ => lS (fun _ => l0 rfl)))), PySem.W.mg_of X G a2, k2,
    f3, _, fun_mk (st := s_parts_made) l3 c3 k3, (fun_mk (st := s_parts_made) l3 c3 k3).binds (ps := ["making", "outs", "ins"]) (fun _ _ _ _ _ _ => lS (fun _ => lS (fun _ => lS (fun _ => l0 rfl)))), PySem.W.mg_of X G a3, k3,
    f4, _, fun_mk (st := s_use_made) l4 c4 k4, (fun_mk (st := s_use_made) l4 c4 k4).binds (ps := ["one", "at", "place", "outs", "ins"]) (fun _ _ _ _ _ _ => lS (fun _ => lS (fun _ => lS (fun _ => lS (fun _ => lS (fun _ => l0 rfl)))))), PySem.W.mg_of X G a4, k4,
    f5, _, fun_mk (st := s_with_points) l5 c5 k5, (fun_mk (st := s_with_points) l5 c5 k5).binds (ps := ["pairs", "points"]) (fun _ _ _ _ _ _ => lS (fun _ => lS (fun _ => l0 rfl))), PySem.W.mg_of X G a5, k5,
    f6, _, fun_mk (st := s__law_stem) l6 c6 k6, (fun_mk (st := s__law_stem) l6 c6 k6).binds (ps := ["_law_cell", "_law_size"]) (fun _ _ _ _ _ _ => lS (fun _ => lS (fun _ => l0 rfl))), PySem.W.mg_of X G a6, k6,
    f7, _, fun_mk (st := s__law_words) l7 c7 k7, (fun_mk (st := s__law_words) l7 c7 k7).binds (ps := ["_law_cell"]) (fun _ _ _ _ _ _ => lS (fun _ => l0 rfl)), PySem.W.mg_of X G a7, k7,
    f8, _, fun_mk (st := s__law_alike) l8 c8 k8, (fun_mk (st := s__law_alike) l8 c8 k8).binds (ps := ["_law_found", "_law_due"]) (fun _ _ _ _ _ _ => lS (fun _ => lS (fun _ => l0 rfl))), PySem.W.mg_of X G a8, k8,
    f9, _, fun_mk (st := s__law_mix) l9 c9 k9, (fun_mk (st := s__law_mix) l9 c9 k9).binds (ps := ["_law_cell", "_law_k"]) (fun _ _ _ _ _ _ => lS (fun _ => lS (fun _ => l0 rfl))), PySem.W.mg_of X G a9, k9,
    f10, _, fun_mk (st := s__law_told) l10 c10 k10, (fun_mk (st := s__law_told) l10 c10 k10).binds (ps := ["_law_board"]) (fun _ _ _ _ _ _ => lS (fun _ => l0 rfl)), PySem.W.mg_of X G a10, k10,
    f11, _, fun_mk (st := s__law_words_by) l11 c11 k11, (fun_mk (st := s__law_words_by) l11 c11 k11).binds (ps := ["_law_words_here", "_law_c", "_law_many", "_law_size"]) (fun _ _ _ _ _ _ => lS (fun _ => lS (fun _ => lS (fun _ => lS (fun _ => l0 rfl))))), PySem.W.mg_of X G a11, k11,
    f12, _, fun_mk (st := s__law_making) l12 c12 k12, (fun_mk (st := s__law_making) l12 c12 k12).binds (ps := ["_law_words_here", "_law_c", "_law_outs", "_law_ins"]) (fun _ _ _ _ _ _ => lS (fun _ => lS (fun _ => lS (fun _ => lS (fun _ => l0 rfl))))), PySem.W.mg_of X G a12, k12,
    f13, _, fun_mk (st := s__law_using) l13 c13 k13, (fun_mk (st := s__law_using) l13 c13 k13).binds (ps := ["_law_words_here", "_law_c", "_law_outs", "_law_ins"]) (fun _ _ _ _ _ _ => lS (fun _ => lS (fun _ => lS (fun _ => lS (fun _ => l0 rfl))))), PySem.W.mg_of X G a13, k13,
    f14, _, fun_mk (st := s__law_paper) l14 c14 k14, (fun_mk (st := s__law_paper) l14 c14 k14).binds (ps := ["_law_words_here", "_law_first", "_law_cells"]) (fun _ _ _ _ _ _ => lS (fun _ => lS (fun _ => lS (fun _ => l0 rfl)))), PySem.W.mg_of X G a14, k14,
    f15, _, fun_mk (st := s__law_parts_due) l15 c15 k15, (fun_mk (st := s__law_parts_due) l15 c15 k15).binds (ps := ["_law_one", "_law_base", "_law_inner"]) (fun _ _ _ _ _ _ => lS (fun _ => lS (fun _ => lS (fun _ => l0 rfl)))), PySem.W.mg_of X G a15, k15,
    f16, _, fun_mk (st := s__law_use_due) l16 c16 k16, (fun_mk (st := s__law_use_due) l16 c16 k16).binds (ps := ["_law_one", "_law_base", "_law_inner"]) (fun _ _ _ _ _ _ => lS (fun _ => lS (fun _ => lS (fun _ => l0 rfl)))), PySem.W.mg_of X G a16, k16,
    f17, _, fun_mk (st := s__law_paste) l17 c17 k17, (fun_mk (st := s__law_paste) l17 c17 k17).binds (ps := ["_law_told_here", "_law_paper_here", "_law_place"]) (fun _ _ _ _ _ _ => lS (fun _ => lS (fun _ => lS (fun _ => l0 rfl)))), PySem.W.mg_of X G a17, k17,
    C18, PySem.W.mg_of X G a18, ⟨pg18, hd18, po18, sa18⟩, fun _ _ _ _ e => .ins e ⟨pg18, hd18, po18, sa18⟩ t1_18 t2_18 t3_18 t4_18, n18_shape, n18_parts, n18_at, n18_place, f19, _, fun_mk (st := s_Make___init__) l19 c19 k19, (fun_mk (st := s_Make___init__) l19 c19 k19).binds (ps := ["self", "shape", "parts", "at", "place"]) (fun _ _ _ _ _ _ => lS (fun _ => lS (fun _ => lS (fun _ => lS (fun _ => lS (fun _ => l0 rfl)))))), ⟨mk18, i19, j19, kc18⟩, f20, _, fun_mk (st := s_Make_told) l20 c20 k20, (fun_mk (st := s_Make_told) l20 c20 k20).binds (ps := ["self"]) (fun _ _ _ _ _ _ => lS (fun _ => l0 rfl)), ⟨i20, j20, k20⟩,
    C21, PySem.W.mg_of X G a21, ⟨pg21, hd21, po21, sa21⟩, fun _ _ _ _ e => .ins e ⟨pg21, hd21, po21, sa21⟩ t1_21 t2_21 t3_21 t4_21, n21_at, n21_place, n21_slot, f22, _, fun_mk (st := s_Use___init__) l22 c22 k22, (fun_mk (st := s_Use___init__) l22 c22 k22).binds (ps := ["self", "at", "place", "slot"]) (fun _ _ _ _ _ _ => lS (fun _ => lS (fun _ => lS (fun _ => lS (fun _ => l0 rfl))))), ⟨cg22, ⟨_, cr22, cf22⟩, k22⟩, ⟨mk21, i22, j22, kc21⟩,
    C23, PySem.W.mg_of X G a23, ⟨pg23, hd23, po23, sa23⟩, fun _ _ _ _ e => .ins e ⟨pg23, hd23, po23, sa23⟩ t1_23 t2_23 t3_23 t4_23, n23_at, n23_place, n23_slot, f24, _, fun_mk (st := s_NumUse_told) l24 c24 k24, (fun_mk (st := s_NumUse_told) l24 c24 k24).binds (ps := ["self"]) (fun _ _ _ _ _ _ => lS (fun _ => l0 rfl)), ⟨i24, j24, k24⟩, ⟨mk23, ii23, j22, kc23⟩,
    C25, PySem.W.mg_of X G a25, ⟨pg25, hd25, po25, sa25⟩, fun _ _ _ _ e => .ins e ⟨pg25, hd25, po25, sa25⟩ t1_25 t2_25 t3_25 t4_25, n25_arg, n25_out, n25_at, n25_place, n25_slot, f26, _, fun_mk (st := s_CallUse___init__) l26 c26 k26, (fun_mk (st := s_CallUse___init__) l26 c26 k26).binds (ps := ["self", "at", "place", "slot", "arg", "out"]) (fun _ _ _ _ _ _ => lS (fun _ => lS (fun _ => lS (fun _ => lS (fun _ => lS (fun _ => lS (fun _ => l0 rfl))))))), ⟨mk25, i26, j26, kc25⟩, f27, _, fun_mk (st := s_CallUse_told) l27 c27 k27, (fun_mk (st := s_CallUse_told) l27 c27 k27).binds (ps := ["self"]) (fun _ _ _ _ _ _ => lS (fun _ => l0 rfl)), ⟨i27, j27, k27⟩,
    C28, PySem.W.mg_of X G a28, ⟨pg28, hd28, po28, sa28⟩, fun _ _ _ _ e => .ins e ⟨pg28, hd28, po28, sa28⟩ t1_28 t2_28 t3_28 t4_28, n28_fields, n28_at, n28_place, n28_slot, f29, _, fun_mk (st := s_TakeUse___init__) l29 c29 k29, (fun_mk (st := s_TakeUse___init__) l29 c29 k29).binds (ps := ["self", "at", "place", "slot", "fields"]) (fun _ _ _ _ _ _ => lS (fun _ => lS (fun _ => lS (fun _ => lS (fun _ => lS (fun _ => l0 rfl)))))), ⟨mk28, i29, j29, kc28⟩, f30, _, fun_mk (st := s_TakeUse_told) l30 c30 k30, (fun_mk (st := s_TakeUse_told) l30 c30 k30).binds (ps := ["self"]) (fun _ _ _ _ _ _ => lS (fun _ => l0 rfl)), ⟨i30, j30, k30⟩,
    C31, PySem.W.mg_of X G a31, ⟨pg31, hd31, po31, sa31⟩, fun _ _ _ _ e => .ins e ⟨pg31, hd31, po31, sa31⟩ t1_31 t2_31 t3_31 t4_31, n31_arms, n31_at, n31_place, n31_slot, f32, _, fun_mk (st := s_CaseUse___init__) l32 c32 k32, (fun_mk (st := s_CaseUse___init__) l32 c32 k32).binds (ps := ["self", "at", "place", "slot", "arms"]) (fun _ _ _ _ _ _ => lS (fun _ => lS (fun _ => lS (fun _ => lS (fun _ => lS (fun _ => l0 rfl)))))), ⟨mk31, i32, j32, kc31⟩, f33, _, fun_mk (st := s_CaseUse_told) l33 c33 k33, (fun_mk (st := s_CaseUse_told) l33 c33 k33).binds (ps := ["self"]) (fun _ _ _ _ _ _ => lS (fun _ => l0 rfl)), ⟨i33, j33, k33⟩,
    C34, PySem.W.mg_of X G a34, ⟨pg34, hd34, po34, sa34⟩, fun _ _ _ _ e => .ins e ⟨pg34, hd34, po34, sa34⟩ t1_34 t2_34 t3_34 t4_34, n34_out, n34_at, n34_place, n34_slot, f35, _, fun_mk (st := s_RowUse___init__) l35 c35 k35, (fun_mk (st := s_RowUse___init__) l35 c35 k35).binds (ps := ["self", "at", "place", "slot", "out"]) (fun _ _ _ _ _ _ => lS (fun _ => lS (fun _ => lS (fun _ => lS (fun _ => lS (fun _ => l0 rfl)))))), ⟨mk34, i35, j35, kc34⟩, f36, _, fun_mk (st := s_RowUse_told) l36 c36 k36, (fun_mk (st := s_RowUse_told) l36 c36 k36).binds (ps := ["self"]) (fun _ _ _ _ _ _ => lS (fun _ => l0 rfl)), ⟨i36, j36, k36⟩,
    C37, PySem.W.mg_of X G a37, ⟨pg37, hd37, po37, sa37⟩, fun _ _ _ _ e => .ins e ⟨pg37, hd37, po37, sa37⟩ t1_37 t2_37 t3_37 t4_37, n37_points, n37_makes, n37_uses, n37_flows, n37_root, f38, _, fun_mk (st := s_Board___init__) l38 c38 k38, (fun_mk (st := s_Board___init__) l38 c38 k38).binds (ps := ["self"]) (fun _ _ _ _ _ _ => lS (fun _ => l0 rfl)), ⟨mk37, i38, j38, kc37⟩, f39, _, fun_mk (st := s_Board_point) l39 c39 k39, (fun_mk (st := s_Board_point) l39 c39 k39).binds (ps := ["self", "place"]) (fun _ _ _ _ _ _ => lS (fun _ => lS (fun _ => l0 rfl))), ⟨i39, j39, k39⟩, f40, _, fun_mk (st := s_Board_make) l40 c40 k40, (fun_mk (st := s_Board_make) l40 c40 k40).binds (ps := ["self", "shape", "parts", "at", "place"]) (fun _ _ _ _ _ _ => lS (fun _ => lS (fun _ => lS (fun _ => lS (fun _ => lS (fun _ => l0 rfl)))))), ⟨i40, j40, k40⟩, f41, _, fun_mk (st := s_Board_use) l41 c41 k41, (fun_mk (st := s_Board_use) l41 c41 k41).binds (ps := ["self", "one"]) (fun _ _ _ _ _ _ => lS (fun _ => lS (fun _ => l0 rfl))), ⟨i41, j41, k41⟩, f42, _, fun_mk (st := s_Board_flow) l42 c42 k42, (fun_mk (st := s_Board_flow) l42 c42 k42).binds (ps := ["self", "p", "q"]) (fun _ _ _ _ _ _ => lS (fun _ => lS (fun _ => lS (fun _ => l0 rfl)))), ⟨i42, j42, k42⟩, f43, _, fun_mk (st := s_Board_rooted) l43 c43 k43, (fun_mk (st := s_Board_rooted) l43 c43 k43).binds (ps := ["self", "p"]) (fun _ _ _ _ _ _ => lS (fun _ => lS (fun _ => l0 rfl))), ⟨i43, j43, k43⟩,
    C44, PySem.W.mg_of X G a44, ⟨pg44, hd44, po44, sa44⟩, fun _ _ _ _ e => .ins e ⟨pg44, hd44, po44, sa44⟩ t1_44 t2_44 t3_44 t4_44, n44_outs, n44_ins, n44_flows, f45, _, fun_mk (st := s_Paper___init__) l45 c45 k45, (fun_mk (st := s_Paper___init__) l45 c45 k45).binds (ps := ["self", "outs", "ins", "flows"]) (fun _ _ _ _ _ _ => lS (fun _ => lS (fun _ => lS (fun _ => lS (fun _ => l0 rfl))))), ⟨mk44, i45, j45, kc44⟩,
    PySem.W.mg_none_of X G z_all,
    PySem.W.mg_none_of X G z_bool,
    PySem.W.mg_none_of X G z_int,
    PySem.W.mg_none_of X G z_isinstance,
    PySem.W.mg_none_of X G z_len,
    PySem.W.mg_none_of X G z_list,
    PySem.W.mg_none_of X G z_range,
    PySem.W.mg_none_of X G z_sorted,
    PySem.W.mg_none_of X G z_str,
    PySem.W.mg_none_of X G z_sum,
    PySem.W.mg_none_of X G z_tuple,
    PySem.W.mg_none_of X G z_zip⟩
  exact ⟨PySem.W.fnOf "law" "law" (defArgs s_law) (defBody s_law) (defScope s_law) .none kVL dcL pmL anL cdL ctL, fun s v => .of_eq rfl, fun base _ _ => all_law T (fun_mk (st := s_law) lL cL kL)⟩
theorem walk {l : PySem.W.OpenLaw} {q : Program} {loose : List Str} {XP : (Str → Option Value) → Heap → Prop} {YP : World → Heap → Prop} {d : DefRec} {K : Params → PySem.W.Frag} (hn : l.most = some 63) (hdf : d.params.defaults = [])
    (hY : ∀ (w : World) (h : Heap), YP w h → (K w.params).In h)
    (F : ∀ (w : World) (mg : Str → Option Value) (fa : Addr) (h : Heap), (K w.params).In h → h.Ns mainGlobals mg → mg d.name = some (.ref fa) →
      ∃ fd : FuncData, (∀ (s : Shared) (u : Value), BindsTo s fd ⟨[u], []⟩ [("_law_script", u)]) ∧ ∀ base : Heap, (K w.params).In base → base.Ns mainGlobals mg → FnOk l.prog w (K w.params) mg base CX0 60 fa fd ["_law_script"] (sp_law (K w.params))) :
    PySem.W.WalkO q loose XP YP l.row.toRowW d [] (fun f vs => PySem.call f vs) :=
  L2.Internal.walk_of (n := 63) (k := 60) (x := "_law_script") (CX := fun _ => CX0) (sp := fun w => sp_law (K w.params)) hn (by decide) hdf ⟨rfl, by decide, by decide⟩ hY F (fun _ _ a ns hl _ hS => ⟨a, ns, rfl, hS, hl, fun _ => rfl⟩) fun _ _ _ _ _ z => z
end K25.Internal
open PySem PySem.W PyProof.Rows
set_option maxRecDepth 100000 in
set_option maxHeartbeats 0 in
theorem PySem.Challenge.cw_flowkinds_k25_a_paper_pasted_holds : PySem.Challenge.rw_flowkinds_k25_a_paper_pasted.Holds := by
  w_on; o_law; k_head; (case hw => w_witness2)
  k_fill
  refine K25.Internal.walk (l := PySem.Challenge.rw_flowkinds_k25_a_paper_pasted) rfl rfl (fun w h Y => PySem.W.kIn_of Y) ?F
  case F =>
    intro w mg fa h KX G hmg
    refine' K25.Internal.all_mk KX G hmg ?a1 ?l1 ?c1 ?k1 ?a2 ?l2 ?c2 ?k2 ?a3 ?l3 ?c3 ?k3 ?a4 ?l4 ?c4 ?k4 ?a5 ?l5 ?c5 ?k5 ?a6 ?l6 ?c6 ?k6 ?a7 ?l7 ?c7 ?k7 ?a8 ?l8 ?c8 ?k8 ?a9 ?l9 ?c9 ?k9 ?a10 ?l10 ?c10 ?k10 ?a11 ?l11 ?c11 ?k11 ?a12 ?l12 ?c12 ?k12 ?a13 ?l13 ?c13 ?k13 ?a14 ?l14 ?c14 ?k14 ?a15 ?l15 ?c15 ?k15 ?a16 ?l16 ?c16 ?k16 ?a17 ?l17 ?c17 ?k17 ?a18 ?pg18 ?hd18 ?po18 ?sa18 ?t1_18 ?t2_18 ?t3_18 ?t4_18 ?n18_shape ?n18_parts ?n18_at ?n18_place ?i19 ?j19 ?l19 ?c19 ?k19 ?mk18 ?kc18 ?i20 ?j20 ?l20 ?c20 ?k20 ?a21 ?pg21 ?hd21 ?po21 ?sa21 ?t1_21 ?t2_21 ?t3_21 ?t4_21 ?n21_at ?n21_place ?n21_slot ?i22 ?j22 ?l22 ?c22 ?k22 ?cg22 ?cr22 ?cf22 ?mk21 ?kc21 ?a23 ?pg23 ?hd23 ?po23 ?sa23 ?t1_23 ?t2_23 ?t3_23 ?t4_23 ?n23_at ?n23_place ?n23_slot ?i24 ?j24 ?l24 ?c24 ?k24 ?mk23 ?kc23 ?ii23 ?a25 ?pg25 ?hd25 ?po25 ?sa25 ?t1_25 ?t2_25 ?t3_25 ?t4_25 ?n25_arg ?n25_out ?n25_at ?n25_place ?n25_slot ?i26 ?j26 ?l26 ?c26 ?k26 ?mk25 ?kc25 ?i27 ?j27 ?l27 ?c27 ?k27 ?a28 ?pg28 ?hd28 ?po28 ?sa28 ?t1_28 ?t2_28 ?t3_28 ?t4_28 ?n28_fields ?n28_at ?n28_place ?n28_slot ?i29 ?j29 ?l29 ?c29 ?k29 ?mk28 ?kc28 ?i30 ?j30 ?l30 ?c30 ?k30 ?a31 ?pg31 ?hd31 ?po31 ?sa31 ?t1_31 ?t2_31 ?t3_31 ?t4_31 ?n31_arms ?n31_at ?n31_place ?n31_slot ?i32 ?j32 ?l32 ?c32 ?k32 ?mk31 ?kc31 ?i33 ?j33 ?l33 ?c33 ?k33 ?a34 ?pg34 ?hd34 ?po34 ?sa34 ?t1_34 ?t2_34 ?t3_34 ?t4_34 ?n34_out ?n34_at ?n34_place ?n34_slot ?i35 ?j35 ?l35 ?c35 ?k35 ?mk34 ?kc34 ?i36 ?j36 ?l36 ?c36 ?k36 ?a37 ?pg37 ?hd37 ?po37 ?sa37 ?t1_37 ?t2_37 ?t3_37 ?t4_37 ?n37_points ?n37_makes ?n37_uses ?n37_flows ?n37_root ?i38 ?j38 ?l38 ?c38 ?k38 ?mk37 ?kc37 ?i39 ?j39 ?l39 ?c39 ?k39 ?i40 ?j40 ?l40 ?c40 ?k40 ?i41 ?j41 ?l41 ?c41 ?k41 ?i42 ?j42 ?l42 ?c42 ?k42 ?i43 ?j43 ?l43 ?c43 ?k43 ?a44 ?pg44 ?hd44 ?po44 ?sa44 ?t1_44 ?t2_44 ?t3_44 ?t4_44 ?n44_outs ?n44_ins ?n44_flows ?i45 ?j45 ?l45 ?c45 ?k45 ?mk44 ?kc44 ?z_all ?z_bool ?z_int ?z_isinstance ?z_len ?z_list ?z_range ?z_sorted ?z_str ?z_sum ?z_tuple ?z_zip ?aL ?lL ?cL ?kL
    (case a1 => k_is)
    (case l1 => k_is)
    (case c1 => k_is)
    (case k1 => k_is)
    (case a2 => k_is)
    (case l2 => k_is)
    (case c2 => k_is)
    (case k2 => k_is)
    (case a3 => k_is)
    (case l3 => k_is)
    (case c3 => k_is)
    (case k3 => k_is)
    (case a4 => k_is)
    (case l4 => k_is)
    (case c4 => k_is)
    (case k4 => k_is)
    (case a5 => k_is)
    (case l5 => k_is)
    (case c5 => k_is)
    (case k5 => k_is)
    (case a6 => k_is)
    (case l6 => k_is)
    (case c6 => k_is)
    (case k6 => k_is)
    (case a7 => k_is)
    (case l7 => k_is)
    (case c7 => k_is)
    (case k7 => k_is)
    (case a8 => k_is)
    (case l8 => k_is)
    (case c8 => k_is)
    (case k8 => k_is)
    (case a9 => k_is)
    (case l9 => k_is)
    (case c9 => k_is)
    (case k9 => k_is)
    (case a10 => k_is)
    (case l10 => k_is)
    (case c10 => k_is)
    (case k10 => k_is)
    (case a11 => k_is)
    (case l11 => k_is)
    (case c11 => k_is)
    (case k11 => k_is)
    (case a12 => k_is)
    (case l12 => k_is)
    (case c12 => k_is)
    (case k12 => k_is)
    (case a13 => k_is)
    (case l13 => k_is)
    (case c13 => k_is)
    (case k13 => k_is)
    (case a14 => k_is)
    (case l14 => k_is)
    (case c14 => k_is)
    (case k14 => k_is)
    (case a15 => k_is)
    (case l15 => k_is)
    (case c15 => k_is)
    (case k15 => k_is)
    (case a16 => k_is)
    (case l16 => k_is)
    (case c16 => k_is)
    (case k16 => k_is)
    (case a17 => k_is)
    (case l17 => k_is)
    (case c17 => k_is)
    (case k17 => k_is)
    (case a18 => k_is)
    (case pg18 => k_is)
    (case hd18 => k_is)
    (case po18 => k_is)
    (case sa18 => k_is)
    (case t1_18 => k_is)
    (case t2_18 => k_is)
    (case t3_18 => k_is)
    (case t4_18 => k_is)
    (case n18_shape => k_is)
    (case n18_parts => k_is)
    (case n18_at => k_is)
    (case n18_place => k_is)
    (case i19 => k_is)
    (case j19 => k_is)
    (case l19 => k_is)
    (case c19 => k_is)
    (case k19 => k_is)
    (case mk18 => k_is)
    (case kc18 => k_is)
    (case i20 => k_is)
    (case j20 => k_is)
    (case l20 => k_is)
    (case c20 => k_is)
    (case k20 => k_is)
    (case a21 => k_is)
    (case pg21 => k_is)
    (case hd21 => k_is)
    (case po21 => k_is)
    (case sa21 => k_is)
    (case t1_21 => k_is)
    (case t2_21 => k_is)
    (case t3_21 => k_is)
    (case t4_21 => k_is)
    (case n21_at => k_is)
    (case n21_place => k_is)
    (case n21_slot => k_is)
    (case i22 => k_is)
    (case j22 => k_is)
    (case l22 => k_is)
    (case c22 => k_is)
    (case k22 => k_is)
    (case cg22 => k_is)
    (case cr22 => k_is)
    (case cf22 => k_is)
    (case mk21 => k_is)
    (case kc21 => k_is)
    (case a23 => k_is)
    (case pg23 => k_is)
    (case hd23 => k_is)
    (case po23 => k_is)
    (case sa23 => k_is)
    (case t1_23 => k_is)
    (case t2_23 => k_is)
    (case t3_23 => k_is)
    (case t4_23 => k_is)
    (case n23_at => k_is)
    (case n23_place => k_is)
    (case n23_slot => k_is)
    (case i24 => k_is)
    (case j24 => k_is)
    (case l24 => k_is)
    (case c24 => k_is)
    (case k24 => k_is)
    (case mk23 => k_is)
    (case kc23 => k_is)
    (case ii23 => k_is)
    (case a25 => k_is)
    (case pg25 => k_is)
    (case hd25 => k_is)
    (case po25 => k_is)
    (case sa25 => k_is)
    (case t1_25 => k_is)
    (case t2_25 => k_is)
    (case t3_25 => k_is)
    (case t4_25 => k_is)
    (case n25_arg => k_is)
    (case n25_out => k_is)
    (case n25_at => k_is)
    (case n25_place => k_is)
    (case n25_slot => k_is)
    (case i26 => k_is)
    (case j26 => k_is)
    (case l26 => k_is)
    (case c26 => k_is)
    (case k26 => k_is)
    (case mk25 => k_is)
    (case kc25 => k_is)
    (case i27 => k_is)
    (case j27 => k_is)
    (case l27 => k_is)
    (case c27 => k_is)
    (case k27 => k_is)
    (case a28 => k_is)
    (case pg28 => k_is)
    (case hd28 => k_is)
    (case po28 => k_is)
    (case sa28 => k_is)
    (case t1_28 => k_is)
    (case t2_28 => k_is)
    (case t3_28 => k_is)
    (case t4_28 => k_is)
    (case n28_fields => k_is)
    (case n28_at => k_is)
    (case n28_place => k_is)
    (case n28_slot => k_is)
    (case i29 => k_is)
    (case j29 => k_is)
    (case l29 => k_is)
    (case c29 => k_is)
    (case k29 => k_is)
    (case mk28 => k_is)
    (case kc28 => k_is)
    (case i30 => k_is)
    (case j30 => k_is)
    (case l30 => k_is)
    (case c30 => k_is)
    (case k30 => k_is)
    (case a31 => k_is)
    (case pg31 => k_is)
    (case hd31 => k_is)
    (case po31 => k_is)
    (case sa31 => k_is)
    (case t1_31 => k_is)
    (case t2_31 => k_is)
    (case t3_31 => k_is)
    (case t4_31 => k_is)
    (case n31_arms => k_is)
    (case n31_at => k_is)
    (case n31_place => k_is)
    (case n31_slot => k_is)
    (case i32 => k_is)
    (case j32 => k_is)
    (case l32 => k_is)
    (case c32 => k_is)
    (case k32 => k_is)
    (case mk31 => k_is)
    (case kc31 => k_is)
    (case i33 => k_is)
    (case j33 => k_is)
    (case l33 => k_is)
    (case c33 => k_is)
    (case k33 => k_is)
    (case a34 => k_is)
    (case pg34 => k_is)
    (case hd34 => k_is)
    (case po34 => k_is)
    (case sa34 => k_is)
    (case t1_34 => k_is)
    (case t2_34 => k_is)
    (case t3_34 => k_is)
    (case t4_34 => k_is)
    (case n34_out => k_is)
    (case n34_at => k_is)
    (case n34_place => k_is)
    (case n34_slot => k_is)
    (case i35 => k_is)
    (case j35 => k_is)
    (case l35 => k_is)
    (case c35 => k_is)
    (case k35 => k_is)
    (case mk34 => k_is)
    (case kc34 => k_is)
    (case i36 => k_is)
    (case j36 => k_is)
    (case l36 => k_is)
    (case c36 => k_is)
    (case k36 => k_is)
    (case a37 => k_is)
    (case pg37 => k_is)
    (case hd37 => k_is)
    (case po37 => k_is)
    (case sa37 => k_is)
    (case t1_37 => k_is)
    (case t2_37 => k_is)
    (case t3_37 => k_is)
    (case t4_37 => k_is)
    (case n37_points => k_is)
    (case n37_makes => k_is)
    (case n37_uses => k_is)
    (case n37_flows => k_is)
    (case n37_root => k_is)
    (case i38 => k_is)
    (case j38 => k_is)
    (case l38 => k_is)
    (case c38 => k_is)
    (case k38 => k_is)
    (case mk37 => k_is)
    (case kc37 => k_is)
    (case i39 => k_is)
    (case j39 => k_is)
    (case l39 => k_is)
    (case c39 => k_is)
    (case k39 => k_is)
    (case i40 => k_is)
    (case j40 => k_is)
    (case l40 => k_is)
    (case c40 => k_is)
    (case k40 => k_is)
    (case i41 => k_is)
    (case j41 => k_is)
    (case l41 => k_is)
    (case c41 => k_is)
    (case k41 => k_is)
    (case i42 => k_is)
    (case j42 => k_is)
    (case l42 => k_is)
    (case c42 => k_is)
    (case k42 => k_is)
    (case i43 => k_is)
    (case j43 => k_is)
    (case l43 => k_is)
    (case c43 => k_is)
    (case k43 => k_is)
    (case a44 => k_is)
    (case pg44 => k_is)
    (case hd44 => k_is)
    (case po44 => k_is)
    (case sa44 => k_is)
    (case t1_44 => k_is)
    (case t2_44 => k_is)
    (case t3_44 => k_is)
    (case t4_44 => k_is)
    (case n44_outs => k_is)
    (case n44_ins => k_is)
    (case n44_flows => k_is)
    (case i45 => k_is)
    (case j45 => k_is)
    (case l45 => k_is)
    (case c45 => k_is)
    (case k45 => k_is)
    (case mk44 => k_is)
    (case kc44 => k_is)
    (case z_all => k_is)
    (case z_bool => k_is)
    (case z_int => k_is)
    (case z_isinstance => k_is)
    (case z_len => k_is)
    (case z_list => k_is)
    (case z_range => k_is)
    (case z_sorted => k_is)
    (case z_str => k_is)
    (case z_sum => k_is)
    (case z_tuple => k_is)
    (case z_zip => k_is)
    (case aL => k_is)
    (case lL => k_is)
    (case cL => k_is)
    (case kL => k_is)
