import PyProof.Rows.All
import Wide.All
import OpenK.AllK
import Wide.FinOn
import Lean
import PyProof.EqAt
import PyProof.EqKinds
import PyProof.TupleCall
import PyProof.NeKinds
import PySem.Challenge.RW_flowkinds_k23_a_definition_laid_anew
set_option Elab.async false
set_option linter.all false
set_option maxRecDepth 100000
set_option maxHeartbeats 4000000
set_option genInjectivity false
set_option genSizeOf false
set_option bootstrap.genMatcherCode false
set_option compiler.extract_closed false
theorem fN {c:Prop} {h:Decidable c} (hnc:¬c) {α:Sort u} {t e:α}:(ite c t e)=e:=if_neg hnc
theorem fY {c:Prop} {h:Decidable c} (hc:c) {α:Sort u} {t e:α}:(ite c t e)=t:=if_pos hc
theorem gQ {p:Prop} [Decidable p] (h:p):decide p=true:=decide_eq_true h
theorem gA {p:Prop} [Decidable p] (h:¬p):decide p=false:=decide_eq_false h
theorem fS {p:Prop} (h:p:=by decide+kernel):p:=h
theorem mh:0<=PySem.sizeLine:=by decide
theorem lY:1<=PySem.sizeLine:=by decide
theorem lQ:2<=PySem.sizeLine:=by decide
theorem sM:3<=PySem.sizeLine:=by decide
theorem xn:4<=PySem.sizeLine:=by decide
theorem E3:5<=PySem.sizeLine:=by decide
theorem Fb:6<=PySem.sizeLine:=by decide
open List renaming all_cons→aY,any_cons→aQ,append_assoc→bJ,append_cancel_left→bR,append_nil→aC,cons_append→aR,drop_length→bH,filterMap_cons→af,filter_append→bW,find?_cons→aP,forIn_cons→bt,forIn_nil→bw,forall_mem_cons→bF,getD_eq_getElem?_getD→bp,getElem?_append_left→aI,getElem?_append_right→aH,getElem?_cons_succ→bo,getElem?_drop→bK,getElem?_eq_getElem→ba,getElem?_eq_none_iff→bA,getElem?_eq_some_iff→aq,getElem?_map→aJ,getElem?_set_ne→av,getElem?_set_self→ar,getElem?_take_of_lt→aK,getElem?_toArray→bz,getElem?_zip_eq_some→bL,length_append→aN,length_cons→ay,length_drop→aT,length_dropLast→aV,length_map→aB,length_range→bT,length_replicate→aO,length_singleton→aU,length_take→aG,length_zip→bN,lookup→az,lookup_cons→aW,map→bh,map_append→bC,map_cons→aA,map_map→bg,map_nil→aS,mem_append→ak,mem_append_left→ao,mem_append_right→aw,mem_cons→aj,mem_cons_of_mem→ai,mem_cons_self→ag,mem_iff_getElem?→bD,mem_map→bb,mem_map_of_mem→bI,mem_of_getElem?→aM,mem_range→ae,mem_singleton→aZ,nil_append→bG,nodup_cons→aD,not_mem_nil→bj,of_mem_zip→aE,range→aa,range_succ→bS,range_succ_eq_map→aX,replicate→aF,replicate_succ'→bU,set_append_right→bQ,set_set→bB,size_toArray→ax,take_append_of_le_length→bV,take_length→bE,take_of_length_le→bO,take_succ→bM,take_succ_cons→bP,zipIdx_cons→bq,zipIdx_nil→br
open Nat renaming add_assoc→ck,le_add_right→cf,le_of_lt→b6,le_refl→cb,le_trans→b0,lt_irrefl→bY,lt_of_lt_of_le→bX,mul_assoc→cu,ne_of_gt→b9,ne_of_lt→bZ,not_lt_zero→cq,sub_self→cg,zero_add→cm,zero_le→cc
open Option renaming isSome_iff_exists→cy,map_eq_some_iff→cB,map_some→cz,some→cx
open PySem.W renaming callWith_K→di,callWith_K0→dq,cellsFrom_some→du,codeIn→dy,emptyDict→cP,findIn→cH,fnOf→dw,hasDictIn→cG,instObj→cC,isFn→cK,keepIn→cR,kia_one→cS,kia_tup→dA,kitx_bool→cW,kitx_dict→dh,kitx_float→cX,kitx_list→cY,kitx_none→cU,kitx_tuple→cZ,lookIn→cE,makesIn→cO,methodCall_KW→dj,methodObj→cD,mg_none_of→dD,mg_of→dC,nsIn→dB,plainGet→cF,plainGet_of→cJ,plainOver→cM,specialIn→cQ,takerIn→cN
open PySem.F renaming args_tuple_add_2→dH,entry_tuple_add→dG,plainAttrs_list→dJ,slot_dict_getitem→dE,slot_list_append→dM,slot_list_index→dI,slot_list_pop→dO,slot_tuple_add→dF,type_list_append→dN,type_list_pop→dP
open Bool renaming and_eq_true→dS,and_false→dU,eq_iff_iff→dR,false_ne_true→dQ,false_xor→dW,true_xor→dX
open Array renaming length_toList→dY
open Int renaming emod_lt_of_pos→eg,emod_nonneg→ee,le_refl→d7,natCast_add→eC,toNat_natCast→dZ,zero_add→eB
open PySem.Heap renaming get?_push_of_some→eG,get?_push_size→eF,get?_update_other→eK,get?_update_self→eJ,lt_size→eE,size_push→eI
open PyProof.Rows renaming callWith_type1→eL,slot_tuple_getitem→eM
noncomputable section
namespace L2.Internal
theorem auR (h:True=True:=by rfl):True:=trivial
theorem auD (h:True:=by decide):True:=trivial
theorem auI (h:True->True=True:=by intro _;rfl):True:=trivial
theorem auL (h:True=True\/True:=by first|exact .inl rfl|exact .inr rfl|assumption):True:=trivial
open PySem PySem.Spec PyProof.Rows
abbrev Key:=Sum Int Str
def v9:Key->Value->Bool
 | .inl k,v=>Value.isInt k v
 | .inr x,v=>Value.isStrOf x v
def keyH (w:World):Key->Int
 | .inl k=>hashInt k
 | .inr x=>hashStr w x
theorem gL:∀{k:Key} {v:Value},v9 k v=true->(∃i t,k=Sum.inl i/\v=Value.int i t)\/(∃x t,k=Sum.inr x/\v=Value.str x t)
 | .inl i,v,h=>by
  obtain⟨t,e⟩:=Value.isInt_shape (k:=i) (v:=v) h
  exact .inl ⟨i,t,rfl,e⟩
 | .inr x,v,h=>by
  obtain⟨t,e⟩:=Value.isStrOf_shape (x:=x) (v:=v) h
  exact .inr ⟨x,t,rfl,e⟩
theorem xo (i:Int) (t:Tok):v9 (.inl i) (.int i t)=true:=by simp[v9,Value.isInt]
theorem pk (x:Str) (t:Tok):v9 (.inr x) (.str x t)=true:=by simp[v9,Value.isStrOf]
theorem Dk (a b:Int):decide ((Sum.inl a:Key)=Sum.inl b)=(a==b):=by
 by_cases e:a=b
 ·subst e;simp
 ·have h:¬(Sum.inl a:Key)=Sum.inl b:=fun q=>e (Sum.inl.inj q)
  rw[gA h]
  exact(beq_eq_false_iff_ne.mpr e).symm
theorem Dl (a b:Str):decide ((Sum.inr a:Key)=Sum.inr b)=decide (a=b):=by
 by_cases e:a=b
 ·subst e;simp
 ·have h:¬(Sum.inr a:Key)=Sum.inr b:=fun q=>e (Sum.inr.inj q)
  rw[gA h,gA e]
theorem Dn (a:Int) (b:Str):decide ((Sum.inl a:Key)=Sum.inr b)=false:=gA (fun q=>nomatch q)
theorem Dp (a:Str) (b:Int):decide ((Sum.inr a:Key)=Sum.inl b)=false:=gA (fun q=>nomatch q)
def iK (prog:Program) (w:World):PySem.KeyKind prog w Key where
 is:=v9
 hash:=keyH w
 inj:=fun v a b ha hb=>by
  rcases gL ha with⟨i,t,rfl,rfl⟩|⟨x,t,rfl,rfl⟩
  ·rcases gL hb with⟨j,u,rfl,e⟩|⟨y,u,rfl,e⟩
   ·injection e with e1 _;rw[e1]
   ·exact nomatch e
  ·rcases gL hb with⟨j,u,rfl,e⟩|⟨y,u,rfl,e⟩
   ·exact nomatch e
   ·injection e with e1 _;rw[e1]
 byValue:=fun k v h=>by
  rcases gL h with⟨i,t,rfl,rfl⟩|⟨x,t,rfl,rfl⟩<;>rfl
 pyHash:=fun hv h=>by
  rcases gL hv with⟨i,t,rfl,rfl⟩|⟨x,t,rfl,rfl⟩
  ·exact wpAny_pyHash_int h
  ·exact wpAny_pyHash_str h
 eqBool:=fun hu hv h=>by
  rcases gL hu with⟨i,t,rfl,rfl⟩|⟨x,t,rfl,rfl⟩
  ·rcases gL hv with⟨j,u,rfl,rfl⟩|⟨y,u,rfl,rfl⟩
   ·rw[Dk]at h;exact wpAny_eqBool_int h
   ·rw[Dn]at h;exact SeqAt.EqAt.int_str i t y u _ _ _ _ h
  ·rcases gL hv with⟨j,u,rfl,rfl⟩|⟨y,u,rfl,rfl⟩
   ·rw[Dp]at h;exact SeqAt.EqAt.str_int x t j u _ _ _ _ h
   ·rw[Dl]at h;exact wpAny_eqBool_str h
 «strs»:=fun k x t v h=>by
  rcases gL h with⟨i,u,rfl,e⟩|⟨y,u,rfl,e⟩
  ·exact nomatch e
  ·injection e with e1 _
   subst e1
   cases v<;>rfl
theorem uj (prog:Program) (w:World) (i:Int) (t:Tok):(iK prog w).is (.inl i) (.int i t)=true:=xo i t
theorem uk (prog:Program) (w:World) (x:Str) (t:Tok):(iK prog w).is (.inr x) (.str x t)=true:=pk x t
end L2.Internal
namespace L2.Internal
open PySem PySem.Spec PyProof.Rows
set_option genInjectivity true in
inductive V where
 |non|bl (b:Bool)|int (i:Int)|str (x:Str)|byt (b:Array UInt8)|flt (b:UInt64)|ref (a:Addr)|ty (n:String)
 deriving DecidableEq
def gR:V->Value->Prop
 | .non,u=>u=Value.none
 | .bl b,u=>u=Value.bool b
 | .int i,u=>∃t,u=Value.int i t
 | .str x,u=>∃t,u=Value.str x t
 | .byt b,u=>∃t,u=Value.bytes b t
 | .flt b,u=>∃t,u=Value.float b t
 | .ref a,u=>u=Value.ref a
 | .ty n,u=>u=Value.type n
abbrev gM:List V->List Value->Prop:=Paired gR
theorem gM.length {xs:List V} {us:List Value} (r:gM xs us):xs.length=us.length:=Paired.length r
theorem gM.get:∀{xs:List V} {us:List Value} {i:Nat} {x:V},gM xs us->xs[i]?=some x->∃u,us[i]?=some u/\gR x u
 |_,_,_,_,.nil,e=>by simp at e
 |_,_,0,_,.cons r _,e=>by simp at e;subst e;exact⟨_,rfl,r⟩
 |_,_,i+ 1,x,.cons _ t,e=>by
  obtain⟨u,h1,h2⟩:=gM.get (i:=i) (x:=x) t (by simpa using e)
  exact⟨u,by simpa using h1,h2⟩
theorem gM.set {x:V} {u:Value} (r:gR x u):∀{xs:List V} {us:List Value} (i:Nat),gM xs us->gM (xs.set i x) (us.set i u)
 |_,_,_,.nil=> .nil
 |_,_,0,.cons _ t=> .cons r t
 |_,_,i+ 1,.cons q t=> .cons q (gM.set r i t)
theorem gM.append:∀{xs ys:List V} {us ws:List Value},gM xs us->gM ys ws->gM (xs++ys) (us++ws)
 |_,_,_,_,.nil,s=>s
 |_,_,_,_,.cons r t,s=> .cons r (gM.append t s)
theorem gM.take:∀{xs:List V} {us:List Value} (n:Nat),gM xs us->gM (xs.take n) (us.take n)
 |_,_,0,_=> .nil
 |_,_,_+ 1,.nil=> .nil
 |_,_,n+ 1,.cons r t=> .cons r (gM.take n t)
theorem gM.drop:∀{xs:List V} {us:List Value} (n:Nat),gM xs us->gM (xs.drop n) (us.drop n)
 |_,_,0,r=>r
 |_,_,_+ 1,.nil=> .nil
 |_,_,n+ 1,.cons _ t=>gM.drop n t
def rA:Option V->Option Value->Prop
 |some v,some u=>gR v u
 |none,none=>True
 |_,_=>False
def KV {κ:Type}:List (κ×V)->List (κ×Value)->Prop:=Paired fun(p:κ×V) (q:κ×Value)=>p.1=q.1/\gR p.2 q.2
def kV:Key->V
 | .inl i=> .int i
 | .inr x=> .str x
inductive HO where
 |lst (xs:List V)
 |tup (xs:List V)
 |dK (kvs:List (Key×V))|dT (kvs:List (List Key×V))
 |set (S:Int->Bool) (n:Nat)
 |ins (C dx:Addr) (fs:List (Str×V))
 |own (x:Addr)
 |xd (fs:List (Str×V))
 |met (f x:Addr)
 |rng (lo hi:Int)
 |frz (o:Obj) (u:HO)
 |tbl (ps:Array Value)
 |ext (φ:Heap->Prop)
abbrev Hp:=Addr->Option HO
def uh (h:Heap) (a:Addr) (items:Array Value):Prop:=∃o,h.get? a=some o/\o.cls= .type "tuple"/\∃n,o.data= .seq items n/\o.dict=none
theorem uh.tup {h:Heap} {a:Addr} {items:Array Value}:uh h a items->IsTup h a items
 |⟨o,h1,h2,n,h3,_⟩=>⟨o,h1,h2,n,h3⟩
theorem uh.lt {h:Heap} {a:Addr} {items:Array Value} (p:uh h a items):a<h.objs.size:=by
 obtain⟨o,e,_⟩:=p
 exact eE e
theorem uh.new (h:Heap) (items:Array Value):uh (h.push {cls:= .type "tuple",data:= .seq items}) h.objs.size items:=⟨_,eF _ rfl,rfl,_,rfl,rfl⟩
def upd (H:Hp) (a:Addr) (o:HO):Hp:=fun b=>if b=a then some o else H b
theorem eO {H:Hp} {a:Addr} {o:HO}:upd H a o a=some o:=by unfold upd;rw[fY rfl]
theorem eT {H:Hp} {a b:Addr} {o:HO} (h:b≠a):upd H a o b=H b:=by unfold upd;rw[fN h]
theorem gb {H:Hp} {a:Addr} {o u:HO}:upd (upd H a o) a u=upd H a u:=by
 funext b;unfold upd;split<;>rfl
theorem jm {H:Hp} {a b:Addr} {o u:HO} (h:H a=some o) (h':H b=some u) (d:o≠u):a≠b:=by
 intro e;subst e;rw[h]at h';exact d (cx.inj h')
theorem eY {H:Hp} {a b:Addr} {o:HO} (h:H a=some o) (h':H b=none):a≠b:=by
 intro e;subst e;rw[h]at h';cases h'
section
variable (P:Program) (w:World)
def g0 (H:Hp) (h:Heap) (a:Addr):HO->Prop
 | .lst xs=>xs.length<=sizeLine/\∃(its:List Value) (n:Nat),gM xs its/\h.get? a=some {cls:= .type "list",data:= .seq its.toArray n}
 | .tup xs=>xs.length<=sizeLine/\∃its:List Value,gM xs its/\uh h a its.toArray
 | .dK kvs=>kvs.length<=sizeLine/\(a==sysModules)=false/\∃vs,KV kvs vs/\h.DictOf (iK P w) a vs
 | .dT kvs=>kvs.length<=sizeLine/\(a==sysModules)=false/\∃xs:List (List Key×Addr×Value),
   Paired (fun(p:List Key×V) (q:List Key×Addr×Value)=>p.1=q.1/\H q.2.1=some (.tup (p.1.map kV))/\gR p.2 q.2.2) kvs xs/\
   ∃o es ep,h.get? a=some o/\o.ExactDict/\o.data= .dict es ep/\es.toList=xs.map (entryOfKey (tupleKind (iK P w)))/\(xs.map (·.1)).Nodup
 | .set S n=>h.SetOf (intKind P w) a S n
 | .ins C dx fs=>H dx=some (.own a)/\fs.length<=1000/\dx≠a/\h.get? a=some (cC C dx)/\
   ∃mA,h.Ns1 dx mA/\(∀f,rA (fs.lookup f) (mA f))/\PySem.Within mA (fs.map (·.1))
 | .own _=>∃o,h.get? a=some o
 | .xd fs=>∃mA,h.Ns1 a mA/\∀f,rA (fs.lookup f) (mA f)
 | .rng lo hi=>∃t u v,h.get? a=some {cls:= .type "range",data:= .fields #[.int lo t,.int hi u,.int 1 v]}
 | .frz o u=>h.get? a=some o/\g0 H h a u
 | .tbl ps=>h.get? a=some {cls:= .none,data:= .fields ps}
 | .met f x=>h.get? a=some (cD (.ref f) (.ref x))
 | .ext φ=>φ h/\(∃o,h.get? a=some o)/\∀h1 h2:Heap,φ h1->(∀o,h1.get? a=some o->h2.get? a=some o)->φ h2
def HOk (H:Hp) (h:Heap):Prop:=∀a o,H a=some o->g0 P w H h a o
end
section
variable {P:Program} {w:World} {H H':Hp} {h h':Heap} {a:Addr} {o:HO}
theorem g0.lt (x:g0 P w H h a o):a<h.objs.size:=by
 cases o with
 |lst xs=>obtain⟨_,_,_,_,e⟩:=x;exact eE e
 |tup xs=>obtain⟨_,_,_,p⟩:=x;exact p.lt
 |dK kvs=>obtain⟨_,_,_,_,o,_,_,e,_⟩:=x;exact eE e
 |dT kvs=>obtain⟨_,_,_,_,o,_,_,e,_⟩:=x;exact eE e
 |set S n=>obtain⟨o,_,_,_,e,_⟩:=x;exact eE e
 |ins C dx fs=>obtain⟨_,_,_,e,_⟩:=x;exact eE e
 |own y=>obtain⟨_,e⟩:=x;exact eE e
 |xd fs=>obtain⟨_,⟨_,_,_,e,_⟩,_⟩:=x;exact eE e
 |rng lo hi=>obtain⟨_,_,_,e⟩:=x;exact eE e
 |frz ob u=>obtain⟨e,_⟩:=x;exact eE e
 |tbl ps=>exact eE (show h.get? a=some _ from x)
 |met f y=>exact eE (show h.get? a=some _ from x)
 |ext φ=>obtain⟨_,⟨_,e⟩,_⟩:=x;exact eE e
theorem Paired.mapP {α β:Type} {F G:α->β->Prop}:∀{l₁:List α} {l₂:List β},Paired F l₁ l₂->(∀a b,F a b->G a b)->Paired G l₁ l₂
 |_,_,.nil,_=> .nil
 |_,_,.cons r t,f=> .cons (f _ _ r) (Paired.mapP t f)
theorem g0.stay (x:g0 P w H h a o) (k:∀b u,(b=a\/H b=some (.own a))->h.get? b=some u->h'.get? b=some u)
  (ho:∀b,H b=some (.own a)->H' b=some (.own a)) (ht:∀b xs,H b=some (.tup xs)->H' b=some (.tup xs)):g0 P w H' h' a o:=by
 induction o with
 |lst xs=>obtain⟨z,its,n,r,e⟩:=x;exact⟨z,its,n,r,k _ _ (.inl rfl) e⟩
 |tup xs=>obtain⟨z,its,r,ob,e,c⟩:=x;exact⟨z,its,r,ob,k _ _ (.inl rfl) e,c⟩
 |dK kvs=>obtain⟨z,y,vs,r,ob,es,ep,e,c⟩:=x;exact⟨z,y,vs,r,ob,es,ep,k _ _ (.inl rfl) e,c⟩
 |dT kvs=>
  obtain⟨z,y,xs,r,ob,es,ep,e,c⟩:=x
  exact⟨z,y,xs,Paired.mapP r fun p q z=>⟨z.1,ht _ _ z.2.1,z.2.2⟩,ob,es,ep,k _ _ (.inl rfl) e,c⟩
 |set S n=>obtain⟨ob,es,ep,t,e,c⟩:=x;exact⟨ob,es,ep,t,k _ _ (.inl rfl) e,c⟩
 |ins C dx fs=>
  obtain⟨d,z,ne,e,mA,⟨od,es,ep,e2,c⟩,r⟩:=x
  exact⟨ho _ d,z,ne,k _ _ (.inl rfl) e,mA,⟨od,es,ep,k _ _ (.inr d) e2,c⟩,r⟩
 |own y=>obtain⟨ob,e⟩:=x;exact⟨ob,k _ _ (.inl rfl) e⟩
 |xd fs=>obtain⟨mA,⟨od,es,ep,e,c⟩,r⟩:=x;exact⟨mA,⟨od,es,ep,k _ _ (.inl rfl) e,c⟩,r⟩
 |rng lo hi=>obtain⟨t,u,v,e⟩:=x;exact⟨t,u,v,k _ _ (.inl rfl) e⟩
 |frz ob u ih=>obtain⟨e,q⟩:=x;exact⟨k _ _ (.inl rfl) e,ih q⟩
 |tbl ps=>
  have e:h.get? a=some {cls:= .none,data:= .fields ps}:=x
  show h'.get? a=some {cls:= .none,data:= .fields ps}
  exact k a _ (.inl rfl) e
 |met f y=>
  have e:h.get? a=some (cD (.ref f) (.ref y)):=x
  show h'.get? a=some (cD (.ref f) (.ref y))
  exact k a _ (.inl rfl) e
 |ext φ=>obtain⟨p,⟨o,e⟩,st⟩:=x;exact⟨st _ _ p fun o q=>k _ _ (.inl rfl) q,⟨o,k _ _ (.inl rfl) e⟩,st⟩
theorem HOk.lt (x:HOk P w H h) (e:H a=some o):a<h.objs.size:=(x a o e).lt
theorem HOk.fresh (x:HOk P w H h) (e:h.objs.size<=a):H a=none:=by
 cases q:H a with
 |none=>rfl
 |some u=>exact absurd (bX (x.lt q) e) (bY _)
theorem HOk.kept (x:HOk P w H h) (k:∀b u,h.get? b=some u->h'.get? b=some u):HOk P w H h':=fun a o e=>
 (x a o e).stay (fun b u _ q=>k b u q) (fun _ q=>q) fun _ _ q=>q
theorem HOk.laid (x:HOk P w H h) (k:∀b u,h.get? b=some u->h'.get? b=some u) (hp:h.objs.size<=a) (new:g0 P w (upd H a o) h' a o):HOk P w (upd H a o) h':=fun b u e=>by
 have hn:=x.fresh hp
 by_cases hb:b=a
 ·subst hb;rw[eO]at e;cases e;exact new
 ·rw[eT hb]at e
  exact(x b u e).stay (fun c v _ q=>k c v q) (fun c q=>by rw[eT (eY q hn)];exact q) fun c xs q=>by rw[eT (eY q hn)];exact q
end
def Rd (H:Hp) (a:Addr) (u:HO):Prop:=H a=some u\/∃o,H a=some (.frz o u)
theorem Rd.ok {P:Program} {w:World} {H:Hp} {h:Heap} {a:Addr} {u:HO} (r:Rd H a u) (x:HOk P w H h):g0 P w H h a u:=by
 rcases r with r|⟨o,r⟩
 ·exact x a u r
 ·obtain⟨_,q⟩:=x a _ r
  exact q
def Mut:Option HO->Prop
 |some (.lst _)=>True
 |some (.dK _)=>True
 |some (.dT _)=>True
 |some (.set _ _)=>True
 |some (.ins _ _ _)=>True
 |some (.ext _)=>True
 |_=>False
section
variable {P:Program} {w:World} {H:Hp} {h h':Heap} {x e:Addr} {o':HO}
theorem HOk.write (ok:HOk P w H h) (mu:Mut (H x)) (he:e=x\/H e=some (.own x)) (k:∀b u,b≠e->h.get? b=some u->h'.get? b=some u) (heo:∃u,h'.get? e=some u)
  (new:g0 P w (upd H x o') h' x o'):HOk P w (upd H x o') h':=fun b u q=>by
 have nown:∀c y,H c=some (.own y)->c≠x:=fun c y r z=>by subst z;rw[r]at mu;exact mu
 have ntup:∀c xs,H c=some (.tup xs)->c≠x:=fun c xs r z=>by subst z;rw[r]at mu;exact mu
 by_cases hb:b=x
 ·subst hb;rw[eO]at q;cases q;exact new
 ·rw[eT hb]at q
  by_cases hbe:b=e
  ·have q':H b=some (.own x):=by
    rcases he with z|z
    ·exact absurd (hbe.trans z) hb
    ·rw[hbe];exact z
   rw[q]at q';cases q'
   obtain⟨v,hv⟩:=heo
   exact⟨v,by rw[hbe];exact hv⟩
  ·refine(ok b u q).stay (fun c v hc r=>k c v ?_ r) (fun c r=>by rw[eT (nown c b r)];exact r) fun c xs r=>by rw[eT (ntup c xs r)];exact r
   rcases hc with rfl|hc
   ·exact hbe
   ·rintro rfl
    rcases he with z|z
    ·exact nown c b hc z
    ·rw[hc]at z;cases z;exact hb rfl
end
structure Un (fs ex:List Addr) (H H':Hp) (h h':Heap):Prop where
 keep:∀b o,h.get? b=some o->H b=none->b∉fs->b∉ex->h'.get? b=some o
 slot:∀b o,h.get? b=some o->H b=none->b∈fs->b∉ex->∃sl,h'.get? b=some {o with slots:=sl}
 free:∀b o,h.get? b=some o->H b=none->b∉ex->H' b=none
 there:∀b o,h.get? b=some o->b∉ex->∃o',h'.get? b=some o'
 tups:∀b xs,H b=some (.tup xs)->H' b=some (.tup xs)
 frzs:∀b o u,H b=some (.frz o u)->H' b=some (.frz o u)
 tbls:∀b ps,H b=some (.tbl ps)->∃more,H' b=some (.tbl (ps++more))
section
variable {fs fs' ex ex':List Addr} {H H1 H2:Hp} {h h1 h2 h':Heap} {a x e:Addr} {o:HO}
theorem Un.any (u:Un fs ex H H1 h h1) {b:Addr} {ob:Obj} (q:h.get? b=some ob) (n:H b=none) (hx:b∉ex):∃sl,h1.get? b=some {ob with slots:=sl}:=by
 by_cases hb:b∈fs
 ·exact u.slot b ob q n hb hx
 ·exact⟨ob.slots,u.keep b ob q n hb hx⟩
theorem Un.trans (a:Un fs ex H H1 h h1) (b:Un fs ex H1 H2 h1 h2):Un fs ex H H2 h h2 where
 keep:=fun c ob q n hc hx=>b.keep c ob (a.keep c ob q n hc hx) (a.free c ob q n hx) hc hx
 slot:=fun c ob q n hc hx=>by
  obtain⟨sl,e1⟩:=a.slot c ob q n hc hx
  obtain⟨sl',e2⟩:=b.slot c _ e1 (a.free c ob q n hx) hc hx
  exact⟨sl',e2⟩
 free:=fun c ob q n hx=>by
  obtain⟨o',e1⟩:=a.there c ob q hx
  exact b.free c o' e1 (a.free c ob q n hx) hx
 there:=fun c ob q hx=>by
  obtain⟨o',e1⟩:=a.there c ob q hx
  exact b.there c o' e1 hx
 tups:=fun c xs q=>b.tups c xs (a.tups c xs q)
 frzs:=fun c ob xs q=>b.frzs c ob xs (a.frzs c ob xs q)
 tbls:=fun c ps q=>by
  obtain⟨m1,e1⟩:=a.tbls c ps q
  obtain⟨m2,e2⟩:=b.tbls c _ e1
  exact⟨m1++m2,by rw[e2,Array.append_assoc]⟩
theorem Un.kept (k:∀b u,h.get? b=some u->h'.get? b=some u):Un fs ex H H h h':=
 ⟨fun b ob q _ _ _=>k b ob q,fun b ob q _ _ _=>⟨ob.slots,k b ob q⟩,fun _ _ _ n _=>n,fun b ob q _=>⟨ob,k b ob q⟩,fun _ _ q=>q,fun _ _ _ q=>q,fun _ ps q=>⟨#[],by rw[q];simp⟩⟩
theorem Un.refl:Un fs ex H H h h:=Un.kept fun _ _ q=>q
theorem Un.laid (k:∀b u,h.get? b=some u->h'.get? b=some u) (hp:h.objs.size<=a) (hn:H a=none):Un fs ex H (upd H a o) h h' where
 keep:=fun b u q _ _ _=>k b u q
 slot:=fun b u q _ _ _=>⟨u.slots,k b u q⟩
 free:=fun b u q n _=>by rw[eT (bZ (bX (eE q) hp))];exact n
 there:=fun b u q _=>⟨u,k b u q⟩
 tups:=fun b xs q=>by rw[eT (eY q hn)];exact q
 frzs:=fun b u xs q=>by rw[eT (eY q hn)];exact q
 tbls:=fun b ps q=>⟨#[],by rw[eT (eY q hn),q];simp⟩
theorem Un.write (mu:Mut (H x)) (he:e=x\/H e=some (.own x)) (k:∀b u,b≠e->h.get? b=some u->h'.get? b=some u) (heo:∃u,h'.get? e=some u):Un fs ex H (upd H x o) h h':=by
 have hx:∀b,H b=none->b≠x:=fun b n z=>by subst z;rw[n]at mu;exact mu
 have hb:∀b,H b=none->b≠e:=fun b n z=>by
  subst z
  rcases he with r|r
  ·exact hx b n r
  ·rw[n]at r;cases r
 have hm:∀b u,H b=some u->¬Mut (some u)->b≠x:=fun b u q nm z=>by subst z;rw[q]at mu;exact nm mu
 refine⟨fun b u q n _ _=>k b u (hb b n) q,fun b u q n _ _=>⟨u.slots,k b u (hb b n) q⟩,fun b u q n _=>by rw[eT (hx b n)];exact n,fun b u q _=>?_,
  fun b xs q=>by rw[eT (hm b _ q fun z=>z)];exact q,fun b u xs q=>by rw[eT (hm b _ q fun z=>z)];exact q,fun b ps q=>⟨#[],by rw[eT (hm b _ q fun z=>z),q];simp⟩⟩
 by_cases hbe:b=e
 ·subst hbe;exact heo
 ·exact⟨u,k b u hbe q⟩
end
def trk (h:Heap) (H:Hp):List Addr:=(aa h.objs.size).filter fun a=>(H a).isSome
def zH (h:Heap) (H:Hp):Heap:=PySem.W.hideAll h (trk h H)
theorem xp (h:Heap) (H:Hp):(zH h H).objs.size=h.objs.size:=PySem.W.hideAll_size _ _
theorem zI {h:Heap} {H:Hp} {b:Addr} {o:Obj} (e:h.get? b=some o) (n:H b=none):(zH h H).get? b=some o:=
 PySem.W.hideAll_get _ e fun hm=>by
  have q:(H b).isSome=true:=(List.mem_filter.mp hm).2
  rw[n]at q;simp at q
theorem BK {h:Heap} {H:Hp} {b:Addr} {o:Obj} (e:(zH h H).get? b=some o):h.get? b=some o/\H b=none:=by
 have e':h.get? b=some o:=PySem.W.of_hideAll (trk h H) e
 refine⟨e',?_⟩
 cases q:H b with
 |none=>rfl
 |some x=>
  have hm:b∈trk h H:=List.mem_filter.mpr ⟨ae.mpr (eE e'),by simp[q]⟩
  have z:(zH h H).get? b=none:=PySem.W.hideAll_none (trk h H) hm
  rw[z]at e;cases e
structure Mod (K:PySem.W.Frag) (mg:Str->Option Value) (base:Heap):Prop where
 kin:K.In base
 glob:base.Ns mainGlobals mg
 blt:∃mb,base.Ns builtinsNs mb/\∀x:Str,x≠"__name__"->mb x=bootBuiltins x
 nolimit:base.NoLimit
structure Cx where
 prog:Program
 w:World
 K:PySem.W.Frag
 mg:Str->Option Value
 base:Heap
 A:Around
 N:List Str
 s₀:Shared
 H₀:Hp
 env:Env
 outer:List Env
 stack:List Env
 ex:List Addr
 fn:Str->Bool
 calm:Bool
 pn:List (Addr×Obj)
 xe:Value->Shared->Prop
def frs (l:List Env):List Addr:=l.filterMap (·.frame)
abbrev Cx.fs (X:Cx):List Addr:=frs X.outer
def Vis (sc:Scope) (x:Str):Prop:=sc.names.lookup x=some .local\/sc.names.lookup x=some .cell\/sc.names.lookup x=some .free
def Loc (sc:Scope) (x:Str):Prop:=sc.names.lookup x=some .local\/sc.names.lookup x=some .cell
def Look (env:Env) (h:Heap) (m:Str->Option Value) (x:Str) (u:Value):Prop:=
 (env.kindOf x=some .local/\m x=some u)\/((env.kindOf x=some .cell\/env.kindOf x=some .free)/\∃c,env.cells.lookup x=some c/\h.IsCell c (some u))
structure Cx.Ok (X:Cx):Prop where
 mod:Mod X.K X.mg X.base
 kind:X.env.scope.kind= .function
 glob:X.env.globals=mainGlobals
 blt:X.env.builtins=builtinsNs
 above:X.s₀.heap.objs.size<=X.env.locals
 inj:∀x y c,X.env.cells.lookup x=some c->X.env.cells.lookup y=some c->x=y
 has:∀x,(X.env.kindOf x=some .cell\/X.env.kindOf x=some .free)->∃c,X.env.cells.lookup x=some c
 cab:∀x c,X.fn x=true->X.env.cells.lookup x=some c->X.s₀.heap.objs.size<=c
 hd:X.calm=true->X.A.handled=none
 frames:X.A.frames=some X.stack
 stk:X.stack=X.outer\/(X.stack=X.env::X.outer/\X.env.frame=some X.env.locals)
 exf:∀b∈X.ex,b≠X.env.locals/\∀x c,X.env.cells.lookup x=some c->c≠b
 bs:∀b o,X.base.get? b=some o->X.s₀.heap.get? b=some o/\X.H₀ b=none
 bsz:X.base.objs.size<=X.s₀.heap.objs.size
 noex:∀b o,X.base.get? b=some o->b∉X.ex
 exfs:∀b∈X.ex,b∉X.fs
 funs:X.s₀.heap.FunFrames X.base X.outer
 frf:∀b∈X.fs,X.H₀ b=none
structure Inv (X:Cx) (pz:List (Addr×Obj)) (σ:List (Option V)) (H:Hp) (s:Shared):Prop where
 ok:X.Ok
 os:s.os=X.s₀.os
 bare:AllBare s.gens
 base:Un X.fs X.ex X.H₀ H X.s₀.heap s.heap
 loc:∃m,s.heap.Ns X.env.locals m/\∀(i:Nat) (x:Str) (v:V),X.N[i]?=some x->σ[i]?=some (some v)->Vis X.env.scope x->∃u,gR v u/\Look X.env s.heap m x u
 cell:∀x c,X.env.cells.lookup x=some c->∃v,s.heap.IsCell c v
 free:H X.env.locals=none
 freeC:∀x c,X.env.cells.lookup x=some c->H c=none
 pin:∀p∈X.pn++pz,s.heap.get? p.1=some p.2/\H p.1=none/\p.1≠X.env.locals/\p.1∉X.fs/\∀v,p.2.data≠ .cell v
 hok:HOk X.prog X.w H s.heap
 len:σ.length=X.N.length
section
variable {X:Cx} {pz:List (Addr×Obj)} {σ:List (Option V)} {H H':Hp} {s:Shared} {h':Heap}
theorem Cx.Ok.nofr (ok:X.Ok) {b:Addr} {o:Obj} (e:X.base.get? b=some o):b∉X.fs:=fun hb=>by
 have:=(ok.funs.mem hb).1
 rw[e]at this;cases this
theorem Inv.bs (I:Inv X pz σ H s):∀b o,X.base.get? b=some o->s.heap.get? b=some o/\H b=none:=fun b o e=>
 ⟨I.base.keep b o (I.ok.bs b o e).1 (I.ok.bs b o e).2 (I.ok.nofr e) (I.ok.noex b o e),I.base.free b o (I.ok.bs b o e).1 (I.ok.bs b o e).2 (I.ok.noex b o e)⟩
theorem Inv.bk (I:Inv X pz σ H s):∀b o,X.base.get? b=some o->s.heap.get? b=some o:=fun b o e=>(I.bs b o e).1
theorem Inv.mod (I:Inv X pz σ H s):Mod X.K X.mg X.base:=I.ok.mod
theorem Inv.kIn (I:Inv X pz σ H s):X.K.In s.heap:=I.ok.mod.kin.keeps I.bk
theorem Inv.lt (I:Inv X pz σ H s):X.env.locals<s.heap.objs.size:=let⟨_,hn,_⟩:=I.loc;hn.lt
theorem Inv.sz (I:Inv X pz σ H s):X.s₀.heap.objs.size<=s.heap.objs.size:=b0 I.ok.above (b6 I.lt)
theorem Inv.nofs (I:Inv X pz σ H s) {a:Addr} (h:s.heap.objs.size<=a):a∉X.fs:=fun hb=>by
 obtain⟨_,o,ho,_⟩:=I.ok.funs.mem hb
 exact absurd (bX (eE ho) (b0 I.sz h)) (bY _)
theorem Inv.cne (I:Inv X pz σ H s):∀x c,X.env.cells.lookup x=some c->c≠X.env.locals:=fun x c e z=>by
 obtain⟨v,o,ho,hd⟩:=I.cell x c e
 obtain⟨m,⟨o',es,ep,ho',hd',_⟩,_⟩:=I.loc
 rw[z,ho']at ho;cases ho;rw[hd']at hd;cases hd
theorem Inv.funs (I:Inv X pz σ H s):s.heap.FunFrames X.base X.outer:=by
 have all:∀(l:List Env),(∀b∈frs l,b∈X.fs)->X.s₀.heap.FunFrames X.base l->s.heap.FunFrames X.base l:=by
  intro l
  induction l with
  |nil=>intro _ _;trivial
  |cons env r ih=>
   intro hs hl
   obtain⟨hk,⟨L,o,hf,hn,ho,hd⟩,hr⟩:=hl
   have hL:L∈X.fs:=hs L (by unfold frs;rw[af,hf];exact ag)
   obtain⟨sl,e⟩:=I.base.slot L o ho (I.ok.frf L hL) hL fun z=>I.ok.exfs L z hL
   exact⟨hk,⟨L,_,hf,hn,e,hd⟩,ih (fun b hb=>hs b (by unfold frs;rw[af,hf];exact ai _ hb)) hr⟩
 exact all X.outer (fun _ hb=>hb) I.ok.funs
theorem Inv.stack (I:Inv X pz σ H s):s.heap.FunFrames X.base X.stack:=by
 rcases I.ok.stk with e|⟨e,hf⟩
 ·rw[e];exact I.funs
 ·rw[e]
  obtain⟨m,hn,_⟩:=I.loc
  refine .cons (by rw[I.ok.kind];decide) hf hn ?_ I.funs
  exact Heap.get?_none_of_le (b0 I.ok.bsz I.ok.above)
theorem Inv.stkSub (I:Inv X pz σ H s):∀b∈frs X.stack,b∈X.env.locals::X.fs:=fun b hb=>by
 rcases I.ok.stk with e|⟨e,hf⟩
 ·rw[e]at hb;exact ai _ hb
 ·rw[e]at hb
  unfold frs at hb
  rw[af,hf]at hb
  exact hb
theorem Inv.stkFree (I:Inv X pz σ H s):∀b∈frs X.stack,H b=none:=fun b hb=>by
 rcases aj.mp (I.stkSub b hb)with e|hb
 ·rw[e];exact I.free
 ·obtain⟨_,o,ho,_⟩:=I.ok.funs.mem hb
  exact I.base.free b o ho (I.ok.frf b hb) fun z=>I.ok.exfs b z hb
theorem Inv.step {g':Array GenState} {t':Nat} {d':Drawn} {ch:List Addr} (I:Inv X pz σ H s)
  (hch:∀b∈ch,(b∈X.ex\/X.s₀.heap.objs.size<=b)/\b≠X.env.locals/\(∀x c,X.env.cells.lookup x=some c->c≠b)/\∀p∈X.pn++pz,p.1≠b)
  (keep:∀b o,b≠X.env.locals->b∉X.fs->b∉ch->s.heap.get? b=some o->H b=none->h'.get? b=some o)
  (slot:∀b o,b≠X.env.locals->b∈X.fs->b∉ch->s.heap.get? b=some o->H b=none->∃sl,h'.get? b=some {o with slots:=sl}) (free:∀b o,b∉ch->s.heap.get? b=some o->H b=none->H' b=none)
  (there:∀b o,b∉ch->s.heap.get? b=some o->∃o',h'.get? b=some o')
  (tups:∀b xs,H b=some (.tup xs)->H' b=some (.tup xs)) (frzs:∀b o u,H b=some (.frz o u)->H' b=some (.frz o u)) (tbls:∀b ps,H b=some (.tbl ps)->∃more,H' b=some (.tbl (ps++more)))
  (ns:∀m,s.heap.Ns X.env.locals m->h'.Ns X.env.locals m) (hok:HOk X.prog X.w H' h') (hg:AllBare g'):
  Inv X pz σ H' {s with heap:=h',gens:=g',drawn:=d',toks:=t'}:=by
 have neL:∀b o,X.s₀.heap.get? b=some o->b≠X.env.locals:=fun b o e=>bZ (bX (eE e) I.ok.above)
 have neC:∀b o,X.s₀.heap.get? b=some o->b∉X.ex->b∉ch:=fun b o e hx hb=>by
  rcases(hch b hb).1 with z|z
  ·exact hx z
  ·exact absurd (bX (eE e) z) (bY _)
 have cellK:∀x c,X.env.cells.lookup x=some c->∀v,s.heap.IsCell c v->h'.IsCell c v:=fun x c e v ⟨o,ho,hd⟩=>by
  have nch:c∉ch:=fun z=>(hch c z).2.2.1 x c e rfl
  by_cases hc:c∈X.fs
  ·obtain⟨sl,q⟩:=slot c o (I.cne x c e) hc nch ho (I.freeC x c e)
   exact⟨_,q,hd⟩
  ·exact⟨o,keep c o (I.cne x c e) hc nch ho (I.freeC x c e),hd⟩
 refine⟨I.ok,I.os,hg,⟨fun b o e n hb hx=>?_,fun b o e n hb hx=>?_,fun b o e n hx=>?_,fun b o e hx=>?_,fun b xs e=>tups b xs (I.base.tups b xs e),fun b o xs e=>frzs b o xs (I.base.frzs b o xs e),fun b ps e=>?_⟩,?_,fun x c e=>?_,?_,fun x c e=>?_,fun p hp=>?_,hok,I.len⟩
 ·exact keep b o (neL b o e) hb (neC b o e hx) (I.base.keep b o e n hb hx) (I.base.free b o e n hx)
 ·obtain⟨sl,e1⟩:=I.base.slot b o e n hb hx
  obtain⟨sl',e2⟩:=slot b _ (neL b o e) hb (neC b o e hx) e1 (I.base.free b o e n hx)
  exact⟨sl',e2⟩
 ·obtain⟨o',e1⟩:=I.base.there b o e hx
  exact free b o' (neC b o e hx) e1 (I.base.free b o e n hx)
 ·obtain⟨o',e1⟩:=I.base.there b o e hx
  exact there b o' (neC b o e hx) e1
 ·obtain⟨m1,e1⟩:=I.base.tbls b ps e
  obtain⟨m2,e2⟩:=tbls b _ e1
  exact⟨m1++m2,by rw[e2,Array.append_assoc]⟩
 ·obtain⟨m,hn,hl⟩:=I.loc
  refine⟨m,ns m hn,fun i x v e1 e2 e3=>?_⟩
  obtain⟨u,r,l⟩:=hl i x v e1 e2 e3
  refine⟨u,r,?_⟩
  rcases l with l|⟨k,c,e,z⟩
  ·exact .inl l
  ·exact .inr ⟨k,c,e,cellK x c e _ z⟩
 ·obtain⟨v,z⟩:=I.cell x c e
  exact⟨v,cellK x c e v z⟩
 ·obtain⟨m,⟨o,_,_,ho,_⟩,_⟩:=I.loc
  exact free _ o (fun z=>(hch _ z).2.1 rfl) ho I.free
 ·obtain⟨v,o,ho,hd⟩:=I.cell x c e
  exact free c o (fun z=>(hch c z).2.2.1 x c e rfl) ho (I.freeC x c e)
 ·obtain⟨e,n,ne,nf,d⟩:=I.pin p hp
  have nch:p.1∉ch:=fun z=>(hch p.1 z).2.2.2 p hp rfl
  exact⟨keep p.1 p.2 ne nf nch e n,free p.1 p.2 nch e n,ne,nf,d⟩
theorem Inv.un {t':Nat} (I:Inv X pz σ H s) (u:Un X.fs [] H H' s.heap h') (hok:HOk X.prog X.w H' h'):Inv X pz σ H' {s with heap:=h',toks:=t'}:=by
 obtain⟨m,⟨o,es,ep,ho,r⟩,_⟩:=id I.loc
 obtain⟨sl,hL⟩:=u.any ho I.free (by simp)
 exact I.step (g':=s.gens) (d':=s.drawn) (ch:=[]) (fun _ z=>nomatch z) (fun b o _ hb _ e n=>u.keep b o e n hb (by simp)) (fun b o _ hb _ e n=>u.slot b o e n hb (by simp)) (fun b o _ e n=>u.free b o e n (by simp)) (fun b o _ e=>u.there b o e (by simp)) u.tups u.frzs u.tbls (fun m' hm=>by
  obtain⟨o',es',ep',ho',r'⟩:=hm
  rw[ho]at ho';cases ho'
  exact⟨_,es',ep',hL,r'⟩) hok I.bare
theorem Inv.call {g':Array GenState} {t':Nat} {d':Drawn} {ch:List Addr} (I:Inv X pz σ H s) (u:Un (frs X.stack) ch H H' s.heap h') (hok:HOk X.prog X.w H' h') (hg:AllBare g')
  (hch:∀b∈ch,(b∈X.ex\/X.s₀.heap.objs.size<=b)/\b≠X.env.locals/\(∀x c,X.env.cells.lookup x=some c->c≠b)/\∀p∈X.pn++pz,p.1≠b):
  Inv X pz σ H' {s with heap:=h',gens:=g',drawn:=d',toks:=t'}:=by
 obtain⟨m,⟨o,es,ep,ho,r⟩,_⟩:=id I.loc
 obtain⟨sl,hL⟩:=u.any ho I.free fun z=>(hch _ z).2.1 rfl
 exact I.step (ch:=ch) hch (fun b o hL hb hc e n=>u.keep b o e n (fun z=>(aj.mp (I.stkSub b z)).elim hL hb) hc) (fun b o _ _ hc e n=>u.any e n hc) (fun b o hc e n=>u.free b o e n hc) (fun b o hc e=>u.there b o e hc) u.tups u.frzs u.tbls (fun m' hm=>by
  obtain⟨o',es',ep',ho',r'⟩:=hm
  rw[ho]at ho';cases ho'
  exact⟨_,es',ep',hL,r'⟩) hok hg
theorem Inv.turned {t':Nat} {it:Addr} (I:Inv X pz σ H s) (k:∀b o,b≠it->s.heap.get? b=some o->h'.get? b=some o) (hn:H it=none) (hL:it≠X.env.locals)
  (h1:it∈X.ex\/X.s₀.heap.objs.size<=it) (h2:∀x c,X.env.cells.lookup x=some c->c≠it) (h3:∀p∈X.pn++pz,p.1≠it):Inv X pz σ H {s with heap:=h',toks:=t'}:=by
 have nit:∀b u,H b=some u->b≠it:=fun b u e z=>by rw[z,hn]at e;cases e
 refine I.step (g':=s.gens) (d':=s.drawn) (ch:=[it]) (fun b hb=>?_) (fun b o _ _ hc e _=>k b o (fun z=>hc (by simp[z])) e) (fun b o _ _ hc e _=>⟨o.slots,k b o (fun z=>hc (by simp[z])) e⟩) (fun _ _ _ _ n=>n)
  (fun b o hc e=>⟨o,k b o (fun z=>hc (by simp[z])) e⟩) (fun _ _ e=>e) (fun _ _ _ e=>e) (fun b ps e=>⟨#[],by rw[e];simp⟩) (fun m hm=>?_) (fun b u e=>?_) I.bare
 ·have e:b=it:=by simpa using hb
  subst e
  exact⟨h1,hL,h2,h3⟩
 ·obtain⟨o,es,ep,ho,r⟩:=hm
  exact⟨o,es,ep,k _ o (Ne.symm hL) ho,r⟩
 ·refine(I.hok b u e).stay (fun c v hc q=>k c v ?_ q) (fun _ q=>q) fun _ _ q=>q
  rcases hc with z|z
  ·rw[z];exact nit b u e
  ·exact nit c _ z
theorem Inv.tok (I:Inv X pz σ H s) (t:Nat):Inv X pz σ H {s with toks:=t}:=I.un (h':=s.heap) (t':=t) Un.refl I.hok
theorem Inv.kept {t':Nat} (I:Inv X pz σ H s) (k:∀b u,s.heap.get? b=some u->h'.get? b=some u):Inv X pz σ H {s with heap:=h',toks:=t'}:=I.un (Un.kept k) (I.hok.kept k)
theorem Inv.laid {a:Addr} {o:HO} {t':Nat} (I:Inv X pz σ H s) (k:∀b u,s.heap.get? b=some u->h'.get? b=some u) (hp:s.heap.objs.size<=a) (new:g0 X.prog X.w (upd H a o) h' a o):
  Inv X pz σ (upd H a o) {s with heap:=h',toks:=t'}:=I.un (Un.laid k hp (I.hok.fresh hp)) (I.hok.laid k hp new)
theorem Inv.write {x e:Addr} {o:HO} {t':Nat} (I:Inv X pz σ H s) (mu:Mut (H x)) (he:e=x\/H e=some (.own x)) (k:∀b u,b≠e->s.heap.get? b=some u->h'.get? b=some u) (heo:∃u,h'.get? e=some u)
  (new:g0 X.prog X.w (upd H x o) h' x o):Inv X pz σ (upd H x o) {s with heap:=h',toks:=t'}:=I.un (Un.write mu he k heo) (I.hok.write mu he k heo new)
theorem Inv.pins_of {pins':List (Addr×Obj)} (I:Inv X pz σ H s) (h:∀p∈pins',s.heap.get? p.1=some p.2/\H p.1=none/\p.1≠X.env.locals/\p.1∉X.fs/\∀v,p.2.data≠ .cell v):Inv X pins' σ H s:=
 ⟨I.ok,I.os,I.bare,I.base,I.loc,I.cell,I.free,I.freeC,fun p hp=>(ak.mp hp).elim (fun z=>I.pin p (ao _ z)) (h p),I.hok,I.len⟩
theorem u9 {N:List Str} (hN:N.Nodup) {i j:Nat} {x:Str} (a:N[i]?=some x) (b:N[j]?=some x):i=j:=by
 obtain⟨h1,e1⟩:=aq.mp a
 obtain⟨h2,e2⟩:=aq.mp b
 exact(List.getElem_inj hN).mp (e1.trans e2.symm)
theorem xq {M:Model} {A:Around} {E:Value->Shared->Prop} {i:Nat} {x:Str} {v:V} {u:Value} {Q:Unit->Shared->Prop} (I:Inv X pz σ H s) (hN:X.N.Nodup) (hi:X.N[i]?=some x) (hx:Loc X.env.scope x) (r:gR v u)
  (h:∀s',Inv X pz (σ.set i (some v)) H s'->(∃a,Heap.SameBut a s.heap s'.heap/\(a=X.env.locals\/X.env.cells.lookup x=some a))->Q () s') (hf:autoParam (X.fn x=true\/X.env.scope.names.lookup x=some .local) L2.Internal.auL._auto_1):wpAny M A (storeName X.env x u) Q E s:=by
 obtain⟨m,hn,hl⟩:=id I.loc
 have hcls:(X.env.scope.kind== .class||(X.env.scope.kind== .module&&X.env.locals !=X.env.globals))=false:=by rw[I.ok.kind];rfl
 have hiσ:i<σ.length:=by rw[I.len];exact(aq.mp hi).1
 have cne:=I.cne
 have tracked:∀{a:Addr} {h':Heap},(∃o,s.heap.get? a=some o/\H a=none)->Heap.SameBut a s.heap h'->HOk X.prog X.w H h':=fun{a h'} ha hs b ob e=>by
  obtain⟨_,_,hfree⟩:=ha
  refine(I.hok b ob e).stay (fun c w' hc q=>(hs.2 c ?_).trans q) (fun _ q=>q) fun _ _ q=>q
  rintro rfl
  rcases hc with rfl|hc
  ·rw[hfree]at e;cases e
  ·rw[hfree]at hc;cases hc
 rcases hx with hk|hk
 ·refine wpAny_storeName_local hk hn (fun h' hn' hs=>?_) hcls
  obtain⟨oL,_,_,hoL,_⟩:=id hn
  refine h _ ⟨I.ok,I.os,I.bare,⟨fun b o e n hb hx=>?_,fun b o e n hb hx=>?_,I.base.free,fun b o e hx=>?_,I.base.tups,I.base.frzs,I.base.tbls⟩,⟨_,hn',fun j y v' e1 e2 e3=>?_⟩,fun y c e=>?_,I.free,I.freeC,fun p hp=>?_,tracked ⟨oL,hoL,I.free⟩ hs,by simpa using I.len⟩ ⟨_,hs,.inl rfl⟩
  ·exact(hs.2 b (bZ (bX (eE e) I.ok.above))).trans (I.base.keep b o e n hb hx)
  ·obtain⟨sl,e1⟩:=I.base.slot b o e n hb hx
   exact⟨sl,(hs.2 b (bZ (bX (eE e) I.ok.above))).trans e1⟩
  ·obtain⟨o',e1⟩:=I.base.there b o e hx
   exact⟨o',(hs.2 b (bZ (bX (eE e) I.ok.above))).trans e1⟩
  ·by_cases hj:j=i
   ·subst hj
    rw[hi]at e1;cases e1
    rw[ar hiσ]at e2
    cases e2
    exact⟨u,r,.inl ⟨hk,by simp⟩⟩
   ·rw[av (Ne.symm hj)]at e2
    obtain⟨u',r',q⟩:=hl j y v' e1 e2 e3
    refine⟨u',r',?_⟩
    rcases q with⟨k,e⟩|⟨k,c,e,z⟩
    ·refine .inl ⟨k,?_⟩
     have:y≠x:=fun e=>hj (u9 hN e1 (e▸hi))
     simp[this,e]
    ·exact .inr ⟨k,c,e,z.sameBut hs (cne y c e)⟩
  ·obtain⟨w',z⟩:=I.cell y c e
   exact⟨w',z.sameBut hs (cne y c e)⟩
  ·obtain⟨e,n,ne,nf,d⟩:=I.pin p hp
   exact⟨(hs.2 p.1 ne).trans e,n,ne,nf,d⟩
 ·have hfn:X.fn x=true:=by
   rcases hf with z|z
   ·exact z
   ·rw[z]at hk;cases hk
  obtain⟨c,hc⟩:=I.ok.has x (.inl hk)
  obtain⟨w',z⟩:=I.cell x c hc
  refine wpAny_storeName_cell I.ok.kind hk hc z (fun h' hc' hs=>?_)
  obtain⟨oc,hoc,hocd⟩:=id z
  refine h {s with heap:=h'} ⟨I.ok,I.os,I.bare,⟨fun b o e n hb hx=>?_,fun b o e n hb hx=>?_,I.base.free,fun b o e hx=>?_,I.base.tups,I.base.frzs,I.base.tbls⟩,⟨m,hn.sameBut hs (Ne.symm (cne x c hc)),fun j y v' e1 e2 e3=>?_⟩,fun y c' e=>?_,I.free,I.freeC,fun p hp=>?_,tracked ⟨oc,hoc,I.freeC x c hc⟩ hs,by simpa using I.len⟩ ⟨c,hs,.inr hc⟩
  ·exact(hs.2 b (bZ (bX (eE e) (I.ok.cab x c hfn hc)))).trans (I.base.keep b o e n hb hx)
  ·obtain⟨sl,e1⟩:=I.base.slot b o e n hb hx
   exact⟨sl,(hs.2 b (bZ (bX (eE e) (I.ok.cab x c hfn hc)))).trans e1⟩
  ·obtain⟨o',e1⟩:=I.base.there b o e hx
   exact⟨o',(hs.2 b (bZ (bX (eE e) (I.ok.cab x c hfn hc)))).trans e1⟩
  ·by_cases hj:j=i
   ·subst hj
    rw[hi]at e1;cases e1
    rw[ar hiσ]at e2
    cases e2
    exact⟨u,r,.inr ⟨.inl hk,c,hc,hc'⟩⟩
   ·rw[av (Ne.symm hj)]at e2
    obtain⟨u',r',q⟩:=hl j y v' e1 e2 e3
    refine⟨u',r',?_⟩
    rcases q with q|⟨k,c',e,z'⟩
    ·exact .inl q
    ·refine .inr ⟨k,c',e,z'.sameBut hs ?_⟩
     rintro rfl
     exact hj (u9 hN e1 (I.ok.inj _ _ _ e hc▸hi))
  ·by_cases hcc:c'=c
   ·subst hcc;exact⟨_,hc'⟩
   ·obtain⟨w2,z2⟩:=I.cell y c' e
    exact⟨w2,z2.sameBut hs hcc⟩
  ·obtain⟨e,n,ne,nf,d⟩:=I.pin p hp
   refine⟨(hs.2 p.1 ?_).trans e,n,ne,nf,d⟩
   intro q
   rw[q,hoc]at e
   have q':oc=p.2:=cx.inj e
   exact d w' (by rw[<-q'];exact hocd)
theorem oY {M:Model} {A:Around} {E:Value->Shared->Prop} {i:Nat} {x:Str} {v:V} {u:Value} {Q:Unit->Shared->Prop} (I:Inv X pz σ H s) (hN:X.N.Nodup) (hi:X.N[i]?=some x) (hx:Loc X.env.scope x) (r:gR v u)
  (h:∀s',Inv X pz (σ.set i (some v)) H s'->Q () s') (hf:autoParam (X.fn x=true\/X.env.scope.names.lookup x=some .local) L2.Internal.auL._auto_1):wpAny M A (storeName X.env x u) Q E s:=
 xq I hN hi hx r (fun s' I' _=>h s' I') hf
theorem Inv.call' {s':Shared} {ch:List Addr} (I:Inv X pz σ H s) (ho:s'.os=s.os) (u:Un (frs X.stack) ch H H' s.heap s'.heap) (hok:HOk X.prog X.w H' s'.heap) (hg:AllBare s'.gens)
  (hch:∀b∈ch,(b∈X.ex\/X.s₀.heap.objs.size<=b)/\b≠X.env.locals/\(∀x c,X.env.cells.lookup x=some c->c≠b)/\∀p∈X.pn++pz,p.1≠b):Inv X pz σ H' s':=by
 obtain⟨h',g',d',t',o'⟩:=s'
 have e:o'=s.os:=ho
 subst e
 exact I.call (g':=g') (t':=t') (d':=d') u hok hg hch
end
abbrev XK:=Value->Option Addr->Hp->Prop
abbrev St:=List (Option V)
abbrev VK:=V->Hp->Prop
abbrev TE:=St->Hp->VK->Prop
abbrev TT:=St->Hp->(Bool->Hp->Prop)->Prop
abbrev TA:=St->Hp->(List V->Hp->Prop)->Prop
structure nH where
 nx:St->Hp->Prop
 rt:VK
 bk:St->Hp->Prop:=fun _ _=>False
 ct:St->Hp->Prop:=fun _ _=>False
abbrev TS:=nH->St->Hp->Prop
def EP (X:Cx) (pz:List (Addr×Obj)) (σ:St) (Q:VK) (u:Value) (s':Shared):Prop:=∃v H',Inv X pz σ H' s'/\gR v u/\Q v H'
def TP (X:Cx) (pz:List (Addr×Obj)) (σ:St) (Q:Bool->Hp->Prop) (b:Bool) (s':Shared):Prop:=∃H',Inv X pz σ H' s'/\Q b H'
def AP (X:Cx) (pz:List (Addr×Obj)) (σ:St) (Q:List V->Hp->Prop) (us:List Value) (s':Shared):Prop:=∃vs H',Inv X pz σ H' s'/\gM vs us/\Q vs H'
def SP (X:Cx) (pz:List (Addr×Obj)) (D:nH) (f:Flow) (s':Shared):Prop:=
 match f with
 | .next=>∃σ' H',Inv X pz σ' H' s'/\D.nx σ' H'
 | .brk=>∃σ' H',Inv X pz σ' H' s'/\D.bk σ' H'
 | .cont=>∃σ' H',Inv X pz σ' H' s'/\D.ct σ' H'
 | .ret u=>∃v σ' H',Inv X pz σ' H' s'/\gR v u/\D.rt v H'
def PE (X:Cx) (e:Expr) (t:TE):Prop:=
 ∀(pz:List (Addr×Obj)) (s:Shared) (σ:St) (H:Hp) (Q:VK),Inv X pz σ H s->t σ H Q->wpAny (model X.prog X.w) X.A (eval e X.env) (EP X pz σ Q) X.xe s
def PT (X:Cx) (e:Expr) (t:TT):Prop:=
 ∀(pz:List (Addr×Obj)) (s:Shared) (σ:St) (H:Hp) (Q:Bool->Hp->Prop),Inv X pz σ H s->t σ H Q->wpAny (model X.prog X.w) X.A (isTrue e X.env (eval e X.env)) (TP X pz σ Q) X.xe s
def PW (X:Cx) (e:Expr) (t:TT):Prop:=
 ∀(whole:Sem Value) (pz:List (Addr×Obj)) (s:Shared) (σ:St) (H:Hp) (Q:Bool->Hp->Prop),Inv X pz σ H s->t σ H Q->wpAny (model X.prog X.w) X.A (isTrue e X.env whole) (TP X pz σ Q) X.xe s
theorem PW.pt {X:Cx} {e:Expr} {t:TT} (h:PW X e t):PT X e t:=h _
def PA (X:Cx) (es:List Expr) (t:TA):Prop:=
 ∀(pos:Pos) (pz:List (Addr×Obj)) (s:Shared) (σ:St) (H:Hp) (Q:List V->Hp->Prop),Inv X pz σ H s->t σ H Q->wpAny (model X.prog X.w) X.A (spliced (backTo pos (starEach es X.env))) (AP X pz σ Q) X.xe s
def PS (X:Cx) (st:Stmt) (t:TS):Prop:=
 ∀(pz:List (Addr×Obj)) (s:Shared) (σ:St) (H:Hp) (D:nH),Inv X pz σ H s->t D σ H->wpAny (model X.prog X.w) X.A (exec st X.env) (SP X pz D) X.xe s
def PSs (X:Cx) (st:List Stmt) (t:TS):Prop:=
 ∀(pz:List (Addr×Obj)) (s:Shared) (σ:St) (H:Hp) (D:nH),Inv X pz σ H s->t D σ H->wpAny (model X.prog X.w) X.A (execs st X.env) (SP X pz D) X.xe s
theorem thn {α:Type} {t:Sem α} {Q Q':α->Shared->Prop} {M:Model} {A:Around} {E:Value->Shared->Prop} {s:Shared} (h:wpAny M A t Q E s) (hQ:∀a s,Q a s->Q' a s):wpAny M A t Q' E s:=wpAny_mono h hQ fun _ _ x=>x
section
variable {X:Cx}
def GS (i:Nat):TE:=fun σ H Q=>∃v,σ[i]?=some (some v)/\Q v H
def tC (v:V):TE:=fun _ H Q=>Q v H
theorem Dr {i:Nat} {x:Str} {pos:Pos} (hN:X.N[i]?=some x) (hv:Vis X.env.scope x) (hd:autoParam ((x==("__debug__":Str))=false) L2.Internal.auD._auto_1) (hcd:autoParam ((x==("__classdict__":Str))=false) L2.Internal.auD._auto_1):PE X (.Name x pos) (GS i):=by
 intro pz s σ H Q I h
 obtain⟨v,e,h⟩:=h
 obtain⟨m,hn,hl⟩:=I.loc
 obtain⟨u,r,l⟩:=hl i x v hN e hv
 have fin:EP X pz σ Q u s:=⟨v,H,I,r,h⟩
 rcases l with⟨hk,hm⟩|⟨hk,c,hc,hcell⟩
 ·exact wpAny_Name (wpAny_loadName_local I.ok.kind hk hn hm fin) hd
 ·rcases hk with hk|hk
  ·exact wpAny_Name (wpAny_loadName_cell I.ok.kind hk hc hcell fin) hd
  ·exact wpAny_Name (wpAny_loadName_free I.ok.kind hk hc hcell fin hcd) hd
theorem eR {i j pos}:PE X (.Constant (.int i) j pos) (tC (.int i)):=fun _ _ _ H _ I h=>wpAny_Constant_int ⟨.int i,H,I.tok _,⟨_,rfl⟩,h⟩
theorem wb {b j pos}:PE X (.Constant (.bool b) j pos) (tC (.bl b)):=fun _ _ _ H _ I h=>Constant_bool ⟨.bl b,H,I,rfl,h⟩
theorem xr {j pos}:PE X (.Constant .none j pos) (tC .non):=fun _ _ _ H _ I h=>Constant_none ⟨.non,H,I,rfl,h⟩
theorem fD {x j pos}:PE X (.Constant (.str x) j pos) (tC (.str x)):=fun _ _ _ H _ I h=>Calls.Constant_str ⟨.str x,H,I.tok _,⟨_,rfl⟩,h⟩
def Gl (X:Cx) (x:Str):Prop:=X.env.kindOf x=some .globalImplicit
theorem rB {E:Value->Shared->Prop} {pz:List (Addr×Obj)} {s:Shared} {σ:St} {H:Hp} {x:Str} {u:Value} {pos:Pos} {Q:Value->Shared->Prop} (I:Inv X pz σ H s) (hg:Gl X x) (hm:X.mg x=some u) (h:Q u s)
  (hd:autoParam ((x==("__debug__":Str))=false) L2.Internal.auD._auto_1):wpAny (model X.prog X.w) X.A (eval (.Name x pos) X.env) Q E s:=
 Calls.Name_function_global I.ok.kind hg (Calls.loadGlobal_global (by rw[I.ok.glob];exact I.mod.glob.keeps I.bk) hm h) hd
theorem mZ {E:Value->Shared->Prop} {pz:List (Addr×Obj)} {s:Shared} {σ:St} {H:Hp} {x:Str} {u:Value} {pos:Pos} {Q:Value->Shared->Prop} (I:Inv X pz σ H s) (hg:Gl X x) (hm:X.mg x=none) (hv:bootBuiltins x=some u) (h:Q u s)
  (hn:autoParam (x≠"__name__") L2.Internal.auD._auto_1) (hd:autoParam ((x==("__debug__":Str))=false) L2.Internal.auD._auto_1):wpAny (model X.prog X.w) X.A (eval (.Name x pos) X.env) Q E s:=by
 obtain⟨mb,h1,h2⟩:=I.mod.blt
 exact Calls.Name_function_global I.ok.kind hg (Calls.loadGlobal_builtin (by rw[I.ok.glob];exact I.mod.glob.keeps I.bk) hm (by rw[I.ok.blt];exact h1.keeps I.bk) ((h2 x hn).trans hv) h) hd
theorem BL {x:Str} {v:V} {u:Value} {pos:Pos} (hg:Gl X x) (hm:X.mg x=some u) (r:gR v u) (hd:autoParam ((x==("__debug__":Str))=false) L2.Internal.auD._auto_1):PE X (.Name x pos) (tC v):=
 fun _ _ _ H _ I h=>rB I hg hm ⟨v,H,I,r,h⟩ hd
theorem BM {x:Str} {v:V} {u:Value} {pos:Pos} (hg:Gl X x) (hm:X.mg x=none) (hv:bootBuiltins x=some u) (r:gR v u) (hn:autoParam (x≠"__name__") L2.Internal.auD._auto_1) (hd:autoParam ((x==("__debug__":Str))=false) L2.Internal.auD._auto_1):PE X (.Name x pos) (tC v):=
 fun _ _ _ H _ I h=>mZ I hg hm hv ⟨v,H,I,r,h⟩ hn hd
variable {a b:Expr} {ta tb:TE} {pos:Pos}
def PC (X:Cx) (op:CmpOp) (a b:Expr) (t:TE):Prop:=
 ∀(pz:List (Addr×Obj)) (s:Shared) (σ:St) (H:Hp) (Q:VK),Inv X pz σ H s->t σ H Q->
  wpAny (model X.prog X.w) X.A (eval a X.env) (fun v s₁=>wpAny (model X.prog X.w) X.A (eval b X.env) (fun u s₂=>wpAny (model X.prog X.w) X.A (compareOp op v u) (EP X pz σ Q) X.xe s₂) X.xe s₁) X.xe s
theorem va (b:Expr) {op:CmpOp} (h:op≠ .In) (h2:op≠ .NotIn):behindInMarks op b=false:=by
 have e1:(op==CmpOp.In)=false:=by cases op<;>first|rfl|exact absurd rfl h
 have e2:(op==CmpOp.NotIn)=false:=by cases op<;>first|rfl|exact absurd rfl h2
 cases b<;>simp[behindInMarks,e1,e2]
def tIsN (ta:TE):TE:=fun σ H Q=>ta σ H fun x H1=>Q (.bl (decide (x= .non))) H1
def Ds (ta:TE):TE:=fun σ H Q=>ta σ H fun x H1=>Q (.bl (!decide (x= .non))) H1
theorem gR.none_iff {x:V} {v:Value} (r:gR x v):(v==Value.none)=decide (x= .non):=by
 cases x with
 |non=>cases r;rfl
 |bl _=>cases r;rfl
 |int _=>obtain⟨t,rfl⟩:=r;rfl
 |str _=>obtain⟨t,rfl⟩:=r;rfl
 |byt _=>obtain⟨t,rfl⟩:=r;rfl
 |flt _=>obtain⟨t,rfl⟩:=r;rfl
 |ref _=>cases r;rfl
 |ty _=>cases r;rfl
theorem xt {j pos'} (ha:PE X a ta):PC X .Is a (.Constant .none j pos') (tIsN ta):=by
 intro pz s σ H Q I h
 refine thn (ha pz s σ H _ I h) fun v s1 ⟨x,H1,I1,r1,q1⟩=>?_
 exact Constant_none (is_none_gen ⟨.bl _,H1,I1,by rw[r1.none_iff];rfl,q1⟩)
theorem BN {j pos'} (ha:PE X a ta):PC X .IsNot a (.Constant .none j pos') (Ds ta):=by
 intro pz s σ H Q I h
 refine thn (ha pz s σ H _ I h) fun v s1 ⟨x,H1,I1,r1,q1⟩=>?_
 exact Constant_none (isnot_none_gen ⟨.bl _,H1,I1,by rw[r1.none_iff];rfl,q1⟩)
def tB (t:TE):TT:=fun σ H Q=>t σ H fun x H1=>∃c,x= .bl c/\Q c H1
theorem Du {op:CmpOp} {t:TE} (h:PC X op a b t) (h1:behindInMarks op b=false:=by first|exact va _ (by decide) (by decide)|rfl):PE X (.Compare a [op] [b] pos) t:=fun pz s σ H Q I hw=>wpAny_Compare1 (h pz s σ H Q I hw) h1
theorem vc {op:CmpOp} {t:TE} (h:PC X op a b t) (h1:behindInMarks op b=false:=by first|exact va _ (by decide) (by decide)|rfl):PT X (.Compare a [op] [b] pos) (tB t):=by
 intro pz s σ H Q I hw
 refine wpAny_isTrue_Compare1 (thn (h pz s σ H _ I hw) fun v s1 h1=>thn h1 fun u s2 h2=>thn h2 fun c s3 ⟨x,H1,I1,r1,q1⟩=>?_) h1
 obtain⟨d,rfl,q⟩:=q1
 cases r1
 exact wpAny_truthy_bool ⟨H1,I1,q⟩
theorem m7 {e:Expr} {t:TE} (h:PE X e t) (he:autoParam (∀whole,isTrue e X.env whole=(do let v<-whole;standAt e.pos;holding [v] (truthy v))) L2.Internal.auI._auto_1):PT X e (tB t):=by
 intro pz s σ H Q I hw
 refine isTrue_plain (thn (h pz s σ H _ I hw) fun v s1 ⟨x,H1,I1,r1,q1⟩=>?_) (he _)
 obtain⟨d,rfl,q⟩:=q1
 cases r1
 exact wpAny_truthy_bool ⟨H1,I1,q⟩
variable {tA tB':TT} {rest:List Expr}
def Dv (t u:TT):TT:=fun σ H Q=>t σ H fun c H1=>if c=true then u σ H1 Q else Q false H1
def tOr (t u:TT):TT:=fun σ H Q=>t σ H fun c H1=>if c=true then Q true H1 else u σ H1 Q
def tNot (t:TT):TT:=fun σ H Q=>t σ H fun c H1=>Q (!c) H1
theorem nJ (ha:PT X a tA):PW X (.BoolOp .And [a] pos) tA:=by
 intro wh pz s σ H Q I h
 refine isTrue_and (thn (ha pz s σ H Q I h) fun c s1 e=>?_)
 cases c with
 |true=>exact isTrue_and_nil e
 |false=>exact e
theorem xu (ha:PT X a tA):PW X (.BoolOp .Or [a] pos) tA:=by
 intro wh pz s σ H Q I h
 refine isTrue_or (thn (ha pz s σ H Q I h) fun c s1 e=>?_)
 cases c with
 |false=>exact isTrue_or_nil e
 |true=>exact e
theorem oE (ha:PT X a tA) (hb:PW X (.BoolOp .And (b::rest) pos) tB'):PW X (.BoolOp .And (a::b::rest) pos) (Dv tA tB'):=by
 intro wh pz s σ H Q I h
 refine isTrue_and (thn (ha pz s σ H _ I h) fun c s1 ⟨H1,I1,q1⟩=>?_)
 cases c with
 |true=>exact hb wh pz s1 σ H1 Q I1 q1
 |false=>exact⟨H1,I1,q1⟩
theorem zJ (ha:PT X a tA) (hb:PW X (.BoolOp .Or (b::rest) pos) tB'):PW X (.BoolOp .Or (a::b::rest) pos) (tOr tA tB'):=by
 intro wh pz s σ H Q I h
 refine isTrue_or (thn (ha pz s σ H _ I h) fun c s1 ⟨H1,I1,q1⟩=>?_)
 cases c with
 |true=>exact⟨H1,I1,q1⟩
 |false=>exact hb wh pz s1 σ H1 Q I1 q1
theorem xw (ha:PT X a tA):PT X (.UnaryOp .Not a pos) (tNot tA):=by
 intro pz s σ H Q I h
 exact isTrue_not (ha pz s σ H (fun c H1=>Q (!c) H1) I h)
def Fc (ta tb:TE):TE:=fun σ H Q=>ta σ H fun x H1=>∃c,x= .bl c/\if c=true then tb σ H1 Q else Q (.bl false) H1
def Fe (ta tb:TE):TE:=fun σ H Q=>ta σ H fun x H1=>∃c,x= .bl c/\if c=true then Q (.bl true) H1 else tb σ H1 Q
def Ff (ta:TE):TE:=fun σ H Q=>ta σ H fun x H1=>∃c,x= .bl c/\Q (.bl (!c)) H1
theorem sN {op} {t:TE} (h:PE X a t):PE X (.BoolOp op [a] pos) t:=fun pz s σ H Q I hw=>BoolOp_one (h pz s σ H Q I hw)
theorem vd (ha:PE X a ta) (hb:PE X (.BoolOp .And (b::rest) pos) tb):PE X (.BoolOp .And (a::b::rest) pos) (Fc ta tb):=by
 intro pz s σ H Q I h
 refine BoolOp_and (thn (ha pz s σ H _ I h) fun v s1 ⟨x,H1,I1,r1,q1⟩=>?_)
 obtain⟨c,rfl,q1⟩:=q1
 cases r1
 refine wpAny_truthy_bool ?_
 cases c with
 |true=>exact hb pz s1 σ H1 Q I1 q1
 |false=>exact⟨.bl false,H1,I1,rfl,q1⟩
theorem Dy (ha:PE X a ta) (hb:PE X (.BoolOp .Or (b::rest) pos) tb):PE X (.BoolOp .Or (a::b::rest) pos) (Fe ta tb):=by
 intro pz s σ H Q I h
 refine BoolOp_or (thn (ha pz s σ H _ I h) fun v s1 ⟨x,H1,I1,r1,q1⟩=>?_)
 obtain⟨c,rfl,q1⟩:=q1
 cases r1
 refine wpAny_truthy_bool ?_
 cases c with
 |false=>exact hb pz s1 σ H1 Q I1 q1
 |true=>exact⟨.bl true,H1,I1,rfl,q1⟩
theorem Dz (ha:PE X a ta):PE X (.UnaryOp .Not a pos) (Ff ta):=by
 intro pz s σ H Q I h
 refine UnaryOp_ (thn (ha pz s σ H _ I h) fun v s1 ⟨x,H1,I1,r1,q1⟩=>?_)
 obtain⟨c,rfl,q1⟩:=q1
 cases r1
 exact not_of (wpAny_truthy_bool ⟨.bl (!c),H1,I1,rfl,q1⟩)
end
def SqL (K:PySem.W.Frag) (H:Hp) (a:Addr) (xs:List V):Prop:=
 Rd H a (.lst xs)\/
  ∃(o:Obj) (its:Array Value) (n:Nat),K.lookup a=some o/\o.cls= .type "list"/\o.dict=none/\o.data= .seq its n/\its.size<=sizeLine/\gM xs its.toList
def SqT (K:PySem.W.Frag) (H:Hp) (a:Addr) (xs:List V):Prop:=
 Rd H a (.tup xs)\/
  ∃(o:Obj) (its:Array Value) (n:Nat),K.lookup a=some o/\o.cls= .type "tuple"/\o.data= .seq its n/\its.size<=sizeLine/\gM xs its.toList
def absV:Value->Option V
 | .none=>some .non
 | .bool b=>some (.bl b)
 | .int i _=>some (.int i)
 | .str x _=>some (.str x)
 | .bytes b _=>some (.byt b)
 | .float b _=>some (.flt b)
 | .ref a=>some (.ref a)
 | .type n=>some (.ty n)
 |_=>none
theorem gR.abs {x:V} {u:Value} (r:gR x u):absV u=some x:=by
 cases x with
 |non=>cases r;rfl
 |bl _=>cases r;rfl
 |int _=>obtain⟨t,rfl⟩:=r;rfl
 |str _=>obtain⟨t,rfl⟩:=r;rfl
 |byt _=>obtain⟨t,rfl⟩:=r;rfl
 |flt _=>obtain⟨t,rfl⟩:=r;rfl
 |ref _=>cases r;rfl
 |ty _=>cases r;rfl
theorem gR.inj {x y:V} {u:Value} (r:gR x u) (q:gR y u):x=y:=cx.inj (r.abs.symm.trans q.abs)
theorem gM.inj:∀{xs ys:List V} {us:List Value},gM xs us->gM ys us->xs=ys
 |_,_,_,.nil,.nil=>rfl
 |_,_,_,.cons r t,.cons r' t'=>by rw[r.inj r',gM.inj t t']
section
variable {X:Cx} {pz:List (Addr×Obj)} {σ:St} {H:Hp} {s:Shared} {a:Addr} {xs ys:List V}
theorem SqL.of {K:PySem.W.Frag} (h:H a=some (.lst xs)):SqL K H a xs:= .inl (.inl h)
theorem SqT.of {K:PySem.W.Frag} (h:H a=some (.tup xs)):SqT K H a xs:= .inl (.inl h)
theorem Inv.list (I:Inv X pz σ H s) (h:SqL X.K H a xs):∃its:List Value,gM xs its/\PlainL s.heap a its.toArray/\xs.length<=sizeLine:=by
 rcases h with h|⟨o,its,n,hk,hc,hd,hs,hz,r⟩
 ·obtain⟨z,its,n,r,e⟩:=h.ok I.hok
  exact⟨its,r,⟨_,n,e,rfl,rfl,rfl⟩,z⟩
 ·refine⟨its.toList,r,⟨o,n,I.kIn a o hk,hc,hd,by simpa using hs⟩,?_⟩
  have e:=r.length
  simp only[dY]at e
  lia
theorem Inv.tuple (I:Inv X pz σ H s) (h:SqT X.K H a xs):∃its:List Value,gM xs its/\IsTup s.heap a its.toArray/\xs.length<=sizeLine:=by
 rcases h with h|⟨o,its,n,hk,hc,hs,hz,r⟩
 ·obtain⟨z,its,r,p⟩:=h.ok I.hok
  exact⟨its,r,p.tup,z⟩
 ·refine⟨its.toList,r,⟨o,I.kIn a o hk,hc,n,by simpa using hs⟩,?_⟩
  have e:=r.length
  simp only[dY]at e
  lia
theorem Inv.list_inj (I:Inv X pz σ H s) (h:SqL X.K H a xs) (h':SqL X.K H a ys):xs=ys:=by
 obtain⟨its,r,⟨o,n,e,_,_,d⟩,_⟩:=I.list h
 obtain⟨its',r',⟨o',n',e',_,_,d'⟩,_⟩:=I.list h'
 rw[e]at e';cases e'
 rw[d]at d'
 injection d' with d1 _
 have:its=its':=by simpa using congrArg Array.toList d1
 subst this
 exact r.inj r'
theorem Inv.tuple_inj (I:Inv X pz σ H s) (h:SqT X.K H a xs) (h':SqT X.K H a ys):xs=ys:=by
 obtain⟨its,r,⟨o,e,_,n,d⟩,_⟩:=I.tuple h
 obtain⟨its',r',⟨o',e',_,n',d'⟩,_⟩:=I.tuple h'
 rw[e]at e';cases e'
 rw[d]at d'
 injection d' with d1 _
 have:its=its':=by simpa using congrArg Array.toList d1
 subst this
 exact r.inj r'
end
abbrev Cx.wish (X:Cx) (E:Value->Shared->Prop):Cx:={X with xe:=E}
abbrev Cx.nox (X:Cx):Cx:=X.wish fun _ _=>False
theorem Cx.Ok.wish {X:Cx} (ok:X.Ok) (E:Value->Shared->Prop):(X.wish E).Ok:=
 ⟨ok.mod,ok.kind,ok.glob,ok.blt,ok.above,ok.inj,ok.has,ok.cab,ok.hd,ok.frames,ok.stk,ok.exf,ok.bs,ok.bsz,ok.noex,ok.exfs,ok.funs,ok.frf⟩
theorem Cx.Ok.unwish {X:Cx} {E:Value->Shared->Prop} (ok:(X.wish E).Ok):X.Ok:=
 ⟨ok.mod,ok.kind,ok.glob,ok.blt,ok.above,ok.inj,ok.has,ok.cab,ok.hd,ok.frames,ok.stk,ok.exf,ok.bs,ok.bsz,ok.noex,ok.exfs,ok.funs,ok.frf⟩
section
variable {X:Cx} {pz:List (Addr×Obj)} {σ:St} {H:Hp} {s:Shared} {E:Value->Shared->Prop}
theorem Inv.wish (I:Inv X pz σ H s) (E:Value->Shared->Prop):Inv (X.wish E) pz σ H s:=⟨I.ok.wish E,I.os,I.bare,I.base,I.loc,I.cell,I.free,I.freeC,I.pin,I.hok,I.len⟩
theorem Inv.unwish (I:Inv (X.wish E) pz σ H s):Inv X pz σ H s:=⟨I.ok.unwish,I.os,I.bare,I.base,I.loc,I.cell,I.free,I.freeC,I.pin,I.hok,I.len⟩
theorem SP.unwish {D:nH} {f:Flow} {s':Shared} (h:SP (X.wish E) pz D f s'):SP X pz D f s':=by
 cases f with
 |next=>obtain⟨σ',H',I,q⟩:=h;exact⟨σ',H',I.unwish,q⟩
 |brk=>obtain⟨σ',H',I,q⟩:=h;exact⟨σ',H',I.unwish,q⟩
 |cont=>obtain⟨σ',H',I,q⟩:=h;exact⟨σ',H',I.unwish,q⟩
 |ret u=>obtain⟨v,σ',H',I,r,q⟩:=h;exact⟨v,σ',H',I.unwish,r,q⟩
theorem PE.nox {e:Expr} {t:TE} (h:PE X.nox e t):PE X e t:=fun pz s σ H Q I hw=>
 wpAny_mono (h pz s σ H Q (I.wish _) hw) (fun _ _ ⟨v,H',I',r,q⟩=>⟨v,H',I'.unwish,r,q⟩) fun _ _ z=>False.elim z
theorem PT.nox {e:Expr} {t:TT} (h:PT X.nox e t):PT X e t:=fun pz s σ H Q I hw=>
 wpAny_mono (h pz s σ H Q (I.wish _) hw) (fun _ _ ⟨H',I',q⟩=>⟨H',I'.unwish,q⟩) fun _ _ z=>False.elim z
theorem PSs.nox {st:List Stmt} {t:TS} (h:PSs X.nox st t):PSs X st t:=fun pz s σ H D I hw=>
 wpAny_mono (h pz s σ H D (I.wish _) hw) (fun _ _ q=>q.unwish) fun _ _ z=>False.elim z
end
section
variable {X:Cx} {st:Stmt} {rest:List Stmt} {t u:TS} {e:Expr} {te:TE} {pos:Pos}
def ju:TS:=fun D σ H=>D.nx σ H
def xl (t u:TS):TS:=fun D σ H=>t {D with nx:=u D} σ H
theorem fF:PSs X [] ju:=fun _ _ σ H _ I h=>wpAny_execs_nil ⟨σ,H,I,h⟩
theorem eQ (h1:PS X st t) (h2:PSs X rest u):PSs X (st::rest) (xl t u):=by
 intro pz s σ H D I h
 refine wpAny_execs_cons (thn (h1 pz s σ H {D with nx:=u D} I h) fun f s1 q=>?_)
 cases f with
 |next=>
  obtain⟨σ',H',I',q⟩:=q
  exact h2 pz s1 σ' H' D I' q
 |ret v=>exact q
 |brk=>exact q
 |cont=>exact q
theorem eV (h1:PS X st t):PSs X [st] t:=by
 intro pz s σ H D I h
 refine wpAny_execs_cons (thn (h1 pz s σ H D I h) fun f s1 q=>?_)
 cases f with
 |next=>exact wpAny_execs_nil q
 |ret v=>exact q
 |brk=>exact q
 |cont=>exact q
theorem Inv.quiet {pz:List (Addr×Obj)} {σ:St} {H:Hp} {s:Shared} (I:Inv X pz σ H s):interactive X.env=false:=by simp[interactive,I.ok.kind]
def Fg (te:TE):TS:=fun D σ H=>te σ H fun _ H1=>D.nx σ H1
theorem fo (he:PE X e te) (hs:autoParam (swapsWith e none pos.line X.env=pure false) L2.Internal.auR._auto_1):PS X (.Expr e pos) (Fg te):=by
 intro pz s σ H D I h
 exact wpAny_Expr_any (thn (he pz s σ H _ I h) fun v s1 ⟨x,H1,I1,r1,q1⟩=>⟨σ,H1,I1,q1⟩) I.quiet hs
def Fh (te:TE):TS:=fun D σ H=>te σ H D.rt
theorem fu (he:PE X e te):PS X (.Return (some e) pos) (Fh te):=by
 intro pz s σ H D I h
 exact wpAny_Return_some (thn (he pz s σ H _ I h) fun v s1 ⟨x,H1,I1,r1,q1⟩=>⟨x,σ,H1,I1,r1,q1⟩)
def ve (c:TT) (t u:TS):TS:=fun D σ H=>c σ H fun b H1=>if b=true then t D σ H1 else u D σ H1
theorem gB {c:Expr} {a b:List Stmt} {tc:TT} (hc:PT X c tc) (ha:PSs X a t) (hb:PSs X b u):PS X (.If c a b pos) (ve tc t u):=by
 intro pz s σ H D I h
 refine wpAny_If (thn (hc pz s σ H _ I h) fun d s1 ⟨H1,I1,q1⟩=>?_)
 cases d with
 |true=>exact ha pz s1 σ H1 D I1 q1
 |false=>exact hb pz s1 σ H1 D I1 q1
end
abbrev TG:=V->St->Hp->(St->Hp->Prop)->Prop
abbrev TGs:=List V->St->Hp->(St->Hp->Prop)->Prop
def PG (X:Cx) (target:Expr) (t:TG):Prop:=
 ∀(pz:List (Addr×Obj)) (s:Shared) (σ:St) (H:Hp) (v:V) (u:Value) (Q:St->Hp->Prop),Inv X pz σ H s->gR v u->t v σ H Q->
  wpAny (model X.prog X.w) X.A (assign target X.env u) (fun _ s'=>∃σ' H',Inv X pz σ' H' s'/\Q σ' H') X.xe s
def PGs (X:Cx) (ts:List Expr) (t:TGs):Prop:=
 ∀(pz:List (Addr×Obj)) (s:Shared) (σ:St) (H:Hp) (vs:List V) (us:List Value) (Q:St->Hp->Prop),Inv X pz σ H s->gM vs us->t vs σ H Q->
  wpAny (model X.prog X.w) X.A (assignInOrder ((assignEach ts X.env).map (·.2)) us) (fun _ s'=>∃σ' H',Inv X pz σ' H' s'/\Q σ' H') X.xe s
abbrev Fi:=V->V->V->Hp->(Hp->Prop)->Prop
def GU (X:Cx) (t:Fi):Prop:=
 ∀(pz:List (Addr×Obj)) (s:Shared) (σ:St) (H:Hp) (o i v:V) (ov iv u:Value) (Q:Hp->Prop),Inv X pz σ H s->gR o ov->gR i iv->gR v u->t o i v H Q->
  wpAny (model X.prog X.w) X.A (setItem ov iv u) (fun _ s'=>∃H',Inv X pz σ H' s'/\Q H') X.xe s
section
variable {X:Cx} {pos:Pos}
def fK (i:Nat):TG:=fun v σ H Q=>Q (σ.set i (some v)) H
theorem um {i:Nat} {x:Str} (hN:X.N.Nodup) (hi:X.N[i]?=some x) (hx:Loc X.env.scope x) (hf:autoParam (X.fn x=true\/X.env.scope.names.lookup x=some .local) L2.Internal.auL._auto_1):PG X (.Name x pos) (fK i):=by
 intro pz s σ H v u Q I r h
 exact wpAny_assign_Name (oY I hN hi hx r (fun s' I'=>⟨_,H,I',h⟩) hf)
def DA:TGs:=fun vs σ H Q=>vs=[]/\Q σ H
def rC (t:TG) (u:TGs):TGs:=fun vs σ H Q=>∃v r,vs=v::r/\t v σ H fun σ' H'=>u r σ' H' Q
theorem rE:PGs X [] DA:=by
 intro pz s σ H vs us Q I r h
 obtain⟨e,h⟩:=h
 subst e
 cases r
 exact assignInOrder_nil ⟨σ,H,I,h⟩
theorem jO {e:Expr} {es:List Expr} {t:TG} {u:TGs} (h1:PG X e t) (h2:PGs X es u)
  (hs:autoParam ((assignEach (e::es) X.env).map (·.2)=assign e X.env::(assignEach es X.env).map (·.2)) L2.Internal.auR._auto_1):PGs X (e::es) (rC t u):=by
 intro pz s σ H vs us Q I r h
 obtain⟨v,vr,e1,h⟩:=h
 subst e1
 cases r with
 |cons r rr=>
  rw[hs]
  refine assignInOrder_cons (thn (h1 pz s σ H _ _ _ I r h) fun _ s1 ⟨σ1,H1,I1,q1⟩=>?_)
  exact h2 pz s1 σ1 H1 _ _ Q I1 rr q1
def DB (K:PySem.W.Frag) (n:Nat) (t:TGs):TG:=fun v σ H Q=>∃a xs,v= .ref a/\SqT K H a xs/\xs.length=n/\t xs σ H Q
theorem vf {es:List Expr} {k:Nat} {t:TGs} {n:Nat} (hc:X.calm=true) (h:PGs X es t)
  (hn:autoParam ((assignEach es X.env).length=n) L2.Internal.auR._auto_1) (hst:autoParam ((assignEach es X.env).findIdx? (·.1)=none) L2.Internal.auR._auto_1):PG X (.Tuple es k pos) (DB X.K n t):=by
 intro pz s σ H v u Q I r hw
 obtain⟨a,xs,e1,hq,hl,hw⟩:=hw
 subst e1
 cases r
 obtain⟨its,rv,ht,hz⟩:=I.tuple hq
 refine assign_Tuple_tuple (I.ok.hd hc) ht (by simp[hn,<-hl,rv.length]) hst fun h' hx=>?_
 have I1:Inv X pz σ H {s with heap:=h'}:=I.kept (t':=s.toks) fun b o e=>hx b o (bZ (eE e)) e
 exact h pz _ σ H xs _ Q I1 (by simpa using rv) hw
def GV (to ti:TE) (t:Fi):TG:=fun v σ H Q=>to σ H fun o H1=>ti σ H1 fun i H2=>t o i v H2 fun H3=>Q σ H3
theorem qS {o i:Expr} {to ti:TE} {t:Fi} (ho:PE X o to) (hi:PE X i ti) (hs:GU X t)
  (ha:∀v,assign (.Subscript o i pos) X.env v=(do
   let ov<-holding [v] (eval o X.env)
   let iv<-holding [v,ov] (eval i X.env)
   standAt pos
   holding [v,ov,iv] (setItem ov iv v)
   release [v,ov,iv] []):=by intro _;rfl):PG X (.Subscript o i pos) (GV to ti t):=by
 intro pz s σ H v u Q I r h
 rw[ha]
 refine wpAny_bind (wpAny_holding (thn (ho pz s σ H _ I h) fun ov s1 ⟨x,H1,I1,r1,q1⟩=>?_))
 refine wpAny_bind (wpAny_holding (thn (hi pz s1 σ H1 _ I1 q1) fun iv s2 ⟨y,H2,I2,r2,q2⟩=>?_))
 refine wpAny_bind (wpAny_standAt (wpAny_bind (wpAny_holding (thn (hs pz s2 σ H2 x y v ov iv u _ I2 r1 r2 r q2) fun _ s3 ⟨H3,I3,q3⟩=>?_))))
 exact wpAny_release ⟨σ,H3,I3,q3⟩
def xx (te:TE) (g:TG):TS:=fun D σ H=>te σ H fun x H1=>g x σ H1 D.nx
theorem qT {tg e:Expr} {te:TE} {g:TG} (he:PE X e te) (hg:PG X tg g) (hs:autoParam (swapsWithSole [tg] e pos.line X.env=pure false) L2.Internal.auR._auto_1) (hw:autoParam (swappedStores [tg] e X.env=pure none) L2.Internal.auR._auto_1)
  (h1:autoParam ((assignEach [tg] X.env).map (·.2)=[assign tg X.env]) L2.Internal.auR._auto_1):PS X (.Assign [tg] e pos) (xx te g):=by
 intro pz s σ H D I h
 refine wpAny_Assign_stores (thn (he pz s σ H _ I h) fun v s1 ⟨x,H1,I1,r1,q1⟩=>?_) hs hw
 rw[h1]
 exact thn (hg pz s1 σ H1 x v _ I1 r1 q1) fun _ s2 q=>q
theorem DC {i:Nat} {x:Str} {e:Expr} {te:TE} {pos':Pos} (hN:X.N.Nodup) (hi:X.N[i]?=some x) (hx:Loc X.env.scope x) (he:PE X e te) (hs:autoParam (swapsWith e (some (.Name x pos')) pos.line X.env=pure false) L2.Internal.auR._auto_1) (hf:autoParam (X.fn x=true\/X.env.scope.names.lookup x=some .local) L2.Internal.auL._auto_1):
  PS X (.Assign [.Name x pos'] e pos) (xx te (fK i)):=by
 intro pz s σ H D I h
 refine wpAny_Assign_Name (thn (he pz s σ H _ I h) fun v s1 ⟨y,H1,I1,r1,q1⟩=>?_) hs
 exact oY I1 hN hi hx r1 (fun s2 I2=>⟨_,H1,I2,q1⟩) hf
end
section
variable {X:Cx} {pos:Pos}
def vg (c:TT) (tb:TS):TS:=fun D σ H=>∃W:Nat->St->Hp->Prop,(∃m,W m σ H)/\∀m σ H,W m σ H->
 c σ H fun b H1=>if b=true then ∃N:St->Hp->Prop,(∀σ' H',N σ' H'->∃m',m'<m/\W m' σ' H')/\tb {D with nx:=N,ct:=N,bk:=D.nx} σ H1 else D.nx σ H1
theorem zK {c:Expr} {body:List Stmt} {tc:TT} {tb:TS} (hp:PassesOwn (model X.prog X.w) X.A X.env X.xe) (hc:PT X c tc) (hb:PSs X body tb):PS X (.While c body [] pos) (vg tc tb):=by
 intro pz s σ H D I h
 obtain⟨W,⟨m0,w0⟩,turn⟩:=h
 refine wpAny_While (codeAny_whileLoop (fun n s'=>∃σ' H',Inv X pz σ' H' s'/\W n σ' H') ?_ m0 ⟨σ,H,I,w0⟩)
 rintro n s1 ⟨σ1,H1,I1,w1⟩
 refine wpAny_passesOwn hp (thn (hc pz s1 σ1 H1 _ I1 (turn n σ1 H1 w1)) fun b s2 ⟨H2,I2,q2⟩=>?_)
 cases b with
 |true=>
  obtain⟨N,hN,q2⟩:=q2
  rw[fY rfl]
  refine wpAny_passesOwn hp (thn (hb pz s2 σ1 H2 _ I2 q2) fun f s3 q3=>?_)
  cases f with
  |next=>
   obtain⟨σ3,H3,I3,n3⟩:=q3
   obtain⟨m',hm,w3⟩:=hN σ3 H3 n3
   exact⟨m',hm,σ3,H3,I3,w3⟩
  |cont=>
   obtain⟨σ3,H3,I3,n3⟩:=q3
   obtain⟨m',hm,w3⟩:=hN σ3 H3 n3
   exact⟨m',hm,σ3,H3,I3,w3⟩
  |brk=>exact q3
  |ret v=>exact q3
 |false=>
  rw[fN dQ]
  exact wpAny_execs_nil ⟨σ1,H2,I2,q2⟩
end
structure It where
 go:Nat->Hp->Prop
 yld:Nat->Hp->V->Hp->Prop
 stop:Nat->Hp->Prop
def uo (X:Cx) (pz:List (Addr×Obj)) (H:Hp) (b:Addr):Prop:=
 H b=none/\b≠X.env.locals/\b∉X.fs/\(b∈X.ex\/X.s₀.heap.objs.size<=b)/\(∀x c,X.env.cells.lookup x=some c->c≠b)/\∀p∈X.pn++pz,p.1≠b
theorem Inv.fpOk {X:Cx} {pz:List (Addr×Obj)} {σ:St} {H H':Hp} {s:Shared} {b:Addr} (I:Inv X pz σ H s) (hb:s.heap.objs.size<=b) (hn:H' b=none):uo X pz H' b:=by
 refine⟨hn,b9 (bX I.lt hb),I.nofs hb,.inr (b0 I.sz hb),fun x c e z=>?_,fun p hp z=>?_⟩
 ·obtain⟨v,q⟩:=I.cell x c e
  exact absurd (bX q.lt (by rw[z];exact hb)) (bY _)
 ·exact absurd (bX (eE (I.pin p hp).1) (by rw[z];exact hb)) (bY _)
structure zL (P:Program) (w:World) (K:PySem.W.Frag) (tg:Expr) (J:It) (fp:List Addr) (it:Addr) (tn:Nat->Heap->Prop):Prop where
 mem:it∈fp
 obj:∀i h,tn i h->∀b∈fp,∃o,h.get? b=some o/\∀v,o.data≠ .cell v
 keep:∀i h h',tn i h->(∀b∈fp,∀o,h.get? b=some o->h'.get? b=some o)->tn i h'
 item:∀(X:Cx),X.prog=P->X.w=w->X.K=K->X.calm=true->∀(i:Nat) (pz:List (Addr×Obj)) (s:Shared) (σ:St) (H:Hp) (E:Value->Shared->Prop),Inv X pz σ H s->(∀b∈fp,uo X pz H b)->tn i s.heap->J.go i H->
  wpAny (model P w) X.A (pyNext (.ref it)) (fun r s1=>∃u,r=some u/\
   wpAny (model P w) X.A (letOwnedTupleGo tg (.ref it) u) (fun _ s2=>∃x H',Inv X pz σ H' s2/\gR x u/\J.yld i H x H'/\tn (i+ 1) s2.heap/\∀b∈fp,H' b=none) E s1) E s
 done:∀(X:Cx),X.prog=P->X.w=w->X.K=K->X.calm=true->∀(i:Nat) (pz:List (Addr×Obj)) (s:Shared) (σ:St) (H:Hp) (E:Value->Shared->Prop),Inv X pz σ H s->(∀b∈fp,uo X pz H b)->tn i s.heap->J.stop i H->
  wpAny (model P w) X.A (pyNext (.ref it)) (fun r s1=>r=none/\Inv X pz σ H s1) E s
 self:∀(A:Around) (i:Nat) (s:Shared) (Q:Value->Shared->Prop) (E:Value->Shared->Prop),tn i s.heap->Q (.ref it) s->wpAny (model P w) A (pyIter (.ref it)) Q E s
abbrev TI:=St->Hp->(It->Hp->Prop)->Prop
def PIE (X:Cx) (pz:List (Addr×Obj)) (σ:St) (tg:Expr) (R:It->Hp->Prop) (itv:Value) (s2:Shared):Prop:=
 ∃(it:Addr) (fp:List Addr) (tn:Nat->Heap->Prop) (J:It) (H':Hp),itv= .ref it/\Inv X pz σ H' s2/\zL X.prog X.w X.K tg J fp it tn/\tn 0 s2.heap/\(∀b∈fp,uo X pz H' b)/\R J H'
def PI (X:Cx) (tg iter:Expr) (wi:TI):Prop:=
 ∀(pz:List (Addr×Obj)) (s:Shared) (σ:St) (H:Hp) (R:It->Hp->Prop),Inv X pz σ H s->wi σ H R->
  wpAny (model X.prog X.w) X.A (eval iter X.env) (fun v s1=>wpAny (model X.prog X.w) X.A (pyIter v) (PIE X pz σ tg R) X.xe s1) X.xe s
theorem BP {M : Model} {A : Around} {E : Value -> Shared -> Prop} {s : Shared} {tg : Expr} {it : Addr} {u : Value} {o : Obj} {n : String} {vs : Array Value} {Q : Unit -> Shared -> Prop} (ho : s.heap.get? it = some o) (hc : o.cls = .type n) (hd : o.data = .fields vs)
  (hn : ["enumerate", "zip", "dict_itemiterator", "dict_reverseitemiterator", "odict_iterator", "itertools.zip_longest", "itertools.pairwise"].contains n = false) (hQ : Q () s) : wpAny M A (letOwnedTupleGo tg (.ref it) u) Q E s := by
 unfold letOwnedTupleGo
 cases tg <;> first
  | exact wpAny_pure hQ
  | (cases u <;> first
    | exact wpAny_pure hQ
    | (refine wpAny_bind (wpAny_load ho ?_)
       rw [hc, hd]
       show wpAny M A (if (["enumerate", "zip", "dict_itemiterator", "dict_reverseitemiterator", "odict_iterator", "itertools.zip_longest", "itertools.pairwise"].contains n && vs[0]? == some (rawInt _)) = true then _ else _) Q E s
       rw [fN (by intro h; rw [hn, Bool.false_and] at h; cases h)]
       exact wpAny_pure hQ))
def Itl (K:PySem.W.Frag) (a:Addr):It:=
 ⟨fun i H=>∃xs x,SqL K H a xs/\xs[i]?=some x,fun i H x H'=>H'=H/\∀xs,SqL K H a xs->xs[i]?=some x,fun i H=>∃xs,SqL K H a xs/\xs.length<=i⟩
def Itt (K:PySem.W.Frag) (a:Addr):It:=
 ⟨fun i H=>∃xs x,SqT K H a xs/\xs[i]?=some x,fun i H x H'=>H'=H/\∀xs,SqT K H a xs->xs[i]?=some x,fun i H=>∃xs,SqT K H a xs/\xs.length<=i⟩
def Itr (lo:Int) (n:Nat):It:=⟨fun i _=>i<n,fun i H x H'=>H'=H/\x= .int (lo+i),fun i _=>n<=i⟩
theorem xy {P:Program} {w:World} {K:PySem.W.Frag} {tg:Expr} (a it:Addr):zL P w K tg (Itl K a) [it] it (fun i h=>h.IsListIter it a i) where
 mem:=by simp
 obj:=fun i h st b hb=>by
  have e:b=it:=by simpa using hb
  subst e
  obtain⟨o,e,c,d⟩:=st
  exact⟨o,e,fun v z=>by rw[d]at z;cases z⟩
 keep:=fun i h h' st k=>st.at fun o e=>k it (by simp) o e
 item:=by
  intro X hP hw hK hc i pz s σ H E I hf st hg
  subst hP hw hK
  obtain⟨xs,x,hq,hx⟩:=hg
  obtain⟨its,rv,p,hz⟩:=I.list hq
  obtain⟨u,hu,ru⟩:=rv.get hx
  obtain⟨f0,f1,f2,f3,f4,f5⟩:=hf it (by simp)
  refine wpAny_pyNext_list_item st p.isList (x:=u) (by simpa using hu) fun h' st' sb=>?_
  have I1:Inv X pz σ H {s with heap:=h'}:=I.turned (t':=s.toks) (fun b o hb e=>(sb.2 b hb).trans e) f0 f1 f3 f4 f5
  obtain⟨o,e,c,d⟩:=id st'
  exact⟨u,rfl,BP (s:={s with heap:=h'}) e c d (by decide) ⟨x,H,I1,ru,⟨rfl,fun ys hy=>by rw[I.list_inj hy hq];exact hx⟩,st',fun b hb=>(hf b hb).1⟩⟩
 done:=by
  intro X hP hw hK hc i pz s σ H E I hf st hg
  subst hP hw hK
  obtain⟨xs,hq,hx⟩:=hg
  obtain⟨its,rv,p,hz⟩:=I.list hq
  obtain⟨f0,f1,f2,f3,f4,f5⟩:=hf it (by simp)
  have hl:=rv.length
  exact wpAny_pyNext_list_end (I.ok.hd hc) st p.isList (by simp;lia) fun h' eb=>⟨rfl,I.turned (t':=s.toks) (fun b o hb e=>eb b o hb e) f0 f1 f3 f4 f5⟩
 self:=fun _ _ _ _ _ st h=>wpAny_pyIter_listiter st h
theorem wg {P:Program} {w:World} {K:PySem.W.Frag} {tg:Expr} (a it:Addr):zL P w K tg (Itt K a) [it] it (fun i h=>h.IsTupleIter it a i) where
 mem:=by simp
 obj:=fun i h st b hb=>by
  have e:b=it:=by simpa using hb
  subst e
  obtain⟨o,e,c,d⟩:=st
  exact⟨o,e,fun v z=>by rw[d]at z;cases z⟩
 keep:=fun i h h' st k=>st.at fun o e=>k it (by simp) o e
 item:=by
  intro X hP hw hK hc i pz s σ H E I hf st hg
  subst hP hw hK
  obtain⟨xs,x,hq,hx⟩:=hg
  obtain⟨its,rv,p,hz⟩:=I.tuple hq
  obtain⟨u,hu,ru⟩:=rv.get hx
  obtain⟨f0,f1,f2,f3,f4,f5⟩:=hf it (by simp)
  refine wpAny_pyNext_tuple_item st (show s.heap.IsTuple a its.toArray from p) (x:=u) (by simpa using hu) fun h' st' sb=>?_
  have I1:Inv X pz σ H {s with heap:=h'}:=I.turned (t':=s.toks) (fun b o hb e=>(sb.2 b hb).trans e) f0 f1 f3 f4 f5
  obtain⟨o,e,c,d⟩:=id st'
  exact⟨u,rfl,BP (s:={s with heap:=h'}) e c d (by decide) ⟨x,H,I1,ru,⟨rfl,fun ys hy=>by rw[I.tuple_inj hy hq];exact hx⟩,st',fun b hb=>(hf b hb).1⟩⟩
 done:=by
  intro X hP hw hK hc i pz s σ H E I hf st hg
  subst hP hw hK
  obtain⟨xs,hq,hx⟩:=hg
  obtain⟨its,rv,p,hz⟩:=I.tuple hq
  obtain⟨f0,f1,f2,f3,f4,f5⟩:=hf it (by simp)
  have hl:=rv.length
  exact wpAny_pyNext_tuple_end (I.ok.hd hc) st (show s.heap.IsTuple a its.toArray from p) (by simp;lia) fun h' eb=>⟨rfl,I.turned (t':=s.toks) (fun b o hb e=>eb b o hb e) f0 f1 f3 f4 f5⟩
 self:=fun _ _ _ _ _ st h=>wpAny_pyIter_tupleiter st h
theorem wj {P:Program} {w:World} {K:PySem.W.Frag} {tg:Expr} (it:Addr) (lo:Int) (n:Nat):zL P w K tg (Itr lo n) [it] it (fun i h=>IsRangeIter h it (lo+(i:Nat)*1) ((n:Int)-(i:Nat)) 1) where
 mem:=by simp
 obj:=fun i h st b hb=>by
  have e:b=it:=by simpa using hb
  subst e
  exact⟨_,st,fun v z=>by
   have z':Data.fields _=Data.cell v:=z
   cases z'⟩
 keep:=fun i h h' st k=>k it (by simp) _ st
 item:=by
  intro X hP hw hK hc i pz s σ H E I hf st hg
  subst hP hw hK
  obtain⟨f0,f1,f2,f3,f4,f5⟩:=hf it (by simp)
  have W:=Walks.range (prog:=X.prog) (w:=X.w) (I.ok.hd hc) it lo 1 n
  refine W.item i s _ _ hg st fun v h' tk hv st' kk=>?_
  obtain⟨t,rfl⟩:=hv
  have I1:Inv X pz σ H {s with heap:=h',toks:=tk}:=I.turned (fun b o hb e=>kk b o (by simpa using hb) e) f0 f1 f3 f4 f5
  refine⟨_,rfl,BP (s:={s with heap:=h',toks:=tk}) (n:="range_iterator") st' rfl rfl (by decide) ⟨.int (lo+i),H,I1,⟨t,?_⟩,⟨rfl,rfl⟩,st',fun b hb=>(hf b hb).1⟩⟩
  rw[Int.mul_one]
 done:=by
  intro X hP hw hK hc i pz s σ H E I hf st hg
  subst hP hw hK
  obtain⟨f0,f1,f2,f3,f4,f5⟩:=hf it (by simp)
  exact wpAny_pyNext_range_end (I.ok.hd hc) st (by have:n<=i:=hg;lia) fun h' eb=>⟨rfl,I.turned (t':=s.toks) (fun b o hb e=>eb b o hb e) f0 f1 f3 f4 f5⟩
 self:=fun _ _ _ _ _ st h=>wpAny_pyIter_rangeiter st h
section
variable {X:Cx} {tg:Expr}
def Fj (K:PySem.W.Frag) (tl:TE):TI:=fun σ H R=>tl σ H fun x H1=>∃a,x= .ref a/\(∃xs,SqL K H1 a xs)/\R (Itl K a) H1
def iTup (K:PySem.W.Frag) (tl:TE):TI:=fun σ H R=>tl σ H fun x H1=>∃a,x= .ref a/\(∃xs,SqT K H1 a xs)/\R (Itt K a) H1
theorem iA {l:Expr} {tl:TE} (hl:PE X l tl):PI X tg l (Fj X.K tl):=by
 intro pz s σ H R I h
 refine thn (hl pz s σ H _ I h) fun v s1 ⟨x,H1,I1,r1,q1⟩=>?_
 obtain⟨a,e,⟨xs,hq⟩,q⟩:=q1
 subst e
 cases r1
 obtain⟨its,rv,p,hz⟩:=I1.list hq
 refine wpAny_pyIter_list p.isList ?_
 refine⟨s1.heap.objs.size,[s1.heap.objs.size],_,_,H1,rfl,I1.kept (t':=s1.toks) fun b o e=>eG _ e,xy a _,⟨_,eF _ rfl,rfl,rfl⟩,fun b hb=>?_,q⟩
 have e:b=s1.heap.objs.size:=by simpa using hb
 subst e
 exact I1.fpOk (cb _) (I1.hok.fresh (cb _))
theorem vj {l:Expr} {tl:TE} (hl:PE X l tl):PI X tg l (iTup X.K tl):=by
 intro pz s σ H R I h
 refine thn (hl pz s σ H _ I h) fun v s1 ⟨x,H1,I1,r1,q1⟩=>?_
 obtain⟨a,e,⟨xs,hq⟩,q⟩:=q1
 subst e
 cases r1
 obtain⟨its,rv,p,hz⟩:=I1.tuple hq
 refine wpAny_pyIter_tuple (show s1.heap.IsTuple a its.toArray from p) ?_
 refine⟨s1.heap.objs.size,[s1.heap.objs.size],_,_,H1,rfl,I1.kept (t':=s1.toks) fun b o e=>eG _ e,wg a _,⟨_,eF _ rfl,rfl,rfl⟩,fun b hb=>?_,q⟩
 have e:b=s1.heap.objs.size:=by simpa using hb
 subst e
 exact I1.fpOk (cb _) (I1.hok.fresh (cb _))
theorem zM {pz:List (Addr×Obj)} {σ:St} {H:Hp} {s:Shared} {R:It->Hp->Prop} {E:Value->Shared->Prop} {lo hi:Int} {t u v:Tok} {tk:Nat} (I:Inv X pz σ H s) (h1: -(2^62)<=lo) (h2:lo<2^62) (h3: -(2^62)<=hi) (h4:hi<2^62)
  (q:R (Itr lo (hi-lo).toNat) H):wpAny (model X.prog X.w) X.A (pyIter (.ref s.heap.objs.size)) (PIE X pz σ tg R) E {s with heap:=s.heap.push {cls:= .type "range",data:= .fields #[.int lo t,.int hi u,.int 1 v]},toks:=tk}:=by
 refine wpAny_pyIter_range (IsRange.new ..) (small_one h1 h2 h3 h4) ?_
 have I1:Inv X pz σ H {s with heap:=s.heap.push {cls:= .type "range",data:= .fields #[.int lo t,.int hi u,.int 1 v]},toks:=tk}:=I.kept fun b o e=>eG _ e
 refine⟨(s.heap.push {cls:= .type "range",data:= .fields #[.int lo t,.int hi u,.int 1 v]}).objs.size,[(s.heap.push {cls:= .type "range",data:= .fields #[.int lo t,.int hi u,.int 1 v]}).objs.size],_,_,H,rfl,
  I1.kept (t':=tk) fun b o e=>eG _ e,wj _ lo (hi-lo).toNat,?_,fun b hb=>?_,q⟩
 ·have e1:lo+((0:Nat):Int)*1=lo:=by simp
  have e2:(((hi-lo).toNat:Nat):Int)-((0:Nat):Int)=Builtin.Range.rangeSize lo hi 1:=by rw[rangeSize_one];split<;>lia
  show IsRangeIter _ _ (lo+((0:Nat):Int)*1) ((((hi-lo).toNat:Nat):Int)-((0:Nat):Int)) 1
  rw[e1,e2]
  exact eF _ rfl
 ·have e:b=(s.heap.push {cls:= .type "range",data:= .fields #[.int lo t,.int hi u,.int 1 v]}).objs.size:=by simpa using hb
  subst e
  exact I1.fpOk (cb _) (I1.hok.fresh (cb _))
def Fn (ta:TA):TI:=fun σ H R=>ta σ H fun vs H1=>∃j:Int,vs=[.int j]/\-(2^62)<=j/\j<2^62/\R (Itr 0 j.toNat) H1
theorem gS {a:Expr} {ta:TA} {p pos:Pos} (hg:Gl X "range") (hm:X.mg "range"=none) (ha:PA X [a] ta) (hs:autoParam (starEach [a] X.env=[(false,eval a X.env)]) L2.Internal.auR._auto_1):PI X tg (.Call (.Name "range" p) [a] [] pos) (Fn ta):=by
 intro pz s σ H R I h
 refine Call_ (mZ I hg hm boot_range (eL (thn (ha pos pz s σ H _ I h) fun us s1 ⟨vs,H1,I1,r1,q1⟩=>?_) hs rfl))
 obtain⟨j,e,q1,q2,q⟩:=q1
 subst e
 cases r1 with
 |cons r rr=>
  cases rr
  obtain⟨t,rfl⟩:=r
  exact call_range_1 (zM I1 (by lia) (by lia) q1 q2 (by simpa using q))
def tFor (wi:TI) (g:TG) (tb:TS):TS:=fun D σ H=>wi σ H fun J H1=>∃W:Nat->Nat->St->Hp->Prop,(∃m,W 0 m σ H1)/\∀i m σ H,W i m σ H->
 (J.stop i H/\D.nx σ H)\/(J.go i H/\∃N:St->Hp->Prop,(∀σ' H',N σ' H'->∃m',m'<m/\W (i+ 1) m' σ' H')/\∀x H',J.yld i H x H'->g x σ H' fun σ2 H2=>tb {D with nx:=N,ct:=N,bk:=D.nx} σ2 H2)
def qU (fp:List Addr) (h:Heap):List (Addr×Obj):=fp.filterMap fun b=>(h.get? b).map fun o=>(b,o)
theorem jy {fp:List Addr} {h:Heap} {b:Addr} {o:Obj} (hb:b∈fp) (e:h.get? b=some o):(b,o)∈qU fp h:=List.mem_filterMap.mpr ⟨b,hb,by rw[e];rfl⟩
theorem xA {fp:List Addr} {h:Heap} {p:Addr×Obj} (hp:p∈qU fp h):p.1∈fp/\h.get? p.1=some p.2:=by
 obtain⟨b,hb,e⟩:=List.mem_filterMap.mp hp
 cases q:h.get? b with
 |none=>rw[q]at e;cases e
 |some o=>
  rw[q]at e
  have e':(b,o)=p:=cx.inj e
  subst e'
  exact⟨hb,q⟩
theorem Inv.pinned {pz:List (Addr×Obj)} {σ:St} {H:Hp} {s:Shared} {fp:List Addr} (I:Inv X pz σ H s) (hf:∀b∈fp,uo X pz H b) (ho:∀b∈fp,∃o,s.heap.get? b=some o/\∀v,o.data≠ .cell v):Inv X (pz++qU fp s.heap) σ H s:=
 I.pins_of fun p hp=>(ak.mp hp).elim (fun z=>I.pin p (aw _ z)) fun z=>by
  obtain⟨hb,e⟩:=xA z
  obtain⟨f0,f1,f2,_⟩:=hf p.1 hb
  obtain⟨o,e',d⟩:=ho p.1 hb
  rw[e]at e';cases e'
  exact⟨e,f0,f1,f2,d⟩
theorem Inv.unpinned {pz pl:List (Addr×Obj)} {σ:St} {H:Hp} {s:Shared} (I:Inv X (pz++pl) σ H s):Inv X pz σ H s:=I.pins_of fun p hp=>I.pin p (aw _ (ao _ hp))
theorem jP {iter:Expr} {body:List Stmt} {wi:TI} {g:TG} {tb:TS} {pos:Pos} (hp:PassesOwn (model X.prog X.w) X.A X.env X.xe) (hc:X.calm=true) (hi:PI X tg iter wi) (hg:PG X tg g) (hb:PSs X body tb)
  (hs:autoParam (∀x,foldedSetIterable iter X.env x=pure x) L2.Internal.auI._auto_1):PS X (.For tg iter body [] pos) (tFor wi g tb):=by
 intro pz s σ H D I h
 refine wpAny_For (thn (hi pz s σ H _ I h) fun v s1 h1=>thn h1 fun itv s2 h2=>?_) hs
 obtain⟨it,fp,tn,J,H2,e,I2,T,st2,f2,W,⟨m0,w0⟩,turn⟩:=h2
 subst e
 have stat:∀{H':Hp},(∀b∈fp,H' b=none)->∀b∈fp,uo X pz H' b:=fun hn b hb=>⟨hn b hb,(f2 b hb).2⟩
 refine codeAny_forLoop_any (fun n s'=>∃i σ' H',Inv X pz σ' H' s'/\tn i s'.heap/\(∀b∈fp,H' b=none)/\W i n σ' H') ?_ m0 ⟨0,σ,H2,I2,st2,fun b hb=>(f2 b hb).1,w0⟩
 rintro n s3 ⟨i,σ3,H3,I3,st3,fr3,w3⟩
 rcases turn i n σ3 H3 w3 with⟨stop,qn⟩|⟨go,N,hN,step⟩
 ·refine wpAny_passesOwn hp (thn (T.done X rfl rfl rfl hc i pz s3 σ3 H3 X.xe I3 (stat fr3) st3 stop) fun r s4 ⟨hr,I4⟩=>?_)
  subst hr
  exact wpAny_execs_nil ⟨σ3,H3,I4,qn⟩
 ·refine wpAny_passesOwn hp (thn (T.item X rfl rfl rfl hc i pz s3 σ3 H3 X.xe I3 (stat fr3) st3 go) fun r s4 ⟨u,hr,h4⟩=>?_)
  subst hr
  refine wpAny_passesOwn hp (thn h4 fun _ s5 ⟨x,H5,I5,r5,y5,st5,fr5⟩=>?_)
  have I5':=I5.pinned (stat fr5) (T.obj _ _ st5)
  refine wpAny_passesOwn hp (thn (hg _ s5 σ3 H5 x u _ I5' r5 (step x H5 y5)) fun _ s6 ⟨σ6,H6,I6,q6⟩=>?_)
  refine wpAny_passesOwn hp (thn (hb _ s6 σ6 H6 _ I6 q6) fun f s7 q7=>?_)
  have again:∀{σ7:St} {H7:Hp},Inv X (pz++qU fp s5.heap) σ7 H7 s7->N σ7 H7->∃m,m<n/\∃i σ' H',Inv X pz σ' H' s7/\tn i s7.heap/\(∀b∈fp,H' b=none)/\W i m σ' H':=fun{σ7 H7} I7 n7=>by
   obtain⟨m',hm,w7⟩:=hN σ7 H7 n7
   refine⟨m',hm,i+ 1,σ7,H7,I7.unpinned,T.keep _ _ _ st5 fun b hb o e=>(I7.pin (b,o) (aw _ (aw _ (jy hb e)))).1,fun b hb=>?_,w7⟩
   obtain⟨o,e,d⟩:=T.obj _ _ st5 b hb
   exact(I7.pin (b,o) (aw _ (aw _ (jy hb e)))).2.1
  cases f with
  |next=>obtain⟨σ7,H7,I7,n7⟩:=q7;exact again I7 n7
  |cont=>obtain⟨σ7,H7,I7,n7⟩:=q7;exact again I7 n7
  |brk=>obtain⟨σ7,H7,I7,q7⟩:=q7;exact⟨σ7,H7,I7.unpinned,q7⟩
  |ret v=>obtain⟨x7,σ7,H7,I7,r7,q7⟩:=q7;exact⟨x7,σ7,H7,I7.unpinned,r7,q7⟩
end
theorem rF {K:PySem.W.Frag} {a:Addr} {xs:List V} {g:TG} {tb:TS} {D:nH} {σ:St} {H:Hp} (Pv:Nat->St->Hp->Prop) (h0:Pv 0 σ H) (hl:∀i σ H,i<=xs.length->Pv i σ H->SqL K H a xs)
  (hs:∀i x σ H,xs[i]?=some x->Pv i σ H->g x σ H fun σ2 H2=>tb {D with nx:=Pv (i+ 1),ct:=Pv (i+ 1),bk:=D.nx} σ2 H2) (hd:∀σ H,Pv xs.length σ H->D.nx σ H):
  ∃W:Nat->Nat->St->Hp->Prop,(∃m,W 0 m σ H)/\∀i m σ H,W i m σ H->
   ((Itl K a).stop i H/\D.nx σ H)\/((Itl K a).go i H/\∃N:St->Hp->Prop,(∀σ' H',N σ' H'->∃m',m'<m/\W (i+ 1) m' σ' H')/\∀x H',(Itl K a).yld i H x H'->g x σ H' fun σ2 H2=>tb {D with nx:=N,ct:=N,bk:=D.nx} σ2 H2):=by
 refine⟨fun i m σ H=>m=xs.length-i/\i<=xs.length/\Pv i σ H,⟨xs.length,by simp,cc _,h0⟩,?_⟩
 rintro i m σ H ⟨rfl,hi,p⟩
 have q:=hl i σ H hi p
 by_cases hlt:i<xs.length
 ·refine .inr ⟨⟨xs,xs[i],q,by simp[hlt]⟩,Pv (i+ 1),fun σ' H' p'=>⟨xs.length-(i+ 1),by lia,rfl,hlt,p'⟩,fun x H' y=>?_⟩
  obtain⟨e,y⟩:=y
  subst e
  exact hs i x σ _ (y xs q) p
 ·have e:i=xs.length:=by lia
  subst e
  exact .inl ⟨⟨xs,q,cb _⟩,hd σ H p⟩
theorem uq {K:PySem.W.Frag} {a:Addr} {xs:List V} {g:TG} {tb:TS} {D:nH} {σ:St} {H:Hp} (Pv:Nat->St->Hp->Prop) (h0:Pv 0 σ H) (hl:∀i σ H,i<=xs.length->Pv i σ H->SqT K H a xs)
  (hs:∀i x σ H,xs[i]?=some x->Pv i σ H->g x σ H fun σ2 H2=>tb {D with nx:=Pv (i+ 1),ct:=Pv (i+ 1),bk:=D.nx} σ2 H2) (hd:∀σ H,Pv xs.length σ H->D.nx σ H):
  ∃W:Nat->Nat->St->Hp->Prop,(∃m,W 0 m σ H)/\∀i m σ H,W i m σ H->
   ((Itt K a).stop i H/\D.nx σ H)\/((Itt K a).go i H/\∃N:St->Hp->Prop,(∀σ' H',N σ' H'->∃m',m'<m/\W (i+ 1) m' σ' H')/\∀x H',(Itt K a).yld i H x H'->g x σ H' fun σ2 H2=>tb {D with nx:=N,ct:=N,bk:=D.nx} σ2 H2):=by
 refine⟨fun i m σ H=>m=xs.length-i/\i<=xs.length/\Pv i σ H,⟨xs.length,by simp,cc _,h0⟩,?_⟩
 rintro i m σ H ⟨rfl,hi,p⟩
 have q:=hl i σ H hi p
 by_cases hlt:i<xs.length
 ·refine .inr ⟨⟨xs,xs[i],q,by simp[hlt]⟩,Pv (i+ 1),fun σ' H' p'=>⟨xs.length-(i+ 1),by lia,rfl,hlt,p'⟩,fun x H' y=>?_⟩
  obtain⟨e,y⟩:=y
  subst e
  exact hs i x σ _ (y xs q) p
 ·have e:i=xs.length:=by lia
  subst e
  exact .inl ⟨⟨xs,q,cb _⟩,hd σ H p⟩
theorem kY {lo:Int} {n:Nat} {g:TG} {tb:TS} {D:nH} {σ:St} {H:Hp} (Pv:Nat->St->Hp->Prop) (h0:Pv 0 σ H)
  (hs:∀i σ H,i<n->Pv i σ H->g (.int (lo+i)) σ H fun σ2 H2=>tb {D with nx:=Pv (i+ 1),ct:=Pv (i+ 1),bk:=D.nx} σ2 H2) (hd:∀σ H,Pv n σ H->D.nx σ H):
  ∃W:Nat->Nat->St->Hp->Prop,(∃m,W 0 m σ H)/\∀i m σ H,W i m σ H->
   ((Itr lo n).stop i H/\D.nx σ H)\/((Itr lo n).go i H/\∃N:St->Hp->Prop,(∀σ' H',N σ' H'->∃m',m'<m/\W (i+ 1) m' σ' H')/\∀x H',(Itr lo n).yld i H x H'->g x σ H' fun σ2 H2=>tb {D with nx:=N,ct:=N,bk:=D.nx} σ2 H2):=by
 refine⟨fun i m σ H=>m=n-i/\i<=n/\Pv i σ H,⟨n,by simp,cc _,h0⟩,?_⟩
 rintro i m σ H ⟨rfl,hi,p⟩
 by_cases hlt:i<n
 ·refine .inr ⟨hlt,Pv (i+ 1),fun σ' H' p'=>⟨n-(i+ 1),by lia,rfl,hlt,p'⟩,fun x H' y=>?_⟩
  obtain⟨e,y⟩:=y
  subst e y
  exact hs i σ _ hlt p
 ·have e:i=n:=by lia
  subst e
  exact .inl ⟨cb _,hd σ H p⟩
abbrev R2:=V->V->Hp->VK->Prop
def OpR (X:Cx) (f:Value->Value->Sem Value) (r:R2):Prop:=
 ∀(pz:List (Addr×Obj)) (s:Shared) (σ:St) (H:Hp) (x y:V) (v u:Value) (Q:VK),Inv X pz σ H s->gR x v->gR y u->r x y H Q->
  wpAny (model X.prog X.w) X.A (f v u) (EP X pz σ Q) X.xe s
def UnR (X:Cx) (f:Value->Sem Value) (r:V->Hp->VK->Prop):Prop:=
 ∀(pz:List (Addr×Obj)) (s:Shared) (σ:St) (H:Hp) (x:V) (v:Value) (Q:VK),Inv X pz σ H s->gR x v->r x H Q->
  wpAny (model X.prog X.w) X.A (f v) (EP X pz σ Q) X.xe s
def nK (X:Cx) (f:Value) (r:List V->Hp->VK->Prop):Prop:=
 ∀(pz:List (Addr×Obj)) (s:Shared) (σ:St) (H:Hp) (xs:List V) (us:List Value) (Q:VK),Inv X pz σ H s->gM xs us->r xs H Q->
  wpAny (model X.prog X.w) X.A (call f us) (EP X pz σ Q) X.xe s
def tOp (r:R2) (ta tb:TE):TE:=fun σ H Q=>ta σ H fun x H1=>tb σ H1 fun y H2=>r x y H2 Q
def tUn (r:V->Hp->VK->Prop) (ta:TE):TE:=fun σ H Q=>ta σ H fun x H1=>r x H1 Q
def rI (C:Int->Int->Prop) (g:Int->Int->V):R2:=fun x y H Q=>∃i j,x= .int i/\y= .int j/\C i j/\Q (g i j) H
def rI0 (g:Int->Int->V):R2:=fun x y H Q=>∃i j,x= .int i/\y= .int j/\Q (g i j) H
def rU (g:Int->V):V->Hp->VK->Prop:=fun x H Q=>∃i,x= .int i/\Q (g i) H
section
variable {X:Cx} {a b c:Expr} {ta tb tc:TE} {pos:Pos}
theorem Fo (ha:PE X a ta) (hb:PE X b tb) {pz:List (Addr×Obj)} {s:Shared} {σ:St} {H:Hp} {R:V->V->Hp->Prop} (I:Inv X pz σ H s)
  (h:ta σ H fun x H1=>tb σ H1 fun y H2=>R x y H2) {Q:Value->Shared->Prop} {f:Value->Value->Sem Value}
  (hf:∀v u s2 x y H2,Inv X pz σ H2 s2->gR x v->gR y u->R x y H2->wpAny (model X.prog X.w) X.A (f v u) Q X.xe s2):
  wpAny (model X.prog X.w) X.A (eval a X.env) (fun v s₁=>wpAny (model X.prog X.w) X.A (eval b X.env) (fun u s₂=>wpAny (model X.prog X.w) X.A (f v u) Q X.xe s₂) X.xe s₁) X.xe s:=by
 refine thn (ha pz s σ H _ I h) fun v s1 ⟨x,H1,I1,r1,q1⟩=>?_
 refine thn (hb pz s1 σ H1 _ I1 q1) fun u s2 ⟨y,H2,I2,r2,q2⟩=>?_
 exact hf v u s2 x y H2 I2 r1 r2 q2
theorem fq {op:Operator} {r:R2} (ho:OpR X (binaryOp op) r) (ha:PE X a ta) (hb:PE X b tb):PE X (.BinOp a op b pos) (tOp r ta tb):=by
 intro pz s σ H Q I h
 exact wpAny_BinOp (Fo ha hb I h fun v u s2 x y H2 I2 rx ry q=>ho pz s2 σ H2 x y v u Q I2 rx ry q)
theorem oR {op:UnaryOp} {r:V->Hp->VK->Prop} (ho:UnR X (unaryOp op) r) (ha:PE X a ta):PE X (.UnaryOp op a pos) (tUn r ta):=by
 intro pz s σ H Q I h
 exact UnaryOp_ (thn (ha pz s σ H _ I h) fun v s1 ⟨x,H1,I1,r1,q1⟩=>ho pz s1 σ H1 x v Q I1 r1 q1)
theorem opI {f:Value->Value->Sem Value} {C:Int->Int->Prop} {g:Int->Int->Int}
  (rule:∀(i j:Int) (t u:Tok) (s:Shared) (Q:Value->Shared->Prop) (E:Value->Shared->Prop),C i j->Q (.int (g i j) s.toks) {s with toks:=s.toks+ 1}->wpAny (model X.prog X.w) X.A (f (.int i t) (.int j u)) Q E s):
  OpR X f (rI C fun i j=> .int (g i j)):=by
 intro pz s σ H x y v u Q I rx ry h
 obtain⟨i,j,rfl,rfl,hc,q⟩:=h
 obtain⟨t,rfl⟩:=rx
 obtain⟨t',rfl⟩:=ry
 exact rule i j t t' s _ _ hc ⟨.int (g i j),H,I.tok _,⟨_,rfl⟩,q⟩
theorem GW {f:Value->Value->Sem Value} {g:Int->Int->Int}
  (rule:∀(i j:Int) (t u:Tok) (s:Shared) (Q:Value->Shared->Prop) (E:Value->Shared->Prop),Q (.int (g i j) s.toks) {s with toks:=s.toks+ 1}->wpAny (model X.prog X.w) X.A (f (.int i t) (.int j u)) Q E s):
  OpR X f (rI0 fun i j=> .int (g i j)):=by
 intro pz s σ H x y v u Q I rx ry h
 obtain⟨i,j,rfl,rfl,q⟩:=h
 obtain⟨t,rfl⟩:=rx
 obtain⟨t',rfl⟩:=ry
 exact rule i j t t' s _ _ ⟨.int (g i j),H,I.tok _,⟨_,rfl⟩,q⟩
theorem Fp {f:Value->Value->Sem Value} {g:Int->Int->Bool}
  (rule:∀(i j:Int) (t u:Tok) (s:Shared) (Q:Value->Shared->Prop) (E:Value->Shared->Prop),Q (.bool (g i j)) s->wpAny (model X.prog X.w) X.A (f (.int i t) (.int j u)) Q E s):
  OpR X f (rI0 fun i j=> .bl (g i j)):=by
 intro pz s σ H x y v u Q I rx ry h
 obtain⟨i,j,rfl,rfl,q⟩:=h
 obtain⟨t,rfl⟩:=rx
 obtain⟨t',rfl⟩:=ry
 exact rule i j t t' s _ _ ⟨.bl (g i j),H,I,rfl,q⟩
def Fq (i j:Int):Prop:=0<j/\j<1073741824
def GX (i j:Int):Prop:=0<=j/\j<=1000000/\i.natAbs<2^64
def DD (i j:Int):Prop:=(-(2^64)<i/\i<2^64)\/(-(2^64)<j/\j<2^64)
theorem DD.ok {i j:Int} (h:DD i j):IntMulOk i j:=by
 rcases h with⟨h1,h2⟩|⟨h1,h2⟩
 ·exact .of_left (intBits_le_64 h1 h2)
 ·exact .of_right (intBits_le_64 h1 h2)
theorem vk:OpR X (binaryOp .Add) (rI0 fun i j=> .int (i+j)):=GW fun _ _ _ _ _ _ _ q=>add_int q
theorem AM:OpR X (binaryOp .Sub) (rI0 fun i j=> .int (i-j)):=GW fun _ _ _ _ _ _ _ q=>sub_int q
theorem DE:OpR X (binaryOp .Mult) (rI DD fun i j=> .int (i*j)):=opI fun _ _ _ _ _ _ _ hc q=>mul_int q hc.ok
theorem mi:OpR X (binaryOp .FloorDiv) (rI Fq fun i j=> .int (i/j)):=opI fun i j _ _ _ _ _ hc q=>by
 have h1:(0:Int)<j:=hc.1
 have h2:j<1073741824:=hc.2
 exact floordiv_int (by lia) (by rw[Int.fdiv_eq_ediv_of_nonneg i (by lia)];exact q) (.inl (PyProof.noPylong_small (by lia)))
theorem pq:OpR X (binaryOp .Mod) (rI (fun _ j=>0<j) fun i j=> .int (i%j)):=opI fun i j _ _ _ _ _ hc q=>by
 have h1:(0:Int)<j:=hc
 exact mod_int' (by lia) (by rw[Int.fmod_eq_emod_of_nonneg i (by lia)];exact q)
theorem AN:OpR X (binaryOp .Pow) (rI GX fun i j=> .int (i^j.toNat)):=opI fun _ _ _ _ _ _ _ hc q=>pow_int_small hc.1 hc.2.1 hc.2.2 q
theorem unI {f:Value->Sem Value} {g:Int->Int}
  (rule:∀(i:Int) (t:Tok) (s:Shared) (Q:Value->Shared->Prop) (E:Value->Shared->Prop),Q (.int (g i) s.toks) {s with toks:=s.toks+ 1}->wpAny (model X.prog X.w) X.A (f (.int i t)) Q E s):
  UnR X f (rU fun i=> .int (g i)):=by
 intro pz s σ H x v Q I rx h
 obtain⟨i,rfl,q⟩:=h
 obtain⟨t,rfl⟩:=rx
 exact rule i t s _ _ ⟨.int (g i),H,I.tok _,⟨_,rfl⟩,q⟩
theorem kT:UnR X (unaryOp .USub) (rU fun i=> .int (-i)):=unI fun _ _ _ _ _ q=>neg_int q
end
def GY:V->V->Bool
 | .non,.non=>true| .non,.int _=>true| .int _,.non=>true| .non,.bl _=>true| .bl _,.non=>true| .non,.str _=>true| .str _,.non=>true
 | .int _,.int _=>true| .bl _,.bl _=>true| .str _,.str _=>true| .byt _,.byt _=>true
 | .int _,.str _=>true| .str _,.int _=>true| .bl _,.str _=>true| .str _,.bl _=>true
 |_,_=>false
def rEq:R2:=fun x y H Q=>GY x y=true/\Q (.bl (decide (x=y))) H
def rNe:R2:=fun x y H Q=>GY x y=true/\Q (.bl (!decide (x=y))) H
theorem xB {i j:Int}:decide (V.int i=V.int j)=(i==j):=by
 rw[dR]
 simp
theorem AO {i j:Bool}:decide (V.bl i=V.bl j)=(i==j):=by
 rw[dR]
 simp
theorem xC {i j:Str}:decide (V.str i=V.str j)=(i==j):=by
 rw[dR]
 simp
theorem xD {i j:Array UInt8}:decide (V.byt i=V.byt j)=(i.toList==j.toList):=by
 rw[dR]
 cases i
 cases j
 simp
section
variable {X:Cx} {a b c:Expr} {ta tb tc:TE} {pos:Pos}
theorem gw {pz:List (Addr×Obj)} {σ:St} {H:Hp} {s:Shared} {Q:VK} {k k':Bool} (I:Inv X pz σ H s) (q:Q (.bl k) H) (e:k=k'):EP X pz σ Q (.bool k') s:=by
 subst e
 exact⟨.bl k,H,I,rfl,q⟩
theorem wk:OpR X (compareOp .Eq) rEq:=by
 intro pz s σ H x y v u Q I rx ry h
 obtain⟨hs,q⟩:=h
 cases x with
 |non=>
  cases rx
  cases y with
  |non=>cases ry;exact PySem.EqNone.eq_none_none (gw I q (by simp))
  |bl j=>cases ry;exact PySem.EqNone.eq_none_bool (gw I q (by simp))
  |int j=>obtain⟨t',rfl⟩:=ry;exact PySem.EqNone.eq_none_int (gw I q (by simp))
  |str j=>obtain⟨t',rfl⟩:=ry;exact PySem.EqNone.eq_none_str (gw I q (by simp))
  |_=>exact absurd (show false=true from hs) dQ
 |bl i=>
  cases rx
  cases y with
  |non=>cases ry;exact PySem.EqNone.eq_bool_none (gw I q (by simp))
  |bl j=>cases ry;exact eq_bool (gw I q AO)
  |str j=>obtain⟨t',rfl⟩:=ry;exact PySem.EqMixed.eq_bool_str (gw I q (by simp))
  |_=>exact absurd (show false=true from hs) dQ
 |int i=>
  obtain⟨t,rfl⟩:=rx
  cases y with
  |non=>cases ry;exact PySem.EqNone.eq_int_none (gw I q (by simp))
  |int j=>obtain⟨t',rfl⟩:=ry;exact eq_int (gw I q xB)
  |str j=>obtain⟨t',rfl⟩:=ry;exact PySem.EqMixed.eq_int_str (gw I q (by simp))
  |_=>exact absurd (show false=true from hs) dQ
 |str i=>
  obtain⟨t,rfl⟩:=rx
  cases y with
  |non=>cases ry;exact PySem.EqNone.eq_str_none (gw I q (by simp))
  |bl j=>cases ry;exact PySem.EqMixed.eq_str_bool (gw I q (by simp))
  |int j=>obtain⟨t',rfl⟩:=ry;exact PySem.EqMixed.eq_str_int (gw I q (by simp))
  |str j=>obtain⟨t',rfl⟩:=ry;exact eq_str (gw I q xC)
  |_=>exact absurd (show false=true from hs) dQ
 |byt i=>
  obtain⟨t,rfl⟩:=rx
  cases y with
  |byt j=>obtain⟨t',rfl⟩:=ry;exact PySem.W.eq_bytes (gw I q xD)
  |_=>exact absurd (show false=true from hs) dQ
 |_=>cases y<;>exact absurd (show false=true from hs) dQ
theorem BQ:OpR X (compareOp .NotEq) rNe:=by
 intro pz s σ H x y v u Q I rx ry h
 obtain⟨hs,q⟩:=h
 cases x with
 |non=>
  cases rx
  cases y with
  |non=>cases ry;exact PySem.EqNone.ne_none_none (gw I q (by simp))
  |bl j=>cases ry;exact PySem.EqNone.ne_none_bool (gw I q (by simp))
  |int j=>obtain⟨t',rfl⟩:=ry;exact PySem.EqNone.ne_none_int (gw I q (by simp))
  |str j=>obtain⟨t',rfl⟩:=ry;exact PySem.EqNone.ne_none_str (gw I q (by simp))
  |_=>exact absurd (show false=true from hs) dQ
 |bl i=>
  cases rx
  cases y with
  |non=>cases ry;exact PySem.EqNone.ne_bool_none (gw I q (by simp))
  |bl j=>cases ry;exact ne_bool (gw I q (congrArg not AO))
  |str j=>obtain⟨t',rfl⟩:=ry;exact PySem.EqMixed.ne_bool_str (gw I q (by simp))
  |_=>exact absurd (show false=true from hs) dQ
 |int i=>
  obtain⟨t,rfl⟩:=rx
  cases y with
  |non=>cases ry;exact PySem.EqNone.ne_int_none (gw I q (by simp))
  |int j=>obtain⟨t',rfl⟩:=ry;exact ne_int (gw I q (congrArg not xB))
  |str j=>obtain⟨t',rfl⟩:=ry;exact PySem.EqMixed.ne_int_str (gw I q (by simp))
  |_=>exact absurd (show false=true from hs) dQ
 |str i=>
  obtain⟨t,rfl⟩:=rx
  cases y with
  |non=>cases ry;exact PySem.EqNone.ne_str_none (gw I q (by simp))
  |bl j=>cases ry;exact PySem.EqMixed.ne_str_bool (gw I q (by simp))
  |int j=>obtain⟨t',rfl⟩:=ry;exact PySem.EqMixed.ne_str_int (gw I q (by simp))
  |str j=>obtain⟨t',rfl⟩:=ry;exact ne_str (gw I q (congrArg not xC))
  |_=>exact absurd (show false=true from hs) dQ
 |byt i=>
  obtain⟨t,rfl⟩:=rx
  cases y with
  |byt j=>obtain⟨t',rfl⟩:=ry;exact PySem.W.ne_bytes (gw I q (congrArg not xD))
  |_=>exact absurd (show false=true from hs) dQ
 |_=>cases y<;>exact absurd (show false=true from hs) dQ
theorem Fs:OpR X (compareOp .Lt) (rI0 fun i j=> .bl (decide (i<j))):=Fp fun _ _ _ _ _ _ _ q=>lt_int q
theorem Fu:OpR X (compareOp .LtE) (rI0 fun i j=> .bl (decide (i<=j))):=Fp fun _ _ _ _ _ _ _ q=>le_int q
theorem Fv:OpR X (compareOp .Gt) (rI0 fun i j=> .bl (decide (j<i))):=Fp fun _ _ _ _ _ _ _ q=>gt_int q
theorem xE (b:Expr) {op:CmpOp} (h:autoParam (op≠ .In) L2.Internal.auD._auto_1) (h2:autoParam (op≠ .NotIn) L2.Internal.auD._auto_1):behindInMarks op b=false:=by
 have e1:(op==CmpOp.In)=false:=by cases op<;>first|rfl|exact absurd rfl h
 have e2:(op==CmpOp.NotIn)=false:=by cases op<;>first|rfl|exact absurd rfl h2
 cases b<;>simp[behindInMarks,e1,e2]
theorem nL {op:CmpOp} {r:R2} (ho:OpR X (compareOp op) r) (ha:PE X a ta) (hb:PE X b tb) (hm:behindInMarks op b=false:=by exact xE _):PE X (.Compare a [op] [b] pos) (tOp r ta tb):=by
 intro pz s σ H Q I h
 exact wpAny_Compare1 (Fo ha hb I h fun v u s2 x y H2 I2 rx ry q=>ho pz s2 σ H2 x y v u Q I2 rx ry q) hm
def DF (t:TE):TT:=fun σ H Q=>t σ H fun x H'=>∃k,x= .bl k/\Q k H'
theorem pA {op:CmpOp} {r:R2} (ho:OpR X (compareOp op) r) (ha:PE X a ta) (hb:PE X b tb) (hm:behindInMarks op b=false:=by exact xE _):PT X (.Compare a [op] [b] pos) (DF (tOp r ta tb)):=by
 intro pz s σ H Q I h
 refine wpAny_isTrue_Compare1 (thn (ha pz s σ H _ I h) fun v s1 ⟨x,H1,I1,r1,q1⟩=>thn (hb pz s1 σ H1 _ I1 q1) fun u s2 ⟨y,H2,I2,r2,q2⟩=>
  thn (ho pz s2 σ H2 x y v u _ I2 r1 r2 q2) fun c s3 ⟨z,H3,I3,r3,k,e,q3⟩=>?_) hm
 subst e
 cases r3
 exact wpAny_truthy_bool ⟨H3,I3,q3⟩
def xF (r r':R2) (ta tb tc:TE):TE:=fun σ H Q=>ta σ H fun x H1=>tb σ H1 fun y H2=>r x y H2 fun z H3=>∃k,z= .bl k/\
 (if k=true then tc σ H3 fun w' H4=>r' y w' H4 Q else Q (.bl false) H3)
theorem vm {op op':CmpOp} {r r':R2} (ho:OpR X (compareOp op) r) (ho':OpR X (compareOp op') r') (ha:PE X a ta) (hb:PE X b tb) (hc:PE X c tc)
  (hm:lastMarks [op,op'] [b,c]=false:=by with_unfolding_all rfl):PE X (.Compare a [op,op'] [b,c] pos) (xF r r' ta tb tc):=by
 intro pz s σ H Q I h
 refine Compare_chain (thn (ha pz s σ H _ I h) fun v s1 ⟨x,H1,I1,r1,q1⟩=>chain_link (thn (hb pz s1 σ H1 _ I1 q1) fun u s2 ⟨y,H2,I2,r2,q2⟩=>
  thn (ho pz s2 σ H2 x y v u _ I2 r1 r2 q2) fun d s3 ⟨z,H3,I3,r3,k,e,q3⟩=>?_)) hm
 subst e
 cases r3
 refine wpAny_truthy_bool ?_
 cases k with
 |false=>exact ite_ff ⟨.bl false,H3,I3,rfl,q3⟩
 |true=>exact ite_tt (chain_last (thn (hc pz s3 σ H3 _ I3 q3) fun w' s4 ⟨z',H4,I4,r4,q4⟩=>ho' pz s4 σ H4 y z' u w' Q I4 r2 r4 q4))
theorem oZ {op op':CmpOp} {r r':R2} (ho:OpR X (compareOp op) r) (ho':OpR X (compareOp op') r') (ha:PE X a ta) (hb:PE X b tb) (hc:PE X c tc)
  (hm:lastMarks [op,op'] [b,c]=false:=by with_unfolding_all rfl):PT X (.Compare a [op,op'] [b,c] pos) (DF (xF r r' ta tb tc)):=by
 intro pz s σ H Q I h
 refine isTrue_chain (thn (ha pz s σ H _ I h) fun v s1 ⟨x,H1,I1,r1,q1⟩=>test_link (thn (hb pz s1 σ H1 _ I1 q1) fun u s2 ⟨y,H2,I2,r2,q2⟩=>
  thn (ho pz s2 σ H2 x y v u _ I2 r1 r2 q2) fun d s3 ⟨z,H3,I3,r3,k,e,q3⟩=>?_)) hm
 subst e
 cases r3
 refine wpAny_truthy_bool ?_
 cases k with
 |false=>
  obtain⟨k',e',q'⟩:=q3
  cases e'
  exact ite_ff ⟨H3,I3,q'⟩
 |true=>
  refine ite_tt (test_last (thn (hc pz s3 σ H3 _ I3 q3) fun w' s4 ⟨z',H4,I4,r4,q4⟩=>thn (ho' pz s4 σ H4 y z' u w' _ I4 r2 r4 q4) fun d' s5 ⟨z2,H5,I5,r5,k2,e2,q5⟩=>?_))
  subst e2
  cases r5
  exact wpAny_truthy_bool ⟨H5,I5,q5⟩
theorem qV:(sizeLine:Nat)<2^63:=by rw[sizeLine_eq];decide
theorem lR:OpR X (binaryOp .Add) (fun x y H Q=>∃i j,x= .str i/\y= .str j/\i.length+j.length<=sizeLine/\Q (.str (i++j)) H):=by
 intro pz s σ H x y v u Q I rx ry h
 obtain⟨i,j,rfl,rfl,hz,q⟩:=h
 obtain⟨t,rfl⟩:=rx
 obtain⟨t',rfl⟩:=ry
 exact add_str (fun t' tk=>⟨.str (i++j),H,I.tok _,⟨_,rfl⟩,q⟩) hz
theorem pB {x:V} {us:List Value} (r:gM [x] us):∃u,us=[u]/\gR x u:=by
 cases r with
 |cons r1 r2=>cases r2;exact⟨_,rfl,r1⟩
theorem wm {x y:V} {us:List Value} (r:gM [x,y] us):∃u w',us=[u,w']/\gR x u/\gR y w':=by
 cases r with
 |cons r1 r2=>
  cases r2 with
  |cons r3 r4=>cases r4;exact⟨_,_,rfl,r1,r3⟩
theorem sO (hc:X.calm=true):nK X (.builtin "max") (fun xs H Q=>∃i j,xs=[.int i,.int j]/\Q (.int (if j>i then j else i)) H):=by
 intro pz s σ H xs us Q I r h
 obtain⟨i,j,rfl,q⟩:=h
 obtain⟨u,w',rfl,⟨t,rfl⟩,⟨t',rfl⟩⟩:=wm r
 refine max_two_ints (I.ok.hd hc) fun h' tk k=>⟨_,H,I.kept k,?_,q⟩
 by_cases hj:j>i
 ·rw[fY hj,fY hj];exact⟨_,rfl⟩
 ·rw[fN hj,fN hj];exact⟨_,rfl⟩
theorem xG:nK X (.type "int") (fun xs H Q=>(∃i,xs=[.int i]/\Q (.int i) H)\/∃k,xs=[.bl k]/\Q (.int (if k then 1 else 0)) H):=by
 intro pz s σ H xs us Q I r h
 rcases h with⟨i,rfl,q⟩|⟨k,rfl,q⟩
 ·obtain⟨u,rfl,t,rfl⟩:=pB r
  exact call_int_int ⟨.int i,H,I,⟨_,rfl⟩,q⟩
 ·obtain⟨u,rfl,r1⟩:=pB r
  cases r1
  exact call_int_bool ⟨.int (if k then 1 else 0),H,I.tok _,⟨_,rfl⟩,q⟩
def Fw (K:PySem.W.Frag) (x:V) (H:Hp) (n:Nat):Prop:=
 match x with
 | .str y=>y.length<=sizeLine/\n=y.length
 | .byt y=>y.size<=sizeLine/\n=y.size
 | .ref p=>(∃xs,SqL K H p xs/\n=xs.length)\/∃xs,SqT K H p xs/\n=xs.length
 |_=>False
theorem vn:nK X (.builtin "len") (fun xs H Q=>∃x n,xs=[x]/\Fw X.K x H n/\Q (.int n) H):=by
 intro pz s σ H xs us Q I r h
 obtain⟨x,n,rfl,e,q⟩:=h
 obtain⟨u,rfl,rx⟩:=pB r
 have hl:=qV
 have hs:sizeLine=16777216:=sizeLine_eq
 cases x with
 |str y=>
  obtain⟨t,rfl⟩:=rx
  obtain⟨hy,e'⟩:y.length<=sizeLine/\n=y.length:=e
  subst e'
  exact len_str (by lia) ⟨.int _,H,I.tok _,⟨_,rfl⟩,q⟩
 |byt y=>
  obtain⟨t,rfl⟩:=rx
  obtain⟨hy,e'⟩:y.size<=sizeLine/\n=y.size:=e
  subst e'
  exact PySem.W.len_bytes (by lia) ⟨.int _,H,I.tok _,⟨_,rfl⟩,q⟩
 |ref p=>
  cases rx
  have e':(∃xs,SqL X.K H p xs/\n=xs.length)\/∃xs,SqT X.K H p xs/\n=xs.length:=e
  rcases e' with⟨xs,hx,e'⟩|⟨xs,hx,e'⟩
  ·subst e'
   obtain⟨its,r',pl,hz⟩:=I.list hx
   have hlen:=r'.length
   exact Calls.call_len_list pl.isList (by simp only[ax];lia) ⟨.int xs.length,H,I.tok _,⟨_,by simp only[ax];rw[hlen]⟩,q⟩
  ·subst e'
   obtain⟨its,r',pl,hz⟩:=I.tuple hx
   have hlen:=r'.length
   exact len_tuple pl (by simp only[ax];lia) ⟨.int xs.length,H,I.tok _,⟨_,by simp only[ax];rw[hlen]⟩,q⟩
 |_=>exact(show False from e).elim
end
structure BR (h:Heap) (x dx C:Addr) (mA:Str->Option Value):Prop where
 obj:h.get? x=some (cC C dx)
 ns:h.Ns1 dx mA
 ne:dx≠x
theorem xH {h:Heap} {dx:Addr} {mA:Str->Option Value} (n:h.Ns1 dx mA):∃od,h.get? dx=some od/\∀name,cE name od=some (mA name):=by
 obtain⟨o,es,ep,ho,hd,hk,_,hm⟩:=n
 refine⟨o,ho,fun name=>?_⟩
 have e:=hm name
 unfold nsFind findBy at e
 rw[<-Array.find?_toList]at e
 unfold cE
 rw[hd]
 dsimp only
 split
 ·rename_i y q
  rw[q]at e
  exact congrArg some e
 ·rename_i q
  rw[q]at e
  have a:es.toList.any (·.refKey)=false:=by
   rw[List.any_eq_false]
   intro y hy
   obtain⟨z,t,hkey⟩:=hk y (Array.mem_toList_iff.mp hy)
   simp[DictEntry.refKey,hkey]
  have a':¬es.toList.any (·.refKey)=true:=by rw[a];exact dQ
  rw[fN a']
  exact congrArg some e
theorem BR.look {h:Heap} {x dx C:Addr} {mA:Str->Option Value} (I:BR h x dx C mA):∃od,PySem.W.InstAt h x (cC C dx) C (some od)/\∀name,cE name od=some (mA name):=
 let⟨od,ho,hl⟩:=xH I.ns
 ⟨od,⟨I.obj,rfl,rfl,ho⟩,hl⟩
section
variable {prog:Program} {w:World} {A:Around} {E:Value->Shared->Prop} {s:Shared} {K:PySem.W.Frag} {x dx C f:Addr} {mA:Str->Option Value} {name:Str} {v:Value}
theorem BS {expr:Bool} {Q:Value->Shared->Prop} (X:K.In s.heap) (I:BR s.heap x dx C mA) (hg:cF K C name=true) (hh:cG K C=true)
  (ha:cH K (.ref C) name=some none) (hv:mA name=some v) (hv':PySem.W.handedIn v=true) (h:Q v {s with toks:=s.toks+ 1}):
  wpAny (model prog w) A (getAttr (.ref x) name expr) Q E s:=by
 obtain⟨od,J,hl⟩:=I.look
 exact PySem.W.get_value X J (cJ hg).1 (PySem.W.findObj_own hh ha rfl (by rw[hl,hv])) hv' h
theorem zN {pl:Sem Bool} {Q:Value×List Value->Shared->Prop} (X:K.In s.heap) (I:BR s.heap x dx C mA) (hg:cF K C name=true)
  (hf:cH K (.ref C) name=some (some (.ref f))) (ht:cK K (.ref f)=true) (hv:mA name=none) (h:Q (.ref f,[.ref x]) s):
  wpAny (model prog w) A (getMethod (.ref x) name pl) Q E s:=by
 obtain⟨od,J,hl⟩:=I.look
 exact PySem.W.method_fn X J (cJ hg).1 (cJ hg).2 hf (beq_iff_eq.mp ht) (by show(cE name od).map (·.isSome)=some false;rw[hl,hv];rfl) h
theorem BU {ns:List Str} {Q:Unit->Shared->Prop} (X:K.In s.heap) (I:BR s.heap x dx C mA)
  (hs:cH K (.ref C) "__setattr__"=some (some (.builtin "object.__setattr__"))) (hp:cM K C=true) (ht:cN K C name=some none) (hh:cG K C=true)
  (hw:PySem.Within mA ns) (hsz:ns.length<=sizeLine)
  (h:∀h',BR h' x dx C (fun y=>if y=name then some v else mA y)->Heap.SameBut dx s.heap h'->Q () {s with heap:=h',toks:=s.toks+ 2}):
  wpAny (model prog w) A (setAttr (.ref x) name v) Q E s:=by
 obtain⟨od,J,hl⟩:=I.look
 refine PySem.W.set_plain X J hs (PySem.W.osa_open (s:={s with toks:=s.toks+ 1}) (r:=none) X J hp ht fun b=>?_)
 obtain⟨cd,hc,hd'⟩:=PySem.W.any_some hh
 have hx:s.heap.get? x=some ⟨.ref C,some dx,.plain,#[]⟩:=I.obj
 refine wpAny_bind (wpAny_pure (wpAny_bind (wpAny_bind (wpAny_loadPart hx (wpAny_bind (PySem.W.Looks.here (s:={s with toks:=s.toks+ 1}) (PySem.W.looks_clsIn X hc) ?_))))))
 rw[hd']
 refine wpAny_pure (a:=some dx) (wpAny_bind (wpAny_pure (wpAny_bind ?_)))
 refine wpAny_nsSet1 (s:={s with toks:=s.toks+ 1}) I.ns fun h' hn2 hs2=>?_
 obtain⟨oD,esD,epD,hoD,hdD,hcD⟩:=hn2.count (PySem.Within.cons name v hw)
 refine wpAny_bind (wpAny_lookBehind hoD (by rw[hdD];exact pastItsLine_dict (b0 hcD (by rw[ay];lia))) ?_)
 exact wpAny_pure (h _ ⟨(hs2.2 _ (Ne.symm I.ne)).trans I.obj,hn2,I.ne⟩ hs2)
theorem zO {R:Result->Shared->Prop} {vs:List Value} {kw:List (Str×Value)} (X:K.In s.heap) (hm:cO K C=true)
  (hi:cH K (.ref C) "__init__"=some (some (.ref f))) (hf:PySem.W.typeIn K (.ref f)=some (.type "function"))
  (h:codeAny (model prog w) (A.under (.builtin "type.__call__" ⟨.ref C::vs,kw⟩)) (.call (.ref f) ⟨.ref (s.heap.objs.size+ 1)::vs,kw⟩) (PySem.W.InitBack (s.heap.objs.size+ 1) R)
   {s with heap:=(s.heap.push cP).push (cC C s.heap.objs.size)}):
  codeAny (model prog w) A (.call (.ref C) ⟨vs,kw⟩) R s:=by
 obtain⟨hh,g,d,t,os⟩:=s
 exact PySem.W.make_core (PySem.W.makes_of X hm) (PySem.W.looks_findIn X hi) (fun self=>PySem.W.bind_fn X self hf) (.inl rfl) h
end
def iZ (f:Str) (v:V):List (Str×V)->List (Str×V)
 |[]=>[(f,v)]
 |(g,x)::r=>if g=f then(g,v)::r else(g,x)::iZ f v r
theorem pD (f g:Str) (v:V):∀fs:List (Str×V),(iZ f v fs).lookup g=if g=f then some v else fs.lookup g
 |[]=>by
  show az g [(f,v)]=_
  by_cases h:g=f
  ·have hb:(g==f)=true:=beq_iff_eq.mpr h
   simp only[az,hb,fY h]
  ·have hb:(g==f)=false:=beq_eq_false_iff_ne.mpr h
   simp only[az,hb,fN h]
 |(k,x)::r=>by
  have ih:=pD f g v r
  rw[show iZ f v ((k,x)::r)=(if k=f then(k,v)::r else(k,x)::iZ f v r)from rfl]
  by_cases hk:k=f
  ·rw[fY hk]
   by_cases h:g=k
   ·have hb:(g==k)=true:=beq_iff_eq.mpr h
    simp only[az,hb,fY (h.trans hk)]
   ·have hb:(g==k)=false:=beq_eq_false_iff_ne.mpr h
    simp only[az,hb,fN (fun e:g=f=>h (e.trans hk.symm))]
  ·rw[fN hk]
   by_cases h:g=k
   ·have hb:(g==k)=true:=beq_iff_eq.mpr h
    simp only[az,hb,fN (fun e:g=f=>hk (h.symm.trans e))]
   ·have hb:(g==k)=false:=beq_eq_false_iff_ne.mpr h
    simp only[az,hb]
    exact ih
theorem pE (f:Str) (v:V):∀fs:List (Str×V),f∈(iZ f v fs).map (·.1)/\∀g,g∈fs.map (·.1)->g∈(iZ f v fs).map (·.1)
 |[]=>⟨by simp[iZ],fun g h=>by simp at h⟩
 |(k,x)::r=>by
  obtain⟨i1,i2⟩:=pE f v r
  rw[show iZ f v ((k,x)::r)=(if k=f then(k,v)::r else(k,x)::iZ f v r)from rfl]
  by_cases hk:k=f
  ·rw[fY hk]
   subst hk
   exact⟨by simp,fun g h=>by simpa using h⟩
  ·rw[fN hk]
   refine⟨?_,fun g h=>?_⟩
   ·rw[aA]
    exact ai _ i1
   ·rw[aA]at h⊢
    rcases aj.mp h with e|e
    ·exact aj.mpr (.inl e)
    ·exact ai _ (i2 g e)
theorem mj (f:Str) (v:V):∀fs:List (Str×V),(iZ f v fs).length<=fs.length+ 1
 |[]=>by simp[iZ]
 |(k,x)::r=>by
  have ih:=mj f v r
  rw[show iZ f v ((k,x)::r)=(if k=f then(k,v)::r else(k,x)::iZ f v r)from rfl]
  by_cases hk:k=f
  ·rw[fY hk,ay,ay];lia
  ·rw[fN hk,ay,ay];lia
theorem rA.some_of {v:V} {o:Option Value} (r:rA (some v) o):∃u,o=some u/\gR v u:=by
 cases o with
 |none=>exact(show False from r).elim
 |some u=>exact⟨u,rfl,r⟩
theorem rA.none_of {o:Option Value} (r:rA none o):o=none:=by
 cases o with
 |none=>rfl
 |some u=>exact(show False from r).elim
theorem xI {v:V} {u:Value} (r:gR v u):PySem.W.handedIn u=true:=by
 cases v with
 |non=>cases(show u=Value.none from r);rfl
 |bl b=>cases(show u=Value.bool b from r);rfl
 |int i=>obtain⟨t,e⟩:=(show ∃t,u=Value.int i t from r);cases e;rfl
 |str x=>obtain⟨t,e⟩:=(show ∃t,u=Value.str x t from r);cases e;rfl
 |byt b=>obtain⟨t,e⟩:=(show ∃t,u=Value.bytes b t from r);cases e;rfl
 |flt b=>obtain⟨t,e⟩:=(show ∃t,u=Value.float b t from r);cases e;rfl
 |ref a=>cases(show u=Value.ref a from r);rfl
 |ty n=>cases(show u=Value.type n from r);rfl
section
variable {P:Program} {w:World} {H H':Hp} {h h':Heap} {a C dx:Addr} {fs fs':List (Str×V)}
theorem pG (hok:HOk P w H h) (e:H a=some (.ins C dx fs)):∃mA,BR h a dx C mA/\(∀f,rA (fs.lookup f) (mA f))/\PySem.Within mA (fs.map (·.1))/\fs.length<=1000/\H dx=some (.own a):=by
 obtain⟨d,z,ne,ob,mA,n,r,q⟩:=(show g0 P w H h a (.ins C dx fs)from hok a _ e)
 exact⟨mA,⟨ob,n,ne⟩,r,q,z,d⟩
end
structure Cls (K:PySem.W.Frag) (C:Addr):Prop where
 pg:cF K C Str.empty=true
 hd:cG K C=true
 po:cM K C=true
 sa:cH K (.ref C) "__setattr__"=some (some (.builtin "object.__setattr__"))
theorem Cls.get {K:PySem.W.Frag} {C:Addr} (c:Cls K C) (f:Str):cF K C f=true:=c.pg
def fO (K:PySem.W.Frag) (C:Addr) (f:Str):Prop:=cH K (.ref C) f=some none
theorem fO.taker {K:PySem.W.Frag} {C:Addr} {f:Str} (n:fO K C f):cN K C f=some none:=by
 unfold cN
 rw[show cH K (.ref C) f=some none from n]
 rfl
structure Con (K:PySem.W.Frag) (C:Addr) (f:Str) (v:V) (u:Value):Prop where
 at_:cH K (.ref C) f=some (some u)
 rel:gR v u
 get:cQ K u "__get__"=some none
 cp:PySem.W.copiedNames.contains f=false
structure E4 (K:PySem.W.Frag) (C:Addr) (m:Str) (f:Addr):Prop where
 at_:cH K (.ref C) m=some (some (.ref f))
 fn:cK K (.ref f)=true
 kp:cR K (.ref f)=true
section
variable {X:Cx} {pz:List (Addr×Obj)} {σ:St} {H:Hp} {s:Shared} {a C dx:Addr} {fs:List (Str×V)} {f:Str} {v:V} {A:Around} {E:Value->Shared->Prop}
theorem wo {b:Bool} {Q:Value->Shared->Prop} (I:Inv X pz σ H s) (e:H a=some (.ins C dx fs)) (c:Cls X.K C) (n:fO X.K C f) (l:fs.lookup f=some v)
  (h:∀u s',Inv X pz σ H s'->gR v u->Q u s'):wpAny (model X.prog X.w) A (getAttr (.ref a) f b) Q E s:=by
 obtain⟨mA,O,r,_,_,_⟩:=pG I.hok e
 obtain⟨u,hu,ru⟩:=rA.some_of (v:=v) (o:=mA f) (by rw[<-l];exact r f)
 exact BS I.kIn O (c.get f) c.hd n hu (xI ru) (h u _ (I.tok _) ru)
theorem qW {m:Str} {g:Addr} {pl:Sem Bool} {Q:Value×List Value->Shared->Prop} (I:Inv X pz σ H s) (e:H a=some (.ins C dx fs)) (c:Cls X.K C) (k:E4 X.K C m g) (l:fs.lookup m=none)
  (h:Q (.ref g,[.ref a]) s):wpAny (model X.prog X.w) A (getMethod (.ref a) m pl) Q E s:=by
 obtain⟨mA,O,r,_,_,_⟩:=pG I.hok e
 have hn:mA m=none:=rA.none_of (by rw[<-l];exact r m)
 exact zN I.kIn O (c.get m) k.at_ k.fn hn h
theorem wq {y:V} {u:Value} {Q:Unit->Shared->Prop} (I:Inv X pz σ H s) (e:H a=some (.ins C dx fs)) (c:Cls X.K C) (n:fO X.K C f) (hl:fs.length<1000) (ry:gR y u)
  (h:∀s',Inv X pz σ (upd H a (.ins C dx (iZ f y fs))) s'->Q () s'):wpAny (model X.prog X.w) A (setAttr (.ref a) f u) Q E s:=by
 obtain⟨mA,O,r,wi,_,ho⟩:=pG I.hok e
 have hz:(fs.map (·.1)).length<=sizeLine:=by rw[aB,sizeLine_eq];lia
 refine BU I.kIn O c.sa c.po n.taker c.hd wi hz fun h' O' sb=>h _ ?_
 have hd:∃o,h'.get? dx=some o:=let⟨o,_,_,e',_⟩:=O'.ns;⟨o,e'⟩
 refine I.write (x:=a) (e:=dx) (by rw[e];exact True.intro) (.inr ho) (fun b q hb z=>(sb.2 b hb).trans z) hd ?_
 refine⟨by rw[eT O.ne];exact ho,?_,O.ne,O'.obj,_,O'.ns,fun g=>?_,fun g hg=>?_⟩
 ·have:=mj f y fs;lia
 ·show rA ((iZ f y fs).lookup g) (if g=f then some u else mA g)
  rw[pD]
  by_cases q:g=f
  ·rw[fY q,fY q];exact ry
  ·rw[fN q,fN q];exact r g
 ·by_cases q:g=f
  ·rw[q];exact(pE f y fs).1
  ·refine(pE f y fs).2 g (wi g fun z=>hg ?_)
   show(if g=f then some u else mA g)=none
   rw[fN q];exact z
theorem Inv.made (I:Inv X pz σ H s):Inv X pz σ (upd (upd H s.heap.objs.size (.own (s.heap.objs.size+ 1))) (s.heap.objs.size+ 1) (.ins C s.heap.objs.size []))
  {s with heap:=(s.heap.push cP).push (cC C s.heap.objs.size)}:=by
 have e1:(s.heap.push cP).get? s.heap.objs.size=some cP:=eF s.heap rfl
 have e2:((s.heap.push cP).push (cC C s.heap.objs.size)).get? (s.heap.objs.size+ 1)=some (cC C s.heap.objs.size):=by
  have:=eF (s.heap.push cP) (o:=cC C s.heap.objs.size) rfl
  rwa[eI]at this
 have e3:(s.heap.push cP).Ns s.heap.objs.size (fun _=>none):=⟨cP,#[],_,e1,rfl,(fun e he=>absurd he (by simp)),fun _=>rfl⟩
 have I1:=I.laid (a:=s.heap.objs.size) (o:= .own (s.heap.objs.size+ 1)) (h':=s.heap.push cP) (t':=s.toks) (fun b u q=>eG _ q) (cb _) ⟨_,e1⟩
 refine I1.laid (a:=s.heap.objs.size+ 1) (o:= .ins C s.heap.objs.size []) (t':=s.toks) (fun b u q=>eG _ q) (Nat.le_of_eq (eI _ _)) ?_
 have ne:s.heap.objs.size≠s.heap.objs.size+ 1:=bZ (Nat.lt_succ_self _)
 refine⟨by rw[eT ne,eO],cc _,ne,e2,fun _=>none,(Heap.Ns1.of_empty e3).at fun o q=>eG _ q,fun _=>True.intro,fun y hy=>absurd rfl hy⟩
theorem BV {prog:Program} {w:World} {env:Env} {e:Expr} {f:Str} {pos:Pos} {s:Shared} {Q:Value->Shared->Prop} (hb:attributeBase e f env (eval e env)=eval e env)
  (h:wpAny (model prog w) A (eval e env) (fun o s₁=>wpAny (model prog w) A (getAttr o f true) Q E s₁) E s):wpAny (model prog w) A (eval (.Attribute e f pos) env) Q E s:=
 Attribute_any_ h (by rw[arm_eval_Attribute,hb])
end
def tFld (K:PySem.W.Frag) (ta:TE) (f:Str):TE:=fun σ H Q=>ta σ H fun x H1=>∃a C dx fs v,x= .ref a/\H1 a=some (.ins C dx fs)/\Cls K C/\fO K C f/\fs.lookup f=some v/\Q v H1
def GZ (K:PySem.W.Frag) (ta tv:TE) (f:Str):TS:=fun D σ H=>tv σ H fun y H1=>ta σ H1 fun x H2=>∃a C dx fs,x= .ref a/\H2 a=some (.ins C dx fs)/\Cls K C/\fO K C f/\fs.length<1000/\
 D.nx σ (upd H2 a (.ins C dx (iZ f y fs)))
section
variable {X:Cx} {o e value:Expr} {f:Str} {pos pos' tpos:Pos} {ta tv:TE}
theorem gx (he:PE X e ta) (hb:attributeBase e f X.env (eval e X.env)=eval e X.env):PE X (.Attribute e f pos) (tFld X.K ta f):=by
 intro pz s σ H Q I h
 refine BV hb (thn (he pz s σ H _ I h) fun u s1 ⟨x,H1,I1,rx,a,C,dx,fs,v,ex,ea,c,n,l,q⟩=>?_)
 subst ex
 obtain rfl:u=Value.ref a:=rx
 exact wo I1 ea c n l fun u' s2 I2 ru=>⟨v,H1,I2,ru,q⟩
theorem gE (ha:PE X o ta) (hv:PE X value tv) (hs:swapsWith value (some (.Attribute o f pos')) pos.line X.env=pure false):PS X (.Assign [.Attribute o f pos'] value pos) (GZ X.K ta tv f):=by
 intro pz s σ H D I h
 refine plainObj_wpAny_Assign_Attribute (thn (hv pz s σ H _ I h) fun u s1 ⟨y,H1,I1,ry,q⟩=>thn (ha pz s1 σ H1 _ I1 q) fun ov s2 ⟨x,H2,I2,rx,a,C,dx,fs,ex,ea,c,n,l,q2⟩=>?_) hs
 subst ex
 obtain rfl:ov=Value.ref a:=rx
 exact wq I2 ea c n l ry fun s3 I3=>⟨σ,_,I3,q2⟩
end
section
variable {X:Cx} {pz:List (Addr×Obj)} {σ:St} {H:Hp} {s:Shared} {A:Around} {E:Value->Shared->Prop} {Q:Value->Shared->Prop} {c:Value} {b:Bool}
inductive ur (K:PySem.W.Frag) (H:Hp):V->Value->Prop where
 |non:ur K H .non (.type "NoneType")
 |bl (x:Bool):ur K H (.bl x) (.type "bool")
 |int (i:Int):ur K H (.int i) (.type "int")
 |str (x:Str):ur K H (.str x) (.type "str")
 |flt (x:UInt64):ur K H (.flt x) (.type "float")
 |lst {a:Addr} {xs:List V} (e:H a=some (.lst xs)):ur K H (.ref a) (.type "list")
 |frz {a:Addr} {o:Obj} {xs:List V} (e:H a=some (.frz o (.lst xs))):ur K H (.ref a) (.type "list")
 |tup {a:Addr} {xs:List V} (e:H a=some (.tup xs)):ur K H (.ref a) (.type "tuple")
 |dK {a:Addr} {kvs:List (Key×V)} (e:H a=some (.dK kvs)):ur K H (.ref a) (.type "dict")
 |dT {a:Addr} {kvs:List (List Key×V)} (e:H a=some (.dT kvs)):ur K H (.ref a) (.type "dict")
 |ins {a C dx:Addr} {fs:List (Str×V)} (e:H a=some (.ins C dx fs)) (cl:Cls K C) (ha:cH K (.ref C) "__class__"=some (some (.builtin "object.__class__")))
   (hn:cQ K (.builtin "object.__class__") "__get__"=some (some (.builtin "getset_descriptor.__get__"))) (htk:PySem.W.takesIn K (.builtin "object.__class__")=some true)
   (hm:PySem.W.mroIn K C (.type "object")=some true):ur K H (.ref a) (.ref C)
theorem xJ {x:V} {u t:Value} (I:Inv X pz σ H s) (rx:gR x u) (ty:ur X.K H x t) (e:PySem.W.kitOne X.K t c=some b) (h:∀tk,Q (.bool b) {s with toks:=tk}):
  wpAny (model X.prog X.w) A (call (.builtin "isinstance") [u,c]) Q E s:=by
 cases ty with
 |non=>cases(show u=Value.none from rx);exact cS cU I.kIn True.intro e (fun z=>nomatch z) h
 |bl y=>cases(show u=Value.bool y from rx);exact cS cW I.kIn True.intro e (fun z=>nomatch z) h
 |int i=>obtain⟨t,q⟩:=(show ∃t,u=Value.int i t from rx);cases q;exact cS PySem.W.kitx_int I.kIn True.intro e (fun z=>nomatch z) h
 |str y=>obtain⟨t,q⟩:=(show ∃t,u=Value.str y t from rx);cases q;exact cS PySem.W.kitx_str I.kIn True.intro e (fun z=>nomatch z) h
 |flt y=>obtain⟨t,q⟩:=(show ∃t,u=Value.float y t from rx);cases q;exact cS cX I.kIn True.intro e (fun z=>nomatch z) h
 |@lst a xs ea=>
  cases(show u=Value.ref a from rx)
  obtain⟨_,_,n,_,h1⟩:=(show g0 X.prog X.w H s.heap a (.lst xs)from I.hok a _ ea)
  exact cS cY I.kIn ⟨_,h1,rfl⟩ e (fun z=>nomatch z) h
 |@frz a ob xs ea=>
  cases(show u=Value.ref a from rx)
  obtain⟨_,_,_,n,_,h1⟩:=(show g0 X.prog X.w H s.heap a (.frz ob (.lst xs))from I.hok a _ ea)
  exact cS cY I.kIn ⟨_,h1,rfl⟩ e (fun z=>nomatch z) h
 |@tup a xs ea=>
  cases(show u=Value.ref a from rx)
  obtain⟨_,_,_,p⟩:=(show g0 X.prog X.w H s.heap a (.tup xs)from I.hok a _ ea)
  obtain⟨o,h1,h2,_⟩:=p
  exact cS cZ I.kIn ⟨o,h1,h2⟩ e (fun z=>nomatch z) h
 |@dK a kvs ea=>
  cases(show u=Value.ref a from rx)
  obtain⟨_,_,vs,_,p⟩:=(show g0 X.prog X.w H s.heap a (.dK kvs)from I.hok a _ ea)
  obtain⟨o,es,ep,h1,h2,_⟩:=p
  exact cS dh I.kIn ⟨o,h1,h2.1⟩ e (fun z=>nomatch z) h
 |@dT a kvs ea=>
  cases(show u=Value.ref a from rx)
  obtain⟨_,_,xs,_,o,es,ep,h1,h2,_⟩:=(show g0 X.prog X.w H s.heap a (.dT kvs)from I.hok a _ ea)
  exact cS dh I.kIn ⟨o,h1,h2.1⟩ e (fun z=>nomatch z) h
 |@ins a C dx fs ea cl ha hn htk hm=>
  cases(show u=Value.ref a from rx)
  obtain⟨mA,O,_⟩:=pG I.hok ea
  obtain⟨od,J,_⟩:=O.look
  exact cS (PySem.W.kitx_own (cl.get _) cl.hd ha hn htk hm) I.kIn J e (fun z=>nomatch z) h
end
structure k8 (k:Nat) (A:Around):Prop where
 hd:A.handled=none
 dp:A.depth+ 2*k+ 5<recursionLimit
 un:A.units+ 16*k+ 200<cLine
theorem k8.mono {j k:Nat} {A:Around} (r:k8 k A) (h:j<=k):k8 j A:=⟨r.hd,by have:=r.dp;lia,by have:=r.un;lia⟩
theorem k8.m {j k:Nat} {A:Around} (r:k8 k A) (h:autoParam (j<=k) L2.Internal.auD._auto_1):k8 j A:=r.mono h
theorem k8.deeper {k:Nat} {A:Around} (r:k8 (k+ 1) A) (env:Env):k8 k (A.deeper env):=
 ⟨r.hd,by have:=r.dp;show A.depth+ 1+ 2*k+ 5<_;lia,by have:=r.un;show A.units+ 3+ 16*k+ 200<_;lia⟩
theorem wu {A:Around} {C:Addr} {us:List Value} {kw:List (Str×Value)}:(A.under (.builtin "type.__call__" ⟨.ref C::us,kw⟩)).depth=A.depth+ 1:=by
 first|rfl|simp[Around.under,Code.weight,Code.isCreation,Code.isGuard,Code.isCaller,Code.frames,Code.isFrame,guardIds]
theorem wx {A:Around} {C:Addr} {us:List Value} {kw:List (Str×Value)}:(A.under (.builtin "type.__call__" ⟨.ref C::us,kw⟩)).units=A.units+ 1:=by
 first|rfl|simp[Around.under,Code.cUnits,Code.frames,Code.isFrame]
theorem k8.make {k:Nat} {A:Around} (r:k8 (k+ 1) A) (C:Addr) (us:List Value) (kw:List (Str×Value)):k8 k (A.under (.builtin "type.__call__" ⟨.ref C::us,kw⟩)):=
 ⟨r.hd,by have:=r.dp;rw[wu];lia,by have:=r.un;rw[wx];lia⟩
theorem k8.depth {k:Nat} {A:Around} (r:k8 k A):A.depth<recursionLimit:=by have:=r.dp;lia
theorem k8.units {k:Nat} {A:Around} (r:k8 k A):A.units+ 64<cLine:=by have:=r.un;lia
def sP:TA:=fun _ H Q=>Q [] H
def jA (ta:TE) (tr:TA):TA:=fun σ H Q=>ta σ H fun x H1=>tr σ H1 fun xs H2=>Q (x::xs) H2
section
variable {X:Cx} {e:Expr} {es:List Expr} {te:TE} {t:TA} {pos:Pos}
theorem eP:PA X [] sP:=fun _ _ _ _ H Q I h=>Calls.spliced_nil ⟨[],H,I,.nil,h⟩
theorem eN (ha:PE X e te) (hr:PA X es t) (hs:autoParam (starEach (e::es) X.env=(false,eval e X.env)::starEach es X.env) L2.Internal.auR._auto_1):PA X (e::es) (jA te t):=by
 intro pos pz s σ H Q I h
 rw[hs]
 show wpAny _ _ (spliced ((false,eval e X.env)::backTo pos (starEach es X.env))) _ _ s
 refine Calls.spliced_cons (thn (ha pz s σ H _ I h) fun u s1 ⟨x,H1,I1,r1,q1⟩=>?_)
 exact thn (hr pos pz s1 σ H1 _ I1 q1) fun us s2 ⟨xs,H2,I2,r2,q2⟩=>⟨x::xs,H2,I2,.cons r1 r2,q2⟩
def G0 (t:TA):TE:=fun σ H Q=>t σ H fun xs H1=>xs.length<=sizeLine/\∀p,H1 p=none->Q (.ref p) (upd H1 p (.tup xs))
def E5 (t:TA):TE:=fun σ H Q=>t σ H fun xs H1=>xs.length<=sizeLine/\∀p,H1 p=none->Q (.ref p) (upd H1 p (.lst xs))
theorem fz {x1} (h:PA X es t):PE X (.Tuple es x1 pos) (G0 t):=by
 intro pz s σ H Q I hq
 refine wpAny_Tuple_spliced (thn (h pos pz s σ H _ I hq) fun us s1 ⟨xs,H1,I1,r,z,q⟩=>⟨by rw[<-r.length];exact z,?_⟩)
 have hf:H1 s1.heap.objs.size=none:=I1.hok.fresh (cb _)
 refine⟨.ref s1.heap.objs.size,upd H1 s1.heap.objs.size (.tup xs),I1.laid (t':=s1.toks) (fun b u e=>eG _ e) (cb _) ?_,rfl,q _ hf⟩
 exact⟨z,us,r,⟨_,eF _ rfl,rfl,_,rfl,rfl⟩⟩
theorem fG (h:PA X es t):PE X (.List es pos) (E5 t):=by
 intro pz s σ H Q I hq
 refine wpAny_List_spliced (thn (h pos pz s σ H _ I hq) fun us s1 ⟨xs,H1,I1,r,z,q⟩=>⟨by rw[<-r.length];exact z,?_⟩)
 have hf:H1 s1.heap.objs.size=none:=I1.hok.fresh (cb _)
 refine⟨.ref s1.heap.objs.size,upd H1 s1.heap.objs.size (.lst xs),I1.laid (t':=s1.toks) (fun b u e=>eG _ e) (cb _) ?_,rfl,q _ hf⟩
 exact⟨z,us,0,r,eF _ rfl⟩
end
abbrev Sp:=List V->Hp->VK->XK->Prop
abbrev CXT:=List Env->Hp->Shared->XK->Value->Shared->Prop
structure BW (P:Program) (w:World) (K:PySem.W.Frag) (mg:Str->Option Value) (base:Heap) (A:Around) (outer:List Env) (s:Shared) (H:Hp):Prop where
 frames:A.frames=some outer
 mod:Mod K mg base
 bs:∀b o,base.get? b=some o->s.heap.get? b=some o/\H b=none
 bsz:base.objs.size<=s.heap.objs.size
 funs:s.heap.FunFrames base outer
 frf:∀b∈frs outer,H b=none
 hok:HOk P w H s.heap
 bare:AllBare s.gens
def CE (outer:List Env) (P:Program) (w:World) (H:Hp) (s:Shared) (Q:VK) (u:Value) (s':Shared):Prop:=
 ∃v H',s'.os=s.os/\AllBare s'.gens/\Un (frs outer) [] H H' s.heap s'.heap/\HOk P w H' s'.heap/\gR v u/\Q v H'
def CR (CX:CXT) (outer:List Env) (P:Program) (w:World) (H:Hp) (s:Shared) (Q:VK) (E:XK) (r:Result) (s':Shared):Prop:=
 match r with
 | .ok (.ret u)=>CE outer P w H s Q u s'
 | .ok _=>False
 | .error e=>CX outer H s E e s'
structure qu (P:Program) (w:World) (K:PySem.W.Frag) (mg:Str->Option Value) (base:Heap) (CX:CXT) (k:Nat) (f:Addr) (fd:FuncData) (ps:List Str) (sp:Sp):Prop where
 len:∀vs H Q E,sp vs H Q E->vs.length=ps.length
 run:∀(A:Around) (outer:List Env) (s:Shared) (H:Hp) (args:Args) (us:List Value) (vs:List V) (Q:VK) (E:XK),k8 k A->BW P w K mg base A outer s H->BindsTo s fd args (ps.zip us)->gM vs us->sp vs H Q E->
  codeAny (model P w) A (.call (.ref f) args) (CR CX outer P w H s Q E) s
theorem BW.make {P:Program} {w:World} {K:PySem.W.Frag} {mg:Str->Option Value} {base:Heap} {A:Around} {outer:List Env} {s:Shared} {H:Hp} (e:BW P w K mg base A outer s H) (C:Addr) (us:List Value) (kw:List (Str×Value)):
  BW P w K mg base (A.under (.builtin "type.__call__" ⟨.ref C::us,kw⟩)) outer s H:=⟨by first|exact e.frames|(simpa[Around.under,Code.envs,Code.isFrame,pushEnvs]using e.frames),e.mod,e.bs,e.bsz,e.funs,e.frf,e.hok,e.bare⟩
section
variable {X:Cx} {pz:List (Addr×Obj)} {σ:St} {H:Hp} {s s':Shared}
theorem Inv.env0 (I:Inv X pz σ H s):BW X.prog X.w X.K X.mg X.base X.A X.stack s H:=
 ⟨I.ok.frames,I.ok.mod,I.bs,b0 I.ok.bsz I.sz,I.stack,I.stkFree,I.hok,I.bare⟩
theorem Inv.after {Q:VK} {u:Value} (I:Inv X pz σ H s) (h:CE X.stack X.prog X.w H s Q u s'):EP X pz σ Q u s':=by
 obtain⟨v,H',os,bare,un,hok,r,q⟩:=h
 obtain⟨hh,g,d,t,os'⟩:=s'
 obtain rfl:os'=s.os:=os
 exact⟨v,H',I.call (h':=hh) (g':=g) (d':=d) (t':=t) (ch:=[]) un hok bare (fun b z=>absurd z (by simp)),r,q⟩
end
def qz (sp:Sp) (dvs:List V) (E:XK) (t:TA):TE:=fun σ H Q=>t σ H fun vs H1=>sp (vs++dvs) H1 Q E
def BX (C:Addr) (m:Str) (sp:Sp) (dvs:List V) (E:XK) (ta:TE) (t:TA):TE:=fun σ H Q=>ta σ H fun x H1=>∃a dx fs,x= .ref a/\H1 a=some (.ins C dx fs)/\fs.lookup m=none/\
 t σ H1 fun vs H2=>sp (x::(vs++dvs)) H2 Q E
def DG (C:Addr) (sp:Sp) (dvs:List V) (E:XK) (t:TA):TE:=fun σ H Q=>t σ H fun vs H1=>∀x dx,H1 x=none->H1 dx=none->dx≠x->
 sp (.ref x::(vs++dvs)) (upd (upd H1 dx (.own x)) x (.ins C dx [])) (fun v H2=>v= .non/\Q (.ref x) H2) E
def lX (K:PySem.W.Frag) (fd:FuncData) (ps:List Str) (ds:List Value):Prop:=
 ∀(s:Shared) (us:List Value),K.In s.heap->(us++ds).length=ps.length->BindsTo s fd ⟨us,[]⟩ (ps.zip (us++ds))
theorem lX.all {K:PySem.W.Frag} {fd:FuncData} {ps:List Str} (h:∀us:List Value,us.length=ps.length->bindArgs fd ⟨us,[]⟩=pure (ps.zip us)):lX K fd ps []:=fun s us _ hl=>by
 rw[aC]at hl⊢
 exact .of_eq (h us hl)
def lZ (CX:CXT) (X:Cx) (E:XK):Prop:=∀(pz:List (Addr×Obj)) (σ:St) (H:Hp) (s:Shared) (e:Value) (s':Shared),Inv X pz σ H s->CX X.stack H s E e s'->X.xe e s'
section
variable {X:Cx} {CX:CXT} {k:Nat} {f C:Addr} {fd:FuncData} {ps:List Str} {sp:Sp} {dvs:List V} {ds:List Value} {E:XK} {x m:Str} {p pos apos:Pos} {e o:Expr} {es:List Expr} {ta:TE} {t:TA}
theorem sQ {pz:List (Addr×Obj)} {σ:St} {H:Hp} {s:Shared} {Q:VK} {us:List Value} {vs:List V} (F:qu X.prog X.w X.K X.mg X.base CX k f fd ps sp) (hr:k8 k X.A) (hb:lX X.K fd ps ds) (hd:gM dvs ds) (hx:lZ CX X E)
  (I:Inv X pz σ H s) (r:gM vs us) (h:sp (vs++dvs) H Q E):wpAny (model X.prog X.w) X.A (call (.ref f) us) (EP X pz σ Q) X.xe s:=by
 have r2:gM (vs++dvs) (us++ds):=r.append hd
 have hl:(us++ds).length=ps.length:=by rw[<-r2.length];exact F.len _ _ _ _ h
 refine wpAny_call (codeAny_mono (F.run X.A X.stack s H ⟨us,[]⟩ (us++ds) (vs++dvs) Q E hr I.env0 (hb s us I.kIn hl) r2 h) fun r s' hq=>?_)
 cases r with
 |error e=>exact hx pz σ H s e s' I hq
 |ok fl=>
  cases fl with
  |ret u=>exact I.after hq
  |next=>exact False.elim hq
  |brk=>exact False.elim hq
  |cont=>exact False.elim hq
theorem uu (F:qu X.prog X.w X.K X.mg X.base CX k f fd ps sp) (hr:k8 k X.A) (hg:Gl X x) (hm:X.mg x=some (.ref f)) (hk:cR X.K (.ref f)=true) (hb:lX X.K fd ps ds) (hd:gM dvs ds) (hx:lZ CX X E)
  (ha:PA X (e::es) t) (hdb:autoParam ((x==("__debug__":Str))=false) L2.Internal.auD._auto_1) (he:autoParam (starEach (e::es) X.env=(false,eval e X.env)::starEach es X.env) L2.Internal.auR._auto_1) (hpl:autoParam ((backTo pos (starEach es X.env)).any (·.1)=false) L2.Internal.auR._auto_1):
  PE X (.Call (.Name x p) (e::es) [] pos) (qz sp dvs E t):=by
 intro pz s σ H Q I h
 refine wpAny_Call_Name_kw (rB I hg hm ?_ hdb)
 refine di (h₀:=X.base) I.ok.mod.kin hk (thn (ha pos pz s σ H _ I h) fun us s1 ⟨vs,H1,I1,r,q⟩=>⟨I1.kIn,?_⟩) he hpl
 exact sQ F hr hb hd hx I1 r q
theorem fm {pl:Sem Bool} (he:PE X o ta) (c:Cls X.K C) (hm:E4 X.K C m f) (F:qu X.prog X.w X.K X.mg X.base CX k f fd ps sp) (hr:k8 k X.A) (hb:lX X.K fd ps ds) (hd:gM dvs ds) (hx:lZ CX X E) (ha:PA X (e::es) t)
  (hst:autoParam (starEach (e::es) X.env=(false,eval e X.env)::starEach es X.env) L2.Internal.auR._auto_1) (hpl:autoParam ((backTo pos (starEach es X.env)).any (·.1)=false) L2.Internal.auR._auto_1)
  (ht:eval (.Call (.Attribute o m apos) (e::es) [] pos) X.env=(do
   let ov<-eval o X.env
   standAt apos.atName
   let(f,first)<-holding [ov] (getMethod ov m pl)
   callWith pos f first (backTo pos (starEach (e::es) X.env)) (backToKw pos (keywordEach [] X.env))):=by rfl):
  PE X (.Call (.Attribute o m apos) (e::es) [] pos) (BX C m sp dvs E ta t):=by
 intro pz s σ H Q I h
 refine dj (pl:=pl) (thn (he pz s σ H _ I h) fun u s1 ⟨x,H1,I1,rx,a,dx,fs,ex,ea,l,q⟩=>?_) ht
 subst ex
 obtain rfl:u=Value.ref a:=rx
 refine qW I1 ea c hm l ?_
 refine di (first:=[.ref a]) (h₀:=X.base) I.ok.mod.kin hm.kp (thn (ha pos pz s1 σ H1 _ I1 q) fun us s2 ⟨vs,H2,I2,r,q2⟩=>⟨I2.kIn,?_⟩) hst hpl
 exact sQ (us:= .ref a::us) (vs:= .ref a::vs) F hr hb hd hx I2 (.cons rfl r) q2
theorem lT {pl:Sem Bool} (he:PE X o ta) (c:Cls X.K C) (hm:E4 X.K C m f) (F:qu X.prog X.w X.K X.mg X.base CX k f fd ps sp) (hr:k8 k X.A) (hb:lX X.K fd ps ds) (hd:gM dvs ds) (hx:lZ CX X E)
  (ht:eval (.Call (.Attribute o m apos) [] [] pos) X.env=(do
   let ov<-eval o X.env
   standAt apos.atName
   let(f,first)<-holding [ov] (getMethod ov m pl)
   callWith pos f first (backTo pos (starEach [] X.env)) (backToKw pos (keywordEach [] X.env))):=by rfl):
  PE X (.Call (.Attribute o m apos) [] [] pos) (BX C m sp dvs E ta sP):=by
 intro pz s σ H Q I h
 refine dj (pl:=pl) (thn (he pz s σ H _ I h) fun u s1 ⟨x,H1,I1,rx,a,dx,fs,ex,ea,l,q⟩=>?_) ht
 subst ex
 obtain rfl:u=Value.ref a:=rx
 refine qW I1 ea c hm l ?_
 exact dq (first:=[.ref a]) I1.kIn hm.kp (sQ (us:=[.ref a]) (vs:=[.ref a]) F hr hb hd hx I1 (.cons rfl .nil) q)
structure Mk (K:PySem.W.Frag) (C f:Addr):Prop where
 makes:cO K C=true
 init:cH K (.ref C) "__init__"=some (some (.ref f))
 fn:cK K (.ref f)=true
 kp:cR K (.ref C)=true
theorem vo {pz:List (Addr×Obj)} {σ:St} {H:Hp} {s:Shared} {Q:VK} {us:List Value} {vs:List V} (M:Mk X.K C f) (F:qu X.prog X.w X.K X.mg X.base CX k f fd ps sp) (hr:k8 (k+ 1) X.A) (hb:lX X.K fd ps ds) (hd:gM dvs ds)
  (hx:lZ CX X E) (I:Inv X pz σ H s) (r:gM vs us)
  (h:∀x dx,H x=none->H dx=none->dx≠x->sp (.ref x::(vs++dvs)) (upd (upd H dx (.own x)) x (.ins C dx [])) (fun v H2=>v= .non/\Q (.ref x) H2) E):
  wpAny (model X.prog X.w) X.A (call (.ref C) us) (EP X pz σ Q) X.xe s:=by
 have hq:=h (s.heap.objs.size+ 1) s.heap.objs.size (I.hok.fresh (Nat.le_succ _)) (I.hok.fresh (cb _)) (bZ (Nat.lt_succ_self _))
 have I2:=Inv.made (C:=C) I
 have r2:gM (V.ref (s.heap.objs.size+ 1)::(vs++dvs)) (Value.ref (s.heap.objs.size+ 1)::(us++ds)):= .cons rfl (r.append hd)
 have hl:(Value.ref (s.heap.objs.size+ 1)::us++ds).length=ps.length:=by
  have e:=r2.length
  rw[F.len _ _ _ _ hq]at e
  exact e.symm
 refine wpAny_call (zO (f:=f) I.kIn M.makes M.init (beq_iff_eq.mp M.fn) (codeAny_mono (F.run _ X.stack _ _ ⟨Value.ref (s.heap.objs.size+ 1)::us,[]⟩ (Value.ref (s.heap.objs.size+ 1)::(us++ds)) _ _ E (hr.make C us [])
  (I2.env0.make C us []) (hb _ (Value.ref (s.heap.objs.size+ 1)::us) I2.kIn hl) r2 hq) fun r s' hq'=>?_))
 cases r with
 |error e=>exact hx pz σ _ _ e s' I2 hq'
 |ok fl=>
  cases fl with
  |ret u=>
   obtain⟨v,H',I3,rv,ev,q3⟩:=I2.after hq'
   subst ev
   exact⟨rv,⟨V.ref (s.heap.objs.size+ 1),H',I3,rfl,q3⟩⟩
  |next=>exact False.elim hq'
  |brk=>exact False.elim hq'
  |cont=>exact False.elim hq'
theorem je (M:Mk X.K C f) (F:qu X.prog X.w X.K X.mg X.base CX k f fd ps sp) (hr:k8 (k+ 1) X.A) (hg:Gl X x) (hm:X.mg x=some (.ref C)) (hb:lX X.K fd ps ds) (hd:gM dvs ds) (hx:lZ CX X E)
  (ha:PA X (e::es) t) (hdb:autoParam ((x==("__debug__":Str))=false) L2.Internal.auD._auto_1) (he:autoParam (starEach (e::es) X.env=(false,eval e X.env)::starEach es X.env) L2.Internal.auR._auto_1) (hpl:autoParam ((backTo pos (starEach es X.env)).any (·.1)=false) L2.Internal.auR._auto_1):
  PE X (.Call (.Name x p) (e::es) [] pos) (DG C sp dvs E t):=by
 intro pz s σ H Q I h
 refine wpAny_Call_Name_kw (rB I hg hm ?_ hdb)
 refine di (h₀:=X.base) I.ok.mod.kin M.kp (thn (ha pos pz s σ H _ I h) fun us s1 ⟨vs,H1,I1,r,q⟩=>⟨I1.kIn,?_⟩) he hpl
 exact vo M F hr hb hd hx I1 r q
theorem zP (M:Mk X.K C f) (F:qu X.prog X.w X.K X.mg X.base CX k f fd ps sp) (hr:k8 (k+ 1) X.A) (hg:Gl X x) (hm:X.mg x=some (.ref C)) (hb:lX X.K fd ps ds) (hd:gM dvs ds) (hx:lZ CX X E)
  (hdb:autoParam ((x==("__debug__":Str))=false) L2.Internal.auD._auto_1):PE X (.Call (.Name x p) [] [] pos) (DG C sp dvs E sP):=by
 intro pz s σ H Q I h
 refine wpAny_Call_Name_kw (rB I hg hm ?_ hdb)
 exact dq I.kIn M.kp (vo (us:=[]) M F hr hb hd hx I .nil h)
end
section
variable {X:Cx} {CX:CXT} {k:Nat} {f C:Addr} {fd:FuncData} {ps ks:List Str} {sp:Sp} {E:XK} {x m:Str} {p pos apos kpos:Pos} {e o:Expr} {es:List Expr} {kws:List Keyword} {te ta:TE} {t tk:TA} {nm:Option Str}
structure G1 (K:PySem.W.Frag) (fd:FuncData) (ps ks:List Str) (g:List Value->List Value->List Value) (gV:List V->List V->List V):Prop where
 to:∀(s:Shared) (us ws:List Value),K.In s.heap->(g us ws).length=ps.length->BindsTo s fd ⟨us,ks.zip ws⟩ (ps.zip (g us ws))
 rel:∀{vs:List V} {us:List Value} {zs:List V} {ws:List Value},gM vs us->gM zs ws->gM (gV vs zs) (g us ws)
variable {g:List Value->List Value->List Value} {gV:List V->List V->List V}
end
structure fg (N P:List Str) (sc:Scope):Prop where
 kind:sc.kind= .function
 co:sc.isCoroutine=false
 gen:sc.isGenerator=false
 nd:N.Nodup
 pre:N.take P.length=P
 par:∀x∈P,sc.names.lookup x=some .local\/sc.names.lookup x=some .cell
 nofree:∀y∈sc.names,y.2≠ .free
theorem sR {kindOf:Str->Option NameKind} {x:Str}:∀{binds:List (Str×Value)} {m:Str->Option Value},(∀v,(x,v)∉binds)->bindL kindOf binds m x=m x
 |[],_,_=>rfl
 |(n,v)::r,m,h=>by
  unfold bindL
  rw[sR fun w hw=>h w (ai _ hw)]
  split
  ·have:x≠n:=by rintro rfl;exact h v ag
   simp[this]
  ·rfl
theorem sS {kindOf:Str->Option NameKind} {x:Str}:∀{binds:List (Str×Value)} {m:Str->Option Value},(∀v,(x,v)∉binds)->bindC kindOf binds m x=m x
 |[],_,_=>rfl
 |(n,v)::r,m,h=>by
  unfold bindC
  rw[sS fun w hw=>h w (ai _ hw)]
  split
  ·rfl
  ·have:x≠n:=by rintro rfl;exact h v ag
   simp[this]
theorem sT {kindOf:Str->Option NameKind} {x:Str} {v:Value}:∀{P:List Str} {vs:List Value} {i:Nat} {m:Str->Option Value},P.Nodup->P[i]?=some x->vs[i]?=some v->kindOf x=some .local->
  bindL kindOf (P.zip vs) m x=some v
 |[],_,_,_,_,h,_,_=>by simp at h
 |_::_,[],_,_,_,_,h,_=>by simp at h
 |p::P,w::vs,0,m,nd,h1,h2,hk=>by
  simp at h1 h2;subst h1;subst h2
  show bindL kindOf ((p,w)::P.zip vs) m p=_
  unfold bindL
  rw[sR fun v hv=>(aD.mp nd).1 (aE hv).1,fY hk]
  simp
 |p::P,w::vs,i+ 1,m,nd,h1,h2,hk=>by
  show bindL kindOf ((p,w)::P.zip vs) m x=_
  unfold bindL
  exact sT (i:=i) (aD.mp nd).2 (by simpa using h1) (by simpa using h2) hk
theorem sU {kindOf:Str->Option NameKind} {x:Str} {v:Value}:∀{P:List Str} {vs:List Value} {i:Nat} {m:Str->Option Value},P.Nodup->P[i]?=some x->vs[i]?=some v->kindOf x≠some .local->
  bindC kindOf (P.zip vs) m x=some v
 |[],_,_,_,_,h,_,_=>by simp at h
 |_::_,[],_,_,_,_,h,_=>by simp at h
 |p::P,w::vs,0,m,nd,h1,h2,hk=>by
  simp at h1 h2;subst h1;subst h2
  show bindC kindOf ((p,w)::P.zip vs) m p=_
  unfold bindC
  rw[sS fun v hv=>(aD.mp nd).1 (aE hv).1,fN hk]
  simp
 |p::P,w::vs,i+ 1,m,nd,h1,h2,hk=>by
  show bindC kindOf ((p,w)::P.zip vs) m x=_
  unfold bindC
  exact sU (i:=i) (aD.mp nd).2 (by simpa using h1) (by simpa using h2) hk
def start (N:List Str) (vs:List V):St:=vs.map some++aF (N.length-vs.length) none
def AQ (CX:CXT) (P:Program) (w:World) (K:PySem.W.Frag) (mg:Str->Option Value) (base:Heap) (N:List Str) (qual:Str) (scope:Scope) (f:Addr) (cd:Value) (A:Around) (outer:List Env) (s:Shared) (H:Hp) (E:XK):Cx where
 prog:=P
 w:=w
 K:=K
 mg:=mg
 base:=base
 A:=A.deeper (envOfC qual scope s.heap.objs.size f cd)
 N:=N
 s₀:=s
 H₀:=H
 env:=envOfC qual scope s.heap.objs.size f cd
 outer:=outer
 stack:=envOfC qual scope s.heap.objs.size f cd::outer
 ex:=[]
 calm:=true
 fn:=fun _=>true
 pn:=[]
 xe:=fun e s'=>wpAny (model P w) (A.deeper (envOfC qual scope s.heap.objs.size f cd)) (leaving (envOfC qual scope s.heap.objs.size f cd) e) (fun _ s''=>CX outer H s E e s'') (fun e' s''=>CX outer H s E e' s'') s'
theorem vp {sc:Scope} {n:Nat} {x:Str} (h:sc.names.lookup x=some .cell):∃c,(cellsFrom n sc.names []).lookup x=some c:=by
 have q:=du sc.names n [] (.inl h)
 exact cy.mp q
theorem xK {CX:CXT} {P:Program} {w:World} {K:PySem.W.Frag} {mg:Str->Option Value} {base:Heap} {N ps:List Str} {qual:Str} {scope:Scope} {f:Addr} {cd:Value} {A:Around} {outer:List Env} {s s1:Shared} {H:Hp} {E:XK} {us:List Value} {vs:List V}
  (S:fg N ps scope) (hd:A.handled=none) (e0:BW P w K mg base A outer s H) (hl:vs.length=ps.length) (r:gM vs us)
  (x:InCallC s s.heap.objs.size (bindL (envOfC qual scope s.heap.objs.size f cd).kindOf (ps.zip us) fun _=>none) (cellsFrom (s.heap.objs.size+ 1) scope.names []) (bindC (envOfC qual scope s.heap.objs.size f cd).kindOf (ps.zip us) fun _=>none) s1):
  Inv (AQ CX P w K mg base N qual scope f cd A outer s H E) [] (start N vs) H s1:=by
 have hpl:ps.length<=N.length:=by have:=congrArg List.length S.pre;rw[aG]at this;lia
 obtain⟨h1,tk,rfl,hk⟩:=x.done
 have noA:∀b:Addr,b∉(AQ CX P w K mg base N qual scope f cd A outer s H E).ex:=fun b z=>absurd (show b∈([]:List Addr)from z) (by simp)
 refine⟨⟨e0.mod,S.kind,rfl,rfl,cb _,fun y z c h1 h2=>?_,fun y hy=>?_,fun y c _ h=>?_,fun _=>hd,Around.frames_deeper e0.frames,.inr ⟨rfl,rfl⟩,fun b z=>absurd z (noA b),e0.bs,e0.bsz,fun b _ _=>noA b,fun b z=>absurd z (noA b),e0.funs,e0.frf⟩,
  rfl,e0.bare,Un.kept hk,⟨_,x.toInCall.ns,fun i y v h1 h2 h3=>?_⟩,fun y c h=>⟨_,x.cell y c h⟩,e0.hok.fresh (cb _),fun y c h=>?_,fun p hp=>absurd (show p∈([]:List (Addr×Obj))from hp) (by simp),e0.hok.kept hk,?_⟩
 ·exact name_of_addr x.apart (PySem.mem_of_lookup h1) (PySem.mem_of_lookup h2)
 ·have hy:scope.names.lookup y=some .cell\/scope.names.lookup y=some .free:=hy
  rcases hy with hy|hy
  ·exact vp hy
  ·exact absurd rfl (S.nofree _ (PySem.mem_of_lookup hy))
 ·exact b6 (x.above y c (PySem.mem_of_lookup h))
 ·have hi:i<vs.length:=by
   unfold start at h2
   by_cases hi:i<vs.length
   ·exact hi
   ·rw[aH (by simpa using hi)]at h2
    rw[List.getElem?_replicate]at h2
    split at h2<;>cases h2
  have ha:vs[i]?=some v:=by
   unfold start at h2
   rw[aI (by simpa using hi),aJ]at h2
   cases e:vs[i]? with
   |none=>rw[e]at h2;cases h2
   |some a=>rw[e]at h2;cases h2;rfl
  obtain⟨u,hu,rv⟩:=r.get ha
  have hp:ps[i]?=some y:=by
   rw[<-S.pre,aK (by lia)];exact h1
  have ndP:ps.Nodup:=by rw[<-S.pre];exact S.nd.sublist (List.take_sublist _ _)
  refine⟨u,rv,?_⟩
  rcases S.par y (aM hp)with k|k
  ·exact .inl ⟨k,sT ndP hp hu k⟩
  ·obtain⟨c,e⟩:=vp (n:=s.heap.objs.size+ 1) k
   refine .inr ⟨.inl k,c,e,?_⟩
   have q:=x.cell y c e
   rw[sU ndP hp hu (by show scope.names.lookup y≠_;rw[k];decide)]at q
   exact q
 ·exact e0.hok.fresh (b6 (x.above y c (PySem.mem_of_lookup h)))
 ·unfold start
  show _=N.length
  rw[aN,aB,aO]
  lia
theorem DH {CX:CXT} {P:Program} {w:World} {K:PySem.W.Frag} {mg:Str->Option Value} {base:Heap} {k:Nat} {f:Addr} {name qual:Str} {params:Arguments} {body:List Stmt} {scope:Scope} {dV kV doc pm cdv ct oc:Value} {an od:Option Addr}
  {osl:Array (Option Value)} {N ps:List Str} {sp:Sp} (lk:K.lookup f=some ⟨oc,od,.func (dw name qual params body scope dV kV doc pm an cdv ct),osl⟩) (hcd:dy K cdv qual=true) (S:fg N ps scope)
  (len:∀vs H Q E,sp vs H Q E->vs.length=ps.length)
  (hbody:∀(A:Around) (outer:List Env) (s:Shared) (H:Hp) (vs:List V) (Q:VK) (E:XK),k8 k (A.deeper (envOfC qual scope s.heap.objs.size f cdv))->sp vs H Q E->
   ∃t,PSs (AQ CX P w K mg base N qual scope f cdv A outer s H E) body t/\t {nx:=fun _ H'=>Q .non H',rt:=Q} (start N vs) H):
  qu P w K mg base CX (k+ 1) f (dw name qual params body scope dV kV doc pm an cdv ct) ps sp:=by
 refine⟨len,fun A outer s H args us vs Q E hr e0 hb r hsp=>?_⟩
 have hl:=len _ _ _ _ hsp
 have KX:K.In s.heap:=e0.mod.kin.keeps fun b o e=>(e0.bs b o e).1
 have lim:s.heap.NoLimit:=e0.mod.nolimit.keeps fun b o e=>(e0.bs b o e).1
 have hkind:∀y∈ps.zip us,scope.names.lookup y.1=some .local\/(scope.names.lookup y.1=some .cell/\((cellsFrom (s.heap.objs.size+ 1) scope.names []).lookup y.1).isSome=true):=fun⟨n,v⟩ hy=>by
  rcases S.par n (aE hy).1 with q|q
  ·exact .inl q
  ·exact .inr ⟨q,du _ _ _ (.inl q)⟩
 refine codeAny_call_function hr.depth (KX _ _ lk) rfl S.co S.gen rfl (PySem.W.codeRec_of KX hcd) (hb _ _ _ _ ?_)
 refine wpAny_newFunctionEnv_cells S.kind hkind fun env he s1 x=>?_
 subst he
 refine⟨lim.keeps x.toInCall.keep,codeAny_func ?_⟩
 obtain⟨t,ht,hq⟩:=hbody A outer s H vs Q E (hr.deeper _) hsp
 have I:Inv (AQ CX P w K mg base N qual scope f cdv A outer s H E) [] (start N vs) H s1:=xK S hr.hd e0 hl r x
 refine wpAny_mono (ht [] s1 (start N vs) H _ I hq) (fun fl s' hs=>?_) fun e s' hs=>hs
 have fin:∀{σ':St} {H':Hp} {v:V} {u:Value},Inv (AQ CX P w K mg base N qual scope f cdv A outer s H E) [] σ' H' s'->gR v u->Q v H'->CE outer P w H s Q u s':=
  fun{σ' H' v u} J rv q=>⟨v,H',J.os,J.bare,J.base,J.hok,rv,q⟩
 cases fl with
 |ret u=>
  obtain⟨v,σ',H',J,rv,q⟩:=hs
  exact fin J rv q
 |next=>
  obtain⟨σ',H',J,q⟩:=hs
  exact fin (v:=V.non) (u:=Value.none) J rfl q
 |brk=>
  obtain⟨_,_,_,q⟩:=hs
  exact False.elim q
 |cont=>
  obtain⟨_,_,_,q⟩:=hs
  exact False.elim q
section
variable {X:Cx} {x:Str} {p pos:Pos} {e:Expr} {es:List Expr} {t:TA} {id T:String} {r:List V->Hp->VK->Prop}
def tCB (r:List V->Hp->VK->Prop) (t:TA):TE:=fun σ H Q=>t σ H fun vs H1=>r vs H1 Q
theorem fJ (hc:nK X (.builtin id) r) (hg:Gl X x) (hm:X.mg x=none) (hv:bootBuiltins x=some (.builtin id)) (ha:PA X (e::es) t) (hn:autoParam (x≠"__name__") L2.Internal.auD._auto_1) (hdb:autoParam ((x==("__debug__":Str))=false) L2.Internal.auD._auto_1)
  (he:autoParam (starEach (e::es) X.env=(false,eval e X.env)::starEach es X.env) L2.Internal.auR._auto_1) (hpl:autoParam ((backTo pos (starEach es X.env)).any (·.1)=false) L2.Internal.auR._auto_1):PE X (.Call (.Name x p) (e::es) [] pos) (tCB r t):=by
 intro pz s σ H Q I h
 refine wpAny_Call_Name_kw (mZ I hg hm hv ?_ hn hdb)
 exact PyProof.Rows.callWith_builtin1 (thn (ha pos pz s σ H _ I h) fun us s1 ⟨vs,H1,I1,r1,q1⟩=>hc pz s1 σ H1 vs us Q I1 r1 q1) he hpl
theorem gf (hc:nK X (.type T) r) (hg:Gl X x) (hm:X.mg x=none) (hv:bootBuiltins x=some (.type T)) (ha:PA X (e::es) t) (hn:autoParam (x≠"__name__") L2.Internal.auD._auto_1) (hdb:autoParam ((x==("__debug__":Str))=false) L2.Internal.auD._auto_1)
  (he:autoParam (starEach (e::es) X.env=(false,eval e X.env)::starEach es X.env) L2.Internal.auR._auto_1) (hpl:autoParam ((backTo pos (starEach es X.env)).any (·.1)=false) L2.Internal.auR._auto_1):PE X (.Call (.Name x p) (e::es) [] pos) (tCB r t):=by
 intro pz s σ H Q I h
 refine wpAny_Call_Name_kw (mZ I hg hm hv ?_ hn hdb)
 exact eL (thn (ha pos pz s σ H _ I h) fun us s1 ⟨vs,H1,I1,r1,q1⟩=>hc pz s1 σ H1 vs us Q I1 r1 q1) he hpl
end
section
variable {κ:Type} [DecidableEq κ]
def kr (kvs:List (κ×V)) (k:κ):Option V:=(kvs.find? fun kv=>decide (kv.1=k)).map (·.2)
def vq (kvs:List (κ×V)) (k:κ) (v:V):List (κ×V):=
 if(kvs.any fun kv=>decide (kv.1=k))=true then kvs.map (fun kv=>if kv.1=k then(kv.1,v)else kv)else kvs++[(k,v)]
theorem iL {p:κ×V} {r:List (κ×V)} {k:κ} (e:p.1=k):kr (p::r) k=some p.2:=by simp[kr,aP,e]
theorem iM {p:κ×V} {r:List (κ×V)} {k:κ} (e:¬p.1=k):kr (p::r) k=kr r k:=by simp[kr,aP,e]
theorem pb (k:κ):∀kvs:List (κ×V),(kvs.any fun kv=>decide (kv.1=k))=(kr kvs k).isSome
 |[]=>rfl
 |p::r=>by
  rw[aQ]
  by_cases e:p.1=k
  ·simp only[iL e,gQ e,Bool.true_or,Option.isSome_some]
  ·rw[iM e,gA e,Bool.false_or];exact pb k r
theorem vt (k j:κ) (y:V):∀kvs:List (κ×V),kr (kvs.map fun kv=>if kv.1=k then(kv.1,y)else kv) j=(kr kvs j).map fun x=>if j=k then y else x
 |[]=>rfl
 |p::r=>by
  have ih:=vt k j y r
  rw[aA]
  by_cases h:p.1=k
  ·rw[fY h]
   by_cases e:p.1=j
   ·rw[iL (p:=(p.1,y)) e,iL e,cz,fY (e.symm.trans h)]
   ·rw[iM (p:=(p.1,y)) e,iM e,ih]
  ·rw[fN h]
   by_cases e:p.1=j
   ·rw[iL (p:=p) e,iL e,cz,fN (fun z=>h (e.trans z))]
   ·rw[iM (p:=p) e,iM e,ih]
theorem sV (k j:κ) (y:V):∀kvs:List (κ×V),kr kvs k=none->kr (kvs++[(k,y)]) j=if j=k then some y else kr kvs j
 |[],_=>by
  by_cases e:k=j
  ·rw[fY e.symm];exact iL (p:=(k,y)) e
  ·rw[fN (fun z=>e z.symm)];exact iM (p:=(k,y)) e
 |p::r,hn=>by
  rw[aR]
  have hk:¬p.1=k:=fun z=>by rw[iL z]at hn;cases hn
  rw[iM hk]at hn
  have ih:=sV k j y r hn
  by_cases e:p.1=j
  ·rw[iL e,iL e,fN (fun z=>hk (e.trans z))]
  ·rw[iM e,iM e,ih]
theorem rG (kvs:List (κ×V)) (k j:κ) (y:V):kr (vq kvs k y) j=if j=k then some y else kr kvs j:=by
 unfold vq
 by_cases a:(kvs.any fun kv=>decide (kv.1=k))=true
 ·rw[fY a,vt]
  rw[pb]at a
  by_cases e:j=k
  ·obtain⟨x,hx⟩:=cy.mp a
   rw[fY e,e,hx,cz,fY rfl]
  ·rw[fN e]
   cases kr kvs j with
   |none=>rfl
   |some x=>rw[cz,fN e]
 ·rw[fN a]
  refine sV k j y kvs ?_
  rw[pb]at a
  cases q:kr kvs k with
  |none=>rfl
  |some x=>rw[q]at a;exact(a rfl).elim
theorem ky (kvs:List (κ×V)) (k:κ) (v:V):(vq kvs k v).length<=kvs.length+ 1:=by
 unfold vq
 split
 ·rw[aB];lia
 ·rw[aN,ay,List.length_nil];lia
theorem rA.isSome_eq {o:Option V} {u:Option Value} (r:rA o u):o.isSome=u.isSome:=by
 cases o with
 |none=>cases u with
  |none=>rfl
  |some _=>exact(show False from r).elim
 |some _=>cases u with
  |none=>exact(show False from r).elim
  |some _=>rfl
theorem rA.getD {o:Option V} {u:Option Value} {d:V} {d':Value} (r:rA o u) (rd:gR d d'):gR (o.getD d) (u.getD d'):=by
 cases o with
 |none=>cases u with
  |none=>exact rd
  |some _=>exact(show False from r).elim
 |some _=>cases u with
  |none=>exact(show False from r).elim
  |some _=>exact r
theorem KV.val {kvs:List (κ×V)} {vs:List (κ×Value)} (r:KV kvs vs) (k:κ):rA (kr kvs k) (valueAt vs k):=by
 unfold KV at r
 induction r with
 |nil=>exact True.intro
 |@cons p q ps qs h t ih=>
  obtain⟨h1,h2⟩:=h
  by_cases e:p.1=k
  ·have e':q.1=k:=h1.symm.trans e
   have b:valueAt (q::qs) k=some q.2:=by simp[valueAt,aP,e']
   rw[iL e,b];exact h2
  ·have e':¬q.1=k:=fun z=>e (h1.trans z)
   have b:valueAt (q::qs) k=valueAt qs k:=by simp[valueAt,aP,e']
   rw[iM e,b];exact ih
theorem KV.any {kvs:List (κ×V)} {vs:List (κ×Value)} (r:KV kvs vs) (k:κ):(kvs.any fun kv=>decide (kv.1=k))=vs.any fun kv=>decide (kv.1=k):=by
 unfold KV at r
 induction r with
 |nil=>rfl
 |cons h t ih=>rw[aQ,aQ,ih,h.1]
theorem KV.repl {kvs:List (κ×V)} {vs:List (κ×Value)} (r:KV kvs vs) (k:κ) {y:V} {u:Value} (ry:gR y u):
  KV (kvs.map fun kv=>if kv.1=k then(kv.1,y)else kv) (vs.map fun kv=>if kv.1=k then(kv.1,u)else kv):=by
 unfold KV at r⊢
 induction r with
 |nil=>exact .nil
 |@cons p q ps qs h t ih=>
  rw[aA,aA]
  refine .cons ?_ ih
  obtain⟨h1,h2⟩:=h
  by_cases e:p.1=k
  ·rw[fY e,fY (h1.symm.trans e)];exact⟨h1,ry⟩
  ·rw[fN e,fN (fun z=>e (h1.trans z))];exact⟨h1,h2⟩
theorem KV.put {kvs:List (κ×V)} {vs:List (κ×Value)} (r:KV kvs vs) (k:κ) {y:V} {u:Value} (ry:gR y u):KV (vq kvs k y) (stored vs k u):=by
 unfold vq stored
 rw[r.any k]
 by_cases e:(vs.any fun kv=>decide (kv.1=k))=true
 ·rw[fY e,fY e];exact r.repl k ry
 ·rw[fN e,fN e];exact Paired.snoc r ⟨rfl,ry⟩
theorem KV.length {kvs:List (κ×V)} {vs:List (κ×Value)} (r:KV kvs vs):kvs.length=vs.length:=Paired.length r
end
theorem xM {P:Program} {w:World} {k:Key} {u:Value} (r:gR (kV k) u):(iK P w).is k u=true:=by
 cases k with
 |inl i=>obtain⟨t,e⟩:=(show ∃t,u=Value.int i t from r);subst e;exact uj P w i t
 |inr x=>obtain⟨t,e⟩:=(show ∃t,u=Value.str x t from r);subst e;exact uk P w x t
theorem sX {P:Program} {w:World}:∀{ks:List Key} {us:List Value},gM (ks.map kV) us->ItemsAre (iK P w) ks us
 |[],_,r=>by rw[aS]at r;cases r;exact .nil
 |k::ks,_,r=>by
  rw[aA]at r
  cases r with
  |cons h t=>exact .cons (xM h) (sX t)
abbrev KT (H:Hp):List (List Key×V)->List (List Key×Addr×Value)->Prop:=Paired fun p q=>p.1=q.1/\H q.2.1=some (.tup (p.1.map kV))/\gR p.2 q.2.2
theorem KT.val {H:Hp} {kvs:List (List Key×V)} {xs:List (List Key×Addr×Value)} (r:KT H kvs xs) (k:List Key):rA (kr kvs k) ((atKey xs k).map (·.2)):=by
 induction r with
 |nil=>exact True.intro
 |@cons p q ps qs h t ih=>
  obtain⟨h1,_,h2⟩:=h
  by_cases e:p.1=k
  ·have e':q.1=k:=h1.symm.trans e
   have b:atKey (q::qs) k=some q.2:=by simp[atKey,aP,e']
   rw[iL e,b];exact h2
  ·have e':¬q.1=k:=fun z=>e (h1.trans z)
   have b:atKey (q::qs) k=atKey qs k:=by simp[atKey,aP,e']
   rw[iM e,b];exact ih
theorem KT.repl {H:Hp} {kvs:List (List Key×V)} {xs:List (List Key×Addr×Value)} (r:KT H kvs xs) (k:List Key) {y:V} {u:Value} (ry:gR y u):
  KT H (kvs.map fun kv=>if kv.1=k then(kv.1,y)else kv) (xs.map (putAt k u)):=by
 induction r with
 |nil=>exact .nil
 |@cons p q ps qs h t ih=>
  rw[aA,aA]
  refine .cons ?_ ih
  obtain⟨h1,h2,h3⟩:=h
  unfold putAt
  by_cases e:p.1=k
  ·rw[fY e,fY (h1.symm.trans e)];exact⟨h1,h2,ry⟩
  ·rw[fN e,fN (fun z=>e (h1.trans z))];exact⟨h1,h2,h3⟩
theorem KT.put {H:Hp} {kvs:List (List Key×V)} {xs:List (List Key×Addr×Value)} (r:KT H kvs xs) (k:List Key) {b:Addr} {y:V} {u:Value} (hb:H b=some (.tup (k.map kV))) (ry:gR y u):
  KT H (vq kvs k y) (storedH xs k b u):=by
 have e:(kvs.any fun kv=>decide (kv.1=k))=(atKey xs k).isSome:=by
  rw[pb,(r.val k).isSome_eq,Option.isSome_map]
 unfold vq storedH
 rw[e]
 by_cases q:(atKey xs k).isSome=true
 ·rw[fY q,fY q];exact r.repl k ry
 ·rw[fN q,fN q];exact Paired.snoc r ⟨rfl,hb,ry⟩
theorem KT.keeps {H H':Hp} {kvs:List (List Key×V)} {xs:List (List Key×Addr×Value)} (r:KT H kvs xs) (ht:∀b ys,H b=some (.tup ys)->H' b=some (.tup ys)):KT H' kvs xs:=
 Paired.mapP r fun _ _ z=>⟨z.1,ht _ _ z.2.1,z.2.2⟩
section
variable {P:Program} {w:World} {H:Hp} {h:Heap} {a:Addr}
theorem DI {u:HO} (ok:HOk P w H h) (e:Rd H a u):g0 P w H h a u:=e.ok ok
theorem zQ {kvs:List (Key×V)} (ok:HOk P w H h) (e:Rd H a (.dK kvs)):kvs.length<=sizeLine/\(a==sysModules)=false/\∃vs,KV kvs vs/\h.DictOf (iK P w) a vs:=
 show g0 P w H h a (.dK kvs)from DI ok e
theorem Fy {kvs:List (Key×V)} (ok:HOk P w H h) (e:H a=some (.dK kvs)):kvs.length<=sizeLine/\(a==sysModules)=false/\∃vs,KV kvs vs/\h.DictOf (iK P w) a vs:=zQ ok (.inl e)
theorem vv {ks:List Key} (ok:HOk P w H h) (e:H a=some (.tup (ks.map kV))):(tupleKind (iK P w)).is h ks a:=by
 obtain⟨_,its,r,o,h1,h2,n,h3,_⟩:=(show g0 P w H h a (.tup (ks.map kV))from ok a _ e)
 exact⟨o,its.toArray,n,h1,h2,h3,by simpa using sX r⟩
theorem zR {kvs:List (List Key×V)} (ok:HOk P w H h) (e:Rd H a (.dT kvs)):kvs.length<=sizeLine/\(a==sysModules)=false/\
  ∃xs,KT H kvs xs/\h.DictOfH (tupleKind (iK P w)) a xs:=by
 obtain⟨z,y,xs,r,o,es,ep,h1,h2,h3,h4,h5⟩:=(show g0 P w H h a (.dT kvs)from DI ok e)
 refine⟨z,y,xs,r,o,es,ep,h1,h2,h3,h4,fun x hx=>?_,h5⟩
 have all:∀{l:List (List Key×V)} {m:List (List Key×Addr×Value)},KT H l m->∀x∈m,(tupleKind (iK P w)).is h x.1 x.2.1:=by
  intro l m q
  induction q with
  |nil=>intro x hx;exact nomatch hx
  |@cons p q ps qs hq t ih=>
   intro x hx
   rcases aj.mp hx with e|hx
   ·subst e
    exact vv ok (by rw[<-hq.1];exact hq.2.1)
   ·exact ih x hx
 exact all r x hx
theorem FA {kvs:List (List Key×V)} (ok:HOk P w H h) (e:H a=some (.dT kvs)):kvs.length<=sizeLine/\(a==sysModules)=false/\
  ∃xs,KT H kvs xs/\h.DictOfH (tupleKind (iK P w)) a xs:=zR ok (.inl e)
end
def sY (H:Hp) (a:Addr) (y:V) (r:Option V):Prop:=
 (∃kvs k,Rd H a (.dK kvs)/\y=kV k/\r=kr kvs k)\/∃kvs k b,Rd H a (.dT kvs)/\y= .ref b/\H b=some (.tup (k.map kV))/\r=kr kvs k
def xN (H:Hp) (a:Addr) (y v:V) (H':Hp):Prop:=
 (∃kvs k,H a=some (.dK kvs)/\y=kV k/\kvs.length<sizeLine/\H'=upd H a (.dK (vq kvs k v)))\/
 ∃kvs k b,H a=some (.dT kvs)/\y= .ref b/\H b=some (.tup (k.map kV))/\kvs.length<sizeLine/\H'=upd H a (.dT (vq kvs k v))
theorem sY.k {H:Hp} {a:Addr} {kvs:List (Key×V)} {k:Key} (e:H a=some (.dK kvs)):sY H a (kV k) (kr kvs k):= .inl ⟨kvs,k,.inl e,rfl,rfl⟩
theorem sY.t {H:Hp} {a b:Addr} {kvs:List (List Key×V)} {k:List Key} (e:H a=some (.dT kvs)) (eb:H b=some (.tup (k.map kV))):sY H a (.ref b) (kr kvs k):= .inr ⟨kvs,k,b,.inl e,rfl,eb,rfl⟩
theorem xN.k {H:Hp} {a:Addr} {kvs:List (Key×V)} {k:Key} {v:V} (e:H a=some (.dK kvs)) (hl:kvs.length<sizeLine):xN H a (kV k) v (upd H a (.dK (vq kvs k v))):= .inl ⟨kvs,k,e,rfl,hl,rfl⟩
theorem xN.t {H:Hp} {a b:Addr} {kvs:List (List Key×V)} {k:List Key} {v:V} (e:H a=some (.dT kvs)) (eb:H b=some (.tup (k.map kV))) (hl:kvs.length<sizeLine):
  xN H a (.ref b) v (upd H a (.dT (vq kvs k v))):= .inr ⟨kvs,k,b,e,rfl,eb,hl,rfl⟩
section
variable {X:Cx} {pz:List (Addr×Obj)} {σ:St} {H:Hp} {s:Shared} {a:Addr} {y v:V} {u r:Value} {o:Option V} {A:Around} {E:Value->Shared->Prop}
theorem Inv.big (I:Inv X pz σ H s):sysModules<s.heap.objs.size:=by
 have h:mainGlobals<s.heap.objs.size:=(I.mod.glob.keeps I.bk).lt
 exact Nat.lt_trans (by decide) h
theorem xO {Q:Value->Shared->Prop} (hu:A.units+ 1<cLine) (I:Inv X pz σ H s) (g:sY H a y (some v)) (ry:gR y u) (h:∀w' s',Inv X pz σ H s'->gR v w'->Q w' s'):
  wpAny (model X.prog X.w) A (getItem (.ref a) u) Q E s:=by
 rcases g with⟨kvs,k,e,ey,l⟩|⟨kvs,k,b,e,ey,eb,l⟩
 ·subst ey
  obtain⟨z,hd,vs,rel,dd⟩:=zQ I.hok e
  obtain⟨w',hw,rw'⟩:=rA.some_of (v:=v) (o:=valueAt vs k) (by rw[l];exact rel.val k)
  exact wpAny_getItem_of (xM ry) dd.mapOf hw (h w' _ (I.tok _) rw')
 ·subst ey
  cases(show u=Value.ref b from ry)
  obtain⟨z,hd,xs,rel,dd⟩:=zR I.hok e
  obtain⟨w',hw,rw'⟩:=rA.some_of (v:=v) (o:=(atKey xs k).map (·.2)) (by rw[l];exact rel.val k)
  obtain⟨p,hp,hp2⟩:=cB.mp hw
  refine wpAny_getItem_heap (tupleKind_room_in1 hu) (vv I.hok eb) dd hp ?_
  rw[hp2]
  exact h w' _ (I.tok _) rw'
theorem BY {Q:Value->Shared->Prop} (hu:A.units+ 1<cLine) (I:Inv X pz σ H s) (g:sY H a y o) (ry:gR y u) (h:∀s',Inv X pz σ H s'->Q (.bool (!o.isSome)) s'):
  wpAny (model X.prog X.w) A (compareOp .NotIn u (.ref a)) Q E s:=by
 rcases g with⟨kvs,k,e,ey,l⟩|⟨kvs,k,b,e,ey,eb,l⟩
 ·subst ey
  obtain⟨z,hd,vs,rel,dd⟩:=zQ I.hok e
  refine wpAny_notIn_of (xM ry) hd dd.mapOf ?_
  rw[<-(rel.val k).isSome_eq,<-l]
  exact h _ (I.tok _)
 ·subst ey
  cases(show u=Value.ref b from ry)
  obtain⟨z,hd,xs,rel,dd⟩:=zR I.hok e
  refine wpAny_notIn_heap (tupleKind_room_in1 hu) (vv I.hok eb) hd dd ?_
  have q:=(rel.val k).isSome_eq
  rw[Option.isSome_map]at q
  rw[<-q,<-l]
  exact h _ (I.tok _)
theorem xP {h':Heap} {t':Nat} {ob:HO} (I:Inv X pz σ H s) (mu:Mut (H a)) (hs:Heap.SameBut a s.heap h') (he:∃q,h'.get? a=some q) (new:g0 X.prog X.w (upd H a ob) h' a ob):
  Inv X pz σ (upd H a ob) {s with heap:=h',toks:=t'}:=
 I.write (x:=a) (e:=a) mu (.inl rfl) (fun b q hb z=>(hs.2 b hb).trans z) he new
theorem DJ {P:Program} {w:World} {H':Hp} {h':Heap} {kvs:List (Key×V)} {vs:List (Key×Value)} (z:kvs.length<=sizeLine) (hd:(a==sysModules)=false) (rel:KV kvs vs) (dd:h'.DictOf (iK P w) a vs):
  g0 P w H' h' a (.dK kvs):=⟨z,hd,vs,rel,dd⟩
theorem xQ {H':Hp} {Q:Unit->Shared->Prop} (hu:A.units+ 1<cLine) (I:Inv X pz σ H s) (g:xN H a y v H') (ry:gR y u) (rv:gR v r) (h:∀s',Inv X pz σ H' s'->Q () s'):
  wpAny (model X.prog X.w) A (setItem (.ref a) u r) Q E s:=by
 rcases g with⟨kvs,k,e,ey,l,eH⟩|⟨kvs,k,b,e,ey,eb,l,eH⟩
 ·subst ey eH
  obtain⟨z,hd,vs,rel,dd⟩:=Fy I.hok e
  have hz:vs.length<=sizeLine:=by rw[<-rel.length];exact z
  have hl:(vq kvs k v).length<=sizeLine:=by have:=ky kvs k v;lia
  refine wpAny_setItem_pairs (hsz:=hz) (xM ry) dd fun h' dd' hs=>h _ ?_
  have he:∃q,h'.get? a=some q:=let⟨q,_,_,hq,_⟩:=dd';⟨q,hq⟩
  exact xP I (by rw[e];exact True.intro) hs he (DJ hl hd (rel.put k rv) dd')
 ·subst ey eH
  cases(show u=Value.ref b from ry)
  obtain⟨z,hd,xs,rel,dd⟩:=FA I.hok e
  have hz:xs.length<=sizeLine:=by rw[<-Paired.length rel];exact z
  have hl:(vq kvs k v).length<=sizeLine:=by have:=ky kvs k v;lia
  refine wpAny_setItem_heap (hsz:=hz) (tupleKind_room_in1 hu) (vv I.hok eb) dd fun h' dd' hs=>h _ ?_
  obtain⟨q,es,ep,hq,h2,h3,h4,_,h5⟩:=dd'
  refine xP I (by rw[e];exact True.intro) hs ⟨q,hq⟩ ⟨hl,hd,_,(rel.put k eb rv).keeps fun c ys ec=>?_,q,es,ep,hq,h2,h3,h4,h5⟩
  rw[eT (jm ec e (fun z=>nomatch z))]
  exact ec
end
section
variable {X:Cx} {pz:List (Addr×Obj)} {σ:St} {H:Hp} {s:Shared} {a:Addr} {kvs:List (Key×V)} {k:Key} {u:Value} {A:Around} {E:Value->Shared->Prop}
end
def FC (i:Expr):Prop:=∀ov iv,subscripted i false ov iv=operate [ov,iv] (getItem ov iv)
theorem xR {prog:Program} {w:World} {A:Around} {E:Value->Shared->Prop} {s:Shared} {env:Env} {value slice:Expr} {pos:Pos} {T id:String} {Q:Value->Shared->Prop}
  (hl:typeLookup (.type T) "__getitem__"=pure (some (.builtin id))) (hs:FC slice)
  (h:wpAny (model prog w) A (eval value env) (fun o s₁=>wpAny (model prog w) A (eval slice env) (fun i s₂=>s₂.TypeIs o T/\wpAny (model prog w) A (getItem o i) Q E s₂) E s₁) E s):
  wpAny (model prog w) A (eval (.Subscript value slice pos) env) Q E s:=by
 refine Subscript_ (wpAny_mono h (fun o s₁ h₁=>wpAny_mono h₁ (fun i s₂ h₂=>?_) fun _ _ x=>x) fun _ _ x=>x)
 obtain⟨hT,h₂⟩:=h₂
 unfold subscriptTail
 refine wpAny_bind ?_
 rw[getitemInPython_of_ne hT.not_modules]
 refine wpAny_bind (wpAny_specialOf hT hl ?_)
 have fin:wpAny (model prog w) A (subscripted slice false o i) (fun r s₃=>wpAny (model prog w) A (letTemporaryGo value o r >>= fun _=>pure r) Q E s₃) E s₂:=by
  rw[hs o i]
  exact wpAny_operating (wpAny_mono h₂ (fun r s₃ h₃=>wpAny_bind (wpAny_letTemporaryGo (wpAny_pure h₃))) fun _ _ x=>x)
 first
  |exact wpAny_pure (wpAny_bind fin)
  |exact wpAny_bind (wpAny_pure (wpAny_bind fin))
  |exact wpAny_bind fin
theorem uw {X:Cx} {pz:List (Addr×Obj)} {σ:St} {H:Hp} {s:Shared} {a:Addr} {y:V} {o:Option V} (I:Inv X pz σ H s) (g:sY H a y o):s.TypeIs (.ref a) "dict":=by
 rcases g with⟨kvs,k,e,_,_⟩|⟨kvs,k,b,e,_,_,_⟩
 ·obtain⟨_,_,vs,_,dd⟩:=zQ I.hok e
  exact dd.typeIs
 ·obtain⟨_,_,xs,_,dd⟩:=zR I.hok e
  exact dd.typeIs
def FD (td ty:TE):TE:=fun σ H Q=>td σ H fun x H1=>ty σ H1 fun y H2=>∃a v,x= .ref a/\sY H2 a y (some v)/\Q v H2
def BZ (ty td:TE):TE:=fun σ H Q=>ty σ H fun y H1=>td σ H1 fun x H2=>∃a o,x= .ref a/\sY H2 a y o/\Q (.bl (!o.isSome)) H2
def FE (td ty tv:TE):TS:=fun D σ H=>tv σ H fun v H1=>td σ H1 fun x H2=>ty σ H2 fun y H3=>∃a H4,x= .ref a/\xN H3 a y v H4/\D.nx σ H4
section
variable {X:Cx} {o i e value:Expr} {pos pos' tpos:Pos} {td ty tv:TE}
theorem uz (hu:X.A.units+ 1<cLine) (ho:PE X o td) (hi:PE X i ty) (hs:FC i:=by exact fun _ _=>rfl):PE X (.Subscript o i pos) (FD td ty):=by
 intro pz s σ H Q I h
 refine xR dE.lookup hs (thn (ho pz s σ H _ I h) fun u s1 ⟨x,H1,I1,rx,q1⟩=>thn (hi pz s1 σ H1 _ I1 q1) fun iv s2 ⟨y,H2,I2,ry,a,v,ex,g,q2⟩=>?_)
 subst ex
 obtain rfl:u=Value.ref a:=rx
 exact⟨uw I2 g,xO hu I2 g ry fun w' s3 I3 rw'=>⟨v,H2,I3,rw',q2⟩⟩
theorem xS (hu:X.A.units+ 1<cLine) (hi:PE X i ty) (ho:PE X o td):PC X .NotIn i o (BZ ty td):=by
 intro pz s σ H Q I h
 refine thn (hi pz s σ H _ I h) fun iv s1 ⟨y,H1,I1,ry,q1⟩=>thn (ho pz s1 σ H1 _ I1 q1) fun u s2 ⟨x,H2,I2,rx,a,ov,ex,g,q2⟩=>?_
 subst ex
 obtain rfl:u=Value.ref a:=rx
 exact BY hu I2 g ry fun s3 I3=>⟨.bl (!ov.isSome),H2,I3,rfl,q2⟩
theorem rH (hu:X.A.units+ 1<cLine) (ho:PE X o td) (hi:PE X i ty) (hv:PE X value tv) (hs:swapsWith value (some (.Subscript o i pos')) pos.line X.env=pure false):
  PS X (.Assign [.Subscript o i pos'] value pos) (FE td ty tv):=by
 intro pz s σ H D I h
 refine wpAny_Assign_Subscript (thn (hv pz s σ H _ I h) fun r s1 ⟨v,H1,I1,rv,q1⟩=>thn (ho pz s1 σ H1 _ I1 q1) fun u s2 ⟨x,H2,I2,rx,q2⟩=>thn (hi pz s2 σ H2 _ I2 q2) fun iv s3 ⟨y,H3,I3,ry,a,H4,ex,g,q3⟩=>?_) hs
 subst ex
 obtain rfl:u=Value.ref a:=rx
 exact xQ hu I3 g ry rv fun s4 I4=>⟨σ,H4,I4,q3⟩
end
theorem zS {P:Program} {w:World} {H:Hp} (h:Heap) (hb:sysModules<h.objs.size):g0 P w H (h.push {cls:= .type "dict",data:= .dict #[]}) h.objs.size (.dK []):=
 ⟨cc _,beq_eq_false_iff_ne.mpr (Ne.symm (bZ hb)),[],.nil,Heap.DictOf.new h⟩
def DM:TE:=fun _ H Q=>∀p,H p=none->Q (.ref p) (upd H p (.dK []))
section
variable {X:Cx} {pos:Pos}
theorem rJ:PE X (.Dict [] [] pos) DM:=fun pz s σ H Q I h=>
 wpAny_Dict_empty ⟨.ref s.heap.objs.size,_,I.laid (a:=s.heap.objs.size) (o:= .dK []) (t':=s.toks) (fun _ _ q=>eG _ q) (cb _) (zS s.heap I.big),rfl,h _ (I.hok.fresh (cb _))⟩
end
structure M1 (X:Cx) (o:Expr) (m:Str) (apos:Pos) (e:Expr) (cpos:Pos):Prop where
 base:attributeBase o m X.env (eval o X.env)=eval o X.env
 few:((backTo cpos (starEach [e] X.env)).all (fun x=>!x.1)&&(backToKw cpos (keywordEach [] X.env)).all (fun x=>x.1.isSome)
  &&decide (([e]:List Expr).length+([]:List Keyword).length+(if([]:List Keyword).isEmpty then 0 else 1)<30))=true
 line:(apos.endLine==cpos.line)=true
 trees:backTo cpos (starEach [e] X.env)=[(false,eval e X.env)]
structure M2 (X:Cx) (o:Expr) (m:Str) (apos:Pos) (e f:Expr) (cpos:Pos):Prop where
 base:attributeBase o m X.env (eval o X.env)=eval o X.env
 few:((backTo cpos (starEach [e,f] X.env)).all (fun x=>!x.1)&&(backToKw cpos (keywordEach [] X.env)).all (fun x=>x.1.isSome)
  &&decide (([e,f]:List Expr).length+([]:List Keyword).length+(if([]:List Keyword).isEmpty then 0 else 1)<30))=true
 line:(apos.endLine==cpos.line)=true
 trees:backTo cpos (starEach [e,f] X.env)=[(false,eval e X.env),(false,eval f X.env)]
section
variable {X:Cx} {pz:List (Addr×Obj)} {σ:St} {H:Hp} {s:Shared} {a:Addr} {y d:V} {u r:Value} {o:Option V} {A:Around} {E:Value->Shared->Prop}
end
section
variable {X:Cx} {o e f:Expr} {apos cpos:Pos} {td ty tx:TE}
end
section
variable {X:Cx} {pz:List (Addr×Obj)} {σ:St} {H:Hp} {s:Shared} {a:Addr} {kvs:List (Key×V)} {A:Around} {E:Value->Shared->Prop}
end
section
variable {X:Cx} {pz:List (Addr×Obj)} {σ:St} {H:Hp} {s:Shared} {a:Addr} {y:V} {u:Value} {A:Around} {E:Value->Shared->Prop}
end
end L2.Internal
namespace HT.Internal
open PySem PyProof.Rows
section
open PySem.SeqAt
open PySem.AutoSeq1 (wpAny_loadPart')
open PySem.MeetsSeq PySem.MeetsSeq2 PySem.MeetsSeq3
end
section
variable {prog:Program} {w:World} {A:Around} {E:Value->Shared->Prop} {s:Shared}
theorem cat_tup {t b:Addr} {vs ws:List Value} {Q:Value->Shared->Prop} (ht:IsTup s.heap t vs.toArray) (hb:IsTup s.heap b ws.toArray) (hv:vs≠[])
  (h1:ws=[]->Q (.ref t) s) (h2:ws≠[]->Q (.ref s.heap.objs.size) {s with heap:=s.heap.push {cls:= .type "tuple",data:= .seq (vs++ws).toArray}})
  (hsz:vs.length+ws.length<=sizeLine):wpAny (model prog w) A (binaryOp .Add (.ref t) (.ref b)) Q E s:=by
 obtain⟨⟨cls,dd,data,sl⟩,ho,hc,n,hd⟩:=id ht
 obtain⟨⟨cls2,dd2,data2,sl2⟩,ho2,hc2,n2,hd2⟩:=id hb
 simp only at hc hd hc2 hd2
 subst hc hd hc2 hd2
 have e:vs.toArray++ws.toArray=(vs++ws).toArray:=by simp
 by_cases hw:ws=[]
 ·exact concat_meets ⟨_,ho,rfl⟩ ⟨_,ho2,rfl⟩ noFill_tuple_add seq_tuple_add dF dG (dH _ _)
   (tuple_addW1 t b vs.toArray ws.toArray n n2 dd dd2 sl sl2 (by simpa using hv) (by simp[hw])) ⟨ho,ho2,h1 hw⟩
 ·refine concat_meets ⟨_,ho,rfl⟩ ⟨_,ho2,rfl⟩ noFill_tuple_add seq_tuple_add dF dG (dH _ _)
   (tuple_addW2 t b vs.toArray ws.toArray n n2 dd dd2 sl sl2 (by simpa using hv) (by simpa using hw) (by rw[ax,ax];exact hsz)) ⟨ho,ho2,?_⟩
  rw[e]
  exact h2 hw
def sIx (n d:Nat):Option Int->Nat
 |none=>d
 |some v=>if v<0 then(v+(n:Int)).toNat else min v.toNat n
theorem sIx_none (n d:Nat):sIx n d none=d:=rfl
theorem sIx_nat (n d k:Nat):sIx n d (some (k:Int))=min k n:=by
 show(if(k:Int)<0 then((k:Int)+(n:Int)).toNat else min (k:Int).toNat n)=min k n
 rw[fN (by lia),dZ]
theorem DN (n d:Nat) (hd:d<=n) (o:Option Int):sIx n d o<=n:=by
 cases o with
 |none=>exact hd
 |some v=>
  show(if v<0 then(v+(n:Int)).toNat else min v.toNat n)<=n
  by_cases hv:v<0
  ·rw[fY hv];lia
  ·rw[fN hv];exact Nat.min_le_right _ _
theorem xT (v:Int) (n d:Nat):(if v<0 then max (v+(n:Int)) 0 else min v (n:Int))=((sIx n d (some v):Nat):Int):=by
 show(if v<0 then max (v+(n:Int)) 0 else min v (n:Int))=(((if v<0 then(v+(n:Int)).toNat else min v.toNat n):Nat):Int)
 by_cases hv:v<0
 ·simp only[fY hv];lia
 ·simp only[fN hv];lia
theorem wy (lo hi:Option Int) (n:Nat):Builtin.Slice.sliceAdjust lo hi 1 (n:Int)=(((sIx n 0 lo:Nat):Int),((sIx n n hi:Nat):Int)):=by
 have h1:¬((1:Int)<0):=by lia
 unfold Builtin.Slice.sliceAdjust
 simp only[h1,if_false]
 refine Prod.ext ?_ ?_
 ·cases lo with
  |none=>rfl
  |some v=>exact xT v n 0
 ·cases hi with
  |none=>rfl
  |some v=>exact xT v n n
theorem wz (i j:Nat):Builtin.Slice.slicePlaces (i:Int) (j:Int) 1=j-i:=by
 unfold Builtin.Slice.slicePlaces
 have h1:(1:Int)>0:=by lia
 simp only[h1,if_true,Int.ediv_one]
 split<;>lia
theorem qX {v:Value} {o:Option Int} {Q:Option Int->Shared->Prop} (p:IsPart v o) (h:Q o s):wpAny (model prog w) A (Builtin.Slice.slicePartIndex v) Q E s:=by
 cases p with
 |none=>exact slicePart_none h
 |int i t=>exact slicePart_int h
theorem kU {sl:Addr} {vl vu:Value} {lo hi:Option Int} {n:Nat} {Q:Int×Int×Nat->Shared->Prop} (hs:s.heap.IsSliceOf sl vl vu .none) (pl:IsPart vl lo) (pu:IsPart vu hi)
  (h:Q (((sIx n 0 lo:Nat):Int),1,sIx n n hi-sIx n 0 lo) s):wpAny (model prog w) A (Builtin.Slice.sliceApplied (.ref sl) (pure (n:Int))) Q E s:=by
 obtain⟨os,hos,hcs,hds⟩:=id hs
 unfold Builtin.Slice.sliceApplied Builtin.Slice.sliceFields
 refine wpAny_bind (wpAny_bind (wpAny_field hos hds (x:=vl) rfl (wpAny_bind (wpAny_field hos hds (x:=vu) rfl (wpAny_bind (wpAny_field hos hds (x:= .none) rfl (wpAny_pure ?_)))))))
 refine wpAny_bind (slicePart_none ?_)
 show wpAny _ _ (if((1:Int)==0)=true then _ else _) _ _ s
 rw[fN (by decide)]
 refine wpAny_bind (qX pl (wpAny_bind (qX pu (wpAny_bind (wpAny_pure ?_)))))
 show wpAny _ _ (match Builtin.Slice.sliceAdjust lo hi 1 (n:Int)with|(lo,hi)=>pure (lo,(1:Int),Builtin.Slice.slicePlaces lo hi 1)) _ _ s
 rw[wy lo hi n]
 show wpAny _ _ (pure (((sIx n 0 lo:Nat):Int),(1:Int),Builtin.Slice.slicePlaces ((sIx n 0 lo:Nat):Int) ((sIx n n hi:Nat):Int) 1)) _ _ s
 rw[wz]
 exact wpAny_pure h
theorem zT (xs:Array Value) (i k:Nat):((aa k).filterMap fun(m:Nat)=>xs[((i:Int)+(m:Int)*1).toNat]?).toArray=((xs.toList.drop i).take k).toArray:=by
 have e:(fun(m:Nat)=>xs[((i:Int)+(m:Int)*1).toNat]?)=fun m=>xs[i+m]?:=by
  funext m
  have:((i:Int)+(m:Int)*1).toNat=i+m:=by lia
  rw[this]
 rw[e]
 have:=pick_run xs i k
 rw[List.filterMap_map]at this
 have e2:((fun x=>xs[x]?)∘fun x=>i+x)=fun m=>xs[i+m]?:=rfl
 rw[e2]at this
 rw[this]
theorem getItem_tuple_cut {t sl:Addr} {items:Array Value} {vl vu:Value} {lo hi:Option Int} {Q:Value->Shared->Prop} (ht:IsTup s.heap t items) (hs:s.heap.IsSliceOf sl vl vu .none) (pl:IsPart vl lo) (pu:IsPart vu hi)
  (hw:¬(sIx items.size 0 lo=0/\sIx items.size items.size hi=items.size))
  (h:Q (.ref s.heap.objs.size) {s with heap:=s.heap.push {cls:= .type "tuple",data:= .seq ((items.toList.drop (sIx items.size 0 lo)).take (sIx items.size items.size hi-sIx items.size 0 lo)).toArray}})
  (hsz:items.size<=sizeLine):wpAny (model prog w) A (getItem (.ref t) (.ref sl)) Q E s:=by
 have htake:sizeOk (.seq ((items.toList.drop (sIx items.size 0 lo)).take (sIx items.size items.size hi-sIx items.size 0 lo)).toArray):=by
  show((items.toList.drop (sIx items.size 0 lo)).take (sIx items.size items.size hi-sIx items.size 0 lo)).toArray.size<=sizeLine
  rw[ax,aG,aT,dY]
  lia
 have hj:sIx items.size items.size hi<=items.size:=DN _ _ (cb _) hi
 obtain⟨os,hos,hcs,hds⟩:=id hs
 have hTs:s.TypeIs (.ref sl) "slice":=⟨os,hos,hcs⟩
 unfold getItem
 try with_reducible refine wpAny_holding ?_
 first|refine wpAny_bind (wpAny_pure ?_)|skip
 refine wpAny_bind (wpAny_sequenceKey ht.typeIs (by decide) ?_)
 refine wpAny_bind (wpAny_callSpecial?_slot (name:=Str.ofString "__getitem__") ht.typeIs eM
  (wpAny_call_entry eM ht.typeIs entry_tuple_getitem ?_ (args_tuple_getitem _ _)))
 show wpAny _ _ (Builtin.Tuple.tupleItemsOf (.ref t) >>= _) _ _ s
 refine wpAny_bind (tupleItemsOf_ ht ?_)
 refine wpAny_bind (wpAny_typeOf hTs ?_)
 rw[fY (by decide)]
 refine wpAny_bind (kU hs pl pu ?_)
 have hno:¬((((sIx items.size 0 lo:Nat):Int)==0&&(1:Int)==1&&(sIx items.size items.size hi-sIx items.size 0 lo)==items.size)=true):=by
  intro q
  rw[dS,dS]at q
  have q1:((sIx items.size 0 lo:Nat):Int)=0:=eq_of_beq q.1.1
  have q2:sIx items.size items.size hi-sIx items.size 0 lo=items.size:=eq_of_beq q.2
  exact hw ⟨by lia,by lia⟩
 show wpAny _ _ (if(((sIx items.size 0 lo:Nat):Int)==0&&(1:Int)==1&&(sIx items.size items.size hi-sIx items.size 0 lo)==items.size)=true then _ else _) _ _ s
 rw[fN hno,zT]
 first
  |exact wpAny_bind (m:=Builtin.Tuple.tupleExact _) (wpAny_newObj_type (wpAny_pure ⟨_,rfl,wpAny_pure h⟩) htake)
  |exact wpAny_bind (m:=Builtin.Tuple.tupleExact _) (wpAny_newObj_type (wpAny_bind (wpAny_pure (wpAny_pure ⟨_,rfl,wpAny_pure h⟩))) htake)
  |exact wpAny_bind (wpAny_bind (m:=Builtin.Tuple.tupleExact _) (wpAny_newObj_type (wpAny_pure (wpAny_pure ⟨_,rfl,wpAny_pure h⟩)) htake))
  |exact wpAny_bind (wpAny_bind (m:=Builtin.Tuple.tupleExact _) (wpAny_newObj_type (wpAny_pure ⟨_,rfl,wpAny_pure h⟩) htake))
end
end HT.Internal
namespace L2.Internal
open PySem PySem.Spec PyProof.Rows
abbrev TO:=St->Hp->(Option Int->Hp->Prop)->Prop
def PO (X:Cx) (e:Option Expr) (t:TO):Prop:=
 ∀(pz:List (Addr×Obj)) (s:Shared) (σ:St) (H:Hp) (Q:Option Int->Hp->Prop),Inv X pz σ H s->t σ H Q->
  wpAny (model X.prog X.w) X.A (evalPart e X.env) (fun u s'=>∃o H',Inv X pz σ H' s'/\IsPart u o/\Q o H') X.xe s
def B0:TO:=fun _ H Q=>Q none H
def FF (t:TE):TO:=fun σ H Q=>t σ H fun x H1=>∃i,x= .int i/\Q (some i) H1
theorem qY {ns:List Int}:∀{us:List Value},gM (ns.map V.int) us->IntsAre us ns:=by
 induction ns with
 |nil=>intro us r;rw[aS]at r;cases r;exact .nil
 |cons n ns ih=>
  intro us r
  rw[aA]at r
  cases r with
  |cons r1 r2=>
   obtain⟨t,e⟩:=r1
   subst e
   exact .cons n t (ih r2)
section
variable {X:Cx} {e:Expr} {te:TE} {lo hi:Option Expr} {tl th:TO} {pos p2:Pos}
theorem nM:PO X none B0:=by
 intro pz s σ H Q I h
 rw[evalPart_none]
 exact wpAny_pure ⟨none,H,I,.none,h⟩
theorem k9 (h:PE X e te):PO X (some e) (FF te):=by
 intro pz s σ H Q I hw
 rw[evalPart_some]
 refine thn (h pz s σ H _ I hw) fun u s1 ⟨x,H1,I1,r1,q1⟩=>?_
 obtain⟨i,rfl,q⟩:=q1
 obtain⟨t,rfl⟩:=r1
 exact⟨some i,H1,I1,.int i t,q⟩
def SlR (X:Cx) (r:V->Option Int->Option Int->Hp->VK->Prop):Prop:=
 ∀(pz:List (Addr×Obj)) (s:Shared) (σ:St) (H:Hp) (x:V) (v vl vu:Value) (lo hi:Option Int) (sl:Addr) (Q:VK),Inv X pz σ H s->gR x v->s.heap.IsSliceOf sl vl vu .none->IsPart vl lo->IsPart vu hi->r x lo hi H Q->
  ∃T id,typeLookup (.type T) "__getitem__"=pure (some (.builtin id))/\s.TypeIs v T/\wpAny (model X.prog X.w) X.A (getItem v (.ref sl)) (EP X pz σ Q) X.xe s
def tSl (r:V->Option Int->Option Int->Hp->VK->Prop) (te:TE) (tl th:TO):TE:=fun σ H Q=>te σ H fun x H1=>tl σ H1 fun l H2=>th σ H2 fun u H3=>r x l u H3 Q
theorem kz {r:V->Option Int->Option Int->Hp->VK->Prop} (hr:SlR X r) (he:PE X e te) (hl:PO X lo tl) (hu:PO X hi th):PE X (.Subscript e (.Slice lo hi none p2) pos) (tSl r te tl th):=by
 intro pz s σ H Q I h
 refine Subscript_ (thn (he pz s σ H _ I h) fun v s1 ⟨x,H1,I1,r1,q1⟩=>?_)
 refine wpAny_Slice (thn (hl pz s1 σ H1 _ I1 q1) fun vl s2 ⟨l,H2,I2,pl,q2⟩=>thn (hu pz s2 σ H2 _ I2 q2) fun vu s3 ⟨u,H3,I3,pu,q3⟩=>?_)
 rw[evalPart_none]
 refine wpAny_pure ?_
 have I4:Inv X pz σ H3 {s3 with heap:=s3.heap.push {cls:= .type "slice",data:= .fields #[vl,vu,.none]}}:=I3.kept (t':=s3.toks) fun b ob q=>eG _ q
 obtain⟨T,id,hT,ht,hg⟩:=hr pz {s3 with heap:=s3.heap.push {cls:= .type "slice",data:= .fields #[vl,vu,.none]}} σ H3 x v vl vu l u s3.heap.objs.size Q I4 r1 (Heap.IsSliceOf.new ..) pl pu q3
 show wpAny (model X.prog X.w) X.A (subscriptTail e (.Slice lo hi none p2) v (.ref s3.heap.objs.size)) (EP X pz σ Q) X.xe {s3 with heap:=s3.heap.push {cls:= .type "slice",data:= .fields #[vl,vu,.none]}}
 exact tail_any (ops:=[.ref s3.heap.objs.size,v]) ht hT hg (by with_unfolding_all rfl)
def qA (xs:List V) (lo hi:Option Int):List V:=(xs.drop (HT.Internal.sIx xs.length 0 lo)).take (HT.Internal.sIx xs.length xs.length hi-HT.Internal.sIx xs.length 0 lo)
theorem pH (xs:List V) (lo hi:Option Int):(qA xs lo hi).length<=xs.length:=by
 unfold qA
 rw[aG,aT]
 lia
def rSlT (K:PySem.W.Frag):V->Option Int->Option Int->Hp->VK->Prop:=fun x lo hi H Q=>∃a xs,x= .ref a/\SqT K H a xs/\
 ¬(HT.Internal.sIx xs.length 0 lo=0/\HT.Internal.sIx xs.length xs.length hi=xs.length)/\∀p,H p=none->Q (.ref p) (upd H p (.tup (qA xs lo hi)))
theorem DO:SlR X (rSlT X.K):=by
 intro pz s σ H x v vl vu lo hi sl Q I rx hs pl pu h
 obtain⟨a,xs,rfl,hx,hw,q⟩:=h
 cases rx
 obtain⟨its,r,ht,hz⟩:=I.tuple hx
 have hlen:its.toArray.size=xs.length:=by rw[ax];exact r.length.symm
 refine⟨"tuple",_,eM.lookup,ht.typeIs,?_⟩
 refine HT.Internal.getItem_tuple_cut ht hs pl pu (by rw[hlen];exact hw) ?_ (by rw[hlen];exact hz)
 rw[hlen]
 refine⟨.ref s.heap.objs.size,_,I.laid (t':=s.toks) (o:= .tup (qA xs lo hi)) (fun b ob q=>eG _ q) (cb _) ?_,rfl,q _ (I.hok.fresh (cb _))⟩
 exact⟨b0 (pH xs lo hi) hz,_,(r.drop (HT.Internal.sIx xs.length 0 lo)).take (HT.Internal.sIx xs.length xs.length hi-HT.Internal.sIx xs.length 0 lo),uh.new _ _⟩
theorem gM.nil_iff {xs:List V} {us:List Value} (r:gM xs us):us=[]↔xs=[]:=by
 cases r with
 |nil=>simp
 |cons _ _=>simp
end
def ixN (n:Nat) (i:Int):Option Nat:=if 0<=i then(if i<n then some i.toNat else none)else if-(n:Int)<=i then some (i+n).toNat else none
def atI {α:Type} (xs:List α) (i:Int):Option α:=(ixN xs.length i).bind fun j=>xs[j]?
theorem xU {n:Nat} {i:Int} {j:Nat} (h:ixN n i=some j):seqIndex? i n=some j/\j<n/\-(n:Int)<=i/\i<n:=by
 unfold ixN at h
 by_cases h0:0<=i
 ·rw[fY h0]at h
  by_cases h1:i<n
  ·rw[fY h1]at h
   have e:i.toNat=j:=cx.inj h
   exact⟨by rw[seqIndex_of h0 h1,e],by lia,by lia,h1⟩
  ·rw[fN h1]at h;cases h
 ·rw[fN h0]at h
  by_cases h1: -(n:Int)<=i
  ·rw[fY h1]at h
   have e:(i+n).toNat=j:=cx.inj h
   exact⟨by rw[seqIndex_neg (by lia) h1,e],by lia,h1,by lia⟩
  ·rw[fN h1]at h;cases h
theorem uB {α:Type} {xs:List α} {i:Int} {v:α} (h:atI xs i=some v):∃j,seqIndex? i xs.length=some j/\xs[j]?=some v/\j<xs.length/\-(xs.length:Int)<=i/\i<xs.length:=by
 unfold atI at h
 cases e:ixN xs.length i with
 |none=>rw[e]at h;cases h
 |some j=>
  rw[e]at h
  obtain⟨h1,h2,h3,h4⟩:=xU e
  exact⟨j,h1,h,h2,h3,h4⟩
theorem eU {α:Type} {xs:List α} {j:Nat} {v:α} (h:xs[j]?=some v):atI xs (j:Int)=some v:=by
 have hj:j<xs.length:=(aq.mp h).1
 have e:ixN xs.length (j:Int)=some j:=by
  unfold ixN
  rw[fY (by lia),fY (by lia)];simp
 unfold atI;rw[e];exact h
def B1 (b:Expr):Prop:=∀o i,subscripted b false o i=operate [o,i] (getItem o i)
def IxR (X:Cx) (r:R2):Prop:=
 ∀(value slice:Expr) (pz:List (Addr×Obj)) (s:Shared) (σ:St) (H:Hp) (x y:V) (v u:Value) (Q:VK),Inv X pz σ H s->gR x v->gR y u->r x y H Q->
  subscripted slice false v u=operate [v,u] (getItem v u)->wpAny (model X.prog X.w) X.A (subscriptTail value slice v u) (EP X pz σ Q) X.xe s
def MtR (X:Cx) (id:String) (r:V->List V->Hp->VK->Prop):Prop:=
 ∀(pz:List (Addr×Obj)) (s:Shared) (σ:St) (H:Hp) (x:V) (xs:List V) (v:Value) (us:List Value) (Q:VK),Inv X pz σ H s->gR x v->gM xs us->r x xs H Q->
  wpAny (model X.prog X.w) X.A (call (.builtin id) (v::us)) (EP X pz σ Q) X.xe s
section
variable {X:Cx} {a b:Expr} {ta tb:TE} {pos:Pos}
theorem eZ {r:R2} (hr:IxR X r) (ha:PE X a ta) (hb:PE X b tb) (hs:B1 b:=by exact fun _ _=>rfl):PE X (.Subscript a b pos) (tOp r ta tb):=by
 intro pz s σ H Q I h
 exact Subscript_ (Fo ha hb I h fun v u s2 x y H2 I2 rx ry q=>hr a b pz s2 σ H2 x y v u Q I2 rx ry q (hs _ _))
def rIxL (K:PySem.W.Frag):R2:=fun x y H Q=>∃p xs i v,x= .ref p/\y= .int i/\SqL K H p xs/\atI xs i=some v/\Q v H
def rIxT (K:PySem.W.Frag):R2:=fun x y H Q=>∃p xs i v,x= .ref p/\y= .int i/\SqT K H p xs/\atI xs i=some v/\Q v H
def rIxS:R2:=fun x y H Q=>∃z i c,x= .str z/\y= .int i/\z.length<=sizeLine/\atI z.cps.toList i=some c/\Q (.str ⟨#[c]⟩) H
theorem B4:IxR X (rIxL X.K):=by
 intro value slice pz s σ H x y v u Q I rx ry h hs
 obtain⟨p,xs,i,z,rfl,rfl,hq,he,q⟩:=h
 cases rx
 obtain⟨t,rfl⟩:=ry
 obtain⟨its,r,pl,hz⟩:=I.list hq
 obtain⟨j,h1,h2,h3,h4,h5⟩:=uB he
 obtain⟨w,ew,rw'⟩:=r.get h2
 have hl:=r.length
 have hn:=qV
 have fin:EP X pz σ Q w s:=⟨z,H,I,rw',q⟩
 by_cases h0:0<=i
 ·have hj:i.toNat=j:=by
   rw[seqIndex_of h0 h5]at h1
   exact cx.inj h1
  exact item_listR pl.isList h0 (by lia) (by rw[hj];simpa using ew) fin hs
 ·have hj:(i+(its.toArray.size:Int)).toNat=j:=by
   rw[seqIndex_neg (by lia) h4]at h1
   rw[ax,<-hl]
   exact cx.inj h1
  exact subscriptTail_builtinR (x:=w) pl.isList.typeIs slot_list_getitem.lookup
   (wpAny_getItem_list_neg (Q:=fun r s'=>r=w/\EP X pz σ Q r s') pl.isList (by lia) (by rw[ax]<;>lia) (by lia) (by rw[hj];simpa using ew) ⟨rfl,fin⟩) hs
theorem DP:IxR X (rIxT X.K):=by
 intro value slice pz s σ H x y v u Q I rx ry h hs
 obtain⟨p,xs,i,z,rfl,rfl,hq,he,q⟩:=h
 cases rx
 obtain⟨t,rfl⟩:=ry
 obtain⟨its,r,pl,hz⟩:=I.tuple hq
 obtain⟨j,h1,h2,h3,h4,h5⟩:=uB he
 obtain⟨w,ew,rw'⟩:=r.get h2
 have hl:=r.length
 have hn:=qV
 have fin:EP X pz σ Q w s:=⟨z,H,I,rw',q⟩
 exact subscriptTail_builtinR (x:=w) pl.typeIs slot_tuple_getitem.lookup
  (getItem_tuple (j:=j) (Q:=fun r s'=>r=w/\EP X pz σ Q r s') pl (by lia) (by lia) (by rw[ax,<-hl];exact h1) (by simpa using ew) ⟨rfl,fin⟩) hs
theorem xV:IxR X rIxS:=by
 intro value slice pz s σ H x y v u Q I rx ry h hs
 obtain⟨z,i,c,rfl,rfl,hz,he,q⟩:=h
 obtain⟨t,rfl⟩:=rx
 obtain⟨t',rfl⟩:=ry
 obtain⟨j,h1,h2,h3,h4,h5⟩:=uB he
 have hl:z.cps.toList.length=z.length:=by simp[Str.length]
 rw[hl]at h1 h4 h5
 have hn:=qV
 exact tail_any (typeIs_str s z t) slot_str_getitem.lookup (getItem_str (c:=c) (by
  have e1:decide (i< -(2^63:Int))=false:=gA (by lia)
  have e2:decide (i≥2^63)=false:=gA (by lia)
  rw[e1,e2,Bool.or_false]) (by rw[h1];simpa using h2) ⟨.str ⟨#[c]⟩,H,I.tok _,⟨_,rfl⟩,q⟩) hs
theorem wA (its:List Value) (n j:Nat) (u:Value):Obj.mapSeq (·.setIfInBounds j u) {cls:= .type "list",data:= .seq its.toArray n}={cls:= .type "list",data:= .seq (its.set j u).toArray n}:=by
 simp[Obj.mapSeq]
theorem Inv.lst {pz:List (Addr×Obj)} {σ:St} {H:Hp} {s:Shared} {p:Addr} {xs:List V} (I:Inv X pz σ H s) (h:H p=some (.lst xs)):
  ∃(its:List Value) (n:Nat),gM xs its/\s.heap.get? p=some {cls:= .type "list",data:= .seq its.toArray n}/\xs.length<=sizeLine:=by
 obtain⟨z,its,n,r,e⟩:=I.hok p _ h
 exact⟨its,n,r,e,z⟩
theorem Inv.lstUpd {pz:List (Addr×Obj)} {σ:St} {H:Hp} {s:Shared} {p:Addr} {xs ys:List V} {its its':List Value} {n n':Nat} {f:Obj->Obj} (I:Inv X pz σ H s) (h:H p=some (.lst xs))
  (ho:s.heap.get? p=some {cls:= .type "list",data:= .seq its.toArray n}) (hf:f {cls:= .type "list",data:= .seq its.toArray n}={cls:= .type "list",data:= .seq its'.toArray n'}) (r:gM ys its') (hz:ys.length<=sizeLine) (t:Nat):
  Inv X pz σ (upd H p (.lst ys)) {s with heap:=s.heap.update p f,toks:=t}:=by
 have e:(s.heap.update p f).get? p=some {cls:= .type "list",data:= .seq its'.toArray n'}:=by
  rw[eJ f ho (by rw[hf]<;>rfl),hf]
 refine I.write (x:=p) (e:=p) (by rw[h];trivial) (.inl rfl) (fun b u hb q=>(eK _ _ (Ne.symm hb)).trans q) ⟨_,e⟩ ?_
 exact⟨hz,its',n',r,e⟩
def DQ:V->V->V->Hp->(Hp->Prop)->Prop:=fun o i v H Q=>∃p xs k j,o= .ref p/\i= .int k/\H p=some (.lst xs)/\ixN xs.length k=some j/\Q (upd H p (.lst (xs.set j v)))
theorem lU:GU X DQ:=by
 intro pz s σ H o i v ov iv u Q I ro ri rv h
 obtain⟨p,xs,k,j,rfl,rfl,hp,hj,q⟩:=h
 cases ro
 obtain⟨t,rfl⟩:=ri
 obtain⟨its,n,r,ho,hz⟩:=I.lst hp
 obtain⟨h1,h2,h3,h4⟩:=xU hj
 have hl:=r.length
 have hn:=qV
 have I':Inv X pz σ (upd H p (.lst (xs.set j v))) {s with heap:=s.heap.update p (Obj.mapSeq (·.setIfInBounds j u))}:=
  I.lstUpd hp ho (wA its n j u) (r.set rv j) (by rw[List.length_set];exact hz) s.toks
 by_cases h0:0<=k
 ·have hk:k.toNat=j:=by
   rw[seqIndex_of h0 h4]at h1
   exact cx.inj h1
  exact PySem.W.ki_setAt ho h0 (by lia) (by rw[ax,<-hl];exact h4) (by rw[hk];exact⟨_,I',q⟩)
 ·have hk:(k+(its.toArray.size:Int)).toNat=j:=by
   rw[seqIndex_neg (by lia) h3]at h1
   rw[ax,<-hl]
   exact cx.inj h1
  exact PySem.W.ki_setBack ho (by lia) (by rw[ax,<-hl];exact h3) (by lia) (by rw[hk];exact⟨_,I',q⟩)
theorem sZ (lo hi:Option Int) (n:Nat):(sliceBounds lo hi none n).1=((HT.Internal.sIx n 0 lo:Nat):Int)/\(sliceBounds lo hi none n).2.1=((HT.Internal.sIx n n hi:Nat):Int)/\(sliceBounds lo hi none n).2.2=1:=by
 refine⟨?_,?_,rfl⟩
 ·cases lo with
  |none=>simp[sliceBounds,HT.Internal.sIx]
  |some i=>
   simp only[sliceBounds,HT.Internal.sIx,Option.getD_none,show(1:Int)>0 by decide,if_true]
   by_cases h:i<0
   ·simp only[h,if_true]<;>lia
   ·simp only[h,if_false]<;>lia
 ·cases hi with
  |none=>simp[sliceBounds,HT.Internal.sIx]
  |some i=>
   simp only[sliceBounds,HT.Internal.sIx,Option.getD_none,show(1:Int)>0 by decide,if_true]
   by_cases h:i<0
   ·simp only[h,if_true]<;>lia
   ·simp only[h,if_false]<;>lia
theorem rK (its:List Value) (lo hi:Option Int):slicePick its.toArray lo hi none=((its.drop (HT.Internal.sIx its.length 0 lo)).take (HT.Internal.sIx its.length its.length hi-HT.Internal.sIx its.length 0 lo)).toArray:=by
 obtain⟨h1,h2,h3⟩:=sZ lo hi its.toArray.size
 unfold slicePick
 rw[h1,h2,h3]
 simp only[sliceRange_one,pick_run,ax]<;>rfl
def rSlL (K:PySem.W.Frag):V->Option Int->Option Int->Hp->VK->Prop:=fun x lo hi H Q=>∃a xs,x= .ref a/\SqL K H a xs/\∀p,H p=none->Q (.ref p) (upd H p (.lst (qA xs lo hi)))
theorem rL:SlR X (rSlL X.K):=by
 intro pz s σ H x v vl vu lo hi sl Q I rx hs pl pu h
 obtain⟨a,xs,rfl,hx,q⟩:=h
 cases rx
 obtain⟨its,r,ht,hz⟩:=I.list hx
 have hlen:=r.length
 refine⟨"list",_,slot_list_getitem.lookup,ht.isList.typeIs,?_⟩
 refine wpAny_getItem_list_slice ht.isList hs pl pu .none (by simp) ?_ (by rw[ax]<;>lia)
 rw[rK,<-hlen]
 refine⟨.ref s.heap.objs.size,_,I.laid (t':=s.toks) (o:= .lst (qA xs lo hi)) (fun b ob q=>eG _ q) (cb _) ?_,rfl,q _ (I.hok.fresh (cb _))⟩
 exact⟨b0 (pH xs lo hi) hz,_,0,(r.drop (HT.Internal.sIx xs.length 0 lo)).take (HT.Internal.sIx xs.length xs.length hi-HT.Internal.sIx xs.length 0 lo),eF _ rfl⟩
def xW:V->Bool
 | .non=>true
 | .bl _=>true
 | .int _=>true
 | .str _=>true
 |_=>false
def eqV:V->V->Bool
 | .non,.non=>true
 | .bl a,.bl b=>a==b
 | .bl a,.int b=>(if a then 1 else 0)==b
 | .int a,.bl b=>a==(if b then 1 else 0)
 | .int a,.int b=>a==b
 | .str a,.str b=>a==b
 |_,_=>false
theorem AR {A:Around} {s:Shared} {y x:V} {u v:Value} (ry:gR y u) (rx:gR x v) (fy:xW y=true) (fx:xW x=true):SeqAt.EqAt A s u v (eqV y x):=by
 cases y with
 |non=>
  cases ry
  cases x with
  |non=>cases rx;exact SeqAt.EqAt.same _
  |bl b=>cases rx;exact SeqAt.EqAt.none_bool b
  |int b=>obtain⟨t,rfl⟩:=rx;exact SeqAt.EqAt.none_int b t
  |str b=>obtain⟨t,rfl⟩:=rx;exact SeqAt.EqAt.none_str b t
  |_=>exact absurd (show false=true from fx) dQ
 |bl a=>
  cases ry
  cases x with
  |non=>cases rx;exact SeqAt.EqAt.bool_none a
  |bl b=>cases rx;exact SeqAt.EqAt.bool_bool a b
  |int b=>obtain⟨t,rfl⟩:=rx;exact SeqAt.EqAt.bool_int a b t
  |str b=>obtain⟨t,rfl⟩:=rx;exact SeqAt.EqAt.bool_str a b t
  |_=>exact absurd (show false=true from fx) dQ
 |int a=>
  obtain⟨t',rfl⟩:=ry
  cases x with
  |non=>cases rx;exact SeqAt.EqAt.int_none a t'
  |bl b=>cases rx;exact SeqAt.EqAt.int_bool a t' b
  |int b=>obtain⟨t,rfl⟩:=rx;exact SeqAt.EqAt.int_int a t' b t
  |str b=>obtain⟨t,rfl⟩:=rx;exact SeqAt.EqAt.int_str a t' b t
  |_=>exact absurd (show false=true from fx) dQ
 |str a=>
  obtain⟨t',rfl⟩:=ry
  cases x with
  |non=>cases rx;exact SeqAt.EqAt.str_none a t'
  |bl b=>cases rx;exact SeqAt.EqAt.str_bool a t' b
  |int b=>obtain⟨t,rfl⟩:=rx;exact SeqAt.EqAt.str_int a t' b t
  |str b=>obtain⟨t,rfl⟩:=rx;exact SeqAt.EqAt.str_str a t' b t
  |_=>exact absurd (show false=true from fx) dQ
 |_=>exact absurd (show false=true from fy) dQ
def inV (x:V) (xs:List V):Bool:=xs.any fun y=>eqV y x
theorem fR:nK X (.builtin "len") (fun xs H Q=>∃p ys,xs=[.ref p]/\(SqL X.K H p ys\/SqT X.K H p ys)/\Q (.int ys.length) H):=by
 intro pz s σ H xs us Q I r h
 obtain⟨p,ys,rfl,hq,q⟩:=h
 obtain⟨u,rfl,rx⟩:=pB r
 cases rx
 have hn:=qV
 rcases hq with hq|hq
 ·obtain⟨its,r',pl,hz⟩:=I.list hq
  have hlen:=r'.length
  exact Calls.call_len_list pl.isList (by simp only[ax]<;>lia) ⟨.int ys.length,H,I.tok _,⟨s.toks+ 1,by rw[ax,hlen]⟩,q⟩
 ·obtain⟨its,r',pl,hz⟩:=I.tuple hq
  have hlen:=r'.length
  exact len_tuple pl (by simp only[ax]<;>lia) ⟨.int ys.length,H,I.tok _,⟨s.toks+ 1,by rw[ax,hlen]⟩,q⟩
theorem iG:nK X (.type "list") (fun xs H Q=>∃p ys,xs=[.ref p]/\(SqL X.K H p ys\/SqT X.K H p ys)/\∀l,H l=none->Q (.ref l) (upd H l (.lst ys))):=by
 intro pz s σ H xs us Q I r h
 obtain⟨p,ys,rfl,hq,q⟩:=h
 obtain⟨u,rfl,rx⟩:=pB r
 cases rx
 have fin:∀(its:List Value),gM ys its->ys.length<=sizeLine->∀(h':Heap) (c':Nat),(∀b o',s.heap.get? b=some o'->h'.get? b=some o')->
   h'.get? s.heap.objs.size=some {cls:= .type "list",dict:=none,data:= .seq its.toArray c',slots:=#[]}->EP X pz σ Q (.ref s.heap.objs.size) {s with heap:=h'}:=fun its r' hz h' c' kp e=>
  ⟨.ref s.heap.objs.size,_,I.laid (t':=s.toks) kp (cb _) (show g0 X.prog X.w _ h' _ (.lst ys)from⟨hz,its,c',r',e⟩),rfl,q _ (I.hok.fresh (cb _))⟩
 rcases hq with hq|hq
 ·obtain⟨its,r',pl,hz⟩:=I.list hq
  have hlen:=r'.length
  obtain⟨o,ho,hc,n,hd⟩:=pl.isList
  exact call_list_seq p (.inl rfl) ho hc hd (fun h' c' kp e=>fin its r' hz h' c' kp e) (by simp only[ax]<;>lia)
 ·obtain⟨its,r',pl,hz⟩:=I.tuple hq
  have hlen:=r'.length
  obtain⟨o,ho,hc,n,hd⟩:=pl
  exact call_list_seq p (.inr rfl) ho hc hd (fun h' c' kp e=>fin its r' hz h' c' kp e) (by simp only[ax]<;>lia)
theorem gh:nK X (.type "tuple") (fun xs H Q=>∃p ys,xs=[.ref p]/\((SqL X.K H p ys/\∀l,H l=none->Q (.ref l) (upd H l (.tup ys)))\/(SqT X.K H p ys/\Q (.ref p) H))):=by
 intro pz s σ H xs us Q I r h
 obtain⟨p,ys,rfl,h⟩:=h
 obtain⟨u,rfl,rx⟩:=pB r
 cases rx
 rcases h with⟨hq,q⟩|⟨hq,q⟩
 ·obtain⟨its,r',pl,hz⟩:=I.list hq
  have hlen:=r'.length
  refine call_tuple_list pl.isList (fun h' kp=>?_) (by simp only[ax]<;>lia)
  have I1:Inv X pz σ H {s with heap:=h'}:=I.kept (t':=s.toks) kp
  have I2:Inv X pz σ (upd H h'.objs.size (.tup ys)) {s with heap:=h'.push {cls:= .type "tuple",data:= .seq its.toArray}}:=
   I1.laid (t':=s.toks) (fun b o e=>eG _ e) (cb _) (show g0 X.prog X.w _ _ _ (.tup ys)from⟨hz,its,r',uh.new _ _⟩)
  exact⟨.ref h'.objs.size,_,I2,rfl,q _ (I1.hok.fresh (cb _))⟩
 ·obtain⟨its,r',pl,hz⟩:=I.tuple hq
  exact call_tuple_same pl ⟨.ref p,H,I,rfl,q⟩
def tyV (K:PySem.W.Frag) (T:String) (x:V) (H:Hp):Prop:=match x with
 | .str _=>T="str"
 | .int _=>T="int"
 | .ref p=>(T="list"/\∃xs,SqL K H p xs)\/(T="tuple"/\∃o,K.lookup p=some o/\o.cls= .type "tuple"/\o.dict=none)\/
   (T="dict"/\((∃kvs,H p=some (.dK kvs))\/∃kvs,H p=some (.dT kvs)))\/(T="set"/\∃S n,H p=some (.set S n))
 |_=>False
theorem AS {pz:List (Addr×Obj)} {σ:St} {H:Hp} {s:Shared} {T:String} {x:V} {v:Value} (I:Inv X pz σ H s) (r:gR x v) (ty:tyV X.K T x H):
  s.TypeIs v T/\∀a,v= .ref a->∃ob,s.heap.get? a=some ob/\ob.dict=none:=by
 cases x with
 |str z=>
  obtain⟨t,rfl⟩:=r
  cases(show T="str" from ty)
  exact⟨typeIs_str s z t,fun _ e=>nomatch e⟩
 |int i=>
  obtain⟨t,rfl⟩:=r
  cases(show T="int" from ty)
  exact⟨typeIs_int s i t,fun _ e=>nomatch e⟩
 |ref p=>
  cases r
  rcases ty with⟨rfl,xs,hq⟩|⟨rfl,o,hk,hc,hd⟩|⟨rfl,hk⟩|⟨rfl,S,n,hk⟩
  ·obtain⟨its,_,pl,_⟩:=I.list hq
   refine⟨pl.isList.typeIs,fun a e=>?_⟩
   cases e
   obtain⟨o,n,e,c,hd,_⟩:=pl
   exact⟨o,e,hd⟩
  ·refine⟨⟨o,I.kIn p o hk,hc⟩,fun a e=>?_⟩
   cases e
   exact⟨o,I.kIn _ o hk,hd⟩
  ·have z:∃o,s.heap.get? p=some o/\o.ExactDict:=by
    rcases hk with⟨kvs,hk⟩|⟨kvs,hk⟩
    ·obtain⟨_,_,_,_,o,_,_,e,ex,_⟩:=I.hok p _ hk
     exact⟨o,e,ex⟩
    ·obtain⟨_,_,_,_,o,_,_,e,ex,_⟩:=I.hok p _ hk
     exact⟨o,e,ex⟩
   obtain⟨o,e,ex⟩:=z
   refine⟨⟨o,e,ex.1⟩,fun a e2=>?_⟩
   cases e2
   exact⟨o,e,ex.2.1⟩
  ·obtain⟨o,_,_,_,e,ex,_⟩:=I.hok p _ hk
   refine⟨⟨o,e,ex.1⟩,fun a e2=>?_⟩
   cases e2
   exact⟨o,e,ex.2.1⟩
 |_=>exact False.elim ty
def tBM0 (K:PySem.W.Frag) (T:String) (r:V->List V->Hp->VK->Prop) (to:TE):TE:=fun σ H Q=>to σ H fun x H1=>tyV K T x H1/\r x [] H1 Q
def tBM (K:PySem.W.Frag) (T:String) (r:V->List V->Hp->VK->Prop) (to:TE) (t:TA):TE:=fun σ H Q=>to σ H fun x H1=>tyV K T x H1/\t σ H1 fun xs H2=>r x xs H2 Q
variable {o e:Expr} {es:List Expr} {to:TE} {t:TA} {name:Str} {apos cpos:Pos} {T id:String} {r:V->List V->Hp->VK->Prop}
theorem AU (pa:PlainAttrs T) (slot:Slot T name id) (hty:typeOf (.builtin id)=pure (.type "method_descriptor")) (hm:MtR X id r) (ho:PE X o to)
  (hbase:autoParam (attributeBase o name X.env (eval o X.env)=eval o X.env) L2.Internal.auR._auto_1) (hline:autoParam ((apos.endLine==cpos.line)=true) L2.Internal.auR._auto_1):PE X (.Call (.Attribute o name apos) [] [] cpos) (tBM0 X.K T r to):=by
 intro pz s σ H Q I h
 refine wpAny_Call_method0_late hbase hline (thn (ho pz s σ H _ I h) fun v s1 ⟨x,H1,I1,r1,ty,q1⟩=>?_)
 obtain⟨h1,h2⟩:=AS I1 r1 ty
 exact⟨T,id,pa,slot,hty,h1,h2,Calls.callWith_builtin rfl (PySem.evalArgs_none (hm pz s1 σ H1 x [] v [] Q I1 r1 .nil q1))⟩
theorem lg (pa:PlainAttrs T) (slot:Slot T name id) (hty:typeOf (.builtin id)=pure (.type "method_descriptor")) (hm:MtR X id r) (ho:PE X o to) (ha:PA X (e::es) t)
  (hbase:autoParam (attributeBase o name X.env (eval o X.env)=eval o X.env) L2.Internal.auR._auto_1)
  (hfew:((backTo cpos (starEach (e::es) X.env)).all (fun x=>!x.1)&&(backToKw cpos (keywordEach [] X.env)).all (fun x=>x.1.isSome)
   &&decide ((e::es).length+([]:List Keyword).length+(if([]:List Keyword).isEmpty then 0 else 1)<30))=true:=by rfl)
  (hline:autoParam ((apos.endLine==cpos.line)=true) L2.Internal.auR._auto_1) (hs:autoParam (starEach (e::es) X.env=(false,eval e X.env)::starEach es X.env) L2.Internal.auR._auto_1) (hplain:autoParam ((backTo cpos (starEach es X.env)).any (·.1)=false) L2.Internal.auR._auto_1):
  PE X (.Call (.Attribute o name apos) (e::es) [] cpos) (tBM X.K T r to t):=by
 intro pz s σ H Q I h
 refine wpAny_Call_method_late hbase hfew hline rfl (thn (ho pz s σ H _ I h) fun v s1 ⟨x,H1,I1,r1,ty,q1⟩=>?_)
 obtain⟨h1,h2⟩:=AS I1 r1 ty
 refine⟨T,id,pa,slot,hty,h1,h2,?_⟩
 have hA:=ha cpos pz s1 σ H1 _ I1 q1
 rw[hs]at hA⊢
 refine Calls.callWith_builtin (by show(false||(backTo cpos (starEach es X.env)).any (·.1))=false;rw[hplain]<;>rfl) (Calls.evalArgs_plain ?_)
 exact thn hA fun us s2 ⟨vs,H2,I2,r2,q2⟩=>hm pz s2 σ H2 x vs v us Q I2 r1 r2 q2
end
def MtM (X:Cx) (id:String) (r:V->List V->Hp->VK->Prop):Prop:=
 ∀(pz:List (Addr×Obj)) (s:Shared) (σ:St) (H:Hp) (x:V) (xs:List V) (v:Value) (us:List Value) (Q:VK),Inv X pz σ H s->gR x v->gM xs us->r x xs H Q->
  wpAny (model X.prog X.w) X.A (call (.builtin id) (v::us)) (EP X pz σ Q) X.xe s
theorem gM.one:∀{x:V} {us:List Value},gM [x] us->∃u,us=[u]/\gR x u
 |_,_,.cons r .nil=>⟨_,rfl,r⟩
theorem gM.zero:∀{us:List Value},gM [] us->us=[]
 |_,.nil=>rfl
theorem gM.dropLast {xs:List V} {us:List Value} (h:gM xs us):gM xs.dropLast us.dropLast:=by
 induction h with
 |nil=>exact .nil
 |cons r t ih=>
  cases t with
  |nil=>exact .nil
  |cons q t'=>exact .cons r ih
theorem wB {α:Type} (l:List α):l.eraseIdx (l.length-1)=l.dropLast:=by
 induction l with
 |nil=>rfl
 |cons a r ih=>
  cases r with
  |nil=>rfl
  |cons b r=>
   have e:(a::b::r).length-1=((b::r).length-1)+ 1:=by
    have h1:(a::b::r).length=r.length+ 2:=rfl
    have h2:(b::r).length=r.length+ 1:=rfl
    lia
   rw[e,List.eraseIdx_cons_succ,ih]
   all_goals rfl
section
variable {X:Cx} {pz:List (Addr×Obj)} {σ:St} {H:Hp} {s:Shared} {l b:Addr} {xs ys zs:List V}
theorem Inv.lset {its its':List Value} {n:Nat} {f:Array Value->Array Value} {t':Nat} (I:Inv X pz σ H s) (hH:H l=some (.lst xs))
  (e:s.heap.get? l=some {cls:= .type "list",data:= .seq its.toArray n}) (hf:f its.toArray=its'.toArray) (hv:gM ys its') (hz:ys.length<=sizeLine):
  Inv X pz σ (upd H l (.lst ys)) {s with heap:=s.heap.update l (Obj.mapSeq f),toks:=t'}:=by
 have q:=PySem.IsL.update e f
 rw[hf]at q
 refine I.write (x:=l) (e:=l) (by rw[hH];exact trivial) (.inl rfl) (fun b' u hb hu=>(eK s.heap (Obj.mapSeq f) (Ne.symm hb)).trans hu) ⟨_,q⟩ ?_
 exact⟨hz,its',_,hv,q⟩
theorem Inv.lnew {its:List Value} {t':Nat} (I:Inv X pz σ H s) (hv:gM ys its) (hz:ys.length<=sizeLine):
  Inv X pz σ (upd H s.heap.objs.size (.lst ys)) {s with heap:=s.heap.push {cls:= .type "list",data:= .seq its.toArray},toks:=t'}:=
 I.laid (fun _ _ q=>eG _ q) (cb _) ⟨hz,its,0,hv,eF _ rfl⟩
theorem Inv.fresh (I:Inv X pz σ H s):H s.heap.objs.size=none:=I.hok.fresh (cb _)
theorem Inv.lstM (I:Inv X pz σ H s) (hH:H l=some (.lst xs)):xs.length<=sizeLine/\∃(its:List Value) (n:Nat),gM xs its/\xs.length=its.length/\s.heap.get? l=some {cls:= .type "list",data:= .seq its.toArray n}:=by
 obtain⟨z,its,n,r,e⟩:=I.hok l _ hH
 exact⟨z,its,n,r,r.length,e⟩
end
section
variable {X:Cx}
def xX:V->List V->Hp->VK->Prop:=fun x vs H Q=>∃l xs y,x= .ref l/\vs=[y]/\H l=some (.lst xs)/\xs.length<sizeLine/\Q .non (upd H l (.lst (xs++[y])))
theorem fZ:MtM X "list.append" xX:=by
 intro pz s σ H x vs v us Q I rx rv h
 obtain⟨l,xs,y,rfl,rfl,hH,hz,q⟩:=h
 cases rx
 obtain⟨u,rfl,ru⟩:=rv.one
 obtain⟨z,its,n,r,hl,e⟩:=I.lstM hH
 refine call_meets F.slot_list_append ⟨_,e,rfl⟩ F.entry_list_append (F.args_list_append_2 _ _) (PySem.list_append l its.toArray n u (by rw[ax];lia)) ⟨e,?_⟩
 refine⟨.non,_,I.lset (its':=its++[u]) hH e (by simp) (r.append (.cons ru .nil)) ?_,rfl,q⟩
 rw[aN,aU]
 lia
def rPop:V->List V->Hp->VK->Prop:=fun x vs H Q=>∃l xs y,x= .ref l/\vs=[]/\H l=some (.lst xs)/\xs[xs.length-1]?=some y/\Q y (upd H l (.lst xs.dropLast))
theorem AV:MtM X "list.pop" rPop:=by
 intro pz s σ H x vs v us Q I rx rv h
 obtain⟨l,xs,y,rfl,rfl,hH,hy,q⟩:=h
 cases rx
 have hus:=rv.zero
 subst hus
 obtain⟨z,its,n,r,hl,e⟩:=I.lstM hH
 obtain⟨u,hu,ru⟩:=r.get hy
 have hy':its.toArray[its.toArray.size-1]?=some u:=by
  show its.toArray[its.length-1]?=some u
  rw[<-Array.getElem?_toList,<-hl]
  exact hu
 refine call_meets F.slot_list_pop ⟨_,e,rfl⟩ F.entry_list_pop (F.args_list_pop_1 _) (MeetsSeq.list_pop_last l its.toArray n u hy' (by rw[ax];lia)) ⟨e,?_⟩
 refine⟨y,_,I.lset (its':=its.dropLast) hH e ?_ r.dropLast ?_,ru,q⟩
 ·show its.toArray.eraseIdxIfInBounds (its.toArray.size-1)=its.dropLast.toArray
  rw[ax,List.eraseIdxIfInBounds_toArray,wB]
 ·rw[aV]
  lia
def rCat:R2:=fun x y H Q=>∃l b xs zs,x= .ref l/\y= .ref b/\H l=some (.lst xs)/\H b=some (.lst zs)/\xs.length+zs.length<=sizeLine/\∀p,H p=none->Q (.ref p) (upd H p (.lst (xs++zs)))
theorem qZ:OpR X (binaryOp .Add) rCat:=by
 intro pz s σ H x y v u Q I rx ry h
 obtain⟨l,b,xs,zs,rfl,rfl,hH,hB,hz,q⟩:=h
 cases rx
 cases ry
 obtain⟨z,its,n,r,hl,e⟩:=I.lstM hH
 obtain⟨z2,its2,n2,r2,hl2,e2⟩:=I.lstM hB
 refine PySem.P.add_list e e2 ?_ (by rw[ax,ax];lia)
 have ea:its.toArray++its2.toArray=(its++its2).toArray:=by simp
 rw[ea]
 exact⟨.ref _,_,I.lnew (t':=s.toks) (r.append r2) (by rw[aN];lia),rfl,q _ I.fresh⟩
end
section
variable {prog:Program} {w:World} {A:Around} {E:Value->Shared->Prop} {s:Shared}
set_option maxRecDepth 100000 in
end
section
variable {X:Cx}
end
end L2.Internal
namespace Att.Internal
open PySem PySem.W PySem.Calls PyProof.Rows
theorem pI {P:Params} {h:Heap}:∀(ns:List Int) (vs:List Value),WellAll P h vs (ns.map WData.int)->IntsAre vs ns:=by
 intro ns
 induction ns with
 |nil=>
  intro vs w
  rw[aS]at w
  cases w
  exact .nil
 |cons n ns ih=>
  intro vs w
  rw[aA]at w
  cases w with
  |cons a b=>
   cases a
   exact .cons _ _ (ih _ b)
theorem xY {l:OpenLaw} {n:Nat} (hn:l.most=some n) {P:Params} {h:Heap} {args:List WData} {vals:List Value}
  (hpre:l.row.toRowW.claim.pre args=true) (hwl:WellAll P h vals args):
  ∃a vs ns,vals=[Value.ref a]/\args=[WData.list (ns.map WData.int)]/\h.get? a=some {cls:= .type "list",data:= .seq vs.toArray}/\IntsAre vs ns/\ns.length<=n:=by
 have hsh:WShape.hasAll [] args [.list .int]=true:=(pre_splitW hpre).1
 have hc:l.pre.holds [] {args:=args}=true:=(pre_splitW hpre).2
 obtain⟨d,r,rfl,h1,h2⟩:=hasAllW_cons hsh
 obtain rfl:=hasAllW_nil h2
 obtain⟨xs,rfl,h3⟩:=hasW_list h1
 obtain⟨ns,rfl⟩:=items_int h3
 have hlen:ns.length<=n:=by
  unfold OpenLaw.pre at hc
  have h4:(WTm.not (.lt (.lit (.int (n:Int))) (.len (.arg 0)))).holds [] {args:=[.list (ns.map .int)]}=true:=by
   have h4:=(holds_andW hc).1
   rw[hn]at h4
   exact h4
  have h5:=condW_of h4 (w_not (w_lt w_lit (w_len_list (w_arg rfl))))
  rw[aB]at h5
  refine Nat.le_of_not_lt fun q=>?_
  have q':(n:Int)<((ns.length:Nat):Int):=by lia
  first
   |(rw[gQ q']at h5;exact absurd h5 (by decide))
   |(simp at h5;lia)
 cases hwl with
 |cons w1 w2=>
  cases w2
  cases w1 with
  |list ho hall=>exact⟨_,_,ns,rfl,rfl,ho,pI ns _ hall,hlen⟩
theorem xZ (l:OpenLaw) (args:List WData):l.row.toRowW.claim.post args (.bool true) args=true:=
 postW_of (r:=l.row.toRowW) (X:=(true==true))
  (show WShape.has [] (.bool true) .bool=true by first|rfl|decide|simp[WShape.has,WShape.arms,WShape.armsAll])
  (show(WTm.eq .res (.lit (.bool true))).value [] {args:=args,res:=some (.bool true),after:=args}=some (.bool (true==true))from w_eq_bool (w_res rfl) w_lit) rfl
theorem attach_call {l:OpenLaw} {n:Nat} {q:Program} {loose:List Str} {XP:(Str->Option Value)->Heap->Prop} {YP:World->Heap->Prop} {d:DefRec}
  (hn:l.most=some n) (hdf:d.params.defaults=[])
  (call:∀(w:World) (s₀ s₁:Shared) (mg mb:Str->Option Value) (fa:Addr) (o:Obj) (pm cd doc:Value) (a:Addr) (vs:List Value) (ns:List Int),
   Ground q loose [] XP w s₀ mg mb s₁.heap->YP w s₁.heap->
   s₁.heap.get? fa=some o->o.data= .func (docDef d.name d.params d.body d.scope pm cd doc)->s₁.heap.CodeRec cd d.name->mg d.name=some (.ref fa)->
   s₁.heap.get? a=some {cls:= .type "list",data:= .seq vs.toArray}->IntsAre vs ns->ns.length<=n->s₁.gens=#[]->
   codeAny (model l.prog w) callerA (.call (.ref fa) ⟨[.ref a],[]⟩) (fun r s'=>r= .ok (.ret (.bool true))/\OldK s₁.heap s'.heap/\s'.os=s₁.os/\AllBare s'.gens) s₁):
  WalkO q loose XP YP l.row.toRowW d [] (fun f vs=>PySem.call f vs):=by
 intro w s₀ s₁ mg mb G Y fa o pm cd doc dV kV ho hd hcd hD hmg hg args vals as hpre hlay hrd hwl hlo
 obtain rfl:dV= .none:=Dflts.none hD hdf
 obtain rfl:kV= .none:=Dflts.noKw hD
 obtain⟨a,vs,ns,rfl,rfl,hobj,hints,hlen⟩:=xY hn hpre hwl
 refine enter_call (codeAny_mono (call w s₀ s₁ mg mb fa o pm cd doc a vs ns G Y ho (fd_plain hd) hcd hmg hobj hints hlen hg) fun r s' hq=>?_)
 obtain⟨rfl,h2,h3,h4⟩:=hq
 exact⟨.inl ⟨.bool true,.bool true,[],rfl,fun _=>rfl,.bool true,xZ l _,fun _=>⟨List.Pairwise.nil,fun _ hm=>(nomatch hm)⟩⟩,h2,h3,h4⟩
section
variable {prog:Program} {w:World} {A:Around} {E:Value->Shared->Prop} {s:Shared} {K:Frag}
end
end Att.Internal
namespace L2.Internal
open PySem PySem.Spec PyProof.Rows
theorem tf:∀{vs:List Value} {ns:List Int},IntsAre vs ns->gM (ns.map V.int) vs
 |_,_,.nil=> .nil
 |_,_,.cons n t h=> .cons ⟨t,rfl⟩ (tf h)
def FG (H:Hp):Prop:=∀b,H b=none\/∃o xs,H b=some (.frz o (.lst xs))
theorem zU {P:Program} {w:World} {K:PySem.W.Frag} {mg mb:Str->Option Value} {CX:CXT} {k:Nat} {fa a:Addr} {fd:FuncData} {x:Str} {sp:Sp} {s₁:Shared} {vs:List Value} {ns:List Int}
  (KX:K.In s₁.heap) (hns:s₁.heap.Ns mainGlobals mg) (hb:s₁.heap.Ns builtinsNs mb) (hbb:∀x:Str,x≠"__name__"->mb x=bootBuiltins x) (hlim:s₁.heap.NoLimit) (hg:s₁.gens=#[])
  (ha:s₁.heap.get? a=some {cls:= .type "list",data:= .seq vs.toArray}) (hi:IntsAre vs ns) (hl:ns.length<=sizeLine) (hr:k8 k callerA)
  (F:∀base:Heap,K.In base->base.Ns mainGlobals mg->qu P w K mg base CX k fa fd [x] sp) (hbind:∀(s:Shared) (u:Value),BindsTo s fd ⟨[u],[]⟩ [(x,u)])
  (hsp:∀H:Hp,FG H->SqL K H a (ns.map V.int)->sp [.ref a] H (fun v _=>v= .bl true) fun _ _ _=>False)
  (hCX:∀H e s',CX [] H s₁ (fun _ _ _=>False) e s'->False):
  codeAny (model P w) callerA (.call (.ref fa) ⟨[.ref a],[]⟩) (fun r s'=>r= .ok (.ret (.bool true))/\OldK s₁.heap s'.heap/\s'.os=s₁.os/\AllBare s'.gens) s₁:=by
 have rv:=tf hi
 have lenV:=hi.length
 have core:∀H:Hp,FG H->SqL K H a (ns.map V.int)->HOk P w H s₁.heap->(∀b,H b≠none->b=a)->(H a≠none->K.lookup a=none)->
   codeAny (model P w) callerA (.call (.ref fa) ⟨[.ref a],[]⟩) (fun r s'=>r= .ok (.ret (.bool true))/\OldK s₁.heap s'.heap/\s'.os=s₁.os/\AllBare s'.gens) s₁:=by
  intro H hO hS hok hA hK
  have base_of:∀{b:Addr} {o:Obj},s₁.heap.get? b=some o->H b=none->(zH s₁.heap H).get? b=some o:=fun e n=>zI e n
  have noA:∀{b:Addr} {o:Obj} {es:Array DictEntry} {ep:Nat},s₁.heap.get? b=some o->o.data= .dict es ep->H b=none:=fun{b o es ep} e d=>by
   cases q:H b with
   |none=>rfl
   |some u=>
    have e':b=a:=hA b (by rw[q];simp)
    subst e'
    rw[ha]at e;cases e
    have d':Data.seq vs.toArray _=Data.dict es ep:=d
    cases d'
  have nsK:∀{b:Addr} {m:Str->Option Value},s₁.heap.Ns b m->(zH s₁.heap H).Ns b m:=fun{b m} ⟨o,es,ep,e,d,r⟩=>⟨o,es,ep,base_of e (noA e d),d,r⟩
  have hKb:K.In (zH s₁.heap H):=fun b o e=>base_of (KX b o e) (by
   cases q:H b with
   |none=>rfl
   |some u=>
    have e':b=a:=hA b (by rw[q];simp)
    subst e'
    rw[hK (by rw[q];simp)]at e;cases e)
  have hM:Mod K mg (zH s₁.heap H):=⟨hKb,nsK hns,⟨mb,nsK hb,hbb⟩,let⟨mc,h1,h2⟩:=hlim;⟨mc,nsK h1,h2⟩⟩
  have e0:BW P w K mg (zH s₁.heap H) callerA [] s₁ H:=⟨rfl,hM,fun b o e=>BK e,Nat.le_of_eq (xp _ _),trivial,fun b hb=>absurd (show b∈([]:List Addr)from hb) (by simp),hok,.of_eq hg⟩
  refine codeAny_mono ((F _ hKb (nsK hns)).run callerA [] s₁ H ⟨[.ref a],[]⟩ [.ref a] [.ref a] _ _ hr e0 (hbind s₁ (.ref a)) (.cons rfl .nil) (hsp H hO hS)) fun r s' h=>?_
  cases r with
  |error e=>exact(hCX H e s' h).elim
  |ok fl=>
   cases fl with
   |next=>exact False.elim h
   |brk=>exact False.elim h
   |cont=>exact False.elim h
   |ret u=>
    obtain⟨v,H',os,bare,un,hok',r',q⟩:=h
    have q':v= .bl true:=q
    subst q'
    obtain rfl:u=Value.bool true:=r'
    refine⟨rfl,OldK.of_keep fun b o e=>?_,os,bare⟩
    cases q:H b with
    |none=>exact un.keep b o e q (by intro z;exact absurd (show b∈([]:List Addr)from z) (by simp)) (by simp)
    |some u=>
     rcases hO b with z|⟨ob,xs,z⟩
     ·rw[q]at z;cases z
     ·have z2:=un.frzs b ob _ z
      obtain⟨e1,_⟩:=hok b _ z
      obtain⟨e2,_⟩:=hok' b _ z2
      rw[e]at e1;cases e1
      exact e2
 cases hk:K.lookup a with
 |some o=>
  have e:=KX a o hk
  rw[ha]at e
  cases e
  refine core (fun _=>none) (fun _=> .inl rfl) (.inr ⟨_,vs.toArray,_,hk,rfl,rfl,rfl,by rw[ax,lenV];exact hl,by simpa using rv⟩) (fun b u z=>by have z':(none:Option HO)=some u:=z;cases z') (fun b z=>absurd rfl z) fun z=>absurd rfl z
 |none=>
  refine core (fun b=>if b=a then some (.frz {cls:= .type "list",data:= .seq vs.toArray} (.lst (ns.map V.int)))else none) (fun b=>?_) (.inl (.inr ⟨{cls:= .type "list",data:= .seq vs.toArray},fY rfl⟩)) (fun b u z=>?_) (fun b z=>?_) fun _=>hk
  ·by_cases hb:b=a
   ·exact .inr ⟨_,_,fY hb⟩
   ·exact .inl (fN hb)
  ·by_cases hb:b=a
   ·have z':=(fY hb).symm.trans z
    cases z'
    subst hb
    exact⟨ha,by rw[aB];exact hl,vs,_,rv,ha⟩
   ·have z':=(fN hb).symm.trans z
    cases z'
  ·by_cases hb:b=a
   ·exact hb
   ·exact absurd (fN hb) z
theorem walk_of {l:PySem.W.OpenLaw} {n k:Nat} {q:Program} {loose:List Str} {XP:(Str->Option Value)->Heap->Prop} {YP:World->Heap->Prop} {d:DefRec} {K:Params->PySem.W.Frag} {CX:World->CXT} {sp:World->Sp} {x:Str}
  (hn:l.most=some n) (hn2:n<=sizeLine) (hdf:d.params.defaults=[]) (hr:k8 k callerA)
  (hY:∀(w:World) (h:Heap),YP w h->(K w.params).In h)
  (F:∀(w:World) (mg:Str->Option Value) (fa:Addr) (h:Heap),(K w.params).In h->h.Ns mainGlobals mg->mg d.name=some (.ref fa)->
   ∃fd:FuncData,(∀(s:Shared) (u:Value),BindsTo s fd ⟨[u],[]⟩ [(x,u)])/\
    ∀base:Heap,(K w.params).In base->base.Ns mainGlobals mg->qu l.prog w (K w.params) mg base (CX w) k fa fd [x] (sp w))
  (hsp:∀(w:World) (H:Hp) (a:Addr) (ns:List Int),ns.length<=n->FG H->SqL (K w.params) H a (ns.map V.int)->sp w [.ref a] H (fun v _=>v= .bl true) fun _ _ _=>False)
  (hCX:∀(w:World) (H:Hp) (s:Shared) (e:Value) (s':Shared),CX w [] H s (fun _ _ _=>False) e s'->False):
  PySem.W.WalkO q loose XP YP l.row.toRowW d [] (fun f vs=>PySem.call f vs):=by
 refine Att.Internal.attach_call hn hdf fun w s₀ s₁ mg mb fa o pm cd doc a vs ns G Y ho hd hcd hmg hobj hints hlen hg=>?_
 have KX:=hY w _ Y
 obtain⟨fd,hb,hF⟩:=F w mg fa _ KX G.T.g hmg
 exact zU KX G.T.g G.T.b G.T.builtins G.T.nolimit hg hobj hints (b0 hlen hn2) hr hF hb (fun H hO hS=>hsp w H a ns hlen hO hS) fun H e s'=>hCX w H s₁ e s'
def gC (s:Stmt) (j:Nat):Stmt:=match s with
 | .ClassDef _ _ _ body _ _ _ _ _ _ _=>body.getD j (.Pass ⟨0,0,0,0⟩)
 |_=> .Pass ⟨0,0,0,0⟩
def iO (s:Stmt):Arguments:=match s with
 | .FunctionDef _ a _ _ _ _ _ _ _ _=>a
 |_=>{posonlyargs:=[],args:=[],vararg:=none,kwonlyargs:=[],kw_defaults:=[],kwarg:=none,defaults:=[]}
def gT (s:Stmt):List Stmt:=match s with
 | .FunctionDef _ _ b _ _ _ _ _ _ _=>b
 |_=>[]
def eW (s:Stmt):Scope:=match s with
 | .FunctionDef _ _ _ _ _ _ sc _ _ _=>sc
 |_=>{kind:= .function,names:=[],isGenerator:=false,isCoroutine:=false}
abbrev CX0:CXT:=fun _ _ _ _ _ _=>False
abbrev E0:XK:=fun _ _ _=>False
theorem fH {X:Cx}:lZ CX0 X E0:=fun _ _ _ _ _ _ _ h=>h.elim
structure Fun (K:PySem.W.Frag) (x qual:Str) (st:Stmt) (f:Addr) (fd:FuncData):Prop where
 ex:∃(oc:Value) (od:Option Addr) (kV doc pm:Value) (an:Option Addr) (cdv ct:Value) (osl:Array (Option Value)),
  fd=dw x qual (iO st) (gT st) (eW st) .none kV doc pm an cdv ct/\K.lookup f=some ⟨oc,od,.func fd,osl⟩/\dy K cdv qual=true
 kp:cR K (.ref f)=true
section
variable {P:Program} {w:World} {K:PySem.W.Frag} {mg:Str->Option Value} {base:Heap}
theorem Fun.ok {x qual:Str} {st:Stmt} {f:Addr} {fd:FuncData} {N ps:List Str} {k:Nat} {sp:Sp} (F:Fun K x qual st f fd) (S:fg N ps (eW st)) (len:∀vs H Q E,sp vs H Q E->vs.length=ps.length)
  (hbody:∀(cdv:Value) (A:Around) (outer:List Env) (s:Shared) (H:Hp) (vs:List V) (Q:VK) (E:XK),k8 k (A.deeper (envOfC qual (eW st) s.heap.objs.size f cdv))->sp vs H Q E->
   ∃t,PSs (AQ CX0 P w K mg base N qual (eW st) f cdv A outer s H E).nox (gT st) t/\t {nx:=fun _ H'=>Q .non H',rt:=Q} (start N vs) H):qu P w K mg base CX0 (k+ 1) f fd ps sp:=by
 obtain⟨oc,od,kV,doc,pm,an,cdv,ct,osl,rfl,lk,hcd⟩:=F.ex
 refine DH lk hcd S len fun A outer s H vs Q E hr hsp=>?_
 obtain⟨t,h,q⟩:=hbody cdv A outer s H vs Q E hr hsp
 exact⟨t,h.nox,q⟩
theorem Fun.binds {x qual:Str} {st:Stmt} {f:Addr} {fd:FuncData} {ps:List Str} (F:Fun K x qual st f fd)
  (h:∀(kV doc pm:Value) (an:Option Addr) (cdv ct:Value) (us:List Value),us.length=ps.length->bindArgs (dw x qual (iO st) (gT st) (eW st) .none kV doc pm an cdv ct) ⟨us,[]⟩=pure (ps.zip us)):lX K fd ps []:=by
 obtain⟨oc,od,kV,doc,pm,an,cdv,ct,osl,rfl,lk,hcd⟩:=F.ex
 exact .all (h kV doc pm an cdv ct)
theorem tj {x qual:Str} {st:Stmt} {f:Addr} {oc:Value} {od an:Option Addr} {osl:Array (Option Value)} {kV doc pm cdv ct:Value} (l:K.lookup f=some ⟨oc,od,.func (dw x qual (iO st) (gT st) (eW st) .none kV doc pm an cdv ct),osl⟩)
  (c:dy K cdv qual=true) (k:cR K (.ref f)=true):Fun K x qual st f (dw x qual (iO st) (gT st) (eW st) .none kV doc pm an cdv ct):=⟨⟨oc,od,kV,doc,pm,an,cdv,ct,osl,rfl,l,c⟩,k⟩
end
theorem wC {A:Around} {k:Nat} (hr:k8 k A):A.units+ 1<cLine:=Nat.lt_of_le_of_lt (Nat.add_le_add_left (by decide:1<=64) _) hr.units
section
variable {X:Cx}
theorem pv (i:Nat) {x:Str} {pos:Pos} (hN:autoParam (X.N[i]?=some x) L2.Internal.auR._auto_1) (hv:Vis X.env.scope x:=by first|exact Or.inl rfl|exact Or.inr (.inl rfl)|exact Or.inr (.inr rfl)) (hd:autoParam ((x==("__debug__":Str))=false) L2.Internal.auD._auto_1)
  (hcd:autoParam ((x==("__classdict__":Str))=false) L2.Internal.auD._auto_1):PE X (.Name x pos) (GS i):=Dr hN hv hd hcd
end
theorem jo {A B:Prop} (h:B):if false=true then A else B:=by
 rw[fN dQ]
 exact h
theorem jL {A B:Prop} (h:A):if true=true then A else B:=by
 rw[fY rfl]
 exact h
theorem G2 {c A B:Prop} [Decidable c] (h1:c->A) (h2:¬c->B):if c then A else B:=by
 by_cases h:c
 ·rw[fY h]
  exact h1 h
 ·rw[fN h]
  exact h2 h
def fC (H H':Hp):Prop:=∀b o,H b=some o->H' b=some o
theorem fC.trans {H H1 H2:Hp} (a:fC H H1) (b:fC H1 H2):fC H H2:=fun c o h=>b c o (a c o h)
theorem fC.free {H H':Hp} (e:fC H H') {l:Addr} (h:H' l=Option.none):H l=Option.none:=by
 cases q:H l with
 |none=>rfl
 |some o=>
  rw[e l o q]at h
  cases h
theorem fC.seq {K:PySem.W.Frag} {H H':Hp} {a:Addr} {xs:List V} (e:fC H H') (h:SqL K H a xs):SqL K H' a xs:=by
 rcases h with(h|⟨o,h⟩)|h
 ·exact .inl (.inl (e _ _ h))
 ·exact .inl (.inr ⟨o,e _ _ h⟩)
 ·exact .inr h
section
variable {X:Cx}
end
section
variable {κ:Type} [DecidableEq κ]
end
section
variable {X:Cx}
theorem ya {x:Str} {a:Addr} {pos:Pos} (hg:Gl X x) (hm:X.mg x=some (.ref a)) (hd:autoParam ((x==("__debug__":Str))=false) L2.Internal.auD._auto_1):PE X (.Name x pos) (tC (.ref a)):=BL hg hm (show gR (.ref a) _ from rfl) hd
theorem kW {x:Str} {n:String} {pos:Pos} (hg:Gl X x) (hm:X.mg x=none) (hv:bootBuiltins x=some (.type n)) (hn:autoParam (x≠"__name__") L2.Internal.auD._auto_1) (hd:autoParam ((x==("__debug__":Str))=false) L2.Internal.auD._auto_1):PE X (.Name x pos) (tC (.ty n)):=BM hg hm hv (show gR (.ty n) _ from rfl) hn hd
end
theorem ja:bootBuiltins "len"=some (.builtin "len"):=fS
theorem DR:bootBuiltins "all"=some (.builtin "all"):=fS
theorem DS:bootBuiltins "sum"=some (.builtin "sum"):=fS
theorem f6:bootBuiltins "isinstance"=some (.builtin "isinstance"):=fS
theorem yb:bootBuiltins "int"=some (.type "int"):=fS
theorem AW:bootBuiltins "str"=some (.type "str"):=fS
theorem B5:bootBuiltins "bool"=some (.type "bool"):=fS
theorem jU:bootBuiltins "list"=some (.type "list"):=fS
theorem ir:bootBuiltins "tuple"=some (.type "tuple"):=fS
section
variable {X:Cx} {tg:Expr}
end
def blk (X:Cx) (N:List Str) (scope:Scope) (cl:List (Str×Addr)) (C:Addr) (s₀:Shared) (H₀:Hp) (ex:List Addr) (pz:List (Addr×Obj)):Cx:=
 {X with N:=N,s₀:=s₀,H₀:=H₀,env:=compEnvC scope cl C X.env,outer:=X.stack,stack:=X.stack,ex:=ex,fn:=fun _=>false,pn:=X.pn++pz,xe:=fun _ _=>False}
def PTs (X:Cx) (cs:List Expr) (t:TT):Prop:=
 ∀(pz:List (Addr×Obj)) (s:Shared) (σ:St) (H:Hp) (Q:Bool->Hp->Prop),Inv X pz σ H s->t σ H Q->
  wpAny (model X.prog X.w) X.A (forIn cs true fun c r=>if r=true then do let ok<-isTrue c X.env (eval c X.env);pure (ForInStep.yield ok)else pure (ForInStep.yield r)) (TP X pz σ Q) X.xe s
def ml:TT:=fun _ H Q=>Q true H
theorem iB {X:Cx}:PTs X [] ml:=fun pz s σ H Q I h=>wpAny_pure ⟨H,I,h⟩
theorem rM {X:Cx} {c:Expr} {t:TT} (h:PT X c t):PTs X [c] t:=fun pz s σ H Q I hw=>wpAny_tests_one (h pz s σ H Q I hw)
structure pJ (X:Cx) (N:List Str) (scope:Scope) (cl:List (Str×Addr)) (f:St->St) (i:Nat) (x:Str):Prop where
 kind:scope.kind= .function
 cell:∀y∈scope.names,y.2≠ .cell
 names:∀y∈scope.names,y.2= .local->scope.names.lookup y.1=some .local
 clos:closureFor scope X.env=pure cl
 lk:∀y c,cl.lookup y=some c->X.env.cells.lookup y=some c
 has:∀y,((relabel scope X.env).names.lookup y=some .cell\/(relabel scope X.env).names.lookup y=some .free)->∃c,cl.lookup y=some c
 nd:N.Nodup
 ix:N[i]?=some x
 loc:scope.names.lookup x=some .local
 len:∀σ,σ.length=X.N.length->(f σ).length=N.length
 val:∀(σ:St) (k:Nat) (y:Str) (v:V),N[k]?=some y->(f σ)[k]?=some (some v)->∃j:Nat,X.N[j]?=some y/\σ[j]?=some (some v)/\X.env.scope.names.lookup y=some .cell/\(relabel scope X.env).names.lookup y=some .cell
theorem yc {X:Cx} {N:List Str} {scope:Scope} {cl:List (Str×Addr)} {f:St->St} {i:Nat} {x:Str} (B:pJ X N scope cl f i x) {pz:List (Addr×Obj)} {σ:St} {H:Hp} {s:Shared} {h₁:Heap} {tk:Nat} {m:Str->Option Value} {ex:List Addr}
  (I:Inv X pz σ H s) (hex:∀b∈ex,uo X pz H b/\b<s.heap.objs.size) (keep:∀b o,s.heap.get? b=some o->h₁.get? b=some o) (hn:h₁.Ns s.heap.objs.size m):
  Inv (blk X N scope cl s.heap.objs.size s H ex pz) [] (f σ) H {s with heap:=h₁,toks:=tk}:=by
 have nst:∀b,b≠X.env.locals->b∉X.fs->b∉frs X.stack:=fun b h1 h2 hb=>(aj.mp (I.stkSub b hb)).elim h1 h2
 have ltC:∀y c,X.env.cells.lookup y=some c->c<s.heap.objs.size:=fun y c e=>by
  obtain⟨v,o,ho,_⟩:=I.cell y c e
  exact eE ho
 refine⟨⟨I.ok.mod,B.kind,I.ok.glob,I.ok.blt,cb _,fun y z c h1 h2=>I.ok.inj y z c (B.lk y c h1) (B.lk z c h2),fun y hy=>B.has y hy,fun y c h=>(nomatch h),I.ok.hd,I.ok.frames,.inl rfl,fun b hb=>?_,I.bs,b0 I.ok.bsz I.sz,fun b o e hb=>?_,fun b hb=>?_,I.stack,I.stkFree⟩,
  rfl,I.bare,Un.kept keep,⟨m,hn,fun k y v e1 e2 e3=>?_⟩,fun y c e=>?_,I.hok.fresh (cb _),fun y c e=>I.freeC y c (B.lk y c e),fun p hp=>?_,I.hok.kept keep,B.len σ I.len⟩
 ·obtain⟨⟨_,_,_,_,hc,_⟩,lt⟩:=hex b hb
  exact⟨bZ lt,fun y c e=>hc y c (B.lk y c e)⟩
 ·obtain⟨⟨_,_,_,h4,_,_⟩,_⟩:=hex b hb
  rcases h4 with z|z
  ·exact I.ok.noex b o e z
  ·exact absurd (bX (eE (I.ok.bs b o e).1) z) (bY _)
 ·obtain⟨⟨_,h2,h3,_,_,_⟩,_⟩:=hex b hb
  exact nst b h2 h3
 ·obtain⟨j,h1,h2,h3,h4⟩:=B.val σ k y v e1 e2
  obtain⟨m',_,hl⟩:=I.loc
  obtain⟨u,r,l⟩:=hl j y v h1 h2 (.inr (.inl h3))
  refine⟨u,r,?_⟩
  rcases l with⟨hk,_⟩|⟨_,c,hc,z⟩
  ·have hk':X.env.scope.names.lookup y=some .local:=hk
   rw[h3]at hk'
   cases hk'
  ·obtain⟨c',hc'⟩:=B.has y (.inl h4)
   have e:c'=c:=cx.inj ((B.lk y c' hc').symm.trans hc)
   subst e
   obtain⟨o,ho,hd⟩:=z
   exact .inr ⟨.inl h4,c',hc',o,keep _ o ho,hd⟩
 ·obtain⟨v,o,ho,hd⟩:=I.cell y c (B.lk y c e)
  exact⟨v,o,keep _ o ho,hd⟩
 ·rw[aC]at hp
  obtain⟨e,n,ne,nf,d⟩:=I.pin p hp
  exact⟨keep _ _ e,n,bZ (eE e),nst _ ne nf,d⟩
theorem f7 {env:Env}:∀{names:List (Str×NameKind)} {x:Str} {k:NameKind},
  (names.map fun(n,k)=>if(k==NameKind.free&&env.scope.kind== .function&&env.kindOf n==some .cell)then(n,NameKind.cell)else(n,k)).lookup x=some k->
  ∃k0,names.lookup x=some k0/\(k=k0\/(k0= .free/\k= .cell))
 |[],_,_,h=>by simp at h
 |(n,k0)::r,x,k,h=>by
  have ih:=@f7 env r x k
  have h:az x ((if(k0==NameKind.free&&env.scope.kind== .function&&env.kindOf n==some .cell)=true then(n,NameKind.cell)else(n,k0))::(r.map fun(n,k)=>if(k==NameKind.free&&env.scope.kind== .function&&env.kindOf n==some .cell)then(n,NameKind.cell)else(n,k)))=some k:=h
  cases hx:x==n with
  |true=>
   by_cases hc:(k0==NameKind.free&&env.scope.kind== .function&&env.kindOf n==some .cell)=true
   ·rw[fY hc]at h
    simp only[aW,hx]at h⊢
    have hf:k0= .free:=by
     have hc':=hc
     simp only[dS]at hc'
     exact eq_of_beq hc'.1.1
    exact⟨k0,rfl,.inr ⟨hf,(cx.inj h).symm⟩⟩
   ·rw[fN hc]at h
    simp only[aW,hx]at h⊢
    exact⟨k0,rfl,.inl (cx.inj h).symm⟩
  |false=>
   have h2:(r.map fun(n,k)=>if(k==NameKind.free&&env.scope.kind== .function&&env.kindOf n==some .cell)then(n,NameKind.cell)else(n,k)).lookup x=some k:=by
    by_cases hc:(k0==NameKind.free&&env.scope.kind== .function&&env.kindOf n==some .cell)=true
    ·rw[fY hc]at h;simp only[aW,hx]at h;exact h
    ·rw[fN hc]at h;simp only[aW,hx]at h;exact h
   obtain⟨k1,e1,e2⟩:=ih h2
   exact⟨k1,by simp only[aW,hx];exact e1,e2⟩
theorem iC {env:Env} (hk:env.scope.kind= .function):∀{names:List (Str×NameKind)} {x:Str},env.scope.names.lookup x=some .cell->names.lookup x=some .free->
  (names.map fun(n,k)=>if(k==NameKind.free&&env.scope.kind== .function&&env.kindOf n==some .cell)then(n,NameKind.cell)else(n,k)).lookup x=some .cell
 |[],_,_,h=>by simp at h
 |(n,k0)::r,x,hc,h=>by
  have ih:=@iC env hk r x hc
  show az x ((if(k0==NameKind.free&&env.scope.kind== .function&&env.kindOf n==some .cell)=true then(n,NameKind.cell)else(n,k0))::_)=_
  cases hx:x==n with
  |true=>
   simp only[aW,hx]at h
   cases h
   have e:x=n:=eq_of_beq hx
   have hc':env.kindOf n=some .cell:=by rw[<-e];exact hc
   simp[aW,hx,hk,hc']
  |false=>
   simp only[aW,hx]at h
   by_cases hq:(k0==NameKind.free&&env.scope.kind== .function&&env.kindOf n==some .cell)=true
   ·rw[fY hq];simp only[aW,hx];exact ih h
   ·rw[fN hq];simp only[aW,hx];exact ih h
theorem DT {X:Cx} {scope:Scope} {x:Str} (hk:scope.kind= .function) (hn:∀p∈scope.names,p.2≠ .cell/\p.2≠ .free) (hl:∀y∈scope.names,y.2= .local->scope.names.lookup y.1=some .local)
  (hx:scope.names.lookup x=some .local) (hc:closureFor scope X.env=pure []):pJ X [x] scope [] (fun _=>[none]) 0 x where
 kind:=hk
 cell:=fun y hy=>(hn y hy).1
 names:=hl
 clos:=hc
 lk:=fun y c h=>by simp at h
 has:=fun y h=>by
  rcases h with h|h
  ·obtain⟨k0,e,z⟩:=f7 h
   have m:=hn _ (PySem.mem_of_lookup e)
   rcases z with z|⟨z,_⟩
   ·exact absurd z.symm m.1
   ·exact absurd z m.2
  ·obtain⟨k0,e,z⟩:=f7 h
   have m:=hn _ (PySem.mem_of_lookup e)
   rcases z with z|⟨z,_⟩
   ·exact absurd z.symm m.2
   ·exact absurd z m.2
 nd:=by simp
 ix:=rfl
 loc:=hx
 len:=fun _ _=>rfl
 val:=fun σ k y v h1 h2=>by
  cases k with
  |zero=>simp at h2
  |succ k=>simp at h2
def LcP (J:It) (i:Nat) (tt:TT) (te:TE) (Q:VK) (τ:St) (H1:Hp) (D:Addr):Prop:=
 ∃W:Nat->Nat->St->Hp->Prop,(∃m,W 0 m τ (upd H1 D (.lst [])))/\∀k m σ' H2,W k m σ' H2->
  (J.stop k H2/\Q (.ref D) H2)\/(J.go k H2/\∀v H3,J.yld k H2 v H3->tt (σ'.set i (some v)) H3 fun ok H4=>if ok=true
   then te (σ'.set i (some v)) H4 fun y H5=>∃xs,H5 D=some (.lst xs)/\xs.length<sizeLine/\∃m',m'<m/\W (k+ 1) m' (σ'.set i (some v)) (upd H5 D (.lst (xs++[y])))
   else ∃m',m'<m/\W (k+ 1) m' (σ'.set i (some v)) H4)
def tLC (wi:TI) (f:St->St) (i:Nat) (tt:TT) (te:TE):TE:=fun σ H Q=>wi σ H fun J H1=>∀D,H1 D=none->LcP J i tt te Q (f σ) H1 D
theorem yd {X:Cx} {elt iter:Expr} {x:Str} {px:Pos} {ifs:List Expr} {scope:Scope} {pos pos':Pos} {N:List Str} {cl:List (Str×Addr)} {f:St->St} {i:Nat} {wi:TI} {tt:TT} {te:TE} {use:Option (Value->Sem Unit)} {Qp:Value->Shared->Prop}
  {pz:List (Addr×Obj)} {s:Shared} {σ:St} {H:Hp} {Q:VK}
  (hc:X.calm=true) (B:pJ X N scope cl f i x) (hi:PI X (.Name x px) iter wi)
  (htt:∀C s₀ H₀ ex pz,PTs (blk X N scope cl C s₀ H₀ ex pz) ifs tt) (hte:∀C s₀ H₀ ex pz,PE (blk X N scope cl C s₀ H₀ ex pz) elt te)
  (hs:∀x,foldedSetIterable iter X.env x=pure x) (I:Inv X pz σ H s) (h:tLC wi f i tt te σ H Q)
  (fin:∀(fl:Flow) (s3 s6:Shared) (H3 H5:Hp) (d:Addr) (m:Str->Option Value),Inv X pz σ H3 s3->Inv X pz σ H5 s6->H5 s3.heap.objs.size=none->s6.heap.Ns s3.heap.objs.size m->Q (.ref d) H5->
   compPost (model X.prog X.w) X.A X.xe use Qp (.ref d) s3.heap.objs.size (.ok fl) s6):
  wpAny (model X.prog X.w) X.A (comprehension (.ListComp elt [⟨.Name x px,iter,ifs,0⟩] scope pos) scope X.env pos' (newList []) false (eval iter X.env) use) Qp X.xe s:=by
 refine wpAny_comprehension_free (use:=use) rfl hs B.clos B.kind B.names (thn (hi pz s σ H _ I h) fun xv s1 h1=>thn h1 fun itv s2 h2=>?_)
 obtain⟨it,fp,tn,J,H2,rfl,I2,T,st2,f2,q⟩:=h2
 have hD:H2 s2.heap.objs.size=none:=I2.fresh
 obtain⟨W,⟨m0,w0⟩,turn⟩:=q _ hD
 refine wpAny_newObj_type (wpAny_newFunctionEnv B.cell (by intro y hy;simp at hy) (fun h₁ hns₁ hsb₁=>?_) B.kind)
 have I3:Inv X pz σ (upd H2 s2.heap.objs.size (.lst [])) {s2 with heap:=s2.heap.push {cls:= .type "list",data:= .seq ([]:List Value).toArray}}:=I2.lnew (its:=[]) (ys:=[]) (t':=s2.toks) .nil (cc _)
 have lt2:∀b∈fp,b<s2.heap.objs.size:=fun b hb=>by
  obtain⟨o,ho,_⟩:=T.obj _ _ st2 b hb
  exact eE ho
 have fp3:∀b∈fp,uo X pz (upd H2 s2.heap.objs.size (.lst [])) b:=fun b hb=>by
  refine⟨?_,(f2 b hb).2⟩
  rw[eT (bZ (lt2 b hb))]
  exact(f2 b hb).1
 generalize hs3:({s2 with heap:=s2.heap.push {cls:= .type "list",data:= .seq ([]:List Value).toArray}}:Shared)=s3 at I3 hns₁ hsb₁⊢
 have eh:s2.heap.push {cls:= .type "list",data:= .seq ([]:List Value).toArray}=s3.heap:=by rw[<-hs3]
 have lt3:∀b∈fp,b<s3.heap.objs.size:=fun b hb=>by
  rw[<-eh,eI]
  exact Nat.lt_succ_of_lt (lt2 b hb)
 have old:∀b o,s3.heap.get? b=some o->h₁.get? b=some o:=fun b o e=>hsb₁.extBut b o (bZ (eE e)) (eG _ e)
 have I4:=yc (tk:=s3.toks+([]:List (Str×Value)).length) B I3 (ex:=fp) (fun b hb=>⟨fp3 b hb,lt3 b hb⟩) old hns₁
 have st4:tn 0 h₁:=T.keep _ _ _ st2 fun b _ o e=>old b o (by rw[<-eh];exact eG _ e)
 have fpB:∀{H':Hp},(∀b∈fp,H' b=none)->∀b∈fp,uo (blk X N scope cl s3.heap.objs.size s3 (upd H2 s2.heap.objs.size (.lst [])) fp pz) [] H' b:=fun{H'} hn b hb=>by
  obtain⟨_,g2,g3,g4,g5,g6⟩:=f2 b hb
  refine⟨hn b hb,bZ (lt3 b hb),fun z=>(aj.mp (I3.stkSub b z)).elim g2 g3,.inl hb,fun y c e=>g5 y c (B.lk y c e),fun p hp=>?_⟩
  rw[aC]at hp
  exact g6 p hp
 have loop:∀s4:Shared,s4={s3 with heap:=h₁,toks:=s3.toks+([]:List (Str×Value)).length}->
   codeAny (model X.prog X.w) X.A (.compLoop (.ListComp elt [⟨.Name x px,iter,ifs,0⟩] scope pos) 0 (.ref it) (.ref s2.heap.objs.size) (compEnvC scope cl s3.heap.objs.size X.env))
    (compPost (model X.prog X.w) X.A X.xe use Qp (.ref s2.heap.objs.size) s3.heap.objs.size) s4:=by
  rintro s4 rfl
  refine codeAny_compLoop_tests (I:=fun n s'=>∃k σ' H',Inv (blk X N scope cl s3.heap.objs.size s3 (upd H2 s2.heap.objs.size (.lst [])) fp pz) [] σ' H' s'/\tn k s'.heap/\(∀b∈fp,H' b=none)/\W k n σ' H') ?_ m0
   ⟨0,f σ,_,I4,st4,fun b hb=>(fp3 b hb).1,w0⟩
  rintro n s5 ⟨k,σ5,H5,I5,st5,fr5,w5⟩
  rcases turn k n σ5 H5 w5 with⟨stop,qn⟩|⟨go,step⟩
  ·refine wpAny_mono (T.done (blk X N scope cl s3.heap.objs.size s3 (upd H2 s2.heap.objs.size (.lst [])) fp pz) rfl rfl rfl hc k [] s5 σ5 H5 _ I5 (fpB fr5) st5 stop) (fun r s6 h6=>?_) fun _ _ z=>z
   obtain⟨hr,I6⟩:=h6
   subst hr
   obtain⟨m6,hn6,_⟩:=id I6.loc
   have I7:Inv X pz σ H5 s6:=I3.call' (s':=s6) (ch:=fp) I6.os I6.base I6.hok I6.bare fun b hb=>by
    obtain⟨_,g2,g3,g4,g5,g6⟩:=f2 b hb
    exact⟨g4,g2,g5,g6⟩
   exact fin _ s3 s6 _ H5 _ m6 I3 I7 I6.free hn6 qn
  ·refine wpAny_mono (T.item (blk X N scope cl s3.heap.objs.size s3 (upd H2 s2.heap.objs.size (.lst [])) fp pz) rfl rfl rfl hc k [] s5 σ5 H5 _ I5 (fpB fr5) st5 go) (fun r s6 h6=>?_) fun _ _ z=>z
   obtain⟨u,hr,h6⟩:=h6
   subst hr
   show wpAny _ _ (pure () >>= fun _=>assign (.Name x px) (compEnvC scope cl s3.heap.objs.size X.env) u) _ _ s6
   refine wpAny_bind (wpAny_mono (show wpAny _ _ (pure ()) _ _ s6 from h6) (fun _ s7 h7=>?_) fun _ _ z=>z)
   obtain⟨v,H7,I7,r7,y7,st7,fr7⟩:=h7
   have I7':=I7.pinned (fpB fr7) (T.obj _ _ st7)
   refine wpAny_assign_Name (oY (X:=blk X N scope cl s3.heap.objs.size s3 (upd H2 s2.heap.objs.size (.lst [])) fp pz) I7' B.nd B.ix (.inl (lookup_relabel_local B.loc)) r7 (fun s8 I8=>?_) (.inr (lookup_relabel_local B.loc)))
   have back:∀{σ9:St} {H9:Hp} {s9:Shared},Inv (blk X N scope cl s3.heap.objs.size s3 (upd H2 s2.heap.objs.size (.lst [])) fp pz) ([]++qU fp s7.heap) σ9 H9 s9->(∃m',m'<n/\W (k+ 1) m' σ9 H9)->
     ∃m',m'<n/\∃k σ' H',Inv (blk X N scope cl s3.heap.objs.size s3 (upd H2 s2.heap.objs.size (.lst [])) fp pz) [] σ' H' s9/\tn k s9.heap/\(∀b∈fp,H' b=none)/\W k m' σ' H':=fun{σ9 H9 s9} I9 q9=>by
    obtain⟨m',hm,w9⟩:=q9
    refine⟨m',hm,k+ 1,σ9,H9,I9.unpinned,T.keep _ _ _ st7 fun b hb o e=>(I9.pin (b,o) (aw _ (aw _ (jy hb e)))).1,fun b hb=>?_,w9⟩
    obtain⟨o,e,d⟩:=T.obj _ _ st7 b hb
    exact(I9.pin (b,o) (aw _ (aw _ (jy hb e)))).2.1
   refine wpAny_mono (htt _ _ _ _ _ _ s8 _ H7 _ I8 (step v H7 y7)) (fun ok s9 h9=>?_) fun _ _ z=>False.elim z
   obtain⟨H9,I9,q9⟩:=h9
   cases ok with
   |false=>
    rw[fN dQ]
    rw[fN dQ]at q9
    exact back I9 q9
   |true=>
    rw[fY rfl]
    rw[fY rfl]at q9
    refine wpAny_mono (hte _ _ _ _ _ _ s9 _ H9 _ I9 q9) (fun y s10 h10=>?_) fun _ _ z=>False.elim z
    obtain⟨v10,H10,I10,r10,xs,hx10,hz,q10⟩:=h10
    refine wpAny_mono (fZ (X:=blk X N scope cl s3.heap.objs.size s3 (upd H2 s2.heap.objs.size (.lst [])) fp pz) _ s10 _ H10 (.ref s2.heap.objs.size) [v10] _ [y] (fun _ H11=>H11=upd H10 s2.heap.objs.size (.lst (xs++[v10]))) I10 rfl (.cons r10 .nil) ⟨_,xs,v10,rfl,rfl,hx10,hz,rfl⟩) (fun _ s11 h11=>?_) fun _ _ z=>False.elim z
    obtain⟨_,H11,I11,_,e11⟩:=h11
    subst e11
    exact back I11 q10
 exact codeAny_compStart_list (loop _ rfl) (T.self _ 0 _ _ _ st4 (loop _ rfl))
theorem rN {X:Cx} {elt iter:Expr} {x:Str} {px:Pos} {ifs:List Expr} {scope:Scope} {pos:Pos} {N:List Str} {cl:List (Str×Addr)} {f:St->St} {i:Nat} {wi:TI} {tt:TT} {te:TE}
  (hc:X.calm=true) (B:pJ X N scope cl f i x) (hi:PI X (.Name x px) iter wi)
  (htt:∀C s₀ H₀ ex pz,PTs (blk X N scope cl C s₀ H₀ ex pz) ifs tt) (hte:∀C s₀ H₀ ex pz,PE (blk X N scope cl C s₀ H₀ ex pz) elt te)
  (hs:autoParam (∀x,foldedSetIterable iter X.env x=pure x) L2.Internal.auI._auto_1):PE X (.ListComp elt [⟨.Name x px,iter,ifs,0⟩] scope pos) (tLC wi f i tt te):=by
 intro pz s σ H Q I h
 rw[eval_ListComp]
 refine yd hc B hi htt hte hs I h fun fl s3 s6 H3 H5 d m I3 I7 fr hn qn=>?_
 refine⟨m,hn,fun h' sb=>⟨.ref d,H5,?_,rfl,qn⟩⟩
 exact Inv.turned (h':=h') (t':=s6.toks) (it:=s3.heap.objs.size) I7 (fun b o hb e=>(sb.2 b hb).trans e) fr (b9 I3.lt) (.inr I3.sz) (fun z c e q=>by
  obtain⟨v,q2⟩:=I3.cell z c e
  exact absurd (q▸q2.lt) (bY _)) fun p hp q=>absurd (q▸eE (I3.pin p hp).1) (bY _)
section
variable {X:Cx}
theorem zV {bs:List Bool}:∀{us:List Value},gM (bs.map V.bl) us->us=bs.map Value.bool:=by
 induction bs with
 |nil=>intro us r;rw[aS]at r;cases r;rfl
 |cons n ns ih=>
  intro us r
  rw[aA]at r
  cases r with
  |cons r1 r2=>
   cases(show _=Value.bool n from r1)
   rw[ih r2]
   rfl
theorem wD (bs:List Bool):((aa bs.length).all fun i=>(bs[i]?).getD true)=bs.all id:=by
 induction bs with
 |nil=>rfl
 |cons b r ih=>
  rw[ay,aX,aY,List.all_map,aY,<-ih]
  rfl
theorem wF {h h':Heap} {o:Obj} (hk:∀b x,b∉[h.objs.size]->(h.push o).get? b=some x->h'.get? b=some x):∀b x,h.get? b=some x->h'.get? b=some x:=
 fun b x e=>hk b x (fun hm=>by rw[aZ.mp hm]at e;exact bY _ (eE e)) (eG _ e)
theorem zW (hc:X.calm=true):nK X (.builtin "all") (fun xs H Q=>∃(a:Addr) (bs:List Bool),xs=[.ref a]/\SqL X.K H a (bs.map V.bl)/\Q (.bl (bs.all id)) H):=by
 intro pz s σ H xs us Q I r h
 obtain⟨a,bs,rfl,ha,q⟩:=h
 obtain⟨u,rfl,ru⟩:=pB r
 cases ru
 obtain⟨its,rv,pl,hz⟩:=I.list ha
 have ei:=zV rv
 subst ei
 have hl:s.heap.IsList a (bs.map Value.bool).toArray:=pl.isList
 have hlt:a<s.heap.objs.size:=by obtain⟨_,e,_⟩:=hl;exact eE e
 refine call_all_walk (wpAny_pyIter_list hl ?_)
 refine⟨s.heap.objs.size,[s.heap.objs.size,a],[s.heap.objs.size],(bs.map Value.bool).toArray.size,_,_,fun i=>(bs[i]?).getD true,rfl,Walks.list (A:=X.A.in1) (I.ok.hd hc) _ a (bZ hlt) (bs.map Value.bool).toArray,
  ⟨⟨_,eF _ rfl,rfl,rfl⟩,hl.push _⟩,fun i v s' Q' E' hP hQ=>?_,fun h' tk hk=>?_⟩
 ·have hv:(bs.map Value.bool)[i]?=some v:=by simpa using hP
  rw[aJ]at hv
  cases e:bs[i]? with
  |none=>rw[e]at hv;cases hv
  |some b=>
   rw[e]at hv
   have e2:v=Value.bool b:=(cx.inj hv).symm
   subst e2
   simp only[e,Option.getD_some]at hQ
   exact wpAny_truthy_bool hQ
 ·have e:((aa (bs.map Value.bool).toArray.size).all fun i=>(bs[i]?).getD true)=bs.all id:=by
   rw[ax,aB];exact wD bs
  rw[e]
  exact⟨.bl (bs.all id),H,I.kept (wF hk),rfl,q⟩
def rSlS:V->Option Int->Option Int->Hp->VK->Prop:=fun x lo hi H Q=>∃z,x= .str z/\z.length<=sizeLine/\Q (.str (Txt.slice z lo hi)) H
theorem AX:SlR X rSlS:=by
 intro pz s σ H x v vl vu lo hi sl Q I rx hs pl pu h
 obtain⟨z,rfl,hz,q⟩:=h
 obtain⟨t,rfl⟩:=rx
 refine⟨"str",_,F.slot_str_getitem.lookup,typeIs_str _ _ _,?_⟩
 have fin:∀t' k,EP X pz σ Q (.str (Txt.slice z lo hi) t') {s with toks:=k}:=fun t' k=>⟨.str _,H,I.tok k,⟨t',rfl⟩,q⟩
 cases pl with
 |none=>
  cases pu with
  |none=>exact wpAny_getItem_str_slice (l:=none) (u:=none) (st:=none) hs rfl (post_val_or_str ⟨b0 (Txt.slice_le z _ _) hz,fun t' k=>fin t' k⟩)
  |int j u=>exact wpAny_getItem_str_slice (l:=none) (u:=some (j,u)) (st:=none) hs rfl (post_val_or_str ⟨b0 (Txt.slice_le z _ _) hz,fun t' k=>fin t' k⟩)
 |int i u'=>
  cases pu with
  |none=>exact wpAny_getItem_str_slice (l:=some (i,u')) (u:=none) (st:=none) hs rfl (post_val_or_str ⟨b0 (Txt.slice_le z _ _) hz,fun t' k=>fin t' k⟩)
  |int j u=>exact wpAny_getItem_str_slice (l:=some (i,u')) (u:=some (j,u)) (st:=none) hs rfl (post_val_or_str ⟨b0 (Txt.slice_le z _ _) hz,fun t' k=>fin t' k⟩)
theorem jQ:nK X (.builtin "isinstance") (fun xs H Q=>∃x v c t b,xs=[x,v]/\(∀u,gR v u->u=c)/\ur X.K H x t/\PySem.W.kitOne X.K t c=some b/\Q (.bl b) H):=by
 intro pz s σ H xs us Q I r h
 obtain⟨x,v,c,t,b,rfl,hc,ht,hk,q⟩:=h
 obtain⟨u,u',rfl,ru,ru'⟩:=wm r
 cases hc u' ru'
 exact xJ I ru ht hk fun tk=>⟨.bl b,H,I.tok tk,rfl,q⟩
end
section
variable {X:Cx}
open Builtin Builtin.Str in
def PE1 (X:Cx) (e:Expr) (t:TE):Prop:=
 ∀(pz:List (Addr×Obj)) (s:Shared) (σ:St) (H:Hp) (Q:VK),Inv X pz σ H s->1<=s.toks->t σ H Q->wpAny (model X.prog X.w) X.A (eval e X.env) (fun u s'=>1<=s'.toks/\EP X pz σ Q u s') X.xe s
theorem PE.one {e:Expr} {t:TE} (h:PE X e t):PE1 X e t:=fun pz s σ H Q I ht hw=>wpAny_mono (wpAny_toks_of ht (h pz s σ H Q I hw)) (fun _ _ z=>z) fun _ _ z=>z.2
def FH (X:Cx) (st:List Stmt) (t:TS):Prop:=
 ∀(pz:List (Addr×Obj)) (s:Shared) (σ:St) (H:Hp) (D:nH),Inv X pz σ H s->1<=s.toks->t D σ H->wpAny (model X.prog X.w) X.A (execs st X.env) (SP X pz D) X.xe s
theorem FH.nox {st:List Stmt} {t:TS} (h:FH X.nox st t):FH X st t:=fun pz s σ H D I ht hw=>
 wpAny_mono (h pz s σ H D (I.wish _) ht hw) (fun _ _ q=>q.unwish) fun _ _ z=>False.elim z
end
section
variable {X:Cx} {st:Stmt} {rest:List Stmt} {t u:TS}
end
section
variable {P:Program} {w:World} {H H':Hp} {h h':Heap} {a:Addr} {o:HO}
end
structure Fl (P:Program) (w:World) (outer:List Env) (H:Hp) (s:Shared) (B:Heap) (H':Hp) (s':Shared):Prop where
 os:s'.os=s.os
 bare:AllBare s'.gens
 un:Un (frs outer) [] H H' s.heap s'.heap
 hok:HOk P w H' s'.heap
 stay:B.StaysIn s'.heap
 trk:∀b u,H' b=some u->∃o,B.get? b=some o
 old:∀b o,s.heap.get? b=some o->b∉frs outer->∃o',B.get? b=some o'
section
variable {X:Cx} {pz:List (Addr×Obj)} {σ:St} {H H':Hp} {s s':Shared} {B h:Heap}
theorem Inv.track {ea:Addr} {o:HO} (I:Inv X pz σ H s) (hn:H ea=none) (h0:X.s₀.heap.get? ea=none) (hL:ea≠X.env.locals) (hC:∀x c,X.env.cells.lookup x=some c->c≠ea) (hP:∀p∈X.pn++pz,p.1≠ea)
  (new:g0 X.prog X.w (upd H ea o) s.heap ea o):Inv X pz σ (upd H ea o) s:=by
 have ne:∀b u,H b=some u->b≠ea:=fun b u e z=>by rw[z,hn]at e;cases e
 refine⟨I.ok,I.os,I.bare,⟨I.base.keep,I.base.slot,fun b ob e n hx=>?_,I.base.there,fun b xs e=>?_,fun b ob u e=>?_,fun b ps e=>?_⟩,I.loc,I.cell,?_,fun x c e=>?_,fun p hp=>?_,fun b u e=>?_,I.len⟩
 ·rw[eT (fun z=>by rw[z,h0]at e;cases e)]
  exact I.base.free b ob e n hx
 ·have e1:=I.base.tups b xs e
  rw[eT (ne b _ e1)]
  exact e1
 ·have e1:=I.base.frzs b ob u e
  rw[eT (ne b _ e1)]
  exact e1
 ·obtain⟨more,e1⟩:=I.base.tbls b ps e
  exact⟨more,by rw[eT (ne b _ e1)];exact e1⟩
 ·rw[eT (Ne.symm hL)]
  exact I.free
 ·rw[eT (hC x c e)]
  exact I.freeC x c e
 ·obtain⟨e,n,n2,nf,d⟩:=I.pin p hp
  exact⟨e,by rw[eT (hP p hp)];exact n,n2,nf,d⟩
 ·by_cases hb:b=ea
  ·subst hb
   rw[eO]at e
   cases e
   exact new
  ·rw[eT hb]at e
   exact(I.hok b u e).stay (fun _ _ _ q=>q) (fun c z=>by rw[eT (ne c _ z)];exact z) fun c xs z=>by rw[eT (ne c _ z)];exact z
end
section
variable {P:Program} {w:World} {K:PySem.W.Frag} {mg:Str->Option Value} {base:Heap} {N:List Str} {qual:Str} {scope:Scope} {f:Addr} {cd:Value} {A:Around} {outer:List Env} {s₀:Shared} {H₀:Hp} {E:XK}
end
def VEbm:List Value:=[.type "ValueError",.type "Exception",.type "BaseException",.type "object"]
section
variable {X:Cx} {C:Addr} {E:XK} {x:Str} {np cpos pos:Pos} {e:Expr} {es:List Expr} {t:TA}
end
section
variable {P:Program} {w:World} {K:PySem.W.Frag} {mg:Str->Option Value} {base:Heap}
end
section
variable {X:Cx} {pz:List (Addr×Obj)} {σ:St} {H:Hp} {s:Shared}
end
section
variable {X:Cx} {CX:CXT} {k:Nat} {f Y:Addr} {fd:FuncData} {ps:List Str} {sp:Sp} {dvs:List V} {ds:List Value} {E:XK} {x y n:Str} {p pos pos' py hpos tpos:Pos} {e:Expr} {es:List Expr} {t:TA} {b₀:Stmt} {body:List Stmt} {tb:TS} {i:Nat}
end
section
variable {X:Cx} {e:Expr} {es:List Expr} {te:TE} {pos:Pos}
end
section
variable {X:Cx}
end
inductive Dt where
 |flat (v:V)
 |tup (l:List Dt)
 |lst (l:List Dt)
mutual
inductive At (K:PySem.W.Frag) (H:Hp):V->Dt->Prop where
 |flat {v:V} (h:xW v=true):At K H v (.flat v)
 |tup {a:Addr} {xs:List V} {ds:List Dt} (h:SqT K H a xs) (hs:Ats K H xs ds):At K H (.ref a) (.tup ds)
 |lst {a:Addr} {xs:List V} {ds:List Dt} (h:SqL K H a xs) (hs:Ats K H xs ds):At K H (.ref a) (.lst ds)
inductive Ats (K:PySem.W.Frag) (H:Hp):List V->List Dt->Prop where
 |nil:Ats K H [] []
 |cons {x:V} {d:Dt} {xs:List V} {ds:List Dt} (h:At K H x d) (hs:Ats K H xs ds):Ats K H (x::xs) (d::ds)
end
mutual
def eqD:Dt->Dt->Bool
 | .flat a,.flat b=>eqV a b
 | .tup l,.tup m=>wG l m
 | .lst l,.lst m=>wG l m
 |_,_=>false
def wG:List Dt->List Dt->Bool
 |[],[]=>true
 |x::xs,y::ys=>eqD x y&&wG xs ys
 |_,_=>false
end
mutual
def jb:Dt->Nat
 | .flat _=>0
 | .tup l=>fV l+ 1
 | .lst l=>fV l+ 1
def fV:List Dt->Nat
 |[]=>0
 |x::xs=>max (jb x) (fV xs)
end
theorem Ats.length {K:PySem.W.Frag} {H:Hp}:∀{xs:List V} {ds:List Dt},Ats K H xs ds->xs.length=ds.length
 |_,_,.nil=>rfl
 |_,_,.cons _ t=>by rw[ay,ay,Ats.length t]
theorem Ats.get {K:PySem.W.Frag} {H:Hp}:∀{xs:List V} {ds:List Dt} {j:Nat} {x:V},Ats K H xs ds->xs[j]?=some x->∃d,ds[j]?=some d/\At K H x d
 |_,_,0,_,.cons h _,e=>⟨_,rfl,by cases e;exact h⟩
 |_,_,j+ 1,_,.cons _ t,e=>Ats.get (j:=j) t e
 |_,_,_,_,.nil,e=>by simp at e
theorem vw:∀(l m:List Dt),l.length≠m.length->wG l m=false
 |[],[],h=>absurd rfl h
 |x::xs,y::ys,h=>by
  rw[wG,vw xs ys (fun e=>h (by rw[ay,ay,e])),dU]
 |[],y::ys,_=>by rw[wG];all_goals simp
 |x::xs,[],_=>by rw[wG];all_goals simp
def yf (l m:List Dt) (j:Nat):Bool:=match l[j]?,m[j]? with
 |some a,some b=>eqD a b
 |_,_=>false
theorem rf:∀(l m:List Dt),l.length=m.length->((aa l.length).all fun j=>yf l m j)=wG l m
 |[],[],_=>by rw[wG];rfl
 |x::xs,y::ys,h=>by
  have ih:=rf xs ys (by simpa using h)
  rw[ay,aX,aY,List.all_map,wG,<-ih]
  rfl
 |[],_::_,h=>by simp at h
 |_::_,[],h=>by simp at h
theorem depDs_get:∀{l:List Dt} {j:Nat} {a:Dt},l[j]?=some a->jb a<=fV l
 |x::xs,0,a,e=>by cases e;rw[fV];exact Nat.le_max_left ..
 |x::xs,j+ 1,a,e=>by rw[fV];exact b0 (depDs_get (j:=j) e) (Nat.le_max_right ..)
 |[],_,_,e=>by simp at e
theorem yg {v:V} (h:xW v=true):eqV v v=true:=by
 cases v with
 |non=>rfl
 |bl b=>show(b==b)=true;simp
 |int i=>show(i==i)=true;simp
 |str x=>show(x==x)=true;simp
 |_=>exact absurd h dQ
section
variable {X:Cx} {pz:List (Addr×Obj)} {σ:St} {H:Hp} {s:Shared}
def Els (K:PySem.W.Frag) (H:Hp) (A:Around) (s:Shared) (ds es:List Dt):Prop:=
 ∀(j:Nat) (d1 d2:Dt) (x y:V) (u v:Value),ds[j]?=some d1->es[j]?=some d2->gR x u->gR y v->At K H x d1->At K H y d2->SeqAt.EqAt A s u v (eqD d1 d2)
theorem els {A:Around} {xs ys:List V} {its its2:List Value} {ds es:List Dt} (r:gM xs its) (r2:gM ys its2) (hs:Ats X.K H xs ds) (hs':Ats X.K H ys es) (EL:Els X.K H A s ds es):
  ∀j (h1:j<its.toArray.size) (h2:j<its2.toArray.size),SeqAt.EqAt A s its.toArray[j] its2.toArray[j] (yf ds es j):=fun j h1 h2=>by
 have l1:=r.length
 have l2:=r2.length
 have h1':j<xs.length:=by simp only[ax]at h1;lia
 have h2':j<ys.length:=by simp only[ax]at h2;lia
 obtain⟨w1,e1,q1⟩:=r.get (ba h1')
 obtain⟨w2,e2,q2⟩:=r2.get (ba h2')
 obtain⟨d1,f1,p1⟩:=hs.get (ba h1')
 obtain⟨d2,f2,p2⟩:=hs'.get (ba h2')
 have g1:its.toArray[j]=w1:=by simpa using(aq.mp e1).2
 have g2:its2.toArray[j]=w2:=by simpa using(aq.mp e2).2
 have ed:yf ds es j=eqD d1 d2:=by unfold yf;rw[f1,f2]
 rw[g1,g2,ed]
 exact EL j d1 d2 _ _ _ _ f1 f2 q1 q2 p1 p2
theorem B6 {ds es:List Dt} {n m:Nat} (h1:n=ds.length) (h2:m=es.length):((aa (min n m)).all (yf ds es)&&n==m)=eqD (.tup ds) (.tup es):=by
 subst h1 h2
 rw[eqD]
 by_cases hl:ds.length=es.length
 ·rw[<-rf ds es hl,<-hl,Nat.min_self]
  simp
 ·rw[vw ds es hl,beq_eq_false_iff_ne.mpr hl,dU]
theorem DU {A:Around} {a b:Addr} {xs ys:List V} {ds es:List Dt} (I:Inv X pz σ H s) (h:SqT X.K H a xs) (hs:Ats X.K H xs ds) (h':SqT X.K H b ys) (hs':Ats X.K H ys es) (hu:A.units<cLine) (EL:Els X.K H A.in1 s ds es):
  SeqAt.RcAt A s (.ref a) (.ref b) (eqD (.tup ds) (.tup es))/\SeqAt.RcNeAt A s (.ref a) (.ref b) (!eqD (.tup ds) (.tup es)):=by
 obtain⟨its,r,pl,_⟩:=I.tuple h
 obtain⟨its2,r2,pl2,_⟩:=I.tuple h'
 have e:=els r r2 hs hs' EL
 have l1:its.toArray.size=ds.length:=by rw[ax,<-r.length,hs.length]
 have l2:its2.toArray.size=es.length:=by rw[ax,<-r2.length,hs'.length]
 have k1:=SeqAt.RcAt.tuples (A:=A) (s:=s) pl pl2 hu e
 have k2:=SeqAt.RcNeAt.tuples (A:=A) (s:=s) pl pl2 hu e
 rw[B6 l1 l2]at k1 k2
 exact⟨k1,k2⟩
end
section
variable {X:Cx}
end
def B8 (P:Program) (w:World) (K:PySem.W.Frag) (a:Addr) (kvs:List (Key×V)):Prop:=(a==sysModules)=false/\∃vs,KV kvs vs/\∀h:Heap,K.In h->h.DictOf (iK P w) a vs
theorem zX {P:Program} {w:World} {K:PySem.W.Frag} {a:Addr} {es:Array DictEntry} {n:Nat} {l:List (Str×Tok×Addr)} (ha:(a==sysModules)=false) (hl:K.lookup a=some ⟨.type "dict",none,.dict es n,#[]⟩)
  (he:es.toList=l.map fun p=>⟨PyData.keyHash w.params p.1,.str p.1 p.2.1,.ref p.2.2⟩) (hn:(l.map (·.1)).Nodup):B8 P w K a (l.map fun p=>(Sum.inr p.1,V.ref p.2.2)):=by
 refine⟨ha,l.map fun p=>(Sum.inr p.1,Value.ref p.2.2),?_,fun h hk=>?_⟩
 ·clear he hn
  induction l with
  |nil=>exact .nil
  |cons p r ih=>exact .cons ⟨rfl,rfl⟩ ih
 ·refine⟨_,es,n,hk _ _ hl,⟨rfl,rfl,rfl⟩,rfl,fun e hm=>?_,?_,?_⟩
  ·have hm':e∈es.toList:=by simpa using hm
   rw[he]at hm'
   obtain⟨p,_,rfl⟩:=bb.mp hm'
   exact⟨Sum.inr p.1,pk p.1 p.2.1,rfl⟩
  ·rw[he]
   clear he hn
   induction l with
   |nil=>exact .nil
   |cons p r ih=>exact .cons (pk p.1 p.2.1) rfl ih
  ·rw[bg]
   have e:(bh ((fun(x:Key×Value)=>x.1)∘fun(p:Str×Tok×Addr)=>((Sum.inr p.1:Key),Value.ref p.2.2)) l)=(l.map (·.1)).map (Sum.inr:Str->Key):=by
    rw[bg]
    rfl
   rw[e]
   exact List.Pairwise.map _ (fun a b h z=>h (Sum.inr.inj z)) hn
def FI (a:Addr) (kvs:List (Key×V)) (td ty:TE):TE:=fun σ H Q=>td σ H fun x H1=>ty σ H1 fun y H2=>∃k v,x= .ref a/\y=kV k/\kr kvs k=some v/\Q v H2
section
variable {X:Cx} {o i:Expr} {pos:Pos} {td ty:TE} {a:Addr} {kvs:List (Key×V)}
theorem B9 (d:B8 X.prog X.w X.K a kvs) (ho:PE X o td) (hi:PE X i ty) (hs:FC i:=by exact fun _ _=>rfl):PE X (.Subscript o i pos) (FI a kvs td ty):=by
 intro pz s σ H Q I h
 refine xR dE.lookup hs (thn (ho pz s σ H _ I h) fun u s1 ⟨x,H1,I1,rx,q1⟩=>thn (hi pz s1 σ H1 _ I1 q1) fun iv s2 ⟨y,H2,I2,ry,k,v,ex,ey,hv,q2⟩=>?_)
 subst ex ey
 obtain rfl:u=Value.ref a:=rx
 obtain⟨_,vs,rel,dd⟩:=d
 obtain⟨w',hw,rw'⟩:=rA.some_of (v:=v) (o:=valueAt vs k) (by rw[<-hv];exact rel.val k)
 exact⟨(dd _ I2.kIn).typeIs,wpAny_getItem_of (xM ry) (dd _ I2.kIn).mapOf hw ⟨v,H2,I2.tok _,rw',q2⟩⟩
end
section
variable {X:Cx}
end
section
variable {X:Cx} {k:Nat} {f Y:Addr} {fd:FuncData} {ps:List Str} {sp:Sp} {dvs:List V} {ds:List Value} {x y n:Str} {p pos pos' py hpos tpos pn:Pos} {e:Expr} {es:List Expr} {t:TA} {b₀:Stmt} {body:List Stmt} {tb:TS} {i:Nat}
end
end L2.Internal
namespace L2.Internal
end L2.Internal
namespace L2.Internal
open PySem PySem.Spec PyProof.Rows
section
variable {X:Cx} {pz:List (Addr×Obj)} {σ:St} {H:Hp} {s:Shared} {h':Heap}
theorem Inv.turnedL {t':Nat} {ch:List Addr} (I:Inv X pz σ H s) (k:∀b o,b∉ch->s.heap.get? b=some o->h'.get? b=some o) (hf:∀b∈ch,uo X pz H b):Inv X pz σ H {s with heap:=h',toks:=t'}:=by
 have nit:∀b u,H b=some u->b∉ch:=fun b u e z=>by
  have q:=(hf b z).1
  rw[q]at e;cases e
 refine I.step (g':=s.gens) (d':=s.drawn) (ch:=ch) (fun b hb=>?_) (fun b o _ _ hc e _=>k b o hc e) (fun b o _ _ hc e _=>⟨o.slots,k b o hc e⟩) (fun _ _ _ _ n=>n)
  (fun b o hc e=>⟨o,k b o hc e⟩) (fun _ _ e=>e) (fun _ _ _ e=>e) (fun b ps e=>⟨#[],by rw[e];simp⟩) (fun m hm=>?_) (fun b u e=>?_) I.bare
 ·obtain⟨_,f1,_,f3,f4,f5⟩:=hf b hb
  exact⟨f3,f1,f4,f5⟩
 ·obtain⟨o,es,ep,ho,r⟩:=hm
  exact⟨o,es,ep,k _ o (fun z=>(hf _ z).2.1 rfl) ho,r⟩
 ·refine(I.hok b u e).stay (fun c v hc q=>k c v ?_ q) (fun _ q=>q) fun _ _ q=>q
  rcases hc with z|z
  ·rw[z];exact nit b u e
  ·exact nit c _ z
theorem Inv.pairNew {T:Addr} {h:Heap} {tk:Nat} {ux uy:Value} {x y:V} (I:Inv X pz σ H s) (hT:s.heap.objs.size<=T) (J:Inv X pz σ H {s with heap:=h,toks:=tk}) (ht:uh h T #[ux,uy]) (rx:gR x ux) (ry:gR y uy):
  H T=none/\Inv X pz σ (upd H T (.tup [x,y])) {s with heap:=h,toks:=tk}:=by
 have f:=I.fpOk (H':=H) hT (I.hok.fresh hT)
 refine⟨f.1,J.track f.1 ?_ f.2.1 f.2.2.2.2.1 f.2.2.2.2.2 ⟨by show 2<=sizeLine;decide,[ux,uy],.cons rx (.cons ry .nil),ht⟩⟩
 cases q:X.s₀.heap.get? T with
 |none=>rfl
 |some o=>exact absurd (bX (eE q) (b0 I.sz hT)) (bY _)
end
def Itz (K:PySem.W.Frag) (a b:Addr):It:=
 ⟨fun i H=>∃xs ys x y,SqL K H a xs/\SqL K H b ys/\xs[i]?=some x/\ys[i]?=some y,
   fun i H v H'=>∃T x y,v= .ref T/\H T=none/\H'=upd H T (.tup [x,y])/\(∀xs,SqL K H a xs->xs[i]?=some x)/\∀ys,SqL K H b ys->ys[i]?=some y,
   fun i H=>∃xs ys,SqL K H a xs/\SqL K H b ys/\i=min xs.length ys.length⟩
def ZSt (z TI TO i1 i2 a b:Addr) (i:Nat) (h:Heap):Prop:=IsZip h z TI TO .none/\IsPair h TI (.ref i1) (.ref i2)/\(∃u v,IsPair h TO u v)/\h.IsListIter i1 a i/\h.IsListIter i2 b i
theorem zY {P:Program} {w:World} {K:PySem.W.Frag} {es:List Expr} {kk:Nat} {tp:Pos} {a b z TI TO i1 i2:Addr} (D:ZipApart z TI TO i1 i2 a b):zL P w K (.Tuple es kk tp) (Itz K a b) [z,TI,TO,i1,i2] z (ZSt z TI TO i1 i2 a b) where
 mem:=by simp
 obj:=fun i h st c hc=>by
  obtain⟨g1,g2,⟨u,v,g3⟩,⟨o4,g4,_,d4⟩,⟨o5,g5,_,d5⟩⟩:=st
  simp only[aj,bj,or_false]at hc
  rcases hc with e|e|e|e|e<;>subst e
  ·exact⟨_,g1,fun v q=>nomatch q⟩
  ·exact⟨_,g2,fun v q=>nomatch q⟩
  ·exact⟨_,g3,fun v q=>nomatch q⟩
  ·exact⟨_,g4,fun v q=>by rw[d4]at q;cases q⟩
  ·exact⟨_,g5,fun v q=>by rw[d5]at q;cases q⟩
 keep:=fun i h h' st k=>by
  obtain⟨g1,g2,⟨u,v,g3⟩,g4,g5⟩:=st
  exact⟨k z (by simp) _ g1,k TI (by simp) _ g2,⟨u,v,k TO (by simp) _ g3⟩,g4.at fun o e=>k i1 (by simp) o e,g5.at fun o e=>k i2 (by simp) o e⟩
 item:=by
  intro X hP hw hK hc i pz s σ H E I hf st hg
  subst hP hw hK
  obtain⟨xs,ys,x,y,qx,qy,ex,ey⟩:=hg
  obtain⟨i1s,r1,p1,z1⟩:=I.list qx
  obtain⟨i2s,r2,p2,z2⟩:=I.list qy
  obtain⟨g1,g2,g3,g4,g5⟩:=st
  obtain⟨u3,v3,g3'⟩:=g3
  obtain⟨ux,hux,rr1⟩:=r1.get ex
  obtain⟨uy,huy,rr2⟩:=r2.get ey
  have hw:∀c∈[z,TO,i1,i2],uo X pz H c:=fun c hc=>hf c (by simp only[aj,bj,or_false]at hc⊢;rcases hc with h|h|h|h<;>simp[h])
  refine wpAny_pyNext_zip_item D g1 g2 g3' g4 g5 p1.isList p2.isList (x:=ux) (y:=uy) (by simpa using hux) (by simpa using huy) fun h1 a1 a2 a3 a4 a5 a6 hk=>?_
  have kk1:∀c o,c∉[z,TO,i1,i2]->s.heap.get? c=some o->h1.get? c=some o:=fun c o hc e=>hk c o (fun q=>hc (by simp[q])) (fun q=>hc (by simp[q])) (fun q=>hc (by simp[q])) (fun q=>hc (by simp[q])) e
  have J1:Inv X pz σ H {s with heap:=h1,toks:=s.toks}:=I.turnedL kk1 hw
  refine⟨.ref s.heap.objs.size,rfl,wpAny_letOwnedTupleGo_zip a1 fun h2 a1' sb=>?_⟩
  have J2:Inv X pz σ H {s with heap:=h2,toks:=s.toks}:=Inv.turnedL (s:={s with heap:=h1,toks:=s.toks}) (h':=h2) (t':=s.toks) (ch:=[z]) J1 (fun c o hc e=>sb.extBut _ _ (fun q=>hc (by simp[q])) e) fun c hc=>hf c (by simp only[aj,bj,or_false]at hc⊢;simp[hc])
  have zlt:z<s.heap.objs.size:=eE g1
  have ht2:uh h2 s.heap.objs.size #[ux,uy]:=⟨_,sb.extBut _ _ (b9 zlt) a5,rfl,_,rfl,rfl⟩
  obtain⟨fT,J3⟩:=I.pairNew (cb _) J2 ht2 rr1 rr2
  refine⟨.ref s.heap.objs.size,_,J3,rfl,⟨_,x,y,rfl,fT,rfl,fun l hl=>by rw[I.list_inj hl qx];exact ex,fun l hl=>by rw[I.list_inj hl qy];exact ey⟩,
   ⟨a1',sb.extBut _ _ D.TIz (hk _ _ D.TIz D.TITO D.TIi1 D.TIi2 g2),⟨_,_,sb.extBut _ _ D.TOz a2⟩,a3.extBut sb.extBut D.i1z,a4.extBut sb.extBut D.i2z⟩,fun c hc=>?_⟩
  rw[eT (fun q=>?_)]
  ·exact(hf c hc).1
  ·have lt:c<s.heap.objs.size:=by
    obtain⟨o4,e4,_⟩:=g4
    obtain⟨o5,e5,_⟩:=g5
    simp only[aj,bj,or_false]at hc
    rcases hc with e|e|e|e|e<;>subst e
    ·exact eE g1
    ·exact eE g2
    ·exact eE g3'
    ·exact eE e4
    ·exact eE e5
   exact absurd lt (by rw[q];exact bY _)
 done:=by
  intro X hP hw hK hc i pz s σ H E I hf st hg
  subst hP hw hK
  obtain⟨xs,ys,qx,qy,ei⟩:=hg
  obtain⟨i1s,r1,p1,z1⟩:=I.list qx
  obtain⟨i2s,r2,p2,z2⟩:=I.list qy
  obtain⟨g1,g2,g3,g4,g5⟩:=st
  have W:=WalksT.zip2 (prog:=X.prog) (w:=X.w) (I.ok.hd hc) z TI TO i1 i2 a b D i1s.toArray i2s.toArray
  have l1:=r1.length
  have l2:=r2.length
  have e:i=min i1s.toArray.size i2s.toArray.size:=by simp only[ax];lia
  subst e
  exact W.done s _ _ ⟨g1,g2,g3,g4,g5,p1.isList,p2.isList⟩ fun h1 tk hk=>⟨rfl,I.turnedL hk fun c hc=>hf c (by simp only[aj,bj,or_false]at hc⊢;rcases hc with h|h|h|h<;>simp[h])⟩
 self:=fun _ _ _ _ _ st h=>wpAny_pyIter_zip st.1 h
theorem yh:bootBuiltins "zip"=some (.type "zip"):=fS
theorem oF:bootBuiltins "enumerate"=some (.type "enumerate"):=fS
theorem SqL.old {X:Cx} {pz:List (Addr×Obj)} {σ:St} {H:Hp} {s:Shared} {a:Addr} {xs:List V} (I:Inv X pz σ H s) (h:SqL X.K H a xs):a<s.heap.objs.size:=by
 obtain⟨its,_,p,_⟩:=I.list h
 obtain⟨o,e,_⟩:=p.isList
 exact eE e
def iZip (K:PySem.W.Frag) (ta:TA):TI:=fun σ H R=>ta σ H fun vs H1=>∃a b,vs=[.ref a,.ref b]/\(∃xs,SqL K H1 a xs)/\(∃ys,SqL K H1 b ys)/\R (Itz K a b) H1
section
variable {X:Cx}
theorem AY {es:List Expr} {kk:Nat} {tp:Pos} {a b:Expr} {ta:TA} {p pos:Pos} (hg:Gl X "zip") (hm:X.mg "zip"=none) (ha:PA X [a,b] ta) (hs:autoParam (starEach [a,b] X.env=[(false,eval a X.env),(false,eval b X.env)]) L2.Internal.auR._auto_1) (hs2:autoParam (starEach [b] X.env=[(false,eval b X.env)]) L2.Internal.auR._auto_1):
  PI X (.Tuple es kk tp) (.Call (.Name "zip" p) [a,b] [] pos) (iZip X.K ta):=by
 intro pz s σ H R I h
 refine Call_ (mZ I hg hm yh (eL (thn (ha pos pz s σ H _ I h) fun us s1 ⟨vs,H1,I1,r1,q1⟩=>?_) (by rw[hs,hs2]) (by rw[hs2];rfl)))
 obtain⟨l1,l2,e,⟨xs,q1⟩,⟨ys,q2⟩,q⟩:=q1
 subst e
 obtain⟨u,v,rfl,ru,rv⟩:=wm r1
 cases ru
 cases rv
 obtain⟨i1s,w1,p1,z1⟩:=I1.list q1
 obtain⟨i2s,w2,p2,z2⟩:=I1.list q2
 have o1:@LT.lt Nat _ l1 s1.heap.objs.size:=SqL.old I1 q1
 have o2:@LT.lt Nat _ l2 s1.heap.objs.size:=SqL.old I1 q2
 refine call_zip_2 p1.isList p2.isList fun h1 hz hTI hTO hi1 hi2 hsz hk=>wpAny_pyIter_zip hz ?_
 have D:ZipApart (s1.heap.objs.size+ 4) (s1.heap.objs.size+ 2) (s1.heap.objs.size+ 3) s1.heap.objs.size (s1.heap.objs.size+ 1) l1 l2:=by constructor<;>exact fun(h:@Eq Nat _ _)=>by lia
 refine⟨_,_,_,_,H1,rfl,I1.kept (t':=s1.toks) hk,zY D,⟨hz,hTI,⟨_,_,hTO⟩,hi1,hi2⟩,fun c hc=>?_,q⟩
 have ge:s1.heap.objs.size<=c:=by
  simp only[aj,bj,or_false]at hc
  rcases hc with h|h|h|h|h<;>rw[h]<;>first|exact cb _|exact cf _ _
 exact I1.fpOk ge (I1.hok.fresh ge)
end
def Ite (K:PySem.W.Frag) (a:Addr):It:=
 ⟨fun i H=>∃xs x,SqL K H a xs/\xs[i]?=some x,
   fun i H v H'=>∃T x,v= .ref T/\H T=none/\H'=upd H T (.tup [.int (i:Int),x])/\∀xs,SqL K H a xs->xs[i]?=some x,
   fun i H=>∃xs,SqL K H a xs/\i=xs.length⟩
def ESt (e it a:Addr) (i:Nat) (h:Heap):Prop:=(∃old,IsEnum h e it i old)/\h.IsListIter it a i
theorem yi {P:Program} {w:World} {K:PySem.W.Frag} {es:List Expr} {kk:Nat} {tp:Pos} {a e it:Addr} (h1:e≠it) (h2:a≠e) (h3:a≠it):zL P w K (.Tuple es kk tp) (Ite K a) [e,it] e (ESt e it a) where
 mem:=by simp
 obj:=fun i h st c hc=>by
  obtain⟨⟨old,g1⟩,⟨o4,g4,_,d4⟩⟩:=st
  simp only[aj,bj,or_false]at hc
  rcases hc with q|q<;>subst q
  ·exact⟨_,g1,fun v q=>nomatch q⟩
  ·exact⟨_,g4,fun v q=>by rw[d4]at q;cases q⟩
 keep:=fun i h h' st k=>by
  obtain⟨⟨old,g1⟩,g4⟩:=st
  exact⟨⟨old,k e (by simp) _ g1⟩,g4.at fun o q=>k it (by simp) o q⟩
 item:=by
  intro X hP hw hK hc i pz s σ H E I hf st hg
  subst hP hw hK
  obtain⟨xs,x,qx,ex⟩:=hg
  obtain⟨i1s,r1,p1,z1⟩:=I.list qx
  obtain⟨g1,g4⟩:=st
  obtain⟨old,g1'⟩:=g1
  obtain⟨ux,hux,rr1⟩:=r1.get ex
  have lte:e<s.heap.objs.size:=eE g1'
  refine wpAny_pyNext_enum_item g1' g4 p1.isList (x:=ux) (by simpa using hux) h1 fun k1 ho hit' hT hsz hk=>?_
  have kk1:∀c o,c∉[e,it]->s.heap.get? c=some o->k1.get? c=some o:=fun c o hc q=>hk c o (fun z=>hc (by simp[z])) (fun z=>hc (by simp[z])) q
  have J1:Inv X pz σ H {s with heap:=k1,toks:=s.toks+ 1}:=I.turnedL kk1 hf
  refine⟨.ref s.heap.objs.size,rfl,wpAny_letOwnedTupleGo_enum ho fun k2 he' sb=>?_⟩
  have J2:Inv X pz σ H {s with heap:=k2,toks:=s.toks+ 1}:=Inv.turnedL (s:={s with heap:=k1,toks:=s.toks+ 1}) (h':=k2) (t':=s.toks+ 1) (ch:=[e]) J1 (fun c o hc q=>(sb.2 c (fun z=>hc (by simp[z]))).trans q) fun c hc=>hf c (by simp only[aj,bj,or_false]at hc⊢;simp[hc])
  have ht2:uh k2 s.heap.objs.size #[.int i s.toks,ux]:=⟨_,(sb.2 _ (b9 lte)).trans hT,rfl,_,rfl,rfl⟩
  obtain⟨fT,J3⟩:=I.pairNew (x:= .int (i:Int)) (cb _) J2 ht2 ⟨s.toks,rfl⟩ rr1
  refine⟨.ref s.heap.objs.size,_,J3,rfl,⟨_,x,rfl,fT,rfl,fun l hl=>by rw[I.list_inj hl qx];exact ex⟩,⟨⟨_,by simpa using he'⟩,hit'.at fun o y=>(sb.2 it h1.symm).trans y⟩,fun c hc=>?_⟩
  rw[eT (fun q=>?_)]
  ·exact(hf c hc).1
  ·have lt:c<s.heap.objs.size:=by
    obtain⟨o4,e4,_⟩:=g4
    simp only[aj,bj,or_false]at hc
    rcases hc with q|q<;>subst q
    ·exact lte
    ·exact eE e4
   exact absurd lt (by rw[q];exact bY _)
 done:=by
  intro X hP hw hK hc i pz s σ H E I hf st hg
  subst hP hw hK
  obtain⟨xs,qx,ei⟩:=hg
  obtain⟨i1s,r1,p1,z1⟩:=I.list qx
  obtain⟨g1,g4⟩:=st
  have W:=WalksT.enumerate (prog:=X.prog) (w:=X.w) (I.ok.hd hc) e it a h1 h2 h3 i1s.toArray
  have l1:=r1.length
  have q:i=i1s.toArray.size:=by simp only[ax];lia
  subst q
  exact W.done s _ _ ⟨g1,g4,p1.isList⟩ fun h1 tk hk=>⟨rfl,I.turnedL hk hf⟩
 self:=fun _ _ _ _ _ st h=>by
  obtain⟨⟨old,g1⟩,_⟩:=st
  exact wpAny_pyIter_enum g1 h
def FJ (K:PySem.W.Frag) (ta:TA):TI:=fun σ H R=>ta σ H fun vs H1=>∃a,vs=[.ref a]/\(∃xs,SqL K H1 a xs)/\R (Ite K a) H1
section
variable {X:Cx}
theorem Ca {es:List Expr} {kk:Nat} {tp:Pos} {a:Expr} {ta:TA} {p pos:Pos} (hg:Gl X "enumerate") (hm:X.mg "enumerate"=none) (ha:PA X [a] ta) (hs:autoParam (starEach [a] X.env=[(false,eval a X.env)]) L2.Internal.auR._auto_1):
  PI X (.Tuple es kk tp) (.Call (.Name "enumerate" p) [a] [] pos) (FJ X.K ta):=by
 intro pz s σ H R I h
 refine Call_ (mZ I hg hm oF (eL (thn (ha pos pz s σ H _ I h) fun us s1 ⟨vs,H1,I1,r1,q1⟩=>?_) hs rfl))
 obtain⟨l1,e,⟨xs,q1⟩,q⟩:=q1
 subst e
 obtain⟨u,rfl,ru⟩:=pB r1
 cases ru
 obtain⟨i1s,w1,p1,z1⟩:=I1.list q1
 have o1:@LT.lt Nat _ l1 s1.heap.objs.size:=SqL.old I1 q1
 refine call_enumerate_list p1.isList fun h1 hE hi1 hsz hk=>wpAny_pyIter_enum hE ?_
 refine⟨_,_,_,_,H1,rfl,I1.kept (t':=s1.toks) hk,yi (fun(h:@Eq Nat _ _)=>by lia) (fun(h:@Eq Nat _ _)=>by lia) (fun(h:@Eq Nat _ _)=>by lia),⟨⟨_,hE⟩,hi1⟩,fun c hc=>?_,q⟩
 have ge:s1.heap.objs.size<=c:=by
  simp only[aj,bj,or_false]at hc
  rcases hc with h|h<;>rw[h]<;>first|exact cb _|exact cf _ _
 exact I1.fpOk ge (I1.hok.fresh ge)
end
def LcG (J:It) (g:TG) (te:TE) (Q:VK) (τ:St) (H1:Hp) (D:Addr):Prop:=
 ∃W:Nat->Nat->St->Hp->Prop,(∃m,W 0 m τ (upd H1 D (.lst [])))/\∀k m σ' H2,W k m σ' H2->
  (J.stop k H2/\Q (.ref D) H2)\/(J.go k H2/\∀v H3,J.yld k H2 v H3->g v σ' H3 fun σ4 H4=>te σ4 H4 fun y H5=>∃xs,H5 D=some (.lst xs)/\xs.length<sizeLine/\∃m',m'<m/\W (k+ 1) m' σ4 (upd H5 D (.lst (xs++[y]))))
def tLG (wi:TI) (f:St->St) (g:TG) (te:TE):TE:=fun σ H Q=>wi σ H fun J H1=>∀D,H1 D=none->LcG J g te Q (f σ) H1 D
theorem AZ {X:Cx} {elt iter:Expr} {es:List Expr} {kk:Nat} {tp:Pos} {x:Str} {scope:Scope} {pos:Pos} {N:List Str} {cl:List (Str×Addr)} {f:St->St} {i:Nat} {wi:TI} {g:TG} {te:TE}
  (hc:X.calm=true) (B:pJ X N scope cl f i x) (hi:PI X (.Tuple es kk tp) iter wi)
  (hg:∀C s₀ H₀ ex pz,PG (blk X N scope cl C s₀ H₀ ex pz) (.Tuple es kk tp) g) (hte:∀C s₀ H₀ ex pz,PE (blk X N scope cl C s₀ H₀ ex pz) elt te)
  (hs:autoParam (∀x,foldedSetIterable iter X.env x=pure x) L2.Internal.auI._auto_1):PE X (.ListComp elt [⟨.Tuple es kk tp,iter,[],0⟩] scope pos) (tLG wi f g te):=by
 intro pz s σ H Q I h
 rw[eval_ListComp]
 refine wpAny_comprehension_free (use:=none) rfl hs B.clos B.kind B.names (thn (hi pz s σ H _ I h) fun xv s1 h1=>thn h1 fun itv s2 h2=>?_)
 obtain⟨it,fp,tn,J,H2,rfl,I2,T,st2,f2,q⟩:=h2
 have hD:H2 s2.heap.objs.size=none:=I2.fresh
 obtain⟨W,⟨m0,w0⟩,turn⟩:=q _ hD
 refine wpAny_newObj_type (wpAny_newFunctionEnv B.cell (by intro y hy;simp at hy) (fun h₁ hns₁ hsb₁=>?_) B.kind)
 have I3:Inv X pz σ (upd H2 s2.heap.objs.size (.lst [])) {s2 with heap:=s2.heap.push {cls:= .type "list",data:= .seq ([]:List Value).toArray}}:=I2.lnew (its:=[]) (ys:=[]) (t':=s2.toks) .nil (cc _)
 have lt2:∀b∈fp,b<s2.heap.objs.size:=fun b hb=>by
  obtain⟨o,ho,_⟩:=T.obj _ _ st2 b hb
  exact eE ho
 have fp3:∀b∈fp,uo X pz (upd H2 s2.heap.objs.size (.lst [])) b:=fun b hb=>by
  refine⟨?_,(f2 b hb).2⟩
  rw[eT (bZ (lt2 b hb))]
  exact(f2 b hb).1
 generalize hs3:({s2 with heap:=s2.heap.push {cls:= .type "list",data:= .seq ([]:List Value).toArray}}:Shared)=s3 at I3 hns₁ hsb₁⊢
 have eh:s2.heap.push {cls:= .type "list",data:= .seq ([]:List Value).toArray}=s3.heap:=by rw[<-hs3]
 have lt3:∀b∈fp,b<s3.heap.objs.size:=fun b hb=>by
  rw[<-eh,eI]
  exact Nat.lt_succ_of_lt (lt2 b hb)
 have old:∀b o,s3.heap.get? b=some o->h₁.get? b=some o:=fun b o e=>hsb₁.extBut b o (bZ (eE e)) (eG _ e)
 have I4:=yc (tk:=s3.toks+([]:List (Str×Value)).length) B I3 (ex:=fp) (fun b hb=>⟨fp3 b hb,lt3 b hb⟩) old hns₁
 have st4:tn 0 h₁:=T.keep _ _ _ st2 fun b _ o e=>old b o (by rw[<-eh];exact eG _ e)
 have fpB:∀{H':Hp},(∀b∈fp,H' b=none)->∀b∈fp,uo (blk X N scope cl s3.heap.objs.size s3 (upd H2 s2.heap.objs.size (.lst [])) fp pz) [] H' b:=fun{H'} hn b hb=>by
  obtain⟨_,g2,g3,g4,g5,g6⟩:=f2 b hb
  refine⟨hn b hb,bZ (lt3 b hb),fun z=>(aj.mp (I3.stkSub b z)).elim g2 g3,.inl hb,fun y c e=>g5 y c (B.lk y c e),fun p hp=>?_⟩
  rw[aC]at hp
  exact g6 p hp
 have loop:∀s4:Shared,s4={s3 with heap:=h₁,toks:=s3.toks+([]:List (Str×Value)).length}->
   codeAny (model X.prog X.w) X.A (.compLoop (.ListComp elt [⟨.Tuple es kk tp,iter,[],0⟩] scope pos) 0 (.ref it) (.ref s2.heap.objs.size) (compEnvC scope cl s3.heap.objs.size X.env))
    (compPost (model X.prog X.w) X.A X.xe none (EP X pz σ Q) (.ref s2.heap.objs.size) s3.heap.objs.size) s4:=by
  rintro s4 rfl
  refine PyProof.Rows.LCp.codeAny_compLoop_pair (I:=fun n s'=>∃k σ' H',Inv (blk X N scope cl s3.heap.objs.size s3 (upd H2 s2.heap.objs.size (.lst [])) fp pz) [] σ' H' s'/\tn k s'.heap/\(∀b∈fp,H' b=none)/\W k n σ' H') ?_ m0
   ⟨0,f σ,_,I4,st4,fun b hb=>(fp3 b hb).1,w0⟩
  rintro n s5 ⟨k,σ5,H5,I5,st5,fr5,w5⟩
  rcases turn k n σ5 H5 w5 with⟨stop,qn⟩|⟨go,step⟩
  ·refine wpAny_mono (T.done (blk X N scope cl s3.heap.objs.size s3 (upd H2 s2.heap.objs.size (.lst [])) fp pz) rfl rfl rfl hc k [] s5 σ5 H5 _ I5 (fpB fr5) st5 stop) (fun r s6 h6=>?_) fun _ _ z=>z
   obtain⟨hr,I6⟩:=h6
   subst hr
   obtain⟨m6,hn6,_⟩:=id I6.loc
   refine⟨m6,hn6,fun h' sb=>?_⟩
   have nC:∀b o,s3.heap.get? b=some o->b≠s3.heap.objs.size:=fun b o e=>bZ (eE e)
   have u6:Un (frs X.stack) fp (upd H2 s2.heap.objs.size (.lst [])) H5 s3.heap s6.heap:=I6.base
   have u7:Un (frs X.stack) fp (upd H2 s2.heap.objs.size (.lst [])) H5 s3.heap h':=
    ⟨fun b o e z1 z2 z3=>(sb.2 b (nC b o e)).trans (u6.keep b o e z1 z2 z3),fun b o e z1 z2 z3=>by
     obtain⟨sl,e1⟩:=u6.slot b o e z1 z2 z3
     exact⟨sl,(sb.2 b (nC b o e)).trans e1⟩,u6.free,fun b o e z=>by
     obtain⟨o',e1⟩:=u6.there b o e z
     exact⟨o',(sb.2 b (nC b o e)).trans e1⟩,u6.tups,u6.frzs,u6.tbls⟩
   have hok7:HOk X.prog X.w H5 h':=fun b o e=>(I6.hok b o e).stay (fun c w' hcc e1=>(sb.2 c (fun z=>by
     have fr:H5 s3.heap.objs.size=none:=I6.free
     rcases hcc with y|y
     ·rw[<-y,z,fr]at e;cases e
     ·rw[z,fr]at y;cases y)).trans e1) (fun _ z=>z) fun _ _ z=>z
   have I7:Inv X pz σ H5 {s6 with heap:=h'}:=I3.call' (s':={s6 with heap:=h'}) (ch:=fp) I6.os u7 hok7 I6.bare fun b hb=>by
    obtain⟨_,g2,g3,g4,g5,g6⟩:=f2 b hb
    exact⟨g4,g2,g5,g6⟩
   exact⟨.ref s2.heap.objs.size,H5,I7,rfl,qn⟩
  ·refine wpAny_mono (T.item (blk X N scope cl s3.heap.objs.size s3 (upd H2 s2.heap.objs.size (.lst [])) fp pz) rfl rfl rfl hc k [] s5 σ5 H5 _ I5 (fpB fr5) st5 go) (fun r s6 h6=>?_) fun _ _ z=>z
   obtain⟨u,hr,h6⟩:=h6
   subst hr
   refine wpAny_mono h6 (fun _ s7 h7=>?_) fun _ _ z=>z
   obtain⟨v,H7,I7,r7,y7,st7,fr7⟩:=h7
   have I7':=I7.pinned (fpB fr7) (T.obj _ _ st7)
   have back:∀{σ9:St} {H9:Hp} {s9:Shared},Inv (blk X N scope cl s3.heap.objs.size s3 (upd H2 s2.heap.objs.size (.lst [])) fp pz) ([]++qU fp s7.heap) σ9 H9 s9->(∃m',m'<n/\W (k+ 1) m' σ9 H9)->
     ∃m',m'<n/\∃k σ' H',Inv (blk X N scope cl s3.heap.objs.size s3 (upd H2 s2.heap.objs.size (.lst [])) fp pz) [] σ' H' s9/\tn k s9.heap/\(∀b∈fp,H' b=none)/\W k m' σ' H':=fun{σ9 H9 s9} I9 q9=>by
    obtain⟨m',hm,w9⟩:=q9
    refine⟨m',hm,k+ 1,σ9,H9,I9.unpinned,T.keep _ _ _ st7 fun b hb o e=>(I9.pin (b,o) (aw _ (aw _ (jy hb e)))).1,fun b hb=>?_,w9⟩
    obtain⟨o,e,d⟩:=T.obj _ _ st7 b hb
    exact(I9.pin (b,o) (aw _ (aw _ (jy hb e)))).2.1
   refine wpAny_mono (hg s3.heap.objs.size s3 (upd H2 s2.heap.objs.size (.lst [])) fp pz _ s7 σ5 H7 v u _ I7' r7 (step v H7 y7)) (fun _ s8 h8=>?_) fun _ _ z=>False.elim z
   obtain⟨σ8,H8,I8,q8⟩:=h8
   refine wpAny_mono (hte _ _ _ _ _ _ s8 _ H8 _ I8 q8) (fun y s10 h10=>?_) fun _ _ z=>False.elim z
   obtain⟨v10,H10,I10,r10,xs,hx10,hz,q10⟩:=h10
   refine wpAny_mono (fZ (X:=blk X N scope cl s3.heap.objs.size s3 (upd H2 s2.heap.objs.size (.lst [])) fp pz) _ s10 _ H10 (.ref s2.heap.objs.size) [v10] _ [y] (fun _ H11=>H11=upd H10 s2.heap.objs.size (.lst (xs++[v10]))) I10 rfl (.cons r10 .nil) ⟨_,xs,v10,rfl,rfl,hx10,hz,rfl⟩) (fun _ s11 h11=>?_) fun _ _ z=>False.elim z
   obtain⟨_,H11,I11,_,e11⟩:=h11
   subst e11
   exact back I11 q10
 exact codeAny_compStart_list (loop _ rfl) (T.self _ 0 _ _ _ st4 (loop _ rfl))
theorem DV {X:Cx} {scope:Scope} {x y:Str} (hk:scope.kind= .function) (hn:∀p∈scope.names,p.2≠ .cell/\p.2≠ .free) (hl:∀y∈scope.names,y.2= .local->scope.names.lookup y.1=some .local)
  (hx:scope.names.lookup x=some .local) (hxy:[x,y].Nodup) (hc:closureFor scope X.env=pure []):pJ X [x,y] scope [] (fun _=>[none,none]) 0 x where
 kind:=hk
 cell:=fun y hy=>(hn y hy).1
 names:=hl
 clos:=hc
 lk:=fun y c h=>by simp at h
 has:=fun y h=>by
  rcases h with h|h
  ·obtain⟨k0,e,z⟩:=f7 h
   have m:=hn _ (PySem.mem_of_lookup e)
   rcases z with z|⟨z,_⟩
   ·exact absurd z.symm m.1
   ·exact absurd z m.2
  ·obtain⟨k0,e,z⟩:=f7 h
   have m:=hn _ (PySem.mem_of_lookup e)
   rcases z with z|⟨z,_⟩
   ·exact absurd z.symm m.2
   ·exact absurd z m.2
 nd:=hxy
 ix:=rfl
 loc:=hx
 len:=fun _ _=>rfl
 val:=fun σ k y v h1 h2=>by
  match k with
  |0=>simp at h2
  |1=>simp at h2
  |k+ 2=>simp at h2
theorem nN {z:Str}:∀{cap:List (Str×Nat×Addr)},z∈cap.map (·.1)->∃c,(cap.map fun p=>(p.1,p.2.2)).lookup z=some c
 |[],h=>by simp at h
 |p::r,h=>by
  cases e:z==p.1 with
  |true=>exact⟨p.2.2,by simp only[aA,aW,e]⟩
  |false=>
   have q:z∈r.map (·.1):=by
    rcases aj.mp h with y|y
    ·rw[y]at e;simp at e
    ·exact y
   obtain⟨c,hc⟩:=nN q
   exact⟨c,by simp only[aA,aW,e];exact hc⟩
theorem blkC {X:Cx} {scope:Scope} {x:Str} (ns:List Str) (cap:List (Str×Nat×Addr)) (hns:cap.map (·.1)=ns) (hk:scope.kind= .function) (hn:∀p∈scope.names,p.2≠ .cell/\(p.2= .free->p.1∈ns)) (hl:∀y∈scope.names,y.2= .local->scope.names.lookup y.1=some .local)
  (hx:scope.names.lookup x=some .local) (hnd:(x::ns).Nodup) (hc:closureFor scope X.env=pure (cap.map fun p=>(p.1,p.2.2))) (hok:X.env.scope.kind= .function)
  (h:∀p∈cap,scope.names.lookup p.1=some .free/\X.env.cells.lookup p.1=some p.2.2/\X.env.scope.names.lookup p.1=some .cell/\X.N[p.2.1]?=some p.1):
  pJ X (x::ns) scope (cap.map fun p=>(p.1,p.2.2)) (fun σ=>none::cap.map fun p=>σ.getD p.2.1 none) 0 x where
 kind:=hk
 cell:=fun y hy=>(hn y hy).1
 names:=hl
 clos:=hc
 lk:=fun z c q=>by
  have m:=PySem.mem_of_lookup q
  obtain⟨p,hp,e⟩:=bb.mp m
  cases e
  exact(h p hp).2.1
 has:=fun z q=>by
  refine nN ?_
  rw[hns]
  rcases q with q|q
  ·obtain⟨k0,e,q⟩:=f7 q
   have m:=hn _ (PySem.mem_of_lookup e)
   rcases q with q|⟨q,_⟩
   ·exact absurd q.symm m.1
   ·exact m.2 q
  ·obtain⟨k0,e,q⟩:=f7 q
   have m:=hn _ (PySem.mem_of_lookup e)
   rcases q with q|⟨q,_⟩
   ·exact m.2 q.symm
   ·exact m.2 q
 nd:=hnd
 ix:=rfl
 loc:=hx
 len:=fun _ _=>by simp[<-hns]
 val:=fun σ k z v h1 h2=>by
  cases k with
  |zero=>simp at h2
  |succ k=>
   rw[<-hns,bo,aJ]at h1
   rw[bo,aJ]at h2
   cases e:cap[k]? with
   |none=>rw[e]at h1;cases h1
   |some p=>
    rw[e]at h1 h2
    have ez:p.1=z:=cx.inj h1
    have ev:σ.getD p.2.1 none=some v:=cx.inj h2
    subst ez
    obtain⟨a1,a2,a3,a4⟩:=h p (aM e)
    rw[bp]at ev
    refine⟨p.2.1,a4,?_,a3,iC hok a3 a1⟩
    cases q:σ[p.2.1]? with
    |none=>rw[q]at ev;cases ev
    |some o=>rw[q]at ev;exact congrArg some ev
theorem A1:∀{cs:List String} {us:List Value},gM (cs.map V.ty) us->us=cs.map Value.type
 |[],_,.nil=>rfl
 |c::cs,_,.cons h r=>by
  cases(show _=Value.type c from h)
  rw[A1 r];rfl
section
variable {X:Cx}
theorem tm:nK X (.builtin "isinstance") (fun xs H Q=>∃(x:V) (tp:Addr) (cs:List String) (t:Value) (b:Bool),xs=[x,.ref tp]/\H tp=some (.tup (cs.map V.ty))/\ur X.K H x t/\PySem.W.kitAny X.K t (cs.map Value.type)=some b/\Q (.bl b) H):=by
 intro pz s σ H xs us Q I r h
 obtain⟨x,tp,cs,t,b,rfl,htp,ty,e,q⟩:=h
 obtain⟨u,u',rfl,rx,ru'⟩:=wm r
 cases ru'
 obtain⟨_,its,rv,o,ho,hc,n,hd,_⟩:=(show g0 X.prog X.w H s.heap tp (.tup (cs.map V.ty))from I.hok tp _ htp)
 cases A1 rv
 obtain⟨oc,od,odt,osl⟩:=o
 cases(show oc=_ from hc)
 cases(show odt=_ from hd)
 have fin:∀tk,EP X pz σ Q (.bool b) {s with toks:=tk}:=fun tk=>⟨.bl b,H,I.tok tk,rfl,q⟩
 cases ty with
 |non=>cases(show u=Value.none from rx);exact dA cU I.kIn True.intro ho e (fun z=>nomatch z) fin
 |bl y=>cases(show u=Value.bool y from rx);exact dA cW I.kIn True.intro ho e (fun z=>nomatch z) fin
 |int i=>obtain⟨t,q⟩:=(show ∃t,u=Value.int i t from rx);cases q;exact dA PySem.W.kitx_int I.kIn True.intro ho e (fun z=>nomatch z) fin
 |str y=>obtain⟨t,q⟩:=(show ∃t,u=Value.str y t from rx);cases q;exact dA PySem.W.kitx_str I.kIn True.intro ho e (fun z=>nomatch z) fin
 |flt y=>obtain⟨t,q⟩:=(show ∃t,u=Value.float y t from rx);cases q;exact dA cX I.kIn True.intro ho e (fun z=>nomatch z) fin
 |@lst a xs ea=>
  cases(show u=Value.ref a from rx)
  obtain⟨_,_,n,_,h1⟩:=(show g0 X.prog X.w H s.heap a (.lst xs)from I.hok a _ ea)
  exact dA cY I.kIn ⟨_,h1,rfl⟩ ho e (fun z=>nomatch z) fin
 |@frz a ob xs ea=>
  cases(show u=Value.ref a from rx)
  obtain⟨_,_,_,n,_,h1⟩:=(show g0 X.prog X.w H s.heap a (.frz ob (.lst xs))from I.hok a _ ea)
  exact dA cY I.kIn ⟨_,h1,rfl⟩ ho e (fun z=>nomatch z) fin
 |@tup a xs ea=>
  cases(show u=Value.ref a from rx)
  obtain⟨_,_,_,p⟩:=(show g0 X.prog X.w H s.heap a (.tup xs)from I.hok a _ ea)
  obtain⟨o,h1,h2,_⟩:=p
  exact dA cZ I.kIn ⟨o,h1,h2⟩ ho e (fun z=>nomatch z) fin
 |@dK a kvs ea=>
  cases(show u=Value.ref a from rx)
  obtain⟨_,_,vs,_,p⟩:=(show g0 X.prog X.w H s.heap a (.dK kvs)from I.hok a _ ea)
  obtain⟨o,es,ep,h1,h2,_⟩:=p
  exact dA dh I.kIn ⟨o,h1,h2.1⟩ ho e (fun z=>nomatch z) fin
 |@dT a kvs ea=>
  cases(show u=Value.ref a from rx)
  obtain⟨_,_,xs,_,o,es,ep,h1,h2,_⟩:=(show g0 X.prog X.w H s.heap a (.dT kvs)from I.hok a _ ea)
  exact dA dh I.kIn ⟨o,h1,h2.1⟩ ho e (fun z=>nomatch z) fin
 |@ins a C dx fs ea cl ha hn htk hm=>
  cases(show u=Value.ref a from rx)
  obtain⟨mA,O,_⟩:=pG I.hok ea
  obtain⟨od,J,_⟩:=O.look
  exact dA (PySem.W.kitx_own (cl.get _) cl.hd ha hn htk hm) I.kIn J ho e (fun z=>nomatch z) fin
end
structure G3 (K:PySem.W.Frag) (C:Addr) (m:Str) (f:Addr):Prop where
 ga:cQ K (.ref C) "__getattribute__"=some (some (.builtin "type.__getattribute__"))
 rd:∃mc,PySem.W.readsIn K C mc=true/\PySem.W.findCls K (.ref C) mc m=some (.val (.ref f))
 kp:cR K (.ref f)=true
section
variable {X:Cx} {CX:CXT} {k:Nat} {f C:Addr} {fd:FuncData} {ps:List Str} {sp:Sp} {dvs:List V} {ds:List Value} {E:XK} {m:Str} {pos apos:Pos} {e o:Expr} {es:List Expr} {t:TA}
theorem rO {pl:Sem Bool} (he:PE X o (tC (.ref C))) (c:G3 X.K C m f) (F:qu X.prog X.w X.K X.mg X.base CX k f fd ps sp) (hr:k8 k X.A) (hb:lX X.K fd ps ds) (hd:gM dvs ds) (hx:lZ CX X E) (ha:PA X (e::es) t)
  (hst:autoParam (starEach (e::es) X.env=(false,eval e X.env)::starEach es X.env) L2.Internal.auR._auto_1) (hpl:autoParam ((backTo pos (starEach es X.env)).any (·.1)=false) L2.Internal.auR._auto_1)
  (ht:eval (.Call (.Attribute o m apos) (e::es) [] pos) X.env=(do
   let ov<-eval o X.env
   standAt apos.atName
   let(f,first)<-holding [ov] (getMethod ov m pl)
   callWith pos f first (backTo pos (starEach (e::es) X.env)) (backToKw pos (keywordEach [] X.env))):=by rfl):
  PE X (.Call (.Attribute o m apos) (e::es) [] pos) (qz sp dvs E t):=by
 intro pz s σ H Q I h
 refine dj (pl:=pl) (thn (he pz s σ H (fun v H1=>v= .ref C/\qz sp dvs E t σ H1 Q) I ⟨rfl,h⟩) fun u s1 ⟨x,H1,I1,rx,ex,q⟩=>?_) ht
 subst ex
 obtain rfl:u=Value.ref C:=rx
 obtain⟨mc,hr1,hf⟩:=c.rd
 refine PySem.W.method_cls I1.kIn c.ga (PySem.W.cls_value I1.kIn hr1 hf rfl ?_)
 refine di (first:=[]) (h₀:=X.base) I.ok.mod.kin c.kp (thn (ha pos pz _ σ H1 _ (I1.tok (s1.toks+ 1)) q) fun us s2 ⟨vs,H2,I2,r,q2⟩=>⟨I2.kIn,?_⟩) hst hpl
 exact sQ (us:=us) (vs:=vs) F hr hb hd hx I2 r q2
theorem PE.or {X:Cx} {e:Expr} {t u:TE} (h:PE X e t) (h':PE X e u):PE X e (fun σ H Q=>t σ H Q\/u σ H Q):=fun pz s σ H Q I hw=>hw.elim (h pz s σ H Q I) (h' pz s σ H Q I)
theorem PI.or {X:Cx} {tg e:Expr} {t u:TI} (h:PI X tg e t) (h':PI X tg e u):PI X tg e (fun σ H R=>t σ H R\/u σ H R):=fun pz s σ H R I hw=>hw.elim (h pz s σ H R I) (h' pz s σ H R I)
end
section
variable {X:Cx}
theorem yj:bootBuiltins "max"=some (.builtin "max"):=fS
theorem yk (hc:X.calm=true):nK X (.builtin "sum") (fun xs H Q=>∃(a:Addr) (ns:List Int),xs=[.ref a]/\SqL X.K H a (ns.map V.int)/\∀n,Q (.int n) H):=by
 intro pz s σ H xs us Q I r h
 obtain⟨a,ns,rfl,hq,q⟩:=h
 obtain⟨u,rfl,ru⟩:=pB r
 cases ru
 obtain⟨its,rv,p,hz⟩:=I.list hq
 obtain⟨zs,e⟩:=(qY rv).allInts.items
 have l:=p.isList
 rw[e]at l
 exact sum_intListG (I.ok.hd hc) l fun h' tk t' hk=>⟨.int _,H,I.kept (t':=tk) hk,⟨_,rfl⟩,q _⟩
end
theorem jj {X:Cx} {elt iter:Expr} {x y:Str} {j:Nat} {py spos:Pos} {px:Pos} {ifs:List Expr} {scope:Scope} {pos:Pos} {N:List Str} {cl:List (Str×Addr)} {f:St->St} {i:Nat} {wi:TI} {tt:TT} {te:TE}
  (hc:X.calm=true) (B:pJ X N scope cl f i x) (hi:PI X (.Name x px) iter wi)
  (htt:∀C s₀ H₀ ex pz,PTs (blk X N scope cl C s₀ H₀ ex pz) ifs tt) (hte:∀C s₀ H₀ ex pz,PE (blk X N scope cl C s₀ H₀ ex pz) elt te)
  (hN:X.N.Nodup) (hj:X.N[j]?=some y) (hy:Loc X.env.scope y) (hsw:autoParam (swapsWith (.ListComp elt [⟨.Name x px,iter,ifs,0⟩] scope pos) (some (.Name y py)) spos.line X.env=pure true) L2.Internal.auR._auto_1) (hs:autoParam (∀x,foldedSetIterable iter X.env x=pure x) L2.Internal.auI._auto_1)
  (hf:autoParam (X.fn y=true\/X.env.scope.names.lookup y=some .local) L2.Internal.auL._auto_1):PS X (.Assign [.Name y py] (.ListComp elt [⟨.Name x px,iter,ifs,0⟩] scope pos) spos) (xx (tLC wi f i tt te) (fK j)):=by
 intro pz s σ H En I h
 rw[exec_Assign_Name_used _ _ _ _ hsw]
 refine wpAny_bind (wpAny_standAt (wpAny_bind ?_))
 show wpAny _ X.A (do let _<-comprehension (.ListComp elt [⟨.Name x px,iter,ifs,0⟩] scope pos) scope X.env _ (newList []) false (eval iter X.env) (some (assign (.Name y py) X.env))) _ _ s
 refine wpAny_bind (wpAny_mono (yd (Qp:=fun _ s'=>SP X pz En .next s') hc B hi htt hte hs I h fun fl s3 s6 H3 H5 d m6 I3 I7 fr hn6 qn=>?_) (fun _ s' hq=>wpAny_pure (wpAny_pure hq)) fun _ _ e=>e)
 obtain⟨oC,es,ep,hoC,hdC,hkC⟩:=id hn6
 have hCL:s3.heap.objs.size≠X.env.locals:=b9 I3.lt
 have I8:Inv X (pz++[(s3.heap.objs.size,oC)]) σ H5 s6:=I7.pins_of fun p hp=>(ak.mp hp).elim (fun z=>I7.pin p (aw _ z)) fun z=>by
  have ez:p=(s3.heap.objs.size,oC):=by simpa using z
  subst ez
  exact⟨hoC,fr,hCL,I3.nofs (cb _),fun v q=>by rw[hdC]at q;cases q⟩
 show wpAny _ X.A (assign (.Name y py) X.env (.ref d)) _ _ s6
 refine wpAny_assign_Name (oY (X:=X) I8 hN hj hy (v:= .ref d) rfl (fun s7 I9=>?_) hf)
 have pC:=I9.pin (s3.heap.objs.size,oC) (aw _ (aw _ (by simp)))
 refine⟨m6,⟨oC,es,ep,pC.1,hdC,hkC⟩,fun h' sb=>?_⟩
 refine⟨σ.set j (some (.ref d)),H5,?_,qn⟩
 exact Inv.turned (h':=h') (t':=s7.toks) (it:=s3.heap.objs.size) I9.unpinned (fun b o hb e=>(sb.2 b hb).trans e) pC.2.1 hCL (.inr I3.sz) (fun z c e q=>by
  obtain⟨v,q2⟩:=I3.cell z c e
  exact absurd (q▸q2.lt) (bY _)) fun p hp q=>absurd (q▸eE (I3.pin p hp).1) (bY _)
section
variable {prog:Program} {w:World} {A:Around} {E:Value->Shared->Prop} {s:Shared}
theorem rg {j t:Addr} {i:Nat} {its} {x:Value} {Q:Value->Shared->Prop} (g:s.heap.IsTupleIter j t i) (d:s.heap.IsTuple t its) (e:its[i]?=some x)
  (k:∀h',h'.IsTupleIter j t (i+ 1)->Heap.SameBut j s.heap h'->Q x {s with heap:=h'}):wpAny (model prog w) A (Builtin.SmallTypes.nextOf (.ref j)) Q E s:=by
 obtain⟨og,gg,gc,gd⟩:=id g
 obtain⟨od,dd,_,dn,de⟩:=d
 unfold Builtin.SmallTypes.nextOf
 refine wpAny_bind (wpAny_callSpecial?_slot (name:=Str.ofString "__next__") g.typeIs F.slot_tuple_iterator_next (wpAny_call_entry F.slot_tuple_iterator_next g.typeIs F.entry_tuple_iterator_next ?_ (F.args_tuple_iterator_next_1 _)))
 show wpAny _ _ (field (.ref j) 0 >>= _) _ _ s
 refine wpAny_bind (wpAny_field gg gd (x:= .ref t) rfl ?_)
 show wpAny _ _ (if(Value.ref t==Value.none)=true then _ else _) _ _ s
 rw[fN (show ¬((Value.ref t==Value.none)=true)from fun q=>nomatch q)]
 show wpAny _ _ (field (.ref j) 1 >>= _) _ _ s
 refine wpAny_bind (wpAny_field gg gd (x:= .int i 0) rfl ?_)
 refine wpAny_bind (wpAny_seqItems dd de ?_)
 simp only[dZ,e]
 refine wpAny_bind (wpAny_setField gg gd (by simp) (wpAny_pure ⟨x,rfl,wpAny_pure (k _ ?_ (Heap.SameBut.update ..))⟩))
 exact⟨_,eJ _ gg (Obj.isFreed_of_fields (Obj.data_mapFields gd _)),(Obj.cls_mapFields ..).trans gc,by rw[Obj.data_mapFields gd];simp[rawInt]⟩
theorem lV {j t:Addr} {i:Nat} {its} {Q:Value->Shared->Prop} (hh:A.handled=none) (g:s.heap.IsTupleIter j t i) (d:s.heap.IsTuple t its) (e:its[i]?=none)
  (k:∀h' x,Heap.ExtBut j s.heap h'->(∃o,h'.get? x=some o/\o.cls= .type "StopIteration")->E (.ref x) {s with heap:=h'}):wpAny (model prog w) A (Builtin.SmallTypes.nextOf (.ref j)) Q E s:=by
 obtain⟨og,gg,gc,gd⟩:=id g
 obtain⟨od,dd,_,dn,de⟩:=d
 unfold Builtin.SmallTypes.nextOf
 refine wpAny_bind (wpAny_callSpecial?_slot (name:=Str.ofString "__next__") g.typeIs F.slot_tuple_iterator_next (wpAny_call_entry F.slot_tuple_iterator_next g.typeIs F.entry_tuple_iterator_next ?_ (F.args_tuple_iterator_next_1 _)))
 show wpAny _ _ (field (.ref j) 0 >>= _) _ _ s
 refine wpAny_bind (wpAny_field gg gd (x:= .ref t) rfl ?_)
 show wpAny _ _ (if(Value.ref t==Value.none)=true then _ else _) _ _ s
 rw[fN (show ¬((Value.ref t==Value.none)=true)from fun q=>nomatch q)]
 show wpAny _ _ (field (.ref j) 1 >>= _) _ _ s
 refine wpAny_bind (wpAny_field gg gd (x:= .int i 0) rfl ?_)
 refine wpAny_bind (wpAny_seqItems dd de ?_)
 simp only[dZ,e]
 refine wpAny_bind (wpAny_rule (wpAny_bind (wpAny_setField gg gd (by simp) ?_)))
 show wpAny _ _ (newExc (.type "StopIteration") [] >>= _) _ _ _
 refine wpAny_bind ?_
 simp only[newExc,newTuple]
 refine wpAny_bind (wpAny_newObj_type ?_ (by size_fits))
 refine wpAny_bind (m:=firstArgMember _ _) (wpAny_of_eq (a:=Value.none) (by first|rfl|(unfold firstArgMember;rfl)) ?_)
 refine wpAny_newObj_type ?_ (by size_fits)
 simp only[raiseNew]
 refine wpAny_bind (wpAny_handled ?_)
 first|rw[hh]|rw[show A.in1.handled=none from hh]
 exact wpAny_bind (wpAny_pure (wpAny_throw (k _ _ (((Heap.SameBut.update ..).extBut.push _).push _) ⟨_,eF _ rfl,rfl⟩)))
theorem Cc {z TI TO j1 j2 t1 t2:Addr} {k1 k2:Nat} {xs ys:Array Value} {x y a b:Value} {Q:Value->Shared->Prop} (D:ZipApart z TI TO j1 j2 t1 t2)
  (gz:IsZip s.heap z TI TO .none) (gI:IsPair s.heap TI (.ref j1) (.ref j2)) (gO:IsPair s.heap TO a b)
  (g1:s.heap.IsTupleIter j1 t1 k1) (g2:s.heap.IsTupleIter j2 t2 k2) (d1:s.heap.IsTuple t1 xs) (d2:s.heap.IsTuple t2 ys) (ex:xs[k1]?=some x) (ey:ys[k2]?=some y)
  (k:∀h',IsZip h' z TI TO (rawInt s.heap.objs.size)->IsPair h' TO x y->h'.IsTupleIter j1 t1 (k1+ 1)->h'.IsTupleIter j2 t2 (k2+ 1)->IsPair h' s.heap.objs.size x y->h'.objs.size=s.heap.objs.size+ 1->
   (∀c o,c≠z->c≠TO->c≠j1->c≠j2->s.heap.get? c=some o->h'.get? c=some o)->Q (.ref s.heap.objs.size) {s with heap:=h'}):
  wpAny (model prog w) A (Builtin.«zip.__next__» ⟨[.ref z],[]⟩) (fun fin s'=>∃v,fin= .done (.ret v)/\Q v s') E s:=by
 show wpAny _ _ (field (.ref z) 2 >>= _) _ _ _
 refine wpAny_bind (wpAny_field gz rfl (x:= .bool false) rfl ?_)
 show wpAny _ _ (field (.ref z) 3 >>= _) _ _ _
 refine wpAny_bind (wpAny_field gz rfl (x:= .ref TI) rfl ?_)
 refine wpAny_bind (wpAny_seqItems gI rfl ?_)
 show wpAny _ _ (Builtin.SmallTypes.ownedTupleIsFree (.ref z) >>= _) _ _ _
 refine wpAny_bind ?_
 unfold Builtin.SmallTypes.ownedTupleIsFree
 refine wpAny_bind (wpAny_field gz rfl (x:= .none) rfl (wpAny_pure ?_))
 simp only[if_true]
 refine wpAny_bind (wpAny_rule (wpAny_bind (wpAny_field gz rfl (x:= .ref TO) rfl ?_)))
 refine wpAny_bind (wpAny_setField_rec gz (by simp) fun q1 gz1 b1=>?_)
 replace gz1:IsZip q1 z TI TO .ellipsis:=gz1
 refine wpAny_bind ?_
 simp only[bq,br,bt,bw]
 refine wpAny_bind (wpAny_bind (wpAny_onRaise ?_))
 show wpAny _ _ (Builtin.SmallTypes.nextOf (.ref j1) >>= _) _ _ _
 refine wpAny_bind (rg (g1.extBut b1.extBut D.i1z) (d1.extBut b1.extBut D.l1z) ex fun q2 g12 b2=>wpAny_pure ?_)
 have gO2:IsPair q2 TO a b:=b2.extBut _ _ D.TOi1 (b1.extBut _ _ D.TOz gO)
 refine wpAny_bind (wpAny_seqItems gO2 rfl (wpAny_bind (wpAny_updateSeq_pair gO2 fun q3 gO3 b3=>?_)))
 replace gO3:IsPair q3 TO x b:=gO3
 refine wpAny_bind (wpAny_letGo (wpAny_pure (wpAny_bind (wpAny_bind (wpAny_onRaise ?_)))))
 show wpAny _ _ (Builtin.SmallTypes.nextOf (.ref j2) >>= _) _ _ _
 refine wpAny_bind (rg (((g2.extBut b1.extBut D.i2z).extBut b2.extBut D.i12.symm).extBut b3.extBut D.TOi2.symm) (((d2.extBut b1.extBut D.l2z).extBut b2.extBut D.l2i1).extBut b3.extBut D.l2TO) ey fun q4 g24 b4=>wpAny_pure ?_)
 have gO4:IsPair q4 TO x b:=b4.extBut _ _ D.TOi2 gO3
 refine wpAny_bind (wpAny_seqItems gO4 rfl (wpAny_bind (wpAny_updateSeq_pair gO4 fun q5 gO5 b5=>?_)))
 replace gO5:IsPair q5 TO x y:=gO5
 refine wpAny_bind (wpAny_letGo (wpAny_pure (wpAny_pure (wpAny_bind (wpAny_seqItems gO5 rfl (wpAny_bind (wpAny_newTuple ?_)))))))
 have sz:q5.objs.size=s.heap.objs.size:=by rw[b5.1,b4.1,b3.1,b2.1,b1.1]
 have gz5:IsZip q5 z TI TO .ellipsis:=b5.extBut _ _ D.TOz.symm (b4.extBut _ _ D.i2z.symm (b3.extBut _ _ D.TOz.symm (b2.extBut _ _ D.i1z.symm gz1)))
 have kp5:∀c o,c≠z->c≠TO->c≠j1->c≠j2->s.heap.get? c=some o->q5.get? c=some o:=fun c o n1 n2 n3 n4 e=>
  b5.extBut _ _ n2 (b4.extBut _ _ n4 (b3.extBut _ _ n2 (b2.extBut _ _ n3 (b1.extBut _ _ n1 e))))
 have g15:q5.IsTupleIter j1 t1 (k1+ 1):=((g12.extBut b3.extBut D.TOi1.symm).extBut b4.extBut D.i12).extBut b5.extBut D.TOi1.symm
 have g25:q5.IsTupleIter j2 t2 (k2+ 1):=g24.extBut b5.extBut D.TOi2.symm
 have zlt:z<q5.objs.size:=eE gz5
 show wpAny _ _ (Builtin.SmallTypes.ownedTupleHandOut (.ref z) (.ref q5.objs.size) >>= _) _ _ _
 refine wpAny_bind ?_
 unfold Builtin.SmallTypes.ownedTupleHandOut
 have gz6:IsZip (q5.push {cls:= .type "tuple",data:= .seq #[x,y]}) z TI TO .ellipsis:=eG _ gz5
 refine wpAny_bind (wpAny_setField_rec gz6 (by simp) fun q7 gz7 b7=>?_)
 replace gz7:IsZip q7 z TI TO (rawInt q5.objs.size):=gz7
 refine wpAny_setField_rec gz7 (by simp) fun q8 gz8 b8=>?_
 replace gz8:IsZip q8 z TI TO (rawInt q5.objs.size):=gz8
 have up:∀c o,c≠z->q5.get? c=some o->q8.get? c=some o:=fun c o n1 e=>b8.extBut _ _ n1 (b7.extBut _ _ n1 (eG _ e))
 have gT8:IsPair q8 q5.objs.size x y:=b8.extBut _ _ (b9 zlt) (b7.extBut _ _ (b9 zlt) (eF _ rfl))
 have sz8:q8.objs.size=q5.objs.size+ 1:=by rw[b8.1,b7.1,eI]
 rw[sz]at gz8 gT8 sz8
 refine wpAny_pure ⟨_,rfl,?_⟩
 show Q (.ref q5.objs.size) _
 rw[sz]
 refine k q8 gz8 (up _ _ D.TOz gO5) ?_ ?_ gT8 sz8 fun c o n1 n2 n3 n4 e=>up c o n1 (kp5 c o n1 n2 n3 n4 e)
 ·obtain⟨o,e,r⟩:=g15;exact⟨o,up _ o D.i1z e,r⟩
 ·obtain⟨o,e,r⟩:=g25;exact⟨o,up _ o D.i2z e,r⟩
theorem DW {z TI TO j1 j2 t1 t2:Addr} {k1 k2:Nat} {xs ys:Array Value} {a b:Value} {Q:Fin->Shared->Prop} (hh:A.handled=none) (D:ZipApart z TI TO j1 j2 t1 t2)
  (gz:IsZip s.heap z TI TO .none) (gI:IsPair s.heap TI (.ref j1) (.ref j2)) (gO:IsPair s.heap TO a b)
  (g1:s.heap.IsTupleIter j1 t1 k1) (g2:s.heap.IsTupleIter j2 t2 k2) (d1:s.heap.IsTuple t1 xs) (d2:s.heap.IsTuple t2 ys) (hend:xs[k1]?=none\/ys[k2]?=none)
  (k:∀h' e,(∀c o,c≠z->c≠TO->c≠j1->c≠j2->s.heap.get? c=some o->h'.get? c=some o)->(∃o,h'.get? e=some o/\o.cls= .type "StopIteration")->E (.ref e) {s with heap:=h'}):
  wpAny (model prog w) A (Builtin.«zip.__next__» ⟨[.ref z],[]⟩) Q E s:=by
 show wpAny _ _ (field (.ref z) 2 >>= _) _ _ _
 refine wpAny_bind (wpAny_field gz rfl (x:= .bool false) rfl ?_)
 show wpAny _ _ (field (.ref z) 3 >>= _) _ _ _
 refine wpAny_bind (wpAny_field gz rfl (x:= .ref TI) rfl ?_)
 refine wpAny_bind (wpAny_seqItems gI rfl ?_)
 show wpAny _ _ (Builtin.SmallTypes.ownedTupleIsFree (.ref z) >>= _) _ _ _
 refine wpAny_bind ?_
 unfold Builtin.SmallTypes.ownedTupleIsFree
 refine wpAny_bind (wpAny_field gz rfl (x:= .none) rfl (wpAny_pure ?_))
 simp only[if_true]
 refine wpAny_bind (wpAny_rule (wpAny_bind (wpAny_field gz rfl (x:= .ref TO) rfl ?_)))
 refine wpAny_bind (wpAny_setField_rec gz (by simp) fun q1 gz1 b1=>?_)
 replace gz1:IsZip q1 z TI TO .ellipsis:=gz1
 refine wpAny_bind ?_
 simp only[bq,br,bt,bw]
 refine wpAny_bind (wpAny_bind (wpAny_onRaise ?_))
 show wpAny _ _ (Builtin.SmallTypes.nextOf (.ref j1) >>= _) _ _ _
 cases ex:xs[k1]? with
 |none=>
  refine wpAny_bind (lV hh (g1.extBut b1.extBut D.i1z) (d1.extBut b1.extBut D.l1z) ex fun q2 e b2 he=>?_)
  obtain⟨oe,hoe,hce⟩:=he
  have gz2:IsZip q2 z TI TO .ellipsis:=b2 _ _ D.i1z.symm gz1
  have nz:e≠z:=fun q=>by subst q;rw[gz2]at hoe;cases hoe;simp at hce
  refine wpAny_setField_rec gz2 (by simp) fun q3 _ b3=>k q3 e (fun c o n1 _ n3 _ q=>b3.extBut _ _ n1 (b2 _ _ n3 (b1.extBut _ _ n1 q))) ⟨oe,b3.extBut _ _ nz hoe,hce⟩
 |some x=>
  have ey:ys[k2]?=none:=hend.elim (fun q=>by rw[ex]at q;cases q) id
  refine wpAny_bind (rg (g1.extBut b1.extBut D.i1z) (d1.extBut b1.extBut D.l1z) ex fun q2 g12 b2=>wpAny_pure ?_)
  have gO2:IsPair q2 TO a b:=b2.extBut _ _ D.TOi1 (b1.extBut _ _ D.TOz gO)
  refine wpAny_bind (wpAny_seqItems gO2 rfl (wpAny_bind (wpAny_updateSeq_pair gO2 fun q3 gO3 b3=>?_)))
  refine wpAny_bind (wpAny_letGo (wpAny_pure (wpAny_bind (wpAny_bind (wpAny_onRaise ?_)))))
  show wpAny _ _ (Builtin.SmallTypes.nextOf (.ref j2) >>= _) _ _ _
  refine wpAny_bind (lV hh (((g2.extBut b1.extBut D.i2z).extBut b2.extBut D.i12.symm).extBut b3.extBut D.TOi2.symm) (((d2.extBut b1.extBut D.l2z).extBut b2.extBut D.l2i1).extBut b3.extBut D.l2TO) ey fun q4 e b4 he=>?_)
  obtain⟨oe,hoe,hce⟩:=he
  have gz4:IsZip q4 z TI TO .ellipsis:=b4 _ _ D.i2z.symm (b3.extBut _ _ D.TOz.symm (b2.extBut _ _ D.i1z.symm gz1))
  have nz:e≠z:=fun q=>by subst q;rw[gz4]at hoe;cases hoe;simp at hce
  refine wpAny_setField_rec gz4 (by simp) fun q5 _ b5=>k q5 e (fun c o n1 n2 n3 n4 q=>b5.extBut _ _ n1 (b4 _ _ n4 (b3.extBut _ _ n2 (b2.extBut _ _ n3 (b1.extBut _ _ n1 q))))) ⟨oe,b5.extBut _ _ nz hoe,hce⟩
theorem yl {z TI TO j1 j2 t1 t2:Addr} {k1 k2:Nat} {xs ys:Array Value} {x y a b:Value} {Q:Option Value->Shared->Prop} (D:ZipApart z TI TO j1 j2 t1 t2)
  (gz:IsZip s.heap z TI TO .none) (gI:IsPair s.heap TI (.ref j1) (.ref j2)) (gO:IsPair s.heap TO a b)
  (g1:s.heap.IsTupleIter j1 t1 k1) (g2:s.heap.IsTupleIter j2 t2 k2) (d1:s.heap.IsTuple t1 xs) (d2:s.heap.IsTuple t2 ys) (ex:xs[k1]?=some x) (ey:ys[k2]?=some y)
  (k:∀h',IsZip h' z TI TO (rawInt s.heap.objs.size)->IsPair h' TO x y->h'.IsTupleIter j1 t1 (k1+ 1)->h'.IsTupleIter j2 t2 (k2+ 1)->IsPair h' s.heap.objs.size x y->h'.objs.size=s.heap.objs.size+ 1->
   (∀c o,c≠z->c≠TO->c≠j1->c≠j2->s.heap.get? c=some o->h'.get? c=some o)->Q (some (.ref s.heap.objs.size)) {s with heap:=h'}):
  wpAny (model prog w) A (pyNext (.ref z)) Q E s:=by
 have tz:s.TypeIs (.ref z) "zip":=⟨_,gz,rfl⟩
 unfold pyNext
 exact wpAny_bind (wpAny_attempt (wpAny_callSpecial?_slot (name:=Str.ofString "__next__") tz F.slot_zip_next (wpAny_call_entry F.slot_zip_next tz F.entry_zip_next
   (Cc D gz gI gO g1 g2 d1 d2 ex ey fun h' a1 a2 a3 a4 a5 a6 a7=>wpAny_pure (k h' a1 a2 a3 a4 a5 a6 a7)) (F.args_zip_next_1 _))))
theorem rP {z TI TO j1 j2 t1 t2:Addr} {k1 k2:Nat} {xs ys:Array Value} {a b:Value} {Q:Option Value->Shared->Prop} (hh:A.handled=none) (D:ZipApart z TI TO j1 j2 t1 t2)
  (gz:IsZip s.heap z TI TO .none) (gI:IsPair s.heap TI (.ref j1) (.ref j2)) (gO:IsPair s.heap TO a b)
  (g1:s.heap.IsTupleIter j1 t1 k1) (g2:s.heap.IsTupleIter j2 t2 k2) (d1:s.heap.IsTuple t1 xs) (d2:s.heap.IsTuple t2 ys) (hend:xs[k1]?=none\/ys[k2]?=none)
  (k:∀h',(∀c o,c≠z->c≠TO->c≠j1->c≠j2->s.heap.get? c=some o->h'.get? c=some o)->Q none {s with heap:=h'}):wpAny (model prog w) A (pyNext (.ref z)) Q E s:=by
 have tz:s.TypeIs (.ref z) "zip":=⟨_,gz,rfl⟩
 unfold pyNext
 refine wpAny_bind (wpAny_attempt (wpAny_callSpecial?_slot (name:=Str.ofString "__next__") tz F.slot_zip_next (wpAny_call_entry F.slot_zip_next tz F.entry_zip_next (DW hh D gz gI gO g1 g2 d1 d2 hend fun h' e kp he=>?_) (F.args_zip_next_1 _))))
 obtain⟨o,ho,hc⟩:=he
 exact wpAny_bind (wpAny_isInstance (T:="StopIteration") (b:=true) ⟨o,ho,hc⟩ isSubtype_stop (wpAny_pure (k _ kp)))
end
abbrev zt1 (h:Heap) (t1:Addr):Heap:=h.push {cls:= .type "tuple_iterator",data:= .fields #[.ref t1,.int 0 0]}
abbrev zt2 (h:Heap) (t1 t2:Addr):Heap:=(zt1 h t1).push {cls:= .type "tuple_iterator",data:= .fields #[.ref t2,.int 0 0]}
abbrev zt3 (h:Heap) (t1 t2:Addr):Heap:=(zt2 h t1 t2).push {cls:= .type "tuple",data:= .seq #[.ref h.objs.size,.ref (zt1 h t1).objs.size]}
abbrev zt4 (h:Heap) (t1 t2:Addr):Heap:=(zt3 h t1 t2).push {cls:= .type "tuple",data:= .seq #[.none,.none]}
abbrev zt5 (h:Heap) (t1 t2:Addr):Heap:=(zt4 h t1 t2).push {cls:= .type "zip",data:= .fields #[.none,.bool false,.bool false,.ref (zt2 h t1 t2).objs.size,.ref (zt3 h t1 t2).objs.size]}
theorem DX (t1 t2:Addr) (xs ys:Array Value):Meets (Builtin.«zip.__new__» ⟨[.type "zip",.ref t1,.ref t2],[]⟩) (fun _ R s=>s.heap.IsTuple t1 xs/\s.heap.IsTuple t2 ys/\R (.ok (.ret (.ref (zt4 s.heap t1 t2).objs.size))) {s with heap:=zt5 s.heap t1 t2}):=
 .of_wp fun prog w A R s h=>by
  obtain⟨hp,g,d,tk,os⟩:=s;obtain⟨d1,d2,h⟩:=h
  have hsub:=sub_zip
  have dd1:Heap.IsTuple (Shared.heap ⟨hp,g,d,tk,os⟩) t1 xs:=d1
  have dd2:Heap.IsTuple (Shared.heap ⟨hp.push {cls:= .type "tuple_iterator",data:= .fields #[.ref t1,.int 0 0]},g,d,tk,os⟩) t2 ys:=Heap.IsTuple.push d2 _
  wp_walk using wpAny_pyIter_tuple dd1,wpAny_pyIter_tuple dd2
  exact⟨_,rfl,h⟩
section
variable {prog:Program} {w:World} {A:Around} {E:Value->Shared->Prop} {s:Shared}
theorem ym {t1 t2:Addr} {xs ys:Array Value} {Q:Value->Shared->Prop} (d1:s.heap.IsTuple t1 xs) (d2:s.heap.IsTuple t2 ys)
  (k:∀h',IsZip h' (s.heap.objs.size+ 4) (s.heap.objs.size+ 2) (s.heap.objs.size+ 3) .none->IsPair h' (s.heap.objs.size+ 2) (.ref s.heap.objs.size) (.ref (s.heap.objs.size+ 1))->
   IsPair h' (s.heap.objs.size+ 3) .none .none->h'.IsTupleIter s.heap.objs.size t1 0->h'.IsTupleIter (s.heap.objs.size+ 1) t2 0->(∀c o,s.heap.get? c=some o->h'.get? c=some o)->Q (.ref (s.heap.objs.size+ 4)) {s with heap:=h'}):
  wpAny (model prog w) A (call (.type "zip") [.ref t1,.ref t2]) Q E s:=by
 refine callType_new F.called_zip (by decide) (F.typeCall_zip_2 _ _) (F.newCall_zip_2 _ _) (fun obj=>F.args_object_init_3 obj _ _) F.entry_zip_new (DX t1 t2 xs ys) ⟨d1,d2,?_⟩
 have z1:(zt1 s.heap t1).objs.size=s.heap.objs.size+ 1:=eI ..
 have z2:(zt2 s.heap t1 t2).objs.size=s.heap.objs.size+ 2:=by rw[eI,z1]
 have z3:(zt3 s.heap t1 t2).objs.size=s.heap.objs.size+ 3:=by rw[eI,z2]
 have z4:(zt4 s.heap t1 t2).objs.size=s.heap.objs.size+ 4:=by rw[eI,z3]
 have m5:(zt5 s.heap t1 t2).get? (zt4 s.heap t1 t2).objs.size=some _:=eF _ rfl
 have m4:(zt5 s.heap t1 t2).get? (zt3 s.heap t1 t2).objs.size=some _:=eG _ (eF _ rfl)
 have m3:(zt5 s.heap t1 t2).get? (zt2 s.heap t1 t2).objs.size=some _:=eG _ (eG _ (eF _ rfl))
 have m2:(zt5 s.heap t1 t2).get? (zt1 s.heap t1).objs.size=some _:=eG _ (eG _ (eG _ (eF _ rfl)))
 have m1:(zt5 s.heap t1 t2).get? s.heap.objs.size=some _:=eG _ (eG _ (eG _ (eG _ (eF _ rfl))))
 show _/\_
 rw[z2,z3,z4]at m5
 rw[z1,z2]at m3
 rw[z3]at m4
 rw[z1]at m2
 rw[z4]
 exact⟨⟨_,m5,rfl⟩,k _ m5 m3 m4 ⟨_,m1,rfl,rfl⟩ ⟨_,m2,rfl,rfl⟩ fun c o q=>eG _ (eG _ (eG _ (eG _ (eG _ q))))⟩
end
def G4 (K:PySem.W.Frag) (a b:Addr):It:=
 ⟨fun i H=>∃xs ys x y,SqT K H a xs/\SqT K H b ys/\xs[i]?=some x/\ys[i]?=some y,
   fun i H v H'=>∃T x y,v= .ref T/\H T=none/\H'=upd H T (.tup [x,y])/\(∀xs,SqT K H a xs->xs[i]?=some x)/\∀ys,SqT K H b ys->ys[i]?=some y,
   fun i H=>∃xs ys,SqT K H a xs/\SqT K H b ys/\i=min xs.length ys.length⟩
def ZTSt (z TI TO i1 i2 a b:Addr) (i:Nat) (h:Heap):Prop:=IsZip h z TI TO .none/\IsPair h TI (.ref i1) (.ref i2)/\(∃u v,IsPair h TO u v)/\h.IsTupleIter i1 a i/\h.IsTupleIter i2 b i
theorem yn {P:Program} {w:World} {K:PySem.W.Frag} {es:List Expr} {kk:Nat} {tp:Pos} {a b z TI TO i1 i2:Addr} (D:ZipApart z TI TO i1 i2 a b):zL P w K (.Tuple es kk tp) (G4 K a b) [z,TI,TO,i1,i2] z (ZTSt z TI TO i1 i2 a b) where
 mem:=by simp
 obj:=fun i h st c hc=>by
  obtain⟨g1,g2,⟨u,v,g3⟩,⟨o4,g4,_,d4⟩,⟨o5,g5,_,d5⟩⟩:=st
  simp only[aj,bj,or_false]at hc
  rcases hc with e|e|e|e|e<;>subst e
  ·exact⟨_,g1,fun v q=>nomatch q⟩
  ·exact⟨_,g2,fun v q=>nomatch q⟩
  ·exact⟨_,g3,fun v q=>nomatch q⟩
  ·exact⟨_,g4,fun v q=>by rw[d4]at q;cases q⟩
  ·exact⟨_,g5,fun v q=>by rw[d5]at q;cases q⟩
 keep:=fun i h h' st k=>by
  obtain⟨g1,g2,⟨u,v,g3⟩,⟨o4,g4,r4⟩,⟨o5,g5,r5⟩⟩:=st
  exact⟨k z (by simp) _ g1,k TI (by simp) _ g2,⟨u,v,k TO (by simp) _ g3⟩,⟨o4,k i1 (by simp) o4 g4,r4⟩,⟨o5,k i2 (by simp) o5 g5,r5⟩⟩
 item:=by
  intro X hP hw hK hc i pz s σ H E I hf st hg
  subst hP hw hK
  obtain⟨xs,ys,x,y,qx,qy,ex,ey⟩:=hg
  obtain⟨i1s,r1,p1,z1⟩:=I.tuple qx
  obtain⟨i2s,r2,p2,z2⟩:=I.tuple qy
  obtain⟨g1,g2,⟨u,v,g3⟩,g4,g5⟩:=st
  obtain⟨ux,hux,rr1⟩:=r1.get ex
  obtain⟨uy,huy,rr2⟩:=r2.get ey
  have hw:∀c∈[z,TO,i1,i2],uo X pz H c:=fun c hc=>hf c (by simp only[aj,bj,or_false]at hc⊢;first|(rcases hc with h|h|h|h<;>simp[h])|simp[hc])
  refine yl D g1 g2 g3 g4 g5 (show s.heap.IsTuple a i1s.toArray from p1) (show s.heap.IsTuple b i2s.toArray from p2) (x:=ux) (y:=uy) (by simpa using hux) (by simpa using huy) fun h1 a1 a2 a3 a4 a5 a6 hk=>?_
  have kk1:∀c o,c∉[z,TO,i1,i2]->s.heap.get? c=some o->h1.get? c=some o:=fun c o hc e=>hk c o (fun q=>hc (by simp[q])) (fun q=>hc (by simp[q])) (fun q=>hc (by simp[q])) (fun q=>hc (by simp[q])) e
  have J1:Inv X pz σ H {s with heap:=h1,toks:=s.toks}:=I.turnedL kk1 hw
  refine⟨.ref s.heap.objs.size,rfl,wpAny_letOwnedTupleGo_zip a1 fun h2 a1' sb=>?_⟩
  have J2:Inv X pz σ H {s with heap:=h2,toks:=s.toks}:=Inv.turnedL (s:={s with heap:=h1,toks:=s.toks}) (h':=h2) (t':=s.toks) (ch:=[z]) J1 (fun c o hc e=>sb.extBut _ _ (fun q=>hc (by simp[q])) e) fun c hc=>hf c (by simp only[aj,bj,or_false]at hc⊢;first|(rcases hc with h|h|h|h<;>simp[h])|simp[hc])
  have zlt:z<s.heap.objs.size:=eE g1
  have ht2:uh h2 s.heap.objs.size #[ux,uy]:=⟨_,sb.extBut _ _ (b9 zlt) a5,rfl,_,rfl,rfl⟩
  obtain⟨fT,J3⟩:=I.pairNew (cb _) J2 ht2 rr1 rr2
  refine⟨.ref s.heap.objs.size,_,J3,rfl,⟨_,x,y,rfl,fT,rfl,fun l hl=>by rw[I.tuple_inj hl qx];exact ex,fun l hl=>by rw[I.tuple_inj hl qy];exact ey⟩,
   ⟨a1',sb.extBut _ _ D.TIz (hk _ _ D.TIz D.TITO D.TIi1 D.TIi2 g2),⟨_,_,sb.extBut _ _ D.TOz a2⟩,a3.extBut sb.extBut D.i1z,a4.extBut sb.extBut D.i2z⟩,fun c hc=>?_⟩
  rw[eT (fun q=>?_)]
  ·exact(hf c hc).1
  ·have lt:c<s.heap.objs.size:=by
    obtain⟨o4,e4,_⟩:=g4
    obtain⟨o5,e5,_⟩:=g5
    simp only[aj,bj,or_false]at hc
    rcases hc with e|e|e|e|e<;>subst e
    ·exact eE g1
    ·exact eE g2
    ·exact eE g3
    ·exact eE e4
    ·exact eE e5
   exact absurd lt (by rw[q];exact bY _)
 done:=by
  intro X hP hw hK hc i pz s σ H E I hf st hg
  subst hP hw hK
  obtain⟨xs,ys,qx,qy,ei⟩:=hg
  obtain⟨i1s,r1,p1,z1⟩:=I.tuple qx
  obtain⟨i2s,r2,p2,z2⟩:=I.tuple qy
  obtain⟨g1,g2,⟨u,v,g3⟩,g4,g5⟩:=st
  have l1:=r1.length
  have l2:=r2.length
  refine rP (I.ok.hd hc) D g1 g2 g3 g4 g5 (show s.heap.IsTuple a i1s.toArray from p1) (show s.heap.IsTuple b i2s.toArray from p2) ?_ fun h1 hk=>⟨rfl,I.turnedL (t':=s.toks) (ch:=[z,TO,i1,i2]) (fun c o hc e=>hk c o (fun q=>hc (by simp[q])) (fun q=>hc (by simp[q])) (fun q=>hc (by simp[q])) (fun q=>hc (by simp[q])) e) fun c hc=>hf c (by simp only[aj,bj,or_false]at hc⊢;first|(rcases hc with h|h|h|h<;>simp[h])|simp[hc])⟩
  simp only[bz,bA]
  lia
 self:=fun _ _ _ _ _ st h=>wpAny_pyIter_zip st.1 h
theorem SqT.old {X:Cx} {pz:List (Addr×Obj)} {σ:St} {H:Hp} {s:Shared} {a:Addr} {xs:List V} (I:Inv X pz σ H s) (h:SqT X.K H a xs):a<s.heap.objs.size:=by
 obtain⟨its,_,p,_⟩:=I.tuple h
 obtain⟨o,e,_⟩:=p
 exact eE e
def FN (K:PySem.W.Frag) (ta:TA):TI:=fun σ H R=>ta σ H fun vs H1=>∃a b,vs=[.ref a,.ref b]/\(∃xs,SqT K H1 a xs)/\(∃ys,SqT K H1 b ys)/\R (G4 K a b) H1
section
variable {X:Cx}
theorem Cd {es:List Expr} {kk:Nat} {tp:Pos} {a b:Expr} {ta:TA} {p pos:Pos} (hg:Gl X "zip") (hm:X.mg "zip"=none) (ha:PA X [a,b] ta) (hs:autoParam (starEach [a,b] X.env=[(false,eval a X.env),(false,eval b X.env)]) L2.Internal.auR._auto_1) (hs2:autoParam (starEach [b] X.env=[(false,eval b X.env)]) L2.Internal.auR._auto_1):
  PI X (.Tuple es kk tp) (.Call (.Name "zip" p) [a,b] [] pos) (FN X.K ta):=by
 intro pz s σ H R I h
 refine Call_ (mZ I hg hm yh (eL (thn (ha pos pz s σ H _ I h) fun us s1 ⟨vs,H1,I1,r1,q1⟩=>?_) (by rw[hs,hs2]) (by rw[hs2];rfl)))
 obtain⟨l1,l2,e,⟨xs,q1⟩,⟨ys,q2⟩,q⟩:=q1
 subst e
 obtain⟨u,v,rfl,ru,rv⟩:=wm r1
 cases ru
 cases rv
 obtain⟨i1s,w1,p1,z1⟩:=I1.tuple q1
 obtain⟨i2s,w2,p2,z2⟩:=I1.tuple q2
 have o1:@LT.lt Nat _ l1 s1.heap.objs.size:=SqT.old I1 q1
 have o2:@LT.lt Nat _ l2 s1.heap.objs.size:=SqT.old I1 q2
 refine ym (show s1.heap.IsTuple l1 i1s.toArray from p1) (show s1.heap.IsTuple l2 i2s.toArray from p2) fun h1 hz hTI hTO hi1 hi2 hk=>wpAny_pyIter_zip hz ?_
 have D:ZipApart (s1.heap.objs.size+ 4) (s1.heap.objs.size+ 2) (s1.heap.objs.size+ 3) s1.heap.objs.size (s1.heap.objs.size+ 1) l1 l2:=by constructor<;>exact fun(h:@Eq Nat _ _)=>by lia
 refine⟨_,_,_,_,H1,rfl,I1.kept (t':=s1.toks) hk,yn D,⟨hz,hTI,⟨_,_,hTO⟩,hi1,hi2⟩,fun c hc=>?_,q⟩
 have ge:s1.heap.objs.size<=c:=by
  simp only[aj,bj,or_false]at hc
  rcases hc with h|h|h|h|h<;>rw[h]<;>first|exact cb _|exact cf _ _
 exact I1.fpOk ge (I1.hok.fresh ge)
end
section
variable {prog:Program} {w:World} {A:Around} {E:Value->Shared->Prop} {s:Shared}
end
inductive Prs (H:Hp):List V->List (Str×V)->Prop
 |nil:Prs H [] []
 |cons {a:Addr} {p:Str×V} {l:List V} {m:List (Str×V)}:H a=some (.tup [.str p.1,p.2])->Prs H l m->Prs H (.ref a::l) (p::m)
section
variable {X:Cx} {pz:List (Addr×Obj)} {σ:St} {H:Hp} {d it t:Addr} {vs:List V} {A:Around} {R:Result->Shared->Prop}
end
section
variable {X:Cx}
end
end L2.Internal
namespace BO.Internal
open PySem L2.Internal
theorem sz {n:Nat} (h:n<=100000):n<=sizeLine:=b0 h (by decide)
theorem eS {H:Hp} {p:Addr} (h:H p=none) (o:HO):fC H (upd H p o):=fun b u q=>by rw[eT (eY q h)];exact q
theorem A2 {α:Type} (l:List α) (i:Int) (h0:0<=i) (h1:i<(l.length:Int)):∃c,atI l i=some c/\c∈l:=by
 have e:i=((i.toNat:Nat):Int):=by lia
 have hi:i.toNat<l.length:=by lia
 refine⟨l[i.toNat],?_,List.getElem_mem hi⟩
 have z:atI l ((i.toNat:Nat):Int)=some l[i.toNat]:=eU (ba hi)
 rw[<-e]at z
 exact z
def flN:V->Bool
 | .non=>true
 | .int _=>true
 | .str _=>true
 |_=>false
mutual
inductive Im (H:Hp):V->Dt->Prop where
 |flat {v:V} (h:flN v=true):Im H v (.flat v)
 |tup {a:Addr} {xs:List V} {ds:List Dt} (h:H a=some (.tup xs)) (hs:Ims H xs ds):Im H (.ref a) (.tup ds)
inductive Ims (H:Hp):List V->List Dt->Prop where
 |nil:Ims H [] []
 |cons {x:V} {d:Dt} {xs:List V} {ds:List Dt} (h:Im H x d) (hs:Ims H xs ds):Ims H (x::xs) (d::ds)
end
mutual
inductive Dta (H:Hp):V->Dt->Prop where
 |flat {v:V} (h:flN v=true):Dta H v (.flat v)
 |tup {a:Addr} {xs:List V} {ds:List Dt} (h:H a=some (.tup xs)) (hs:qB H xs ds):Dta H (.ref a) (.tup ds)
 |lst {a:Addr} {xs:List V} {ds:List Dt} (h:H a=some (.lst xs)) (hs:qB H xs ds):Dta H (.ref a) (.lst ds)
inductive qB (H:Hp):List V->List Dt->Prop where
 |nil:qB H [] []
 |cons {x:V} {d:Dt} {xs:List V} {ds:List Dt} (h:Dta H x d) (hs:qB H xs ds):qB H (x::xs) (d::ds)
end
def TK (H H':Hp):Prop:=∀a xs,H a=some (.tup xs)->H' a=some (.tup xs)
theorem fC.tk {H H':Hp} (s:fC H H'):TK H H':=fun a xs e=>s a _ e
mutual
theorem Im.mono {H H':Hp} (k:TK H H'):∀{v:V} {d:Dt},Im H v d->Im H' v d
 |_,_,.flat h=> .flat h
 |_,_,.tup h hs=> .tup (k _ _ h) (Ims.mono k hs)
theorem Ims.mono {H H':Hp} (k:TK H H'):∀{v:List V} {d:List Dt},Ims H v d->Ims H' v d
 |_,_,.nil=> .nil
 |_,_,.cons h hs=> .cons (Im.mono k h) (Ims.mono k hs)
end
mutual
theorem Im.da {H:Hp}:∀{v:V} {d:Dt},Im H v d->Dta H v d
 |_,_,.flat h=> .flat h
 |_,_,.tup h hs=> .tup h (Ims.das hs)
theorem Ims.das {H:Hp}:∀{v:List V} {d:List Dt},Ims H v d->qB H v d
 |_,_,.nil=> .nil
 |_,_,.cons h hs=> .cons (Im.da h) (Ims.das hs)
end
mutual
theorem Dta.same {H H':Hp} (k:fC H H'):∀{v:V} {d:Dt},Dta H v d->Dta H' v d
 |_,_,.flat h=> .flat h
 |_,_,.tup h hs=> .tup (k _ _ h) (qB.same k hs)
 |_,_,.lst h hs=> .lst (k _ _ h) (qB.same k hs)
theorem qB.same {H H':Hp} (k:fC H H'):∀{v:List V} {d:List Dt},qB H v d->qB H' v d
 |_,_,.nil=> .nil
 |_,_,.cons h hs=> .cons (Dta.same k h) (qB.same k hs)
end
theorem qB.length {H:Hp}:∀{xs:List V} {ds:List Dt},qB H xs ds->xs.length=ds.length
 |_,_,.nil=>rfl
 |_,_,.cons _ t=>by rw[ay,ay,qB.length t]
theorem Ims.length {H:Hp}:∀{xs:List V} {ds:List Dt},Ims H xs ds->xs.length=ds.length
 |_,_,.nil=>rfl
 |_,_,.cons _ t=>by rw[ay,ay,Ims.length t]
theorem qB.get {H:Hp}:∀{xs:List V} {ds:List Dt} {j:Nat} {x:V},qB H xs ds->xs[j]?=some x->∃d,ds[j]?=some d/\Dta H x d
 |_,_,0,_,.cons h _,e=>⟨_,rfl,by cases e;exact h⟩
 |_,_,j+ 1,_,.cons _ t,e=>by
  rw[bo]at e
  obtain⟨d,e1,e2⟩:=qB.get t e
  exact⟨d,by rw[bo];exact e1,e2⟩
theorem depDs_get:∀{l:List Dt} {j:Nat} {a:Dt},l[j]?=some a->jb a<=fV l
 |x::xs,0,a,h=>by
  cases h
  exact Nat.le_max_left _ _
 |x::xs,j+ 1,a,h=>by
  rw[bo]at h
  exact b0 (depDs_get h) (Nat.le_max_right _ _)
theorem Ims.app {H:Hp}:∀{xs ys:List V} {ds es:List Dt},Ims H xs ds->Ims H ys es->Ims H (xs++ys) (ds++es)
 |_,_,_,_,.nil,h=>h
 |_,_,_,_,.cons a b,h=> .cons a (Ims.app b h)
inductive l6 {α β:Type} (F:α->β->Prop):List α->List β->Prop
 |nil:l6 F [] []
 |cons {a:α} {b:β} {l:List α} {m:List β}:F a b->l6 F l m->l6 F (a::l) (b::m)
theorem l6.imp {α β:Type} {F G:α->β->Prop} (f:∀a b,F a b->G a b):∀{l:List α} {m:List β},l6 F l m->l6 G l m
 |_,_,.nil=> .nil
 |_,_,.cons h t=> .cons (f _ _ h) (l6.imp f t)
theorem l6.snoc {α β:Type} {F:α->β->Prop} {a:α} {b:β} (h:F a b):∀{l:List α} {m:List β},l6 F l m->l6 F (l++[a]) (m++[b])
 |_,_,.nil=> .cons h .nil
 |_,_,.cons x t=> .cons x (l6.snoc h t)
theorem l6.length {α β:Type} {F:α->β->Prop}:∀{l:List α} {m:List β},l6 F l m->l.length=m.length
 |_,_,.nil=>rfl
 |_,_,.cons _ t=>by rw[ay,ay,l6.length t]
theorem l6.get {α β:Type} {F:α->β->Prop}:∀{l:List α} {m:List β} {j:Nat} {x:α},l6 F l m->l[j]?=some x->∃y,m[j]?=some y/\F x y
 |_,_,0,_,.cons h _,e=>⟨_,rfl,by cases e;exact h⟩
 |_,_,j+ 1,_,.cons _ t,e=>by
  rw[bo]at e
  obtain⟨d,e1,e2⟩:=l6.get t e
  exact⟨d,by rw[bo];exact e1,e2⟩
mutual
def okD:Dt->Prop
 | .flat _=>True
 | .tup l=>l.length<=100000/\tq l
 | .lst l=>l.length<=100000/\tq l
def tq:List Dt->Prop
 |[]=>True
 |x::xs=>okD x/\tq xs
end
theorem pd:∀{l:List Dt} {j:Nat} {a:Dt},tq l->l[j]?=some a->okD a
 |x::xs,0,a,o,h=>by
  cases h
  exact o.1
 |x::xs,j+ 1,a,o,h=>by
  rw[bo]at h
  exact pd o.2 h
theorem g9 {α:Type} {f:α->Dt}:∀{l:List α},(∀x∈l,okD (f x))->tq (l.map f)
 |[],_=>trivial
 |x::xs,h=>⟨h x (by simp),g9 fun y hy=>h y (by simp[hy])⟩
theorem gP {α:Type} {f:α->Dt} {n:Nat}:∀{l:List α},(∀x∈l,jb (f x)<=n)->fV (l.map f)<=n
 |[],_=>cc _
 |x::xs,h=>Nat.max_le.mpr ⟨h x (by simp),gP fun y hy=>h y (by simp[hy])⟩
def prL (p:Str×Int):Dt:= .tup [.flat (.str p.1),.flat (.int p.2)]
def prD (l:List (Str×Int)):Dt:= .tup (l.map prL)
inductive Us where
 |num (a p s:Int)
 |call (a p s x y:Int)
 |take (a p s:Int) (l:List (Str×Int))
 |case (a p s:Int) (l:List (Str×Int))
 |row (a p s x:Int)
def hdD (n:Str) (a p s:Int):List Dt:=[.flat (.str n),.flat (.int a),.flat (.int p),.flat (.int s)]
def Us.d:Us->Dt
 | .num a p s=> .tup (hdD "num" a p s)
 | .call a p s x y=> .tup (hdD "call" a p s++[.flat (.int x),.flat (.int y)])
 | .take a p s l=> .tup (hdD "take" a p s++[prD l])
 | .case a p s l=> .tup (hdD "case" a p s++[prD l])
 | .row a p s x=> .tup (hdD "row" a p s++[.flat (.int x)])
def Us.ok:Us->Prop
 | .take _ _ _ l=>l.length<=10
 | .case _ _ _ l=>l.length<=10
 |_=>True
structure Mkg where
 s:Str
 f:Dt
 a:Int
 p:Int
def Mkg.d (m:Mkg):Dt:= .tup [.flat (.str m.s),m.f,.flat (.int m.a),.flat (.int m.p)]
theorem uC (l:List (Str×Int)):jb (prD l)<=2:=by
 have h:∀l:List (Str×Int),fV (l.map prL)<=1:=by
  intro l
  induction l with
  |nil=>exact cc _
  |cons x t ih=>exact Nat.max_le.mpr ⟨by simp[prL,jb,fV],ih⟩
 exact Nat.succ_le_succ (h l)
theorem Us.dep (u:Us):jb u.d<=3:=by
 cases u with
 |num a p s=>simp[Us.d,hdD,jb,fV]
 |call a p s x y=>simp[Us.d,hdD,jb,fV]
 |take a p s l=>have:=uC l;simp[Us.d,hdD,jb,fV];lia
 |case a p s l=>have:=uC l;simp[Us.d,hdD,jb,fV];lia
 |row a p s x=>simp[Us.d,hdD,jb,fV]
theorem yo {l:List (Str×Int)} (h:l.length<=10):okD (prD l):=⟨by rw[aB];lia,g9 fun x _=>⟨by show 2<=100000;decide,trivial,trivial,trivial⟩⟩
theorem Us.okd {u:Us} (h:u.ok):okD u.d:=by
 cases u with
 |num a p s=>exact⟨by show 4<=100000;decide,trivial,trivial,trivial,trivial,trivial⟩
 |call a p s x y=>exact⟨by show 6<=100000;decide,trivial,trivial,trivial,trivial,trivial,trivial,trivial⟩
 |take a p s l=>exact⟨by show 5<=100000;decide,trivial,trivial,trivial,trivial,yo h,trivial⟩
 |case a p s l=>exact⟨by show 5<=100000;decide,trivial,trivial,trivial,trivial,yo h,trivial⟩
 |row a p s x=>exact⟨by show 5<=100000;decide,trivial,trivial,trivial,trivial,trivial,trivial⟩
def fU (a p s:V):List (Str×V):=[("at",a),("place",p),("slot",s)]
def fU1 (n:Str) (a p s x:V):List (Str×V):=[("at",a),("place",p),("slot",s),(n,x)]
def fU2 (a p s x y:V):List (Str×V):=[("at",a),("place",p),("slot",s),("arg",x),("out",y)]
def fM (s f a p:V):List (Str×V):=[("shape",s),("parts",f),("at",a),("place",p)]
def fB (p0 p1 p2 p3:Addr) (r:V):List (Str×V):=[("points",.ref p0),("makes",.ref p1),("uses",.ref p2),("flows",.ref p3),("root",r)]
structure Cs where
 M:Addr
 N:Addr
 C:Addr
 T:Addr
 K:Addr
 R:Addr
 B:Addr
def pK (c:Cs) (H:Hp) (v:V):Us->Prop
 | .num a p s=>∃x dx,v= .ref x/\H x=some (.ins c.N dx (fU (.int a) (.int p) (.int s)))
 | .call a p s y z=>∃x dx,v= .ref x/\H x=some (.ins c.C dx (fU2 (.int a) (.int p) (.int s) (.int y) (.int z)))
 | .take a p s l=>∃x dx f,v= .ref x/\H x=some (.ins c.T dx (fU1 "fields" (.int a) (.int p) (.int s) f))/\Im H f (prD l)/\l.length<=10
 | .case a p s l=>∃x dx f,v= .ref x/\H x=some (.ins c.K dx (fU1 "arms" (.int a) (.int p) (.int s) f))/\Im H f (prD l)/\l.length<=10
 | .row a p s y=>∃x dx,v= .ref x/\H x=some (.ins c.R dx (fU1 "out" (.int a) (.int p) (.int s) (.int y)))
def rQ (c:Cs) (H:Hp) (v:V) (m:Mkg):Prop:=∃x dx f,v= .ref x/\H x=some (.ins c.M dx (fM (.str m.s) f (.int m.a) (.int m.p)))/\Im H f m.f/\jb m.f<=2/\okD m.f
def Fz:HO->Prop
 | .tup _=>True
 | .ins _ _ fs=>fs.length≠5\/∃v r,fs=(("at":Str),v)::r
 |_=>False
def FK (H H':Hp):Prop:=∀a o,H a=some o->Fz o->H' a=some o
theorem FK.tk {H H':Hp} (k:FK H H'):TK H H':=fun a xs e=>k a _ e trivial
theorem fC.fk {H H':Hp} (s:fC H H'):FK H H':=fun a o e _=>s a o e
theorem FK.trans {H H1 H2:Hp} (a:FK H H1) (b:FK H1 H2):FK H H2:=fun c o e f=>b c o (a c o e f) f
theorem pK.mono {c:Cs} {H H':Hp} {v:V} (k:FK H H'):∀{u:Us},pK c H v u->pK c H' v u
 | .num _ _ _,⟨x,dx,e,h⟩=>⟨x,dx,e,k _ _ h (.inr ⟨_,_,rfl⟩)⟩
 | .call _ _ _ _ _,⟨x,dx,e,h⟩=>⟨x,dx,e,k _ _ h (.inr ⟨_,_,rfl⟩)⟩
 | .take _ _ _ _,⟨x,dx,f,e,h,i,n⟩=>⟨x,dx,f,e,k _ _ h (.inr ⟨_,_,rfl⟩),i.mono k.tk,n⟩
 | .case _ _ _ _,⟨x,dx,f,e,h,i,n⟩=>⟨x,dx,f,e,k _ _ h (.inr ⟨_,_,rfl⟩),i.mono k.tk,n⟩
 | .row _ _ _ _,⟨x,dx,e,h⟩=>⟨x,dx,e,k _ _ h (.inr ⟨_,_,rfl⟩)⟩
theorem pK.ok {c:Cs} {H:Hp} {v:V}:∀{u:Us},pK c H v u->u.ok
 | .num _ _ _,_=>trivial
 | .call _ _ _ _ _,_=>trivial
 | .take _ _ _ _,⟨_,_,_,_,_,_,n⟩=>n
 | .case _ _ _ _,⟨_,_,_,_,_,_,n⟩=>n
 | .row _ _ _ _,_=>trivial
theorem rQ.mono {c:Cs} {H H':Hp} {v:V} {m:Mkg} (k:FK H H'):rQ c H v m->rQ c H' v m
 |⟨x,dx,f,e,h,i,d⟩=>⟨x,dx,f,e,k _ _ h (.inl (by show 4≠5;decide)),i.mono k.tk,d⟩
theorem kl {J:It} {i:Nat} {te:TE} {Q:VK} {τ:St} {H1:Hp} {D:Addr} (n:Nat) (hn:n<sizeLine) (R:List V->Hp->Prop) (hR:∀xs H H',R xs H->TK H H'->R xs H') (hD:H1 D=none) (hτ:τ.set i none=τ)
  (hgo:∀k H,fC H1 H->k<n->J.go k H) (hst:∀H,fC H1 H->J.stop n H) (h0:R [] H1)
  (step:∀k H v H3 xs (Z:VK),fC H1 H->k<n->J.yld k H v H3->R xs H->xs.length=k->(∀y H5,fC H H5->R (xs++[y]) H5->Z y H5)->te (τ.set i (some v)) H3 Z)
  (hq:∀H' xs,fC H1 H'->R xs H'->xs.length=n->H' D=some (.lst xs)->Q (.ref D) H'):LcP J i ml te Q τ H1 D:=by
 have nd:∀(H5:Hp) (xs ys:List V),H5 D=some (.lst xs)->TK H5 (upd H5 D (.lst ys)):=fun H5 xs ys e a zs q=>by rw[eT (jm q e (fun z=>nomatch z))];exact q
 have up:∀{H:Hp} (o:HO),fC H1 H->fC H1 (upd H D o):=fun{H} o S b u e=>by rw[eT (eY e hD)];exact S b u e
 refine⟨fun k m σ' H2=>m=n-k/\k<=n/\(∃o,σ'=τ.set i o)/\fC H1 H2/\∃xs,H2 D=some (.lst xs)/\xs.length=k/\R xs H2,⟨n,by simp,cc _,⟨none,hτ.symm⟩,eS hD _,[],eO,rfl,hR _ _ _ h0 (fC.tk (eS hD _))⟩,?_⟩
 rintro k m σ' H2 ⟨rfl,hk,⟨o,rfl⟩,S,xs,e,hl,hr⟩
 by_cases hlt:k<n
 ·refine .inr ⟨hgo k H2 S hlt,fun v H3 y=>?_⟩
  rw[bB]
  refine step k H2 v H3 xs _ S hlt y hr hl fun y H5 S5 r5=>?_
  refine⟨xs,S5 D _ e,by lia,n-(k+ 1),by lia,rfl,hlt,⟨some v,rfl⟩,up _ (S.trans S5),xs++[y],eO,by rw[aN,hl];rfl,hR _ _ _ r5 (nd H5 _ _ (S5 D _ e))⟩
 ·have e1:k=n:=by lia
  subst e1
  exact .inl ⟨hst H2 S,hq H2 xs S hr hl e⟩
theorem oG {K:PySem.W.Frag} {a:Addr} {xs:List V} {k:Nat} {H1 H:Hp} (e:H1 a=some (.lst xs)) (S:fC H1 H) (h:k<xs.length):(Itl K a).go k H:=⟨xs,xs[k],SqL.of (S a _ e),ba h⟩
theorem oH {K:PySem.W.Frag} {a:Addr} {xs:List V} {H1 H:Hp} (e:H1 a=some (.lst xs)) (S:fC H1 H):(Itl K a).stop xs.length H:=⟨xs,SqL.of (S a _ e),cb _⟩
theorem DY {K:PySem.W.Frag} {a:Addr} {xs:List V} {k:Nat} {H1 H:Hp} (e:H1 a=some (.tup xs)) (S:fC H1 H) (h:k<xs.length):(Itt K a).go k H:=⟨xs,xs[k],SqT.of (S a _ e),ba h⟩
theorem DZ {K:PySem.W.Frag} {a:Addr} {xs:List V} {H1 H:Hp} (e:H1 a=some (.tup xs)) (S:fC H1 H):(Itt K a).stop xs.length H:=⟨xs,SqT.of (S a _ e),cb _⟩
inductive Ls (H:Hp):List Addr->List (List V)->Prop
 |nil:Ls H [] []
 |cons {a:Addr} {c:List V} {l:List Addr} {m:List (List V)}:H a=some (.lst c)->Ls H l m->Ls H (a::l) (c::m)
theorem Ls.frame {H H':Hp} {M:List Addr} (k:∀a o,H a=some o->a∉M->H' a=some o):∀{l:List Addr} {m:List (List V)},Ls H l m->(∀a∈l,a∉M)->Ls H' l m
 |_,_,.nil,_=> .nil
 |_,_,.cons (a:=a) h t,n=> .cons (k _ _ h (n a (by simp))) (Ls.frame k t fun b hb=>n b (by simp[hb]))
theorem Ls.get {H:Hp}:∀{l:List Addr} {m:List (List V)} {i:Nat} {a:Addr},Ls H l m->l[i]?=some a->∃c,m[i]?=some c/\H a=some (.lst c)
 |_,_,0,_,.cons h _,e=>⟨_,rfl,by cases e;exact h⟩
 |_,_,j+ 1,_,.cons _ t,e=>by
  rw[bo]at e
  obtain⟨d,e1,e2⟩:=Ls.get t e
  exact⟨d,by rw[bo];exact e1,e2⟩
structure Sd where
 b:Addr
 dx:Addr
 p0:Addr
 p1:Addr
 p2:Addr
 p3:Addr
 d:Addr
 q0:Addr
 q1:Addr
 q2:Addr
 q3:Addr
def Sd.ls (S:Sd):List Addr:=[S.p0,S.p1,S.p2,S.p3,S.d,S.q0,S.q1,S.q2,S.q3]
structure Bd where
 pts:List Int
 mks:List Mkg
 uss:List Us
 fls:List (Int×Int)
 root:Int
def flD (p:Int×Int):Dt:= .tup [.flat (.int p.1),.flat (.int p.2)]
structure BSx (c:Cs) (H:Hp) (S:Sd) (E D:Bd):Prop where
 nd:S.ls.Nodup
 ob:H S.b=some (.ins c.B S.dx (fB S.p0 S.p1 S.p2 S.p3 (.int D.root)))
 st:∃mv uv fv mv' uv' fv':List V,Ls H S.ls [D.pts.map V.int,mv,uv,fv,[.ref S.q0,.ref S.q1,.ref S.q2,.ref S.q3,.int E.root],E.pts.map V.int,mv',uv',fv']/\
  l6 (rQ c H) mv D.mks/\l6 (pK c H) uv D.uss/\Ims H fv (D.fls.map flD)/\Ims H mv' (E.mks.map Mkg.d)/\Ims H uv' (E.uss.map Us.d)/\Ims H fv' (E.fls.map flD)
theorem Ls.at {H:Hp} {l:List Addr} {m:List (List V)} (L:Ls H l m) {i:Nat} {a:Addr} {c:List V} (h1:l[i]?=some a) (h2:m[i]?=some c):H a=some (.lst c):=by
 obtain⟨d,e1,e2⟩:=L.get h1
 rw[h2]at e1
 cases e1
 exact e2
theorem ie {H:Hp} {a:Addr} {xs:List V} {o:HO} (h:H a=some (.lst xs)):FK H (upd H a o):=fun b u e f=>by
 rw[eT (jm e h (fun z=>by rw[z]at f;exact f))]
 exact e
theorem vx {H:Hp} {a C dx p0 p1 p2 p3:Addr} {r:V} {o:HO} (h:H a=some (.ins C dx (fB p0 p1 p2 p3 r))):FK H (upd H a o):=fun b u e f=>by
 rw[eT (jm e h (fun z=>by
  rw[z]at f
  rcases f with f|⟨v,r,f⟩
  ·exact f rfl
  ·injection f with f _
   injection f with f _
   exact absurd f fS))]
 exact e
section
variable {c:Cs} {H H':Hp} {S:Sd} {E D:Bd}
theorem BSx.frame {M:List Addr} (B:BSx c H S E D) (k:∀a o,H a=some o->a∉M->H' a=some o) (hb:S.b∉M) (hl:∀a∈S.ls,a∉M) (fk:FK H H'):BSx c H' S E D:=by
 obtain⟨nd,ob,mv,uv,fv,mv',uv',fv',L,h1,h2,h3,h4,h5,h6⟩:=B
 exact⟨nd,k _ _ ob hb,mv,uv,fv,mv',uv',fv',L.frame k hl,h1.imp fun _ _=>rQ.mono fk,h2.imp fun _ _=>pK.mono fk,h3.mono fk.tk,h4.mono fk.tk,h5.mono fk.tk,h6.mono fk.tk⟩
end
theorem BSx.hl {c:Cs} {H:Hp} {S:Sd} {E D:Bd} {l:Addr} {xs:List V} {o:HO} (B:BSx c H S E D) (hn:l∉S.ls) (e:H l=some (.lst xs)):BSx c (upd H l o) S E D:=by
 refine B.frame (M:=[l]) (fun a u q n=>?_) (fun z=>?_) (fun a ha z=>?_) (ie e)
 ·rw[eT (fun z=>n (by simp[z]))];exact q
 ·have z':S.b=l:=by simpa using z
  have q:=B.ob
  rw[z',e]at q
  cases q
 ·have z':a=l:=by simpa using z
  rw[z']at ha
  exact hn ha
def Frm (M:List Addr) (H H':Hp):Prop:=∀a o,H a=some o->a∉M->H' a=some o
theorem Frm.trans {M:List Addr} {H H1 H2:Hp} (a:Frm M H H1) (b:Frm M H1 H2):Frm M H H2:=fun c o e n=>b c o (a c o e n) n
theorem tu (H:Hp):∀l:List Int,qB H (l.map V.int) (l.map fun i=> .flat (.int i))
 |[]=> .nil
 |_::t=> .cons (.flat rfl) (tu H t)
theorem l6.right {α β:Type} {F:α->β->Prop}:∀{l:List α} {m:List β},l6 F l m->∀y∈m,∃x,F x y
 |_,_,.nil,y,h=>by simp at h
 |_,_,.cons f t,y,h=>by
  rcases aj.mp h with z|z
  ·rw[z];exact⟨_,f⟩
  ·exact l6.right t y z
def Dist (l:List (Str×Int)):Prop:=(l.map Prod.fst).Nodup
inductive Mf where
 |num
 |fn (x y:Int)
 |rcd (l:List (Str×Int))
 |tag (w:Str) (x:Int)
 |row (x:Int)
 |any
def Mf.s:Mf->Str
 | .num=>"num"
 | .fn _ _=>"fn"
 | .rcd _=>"rec"
 | .tag _ _=>"tag"
 | .row _=>"row"
 | .any=>"any"
def Mf.f:Mf->Dt
 | .num=> .tup []
 | .fn x y=> .tup [.flat (.int x),.flat (.int y)]
 | .rcd l=>prD l
 | .tag w x=> .tup [.flat (.str w),.flat (.int x)]
 | .row x=> .tup [.flat (.int x)]
 | .any=> .tup []
def Mf.ok:Mf->Prop
 | .rcd l=>l.length<=10/\Dist l
 |_=>True
end BO.Internal
namespace L2.Internal
open PySem PySem.Spec PyProof.Rows
section
variable {X:Cx} {e a b o f:Expr} {st:Stmt} {ta tb td ty tx to:TE} {pos apos cpos:Pos}
theorem PE.weak {t t':TE} (h:PE X e t) (m:∀σ H Q,t' σ H Q->t σ H Q):PE X e t':=fun pz s σ H Q I q=>h pz s σ H Q I (m σ H Q q)
theorem PT.weak {t t':TT} (h:PT X e t) (m:∀σ H Q,t' σ H Q->t σ H Q):PT X e t':=fun pz s σ H Q I q=>h pz s σ H Q I (m σ H Q q)
theorem PS.weak {t t':TS} (h:PS X st t) (m:∀D σ H,t' D σ H->t D σ H):PS X st t':=fun pz s σ H D I q=>h pz s σ H D I (m D σ H q)
theorem OpR.weak {g:Value->Value->Sem Value} {r r':R2} (h:OpR X g r) (m:∀x y H Q,r' x y H Q->r x y H Q):OpR X g r':=fun pz s σ H x y v u Q I rx ry q=>h pz s σ H x y v u Q I rx ry (m x y H Q q)
theorem IxR.weak {r r':R2} (h:IxR X r) (m:∀x y H Q,r' x y H Q->r x y H Q):IxR X r':=fun value slice pz s σ H x y v u Q I rx ry q hs=>h value slice pz s σ H x y v u Q I rx ry (m x y H Q q) hs
def mT (t:TE):TE:=fun σ H Q=>∃Q0:VK,t σ H Q0/\∀x H1,Q0 x H1->Q x H1
theorem PE.mono {t:TE} (h:PE X e t):PE X e (mT t):=fun pz s σ H Q I ⟨Q0,h0,m⟩=>thn (h pz s σ H Q0 I h0) fun v s1 ⟨x,H1,I1,r1,q1⟩=>⟨x,H1,I1,r1,m x H1 q1⟩
def mR (r:R2):R2:=fun x y H Q=>∃Q0:VK,r x y H Q0/\∀x H1,Q0 x H1->Q x H1
theorem OpR.mono {g:Value->Value->Sem Value} {r:R2} (h:OpR X g r):OpR X g (mR r):=fun pz s σ H x y v u Q I rx ry ⟨Q0,h0,m⟩=>thn (h pz s σ H x y v u Q0 I rx ry h0) fun v s1 ⟨x,H1,I1,r1,q1⟩=>⟨x,H1,I1,r1,m x H1 q1⟩
def onV:Option (Option V)->(V->Prop)->Prop
 |some (some v),k=>k v
 |_,_=>False
def onS {α:Type}:Option α->(α->Prop)->Prop
 |some v,k=>k v
 |none,_=>False
theorem eX {α:Type} {x:Option α} {v:α} {k:α->Prop} (h:x=some v) (q:k v):onS x k:=by rw[h];exact q
theorem A3 {α:Type} {x:Option α} {k:α->Prop} (h:onS x k):∃v,x=some v/\k v:=by
 cases x with
 |none=>exact h.elim
 |some v=>exact⟨v,rfl,h⟩
def cV (i:Nat):TE:=fun σ H Q=>onV σ[i]? fun v=>Q v H
theorem cv (i:Nat) {x:Str} {pos:Pos} (hN:autoParam (X.N[i]?=some x) L2.Internal.auR._auto_1) (hv:Vis X.env.scope x:=by first|exact Or.inl rfl|exact Or.inr (.inl rfl)|exact Or.inr (.inr rfl)) (hd:autoParam ((x==("__debug__":Str))=false) L2.Internal.auD._auto_1)
  (hcd:autoParam ((x==("__classdict__":Str))=false) L2.Internal.auD._auto_1):PE X (.Name x pos) (cV i):=(pv i hN hv hd hcd).weak fun σ H Q h=>by
 unfold cV at h
 cases q:σ[i]? with
 |none=>rw[q]at h;exact h.elim
 |some o=>
  rw[q]at h
  cases o with
  |none=>exact h.elim
  |some v=>exact⟨v,q,h⟩
def cI0 (g:Int->Int->V):R2:=fun x y H Q=>match x,y with
 | .int i,.int j=>Q (g i j) H
 |_,_=>False
def cI (C:Int->Int->Prop) (g:Int->Int->V):R2:=fun x y H Q=>match x,y with
 | .int i,.int j=>C i j/\Q (g i j) H
 |_,_=>False
theorem tD {g:Int->Int->V}:∀x y H Q,cI0 g x y H Q->rI0 g x y H Q:=fun x y H Q h=>by
 unfold cI0 at h
 split at h
 ·exact⟨_,_,rfl,rfl,h⟩
 ·exact h.elim
theorem zZ {C:Int->Int->Prop} {g:Int->Int->V}:∀x y H Q,cI C g x y H Q->rI C g x y H Q:=fun x y H Q h=>by
 unfold cI at h
 split at h
 ·exact⟨_,_,rfl,rfl,h.1,h.2⟩
 ·exact h.elim
theorem gF:OpR X (binaryOp .Add) (cI0 fun i j=> .int (i+j)):=vk.weak tD
theorem pL:OpR X (binaryOp .Sub) (cI0 fun i j=> .int (i-j)):=AM.weak tD
theorem pM:OpR X (binaryOp .Mult) (cI DD fun i j=> .int (i*j)):=DE.weak zZ
theorem jB:OpR X (binaryOp .FloorDiv) (cI Fq fun i j=> .int (i/j)):=mi.weak zZ
theorem hX:OpR X (binaryOp .Mod) (cI (fun _ j=>0<j) fun i j=> .int (i%j)):=pq.weak zZ
theorem yp:OpR X (binaryOp .Pow) (cI GX fun i j=> .int (i^j.toNat)):=AN.weak zZ
theorem lA:OpR X (compareOp .Lt) (cI0 fun i j=> .bl (decide (i<j))):=Fs.weak tD
theorem uD:OpR X (compareOp .LtE) (cI0 fun i j=> .bl (decide (i<=j))):=Fu.weak tD
theorem wH:OpR X (compareOp .Gt) (cI0 fun i j=> .bl (decide (j<i))):=Fv.weak tD
def cEq (n:Bool):R2:=fun x y H Q=>match x,y with
 | .int i,.int j=>Q (.bl (xor n (decide (i=j)))) H
 | .str i,.str j=>Q (.bl (xor n (decide (i=j)))) H
 |_,_=>False
theorem G5 {i j:Str}:decide (V.str i=V.str j)=decide (i=j):=by
 rw[dR]
 simp
theorem G6 {i j:Int}:decide (V.int i=V.int j)=decide (i=j):=by
 rw[dR]
 simp
theorem jv:OpR X (compareOp .Eq) (cEq false):=wk.weak fun x y H Q h=>by
 unfold cEq at h
 split at h
 ·refine⟨rfl,?_⟩;rw[G6];rw[dW]at h;exact h
 ·refine⟨rfl,?_⟩;rw[G5];rw[dW]at h;exact h
 ·exact h.elim
theorem D4:OpR X (compareOp .NotEq) (cEq true):=BQ.weak fun x y H Q h=>by
 unfold cEq at h
 split at h
 ·refine⟨rfl,?_⟩;rw[G6];rw[dX]at h;exact h
 ·refine⟨rfl,?_⟩;rw[G5];rw[dX]at h;exact h
 ·exact h.elim
def onB:V->(Bool->Prop)->Prop
 | .bl k,q=>q k
 |_,_=>False
theorem D5 {x:V} {k:Bool->Prop} (h:onB x k):∃c,x= .bl c/\k c:=by
 cases x<;>first|exact⟨_,rfl,h⟩|exact h.elim
def cT (t:TE):TT:=fun σ H Q=>t σ H fun x H'=>onB x fun k=>Q k H'
theorem fA {op:CmpOp} {r:R2} (ho:OpR X (compareOp op) r) (ha:PE X a ta) (hb:PE X b tb) (hm:behindInMarks op b=false:=by exact xE _):PT X (.Compare a [op] [b] pos) (cT (tOp r ta tb)):=
 (pA ho.mono ha.mono hb.mono hm).weak fun σ H Q h=>⟨_,h,fun x H1 h1=>⟨_,h1,fun y H2 h2=>⟨_,h2,fun z H' h3=>D5 h3⟩⟩⟩
def z6:R2:=fun x y H Q=>match x,y with
 | .ref p,.int i=>∃xs,H p=some (.lst xs)/\onS (atI xs i) fun v=>Q v H
 |_,_=>False
def A4:R2:=fun x y H Q=>match x,y with
 | .ref p,.int i=>∃xs,H p=some (.tup xs)/\onS (atI xs i) fun v=>Q v H
 |_,_=>False
theorem fc:IxR X z6:=B4.weak fun x y H Q h=>by
 unfold z6 at h
 split at h
 ·obtain⟨xs,e,h⟩:=h
  obtain⟨v,ev,h⟩:=A3 h
  exact⟨_,xs,_,v,rfl,rfl,SqL.of e,ev,h⟩
 ·exact h.elim
theorem fh:IxR X A4:=DP.weak fun x y H Q h=>by
 unfold A4 at h
 split at h
 ·obtain⟨xs,e,h⟩:=h
  obtain⟨v,ev,h⟩:=A3 h
  exact⟨_,xs,_,v,rfl,rfl,SqT.of e,ev,h⟩
 ·exact h.elim
def Fd (H:Hp) (a C:Addr) (f:Str) (v:V):Prop:=∃dx fs,H a=some (.ins C dx fs)/\fs.lookup f=some v
def Nf (H:Hp) (a C:Addr) (m:Str):Prop:=∃dx fs,H a=some (.ins C dx fs)/\fs.lookup m=none
def cFld (C:Addr) (f:Str) (ta:TE):TE:=fun σ H Q=>ta σ H fun x H1=>match x with
 | .ref a=>∃v,Fd H1 a C f v/\Q v H1
 |_=>False
theorem fj {C:Addr} {f:Str} (c:Cls X.K C) (n:fO X.K C f) (he:PE X e ta) (hb:autoParam (attributeBase e f X.env (eval e X.env)=eval e X.env) L2.Internal.auR._auto_1):PE X (.Attribute e f pos) (cFld C f ta):=
 (gx he.mono hb).weak fun σ H Q h=>⟨_,h,fun x H1 h1=>by
  cases x with
  |ref a=>
   obtain⟨v,⟨dx,fs,ea,ev⟩,q⟩:=h1
   exact⟨a,C,dx,fs,v,rfl,ea,c,n,ev,q⟩
  |_=>exact h1.elim⟩
def FP (C:Addr) (m:Str) (sp:Sp) (dvs:List V) (E:XK) (ta:TE) (t:TA):TE:=fun σ H Q=>ta σ H fun x H1=>match x with
 | .ref a=>Nf H1 a C m/\t σ H1 fun vs H2=>sp (.ref a::(vs++dvs)) H2 Q E
 |_=>False
theorem e8 {C:Addr} {m:Str} {sp:Sp} {dvs:List V} {E:XK} {t:TA} (h:PE X e (BX C m sp dvs E (mT ta) t)):PE X e (FP C m sp dvs E ta t):=h.weak fun σ H Q h=>⟨_,h,fun x H1 h1=>by
  cases x with
  |ref a=>
   obtain⟨⟨dx,fs,ea,l⟩,q⟩:=h1
   exact⟨a,dx,fs,rfl,ea,l,q⟩
  |_=>exact h1.elim⟩
def FQ (C:Addr) (f:Str) (ta tv:TE):TS:=fun D σ H=>tv σ H fun y H1=>ta σ H1 fun x H2=>match x with
 | .ref a=>∃dx fs,H2 a=some (.ins C dx fs)/\fs.length<1000/\D.nx σ (upd H2 a (.ins C dx (iZ f y fs)))
 |_=>False
theorem kA {C:Addr} {f:Str} {tv:TE} (c:Cls X.K C) (n:fO X.K C f) (h:PS X st (GZ X.K (mT ta) (mT tv) f)):PS X st (FQ C f ta tv):=h.weak fun D σ H h=>⟨_,h,fun y H1 h1=>⟨_,h1,fun x H2 h2=>by
  cases x with
  |ref a=>
   obtain⟨dx,fs,ea,l,q⟩:=h2
   exact⟨a,C,dx,fs,rfl,ea,c,n,l,q⟩
  |_=>exact h2.elim⟩⟩
def cApp (to ta:TE):TE:=fun σ H Q=>to σ H fun x H1=>match x with
 | .ref l=>(∃xs,H1 l=some (.lst xs))/\ta σ H1 fun y H2=>∃xs,H2 l=some (.lst xs)/\xs.length<sizeLine/\Q .non (upd H2 l (.lst (xs++[y])))
 |_=>False
theorem jV (h:PE X e (tBM X.K "list" xX (mT to) (jA (mT ta) sP))):PE X e (cApp to ta):=h.weak fun σ H Q h=>⟨_,h,fun x H1 h1=>by
  cases x with
  |ref l=>
   obtain⟨⟨xs,e⟩,q⟩:=h1
   exact⟨.inl ⟨rfl,xs,SqL.of e⟩,_,q,fun y H2 ⟨xs,e,hl,q2⟩=>⟨l,xs,y,rfl,rfl,e,hl,q2⟩⟩
  |_=>exact h1.elim⟩
end
end L2.Internal
namespace BO.Internal
open PySem L2.Internal
def wd:Bool->Str
 |true=>"goes"
 |false=>"here"
structure Rw where
 w:Bool
 a:Int
 b:Int
 y:Option (Int×Int)
def Rw.k (r:Rw):List Key:=[.inr (wd r.w),.inl r.a,.inl r.b]
def whyD:Option (Int×Int)->Dt
 |none=> .flat .non
 |some p=>flD p
def Rw.d (r:Rw):Dt:= .tup [.flat (.str (wd r.w)),.flat (.int r.a),.flat (.int r.b),whyD r.y]
def Rw.ok (N M:Int) (r:Rw):Prop:=0<=r.a/\(r.a<match r.w with|true=>N|false=>M)/\0<=r.b/\r.b<N
def Rw.c (r:Rw):Nat:=(match r.w with|true=>0|false=>4096)+r.a.toNat*64+r.b.toNat
structure DL (H:Hp) (d:Addr) (L:List Addr) (f:Int->List V) (k:Nat):Prop where
 ex:∃kvs:List (Key×V),H d=some (.dK kvs)/\kvs.length<=k/\(∀p,kr kvs (.inl p)=none->f p=[])/\
  (∀p v,kr kvs (.inl p)=some v->∃l,l∈L/\v= .ref l/\H l=some (.lst (f p)))/\(∀p q v,kr kvs (.inl p)=some v->kr kvs (.inl q)=some v->p=q)
def putf (f:Int->List V) (p:Int) (x:V):Int->List V:=fun q=>if q=p then f p++[x]else f q
structure Sda (H:Hp) (d:Addr) (L:List Addr) (f:Int->List V) (k:Nat) (p:Int) (l:Addr) (H1:Hp):Prop where
 here:H1 l=some (.lst (f p))
 fin:∀H2 x,fC H1 H2->∃L',(∀a∈L',a∈L\/a=l)/\DL (upd H2 l (.lst (f p++[x]))) d L' (putf f p x) (k+ 1)
 fr:∀a o,H a=some o->a≠d->H1 a=some o
 own:l∈L\/H l=none
theorem DL.get {H:Hp} {d:Addr} {L:List Addr} {f:Int->List V} {k:Nat} (W:DL H d L f k) (p:Int) {z:Addr} (hz:H z=none):
  ∃kvs l,(upd H z (.lst [])) d=some (.dK kvs)/\(kr kvs (.inl p)).getD (.ref z)= .ref l/\(upd H z (.lst [])) l=some (.lst (f p))/\(l∈L\/H l=none):=by
 obtain⟨kvs,e,hl,h1,h2,h3⟩:=W
 have s:=eS hz (.lst [])
 cases ev:kr kvs (.inl p)with
 |none=>exact⟨kvs,z,s _ _ e,by rw[ev];rfl,by rw[h1 p ev];exact eO,.inr hz⟩
 |some v=>
  obtain⟨l,m,rfl,el⟩:=h2 p v ev
  exact⟨kvs,l,s _ _ e,by rw[ev];rfl,s _ _ el,.inl m⟩
open Classical in
def putR (R:List Rw) (ρ:Rw):List Rw:=if ρ.k∈R.map Rw.k then R else R++[ρ]
def putsR (R l:List Rw):List Rw:=l.foldl putR R
end BO.Internal
namespace L2.Internal
open PySem PySem.Spec PyProof.Rows
section
variable {X:Cx}
end
section
variable {X:Cx}
theorem FT {scope:Scope} {x y:Str} (ns:List Str) (cap:List (Str×Nat×Addr)) (hns:cap.map (·.1)=ns) (hk:scope.kind= .function) (hn:∀p∈scope.names,p.2≠ .cell/\(p.2= .free->p.1∈ns)) (hl:∀y∈scope.names,y.2= .local->scope.names.lookup y.1=some .local)
  (hx:scope.names.lookup x=some .local) (hnd:(x::y::ns).Nodup) (hc:closureFor scope X.env=pure (cap.map fun p=>(p.1,p.2.2))) (hok:X.env.scope.kind= .function)
  (h:∀p∈cap,scope.names.lookup p.1=some .free/\X.env.cells.lookup p.1=some p.2.2/\X.env.scope.names.lookup p.1=some .cell/\X.N[p.2.1]?=some p.1):
  pJ X (x::y::ns) scope (cap.map fun p=>(p.1,p.2.2)) (fun σ=>none::none::cap.map fun p=>σ.getD p.2.1 none) 0 x where
 kind:=hk
 cell:=fun y hy=>(hn y hy).1
 names:=hl
 clos:=hc
 lk:=fun z c q=>by
  obtain⟨p,hp,e⟩:=bb.mp (PySem.mem_of_lookup q)
  cases e
  exact(h p hp).2.1
 has:=fun z q=>by
  refine nN ?_
  rw[hns]
  rcases q with q|q
  ·obtain⟨k0,e,q⟩:=f7 q
   have m:=hn _ (PySem.mem_of_lookup e)
   rcases q with q|⟨q,_⟩
   ·exact absurd q.symm m.1
   ·exact m.2 q
  ·obtain⟨k0,e,q⟩:=f7 q
   have m:=hn _ (PySem.mem_of_lookup e)
   rcases q with q|⟨q,_⟩
   ·exact m.2 q.symm
   ·exact m.2 q
 nd:=hnd
 ix:=rfl
 loc:=hx
 len:=fun _ _=>by simp[<-hns]
 val:=fun σ k z v h1 h2=>by
  match k with
  |0=>simp at h2
  |1=>simp at h2
  |k+ 2=>
   rw[<-hns,bo,bo,aJ]at h1
   rw[bo,bo,aJ]at h2
   cases e:cap[k]? with
   |none=>rw[e]at h1;cases h1
   |some p=>
    rw[e]at h1 h2
    have ez:p.1=z:=cx.inj h1
    have ev:σ.getD p.2.1 none=some v:=cx.inj h2
    subst ez
    obtain⟨a1,a2,a3,a4⟩:=h p (aM e)
    rw[bp]at ev
    refine⟨p.2.1,a4,?_,a3,iC hok a3 a1⟩
    cases q:σ[p.2.1]? with
    |none=>rw[q]at ev;cases ev
    |some o=>rw[q]at ev;exact congrArg some ev
end
section
variable {X:Cx} {pz:List (Addr×Obj)} {σ:St} {H:Hp} {s:Shared}
end
section
variable {prog:Program} {w:World} {A:Around} {R:Result->Shared->Prop} {I:Addr} {fp wr:List Addr} {n:Nat} {P:Nat->Value->Prop} {St:Nat->Heap->Prop}
end
section
variable {prog:Program} {w:World} {A:Around} {E:Value->Shared->Prop} {s:Shared} {l:Addr} {xs:Array (Int×Tok)}
end
section
variable {X:Cx}
end
section
variable {X:Cx}
end
end L2.Internal
set_option maxHeartbeats 1000000
namespace KK.Internal
open PySem L2.Internal BO.Internal
mutual
inductive Kd where
 |any
 |num
 |fn (a b:Kd)
 |rcd (l:Kds)
 |ch (l:Kds)
 |row (a:Kd)
inductive Kds where
 |nil
 |cons (w:Str) (k:Kd) (t:Kds)
end
def sD (s:Str):Dt:= .flat (.str s)
mutual
def Kd.d:Kd->Dt
 | .any=> .tup [sD "any"]
 | .num=> .tup [sD "num"]
 | .fn a b=> .tup [sD "fn",a.d,b.d]
 | .rcd l=> .tup [sD "rec",.tup l.ds]
 | .ch l=> .tup [sD "choice",.tup l.ds]
 | .row a=> .tup [sD "row",a.d]
def Kds.ds:Kds->List Dt
 | .nil=>[]
 | .cons w k t=> .tup [sD w,k.d]::t.ds
end
mutual
def Kd.sz:Kd->Nat
 | .any=>1
 | .num=>1
 | .fn a b=>a.sz+b.sz+ 1
 | .rcd l=>l.sz+ 1
 | .ch l=>l.sz+ 1
 | .row a=>a.sz+ 1
def Kds.sz:Kds->Nat
 | .nil=>0
 | .cons _ k t=>k.sz+t.sz
end
def Kds.toL:Kds->List (Str×Kd)
 | .nil=>[]
 | .cons w k t=>(w,k)::t.toL
def ltS (a b:Str):Prop:=PySem.Spec.ltCps a.cps.toList b.cps.toList=true
mutual
def Kd.ok:Kd->Prop
 | .any=>True
 | .num=>True
 | .fn a b=>a.ok/\b.ok
 | .rcd l=>l.ok/\(l.toL.map Prod.fst).Nodup/\l.toL.length<=10/\l.toL.Pairwise fun p q=>ltS p.1 q.1
 | .ch l=>l.ok/\(l.toL.map Prod.fst).Nodup/\l.toL.length<=10/\l.toL.Pairwise fun p q=>ltS p.1 q.1
 | .row a=>a.ok
def Kds.ok:Kds->Prop
 | .nil=>True
 | .cons _ k t=>k.ok/\t.ok
end
def Kd.tag:Kd->Str
 | .any=>"any"
 | .num=>"num"
 | .fn _ _=>"fn"
 | .rcd _=>"rec"
 | .ch _=>"choice"
 | .row _=>"row"
def lkK:List (Str×Kd)->Str->Option Kd
 |[],_=>none
 |p::t,x=>if p.1=x then some p.2 else lkK t x
def G (a:Kd):Prop:=a.ok/\a.sz<=20
def DKd (H:Hp) (d:Addr) (l:List (Str×Kd)):Prop:=∃kvs,H d=some (.dK kvs)/\∀w,match lkK l w with
  |some k=>∃v,kr kvs (Sum.inr w)=some v/\Im H v k.d
  |none=>kr kvs (Sum.inr w)=none
theorem DKd.some {H:Hp} {d:Addr} {l:List (Str×Kd)} {w:Str} {k:Kd} (h:DKd H d l) (e:lkK l w=some k):∃v,sY H d (.str w) (some v)/\Im H v k.d:=by
 obtain⟨kvs,e1,f⟩:=h
 have:=f w
 rw[e]at this
 obtain⟨v,h1,h2⟩:=this
 exact⟨v,by rw[<-h1];exact sY.k (k:=(Sum.inr w:Key)) e1,h2⟩
theorem DKd.none {H:Hp} {d:Addr} {l:List (Str×Kd)} {w:Str} (h:DKd H d l) (e:lkK l w=none):sY H d (.str w) none:=by
 obtain⟨kvs,e1,f⟩:=h
 have:=f w
 rw[e]at this
 rw[<-this]
 exact sY.k (k:=(Sum.inr w:Key)) e1
theorem Ims.atK {H:Hp}:∀{xs:List V} {ds:List Dt} {k:Nat} {v:V},Ims H xs ds->xs[k]?=some v->∃d,ds[k]?=some d/\Im H v d
 |_,_,0,_,.cons h _,e=>by cases e;exact⟨_,rfl,h⟩
 |_,_,k+ 1,_,.cons _ t,e=>Ims.atK (k:=k) t e
theorem yq {H:Hp} {t:Addr} {xs:List V} {ds:List Dt} (h:H t=none) (i:Ims H xs ds):Im (upd H t (.tup xs)) (.ref t) (.tup ds):= .tup eO (i.mono (fC.tk (eS h _)))
end KK.Internal
set_option maxHeartbeats 1000000
namespace KK.Internal
open PySem L2.Internal BO.Internal
def iD (n:Int):Dt:= .flat (.int n)
structure Ad where
 b:Addr
 bx:Addr
 p0:Addr
 p1:Addr
 p2:Addr
 p3:Addr
def Ad.ls (A:Ad):List Addr:=[A.p0,A.p1,A.p2,A.p3]
structure Bq (c:Cs) (H:Hp) (A:Ad) (r:V) (D:Bd):Prop where
 b:H A.b=some (.ins c.B A.bx (fB A.p0 A.p1 A.p2 A.p3 r))
 e0:H A.p0=some (.lst (D.pts.map V.int))
 e1:∃mv,H A.p1=some (.lst mv)/\l6 (rQ c H) mv D.mks
 e2:∃uv,H A.p2=some (.lst uv)/\l6 (pK c H) uv D.uss
 e3:H A.p3=some (.lst [])
 nd:A.ls.Nodup
structure Dq (H:Hp) (A:Ad) (D:Bd):Prop where
 b:H A.b=some (.lst [.ref A.p0,.ref A.p1,.ref A.p2,.ref A.p3])
 nb:A.b∉A.ls
 e0:H A.p0=some (.lst (D.pts.map V.int))
 e1:∃mv,H A.p1=some (.lst mv)/\Ims H mv (D.mks.map Mkg.d)
 e2:∃uv,H A.p2=some (.lst uv)/\Ims H uv (D.uss.map Us.d)
 e3:H A.p3=some (.lst [])
 nd:A.ls.Nodup
def FB (A:Ad) (H H':Hp):Prop:=(∀a o,H a=some o->a∉A.ls->H' a=some o)/\FK H H'
theorem FB.trans {A:Ad} {H H1 H2:Hp} (a:FB A H H1) (b:FB A H1 H2):FB A H H2:=⟨fun c o e n=>b.1 c o (a.1 c o e n) n,a.2.trans b.2⟩
theorem Ad.ne {A:Ad} (h:A.ls.Nodup):A.p0≠A.p1/\A.p0≠A.p2/\A.p0≠A.p3/\A.p1≠A.p2/\A.p1≠A.p3/\A.p2≠A.p3:=by
 simp only[Ad.ls,aD,aj,bj,or_false,not_or]at h
 exact⟨h.1.1,h.1.2.1,h.1.2.2,h.2.1.1,h.2.1.2,h.2.2.1⟩
section
variable {c:Cs} {H H':Hp} {A:Ad} {r:V} {D:Bd}
theorem Bq.us (B:Bq c H A r D) {uv:List V} {x:V} {u:Us} (e:H A.p2=some (.lst uv)) (hx:pK c H x u):Bq c (upd H A.p2 (.lst (uv++[x]))) A r {D with uss:=D.uss++[u]}:=by
 obtain⟨b,e0,⟨mv,m1,m2⟩,⟨uv',u1,u2⟩,e3,nd⟩:=B
 rw[e]at u1
 cases u1
 have k:=ie (o:= .lst (uv++[x])) e
 obtain⟨_,n2,_,n4,_,n6⟩:=Ad.ne nd
 exact⟨by rw[eT (jm b e (fun h=>nomatch h))];exact b,by rw[eT n2];exact e0,⟨mv,by rw[eT n4];exact m1,m2.imp fun _ _=>rQ.mono k⟩,⟨_,eO,.snoc (hx.mono k) (u2.imp fun _ _=>pK.mono k)⟩,by rw[eT (Ne.symm n6)];exact e3,nd⟩
theorem Bq.root (B:Bq c H A r D) (v:V):Bq c (upd H A.b (.ins c.B A.bx (fB A.p0 A.p1 A.p2 A.p3 v))) A v D:=by
 obtain⟨b,e0,⟨mv,m1,m2⟩,⟨uv,u1,u2⟩,e3,nd⟩:=B
 have k:=vx (o:= .ins c.B A.bx (fB A.p0 A.p1 A.p2 A.p3 v)) b
 have ne:∀{a:Addr} {xs:List V},H a=some (.lst xs)->a≠A.b:=fun e=>jm e b (fun h=>nomatch h)
 exact⟨eO,by rw[eT (ne e0)];exact e0,⟨mv,by rw[eT (ne m1)];exact m1,m2.imp fun _ _=>rQ.mono k⟩,⟨uv,by rw[eT (ne u1)];exact u1,u2.imp fun _ _=>pK.mono k⟩,by rw[eT (ne e3)];exact e3,nd⟩
theorem Dq.nbs (B:Dq H A D):A.b≠A.p0/\A.b≠A.p1/\A.b≠A.p2:=by
 have n:=B.nb
 simp only[Ad.ls,aj,bj,or_false,not_or]at n
 exact⟨n.1,n.2.1,n.2.2.1⟩
theorem Dq.us (B:Dq H A D) {uv:List V} {x:V} {u:Us} (e:H A.p2=some (.lst uv)) (hx:Im H x u.d):Dq (upd H A.p2 (.lst (uv++[x]))) A {D with uss:=D.uss++[u]}:=by
 obtain⟨_,_,nb2⟩:=B.nbs
 obtain⟨b,nb,e0,⟨mv,m1,m2⟩,⟨uv',u1,u2⟩,e3,nd⟩:=B
 rw[e]at u1
 cases u1
 have k:=(ie (o:= .lst (uv++[x])) e).tk
 obtain⟨_,n2,_,n4,_,n6⟩:=Ad.ne nd
 exact⟨by rw[eT nb2];exact b,nb,by rw[eT n2];exact e0,⟨mv,by rw[eT n4];exact m1,m2.mono k⟩,⟨_,eO,by rw[bC];exact(u2.mono k).app (.cons (hx.mono k) .nil)⟩,by rw[eT (Ne.symm n6)];exact e3,nd⟩
end
end KK.Internal
namespace L2.Internal
open PySem PySem.Spec PyProof.Rows PySem.W
def PmN (n:Nat) (p:Array Nat):Prop:=p.Perm (List.toArray (aa n))
theorem PmN.lt {n:Nat} {p:Array Nat} (h:PmN n p) (h0:0<n) (k:Nat):p.getD k 0<n:=by
 rw[Array.getD]
 split
 ·rename_i hk
  have m:p[k]∈p.toList:=by simp
  have:=(Array.perm_iff_toList_perm.mp h).mem_iff.mp m
  simpa using this
 ·exact h0
section
variable {prog:Program} {w:World} {A:Around} {E:Value->Shared->Prop} {s:Shared}
end
section
variable {X:Cx}
end
section
variable {fs ex:List Addr} {H H':Hp} {h h':Heap}
end
section
variable {X:Cx} {pz:List (Addr×Obj)} {σ:St} {H H':Hp} {s:Shared} {h':Heap}
end
section
variable {X:Cx}
end
end L2.Internal
namespace L2.Internal
open PySem PySem.Spec PyProof.Rows
mutual
def nlD:Dt->Bool
 | .flat _=>true
 | .tup l=>A5 l
 | .lst _=>false
def A5:List Dt->Bool
 |[]=>true
 |x::xs=>nlD x&&A5 xs
end
theorem rR:∀{l:List Dt} {j:Nat} {a:Dt},A5 l=true->l[j]?=some a->nlD a=true
 |x::xs,0,a,h,e=>by
  cases e
  rw[A5,dS]at h
  exact h.1
 |x::xs,j+ 1,a,h,e=>by
  rw[A5,dS]at h
  exact rR h.2 e
 |[],j,a,_,e=>by simp at e
section
variable {X:Cx} {pz:List (Addr×Obj)} {σ:St} {H:Hp} {s:Shared}
mutual
theorem yr (I:Inv X pz σ H s):∀{x:V} {d e:Dt},At X.K H x d->At X.K H x e->nlD d=true->nlD e=true->eqD d e=true
 |_,_,_,.flat h,.flat _,_,_=>by rw[eqD];exact yg h
 |_,_,_,.tup h hs,.tup h' hs',n,n'=>by
  have e:=I.tuple_inj h h'
  subst e
  rw[nlD]at n n'
  rw[eqD]
  exact vy I hs hs' n n'
 |_,_,_,.flat h,.tup _ _,_,_=>absurd h dQ
 |_,_,_,.tup _ _,.flat h,_,_=>absurd h dQ
 |_,_,_,.lst _ _,_,n,_=>by rw[nlD]at n;cases n
 |_,_,_,_,.lst _ _,_,n=>by rw[nlD]at n;cases n
theorem vy (I:Inv X pz σ H s):∀{xs:List V} {l m:List Dt},Ats X.K H xs l->Ats X.K H xs m->A5 l=true->A5 m=true->wG l m=true
 |_,_,_,.nil,.nil,_,_=>by rw[wG]
 |_,_,_,.cons h t,.cons h' t',n,n'=>by
  rw[A5,dS]at n n'
  rw[wG,yr I h h' n.1 n'.1,vy I t t' n.2 n'.2]
  rfl
end
theorem mq {A:Around} (I:Inv X pz σ H s) {x:V} {u:Value} {b:Addr} {ys:List V} (r:gR x u) (hx:xW x=true) (h:SqT X.K H b ys) (hu:A.units<cLine):SeqAt.EqAt A s u (.ref b) false/\SeqAt.EqAt A s (.ref b) u false:=by
 obtain⟨its,_,pl,_⟩:=I.tuple h
 cases x with
 |non=>cases r;exact⟨.none_tuple pl hu,.tuple_none pl hu⟩
 |bl k=>cases r;exact⟨.bool_tuple _ pl hu,.tuple_bool _ pl hu⟩
 |int i=>obtain⟨t,rfl⟩:=r;exact⟨.int_tuple _ _ pl hu,.tuple_int _ _ pl hu⟩
 |str z=>obtain⟨t,rfl⟩:=r;exact⟨.str_tuple _ _ pl hu,.tuple_str _ _ pl hu⟩
 |_=>cases hx
theorem D7 (I:Inv X pz σ H s):∀(n:Nat) (A:Around) {x y:V} {u v:Value} {d e:Dt},gR x u->gR y v->At X.K H x d->At X.K H y e->nlD d=true->nlD e=true->jb d<=n->A.units+n<cLine->SeqAt.EqAt A s u v (eqD d e):=by
 intro n
 induction n with
 |zero=>
  intro A x y u v d e rx ry hx hy n1 n2 hd hu
  cases hx with
  |flat h=>
   cases hy with
   |flat h'=>rw[eqD];exact AR rx ry h h'
   |tup h' _=>cases ry;simp only[eqD];exact(mq I rx h h' (by lia)).1
   |lst _ _=>rw[nlD]at n2;cases n2
  |tup _ _=>rw[jb]at hd;lia
  |lst _ _=>rw[jb]at hd;lia
 |succ n ih=>
  intro A x y u v d e rx ry hx hy n1 n2 hd hu
  cases hx with
  |flat h=>
   cases hy with
   |flat h'=>rw[eqD];exact AR rx ry h h'
   |tup h' _=>cases ry;simp only[eqD];exact(mq I rx h h' (by lia)).1
   |lst _ _=>rw[nlD]at n2;cases n2
  |lst _ _=>rw[nlD]at n1;cases n1
  |@tup a xs ds h hs=>
   cases hy with
   |flat h'=>cases rx;simp only[eqD];exact(mq I ry h' h (by lia)).2
   |lst _ _=>rw[nlD]at n2;cases n2
   |@tup b ys es h' hs'=>
    cases rx
    cases ry
    by_cases hab:a=b
    ·subst hab
     rw[yr I (.tup h hs) (.tup h' hs') n1 n2]
     exact SeqAt.EqAt.same _
    ·rw[jb]at hd
     rw[nlD]at n1 n2
     refine SeqAt.EqAt.of_refs hab (DU I h hs h' hs' (by lia) fun j d1 d2 x y u v f1 f2 q1 q2 p1 p2=>?_).1
     exact ih A.in1 q1 q2 p1 p2 (rR n1 f1) (rR n2 f2) (b0 (depDs_get f1) (by lia)) (by show A.units+ 1+n<cLine;lia)
end
section
variable {X:Cx}
end
end L2.Internal
set_option maxHeartbeats 1000000
namespace KK.Internal
open PySem L2.Internal BO.Internal
structure Bw (c:Cs) (H:Hp) (A:Ad) (r:V) (D:Bd):Prop where
 b:H A.b=some (.ins c.B A.bx (fB A.p0 A.p1 A.p2 A.p3 r))
 e0:H A.p0=some (.lst (D.pts.map V.int))
 e1:∃mv,H A.p1=some (.lst mv)/\l6 (rQ c H) mv D.mks
 e2:∃uv,H A.p2=some (.lst uv)/\l6 (pK c H) uv D.uss
 e3:∃fv,H A.p3=some (.lst fv)/\Ims H fv (D.fls.map flD)
 nd:A.ls.Nodup
structure Dw (H:Hp) (A:Ad) (D:Bd):Prop where
 b:H A.b=some (.lst [.ref A.p0,.ref A.p1,.ref A.p2,.ref A.p3])
 nb:A.b∉A.ls
 e0:H A.p0=some (.lst (D.pts.map V.int))
 e1:∃mv,H A.p1=some (.lst mv)/\Ims H mv (D.mks.map Mkg.d)
 e2:∃uv,H A.p2=some (.lst uv)/\Ims H uv (D.uss.map Us.d)
 e3:∃fv,H A.p3=some (.lst fv)/\Ims H fv (D.fls.map flD)
 nd:A.ls.Nodup
section
variable {c:Cs} {H H':Hp} {A:Ad} {r:V} {D:Bd}
theorem Bw.same (B:Bw c H A r D) (s:fC H H'):Bw c H' A r D:=by
 obtain⟨b,e0,⟨mv,m1,m2⟩,⟨uv,u1,u2⟩,⟨fv,g1,g2⟩,nd⟩:=B
 exact⟨s _ _ b,s _ _ e0,⟨mv,s _ _ m1,m2.imp fun _ _=>rQ.mono (fC.fk s)⟩,⟨uv,s _ _ u1,u2.imp fun _ _=>pK.mono (fC.fk s)⟩,⟨fv,s _ _ g1,g2.mono (fC.tk s)⟩,nd⟩
theorem Bw.other (B:Bw c H A r D) {a:Addr} {xs ys:List V} (e:H a=some (.lst xs)) (n:a∉A.ls):Bw c (upd H a (.lst ys)) A r D:=by
 obtain⟨b,e0,⟨mv,m1,m2⟩,⟨uv,u1,u2⟩,⟨fv,g1,g2⟩,nd⟩:=B
 have k:=ie (o:= .lst ys) e
 simp only[Ad.ls,aj,bj,or_false,not_or]at n
 exact⟨by rw[eT (jm b e (fun h=>nomatch h))];exact b,by rw[eT (Ne.symm n.1)];exact e0,⟨mv,by rw[eT (Ne.symm n.2.1)];exact m1,m2.imp fun _ _=>rQ.mono k⟩,⟨uv,by rw[eT (Ne.symm n.2.2.1)];exact u1,u2.imp fun _ _=>pK.mono k⟩,⟨fv,by rw[eT (Ne.symm n.2.2.2)];exact g1,g2.mono k.tk⟩,nd⟩
theorem Bw.pt (B:Bw c H A r D) (v:Int):Bw c (upd H A.p0 (.lst (D.pts.map V.int++[.int v]))) A r {D with pts:=D.pts++[v]}:=by
 obtain⟨b,e0,⟨mv,m1,m2⟩,⟨uv,u1,u2⟩,⟨fv,g1,g2⟩,nd⟩:=B
 have k:=ie (o:= .lst (D.pts.map V.int++[.int v])) e0
 obtain⟨n1,n2,n3,_⟩:=Ad.ne nd
 exact⟨by rw[eT (jm b e0 (fun h=>nomatch h))];exact b,by rw[eO,bC];rfl,⟨mv,by rw[eT (Ne.symm n1)];exact m1,m2.imp fun _ _=>rQ.mono k⟩,⟨uv,by rw[eT (Ne.symm n2)];exact u1,u2.imp fun _ _=>pK.mono k⟩,⟨fv,by rw[eT (Ne.symm n3)];exact g1,g2.mono k.tk⟩,nd⟩
theorem Bw.addM (B:Bw c H A r D) {mv:List V} {x:V} {m:Mkg} (e:H A.p1=some (.lst mv)) (hx:rQ c H x m):Bw c (upd H A.p1 (.lst (mv++[x]))) A r {D with mks:=D.mks++[m]}:=by
 obtain⟨b,e0,⟨mv',m1,m2⟩,⟨uv,u1,u2⟩,⟨fv,g1,g2⟩,nd⟩:=B
 rw[e]at m1
 cases m1
 have k:=ie (o:= .lst (mv++[x])) e
 obtain⟨n1,_,_,n4,n5,_⟩:=Ad.ne nd
 exact⟨by rw[eT (jm b e (fun h=>nomatch h))];exact b,by rw[eT n1];exact e0,⟨_,eO,.snoc (hx.mono k) (m2.imp fun _ _=>rQ.mono k)⟩,⟨uv,by rw[eT (Ne.symm n4)];exact u1,u2.imp fun _ _=>pK.mono k⟩,⟨fv,by rw[eT (Ne.symm n5)];exact g1,g2.mono k.tk⟩,nd⟩
theorem Bw.us (B:Bw c H A r D) {uv:List V} {x:V} {u:Us} (e:H A.p2=some (.lst uv)) (hx:pK c H x u):Bw c (upd H A.p2 (.lst (uv++[x]))) A r {D with uss:=D.uss++[u]}:=by
 obtain⟨b,e0,⟨mv,m1,m2⟩,⟨uv',u1,u2⟩,⟨fv,g1,g2⟩,nd⟩:=B
 rw[e]at u1
 cases u1
 have k:=ie (o:= .lst (uv++[x])) e
 obtain⟨_,n2,_,n4,_,n6⟩:=Ad.ne nd
 exact⟨by rw[eT (jm b e (fun h=>nomatch h))];exact b,by rw[eT n2];exact e0,⟨mv,by rw[eT n4];exact m1,m2.imp fun _ _=>rQ.mono k⟩,⟨_,eO,.snoc (hx.mono k) (u2.imp fun _ _=>pK.mono k)⟩,⟨fv,by rw[eT (Ne.symm n6)];exact g1,g2.mono k.tk⟩,nd⟩
theorem Bw.root (B:Bw c H A r D) (v:V):Bw c (upd H A.b (.ins c.B A.bx (fB A.p0 A.p1 A.p2 A.p3 v))) A v D:=by
 obtain⟨b,e0,⟨mv,m1,m2⟩,⟨uv,u1,u2⟩,⟨fv,g1,g2⟩,nd⟩:=B
 have k:=vx (o:= .ins c.B A.bx (fB A.p0 A.p1 A.p2 A.p3 v)) b
 have ne:∀{a:Addr} {xs:List V},H a=some (.lst xs)->a≠A.b:=fun e=>jm e b (fun h=>nomatch h)
 exact⟨eO,by rw[eT (ne e0)];exact e0,⟨mv,by rw[eT (ne m1)];exact m1,m2.imp fun _ _=>rQ.mono k⟩,⟨uv,by rw[eT (ne u1)];exact u1,u2.imp fun _ _=>pK.mono k⟩,⟨fv,by rw[eT (ne g1)];exact g1,g2.mono k.tk⟩,nd⟩
theorem Dw.nbs (B:Dw H A D):A.b≠A.p0/\A.b≠A.p1/\A.b≠A.p2:=by
 have n:=B.nb
 simp only[Ad.ls,aj,bj,or_false,not_or]at n
 exact⟨n.1,n.2.1,n.2.2.1⟩
theorem Dw.us (B:Dw H A D) {uv:List V} {x:V} {u:Us} (e:H A.p2=some (.lst uv)) (hx:Im H x u.d):Dw (upd H A.p2 (.lst (uv++[x]))) A {D with uss:=D.uss++[u]}:=by
 obtain⟨_,_,nb2⟩:=B.nbs
 obtain⟨b,nb,e0,⟨mv,m1,m2⟩,⟨uv',u1,u2⟩,⟨fv,g1,g2⟩,nd⟩:=B
 rw[e]at u1
 cases u1
 have k:=(ie (o:= .lst (uv++[x])) e).tk
 obtain⟨_,n2,_,n4,_,n6⟩:=Ad.ne nd
 exact⟨by rw[eT nb2];exact b,nb,by rw[eT n2];exact e0,⟨mv,by rw[eT n4];exact m1,m2.mono k⟩,⟨_,eO,by rw[bC];exact(u2.mono k).app (.cons (hx.mono k) .nil)⟩,⟨fv,by rw[eT (Ne.symm n6)];exact g1,g2.mono k⟩,nd⟩
end
theorem Bw.fl {c:Cs} {H:Hp} {A:Ad} {r:V} {D:Bd} (B:Bw c H A r D) {fv:List V} {x:V} {p:Int×Int} (e:H A.p3=some (.lst fv)) (hx:Im H x (flD p)):Bw c (upd H A.p3 (.lst (fv++[x]))) A r {D with fls:=D.fls++[p]}:=by
 obtain⟨b,e0,⟨mv,m1,m2⟩,⟨uv,u1,u2⟩,⟨fv',g1,g2⟩,nd⟩:=B
 rw[e]at g1
 cases g1
 have k:=ie (o:= .lst (fv++[x])) e
 obtain⟨_,_,n3,_,n5,n6⟩:=Ad.ne nd
 exact⟨by rw[eT (jm b e (fun h=>nomatch h))];exact b,by rw[eT n3];exact e0,⟨mv,by rw[eT n5];exact m1,m2.imp fun _ _=>rQ.mono k⟩,⟨uv,by rw[eT n6];exact u1,u2.imp fun _ _=>pK.mono k⟩,⟨_,eO,by rw[bC];exact(g2.mono k.tk).app (.cons (hx.mono k.tk) .nil)⟩,nd⟩
theorem Bw.out {c:Cs} {H:Hp} {A:Ad} {r:V} {D:Bd} (B:Bw c H A r D) {a:Addr} (h:H a=none):a∉A.ls:=fun m=>by
 obtain⟨b,e0,⟨mv,m1,m2⟩,⟨uv,u1,u2⟩,⟨fv,e3,_⟩,nd⟩:=B
 simp only[Ad.ls,aj,bj,or_false]at m
 rcases m with rfl|rfl|rfl|rfl
 ·rw[h]at e0;cases e0
 ·rw[h]at m1;cases m1
 ·rw[h]at u1;cases u1
 ·rw[h]at e3;cases e3
theorem Dw.out {H:Hp} {A:Ad} {D:Bd} (B:Dw H A D) {a:Addr} (h:H a=none):a∉A.ls:=fun m=>by
 obtain⟨b,nb,e0,⟨mv,m1,m2⟩,⟨uv,u1,u2⟩,⟨fv,e3,_⟩,nd⟩:=B
 simp only[Ad.ls,aj,bj,or_false]at m
 rcases m with rfl|rfl|rfl|rfl
 ·rw[h]at e0;cases e0
 ·rw[h]at m1;cases m1
 ·rw[h]at u1;cases u1
 ·rw[h]at e3;cases e3
inductive Pm where
 |num
 |any
 |fn (i o:Nat)
 |rcd (l:List (Str×Nat))
 |tag (w:Str) (o:Nat)
 |row (o:Nat)
inductive Pu where
 |num
 |call (o i:Nat)
 |take (l:List (Str×Nat))
 |case (l:List (Str×Nat))
 |row (i:Nat)
def mvL (b:Nat) (l:List (Str×Nat)):List (Str×Int):=l.map fun p=>(p.1,(b:Int)+(p.2:Int))
def nI (n:Nat):Dt:=iD (n:Int)
def prN (l:List (Str×Nat)):Dt:= .tup (l.map fun p=> .tup [sD p.1,nI p.2])
def Pm.sh:Pm->Str
 | .num=>"num"
 | .any=>"any"
 | .fn _ _=>"fn"
 | .rcd _=>"rec"
 | .tag _ _=>"tag"
 | .row _=>"row"
def Pm.rest:Pm->List Dt
 | .num=>[]
 | .any=>[]
 | .fn i o=>[nI i,nI o]
 | .rcd l=>[prN l]
 | .tag w o=>[sD w,nI o]
 | .row o=>[nI o]
def Pm.d (m:Pm):Dt:= .tup (sD m.sh::m.rest)
def Pm.ok (no ni:Nat):Pm->Prop
 | .fn i o=>i<ni/\o<no
 | .rcd l=>l.length<=4/\∀p∈l,p.2<no
 | .tag _ o=>o<no
 | .row o=>o<no
 |_=>True
def Pm.parts (b i:Nat):Pm->Dt
 | .num=> .tup []
 | .any=> .tup []
 | .fn x o=> .tup [iD ((i:Int)+(x:Int)),iD ((b:Int)+(o:Int))]
 | .rcd l=>prD (mvL b l)
 | .tag w o=> .tup [sD w,iD ((b:Int)+(o:Int))]
 | .row o=> .tup [iD ((b:Int)+(o:Int))]
def Pu.sh:Pu->Str
 | .num=>"num"
 | .call _ _=>"call"
 | .take _=>"take"
 | .case _=>"case"
 | .row _=>"row"
def Pu.rest:Pu->List Dt
 | .num=>[]
 | .call o i=>[nI o,nI i]
 | .take l=>[prN l]
 | .case l=>[prN l]
 | .row i=>[nI i]
def Pu.d (u:Pu):Dt:= .tup (sD u.sh::u.rest)
def Pu.ok (no ni:Nat):Pu->Prop
 | .num=>True
 | .call o i=>o<no/\i<ni
 | .take l=>l.length<=4/\∀p∈l,p.2<ni
 | .case l=>l.length<=4/\∀p∈l,p.2<ni
 | .row i=>i<ni
def Pu.us (b i:Nat) (a p:Int):Pu->Us
 | .num=> .num a p 0
 | .call o x=> .call a p 0 ((b:Int)+(o:Int)) ((i:Int)+(x:Int))
 | .take l=> .take a p 0 (mvL i l)
 | .case l=> .case a p 0 (mvL i l)
 | .row x=> .row a p 0 ((i:Int)+(x:Int))
structure Pp where
 outs:List (List Pm)
 ins:List (List Pu)
 fls:List (Nat×Nat)
structure Pp.ok (P:Pp):Prop where
 o1:1<=P.outs.length
 o8:P.outs.length<=8
 i8:P.ins.length<=8
 om:∀l∈P.outs,l.length<=64/\∀m∈l,m.ok P.outs.length P.ins.length
 iu:∀l∈P.ins,l.length<=64/\∀u∈l,u.ok P.outs.length P.ins.length
 ff:P.fls.length<=64/\∀p∈P.fls,p.1<P.ins.length/\p.2<P.outs.length
end KK.Internal
namespace L2.Internal
open PySem PySem.Spec PyProof.Rows
section
variable {X:Cx}
end
section
variable {prog:Program} {w:World} {A:Around} {s:Shared}
end
section
variable {X:Cx}
end
section
variable {X:Cx}
end
section
variable {prog:Program} {w:World} {A:Around} {E:Value->Shared->Prop} {h:Heap} {g:Array GenState} {d:Drawn} {t:Nat} {os:OsState} {a D:Addr} {o:Obj} {K:PySem.W.Frag}
structure XCls (K:PySem.W.Frag) (D:Addr):Prop where
 ga:cH K (.ref D) "__getattribute__"=some (some (.builtin "BaseException.__getattribute__"))
 gn:cH K (.ref D) "__getattr__"=some none
 cl:cH K (.ref D) "__class__"=some (some (.builtin "object.__class__"))
 sb:PySem.W.subIn K (.ref D) (.type "BaseException")=some true
 so:PySem.W.subIn K (.ref D) (.type "object")=some true
 is:cG K D=true
end
section
variable {X:Cx}
end
open Sem (wp)
def DK (h h':Heap):Prop:=∀b o,h.get? b=some o->∃o',h'.get? b=some o'/\o'.dict=o.dict/\o'.cls=o.cls
theorem DK.trans {h h1 h2:Heap} (a:DK h h1) (b:DK h1 h2):DK h h2:=fun x o e=>by
 obtain⟨o1,e1,d1,c1⟩:=a x o e
 obtain⟨o2,e2,d2,c2⟩:=b x o1 e1
 exact⟨o2,e2,d2.trans d1,c2.trans c1⟩
section
variable {prog:Program} {w:World} {A:Around} {E:Value->Shared->Prop} {h:Heap} {g:Array GenState} {d:Drawn} {t:Nat} {os:OsState} {a D dx:Addr} {o:Obj} {K:PySem.W.Frag} {name:Str} {v:Value} {mA:Str->Option Value}
end
open Builtin Builtin.ObjectAttr
section
variable {prog:Program} {w:World} {A:Around} {E:Value->Shared->Prop} {h:Heap} {g:Array GenState} {d:Drawn} {t:Nat} {os:OsState} {a D dx:Addr} {o:Obj} {K:PySem.W.Frag} {name:Str} {v:Value} {mA:Str->Option Value} {cd:ClassData} {vs:Array Value}
structure XSto (K:PySem.W.Frag) (D:Addr):Prop where
 xc:XCls K D
 sa:cH K (.ref D) "__setattr__"=some (some (.builtin "object.__setattr__"))
 mro:∃cd,PySem.W.clsIn K D=some cd/\cd.hasDict=true/\∀self,refuseLoop self "__setattr__" cd.mro=pure ()
end
section
variable {prog:Program} {w:World} {A:Around} {E:Value->Shared->Prop} {h:Heap} {g:Array GenState} {d:Drawn} {t:Nat} {os:OsState}
variable {nm q:Str} {C N:Addr} {bs bm bmB:List Value} {hdct:Bool} {sn:List Str} {sub:List Value} {ab:Bool} {col:Option Bool} {dd:Option Addr} {k0 k1 k2 k3 k5:Option Value} {B newId initId:String}
end
section
variable {prog:Program} {w:World} {A:Around} {E:Value->Shared->Prop} {s:Shared} {env:Env}
variable {nm q:Str} {C N:Addr} {bs bm bmB:List Value} {hdct:Bool} {sn:List Str} {sub:List Value} {ab:Bool} {col:Option Bool} {dd:Option Addr} {k0 k1 k2 k3 k5:Option Value} {B newId initId:String}
end
section
variable {P:Program} {w:World} {H:Hp} {h:Heap} {a C dx:Addr}
end
section
variable {X:Cx} {pz:List (Addr×Obj)} {σ:St} {H:Hp} {s:Shared} {A:Around} {E:Value->Shared->Prop} {a C dx:Addr} {f:Str} {fs:List (Str×V)}
end
section
variable {X:Cx} {o value e:Expr} {ta tv:TE} {f:Str} {pos pos':Pos}
end
section
variable {P:Program} {w:World} {K:PySem.W.Frag} {mg:Str->Option Value} {base:Heap} {N:List Str} {qual:Str} {scope:Scope} {f:Addr} {cd:Value} {A:Around} {outer:List Env} {s₀:Shared} {H₀:Hp} {E:XK}
end
structure ExcI (K:PySem.W.Frag) (C fI:Addr):Prop where
 at_:∃bm N nm q bs hdct sn sub ab col dd k0 k1 k2 k3 k5,K.lookup C=some (excClassObj nm q C N bs bm hdct sn sub ab col dd k0 k1 k2 k3 k5 "ValueError.__new__")/\PySem.W.nsOkIn K N=true/\dB K N "__init__"=some (some (.ref fI))/\PySem.W.tailIn K VEbm bm=true
 fn:∃oI,K.lookup fI=some oI/\oI.cls= .type "function"
section
variable {X:Cx} {C fI:Addr} {E:XK} {x:Str} {np cpos pos:Pos} {e:Expr} {es:List Expr} {t:TA} {k:Nat} {fd:FuncData} {ps:List Str} {sp:Sp}
end
section
variable {X:Cx} {Y:Addr} {y n:Str} {py hpos:Pos} {b₀:Stmt} {body:List Stmt} {tb:TS} {i:Nat}
variable {k j:Nat} {f:Addr} {fd:FuncData} {ps:List Str} {sp:Sp} {dvs:List V} {ds:List Value} {x v:Str} {p pv pos pos' tpos:Pos} {e:Expr} {es:List Expr} {t:TA}
end
open Builtin Builtin.ObjectAttr
section
variable {K:PySem.W.Frag} {C fI N:Addr} {nm q:Str} {bs bm:List Value} {sn:List Str} {sub:List Value} {ab:Bool} {col:Option Bool} {dd:Option Addr} {k0 k1 k2 k3 k5:Option Value} {oI:Obj}
end
section
variable {P:Program} {w:World} {K:PySem.W.Frag} {mg:Str->Option Value} {base:Heap}
end
section
variable {prog:Program} {w:World} {A:Around} {E:Value->Shared->Prop} {s:Shared}
end
section
variable {X:Cx}
end
section
variable {X:Cx}
end
section
variable {P:Program} {w:World} {K:PySem.W.Frag} {mg:Str->Option Value} {base:Heap} {N:List Str} {qual:Str} {scope:Scope} {f:Addr} {cd:Value} {A:Around} {outer:List Env} {s₀:Shared} {H₀:Hp} {E:XK}
end
section
variable {X:Cx} {i:Nat} {Y:Addr} {y n:Str} {py hpos:Pos} {b₀:Stmt} {body:List Stmt} {tb:TS}
variable {k:Nat} {f:Addr} {fd:FuncData} {ps:List Str} {sp:Sp} {dvs:List V} {ds:List Value} {x:Str} {p pos pos' tpos:Pos} {e:Expr} {es:List Expr} {t:TA}
end
section
variable {X:Cx}
end
section
variable {X:Cx} {CX:CXT} {k:Nat} {E:XK} {c e:Expr} {es:List Expr} {tc:TE} {t:TA} {pos:Pos} {S:Addr->Sp->Prop}
def G7 (X:Cx) (CX:CXT) (k:Nat) (f:Addr) (sp:Sp):Prop:=∃fd ps,qu X.prog X.w X.K X.mg X.base CX k f fd ps sp/\cR X.K (.ref f)=true/\lX X.K fd ps []
def D8 (S:Addr->Sp->Prop) (E:XK) (tc:TE) (t:TA):TE:=fun σ H Q=>tc σ H fun x H1=>∃f sp,x= .ref f/\S f sp/\t σ H1 fun vs H2=>sp vs H2 Q E
theorem z7 (hS:∀f sp,S f sp->G7 X CX k f sp) (hr:k8 k X.A) (hx:lZ CX X E) (hc:PE X c tc) (ha:PA X (e::es) t)
  (hq:autoParam (eval (.Call c (e::es) [] pos) X.env=(do callWith pos (<-eval c X.env) [] (backTo pos (starEach (e::es) X.env)) (backToKw pos (keywordEach [] X.env)))) L2.Internal.auR._auto_1)
  (he:autoParam (starEach (e::es) X.env=(false,eval e X.env)::starEach es X.env) L2.Internal.auR._auto_1) (hpl:autoParam ((backTo pos (starEach es X.env)).any (·.1)=false) L2.Internal.auR._auto_1):
  PE X (.Call c (e::es) [] pos) (D8 S E tc t):=by
 intro pz s σ H Q I h
 rw[hq]
 refine wpAny_bind (thn (hc pz s σ H _ I h) fun u s1 ⟨v,H1,I1,r1,f,sp,e1,hs,q1⟩=>?_)
 subst e1
 obtain rfl:u=Value.ref f:=r1
 obtain⟨fd,ps,F,hk,hb⟩:=hS f sp hs
 refine di (h₀:=X.base) I1.ok.mod.kin hk (thn (ha pos pz s1 σ H1 _ I1 q1) fun us s2 ⟨vs,H2,I2,r,q⟩=>⟨I2.kIn,?_⟩) he hpl
 exact sQ F hr hb .nil hx I2 r (by rw[aC];exact q)
end
section
open PySem.SeqAt
open PySem.AutoSeq1 (wpAny_loadPart')
open PySem.MeetsSeq PySem.MeetsSeq2 PySem.MeetsSeq3
end
section
variable {X:Cx}
end
theorem pO (f:Nat->Int):∀n,argBest (fun i j=>decide (f i>f j)) n<=n/\∀k,k<=n->f k<=f (argBest (fun i j=>decide (f i>f j)) n)
 |0=>⟨cb _,fun k hk=>by
   have:k=0:=by lia
   subst this
   exact d7 _⟩
 |n+ 1=>by
  obtain⟨h1,h2⟩:=pO f n
  rw[argBest]
  by_cases h:f (n+ 1)>f (argBest (fun i j=>decide (f i>f j)) n)
  ·rw[fY (gQ h)]
   refine⟨cb _,fun k hk=>?_⟩
   by_cases e:k=n+ 1
   ·rw[e];exact d7 _
   ·have:=h2 k (by lia)
    lia
  ·rw[fN (by simpa using h)]
   refine⟨by lia,fun k hk=>?_⟩
   by_cases e:k=n+ 1
   ·rw[e];lia
   ·exact h2 k (by lia)
section
variable {X:Cx}
theorem yt (hc:X.calm=true):nK X (.builtin "max") (fun xs H Q=>∃(a:Addr) (ns:List Int),xs=[.ref a]/\SqL X.K H a (ns.map V.int)/\ns≠[]/\∀n,n∈ns->(∀m∈ns,m<=n)->Q (.int n) H):=by
 intro pz s σ H xs us Q I r h
 obtain⟨a,ns,rfl,hq,hn,q⟩:=h
 obtain⟨u,rfl,ru⟩:=pB r
 cases ru
 obtain⟨its,rv,p,hz⟩:=I.list hq
 obtain⟨zs,e⟩:=(qY rv).allInts.items
 have l:=p.isList
 have hlen:=rv.length
 rw[aB]at hlen
 have hsz:zs.size=ns.length:=by
  have h1:=congrArg Array.size e
  simp only[intItems,ax,Array.size_map]at h1
  lia
 have hnum:∀j,j<ns.length->numAt zs j=ns.getD j 0:=fun j hj=>by
  have h1:its.toArray[j]?=(intItems zs)[j]?:=by rw[e]
  obtain⟨v,hv,rv'⟩:=rv.get (show(ns.map V.int)[j]?=some (.int ns[j]) by rw[aJ,ba hj];rfl)
  obtain⟨t,rfl⟩:=rv'
  rw[bz,hv]at h1
  obtain⟨t2,e2⟩:=intItems_at h1.symm
  injection e2 with e2 _
  rw[<-e2,bp,ba hj]
  rfl
 have e3:0<ns.length:=List.length_pos_iff.mpr hn
 rw[e]at l
 refine max_intList (I.ok.hd hc) l (by lia) fun v h' tk hv hk=>?_
 obtain⟨t,rfl⟩:=intItems_at hv
 obtain⟨b1,b2⟩:=pO (numAt zs) (zs.size-1)
 refine⟨.int _,H,I.kept (t':=tk) hk,⟨_,rfl⟩,q _ ?_ fun m hm=>?_⟩
 ·rw[hnum _ (by lia),bp,ba (by lia)]
  exact List.getElem_mem _
 ·obtain⟨j,hj⟩:=bD.mp hm
  have hjl:=(aq.mp hj).1
  have:=b2 j (by lia)
  rw[hnum j hjl,bp,hj]at this
  exact this
end
section
variable {X:Cx}
def yu (K:PySem.W.Frag):V->List V->Hp->VK->Prop:=fun x vs H Q=>∃(l:Addr) (ns:List Int) (n:Int) (j:Nat),x= .ref l/\vs=[.int n]/\SqL K H l (ns.map V.int)/\ns.length<=1000/\ns[j]?=some n/\(∀m:Nat,m<j->ns[m]?≠some n)/\Q (.int (j:Int)) H
def isInt (n:Int):Value->Bool
 | .int i _=>decide (i=n)
 |_=>false
theorem yv {k:Nat} (hr:k8 k X.A):MtR X "list.index" (yu X.K):=by
 intro pz s σ H x vs v us Q I rx rv h
 obtain⟨l,ns,n,j,rfl,rfl,hq,hl,hj,hno,q⟩:=h
 cases rx
 obtain⟨u,rfl,ru⟩:=rv.one
 have hu:=hr.un
 have sl0:sizeLine=16777216:=sizeLine_eq
 obtain⟨its,r,pl,hz⟩:=I.list hq
 have lz:=r.length
 rw[aB]at lz
 have hjl:=(aq.mp hj).1
 obtain⟨⟨cls,dd,data,sl⟩,ho,hcl,n',hd⟩:=id pl.isList
 simp only at hcl hd
 subst hcl hd
 have rel:∀(i:Nat) (hi:i<its.length),∃z t,ns[i]?=some z/\its[i]=Value.int z t:=fun i hi=>by
  obtain⟨z,hz⟩:∃z,ns[i]?=some z:=⟨_,ba (by lia)⟩
  obtain⟨w,hw,rw'⟩:=r.get (show(ns.map V.int)[i]?=some (.int z) by rw[aJ,hz];rfl)
  rw[ba hi]at hw
  cases hw
  obtain⟨t,et⟩:=rw'
  exact⟨z,t,hz,et⟩
 refine call_meets dI ⟨_,ho,rfl⟩ PySem.F.entry_list_index (PySem.F.args_list_index_2 _ _)
  (SeqAt.list_indexAt l its.toArray n' dd sl u (isInt n) j (by rw[ax];lia) (by lia) ?_ ?_) ⟨ho,fun w hw=>?_,⟨.int (j:Int),H,I.tok _,⟨_,rfl⟩,q⟩⟩
 ·obtain⟨z,t,hz1,hz2⟩:=rel j (by lia)
  rw[hj]at hz1
  cases hz1
  show isInt n its[j]=true
  rw[hz2]
  exact gQ rfl
 ·intro m hm hmj
  rw[ax]at hm
  obtain⟨z,t,hz1,hz2⟩:=rel m hm
  show isInt n its[m]=false
  rw[hz2]
  refine gA fun e=>hno m hmj ?_
  rw[hz1,e]
 ·have hw':w∈its:=by simpa using hw
  obtain⟨i,hi,rfl⟩:=List.getElem_of_mem hw'
  obtain⟨z,t,hz1,hz2⟩:=rel i hi
  have rz:gR (.int z) its[i]:=⟨t,hz2⟩
  have:=D7 I 100 X.A.in1 rz ru (At.flat (K:=X.K) rfl) (At.flat rfl) rfl rfl (by simp[jb]) (by show X.A.units+ 1+ 100<cLine;lia)
  have e:isInt n its[i]=eqD (.flat (.int z)) (.flat (.int n)):=by
   rw[hz2]
   show decide (z=n)=_
   rw[eqD]
   show decide (z=n)=(z==n)
   rw[dR]
   simp
  rw[e]
  exact this
end
section
variable {X:Cx}
end
section
variable {X:Cx}
end
end L2.Internal
namespace HT.Internal
open PySem PySem.Spec PyProof.Rows L2.Internal
section
variable {prog:Program} {w:World} {A:Around} {E:Value->Shared->Prop} {s:Shared}
theorem getItem_tuple_whole {t sl:Addr} {items:Array Value} {vl vu:Value} {lo hi:Option Int} {Q:Value->Shared->Prop} (ht:IsTup s.heap t items) (hs:s.heap.IsSliceOf sl vl vu .none) (pl:IsPart vl lo) (pu:IsPart vu hi)
  (hw:sIx items.size 0 lo=0/\sIx items.size items.size hi=items.size) (h:Q (.ref t) s):wpAny (model prog w) A (getItem (.ref t) (.ref sl)) Q E s:=by
 obtain⟨os,hos,hcs,hds⟩:=id hs
 have hTs:s.TypeIs (.ref sl) "slice":=⟨os,hos,hcs⟩
 unfold getItem
 try with_reducible refine wpAny_holding ?_
 first|refine wpAny_bind (wpAny_pure ?_)|skip
 refine wpAny_bind (wpAny_sequenceKey ht.typeIs (by decide) ?_)
 refine wpAny_bind (wpAny_callSpecial?_slot (name:=Str.ofString "__getitem__") ht.typeIs eM
  (wpAny_call_entry eM ht.typeIs entry_tuple_getitem ?_ (args_tuple_getitem _ _)))
 show wpAny _ _ (Builtin.Tuple.tupleItemsOf (.ref t) >>= _) _ _ s
 refine wpAny_bind (tupleItemsOf_ ht ?_)
 refine wpAny_bind (wpAny_typeOf hTs ?_)
 rw[fY (by decide)]
 refine wpAny_bind (kU hs pl pu ?_)
 show wpAny _ _ (if(((sIx items.size 0 lo:Nat):Int)==0&&(1:Int)==1&&(sIx items.size items.size hi-sIx items.size 0 lo)==items.size)=true then _ else _) _ _ s
 rw[hw.1,hw.2,fY (by simp)]
 refine wpAny_bind ?_
 unfold Builtin.Tuple.tupleIsExact
 refine wpAny_bind (wpAny_typeOf ht.typeIs (wpAny_pure ?_))
 rw[fY (by decide)]
 exact wpAny_bind (wpAny_rule (wpAny_pure ⟨_,rfl,wpAny_pure h⟩))
end
end HT.Internal
namespace L2.Internal
open PySem PySem.Spec PyProof.Rows
section
variable {X:Cx}
def G8 (K:PySem.W.Frag):V->Option Int->Option Int->Hp->VK->Prop:=fun x lo hi H Q=>∃a xs,x= .ref a/\SqT K H a xs/\(qA xs lo hi=xs->Q (.ref a) H)/\∀p,H p=none->Q (.ref p) (upd H p (.tup (qA xs lo hi)))
theorem Ce:SlR X (G8 X.K):=by
 intro pz s σ H x v vl vu lo hi sl Q I rx hs pl pu h
 obtain⟨a,xs,rfl,hx,q1,q2⟩:=h
 by_cases hw:HT.Internal.sIx xs.length 0 lo=0/\HT.Internal.sIx xs.length xs.length hi=xs.length
 ·cases rx
  obtain⟨its,r,ht,hz⟩:=I.tuple hx
  have hlen:its.toArray.size=xs.length:=by rw[ax];exact r.length.symm
  refine⟨"tuple",_,eM.lookup,ht.typeIs,?_⟩
  refine HT.Internal.getItem_tuple_whole ht hs pl pu (by rw[hlen];exact hw) ⟨.ref a,_,I,rfl,q1 ?_⟩
  unfold qA
  rw[hw.1,hw.2,List.drop_zero,Nat.sub_zero,bE]
 ·exact DO pz s σ H _ v vl vu lo hi sl Q I rx hs pl pu ⟨a,xs,rfl,hx,hw,q2⟩
end
section
variable {prog:Program} {w:World} {A:Around} {E:Value->Shared->Prop} {s:Shared}
end
section
variable {X:Cx} {pz:List (Addr×Obj)} {σ:St} {H:Hp} {d it t:Addr} {vs:List V} {A:Around} {R:Result->Shared->Prop}
end
section
variable {X:Cx}
def z8 (K:PySem.W.Frag):R2:=fun x y H Q=>∃a b xs ys,x= .ref a/\y= .ref b/\SqT K H a xs/\SqT K H b ys/\xs.length+ys.length<=sizeLine/\
 (xs=[]->Q (.ref b) H)/\(ys=[]->Q (.ref a) H)/\∀p,H p=none->Q (.ref p) (upd H p (.tup (xs++ys)))
theorem rS:OpR X (binaryOp .Add) (z8 X.K):=by
 intro pz s σ H x y v u Q I rx ry h
 obtain⟨a,b,xs,ys,rfl,rfl,ha,hb,hz,q0,q1,q2⟩:=h
 cases rx
 cases ry
 obtain⟨its,r1,p1,_⟩:=I.tuple ha
 obtain⟨its2,r2,p2,_⟩:=I.tuple hb
 by_cases hx:xs=[]
 ·obtain⟨⟨cls,dd,data,sl⟩,ho,hc,n,hd⟩:=id p1
  obtain⟨⟨cls2,dd2,data2,sl2⟩,ho2,hc2,n2,hd2⟩:=id p2
  simp only at hc hd hc2 hd2
  subst hc hd hc2 hd2
  exact concat_meets ⟨_,ho,rfl⟩ ⟨_,ho2,rfl⟩ noFill_tuple_add seq_tuple_add dF dG (dH _ _)
   (tuple_addW0 a b its.toArray its2.toArray n n2 dd dd2 sl sl2 (by simp[r1.nil_iff.mpr hx])) ⟨ho,ho2,.ref b,H,I,rfl,q0 hx⟩
 refine HT.Internal.cat_tup p1 p2 (fun z=>hx (r1.nil_iff.mp z)) (fun z=>⟨.ref a,H,I,rfl,q1 (r2.nil_iff.mp z)⟩) (fun z=>?_) (by rw[<-r1.length,<-r2.length];exact hz)
 refine⟨.ref s.heap.objs.size,_,I.laid (t':=s.toks) (o:= .tup (xs++ys)) (fun b ob q=>eG _ q) (cb _) ?_,rfl,q2 _ (I.hok.fresh (cb _))⟩
 exact⟨by rw[aN];exact hz,_,r1.append r2,uh.new _ _⟩
end
theorem yw {h h':Heap} {j t:Addr} {i:Nat} (g:h.IsTupleIter j t i) (k:∀o,h.get? j=some o->h'.get? j=some o):h'.IsTupleIter j t i:=by
 obtain⟨o,e,r⟩:=g
 exact⟨o,k o e,r⟩
theorem A6 {h h':Heap} {t:Addr} {its:Array Value} (g:h.IsTuple t its) (k:∀o,h.get? t=some o->h'.get? t=some o):h'.IsTuple t its:=by
 obtain⟨o,e,r⟩:=g
 exact⟨o,k o e,r⟩
theorem A7 {prog:Program} {w:World} {A:Around} (hh:A.handled=none) (j t:Addr) (hne:t≠j) (its:Array Value):Draws prog w A j [j,t] its.size (fun i v=>its[i]?=some v) (fun i h=>h.IsTupleIter j t i/\h.IsTuple t its) where
 live:=fun i h ⟨⟨o,e,_⟩,_⟩=>⟨o,e⟩
 frame:=fun i h h' ⟨a,b⟩ k=>⟨yw a fun o e=>k j (by simp) o e,A6 b fun o e=>k t (by simp) o e⟩
 item:=fun i s Q E hi ⟨a,b⟩ k=>rg a b (x:=its[i]) (by simp[hi]) fun h' a' sb=>k its[i] h' s.toks (by simp[hi]) ⟨a',A6 b fun o e=>(sb.2 t hne).trans e⟩ sb
 done:=fun s Q E ⟨a,b⟩ k=>lV hh a b (by simp) k
theorem yx (t:Addr) (its:Array Value) (n:Nat) (dct:Option Addr) (sl:Array (Option Value)):Meets (Builtin.«enumerate.__new__» ⟨[.type "enumerate",.ref t],[]⟩) (fun _ R s=>s.heap.get? t=some {cls:= .type "tuple",dict:=dct,data:= .seq its n,slots:=sl}/\R (.ok (.ret (.ref (s.heap.push {cls:= .type "tuple_iterator",data:= .fields #[.ref t,.int 0 0]}).objs.size))) {s with heap:=(s.heap.push {cls:= .type "tuple_iterator",data:= .fields #[.ref t,.int 0 0]}).push {cls:= .type "enumerate",data:= .fields #[.none,.bool false,.ref s.heap.objs.size,rawInt 0,.none,.none]}}):=Meets.of_wp fun P w A R s ⟨hl,q⟩=>by
 obtain⟨hp,g,d,tk,os⟩:=s
 have hs:=sub_enumerate
 have hT:Heap.IsTuple (Shared.heap ⟨hp,g,d,tk,os⟩) t its:=⟨_,hl,rfl,n,rfl⟩
 wp_walk using AutoSeq1.wpAny_loadPart' hl
 refine wpAny_stack_any fun st=>wpAny_pure ?_
 split
 ·rename_i c _ _ _ _ _
  cases(c==Value.type "enumerate")<;>(wp_walk using AutoSeq1.wpAny_loadPart' hl,wpAny_pyIter_tuple hT)<;>exact⟨_,rfl,q⟩
 ·wp_walk using AutoSeq1.wpAny_loadPart' hl,wpAny_pyIter_tuple hT
  exact⟨_,rfl,q⟩
theorem wI {prog:Program} {w:World} {A:Around} {E:Value->Shared->Prop} {s:Shared} {t:Addr} {its:Array Value} {Q:Value->Shared->Prop} (hT:s.heap.IsTuple t its)
  (q:∀h',IsEnum h' (s.heap.objs.size+ 1) s.heap.objs.size 0 .none->h'.IsTupleIter s.heap.objs.size t 0->h'.objs.size=s.heap.objs.size+ 2->(∀b o,s.heap.get? b=some o->h'.get? b=some o)->Q (.ref (s.heap.objs.size+ 1)) {s with heap:=h'}):wpAny (model prog w) A (call (.type "enumerate") [.ref t]) Q E s:=by
 obtain⟨⟨c,dct,dt,sl⟩,hl,hc,n,hd⟩:=hT
 cases(show c= .type "tuple" from hc)
 cases(show dt= .seq its n from hd)
 refine callType_new F.called_enumerate (by decide) (F.typeCall_enumerate_1 _) (F.newCall_enumerate_1 _) (fun o=>F.args_object_init_2 o _) F.entry_enumerate_new (yx t its n dct sl) ⟨hl,?_⟩
 have hz:(s.heap.push {cls:= .type "tuple_iterator",data:= .fields #[.ref t,.int 0 0]}).objs.size=s.heap.objs.size+ 1:=eI ..
 show _/\_
 rw[hz]
 have he:IsEnum ((s.heap.push {cls:= .type "tuple_iterator",data:= .fields #[.ref t,.int 0 0]}).push {cls:= .type "enumerate",data:= .fields #[.none,.bool false,.ref s.heap.objs.size,rawInt 0,.none,.none]}) (s.heap.objs.size+ 1) s.heap.objs.size 0 .none:=by
  have z:=eF (s.heap.push {cls:= .type "tuple_iterator",data:= .fields #[.ref t,.int 0 0]}) (o:={cls:= .type "enumerate",data:= .fields #[.none,.bool false,.ref s.heap.objs.size,rawInt 0,.none,.none]}) rfl
  rw[hz]at z
  exact z
 exact⟨⟨_,he,rfl⟩,q _ he ⟨_,eG _ (eF _ rfl),rfl,rfl⟩ (by rw[eI,hz]) fun b o x=>eG _ (eG _ x)⟩
def Ea (K:PySem.W.Frag) (a:Addr):It:=
 ⟨fun i H=>∃xs x,SqT K H a xs/\xs[i]?=some x,
   fun i H v H'=>∃T x,v= .ref T/\H T=none/\H'=upd H T (.tup [.int (i:Int),x])/\∀xs,SqT K H a xs->xs[i]?=some x,
   fun i H=>∃xs,SqT K H a xs/\i=xs.length⟩
def EStT (e it a:Addr) (i:Nat) (h:Heap):Prop:=(∃old,IsEnum h e it i old)/\h.IsTupleIter it a i
theorem wJ {P:Program} {w:World} {K:PySem.W.Frag} {es:List Expr} {kk:Nat} {tp:Pos} {a e it:Addr} (h1:e≠it) (h2:a≠e) (h3:a≠it):zL P w K (.Tuple es kk tp) (Ea K a) [e,it] e (EStT e it a) where
 mem:=by simp
 obj:=fun i h st c hc=>by
  obtain⟨⟨old,g1⟩,⟨o4,g4,_,d4⟩⟩:=st
  simp only[aj,bj,or_false]at hc
  rcases hc with q|q<;>subst q
  ·exact⟨_,g1,fun v q=>nomatch q⟩
  ·exact⟨_,g4,fun v q=>by rw[d4]at q;cases q⟩
 keep:=fun i h h' st k=>by
  obtain⟨⟨old,g1⟩,g4⟩:=st
  exact⟨⟨old,k e (by simp) _ g1⟩,(yw g4 fun o q=>k it (by simp) o q)⟩
 item:=by
  intro X hP hw hK hc i pz s σ H E I hf st hg
  subst hP hw hK
  obtain⟨xs,x,qx,ex⟩:=hg
  obtain⟨i1s,r1,p1,z1⟩:=I.tuple qx
  obtain⟨g1,g4⟩:=st
  obtain⟨old,g1'⟩:=g1
  obtain⟨ux,hux,rr1⟩:=r1.get ex
  have lte:e<s.heap.objs.size:=eE g1'
  have lt:i<i1s.toArray.size:=by rw[ax];have:=r1.length;have:=(aq.mp ex).1;lia
  have ne:e∉[it,a]:=fun z=>by simp only[aj,bj,or_false]at z;exact z.elim h1 fun z=>h2 z.symm
  have D:=A7 (prog:=X.prog) (w:=X.w) (A:=X.A.in1) (by exact I.ok.hd hc) it a h3 i1s.toArray
  refine wpAny_pyNext_enum_itemD D g1' ⟨g4,show s.heap.IsTuple a i1s.toArray from p1⟩ lt h1 ne fun ux' k1 tk hP ho hit' hT hsz hk=>?_
  obtain rfl:ux'=ux:=by
   have z:i1s[i]?=some ux':=by simpa using hP
   rw[z]at hux
   exact cx.inj hux
  have kk1:∀c o,c∉[e,it]->s.heap.get? c=some o->k1.get? c=some o:=fun c o hc q=>hk c o (fun z=>hc (by simp[z])) (fun z=>hc (by simp[z])) q
  have J1:Inv X pz σ H {s with heap:=k1,toks:=tk+ 1}:=I.turnedL kk1 hf
  refine⟨.ref s.heap.objs.size,rfl,wpAny_letOwnedTupleGo_enum ho fun k2 he' sb=>?_⟩
  have J2:Inv X pz σ H {s with heap:=k2,toks:=tk+ 1}:=Inv.turnedL (s:={s with heap:=k1,toks:=tk+ 1}) (h':=k2) (t':=tk+ 1) (ch:=[e]) J1 (fun c o hc q=>(sb.2 c (fun z=>hc (by simp[z]))).trans q) fun c hc=>hf c (by simp only[aj,bj,or_false]at hc⊢;simp[hc])
  have ht2:uh k2 s.heap.objs.size #[.int i tk,ux']:=⟨_,(sb.2 _ (b9 lte)).trans hT,rfl,_,rfl,rfl⟩
  obtain⟨fT,J3⟩:=I.pairNew (x:= .int (i:Int)) (cb _) J2 ht2 ⟨tk,rfl⟩ rr1
  refine⟨.ref s.heap.objs.size,_,J3,rfl,⟨_,x,rfl,fT,rfl,fun l hl=>by rw[I.tuple_inj hl qx];exact ex⟩,⟨⟨_,by simpa using he'⟩,yw hit'.1 fun o y=>(sb.2 it h1.symm).trans y⟩,fun c hc=>?_⟩
  rw[eT (fun q=>?_)]
  ·exact(hf c hc).1
  ·have lt:c<s.heap.objs.size:=by
    obtain⟨o4,e4,_⟩:=g4
    simp only[aj,bj,or_false]at hc
    rcases hc with q|q<;>subst q
    ·exact lte
    ·exact eE e4
   exact absurd lt (by rw[q];exact bY _)
 done:=by
  intro X hP hw hK hc i pz s σ H E I hf st hg
  subst hP hw hK
  obtain⟨xs,qx,ei⟩:=hg
  obtain⟨i1s,r1,p1,z1⟩:=I.tuple qx
  obtain⟨g1,g4⟩:=st
  have ne:e∉[it,a]:=fun z=>by simp only[aj,bj,or_false]at z;exact z.elim h1 fun z=>h2 z.symm
  have D:=A7 (prog:=X.prog) (w:=X.w) (A:=X.A.in1) (by exact I.ok.hd hc) it a h3 i1s.toArray
  have W:=WalksT.enumerateD D e h1 ne (by simp)
  have l1:=r1.length
  have q:i=i1s.toArray.size:=by simp only[ax];lia
  subst q
  exact W.done s _ _ ⟨g1,g4,show s.heap.IsTuple a i1s.toArray from p1⟩ fun h1 tk hk=>⟨rfl,I.turnedL hk hf⟩
 self:=fun _ _ _ _ _ st h=>by
  obtain⟨⟨old,g1⟩,_⟩:=st
  exact wpAny_pyIter_enum g1 h
def Eb (K:PySem.W.Frag) (ta:TA):TI:=fun σ H R=>ta σ H fun vs H1=>∃a,vs=[.ref a]/\(∃xs,SqT K H1 a xs)/\R (Ea K a) H1
section
variable {X:Cx}
theorem z9 {es:List Expr} {kk:Nat} {tp:Pos} {a:Expr} {ta:TA} {p pos:Pos} (hg:Gl X "enumerate") (hm:X.mg "enumerate"=none) (ha:PA X [a] ta) (hs:autoParam (starEach [a] X.env=[(false,eval a X.env)]) L2.Internal.auR._auto_1):
  PI X (.Tuple es kk tp) (.Call (.Name "enumerate" p) [a] [] pos) (Eb X.K ta):=by
 intro pz s σ H R I h
 refine Call_ (mZ I hg hm oF (eL (thn (ha pos pz s σ H _ I h) fun us s1 ⟨vs,H1,I1,r1,q1⟩=>?_) hs rfl))
 obtain⟨l1,e,⟨xs,q1⟩,q⟩:=q1
 subst e
 obtain⟨u,rfl,ru⟩:=pB r1
 cases ru
 obtain⟨i1s,w1,p1,z1⟩:=I1.tuple q1
 have o1:@LT.lt Nat _ l1 s1.heap.objs.size:=SqT.old I1 q1
 refine wI (show s1.heap.IsTuple l1 i1s.toArray from p1) fun h1 hE hi1 hsz hk=>wpAny_pyIter_enum hE ?_
 refine⟨_,_,_,_,H1,rfl,I1.kept (t':=s1.toks) hk,wJ (fun(h:@Eq Nat _ _)=>by lia) (fun(h:@Eq Nat _ _)=>by lia) (fun(h:@Eq Nat _ _)=>by lia),⟨⟨_,hE⟩,hi1⟩,fun c hc=>?_,q⟩
 have ge:s1.heap.objs.size<=c:=by
  simp only[aj,bj,or_false]at hc
  rcases hc with h|h<;>rw[h]<;>first|exact cb _|exact cf _ _
 exact I1.fpOk ge (I1.hok.fresh ge)
end
section
variable {prog:Program} {w:World} {A:Around} {E:Value->Shared->Prop} {s:Shared}
theorem Cf {z TI TO j1 j2 t1 t2:Addr} {k1 k2:Nat} {xs ys:Array Value} {x y a b:Value} {Q:Value->Shared->Prop} (D:ZipApart z TI TO j1 j2 t1 t2)
  (gz:IsZip s.heap z TI TO .none) (gI:IsPair s.heap TI (.ref j1) (.ref j2)) (gO:IsPair s.heap TO a b)
  (g1:s.heap.IsTupleIter j1 t1 k1) (g2:s.heap.IsListIter j2 t2 k2) (d1:s.heap.IsTuple t1 xs) (d2:s.heap.IsList t2 ys) (ex:xs[k1]?=some x) (ey:ys[k2]?=some y)
  (k:∀h',IsZip h' z TI TO (rawInt s.heap.objs.size)->IsPair h' TO x y->h'.IsTupleIter j1 t1 (k1+ 1)->h'.IsListIter j2 t2 (k2+ 1)->IsPair h' s.heap.objs.size x y->h'.objs.size=s.heap.objs.size+ 1->
   (∀c o,c≠z->c≠TO->c≠j1->c≠j2->s.heap.get? c=some o->h'.get? c=some o)->Q (.ref s.heap.objs.size) {s with heap:=h'}):
  wpAny (model prog w) A (Builtin.«zip.__next__» ⟨[.ref z],[]⟩) (fun fin s'=>∃v,fin= .done (.ret v)/\Q v s') E s:=by
 show wpAny _ _ (field (.ref z) 2 >>= _) _ _ _
 refine wpAny_bind (wpAny_field gz rfl (x:= .bool false) rfl ?_)
 show wpAny _ _ (field (.ref z) 3 >>= _) _ _ _
 refine wpAny_bind (wpAny_field gz rfl (x:= .ref TI) rfl ?_)
 refine wpAny_bind (wpAny_seqItems gI rfl ?_)
 show wpAny _ _ (Builtin.SmallTypes.ownedTupleIsFree (.ref z) >>= _) _ _ _
 refine wpAny_bind ?_
 unfold Builtin.SmallTypes.ownedTupleIsFree
 refine wpAny_bind (wpAny_field gz rfl (x:= .none) rfl (wpAny_pure ?_))
 simp only[if_true]
 refine wpAny_bind (wpAny_rule (wpAny_bind (wpAny_field gz rfl (x:= .ref TO) rfl ?_)))
 refine wpAny_bind (wpAny_setField_rec gz (by simp) fun q1 gz1 b1=>?_)
 replace gz1:IsZip q1 z TI TO .ellipsis:=gz1
 refine wpAny_bind ?_
 simp only[bq,br,bt,bw]
 refine wpAny_bind (wpAny_bind (wpAny_onRaise ?_))
 show wpAny _ _ (Builtin.SmallTypes.nextOf (.ref j1) >>= _) _ _ _
 refine wpAny_bind (rg (g1.extBut b1.extBut D.i1z) (d1.extBut b1.extBut D.l1z) ex fun q2 g12 b2=>wpAny_pure ?_)
 have gO2:IsPair q2 TO a b:=b2.extBut _ _ D.TOi1 (b1.extBut _ _ D.TOz gO)
 refine wpAny_bind (wpAny_seqItems gO2 rfl (wpAny_bind (wpAny_updateSeq_pair gO2 fun q3 gO3 b3=>?_)))
 replace gO3:IsPair q3 TO x b:=gO3
 refine wpAny_bind (wpAny_letGo (wpAny_pure (wpAny_bind (wpAny_bind (wpAny_onRaise ?_)))))
 show wpAny _ _ (Builtin.SmallTypes.nextOf (.ref j2) >>= _) _ _ _
 refine wpAny_bind (wpAny_nextOf_list_item (((g2.extBut b1.extBut D.i2z).extBut b2.extBut D.i12.symm).extBut b3.extBut D.TOi2.symm) (((d2.extBut b1.extBut D.l2z).extBut b2.extBut D.l2i1).extBut b3.extBut D.l2TO) ey fun q4 g24 b4=>wpAny_pure ?_)
 have gO4:IsPair q4 TO x b:=b4.extBut _ _ D.TOi2 gO3
 refine wpAny_bind (wpAny_seqItems gO4 rfl (wpAny_bind (wpAny_updateSeq_pair gO4 fun q5 gO5 b5=>?_)))
 replace gO5:IsPair q5 TO x y:=gO5
 refine wpAny_bind (wpAny_letGo (wpAny_pure (wpAny_pure (wpAny_bind (wpAny_seqItems gO5 rfl (wpAny_bind (wpAny_newTuple ?_)))))))
 have sz:q5.objs.size=s.heap.objs.size:=by rw[b5.1,b4.1,b3.1,b2.1,b1.1]
 have gz5:IsZip q5 z TI TO .ellipsis:=b5.extBut _ _ D.TOz.symm (b4.extBut _ _ D.i2z.symm (b3.extBut _ _ D.TOz.symm (b2.extBut _ _ D.i1z.symm gz1)))
 have kp5:∀c o,c≠z->c≠TO->c≠j1->c≠j2->s.heap.get? c=some o->q5.get? c=some o:=fun c o n1 n2 n3 n4 e=>
  b5.extBut _ _ n2 (b4.extBut _ _ n4 (b3.extBut _ _ n2 (b2.extBut _ _ n3 (b1.extBut _ _ n1 e))))
 have g15:q5.IsTupleIter j1 t1 (k1+ 1):=((g12.extBut b3.extBut D.TOi1.symm).extBut b4.extBut D.i12).extBut b5.extBut D.TOi1.symm
 have g25:q5.IsListIter j2 t2 (k2+ 1):=g24.extBut b5.extBut D.TOi2.symm
 have zlt:z<q5.objs.size:=eE gz5
 show wpAny _ _ (Builtin.SmallTypes.ownedTupleHandOut (.ref z) (.ref q5.objs.size) >>= _) _ _ _
 refine wpAny_bind ?_
 unfold Builtin.SmallTypes.ownedTupleHandOut
 have gz6:IsZip (q5.push {cls:= .type "tuple",data:= .seq #[x,y]}) z TI TO .ellipsis:=eG _ gz5
 refine wpAny_bind (wpAny_setField_rec gz6 (by simp) fun q7 gz7 b7=>?_)
 replace gz7:IsZip q7 z TI TO (rawInt q5.objs.size):=gz7
 refine wpAny_setField_rec gz7 (by simp) fun q8 gz8 b8=>?_
 replace gz8:IsZip q8 z TI TO (rawInt q5.objs.size):=gz8
 have up:∀c o,c≠z->q5.get? c=some o->q8.get? c=some o:=fun c o n1 e=>b8.extBut _ _ n1 (b7.extBut _ _ n1 (eG _ e))
 have gT8:IsPair q8 q5.objs.size x y:=b8.extBut _ _ (b9 zlt) (b7.extBut _ _ (b9 zlt) (eF _ rfl))
 have sz8:q8.objs.size=q5.objs.size+ 1:=by rw[b8.1,b7.1,eI]
 rw[sz]at gz8 gT8 sz8
 refine wpAny_pure ⟨_,rfl,?_⟩
 show Q (.ref q5.objs.size) _
 rw[sz]
 refine k q8 gz8 (up _ _ D.TOz gO5) ?_ ?_ gT8 sz8 fun c o n1 n2 n3 n4 e=>up c o n1 (kp5 c o n1 n2 n3 n4 e)
 ·obtain⟨o,e,r⟩:=g15;exact⟨o,up _ o D.i1z e,r⟩
 ·obtain⟨o,e,r⟩:=g25;exact⟨o,up _ o D.i2z e,r⟩
theorem Ec {z TI TO j1 j2 t1 t2:Addr} {k1 k2:Nat} {xs ys:Array Value} {a b:Value} {Q:Fin->Shared->Prop} (hh:A.handled=none) (D:ZipApart z TI TO j1 j2 t1 t2)
  (gz:IsZip s.heap z TI TO .none) (gI:IsPair s.heap TI (.ref j1) (.ref j2)) (gO:IsPair s.heap TO a b)
  (g1:s.heap.IsTupleIter j1 t1 k1) (g2:s.heap.IsListIter j2 t2 k2) (d1:s.heap.IsTuple t1 xs) (d2:s.heap.IsList t2 ys) (hend:xs[k1]?=none\/ys[k2]?=none)
  (k:∀h' e,(∀c o,c≠z->c≠TO->c≠j1->c≠j2->s.heap.get? c=some o->h'.get? c=some o)->(∃o,h'.get? e=some o/\o.cls= .type "StopIteration")->E (.ref e) {s with heap:=h'}):
  wpAny (model prog w) A (Builtin.«zip.__next__» ⟨[.ref z],[]⟩) Q E s:=by
 show wpAny _ _ (field (.ref z) 2 >>= _) _ _ _
 refine wpAny_bind (wpAny_field gz rfl (x:= .bool false) rfl ?_)
 show wpAny _ _ (field (.ref z) 3 >>= _) _ _ _
 refine wpAny_bind (wpAny_field gz rfl (x:= .ref TI) rfl ?_)
 refine wpAny_bind (wpAny_seqItems gI rfl ?_)
 show wpAny _ _ (Builtin.SmallTypes.ownedTupleIsFree (.ref z) >>= _) _ _ _
 refine wpAny_bind ?_
 unfold Builtin.SmallTypes.ownedTupleIsFree
 refine wpAny_bind (wpAny_field gz rfl (x:= .none) rfl (wpAny_pure ?_))
 simp only[if_true]
 refine wpAny_bind (wpAny_rule (wpAny_bind (wpAny_field gz rfl (x:= .ref TO) rfl ?_)))
 refine wpAny_bind (wpAny_setField_rec gz (by simp) fun q1 gz1 b1=>?_)
 replace gz1:IsZip q1 z TI TO .ellipsis:=gz1
 refine wpAny_bind ?_
 simp only[bq,br,bt,bw]
 refine wpAny_bind (wpAny_bind (wpAny_onRaise ?_))
 show wpAny _ _ (Builtin.SmallTypes.nextOf (.ref j1) >>= _) _ _ _
 cases ex:xs[k1]? with
 |none=>
  refine wpAny_bind (lV hh (g1.extBut b1.extBut D.i1z) (d1.extBut b1.extBut D.l1z) ex fun q2 e b2 he=>?_)
  obtain⟨oe,hoe,hce⟩:=he
  have gz2:IsZip q2 z TI TO .ellipsis:=b2 _ _ D.i1z.symm gz1
  have nz:e≠z:=fun q=>by subst q;rw[gz2]at hoe;cases hoe;simp at hce
  refine wpAny_setField_rec gz2 (by simp) fun q3 _ b3=>k q3 e (fun c o n1 _ n3 _ q=>b3.extBut _ _ n1 (b2 _ _ n3 (b1.extBut _ _ n1 q))) ⟨oe,b3.extBut _ _ nz hoe,hce⟩
 |some x=>
  have ey:ys[k2]?=none:=hend.elim (fun q=>by rw[ex]at q;cases q) id
  refine wpAny_bind (rg (g1.extBut b1.extBut D.i1z) (d1.extBut b1.extBut D.l1z) ex fun q2 g12 b2=>wpAny_pure ?_)
  have gO2:IsPair q2 TO a b:=b2.extBut _ _ D.TOi1 (b1.extBut _ _ D.TOz gO)
  refine wpAny_bind (wpAny_seqItems gO2 rfl (wpAny_bind (wpAny_updateSeq_pair gO2 fun q3 gO3 b3=>?_)))
  refine wpAny_bind (wpAny_letGo (wpAny_pure (wpAny_bind (wpAny_bind (wpAny_onRaise ?_)))))
  show wpAny _ _ (Builtin.SmallTypes.nextOf (.ref j2) >>= _) _ _ _
  refine wpAny_bind (wpAny_nextOf_list_end hh (((g2.extBut b1.extBut D.i2z).extBut b2.extBut D.i12.symm).extBut b3.extBut D.TOi2.symm) (((d2.extBut b1.extBut D.l2z).extBut b2.extBut D.l2i1).extBut b3.extBut D.l2TO) ey fun q4 e b4 he=>?_)
  obtain⟨oe,hoe,hce⟩:=he
  have gz4:IsZip q4 z TI TO .ellipsis:=b4 _ _ D.i2z.symm (b3.extBut _ _ D.TOz.symm (b2.extBut _ _ D.i1z.symm gz1))
  have nz:e≠z:=fun q=>by subst q;rw[gz4]at hoe;cases hoe;simp at hce
  refine wpAny_setField_rec gz4 (by simp) fun q5 _ b5=>k q5 e (fun c o n1 n2 n3 n4 q=>b5.extBut _ _ n1 (b4 _ _ n4 (b3.extBut _ _ n2 (b2.extBut _ _ n3 (b1.extBut _ _ n1 q))))) ⟨oe,b5.extBut _ _ nz hoe,hce⟩
theorem yy {z TI TO j1 j2 t1 t2:Addr} {k1 k2:Nat} {xs ys:Array Value} {x y a b:Value} {Q:Option Value->Shared->Prop} (D:ZipApart z TI TO j1 j2 t1 t2)
  (gz:IsZip s.heap z TI TO .none) (gI:IsPair s.heap TI (.ref j1) (.ref j2)) (gO:IsPair s.heap TO a b)
  (g1:s.heap.IsTupleIter j1 t1 k1) (g2:s.heap.IsListIter j2 t2 k2) (d1:s.heap.IsTuple t1 xs) (d2:s.heap.IsList t2 ys) (ex:xs[k1]?=some x) (ey:ys[k2]?=some y)
  (k:∀h',IsZip h' z TI TO (rawInt s.heap.objs.size)->IsPair h' TO x y->h'.IsTupleIter j1 t1 (k1+ 1)->h'.IsListIter j2 t2 (k2+ 1)->IsPair h' s.heap.objs.size x y->h'.objs.size=s.heap.objs.size+ 1->
   (∀c o,c≠z->c≠TO->c≠j1->c≠j2->s.heap.get? c=some o->h'.get? c=some o)->Q (some (.ref s.heap.objs.size)) {s with heap:=h'}):
  wpAny (model prog w) A (pyNext (.ref z)) Q E s:=by
 have tz:s.TypeIs (.ref z) "zip":=⟨_,gz,rfl⟩
 unfold pyNext
 exact wpAny_bind (wpAny_attempt (wpAny_callSpecial?_slot (name:=Str.ofString "__next__") tz F.slot_zip_next (wpAny_call_entry F.slot_zip_next tz F.entry_zip_next
   (Cf D gz gI gO g1 g2 d1 d2 ex ey fun h' a1 a2 a3 a4 a5 a6 a7=>wpAny_pure (k h' a1 a2 a3 a4 a5 a6 a7)) (F.args_zip_next_1 _))))
theorem rT {z TI TO j1 j2 t1 t2:Addr} {k1 k2:Nat} {xs ys:Array Value} {a b:Value} {Q:Option Value->Shared->Prop} (hh:A.handled=none) (D:ZipApart z TI TO j1 j2 t1 t2)
  (gz:IsZip s.heap z TI TO .none) (gI:IsPair s.heap TI (.ref j1) (.ref j2)) (gO:IsPair s.heap TO a b)
  (g1:s.heap.IsTupleIter j1 t1 k1) (g2:s.heap.IsListIter j2 t2 k2) (d1:s.heap.IsTuple t1 xs) (d2:s.heap.IsList t2 ys) (hend:xs[k1]?=none\/ys[k2]?=none)
  (k:∀h',(∀c o,c≠z->c≠TO->c≠j1->c≠j2->s.heap.get? c=some o->h'.get? c=some o)->Q none {s with heap:=h'}):wpAny (model prog w) A (pyNext (.ref z)) Q E s:=by
 have tz:s.TypeIs (.ref z) "zip":=⟨_,gz,rfl⟩
 unfold pyNext
 refine wpAny_bind (wpAny_attempt (wpAny_callSpecial?_slot (name:=Str.ofString "__next__") tz F.slot_zip_next (wpAny_call_entry F.slot_zip_next tz F.entry_zip_next (Ec hh D gz gI gO g1 g2 d1 d2 hend fun h' e kp he=>?_) (F.args_zip_next_1 _))))
 obtain⟨o,ho,hc⟩:=he
 exact wpAny_bind (wpAny_isInstance (T:="StopIteration") (b:=true) ⟨o,ho,hc⟩ isSubtype_stop (wpAny_pure (k _ kp)))
end
abbrev zm1 (h:Heap) (t1:Addr):Heap:=h.push {cls:= .type "tuple_iterator",data:= .fields #[.ref t1,.int 0 0]}
abbrev zm2 (h:Heap) (t1 t2:Addr):Heap:=(zm1 h t1).push {cls:= .type "list_iterator",data:= .fields #[.ref t2,.int 0 0]}
abbrev zm3 (h:Heap) (t1 t2:Addr):Heap:=(zm2 h t1 t2).push {cls:= .type "tuple",data:= .seq #[.ref h.objs.size,.ref (zm1 h t1).objs.size]}
abbrev zm4 (h:Heap) (t1 t2:Addr):Heap:=(zm3 h t1 t2).push {cls:= .type "tuple",data:= .seq #[.none,.none]}
abbrev zm5 (h:Heap) (t1 t2:Addr):Heap:=(zm4 h t1 t2).push {cls:= .type "zip",data:= .fields #[.none,.bool false,.bool false,.ref (zm2 h t1 t2).objs.size,.ref (zm3 h t1 t2).objs.size]}
theorem Ed (t1 t2:Addr) (xs ys:Array Value):Meets (Builtin.«zip.__new__» ⟨[.type "zip",.ref t1,.ref t2],[]⟩) (fun _ R s=>s.heap.IsTuple t1 xs/\s.heap.IsList t2 ys/\R (.ok (.ret (.ref (zm4 s.heap t1 t2).objs.size))) {s with heap:=zm5 s.heap t1 t2}):=
 .of_wp fun prog w A R s h=>by
  obtain⟨hp,g,d,tk,os⟩:=s;obtain⟨d1,d2,h⟩:=h
  have hsub:=sub_zip
  have dd1:Heap.IsTuple (Shared.heap ⟨hp,g,d,tk,os⟩) t1 xs:=d1
  have dd2:Heap.IsList (Shared.heap ⟨hp.push {cls:= .type "tuple_iterator",data:= .fields #[.ref t1,.int 0 0]},g,d,tk,os⟩) t2 ys:=Heap.IsList.push d2 _
  wp_walk using wpAny_pyIter_tuple dd1,wpAny_pyIter_list dd2
  exact⟨_,rfl,h⟩
section
variable {prog:Program} {w:World} {A:Around} {E:Value->Shared->Prop} {s:Shared}
theorem yz {t1 t2:Addr} {xs ys:Array Value} {Q:Value->Shared->Prop} (d1:s.heap.IsTuple t1 xs) (d2:s.heap.IsList t2 ys)
  (k:∀h',IsZip h' (s.heap.objs.size+ 4) (s.heap.objs.size+ 2) (s.heap.objs.size+ 3) .none->IsPair h' (s.heap.objs.size+ 2) (.ref s.heap.objs.size) (.ref (s.heap.objs.size+ 1))->
   IsPair h' (s.heap.objs.size+ 3) .none .none->h'.IsTupleIter s.heap.objs.size t1 0->h'.IsListIter (s.heap.objs.size+ 1) t2 0->(∀c o,s.heap.get? c=some o->h'.get? c=some o)->Q (.ref (s.heap.objs.size+ 4)) {s with heap:=h'}):
  wpAny (model prog w) A (call (.type "zip") [.ref t1,.ref t2]) Q E s:=by
 refine callType_new F.called_zip (by decide) (F.typeCall_zip_2 _ _) (F.newCall_zip_2 _ _) (fun obj=>F.args_object_init_3 obj _ _) F.entry_zip_new (Ed t1 t2 xs ys) ⟨d1,d2,?_⟩
 have z1:(zm1 s.heap t1).objs.size=s.heap.objs.size+ 1:=eI ..
 have z2:(zm2 s.heap t1 t2).objs.size=s.heap.objs.size+ 2:=by rw[eI,z1]
 have z3:(zm3 s.heap t1 t2).objs.size=s.heap.objs.size+ 3:=by rw[eI,z2]
 have z4:(zm4 s.heap t1 t2).objs.size=s.heap.objs.size+ 4:=by rw[eI,z3]
 have m5:(zm5 s.heap t1 t2).get? (zm4 s.heap t1 t2).objs.size=some _:=eF _ rfl
 have m4:(zm5 s.heap t1 t2).get? (zm3 s.heap t1 t2).objs.size=some _:=eG _ (eF _ rfl)
 have m3:(zm5 s.heap t1 t2).get? (zm2 s.heap t1 t2).objs.size=some _:=eG _ (eG _ (eF _ rfl))
 have m2:(zm5 s.heap t1 t2).get? (zm1 s.heap t1).objs.size=some _:=eG _ (eG _ (eG _ (eF _ rfl)))
 have m1:(zm5 s.heap t1 t2).get? s.heap.objs.size=some _:=eG _ (eG _ (eG _ (eG _ (eF _ rfl))))
 show _/\_
 rw[z2,z3,z4]at m5
 rw[z1,z2]at m3
 rw[z3]at m4
 rw[z1]at m2
 rw[z4]
 exact⟨⟨_,m5,rfl⟩,k _ m5 m3 m4 ⟨_,m1,rfl,rfl⟩ ⟨_,m2,rfl,rfl⟩ fun c o q=>eG _ (eG _ (eG _ (eG _ (eG _ q))))⟩
end
def FU (K:PySem.W.Frag) (a b:Addr):It:=
 ⟨fun i H=>∃xs ys x y,SqT K H a xs/\SqL K H b ys/\xs[i]?=some x/\ys[i]?=some y,
   fun i H v H'=>∃T x y,v= .ref T/\H T=none/\H'=upd H T (.tup [x,y])/\(∀xs,SqT K H a xs->xs[i]?=some x)/\∀ys,SqL K H b ys->ys[i]?=some y,
   fun i H=>∃xs ys,SqT K H a xs/\SqL K H b ys/\i=min xs.length ys.length⟩
def ZMSt (z TI TO i1 i2 a b:Addr) (i:Nat) (h:Heap):Prop:=IsZip h z TI TO .none/\IsPair h TI (.ref i1) (.ref i2)/\(∃u v,IsPair h TO u v)/\h.IsTupleIter i1 a i/\h.IsListIter i2 b i
theorem yA {P:Program} {w:World} {K:PySem.W.Frag} {es:List Expr} {kk:Nat} {tp:Pos} {a b z TI TO i1 i2:Addr} (D:ZipApart z TI TO i1 i2 a b):zL P w K (.Tuple es kk tp) (FU K a b) [z,TI,TO,i1,i2] z (ZMSt z TI TO i1 i2 a b) where
 mem:=by simp
 obj:=fun i h st c hc=>by
  obtain⟨g1,g2,⟨u,v,g3⟩,⟨o4,g4,_,d4⟩,⟨o5,g5,_,d5⟩⟩:=st
  simp only[aj,bj,or_false]at hc
  rcases hc with e|e|e|e|e<;>subst e
  ·exact⟨_,g1,fun v q=>nomatch q⟩
  ·exact⟨_,g2,fun v q=>nomatch q⟩
  ·exact⟨_,g3,fun v q=>nomatch q⟩
  ·exact⟨_,g4,fun v q=>by rw[d4]at q;cases q⟩
  ·exact⟨_,g5,fun v q=>by rw[d5]at q;cases q⟩
 keep:=fun i h h' st k=>by
  obtain⟨g1,g2,⟨u,v,g3⟩,⟨o4,g4,r4⟩,⟨o5,g5,r5⟩⟩:=st
  exact⟨k z (by simp) _ g1,k TI (by simp) _ g2,⟨u,v,k TO (by simp) _ g3⟩,⟨o4,k i1 (by simp) o4 g4,r4⟩,⟨o5,k i2 (by simp) o5 g5,r5⟩⟩
 item:=by
  intro X hP hw hK hc i pz s σ H E I hf st hg
  subst hP hw hK
  obtain⟨xs,ys,x,y,qx,qy,ex,ey⟩:=hg
  obtain⟨i1s,r1,p1,z1⟩:=I.tuple qx
  obtain⟨i2s,r2,p2,z2⟩:=I.list qy
  obtain⟨g1,g2,⟨u,v,g3⟩,g4,g5⟩:=st
  obtain⟨ux,hux,rr1⟩:=r1.get ex
  obtain⟨uy,huy,rr2⟩:=r2.get ey
  have hw:∀c∈[z,TO,i1,i2],uo X pz H c:=fun c hc=>hf c (by simp only[aj,bj,or_false]at hc⊢;first|(rcases hc with h|h|h|h<;>simp[h])|simp[hc])
  refine yy D g1 g2 g3 g4 g5 (show s.heap.IsTuple a i1s.toArray from p1) (show s.heap.IsList b i2s.toArray from p2.isList) (x:=ux) (y:=uy) (by simpa using hux) (by simpa using huy) fun h1 a1 a2 a3 a4 a5 a6 hk=>?_
  have kk1:∀c o,c∉[z,TO,i1,i2]->s.heap.get? c=some o->h1.get? c=some o:=fun c o hc e=>hk c o (fun q=>hc (by simp[q])) (fun q=>hc (by simp[q])) (fun q=>hc (by simp[q])) (fun q=>hc (by simp[q])) e
  have J1:Inv X pz σ H {s with heap:=h1,toks:=s.toks}:=I.turnedL kk1 hw
  refine⟨.ref s.heap.objs.size,rfl,wpAny_letOwnedTupleGo_zip a1 fun h2 a1' sb=>?_⟩
  have J2:Inv X pz σ H {s with heap:=h2,toks:=s.toks}:=Inv.turnedL (s:={s with heap:=h1,toks:=s.toks}) (h':=h2) (t':=s.toks) (ch:=[z]) J1 (fun c o hc e=>sb.extBut _ _ (fun q=>hc (by simp[q])) e) fun c hc=>hf c (by simp only[aj,bj,or_false]at hc⊢;first|(rcases hc with h|h|h|h<;>simp[h])|simp[hc])
  have zlt:z<s.heap.objs.size:=eE g1
  have ht2:uh h2 s.heap.objs.size #[ux,uy]:=⟨_,sb.extBut _ _ (b9 zlt) a5,rfl,_,rfl,rfl⟩
  obtain⟨fT,J3⟩:=I.pairNew (cb _) J2 ht2 rr1 rr2
  refine⟨.ref s.heap.objs.size,_,J3,rfl,⟨_,x,y,rfl,fT,rfl,fun l hl=>by rw[I.tuple_inj hl qx];exact ex,fun l hl=>by rw[I.list_inj hl qy];exact ey⟩,
   ⟨a1',sb.extBut _ _ D.TIz (hk _ _ D.TIz D.TITO D.TIi1 D.TIi2 g2),⟨_,_,sb.extBut _ _ D.TOz a2⟩,a3.extBut sb.extBut D.i1z,a4.extBut sb.extBut D.i2z⟩,fun c hc=>?_⟩
  rw[eT (fun q=>?_)]
  ·exact(hf c hc).1
  ·have lt:c<s.heap.objs.size:=by
    obtain⟨o4,e4,_⟩:=g4
    obtain⟨o5,e5,_⟩:=g5
    simp only[aj,bj,or_false]at hc
    rcases hc with e|e|e|e|e<;>subst e
    ·exact eE g1
    ·exact eE g2
    ·exact eE g3
    ·exact eE e4
    ·exact eE e5
   exact absurd lt (by rw[q];exact bY _)
 done:=by
  intro X hP hw hK hc i pz s σ H E I hf st hg
  subst hP hw hK
  obtain⟨xs,ys,qx,qy,ei⟩:=hg
  obtain⟨i1s,r1,p1,z1⟩:=I.tuple qx
  obtain⟨i2s,r2,p2,z2⟩:=I.list qy
  obtain⟨g1,g2,⟨u,v,g3⟩,g4,g5⟩:=st
  have l1:=r1.length
  have l2:=r2.length
  refine rT (I.ok.hd hc) D g1 g2 g3 g4 g5 (show s.heap.IsTuple a i1s.toArray from p1) (show s.heap.IsList b i2s.toArray from p2.isList) ?_ fun h1 hk=>⟨rfl,I.turnedL (t':=s.toks) (ch:=[z,TO,i1,i2]) (fun c o hc e=>hk c o (fun q=>hc (by simp[q])) (fun q=>hc (by simp[q])) (fun q=>hc (by simp[q])) (fun q=>hc (by simp[q])) e) fun c hc=>hf c (by simp only[aj,bj,or_false]at hc⊢;first|(rcases hc with h|h|h|h<;>simp[h])|simp[hc])⟩
  simp only[bz,bA]
  lia
 self:=fun _ _ _ _ _ st h=>wpAny_pyIter_zip st.1 h
def FV (K:PySem.W.Frag) (ta:TA):TI:=fun σ H R=>ta σ H fun vs H1=>∃a b,vs=[.ref a,.ref b]/\(∃xs,SqT K H1 a xs)/\(∃ys,SqL K H1 b ys)/\R (FU K a b) H1
section
variable {X:Cx}
theorem Cg {es:List Expr} {kk:Nat} {tp:Pos} {a b:Expr} {ta:TA} {p pos:Pos} (hg:Gl X "zip") (hm:X.mg "zip"=none) (ha:PA X [a,b] ta) (hs:autoParam (starEach [a,b] X.env=[(false,eval a X.env),(false,eval b X.env)]) L2.Internal.auR._auto_1) (hs2:autoParam (starEach [b] X.env=[(false,eval b X.env)]) L2.Internal.auR._auto_1):
  PI X (.Tuple es kk tp) (.Call (.Name "zip" p) [a,b] [] pos) (FV X.K ta):=by
 intro pz s σ H R I h
 refine Call_ (mZ I hg hm yh (eL (thn (ha pos pz s σ H _ I h) fun us s1 ⟨vs,H1,I1,r1,q1⟩=>?_) (by rw[hs,hs2]) (by rw[hs2];rfl)))
 obtain⟨l1,l2,e,⟨xs,q1⟩,⟨ys,q2⟩,q⟩:=q1
 subst e
 obtain⟨u,v,rfl,ru,rv⟩:=wm r1
 cases ru
 cases rv
 obtain⟨i1s,w1,p1,z1⟩:=I1.tuple q1
 obtain⟨i2s,w2,p2,z2⟩:=I1.list q2
 have o1:@LT.lt Nat _ l1 s1.heap.objs.size:=SqT.old I1 q1
 have o2:@LT.lt Nat _ l2 s1.heap.objs.size:=SqL.old I1 q2
 refine yz (show s1.heap.IsTuple l1 i1s.toArray from p1) (show s1.heap.IsList l2 i2s.toArray from p2.isList) fun h1 hz hTI hTO hi1 hi2 hk=>wpAny_pyIter_zip hz ?_
 have D:ZipApart (s1.heap.objs.size+ 4) (s1.heap.objs.size+ 2) (s1.heap.objs.size+ 3) s1.heap.objs.size (s1.heap.objs.size+ 1) l1 l2:=by constructor<;>exact fun(h:@Eq Nat _ _)=>by lia
 refine⟨_,_,_,_,H1,rfl,I1.kept (t':=s1.toks) hk,yA D,⟨hz,hTI,⟨_,_,hTO⟩,hi1,hi2⟩,fun c hc=>?_,q⟩
 have ge:s1.heap.objs.size<=c:=by
  simp only[aj,bj,or_false]at hc
  rcases hc with h|h|h|h|h<;>rw[h]<;>first|exact cb _|exact cf _ _
 exact I1.fpOk ge (I1.hok.fresh ge)
end
structure Di (K:PySem.W.Frag) (x qual:Str) (st:Stmt) (f:Addr) (fd:FuncData):Prop where
 ex:∃(oc:Value) (od:Option Addr) (t:Addr) (kV doc pm:Value) (an:Option Addr) (cdv ct:Value) (osl:Array (Option Value)) (o:Obj) (n:Nat),
  fd=dw x qual (iO st) (gT st) (eW st) (.ref t) kV doc pm an cdv ct/\K.lookup f=some ⟨oc,od,.func fd,osl⟩/\dy K cdv qual=true/\K.lookup t=some o/\o.data= .seq #[.none] n
 kp:cR K (.ref f)=true
section
variable {P:Program} {w:World} {K:PySem.W.Frag} {mg:Str->Option Value} {base:Heap}
theorem Di.ok {x qual:Str} {st:Stmt} {f:Addr} {fd:FuncData} {N ps:List Str} {k:Nat} {sp:Sp} (F:Di K x qual st f fd) (S:fg N ps (eW st)) (len:∀vs H Q E,sp vs H Q E->vs.length=ps.length)
  (hbody:∀(cdv:Value) (A:Around) (outer:List Env) (s:Shared) (H:Hp) (vs:List V) (Q:VK) (E:XK),k8 k (A.deeper (envOfC qual (eW st) s.heap.objs.size f cdv))->sp vs H Q E->
   ∃t,PSs (AQ CX0 P w K mg base N qual (eW st) f cdv A outer s H E).nox (gT st) t/\t {nx:=fun _ H'=>Q .non H',rt:=Q} (start N vs) H):qu P w K mg base CX0 (k+ 1) f fd ps sp:=by
 obtain⟨oc,od,t,kV,doc,pm,an,cdv,ct,osl,o,n,rfl,lk,hcd,_⟩:=F.ex
 refine DH lk hcd S len fun A outer s H vs Q E hr hsp=>?_
 obtain⟨t,h,q⟩:=hbody cdv A outer s H vs Q E hr hsp
 exact⟨t,h.nox,q⟩
theorem Di.binds {x qual:Str} {st:Stmt} {f:Addr} {fd:FuncData} {ps:List Str} (F:Di K x qual st f fd)
  (h:∀(t:Addr) (kV doc pm:Value) (an:Option Addr) (cdv ct:Value) (us:List Value),us.length+ 1=ps.length->∃k:Option (Array Value)->Sem (List (Str×Value)),bindArgs (dw x qual (iO st) (gT st) (eW st) (.ref t) kV doc pm an cdv ct) ⟨us,[]⟩=seqItems? (.ref t) >>= k/\k (some #[.none])=pure (ps.zip (us++[.none]))):lX K fd ps [.none]:=by
 obtain⟨oc,od,t,kV,doc,pm,an,cdv,ct,osl,o,n,rfl,lk,hcd,lt,hd⟩:=F.ex
 intro s us X hl
 obtain⟨k,h1,h2⟩:=h t kV doc pm an cdv ct us (by rw[aN]at hl;exact hl)
 exact BindsTo.of_defaults rfl (X _ _ lt) hd h1 h2
theorem yB {x qual:Str} {st:Stmt} {f t:Addr} {oc oct:Value} {od an odt:Option Addr} {osl slt:Array (Option Value)} {kV doc pm cdv ct:Value} {n:Nat} (l:K.lookup f=some ⟨oc,od,.func (dw x qual (iO st) (gT st) (eW st) (.ref t) kV doc pm an cdv ct),osl⟩)
  (c:dy K cdv qual=true) (k:cR K (.ref f)=true) (lt:K.lookup t=some ⟨oct,odt,.seq #[.none] n,slt⟩):Di K x qual st f (dw x qual (iO st) (gT st) (eW st) (.ref t) kV doc pm an cdv ct):=⟨⟨oc,od,t,kV,doc,pm,an,cdv,ct,osl,_,n,rfl,l,c,lt,rfl⟩,k⟩
end
end L2.Internal
namespace TM.Internal
open PySem L2.Internal
inductive Kn
 |num (n:Int)
 |name (w:Str)
 |fn (w:Str)
 |tag (w:Str)
 |lt (w:Str)
 |get (w:Str)
 |rcd (l:List Str)
 |case (l:List (Str×Str))
 |row (m:Nat)
 |op (s:Str) (m:Nat)
inductive Tr
 |mk (κ:Kn) (ks:List Tr)
def ops:List (Str×Nat):=[("call",2),("at",3),("join",2),("size",1),("add",2),("sub",2),("less",2)]
mutual
def Tr.sz:Tr->Nat
 | .mk _ ks=>1+szs ks
def szs:List Tr->Nat
 |[]=>0
 |t::ts=>t.sz+szs ts
end
mutual
def Tr.nest:Tr->Nat
 | .mk _ ks=>1+nests ks
def nests:List Tr->Nat
 |[]=>0
 |t::ts=>max t.nest (nests ts)
end
def Kn.s:Kn->Str
 | .num _=>"num"
 | .name _=>"name"
 | .fn _=>"fn"
 | .tag _=>"tag"
 | .lt _=>"let"
 | .get _=>"get"
 | .rcd _=>"rec"
 | .case _=>"case"
 | .row _=>"row"
 | .op s _=>s
def gv:List Tr->Nat->List Nat
 |[],_=>[]
 |t::ts,p=>p::gv ts (p+t.sz)
theorem offs_len:∀(ts:List Tr) (p:Nat),(gv ts p).length=ts.length
 |[],_=>rfl
 |t::ts,p=>by rw[gv,ay,ay,offs_len ts]
end TM.Internal
namespace K23.Internal
open PySem L2.Internal
theorem l0 {P:List Value->Prop} (h:P []):∀us:List Value,us.length=0->P us:=fun us e=>by rw[List.eq_nil_of_length_eq_zero e];exact h
theorem lS {n:Nat} {P:List Value->Prop} (h:∀a,∀us:List Value,us.length=n->P (a::us)):∀us:List Value,us.length=n+ 1->P us:=fun us e=>by
 cases us with
 |nil=>cases e
 |cons a t=>exact h a t (Nat.succ.inj e)
def top (i:Nat):Stmt:=PySem.Challenge.pw_flowkinds_k23_a_definition_laid_anew.main.body.getD i (.Pass ⟨0,0,0,0⟩)
variable {K:PySem.W.Frag} {mg:Str->Option Value} {n q:Str} {st:Stmt} {ps:List Str} {C:Addr} {h:Heap}
inductive Fm (K:PySem.W.Frag) (n:Str) (st:Stmt):Prop
 |mk {f:Addr} {od an:Option Addr} {sl:Array (Option Value)} {oc kV dc pm cd ct:Value} (a:dB K mainGlobals n=some (some (.ref f))) (l:K.lookup f=some ⟨oc,od,.func (dw n n (iO st) (gT st) (eW st) .none kV dc pm an cd ct),sl⟩) (c:dy K cd n=true) (k:cR K (.ref f)=true)
inductive Mm (K:PySem.W.Frag) (C:Addr) (n q:Str) (st:Stmt):Prop
 |mk {f:Addr} {od an:Option Addr} {sl:Array (Option Value)} {oc kV dc pm cd ct:Value} (i:cH K (.ref C) n=some (some (.ref f))) (j:cK K (.ref f)=true) (l:K.lookup f=some ⟨oc,od,.func (dw n q (iO st) (gT st) (eW st) .none kV dc pm an cd ct),sl⟩) (c:dy K cd q=true) (k:cR K (.ref f)=true)
structure Cm (K:PySem.W.Frag) (n:Str) (C:Addr):Prop where
 a:dB K mainGlobals n=some (some (.ref C))
 pg:cF K C Str.empty=true
 hd:cG K C=true
 po:cM K C=true
 sa:cH K (.ref C) "__setattr__"=some (some (.builtin "object.__setattr__"))
 t1:cH K (.ref C) "__class__"=some (some (.builtin "object.__class__"))
 t2:cQ K (.builtin "object.__class__") "__get__"=some (some (.builtin "getset_descriptor.__get__"))
 t3:PySem.W.takesIn K (.builtin "object.__class__")=some true
 t4:PySem.W.mroIn K C (.type "object")=some true
 ms:cO K C=true
 kc:cR K (.ref C)=true
structure Fx (K:PySem.W.Frag) (mg:Str->Option Value) (n:Str) (st:Stmt) (ps:List Str) where
 a:Addr
 fd:FuncData
 F:Fun K n n st a fd
 b:lX K fd ps []
 m:mg n=some (.ref a)
 k:cR K (.ref a)=true
structure Mx (K:PySem.W.Frag) (C:Addr) (n q:Str) (st:Stmt) (ps:List Str) where
 a:Addr
 fd:FuncData
 F:Fun K n q st a fd
 b:lX K fd ps []
 me:E4 K C n a
structure Ck (K:PySem.W.Frag) (mg:Str->Option Value) (n:Str) where
 a:Addr
 m:mg n=some (.ref a)
 cl:Cls K a
 ty:∀(H:Hp) (x dx:Addr) (fs:List (Str×V)),H x=some (.ins a dx fs)->ur K H (.ref x) (.ref a)
def Bf (n q:Str) (st:Stmt) (ps:List Str):Prop:=∀(kV doc pm:Value) (an:Option Addr) (cdv ct:Value) (us:List Value),us.length=ps.length->bindArgs (dw n q (iO st) (gT st) (eW st) .none kV doc pm an cdv ct) ⟨us,[]⟩=pure (ps.zip us)
def Fm.x (X:K.In h) (G:h.Ns mainGlobals mg) (a:Fm K n st) (hb:Bf n n st ps:=by intro _ _ _ _ _ _;repeat(first|exact l0 rfl|refine lS fun _=>?_)):Fx K mg n st ps:=Classical.choice (by
 obtain⟨a,l,c,k⟩:=a
 exact⟨⟨_,_,tj l c k,(tj l c k).binds hb,dC X G a,k⟩⟩)
def Mm.x (a:Mm K C n q st) (hb:Bf n q st ps:=by intro _ _ _ _ _ _;repeat(first|exact l0 rfl|refine lS fun _=>?_)):Mx K C n q st ps:=Classical.choice (by
 obtain⟨i,j,l,c,k⟩:=a
 exact⟨⟨_,_,tj l c k,(tj l c k).binds hb,⟨i,j,k⟩⟩⟩)
def Cm.x (X:K.In h) (G:h.Ns mainGlobals mg) (a:Cm K n C):Ck K mg n:=⟨C,dC X G a.a,⟨a.pg,a.hd,a.po,a.sa⟩,fun _ _ _ _ e=> .ins e ⟨a.pg,a.hd,a.po,a.sa⟩ a.t1 a.t2 a.t3 a.t4⟩
theorem sf {x:Option (Option Value)} {a b:Addr} (h1:x=some (some (.ref a))) (h2:x=some (some (.ref b))):a=b:=by rw[h1]at h2;cases h2;rfl
theorem Cm.k (a:Cm K n C) (x:Mx K C "__init__" q st ps):Mk K C x.a:=⟨a.ms,x.me.at_,x.me.fn,a.kc⟩
abbrev FO (P:Program) (w:World) (base:Heap) (k:Nat) (x:Fx K mg n st ps) (sp:Sp):Prop:=qu P w K mg base CX0 k x.a x.fd ps sp
abbrev MO (P:Program) (w:World) (base:Heap) (mg:Str->Option Value) (k:Nat) (x:Mx K C n q st ps) (sp:Sp):Prop:=qu P w K mg base CX0 k x.a x.fd ps sp
inductive Dm (K:PySem.W.Frag) (n:Str) (st:Stmt):Prop
 |mk {f:Addr} {od an:Option Addr} {sl:Array (Option Value)} {oc kV dc pm cd ct:Value} {t:Addr} {od':Option Addr} {sl':Array (Option Value)} {oc':Value} {m:Nat} (a:dB K mainGlobals n=some (some (.ref f))) (l:K.lookup f=some ⟨oc,od,.func (dw n n (iO st) (gT st) (eW st) (.ref t) kV dc pm an cd ct),sl⟩) (c:dy K cd n=true) (k:cR K (.ref f)=true) (lt:K.lookup t=some ⟨oc',od',.seq #[.none] m,sl'⟩)
structure Dx (K:PySem.W.Frag) (mg:Str->Option Value) (n:Str) (st:Stmt) (ps:List Str) where
 a:Addr
 fd:FuncData
 F:Di K n n st a fd
 b:lX K fd ps [.none]
 m:mg n=some (.ref a)
 k:cR K (.ref a)=true
abbrev mr:Stmt:=top 11
abbrev rV:Stmt:=top 13
abbrev lB:Stmt:=top 14
abbrev lC:Stmt:=top 15
abbrev nO:Stmt:=top 16
abbrev kB:Stmt:=top 17
abbrev yC:Stmt:=top 19
abbrev pP:Stmt:=top 21
abbrev nP:Stmt:=top 22
abbrev kC:Stmt:=top 23
abbrev iP:Stmt:=top 24
abbrev rW:Stmt:=top 25
abbrev nQ:Stmt:=top 26
abbrev pQ:Stmt:=top 27
abbrev pR:Stmt:=top 28
abbrev pT:Stmt:=top 29
abbrev pU:Stmt:=top 30
abbrev nR:Stmt:=top 31
abbrev pV:Stmt:=top 32
abbrev rX:Stmt:=top 33
abbrev nT:Stmt:=top 34
abbrev nU:Stmt:=top 35
abbrev pX:Stmt:=top 36
abbrev nV:Stmt:=top 37
abbrev kE:Stmt:=top 38
abbrev mw:Stmt:=top 43
abbrev lD:Stmt:=top 44
abbrev lE:Stmt:=top 45
abbrev mx:Stmt:=top 46
abbrev my:Stmt:=top 47
abbrev nX:Stmt:=top 48
abbrev kF:Stmt:=top 49
abbrev mz:Stmt:=top 50
abbrev mB:Stmt:=top 51
abbrev mC:Stmt:=top 52
abbrev kG:Stmt:=top 53
abbrev nY:Stmt:=top 54
abbrev nZ:Stmt:=top 55
abbrev lF:Stmt:=top 56
abbrev jW:Stmt:=top 57
abbrev kH:Stmt:=top 58
abbrev mD:Stmt:=top 59
abbrev n8:Stmt:=top 60
abbrev mE:Stmt:=top 61
abbrev lH:Stmt:=top 62
abbrev mF:Stmt:=top 63
abbrev lI:Stmt:=top 64
abbrev jX:Stmt:=top 65
abbrev kI:Stmt:=top 66
abbrev jC:Stmt:=top 67
abbrev rY:Stmt:=top 68
abbrev jD:Stmt:=gC (top 2) 0
abbrev mG:Stmt:=gC (top 2) 1
abbrev jk:Stmt:=gC (top 3) 0
abbrev kJ:Stmt:=gC (top 4) 1
abbrev iQ:Stmt:=gC (top 5) 0
abbrev jY:Stmt:=gC (top 5) 2
abbrev iR:Stmt:=gC (top 6) 0
abbrev jZ:Stmt:=gC (top 6) 2
abbrev iS:Stmt:=gC (top 7) 0
abbrev ka:Stmt:=gC (top 7) 2
abbrev jg:Stmt:=gC (top 8) 0
abbrev kK:Stmt:=gC (top 8) 2
abbrev jq:Stmt:=gC (top 9) 0
abbrev kM:Stmt:=gC (top 9) 1
abbrev lJ:Stmt:=gC (top 9) 2
abbrev mH:Stmt:=gC (top 9) 3
abbrev lK:Stmt:=gC (top 9) 4
abbrev ke:Stmt:=gC (top 9) 5
abbrev jh:Stmt:=gC (top 20) 0
abbrev gN:Stmt:=gC (top 20) 1
abbrev lM:Stmt:=gC (top 20) 2
abbrev iT:Stmt:=gC (top 41) 0
theorem scK {N ps:List Str} {s:Scope} (h:fg N ps s:=by constructor<;>first|rfl|decide+kernel):fg N ps s:=h
set_option genInjectivity false in
set_option genSizeOf false in
structure Txt (K:PySem.W.Frag) (mg:Str->Option Value) where
 d1:Fx K mg "stands_in" mr ["program","place","number"]
 d2:Fx K mg "pasted" rV ["board","paper","place"]
 d3:Fx K mg "new_points" lB ["board","count","place"]
 d4:Fx K mg "parts_made" lC ["making","outs","ins"]
 d5:Fx K mg "use_made" nO ["one","at","place","outs","ins"]
 d6:Fx K mg "with_points" kB ["pairs","points"]
 y7:Dx K mg "laid" yC ["program","homes","which","papers"]
 d8:Fx K mg "lay_num" pP ["laying","row","place","own"]
 d9:Fx K mg "lay_name" nP ["laying","row","place","own"]
 d10:Fx K mg "meant_point" kC ["laying","place"]
 d11:Fx K mg "definition_point" iP ["laying","place","number"]
 d12:Fx K mg "lay_fn" rW ["laying","row","place","own"]
 d13:Fx K mg "lay_call" nQ ["laying","row","place","own"]
 d14:Fx K mg "lay_let" pQ ["laying","row","place","own"]
 d15:Fx K mg "lay_rec" pR ["laying","row","place","own"]
 d16:Fx K mg "lay_get" pT ["laying","row","place","own"]
 d17:Fx K mg "lay_tag" pU ["laying","row","place","own"]
 d18:Fx K mg "lay_case" nR ["laying","row","place","own"]
 d19:Fx K mg "lay_row" pV ["laying","row","place","own"]
 d20:Fx K mg "lay_at" rX ["laying","row","place","own"]
 d21:Fx K mg "lay_join" nT ["laying","row","place","own"]
 d22:Fx K mg "lay_size" nU ["laying","row","place","own"]
 d23:Fx K mg "lay_sum" pX ["laying","row","place","own"]
 d24:Fx K mg "lay_less" nV ["laying","row","place","own"]
 d25:Fx K mg "lay_numbers" kE ["laying","row","place"]
 d26:Fx K mg "_law_stem" mw ["_law_cell","_law_size"]
 d27:Fx K mg "_law_words" lD ["_law_cell"]
 d28:Fx K mg "_law_alike" lE ["_law_found","_law_due"]
 d29:Fx K mg "_law_leaf" mx ["_law_node","_law_weight"]
 d30:Fx K mg "_law_knit" my ["_law_head","_law_words_here","_law_parts","_law_held"]
 d31:Fx K mg "_law_pop" nX ["_law_stack"]
 d32:Fx K mg "_law_number" kF ["_law_arg"]
 d33:Fx K mg "_law_name" mz ["_law_words_here","_law_var"]
 d34:Fx K mg "_law_most" mB ["_law_item","_law_arg"]
 d35:Fx K mg "_law_wide" mC ["_law_words_here","_law_stack","_law_op","_law_arg"]
 d36:Fx K mg "_law_narrow" kG ["_law_words_here","_law_stack","_law_op","_law_arg"]
 d37:Fx K mg "_law_let" nY ["_law_words_here","_law_var","_law_bound","_law_body"]
 d38:Fx K mg "_law_new" nZ ["_law_words_here","_law_stack","_law_made","_law_op","_law_arg"]
 d39:Fx K mg "_law_ended" lF ["_law_words_here","_law_item","_law_arg"]
 d40:Fx K mg "_law_defined" jW ["_law_words_here","_law_cells"]
 d41:Fx K mg "_law_scoped" kH ["_law_node","_law_k","_law_places"]
 d42:Fx K mg "_law_home" mD ["_law_scope","_law_word"]
 d43:Fx K mg "_law_row" n8 ["_law_node","_law_places"]
 d44:Fx K mg "_law_flat" mE ["_law_node","_law_scope","_law_rows","_law_homes"]
 d45:Fx K mg "_law_built" lH ["_law_words_here","_law_nodes"]
 d46:Fx K mg "_law_told" mF ["_law_board"]
 d47:Fx K mg "_law_moved" lI ["_law_value","_law_by"]
 d48:Fx K mg "_law_shifted" jX ["_law_told_here","_law_by"]
 d49:Fx K mg "_law_within" kI ["_law_told_here","_law_low","_law_high"]
 d50:Fx K mg "_law_crossing" jC ["_law_told_here","_law_low","_law_high"]
 c1:Ck K mg "Make"
 n1shape:fO K c1.a "shape"
 n1parts:fO K c1.a "parts"
 n1at:fO K c1.a "at"
 n1place:fO K c1.a "place"
 e51:Mx K c1.a "__init__" "Make.__init__" jD ["self","shape","parts","at","place"]
 mk1:Mk K c1.a e51.a
 e52:Mx K c1.a "told" "Make.told" mG ["self"]
 c2:Ck K mg "Use"
 n2at:fO K c2.a "at"
 n2place:fO K c2.a "place"
 n2slot:fO K c2.a "slot"
 e53:Mx K c2.a "__init__" "Use.__init__" jk ["self","at","place","slot"]
 cm53:G3 K c2.a "__init__" e53.a
 mk2:Mk K c2.a e53.a
 c3:Ck K mg "NumUse"
 n3at:fO K c3.a "at"
 n3place:fO K c3.a "place"
 n3slot:fO K c3.a "slot"
 e54:Mx K c3.a "told" "NumUse.told" kJ ["self"]
 mk3:Mk K c3.a e53.a
 c4:Ck K mg "CallUse"
 n4arg:fO K c4.a "arg"
 n4out:fO K c4.a "out"
 n4at:fO K c4.a "at"
 n4place:fO K c4.a "place"
 n4slot:fO K c4.a "slot"
 e55:Mx K c4.a "__init__" "CallUse.__init__" iQ ["self","at","place","slot","arg","out"]
 mk4:Mk K c4.a e55.a
 e56:Mx K c4.a "told" "CallUse.told" jY ["self"]
 c5:Ck K mg "TakeUse"
 n5fields:fO K c5.a "fields"
 n5at:fO K c5.a "at"
 n5place:fO K c5.a "place"
 n5slot:fO K c5.a "slot"
 e57:Mx K c5.a "__init__" "TakeUse.__init__" iR ["self","at","place","slot","fields"]
 mk5:Mk K c5.a e57.a
 e58:Mx K c5.a "told" "TakeUse.told" jZ ["self"]
 c6:Ck K mg "CaseUse"
 n6arms:fO K c6.a "arms"
 n6at:fO K c6.a "at"
 n6place:fO K c6.a "place"
 n6slot:fO K c6.a "slot"
 e59:Mx K c6.a "__init__" "CaseUse.__init__" iS ["self","at","place","slot","arms"]
 mk6:Mk K c6.a e59.a
 e60:Mx K c6.a "told" "CaseUse.told" ka ["self"]
 c7:Ck K mg "RowUse"
 n7out:fO K c7.a "out"
 n7at:fO K c7.a "at"
 n7place:fO K c7.a "place"
 n7slot:fO K c7.a "slot"
 e61:Mx K c7.a "__init__" "RowUse.__init__" jg ["self","at","place","slot","out"]
 mk7:Mk K c7.a e61.a
 e62:Mx K c7.a "told" "RowUse.told" kK ["self"]
 c8:Ck K mg "Board"
 n8points:fO K c8.a "points"
 n8makes:fO K c8.a "makes"
 n8uses:fO K c8.a "uses"
 n8flows:fO K c8.a "flows"
 n8root:fO K c8.a "root"
 e63:Mx K c8.a "__init__" "Board.__init__" jq ["self"]
 mk8:Mk K c8.a e63.a
 e64:Mx K c8.a "point" "Board.point" kM ["self","place"]
 e65:Mx K c8.a "make" "Board.make" lJ ["self","shape","parts","at","place"]
 e66:Mx K c8.a "use" "Board.use" mH ["self","one"]
 e67:Mx K c8.a "flow" "Board.flow" lK ["self","p","q"]
 e68:Mx K c8.a "rooted" "Board.rooted" ke ["self","p"]
 c9:Ck K mg "Laying"
 n9program:fO K c9.a "program"
 n9homes:fO K c9.a "homes"
 n9papers:fO K c9.a "papers"
 n9board:fO K c9.a "board"
 n9held:fO K c9.a "held"
 n9starts:fO K c9.a "starts"
 e69:Mx K c9.a "__init__" "Laying.__init__" jh ["self","program","homes","papers"]
 mk9:Mk K c9.a e69.a
 e70:Mx K c9.a "lay_definition" "Laying.lay_definition" gN ["self","number"]
 e71:Mx K c9.a "lay" "Laying.lay" lM ["self","place"]
 c10:Ck K mg "Program"
 n10names:fO K c10.a "names"
 n10roots:fO K c10.a "roots"
 n10rows:fO K c10.a "rows"
 e72:Mx K c10.a "__init__" "Program.__init__" iT ["self","names","roots","rows"]
 mk10:Mk K c10.a e72.a
 z_all:mg "all"=none
 z_bool:mg "bool"=none
 z_enumerate:mg "enumerate"=none
 z_int:mg "int"=none
 z_isinstance:mg "isinstance"=none
 z_len:mg "len"=none
 z_list:mg "list"=none
 z_max:mg "max"=none
 z_range:mg "range"=none
 z_str:mg "str"=none
 z_sum:mg "sum"=none
 z_tuple:mg "tuple"=none
 z_zip:mg "zip"=none
theorem oJ:fg ["program","place","number","behind"] ["program","place","number"] (eW mr):=scK
theorem yD:fg ["board","paper","place","outs","ins","at","makings","making","uses","one","flow"] ["board","paper","place"] (eW rV):=scK
theorem Aa:fg ["board","count","place","points","number"] ["board","count","place"] (eW lB):=scK
theorem Ab:fg ["making","outs","ins"] ["making","outs","ins"] (eW lC):=scK
theorem Ci:fg ["one","at","place","outs","ins"] ["one","at","place","outs","ins"] (eW nO):=scK
theorem zG:fg ["pairs","points"] ["pairs","points"] (eW kB):=scK
theorem yE:fg ["program","homes","which","papers","laying"] ["program","homes","which","papers"] (eW yC):=scK
theorem wK:fg ["laying","row","place","own"] ["laying","row","place","own"] (eW pP):=scK
theorem uE:fg ["laying","row","place","own"] ["laying","row","place","own"] (eW nP):=scK
theorem l9:fg ["laying","place","home"] ["laying","place"] (eW kC):=scK
theorem mI:fg ["laying","place","number"] ["laying","place","number"] (eW iP):=scK
theorem pY:fg ["laying","row","place","own","argument","answer"] ["laying","row","place","own"] (eW rW):=scK
theorem mJ:fg ["laying","row","place","own","called","argument"] ["laying","row","place","own"] (eW nQ):=scK
theorem wL:fg ["laying","row","place","own"] ["laying","row","place","own"] (eW pQ):=scK
theorem n9:fg ["laying","row","place","own","fields","field"] ["laying","row","place","own"] (eW pR):=scK
theorem rh:fg ["laying","row","place","own","record"] ["laying","row","place","own"] (eW pT):=scK
theorem rj:fg ["laying","row","place","own","tagged"] ["laying","row","place","own"] (eW pU):=scK
theorem jE:fg ["laying","row","place","own","subject","arms","arm","tagged"] ["laying","row","place","own"] (eW nR):=scK
theorem oh:fg ["laying","row","place","own","things","thing"] ["laying","row","place","own"] (eW pV):=scK
theorem m8:fg ["laying","row","place","own","looked","index","default"] ["laying","row","place","own"] (eW rX):=scK
theorem kN:fg ["laying","row","place","own","things","first","second"] ["laying","row","place","own"] (eW nT):=scK
theorem mK:fg ["laying","row","place","own","things","measured"] ["laying","row","place","own"] (eW nU):=scK
theorem wM:fg ["laying","row","place","own"] ["laying","row","place","own"] (eW pX):=scK
theorem pZ:fg ["laying","row","place","own","nothing"] ["laying","row","place","own"] (eW nV):=scK
theorem kg:fg ["laying","row","place","first","second"] ["laying","row","place"] (eW kE):=scK
theorem gK:fg ["_law_cell","_law_size","_law_signs","_law_stem_here","_law_k","_law_many"] ["_law_cell","_law_size"] (eW mw):=scK
theorem fW:fg ["_law_cell","_law_size","_law_words_here","_law_stem_here","_law_at","_law_k","_law_word","_law_part"] ["_law_cell"] (eW lD):=scK
theorem m9:fg ["_law_found","_law_due"] ["_law_found","_law_due"] (eW lE):=scK
theorem tE:fg ["_law_node","_law_weight"] ["_law_node","_law_weight"] (eW mx):=scK
theorem fX:fg ["_law_head","_law_words_here","_law_parts","_law_held","_law_nest","_law_weight","_law_many","_law_own","_law_places","_law_part","_law_var"] ["_law_head","_law_words_here","_law_parts","_law_held"] (eW my):=scK
theorem uF:fg ["_law_stack"] ["_law_stack"] (eW nX):=scK
theorem qC:fg ["_law_arg"] ["_law_arg"] (eW kF):=scK
theorem oK:fg ["_law_words_here","_law_var","_law_item"] ["_law_words_here","_law_var"] (eW mz):=scK
theorem tF:fg ["_law_item","_law_arg"] ["_law_item","_law_arg"] (eW mB):=scK
theorem gD:fg ["_law_words_here","_law_stack","_law_op","_law_arg","_law_many","_law_chosen","_law_parts","_law_heads","_law_k","_law_bodies"] ["_law_words_here","_law_stack","_law_op","_law_arg"] (eW mC):=scK
theorem ig:fg ["_law_words_here","_law_stack","_law_op","_law_arg","_law_item","_law_head","_law_chosen","_law_parts"] ["_law_words_here","_law_stack","_law_op","_law_arg"] (eW kG):=scK
theorem mL:fg ["_law_words_here","_law_var","_law_bound","_law_body","_law_item","_law_times"] ["_law_words_here","_law_var","_law_bound","_law_body"] (eW nY):=scK
theorem jF:fg ["_law_words_here","_law_stack","_law_made","_law_op","_law_arg","_law_d","_law_item","_law_body","_law_var"] ["_law_words_here","_law_stack","_law_made","_law_op","_law_arg"] (eW nZ):=scK
theorem iU:fg ["_law_words_here","_law_item","_law_arg","_law_var"] ["_law_words_here","_law_item","_law_arg"] (eW lF):=scK
theorem fQ:fg ["_law_words_here","_law_cells","_law_stack","_law_made","_law_nodes","_law_done","_law_cell","_law_c","_law_new_here","_law_item"] ["_law_words_here","_law_cells"] (eW jW):=scK
theorem qD:fg ["_law_node","_law_k","_law_places"] ["_law_node","_law_k","_law_places"] (eW kH):=scK
theorem jR:fg ["_law_scope","_law_word","_law_home_here","_law_one"] ["_law_scope","_law_word"] (eW mD):=scK
theorem p4:fg ["_law_node","_law_places","_law_arms"] ["_law_node","_law_places"] (eW n8):=scK
theorem iH:fg ["_law_node","_law_scope","_law_rows","_law_homes","_law_at","_law_places","_law_k","_law_part"] ["_law_node","_law_scope","_law_rows","_law_homes"] (eW mE):=scK
theorem gj:fg ["_law_words_here","_law_nodes","_law_names","_law_roots","_law_rows","_law_homes","_law_scope","_law_d","_law_node"] ["_law_words_here","_law_nodes"] (eW lH):=scK
theorem lN:fg ["_law_board","_law_makes","_law_uses"] ["_law_board"] (eW mF):=scK
theorem ng:fg ["_law_value","_law_by"] ["_law_value","_law_by"] (eW lI):=scK
theorem jG:fg ["_law_told_here","_law_by","_law_makes","_law_uses"] ["_law_told_here","_law_by"] (eW jX):=scK
theorem jl:fg ["_law_told_here","_law_low","_law_high","_law_makes","_law_uses","_law_flows"] ["_law_told_here","_law_low","_law_high"] (eW kI):=scK
theorem oS:fg ["_law_told_here","_law_low","_law_high"] ["_law_told_here","_law_low","_law_high"] (eW jC):=scK
theorem jH:fg ["_law_script","_law_first","_law_words_here","_law_built_here","_law_which","_law_program","_law_homes","_law_told_here","_law_copies","_law_k","_law_home_here","_law_copy","_law_high"] ["_law_script"] (eW rY):=scK
theorem oT:fg ["self","shape","parts","at","place"] ["self","shape","parts","at","place"] (eW jD):=scK
theorem tG:fg ["self"] ["self"] (eW mG):=scK
theorem p6:fg ["self","at","place","slot"] ["self","at","place","slot"] (eW jk):=scK
theorem qE:fg ["self"] ["self"] (eW kJ):=scK
theorem mM:fg ["self","at","place","slot","arg","out"] ["self","at","place","slot","arg","out"] (eW iQ):=scK
theorem p7:fg ["self"] ["self"] (eW jY):=scK
theorem mN:fg ["self","at","place","slot","fields"] ["self","at","place","slot","fields"] (eW iR):=scK
theorem p8:fg ["self"] ["self"] (eW jZ):=scK
theorem mO:fg ["self","at","place","slot","arms"] ["self","at","place","slot","arms"] (eW iS):=scK
theorem p9:fg ["self"] ["self"] (eW ka):=scK
theorem nq:fg ["self","at","place","slot","out"] ["self","at","place","slot","out"] (eW jg):=scK
theorem qF:fg ["self"] ["self"] (eW kK):=scK
theorem oi:fg ["self"] ["self"] (eW jq):=scK
theorem qG:fg ["self","place"] ["self","place"] (eW kM):=scK
theorem rZ:fg ["self","shape","parts","at","place"] ["self","shape","parts","at","place"] (eW lJ):=scK
theorem tH:fg ["self","one"] ["self","one"] (eW mH):=scK
theorem r8:fg ["self","p","q"] ["self","p","q"] (eW lK):=scK
theorem qa:fg ["self","p"] ["self","p"] (eW ke):=scK
theorem nu:fg ["self","program","homes","papers"] ["self","program","homes","papers"] (eW jh):=scK
theorem gG:fg ["self","number","root","start"] ["self","number"] (eW gN):=scK
theorem jw:fg ["self","place","row","own"] ["self","place"] (eW lM):=scK
theorem mP:fg ["self","names","roots","rows"] ["self","names","roots","rows"] (eW iT):=scK
def vz (K:PySem.W.Frag):Sp:=fun vs H Q _=>∃(a:Addr) (ns:List Int),vs=[.ref a]/\SqL K H a (ns.map V.int)/\ns.length<=63/\∀H',Q (.bl true) H'
theorem _root_.L2.Internal.Fun.rd {P:Program} {w:World} {base:Heap} {f:Addr} {fd:FuncData} {N:List Str} {k:Nat} {sp:Sp} (F:Fun K n q st f fd) (S:fg N ps (eW st)) (hbody:∀(cdv:Value) (A:Around) (outer:List Env) (s:Shared) (H:Hp) (vs:List V) (Q:VK) (E:XK),k8 k (A.deeper (PyProof.Rows.envOfC q (eW st) s.heap.objs.size f cdv))->sp vs H Q E->∃t,PSs (AQ CX0 P w K mg base N q (eW st) f cdv A outer s H E).nox (gT st) t/\t {nx:=fun _ H'=>Q .non H',rt:=Q} (start N vs) H) (len:∀vs H Q E,sp vs H Q E->vs.length=ps.length:=by intro _ _ _ _ h;repeat(first|(obtain⟨rfl,_⟩:=h;rfl)|(cases h;first|(subst_vars;rfl)|rename_i h))):qu P w K mg base CX0 (k+ 1) f fd ps sp:=F.ok S len hbody
section
variable {X:Cx}
theorem pF {e:Expr} {es:List Expr} {pos p:Pos} {k:Nat} {sp:Sp} {t:TA} (x:Fx X.K X.mg n st ps) (F:qu X.prog X.w X.K X.mg X.base CX0 k x.a x.fd ps sp) (hr:k8 k X.A) (ha:PA X (e::es) t) (hg:Gl X n:=by exact rfl) (hdb:autoParam ((n==("__debug__":Str))=false) L2.Internal.auD._auto_1) (he:autoParam (starEach (e::es) X.env=(false,eval e X.env)::starEach es X.env) L2.Internal.auR._auto_1) (hpl:autoParam ((backTo pos (starEach es X.env)).any (·.1)=false) L2.Internal.auR._auto_1):PE X (.Call (.Name n p) (e::es) [] pos) (qz sp [] E0 t):=uu F hr hg x.m x.k x.b .nil fH ha hdb he hpl
theorem pS {i:Nat} {x:Str} {e:Expr} {te:TE} {pos pos':Pos} (hN:X.N.Nodup) (he:PE X e te) (hi:autoParam (X.N[i]?=some x) L2.Internal.auR._auto_1) (hx:Loc X.env.scope x:=by first|exact .inl rfl|exact .inr rfl) (hs:autoParam (swapsWith e (some (.Name x pos')) pos.line X.env=pure false) L2.Internal.auR._auto_1) (hf:autoParam (X.fn x=true\/X.env.scope.names.lookup x=some .local) L2.Internal.auL._auto_1):PS X (.Assign [.Name x pos'] e pos) (xx te (fK i)):=DC hN hi hx he hs hf
theorem pN {i:Nat} {x:Str} {pos:Pos} (hN:X.N.Nodup) (hi:autoParam (X.N[i]?=some x) L2.Internal.auR._auto_1) (hx:Loc X.env.scope x:=by first|exact .inl rfl|exact .inr rfl) (hf:autoParam (X.fn x=true\/X.env.scope.names.lookup x=some .local) L2.Internal.auL._auto_1):PG X (.Name x pos) (fK i):=um hN hi hx hf
theorem vA {scope:Scope} {x:Str} (ns:List Str) (cap:List (Str×Nat×Addr)) (hns:autoParam (cap.map (·.1)=ns) L2.Internal.auR._auto_1) (hk:autoParam (scope.kind= .function) L2.Internal.auR._auto_1) (hn:∀p∈scope.names,p.2≠ .cell/\(p.2= .free->p.1∈ns):=by decide+kernel) (hl:∀y∈scope.names,y.2= .local->scope.names.lookup y.1=some .local:=by decide+kernel)
  (hx:autoParam (scope.names.lookup x=some .local) L2.Internal.auR._auto_1) (hnd:(x::ns).Nodup:=by decide+kernel) (hc:autoParam (closureFor scope X.env=pure (cap.map fun p=>(p.1,p.2.2))) L2.Internal.auR._auto_1) (hok:autoParam (X.env.scope.kind= .function) L2.Internal.auR._auto_1)
  (h:∀p∈cap,scope.names.lookup p.1=some .free/\X.env.cells.lookup p.1=some p.2.2/\X.env.scope.names.lookup p.1=some .cell/\X.N[p.2.1]?=some p.1:=by repeat(first|refine bF.mpr ⟨⟨rfl,rfl,rfl,rfl⟩,?_⟩|exact fun _ h=>absurd h bj)):
  pJ X (x::ns) scope (cap.map fun p=>(p.1,p.2.2)) (fun σ=>none::cap.map fun p=>σ.getD p.2.1 none) 0 x:=blkC ns cap hns hk hn hl hx hnd hc hok h
theorem blkD2 {scope:Scope} {x y:Str} (ns:List Str) (cap:List (Str×Nat×Addr)) (hns:autoParam (cap.map (·.1)=ns) L2.Internal.auR._auto_1) (hk:autoParam (scope.kind= .function) L2.Internal.auR._auto_1) (hn:∀p∈scope.names,p.2≠ .cell/\(p.2= .free->p.1∈ns):=by decide+kernel) (hl:∀y∈scope.names,y.2= .local->scope.names.lookup y.1=some .local:=by decide+kernel)
  (hx:autoParam (scope.names.lookup x=some .local) L2.Internal.auR._auto_1) (hnd:(x::y::ns).Nodup:=by decide+kernel) (hc:autoParam (closureFor scope X.env=pure (cap.map fun p=>(p.1,p.2.2))) L2.Internal.auR._auto_1) (hok:autoParam (X.env.scope.kind= .function) L2.Internal.auR._auto_1)
  (h:∀p∈cap,scope.names.lookup p.1=some .free/\X.env.cells.lookup p.1=some p.2.2/\X.env.scope.names.lookup p.1=some .cell/\X.N[p.2.1]?=some p.1:=by repeat(first|refine bF.mpr ⟨⟨rfl,rfl,rfl,rfl⟩,?_⟩|exact fun _ h=>absurd h bj)):
  pJ X (x::y::ns) scope (cap.map fun p=>(p.1,p.2.2)) (fun σ=>none::none::cap.map fun p=>σ.getD p.2.1 none) 0 x:=FT ns cap hns hk hn hl hx hnd hc hok h
theorem pgP {scope:Scope} {cl:List (Str×Addr)} {x y:Str} {ns:List Str} {px py tp:Pos} {kk:Nat} (hc:X.calm=true) (nd:(x::y::ns).Nodup) (hx:scope.names.lookup x=some .local) (hy:scope.names.lookup y=some .local) (C:Addr) (s₀:Shared) (H₀:Hp) (ex:List Addr) (pz:List (Addr×Obj)):PG (blk X (x::y::ns) scope cl C s₀ H₀ ex pz) (.Tuple [.Name x px,.Name y py] kk tp) (DB X.K 2 (rC (fK 0) (rC (fK 1) DA))):=
 vf (n:=2) (X:=blk X (x::y::ns) scope cl C s₀ H₀ ex pz) hc (jO (um (X:=blk X (x::y::ns) scope cl C s₀ H₀ ex pz) (i:=0) nd rfl (.inl (lookup_relabel_local hx)) (.inr (lookup_relabel_local hx))) (jO (um (X:=blk X (x::y::ns) scope cl C s₀ H₀ ex pz) (i:=1) nd rfl (.inl (lookup_relabel_local hy)) (.inr (lookup_relabel_local hy))) rE))
end
end K23.Internal
inductive X2 {a0 a1:Type} (p:a0->a1->Prop):Prop
 |mk x0 x1:p x0 x1->X2 p
inductive X3 {a0 a1 a2:Type} (p:a0->a1->a2->Prop):Prop
 |mk x0 x1 x2:p x0 x1 x2->X3 p
inductive X4 {a0 a1 a2 a3:Type} (p:a0->a1->a2->a3->Prop):Prop
 |mk x0 x1 x2 x3:p x0 x1 x2 x3->X4 p
inductive X5 {a0 a1 a2 a3 a4:Type} (p:a0->a1->a2->a3->a4->Prop):Prop
 |mk x0 x1 x2 x3 x4:p x0 x1 x2 x3 x4->X5 p
inductive X6 {a0 a1 a2 a3 a4 a5:Type} (p:a0->a1->a2->a3->a4->a5->Prop):Prop
 |mk x0 x1 x2 x3 x4 x5:p x0 x1 x2 x3 x4 x5->X6 p
inductive X7 {a0 a1 a2 a3 a4 a5 a6:Type} (p:a0->a1->a2->a3->a4->a5->a6->Prop):Prop
 |mk x0 x1 x2 x3 x4 x5 x6:p x0 x1 x2 x3 x4 x5 x6->X7 p
inductive X8 {a0 a1 a2 a3 a4 a5 a6 a7:Type} (p:a0->a1->a2->a3->a4->a5->a6->a7->Prop):Prop
 |mk x0 x1 x2 x3 x4 x5 x6 x7:p x0 x1 x2 x3 x4 x5 x6 x7->X8 p
inductive X9 {a0 a1 a2 a3 a4 a5 a6 a7 a8:Type} (p:a0->a1->a2->a3->a4->a5->a6->a7->a8->Prop):Prop
 |mk x0 x1 x2 x3 x4 x5 x6 x7 x8:p x0 x1 x2 x3 x4 x5 x6 x7 x8->X9 p
inductive X10 {a0 a1 a2 a3 a4 a5 a6 a7 a8 a9:Type} (p:a0->a1->a2->a3->a4->a5->a6->a7->a8->a9->Prop):Prop
 |mk x0 x1 x2 x3 x4 x5 x6 x7 x8 x9:p x0 x1 x2 x3 x4 x5 x6 x7 x8 x9->X10 p
inductive X12 {a0 a1 a2 a3 a4 a5 a6 a7 a8 a9 a10 a11:Type} (p:a0->a1->a2->a3->a4->a5->a6->a7->a8->a9->a10->a11->Prop):Prop
 |mk x0 x1 x2 x3 x4 x5 x6 x7 x8 x9 x10 x11:p x0 x1 x2 x3 x4 x5 x6 x7 x8 x9 x10 x11->X12 p
structure Y3 (a0 a1 a2:Prop):Prop where mk::
 (h0:a0) (h1:a1) (h2:a2)
structure Y4 (a0 a1 a2 a3:Prop):Prop where mk::
 (h0:a0) (h1:a1) (h2:a2) (h3:a3)
structure Y5 (a0 a1 a2 a3 a4:Prop):Prop where mk::
 (h0:a0) (h1:a1) (h2:a2) (h3:a3) (h4:a4)
structure Y6 (a0 a1 a2 a3 a4 a5:Prop):Prop where mk::
 (h0:a0) (h1:a1) (h2:a2) (h3:a3) (h4:a4) (h5:a5)
structure Y7 (a0 a1 a2 a3 a4 a5 a6:Prop):Prop where mk::
 (h0:a0) (h1:a1) (h2:a2) (h3:a3) (h4:a4) (h5:a5) (h6:a6)
structure Y8 (a0 a1 a2 a3 a4 a5 a6 a7:Prop):Prop where mk::
 (h0:a0) (h1:a1) (h2:a2) (h3:a3) (h4:a4) (h5:a5) (h6:a6) (h7:a7)
structure Y9 (a0 a1 a2 a3 a4 a5 a6 a7 a8:Prop):Prop where mk::
 (h0:a0) (h1:a1) (h2:a2) (h3:a3) (h4:a4) (h5:a5) (h6:a6) (h7:a7) (h8:a8)
structure Y12 (a0 a1 a2 a3 a4 a5 a6 a7 a8 a9 a10 a11:Prop):Prop where mk::
 (h0:a0) (h1:a1) (h2:a2) (h3:a3) (h4:a4) (h5:a5) (h6:a6) (h7:a7) (h8:a8) (h9:a9) (h10:a10) (h11:a11)
structure Y17 (a0 a1 a2 a3 a4 a5 a6 a7 a8 a9 a10 a11 a12 a13 a14 a15 a16:Prop):Prop where mk::
 (h0:a0) (h1:a1) (h2:a2) (h3:a3) (h4:a4) (h5:a5) (h6:a6) (h7:a7) (h8:a8) (h9:a9) (h10:a10) (h11:a11) (h12:a12) (h13:a13) (h14:a14) (h15:a15) (h16:a16)
namespace K23.Internal
open PySem L2.Internal BO.Internal KK.Internal
seal L2.Internal.PE L2.Internal.PA L2.Internal.PS L2.Internal.PSs L2.Internal.PT L2.Internal.PI
theorem pe {H H2:Hp} {l:Addr} (s:fC H H2) (h:H l=none) (o:HO):fC H (upd H2 l o):=fun b u e=>by rw[eT (eY e h)];exact s b u e
theorem FW (a p s:V):iZ "slot" s (iZ "place" p (iZ "at" a []))=fU a p s:=by
 have h1:¬("at":Str)="place":=fS
 have h2:¬("at":Str)="slot":=fS
 have h3:¬("place":Str)="slot":=fS
 simp only[iZ,fN h1,fN h2,fN h3,fU]
theorem yF (n:Str) (a p s x:V) (h1:¬("at":Str)=n) (h2:¬("place":Str)=n) (h3:¬("slot":Str)=n):iZ n x (fU a p s)=fU1 n a p s x:=by
 simp only[iZ,fU,fN h1,fN h2,fN h3,fU1]
theorem Ee (a p s x y:V):iZ "out" y (iZ "arg" x (fU a p s))=fU2 a p s x y:=by
 have h1:¬("at":Str)="arg":=fS
 have h2:¬("place":Str)="arg":=fS
 have h3:¬("slot":Str)="arg":=fS
 have h4:¬("at":Str)="out":=fS
 have h5:¬("place":Str)="out":=fS
 have h6:¬("slot":Str)="out":=fS
 have h7:¬("arg":Str)="out":=fS
 simp only[iZ,fU,fN h1,fN h2,fN h3,fN h4,fN h5,fN h6,fN h7,fU2]
theorem FX (s f a p:V):iZ "place" p (iZ "at" a (iZ "parts" f (iZ "shape" s [])))=fM s f a p:=by
 have h1:¬("shape":Str)="parts":=fS
 have h2:¬("shape":Str)="at":=fS
 have h3:¬("shape":Str)="place":=fS
 have h4:¬("parts":Str)="at":=fS
 have h5:¬("parts":Str)="place":=fS
 have h6:¬("at":Str)="place":=fS
 simp only[iZ,fN h1,fN h2,fN h3,fN h4,fN h5,fN h6,fM]
theorem gU {f:Str} {v:V} {fs:List (Str×V)} {n:Nat} (h:fs.length<n):(iZ f v fs).length<n+ 1:=Nat.lt_of_le_of_lt (mj f v fs) (Nat.succ_lt_succ h)
theorem FY (a p s:V):(fU a p s).lookup ("at":Str)=some (a):=by kernel_rfl
theorem Ac (a p s:V):(fU a p s).lookup ("place":Str)=some (p):=by kernel_rfl
theorem Cj (a p s:V):(fU a p s).lookup ("slot":Str)=some (s):=by kernel_rfl
theorem wN (a p s:V):(fU a p s).lookup ("told":Str)=none:=by kernel_rfl
theorem Ef (a p s x y:V):(fU2 a p s x y).lookup ("at":Str)=some (a):=by kernel_rfl
theorem yG (a p s x y:V):(fU2 a p s x y).lookup ("place":Str)=some (p):=by kernel_rfl
theorem Ae (a p s x y:V):(fU2 a p s x y).lookup ("slot":Str)=some (s):=by kernel_rfl
theorem Cn (a p s x y:V):(fU2 a p s x y).lookup ("arg":Str)=some (x):=by kernel_rfl
theorem Co (a p s x y:V):(fU2 a p s x y).lookup ("out":Str)=some (y):=by kernel_rfl
theorem uG (a p s x y:V):(fU2 a p s x y).lookup ("told":Str)=none:=by kernel_rfl
theorem Af (s f a p:V):(fM s f a p).lookup ("shape":Str)=some (s):=by kernel_rfl
theorem Ag (s f a p:V):(fM s f a p).lookup ("parts":Str)=some (f):=by kernel_rfl
theorem FZ (s f a p:V):(fM s f a p).lookup ("at":Str)=some (a):=by kernel_rfl
theorem Ai (s f a p:V):(fM s f a p).lookup ("place":Str)=some (p):=by kernel_rfl
theorem wO (s f a p:V):(fM s f a p).lookup ("told":Str)=none:=by kernel_rfl
theorem qb (p0 p1 p2 p3:Addr) (r:V):(fB p0 p1 p2 p3 r).lookup ("points":Str)=some (.ref p0):=by kernel_rfl
theorem vB (p0 p1 p2 p3:Addr) (r:V):(fB p0 p1 p2 p3 r).lookup ("makes":Str)=some (.ref p1):=by kernel_rfl
theorem yH (p0 p1 p2 p3:Addr) (r:V):(fB p0 p1 p2 p3 r).lookup ("uses":Str)=some (.ref p2):=by kernel_rfl
theorem vC (p0 p1 p2 p3:Addr) (r:V):(fB p0 p1 p2 p3 r).lookup ("flows":Str)=some (.ref p3):=by kernel_rfl
theorem gX (p0 p1 p2 p3:Addr) (r:V):(fB p0 p1 p2 p3 r).lookup ("point":Str)=none:=by kernel_rfl
theorem gH (p0 p1 p2 p3:Addr) (r:V):(fB p0 p1 p2 p3 r).lookup ("make":Str)=none:=by kernel_rfl
theorem ij (p0 p1 p2 p3:Addr) (r:V):(fB p0 p1 p2 p3 r).lookup ("use":Str)=none:=by kernel_rfl
theorem jz (p0 p1 p2 p3:Addr) (r:V):(fB p0 p1 p2 p3 r).lookup ("flow":Str)=none:=by kernel_rfl
theorem tI (p0 p1 p2 p3:Addr) (r:V):(fB p0 p1 p2 p3 r).lookup ("rooted":Str)=none:=by kernel_rfl
theorem Cr (a p s x:V):(fU1 "fields" a p s x).lookup ("at":Str)=some (a):=by kernel_rfl
theorem wQ (a p s x:V):(fU1 "fields" a p s x).lookup ("place":Str)=some (p):=by kernel_rfl
theorem yI (a p s x:V):(fU1 "fields" a p s x).lookup ("slot":Str)=some (s):=by kernel_rfl
theorem uH (a p s x:V):(fU1 "fields" a p s x).lookup ("fields":Str)=some (x):=by kernel_rfl
theorem tJ (a p s x:V):(fU1 "fields" a p s x).lookup ("told":Str)=none:=by kernel_rfl
theorem Ct (a p s x:V):(fU1 "arms" a p s x).lookup ("at":Str)=some (a):=by kernel_rfl
theorem wR (a p s x:V):(fU1 "arms" a p s x).lookup ("place":Str)=some (p):=by kernel_rfl
theorem yJ (a p s x:V):(fU1 "arms" a p s x).lookup ("slot":Str)=some (s):=by kernel_rfl
theorem yK (a p s x:V):(fU1 "arms" a p s x).lookup ("arms":Str)=some (x):=by kernel_rfl
theorem tK (a p s x:V):(fU1 "arms" a p s x).lookup ("told":Str)=none:=by kernel_rfl
theorem Cu (a p s x:V):(fU1 "out" a p s x).lookup ("at":Str)=some (a):=by kernel_rfl
theorem wU (a p s x:V):(fU1 "out" a p s x).lookup ("place":Str)=some (p):=by kernel_rfl
theorem yL (a p s x:V):(fU1 "out" a p s x).lookup ("slot":Str)=some (s):=by kernel_rfl
theorem Aj (a p s x:V):(fU1 "out" a p s x).lookup ("out":Str)=some (x):=by kernel_rfl
theorem tL (a p s x:V):(fU1 "out" a p s x).lookup ("told":Str)=none:=by kernel_rfl
def qc (K:PySem.W.Frag):Sp:=fun vs H Q _=>X6 fun(x C dx:Addr) (a p s:V)=>Y7 (vs=[.ref x,a,p,s]) (H x=some (.ins C dx [])) (Cls K C) (fO K C "at") (fO K C "place") (fO K C "slot") (Q .non (upd H x (.ins C dx (fU a p s))))
theorem gJ (T:Txt K mg):MO P w base mg 1 T.e53 (qc K):=by
 refine T.e53.F.rd p6 fun cdv A outer s H vs Q E hr h=>?_
 obtain⟨x,C,dx,a,p,sl,rfl,hx,cl,n1,n2,n3,q⟩:=h
 refine⟨_,(eQ (gE (pv 0) (pv 1) rfl)
  (eQ (gE (pv 0) (pv 2) rfl)
  (eV (gE (pv 0) (pv 3) rfl)))),?_⟩
 refine⟨_,rfl,_,rfl,x,C,dx,[],rfl,hx,cl,n1,(by show 0<1000;decide),?_⟩
 refine⟨_,rfl,_,rfl,x,C,dx,_,rfl,eO,cl,n2,(by show 1<1000;decide),?_⟩
 refine⟨_,rfl,_,rfl,x,C,dx,_,rfl,eO,cl,n3,gU (gU (by show 0<998;decide)),?_⟩
 rw[gb,gb,FW]
 exact q
def mQ (C:Addr):Sp:=fun vs H Q _=>X7 fun(x dx:Addr) (a p s y z:V)=>Y3 (vs=[.ref x,a,p,s,y,z]) (H x=some (.ins C dx [])) (Q .non (upd H x (.ins C dx (fU2 a p s y z))))
theorem mS (T:Txt K mg):MO P w base mg 2 T.e55 (mQ T.c4.a):=by
 have gE53:=gJ (P:=P) (w:=w) (base:=base) T
 refine T.e55.F.rd mM fun cdv A outer s H vs Q E hr h=>?_
 obtain⟨x,dx,a,p,sl,y,z,rfl,hx,q⟩:=h
 refine⟨_,(eQ (fo (rO (ya rfl T.c2.m) T.cm53 gE53 hr.m T.e53.b .nil fH (eN (pv 0) (eN (pv 1) (eN (pv 2) (eN (pv 3) eP))))))
  (eQ (gE (pv 0) (pv 4) rfl)
  (eV (gE (pv 0) (pv 5) rfl)))),?_⟩
 refine⟨_,rfl,_,rfl,_,rfl,_,rfl,x,_,dx,a,p,sl,rfl,hx,T.c4.cl,T.n4at,T.n4place,T.n4slot,?_⟩
 refine⟨_,rfl,_,rfl,x,_,dx,_,rfl,eO,T.c4.cl,T.n4arg,(by show 3<1000;decide),?_⟩
 refine⟨_,rfl,_,rfl,x,_,dx,_,rfl,eO,T.c4.cl,T.n4out,gU (by show 3<999;decide),?_⟩
 rw[gb,gb,Ee]
 exact q
def Cv (C:Addr) (n:Str):Sp:=fun vs H Q _=>X6 fun(x dx:Addr) (a p s y:V)=>Y3 (vs=[.ref x,a,p,s,y]) (H x=some (.ins C dx [])) (Q .non (upd H x (.ins C dx (fU1 n a p s y))))
theorem mU (T:Txt K mg):MO P w base mg 2 T.e57 (Cv T.c5.a "fields"):=by
 have gE53:=gJ (P:=P) (w:=w) (base:=base) T
 refine T.e57.F.rd mN fun cdv A outer s H vs Q E hr h=>?_
 obtain⟨x,dx,a,p,sl,y,rfl,hx,q⟩:=h
 refine⟨_,(eQ (fo (rO (ya rfl T.c2.m) T.cm53 gE53 hr.m T.e53.b .nil fH (eN (pv 0) (eN (pv 1) (eN (pv 2) (eN (pv 3) eP))))))
  (eV (gE (pv 0) (pv 4) rfl))),?_⟩
 refine⟨_,rfl,_,rfl,_,rfl,_,rfl,x,_,dx,a,p,sl,rfl,hx,T.c5.cl,T.n5at,T.n5place,T.n5slot,?_⟩
 refine⟨_,rfl,_,rfl,x,_,dx,_,rfl,eO,T.c5.cl,T.n5fields,(by show 3<1000;decide),?_⟩
 rw[gb,yF "fields" a p sl y fS fS fS]
 exact q
theorem mV (T:Txt K mg):MO P w base mg 2 T.e59 (Cv T.c6.a "arms"):=by
 have gE53:=gJ (P:=P) (w:=w) (base:=base) T
 refine T.e59.F.rd mO fun cdv A outer s H vs Q E hr h=>?_
 obtain⟨x,dx,a,p,sl,y,rfl,hx,q⟩:=h
 refine⟨_,(eQ (fo (rO (ya rfl T.c2.m) T.cm53 gE53 hr.m T.e53.b .nil fH (eN (pv 0) (eN (pv 1) (eN (pv 2) (eN (pv 3) eP))))))
  (eV (gE (pv 0) (pv 4) rfl))),?_⟩
 refine⟨_,rfl,_,rfl,_,rfl,_,rfl,x,_,dx,a,p,sl,rfl,hx,T.c6.cl,T.n6at,T.n6place,T.n6slot,?_⟩
 refine⟨_,rfl,_,rfl,x,_,dx,_,rfl,eO,T.c6.cl,T.n6arms,(by show 3<1000;decide),?_⟩
 rw[gb,yF "arms" a p sl y fS fS fS]
 exact q
theorem iV (T:Txt K mg):MO P w base mg 2 T.e61 (Cv T.c7.a "out"):=by
 have gE53:=gJ (P:=P) (w:=w) (base:=base) T
 refine T.e61.F.rd nq fun cdv A outer s H vs Q E hr h=>?_
 obtain⟨x,dx,a,p,sl,y,rfl,hx,q⟩:=h
 refine⟨_,(eQ (fo (rO (ya rfl T.c2.m) T.cm53 gE53 hr.m T.e53.b .nil fH (eN (pv 0) (eN (pv 1) (eN (pv 2) (eN (pv 3) eP))))))
  (eV (gE (pv 0) (pv 4) rfl))),?_⟩
 refine⟨_,rfl,_,rfl,_,rfl,_,rfl,x,_,dx,a,p,sl,rfl,hx,T.c7.cl,T.n7at,T.n7place,T.n7slot,?_⟩
 refine⟨_,rfl,_,rfl,x,_,dx,_,rfl,eO,T.c7.cl,T.n7out,(by show 3<1000;decide),?_⟩
 rw[gb,yF "out" a p sl y fS fS fS]
 exact q
def oU (C:Addr):Sp:=fun vs H Q _=>X6 fun(x dx:Addr) (s f a p:V)=>Y3 (vs=[.ref x,s,f,a,p]) (H x=some (.ins C dx [])) (Q .non (upd H x (.ins C dx (fM s f a p))))
theorem oV (T:Txt K mg):MO P w base mg 1 T.e51 (oU T.c1.a):=by
 refine T.e51.F.rd oT fun cdv A outer s H vs Q E hr h=>?_
 obtain⟨x,dx,sh,f,a,p,rfl,hx,q⟩:=h
 refine⟨_,(eQ (gE (pv 0) (pv 1) rfl)
  (eQ (gE (pv 0) (pv 2) rfl)
  (eQ (gE (pv 0) (pv 3) rfl)
  (eV (gE (pv 0) (pv 4) rfl))))),?_⟩
 refine⟨_,rfl,_,rfl,x,_,dx,[],rfl,hx,T.c1.cl,T.n1shape,(by show 0<1000;decide),?_⟩
 refine⟨_,rfl,_,rfl,x,_,dx,_,rfl,eO,T.c1.cl,T.n1parts,(by show 1<1000;decide),?_⟩
 refine⟨_,rfl,_,rfl,x,_,dx,_,rfl,eO,T.c1.cl,T.n1at,gU (gU (by show 0<998;decide)),?_⟩
 refine⟨_,rfl,_,rfl,x,_,dx,_,rfl,eO,T.c1.cl,T.n1place,gU (gU (gU (by show 0<997;decide))),?_⟩
 rw[gb,gb,gb,FX]
 exact q
def tM (C:Addr):Sp:=fun vs H Q _=>X6 fun(x dx:Addr) (s1 f1 a1 p1:V)=>Y3 (vs=[.ref x]) (H x=some (.ins C dx (fM s1 f1 a1 p1))) (∀t,H t=none->Q (.ref t) (upd H t (.tup [s1,f1,a1,p1])))
theorem tN (T:Txt K mg):MO P w base mg 1 T.e52 (tM T.c1.a):=by
 refine T.e52.F.rd tG fun cdv A outer s H vs Q E hr h=>?_
 obtain⟨x,dx,s1,f1,a1,p1,rfl,hx,q⟩:=h
 refine⟨_,(eV (fu (fz (eN (gx (pv 0) rfl) (eN (gx (pv 0) rfl) (eN (gx (pv 0) rfl) (eN (gx (pv 0) rfl) eP))))))),?_⟩
 exact⟨_,rfl,x,_,dx,_,_,rfl,hx,T.c1.cl,T.n1shape,Af _ _ _ _,_,rfl,x,_,dx,_,_,rfl,hx,T.c1.cl,T.n1parts,Ag _ _ _ _,_,rfl,x,_,dx,_,_,rfl,hx,T.c1.cl,T.n1at,FZ _ _ _ _,_,rfl,x,_,dx,_,_,rfl,hx,T.c1.cl,T.n1place,Ai _ _ _ _,xn,fun t ht=>q t ht⟩
def qH (C:Addr):Sp:=fun vs H Q _=>X5 fun(x dx:Addr) (a1 p1 s1:V)=>Y3 (vs=[.ref x]) (H x=some (.ins C dx (fU a1 p1 s1))) (∀t,H t=none->Q (.ref t) (upd H t (.tup [.str "num",a1,p1,s1])))
theorem qI (T:Txt K mg):MO P w base mg 1 T.e54 (qH T.c3.a):=by
 refine T.e54.F.rd qE fun cdv A outer s H vs Q E hr h=>?_
 obtain⟨x,dx,a1,p1,s1,rfl,hx,q⟩:=h
 refine⟨_,(eV (fu (fz (eN fD (eN (gx (pv 0) rfl) (eN (gx (pv 0) rfl) (eN (gx (pv 0) rfl) eP))))))),?_⟩
 exact⟨_,rfl,x,_,dx,_,_,rfl,hx,T.c3.cl,T.n3at,FY _ _ _,_,rfl,x,_,dx,_,_,rfl,hx,T.c3.cl,T.n3place,Ac _ _ _,_,rfl,x,_,dx,_,_,rfl,hx,T.c3.cl,T.n3slot,Cj _ _ _,xn,fun t ht=>q t ht⟩
def qd (C:Addr):Sp:=fun vs H Q _=>X7 fun(x dx:Addr) (a1 p1 s1 x1 y1:V)=>Y3 (vs=[.ref x]) (H x=some (.ins C dx (fU2 a1 p1 s1 x1 y1))) (∀t,H t=none->Q (.ref t) (upd H t (.tup [.str "call",a1,p1,s1,x1,y1])))
theorem qe (T:Txt K mg):MO P w base mg 1 T.e56 (qd T.c4.a):=by
 refine T.e56.F.rd p7 fun cdv A outer s H vs Q E hr h=>?_
 obtain⟨x,dx,a1,p1,s1,x1,y1,rfl,hx,q⟩:=h
 refine⟨_,(eV (fu (fz (eN fD (eN (gx (pv 0) rfl) (eN (gx (pv 0) rfl) (eN (gx (pv 0) rfl) (eN (gx (pv 0) rfl) (eN (gx (pv 0) rfl) eP))))))))),?_⟩
 exact⟨_,rfl,x,_,dx,_,_,rfl,hx,T.c4.cl,T.n4at,Ef _ _ _ _ _,_,rfl,x,_,dx,_,_,rfl,hx,T.c4.cl,T.n4place,yG _ _ _ _ _,_,rfl,x,_,dx,_,_,rfl,hx,T.c4.cl,T.n4slot,Ae _ _ _ _ _,_,rfl,x,_,dx,_,_,rfl,hx,T.c4.cl,T.n4arg,Cn _ _ _ _ _,_,rfl,x,_,dx,_,_,rfl,hx,T.c4.cl,T.n4out,Co _ _ _ _ _,Fb,fun t ht=>q t ht⟩
def qf (C:Addr):Sp:=fun vs H Q _=>X6 fun(x dx:Addr) (a1 p1 s1 x1:V)=>Y3 (vs=[.ref x]) (H x=some (.ins C dx (fU1 "fields" a1 p1 s1 x1))) (∀t,H t=none->Q (.ref t) (upd H t (.tup [.str "take",a1,p1,s1,x1])))
theorem qg (T:Txt K mg):MO P w base mg 1 T.e58 (qf T.c5.a):=by
 refine T.e58.F.rd p8 fun cdv A outer s H vs Q E hr h=>?_
 obtain⟨x,dx,a1,p1,s1,x1,rfl,hx,q⟩:=h
 refine⟨_,(eV (fu (fz (eN fD (eN (gx (pv 0) rfl) (eN (gx (pv 0) rfl) (eN (gx (pv 0) rfl) (eN (gx (pv 0) rfl) eP)))))))),?_⟩
 exact⟨_,rfl,x,_,dx,_,_,rfl,hx,T.c5.cl,T.n5at,Cr _ _ _ _,_,rfl,x,_,dx,_,_,rfl,hx,T.c5.cl,T.n5place,wQ _ _ _ _,_,rfl,x,_,dx,_,_,rfl,hx,T.c5.cl,T.n5slot,yI _ _ _ _,_,rfl,x,_,dx,_,_,rfl,hx,T.c5.cl,T.n5fields,uH _ _ _ _,E3,fun t ht=>q t ht⟩
def qi (C:Addr):Sp:=fun vs H Q _=>X6 fun(x dx:Addr) (a1 p1 s1 x1:V)=>Y3 (vs=[.ref x]) (H x=some (.ins C dx (fU1 "arms" a1 p1 s1 x1))) (∀t,H t=none->Q (.ref t) (upd H t (.tup [.str "case",a1,p1,s1,x1])))
theorem qj (T:Txt K mg):MO P w base mg 1 T.e60 (qi T.c6.a):=by
 refine T.e60.F.rd p9 fun cdv A outer s H vs Q E hr h=>?_
 obtain⟨x,dx,a1,p1,s1,x1,rfl,hx,q⟩:=h
 refine⟨_,(eV (fu (fz (eN fD (eN (gx (pv 0) rfl) (eN (gx (pv 0) rfl) (eN (gx (pv 0) rfl) (eN (gx (pv 0) rfl) eP)))))))),?_⟩
 exact⟨_,rfl,x,_,dx,_,_,rfl,hx,T.c6.cl,T.n6at,Ct _ _ _ _,_,rfl,x,_,dx,_,_,rfl,hx,T.c6.cl,T.n6place,wR _ _ _ _,_,rfl,x,_,dx,_,_,rfl,hx,T.c6.cl,T.n6slot,yJ _ _ _ _,_,rfl,x,_,dx,_,_,rfl,hx,T.c6.cl,T.n6arms,yK _ _ _ _,E3,fun t ht=>q t ht⟩
def qJ (C:Addr):Sp:=fun vs H Q _=>X6 fun(x dx:Addr) (a1 p1 s1 x1:V)=>Y3 (vs=[.ref x]) (H x=some (.ins C dx (fU1 "out" a1 p1 s1 x1))) (∀t,H t=none->Q (.ref t) (upd H t (.tup [.str "row",a1,p1,s1,x1])))
theorem qK (T:Txt K mg):MO P w base mg 1 T.e62 (qJ T.c7.a):=by
 refine T.e62.F.rd qF fun cdv A outer s H vs Q E hr h=>?_
 obtain⟨x,dx,a1,p1,s1,x1,rfl,hx,q⟩:=h
 refine⟨_,(eV (fu (fz (eN fD (eN (gx (pv 0) rfl) (eN (gx (pv 0) rfl) (eN (gx (pv 0) rfl) (eN (gx (pv 0) rfl) eP)))))))),?_⟩
 exact⟨_,rfl,x,_,dx,_,_,rfl,hx,T.c7.cl,T.n7at,Cu _ _ _ _,_,rfl,x,_,dx,_,_,rfl,hx,T.c7.cl,T.n7place,wU _ _ _ _,_,rfl,x,_,dx,_,_,rfl,hx,T.c7.cl,T.n7slot,yL _ _ _ _,_,rfl,x,_,dx,_,_,rfl,hx,T.c7.cl,T.n7out,Aj _ _ _ _,E3,fun t ht=>q t ht⟩
theorem iW {H:Hp} {x dx:Addr} {o:HO} (hx:H x=none) (hd:H dx=none):fC H (upd (upd H dx (.own x)) x o):=fun b u e=>by
 rw[eT (eY e hx),eT (eY e hd)];exact e
theorem Ak (p0 p1 p2 p3:Addr) (r v:V):iZ "root" v (fB p0 p1 p2 p3 r)=fB p0 p1 p2 p3 v:=by
 have h1:¬("points":Str)="root":=fS
 have h2:¬("makes":Str)="root":=fS
 have h3:¬("uses":Str)="root":=fS
 have h4:¬("flows":Str)="root":=fS
 simp only[iZ,fB,fN h1,fN h2,fN h3,fN h4,fY]
theorem F9 (p0 p1 p2 p3:Addr) (r:V):iZ "root" r (iZ "flows" (.ref p3) (iZ "uses" (.ref p2) (iZ "makes" (.ref p1) (iZ "points" (.ref p0) []))))=fB p0 p1 p2 p3 r:=by
 have h1:¬("points":Str)="root":=fS
 have h2:¬("makes":Str)="root":=fS
 have h3:¬("uses":Str)="root":=fS
 have h4:¬("flows":Str)="root":=fS
 have h5:¬("points":Str)="flows":=fS
 have h6:¬("makes":Str)="flows":=fS
 have h7:¬("uses":Str)="flows":=fS
 have h8:¬("points":Str)="uses":=fS
 have h9:¬("makes":Str)="uses":=fS
 have h10:¬("points":Str)="makes":=fS
 simp only[iZ,fB,fN h1,fN h2,fN h3,fN h4,fN h5,fN h6,fN h7,fN h8,fN h9,fN h10]
def oj (C:Addr):Sp:=fun vs H Q _=>X2 fun(x dx:Addr)=>Y3 (vs=[.ref x]) (H x=some (.ins C dx [])) (∀(p0 p1 p2 p3:Addr) (H':Hp),(∀a∈[p0,p1,p2,p3],H a=none)->[p0,p1,p2,p3].Nodup->H' x=some (.ins C dx (fB p0 p1 p2 p3 (.int 0)))->Ls H' [p0,p1,p2,p3] [[],[],[],[]]->(∀b o,H b=some o->b≠x->H' b=some o)->Q .non H')
theorem oq (T:Txt K mg):MO P w base mg 1 T.e63 (oj T.c8.a):=by
 refine T.e63.F.rd oi fun cdv A outer s H vs Q E hr h=>?_
 obtain⟨x,dx,rfl,hx,q⟩:=h
 refine⟨_,(eQ (gE (pv 0) (fG eP) rfl)
  (eQ (gE (pv 0) (fG eP) rfl)
  (eQ (gE (pv 0) (fG eP) rfl)
  (eQ (gE (pv 0) (fG eP) rfl)
  (eV (gE (pv 0) eR rfl)))))),?_⟩
 have z0:(0:Nat)<=sizeLine:=by decide
 refine⟨z0,fun p0 h0=>⟨_,rfl,x,_,dx,_,rfl,(by rw[eT (eY hx h0)];exact hx),T.c8.cl,T.n8points,(by show 0<1000;decide),?_⟩⟩
 refine⟨z0,fun p1 h1=>⟨_,rfl,x,_,dx,_,rfl,(by rw[eT (eY eO h1)];exact eO),T.c8.cl,T.n8makes,(by show 1<1000;decide),?_⟩⟩
 refine⟨z0,fun p2 h2=>⟨_,rfl,x,_,dx,_,rfl,(by rw[eT (eY eO h2)];exact eO),T.c8.cl,T.n8uses,gU (gU (by show 0<998;decide)),?_⟩⟩
 refine⟨z0,fun p3 h3=>⟨_,rfl,x,_,dx,_,rfl,(by rw[eT (eY eO h3)];exact eO),T.c8.cl,T.n8flows,gU (gU (gU (by show 0<997;decide))),?_⟩⟩
 refine⟨_,rfl,x,_,dx,_,rfl,eO,T.c8.cl,T.n8root,gU (gU (gU (gU (by show 0<996;decide)))),?_⟩
 have n0:x≠p0:=eY hx h0
 have n1:x≠p1:=eY eO h1
 have n2:x≠p2:=eY eO h2
 have n3:x≠p3:=eY eO h3
 have d10:p0≠p1:=eY (by rw[eT (Ne.symm n0)];exact eO) h1
 have d20:p0≠p2:=eY (by rw[eT (Ne.symm n0),eT d10,eT (Ne.symm n0)];exact eO) h2
 have d21:p1≠p2:=eY (by rw[eT (Ne.symm n1)];exact eO) h2
 have d30:p0≠p3:=eY (by rw[eT (Ne.symm n0),eT d20,eT (Ne.symm n0),eT d10,eT (Ne.symm n0)];exact eO) h3
 have d31:p1≠p3:=eY (by rw[eT (Ne.symm n1),eT d21,eT (Ne.symm n1)];exact eO) h3
 have d32:p2≠p3:=eY (by rw[eT (Ne.symm n2)];exact eO) h3
 rw[eT (Ne.symm n1),eT (Ne.symm d10)]at h1
 rw[eT (Ne.symm n2),eT (Ne.symm d21),eT (Ne.symm n2),eT (Ne.symm d20)]at h2
 rw[eT (Ne.symm n3),eT (Ne.symm d32),eT (Ne.symm n3),eT (Ne.symm d31),eT (Ne.symm n3),eT (Ne.symm d30)]at h3
 refine q p0 p1 p2 p3 _ ?_ ?_ ?_ ?_ ?_
 ·intro a ha
  simp only[aj,bj,or_false]at ha
  rcases ha with e|e|e|e<;>rw[e]<;>assumption
 ·simp only[aD,aj,bj,or_false,not_or]
  exact⟨⟨d10,d20,d30⟩,⟨d21,d31⟩,d32,fun z=>z,List.nodup_nil⟩
 ·rw[eO,F9]
 ·refine .cons ?_ (.cons ?_ (.cons ?_ (.cons ?_ .nil)))
  ·rw[eT (Ne.symm n0),eT (Ne.symm n0),eT d30,eT (Ne.symm n0),eT d20,eT (Ne.symm n0),eT d10,eT (Ne.symm n0)];exact eO
  ·rw[eT (Ne.symm n1),eT (Ne.symm n1),eT d31,eT (Ne.symm n1),eT d21,eT (Ne.symm n1)];exact eO
  ·rw[eT (Ne.symm n2),eT (Ne.symm n2),eT d32,eT (Ne.symm n2)];exact eO
  ·rw[eT (Ne.symm n3),eT (Ne.symm n3)];exact eO
 ·intro b o e hb
  rw[eT hb,eT hb,eT (eY e h3),eT hb,eT (eY e h2),eT hb,eT (eY e h1),eT hb,eT (eY e h0)]
  exact e
def kh (C:Addr):Sp:=fun vs H Q _=>X9 fun(x dx p0 p1 p2 p3:Addr) (r v:V) (xs:List V)=>Y5 (vs=[.ref x,v]) (H x=some (.ins C dx (fB p0 p1 p2 p3 r))) (H p0=some (.lst xs)) (xs.length<sizeLine) (Q (.int xs.length) (upd H p0 (.lst (xs++[v]))))
theorem gq (T:Txt K mg):MO P w base mg 1 T.e64 (kh T.c8.a):=by
 refine T.e64.F.rd qG fun cdv A outer s H vs Q E hr h=>?_
 obtain⟨x,dx,p0,p1,p2,p3,r,v,xs,rfl,hx,h0,hl,q⟩:=h
 refine⟨_,(eQ (fo (lg dJ dM dN fZ (gx (pv 0) rfl) (eN (pv 1) eP)))
  (eV (fu (fq AM (fJ fR rfl T.z_len ja (eN (gx (pv 0) rfl) eP)) eR)))),?_⟩
 refine⟨_,rfl,x,_,dx,_,_,rfl,hx,T.c8.cl,T.n8points,qb _ _ _ _ _,.inl ⟨rfl,_,SqL.of h0⟩,_,rfl,p0,_,_,rfl,rfl,h0,hl,?_⟩
 have hx2:(upd H p0 (.lst (xs++[v]))) x=some (.ins T.c8.a dx (fB p0 p1 p2 p3 r)):=by rw[eT (jm hx h0 (fun z=>nomatch z))];exact hx
 refine⟨_,rfl,x,_,dx,_,_,rfl,hx2,T.c8.cl,T.n8points,qb _ _ _ _ _,p0,_,rfl,.inl (SqL.of eO),_,_,rfl,rfl,?_⟩
 show Q (V.int (((xs++[v]).length:Int)-1)) _
 rw[aN,show(((xs.length+[v].length:Nat):Int)-1)=(xs.length:Int) by simp]
 exact q
def kO (C M:Addr):Sp:=fun vs H Q _=>X12 fun(x dx p0 p1 p2 p3:Addr) (r s f a p:V) (xs:List V)=>Y5 (vs=[.ref x,s,f,a,p]) (H x=some (.ins C dx (fB p0 p1 p2 p3 r))) (H p1=some (.lst xs)) (xs.length<sizeLine) (∀m dm,H m=none->H dm=none->Q .non (upd (upd (upd H dm (.own m)) m (.ins M dm (fM s f a p))) p1 (.lst (xs++[.ref m]))))
theorem gk (T:Txt K mg):MO P w base mg 3 T.e65 (kO T.c8.a T.c1.a):=by
 have gE51:=oV (P:=P) (w:=w) (base:=base) T
 refine T.e65.F.rd rZ fun cdv A outer s H vs Q E hr h=>?_
 obtain⟨x,dx,p0,p1,p2,p3,r,sh,f,a,p,xs,rfl,hx,h0,hl,q⟩:=h
 refine⟨_,(eV (fo (lg dJ dM dN fZ (gx (pv 0) rfl) (eN (je T.mk1 gE51 hr.m rfl T.c1.m T.e51.b .nil fH (eN (pv 1) (eN (pv 2) (eN (pv 3) (eN (pv 4) eP))))) eP)))),?_⟩
 refine⟨_,rfl,x,_,dx,_,_,rfl,hx,T.c8.cl,T.n8makes,vB _ _ _ _ _,.inl ⟨rfl,_,SqL.of h0⟩,_,rfl,_,rfl,_,rfl,_,rfl,fun m dm hm hdm nm=>?_⟩
 refine⟨m,dm,_,_,_,_,rfl,eO,rfl,?_⟩
 rw[gb]
 have h1:(upd (upd H dm (.own m)) m (.ins T.c1.a dm (fM sh f a p))) p1=some (.lst xs):=iW hm hdm _ _ h0
 exact⟨p1,_,_,rfl,rfl,h1,hl,q m dm hm hdm⟩
def lO (C:Addr):Sp:=fun vs H Q _=>X9 fun(x dx p0 p1 p2 p3:Addr) (r v:V) (xs:List V)=>Y5 (vs=[.ref x,v]) (H x=some (.ins C dx (fB p0 p1 p2 p3 r))) (H p2=some (.lst xs)) (xs.length<sizeLine) (Q .non (upd H p2 (.lst (xs++[v]))))
theorem gY (T:Txt K mg):MO P w base mg 1 T.e66 (lO T.c8.a):=by
 refine T.e66.F.rd tH fun cdv A outer s H vs Q E hr h=>?_
 obtain⟨x,dx,p0,p1,p2,p3,r,v,xs,rfl,hx,h0,hl,q⟩:=h
 refine⟨_,(eV (fo (lg dJ dM dN fZ (gx (pv 0) rfl) (eN (pv 1) eP)))),?_⟩
 exact⟨_,rfl,x,_,dx,_,_,rfl,hx,T.c8.cl,T.n8uses,yH _ _ _ _ _,.inl ⟨rfl,_,SqL.of h0⟩,_,rfl,p2,_,_,rfl,rfl,h0,hl,q⟩
def nv (C:Addr):Sp:=fun vs H Q _=>X10 fun(x dx p0 p1 p2 p3:Addr) (r v u:V) (xs:List V)=>Y5 (vs=[.ref x,v,u]) (H x=some (.ins C dx (fB p0 p1 p2 p3 r))) (H p3=some (.lst xs)) (xs.length<sizeLine) (∀t,H t=none->Q .non (upd (upd H t (.tup [v,u])) p3 (.lst (xs++[.ref t]))))
theorem hG (T:Txt K mg):MO P w base mg 1 T.e67 (nv T.c8.a):=by
 refine T.e67.F.rd r8 fun cdv A outer s H vs Q E hr h=>?_
 obtain⟨x,dx,p0,p1,p2,p3,r,v,u,xs,rfl,hx,h0,hl,q⟩:=h
 refine⟨_,(eV (fo (lg dJ dM dN fZ (gx (pv 0) rfl) (eN (fz (eN (pv 1) (eN (pv 2) eP))) eP)))),?_⟩
 refine⟨_,rfl,x,_,dx,_,_,rfl,hx,T.c8.cl,T.n8flows,vC _ _ _ _ _,.inl ⟨rfl,_,SqL.of h0⟩,_,rfl,_,rfl,lQ,fun t ht=>?_⟩
 exact⟨p3,_,_,rfl,rfl,eS ht _ _ _ h0,hl,q t ht⟩
def qk (C:Addr):Sp:=fun vs H Q _=>X8 fun(x dx p0 p1 p2 p3:Addr) (r v:V)=>Y3 (vs=[.ref x,v]) (H x=some (.ins C dx (fB p0 p1 p2 p3 r))) (Q .non (upd H x (.ins C dx (fB p0 p1 p2 p3 v))))
theorem ql (T:Txt K mg):MO P w base mg 1 T.e68 (qk T.c8.a):=by
 refine T.e68.F.rd qa fun cdv A outer s H vs Q E hr h=>?_
 obtain⟨x,dx,p0,p1,p2,p3,r,v,rfl,hx,q⟩:=h
 refine⟨_,(eV (gE (pv 0) (pv 1) rfl)),?_⟩
 refine⟨_,rfl,_,rfl,x,_,dx,_,rfl,hx,T.c8.cl,T.n8root,(by show 5<1000;decide),?_⟩
 rw[Ak]
 exact q
abbrev Hm:=Str×Int
def hmD (h:Hm):Dt:= .tup [.flat (.str h.1),.flat (.int h.2)]
inductive Ro
 |num (n:Int)
 |name (w:Str)
 |fn (w:Str) (k:Int)
 |tag (w:Str) (k:Int)
 |lt (w:Str) (a b:Int)
 |get (k:Int) (w:Str)
 |rcd (l:List (Str×Int))
 |case (k:Int) (l:List (Str×Str×Int))
 |row (ks:List Int)
 |op (s:Str) (ks:List Int)
def kD (k:Int):Dt:= .flat (.int k)
def sD (s:Str):Dt:= .flat (.str s)
def fdD (p:Str×Int):Dt:= .tup [sD p.1,kD p.2]
def amD (p:Str×Str×Int):Dt:= .tup [sD p.1,sD p.2.1,kD p.2.2]
def Ro.s:Ro->Str
 | .num _=>"num"
 | .name _=>"name"
 | .fn _ _=>"fn"
 | .tag _ _=>"tag"
 | .lt _ _ _=>"let"
 | .get _ _=>"get"
 | .rcd _=>"rec"
 | .case _ _=>"case"
 | .row _=>"row"
 | .op s _=>s
def Ro.r:Ro->List Dt
 | .num n=>[kD n]
 | .name w=>[sD w]
 | .fn w k=>[sD w,kD k]
 | .tag w k=>[sD w,kD k]
 | .lt w a b=>[sD w,kD a,kD b]
 | .get k w=>[kD k,sD w]
 | .rcd l=>[.tup (l.map fdD)]
 | .case k l=>[kD k,.tup (l.map amD)]
 | .row ks=>[.tup (ks.map kD)]
 | .op _ ks=>ks.map kD
def Ro.d (ρ:Ro):Dt:= .tup (sD ρ.s::ρ.r)
def atZ {α:Type} (l:List α):Int->Option α
 | .ofNat k=>l[k]?
 | .negSucc _=>none
structure Ls where
 D:Bd
 held:Int->Option Int
 st:Int->Option Int
def Ls.n (s:Ls):Int:=(s.D.pts.length:Int)
def Ls.pt (s:Ls) (p:Int):Ls:={s with D:={s.D with pts:=s.D.pts++[p]}}
def Ls.mk' (s:Ls) (m:Mkg):Ls:={s with D:={s.D with mks:=s.D.mks++[m]}}
def Ls.us (s:Ls) (u:Us):Ls:={s with D:={s.D with uss:=s.D.uss++[u]}}
def Ls.fl (s:Ls) (p q:Int):Ls:={s with D:={s.D with fls:=s.D.fls++[(p,q)]}}
def put (h:Int->Option Int) (k v:Int):Int->Option Int:=fun x=>if x=k then some v else h x
def Ls.hold (s:Ls) (k v:Int):Ls:={s with held:=put s.held k v}
def Ls.begin (s:Ls) (k v:Int):Ls:={s with st:=put s.st k v}
abbrev Lf:=Int->Ls->Option (Int×Ls)
def r9 (L:Lf):List (Str×Int)->List (Str×Int)->Ls->Option (List (Str×Int)×Ls)
 |[],acc,s=>some (acc,s)
 |p::l,acc,s=>match L p.2 s with
  |some (q,s)=>r9 L l (acc++[(p.1,q)]) s
  |none=>none
def ui (L:Lf) (p own:Int):List (Str×Str×Int)->List (Str×Int)->Ls->Option (List (Str×Int)×Ls)
 |[],acc,s=>some (acc,s)
 |a::l,acc,s=>match L a.2.2 ((s.pt p).hold a.2.2 s.n)with
  |some (q,s')=>ui L p own l (acc++[(a.1,s.n)]) (s'.fl q own)
  |none=>none
def tO (L:Lf) (th:Int):List Int->Ls->Option Ls
 |[],s=>some s
 |k::l,s=>match L k s with
  |some (q,s)=>tO L th l (s.fl q th)
  |none=>none
def qv (L:Lf) (roots:List Nat) (d:Int) (s:Ls):Option (Int×Ls):=match atZ roots d with
 |some r=>match L (r:Int) ((s.pt r).begin d s.n)with
  |some (q,s')=>some (s.n,s'.fl q s.n)
  |none=>none
 |none=>none
def inF (roots:List Nat) (p d:Int):Bool:=match atZ roots (d+ 1)with
 |some r=>decide (p<(r:Int))
 |none=>true
def ia (L:Lf) (roots:List Nat) (h:Hm) (p:Int) (s:Ls):Option (Int×Ls):=
 if h.1="let" then L h.2 s
 else if h.1="def" then if inF roots p h.2 then(s.st h.2).map fun q=>(q,s)else qv L roots h.2 s
 else(s.held h.2).map fun q=>(q,s)
def jM (L:Lf) (a b p:Int) (s:Ls):Option Ls:=match L a s with
 |some (x,s)=>match L b s with
  |some (y,s)=>some ((s.us (.num x p 0)).us (.num y p 1))
  |none=>none
 |none=>none
def mkN (own p:Int):Mkg:=⟨"num",.tup [],own,p⟩
def mkR (th own p:Int):Mkg:=⟨"row",.tup [kD th],own,p⟩
def hV (L:Lf) (roots:List Nat) (ho:Option Hm) (p own:Int) (s:Ls):Ro->Option Ls
 | .num _=>some (s.mk' (mkN own p))
 | .name _=>match ho with
  |some h=>match ia L roots h p s with
   |some (q,s)=>some (s.fl q own)
   |none=>none
  |none=>none
 | .fn _ k=>match L k ((s.pt p).hold k s.n)with
  |some (q,s')=>some (s'.mk' ⟨"fn",.tup [kD s.n,kD q],own,p⟩)
  |none=>none
 | .lt _ a b=>match L a s with
  |some (_,s)=>match L b s with
   |some (q,s)=>some (s.fl q own)
   |none=>none
  |none=>none
 | .rcd l=>match r9 L l [] s with
  |some (fs,s)=>some (s.mk' ⟨"rec",prD fs,own,p⟩)
  |none=>none
 | .get k w=>match L k s with
  |some (q,s)=>some (s.us (.take q p 0 [(w,own)]))
  |none=>none
 | .tag w k=>match L k s with
  |some (q,s)=>some (s.mk' ⟨"tag",.tup [sD w,kD q],own,p⟩)
  |none=>none
 | .case k l=>match L k s with
  |some (q,s)=>match ui L p own l [] s with
   |some (as,s)=>some (s.us (.case q p 0 as))
   |none=>none
  |none=>none
 | .row ks=>match tO L s.n ks (s.pt p)with
  |some s'=>some (s'.mk' (mkR s.n own p))
  |none=>none
 | .op o ks=>match ks with
  |[a]=>if o="size" then match L a (s.pt p)with
    |some (q,s')=>some ((s'.us (.row q p 0 s.n)).mk' (mkN own p))
    |none=>none
   else none
  |[a,b]=>if o="call" then match L a s with
    |some (x,s)=>match L b s with
     |some (y,s)=>some (s.us (.call x p 0 y own))
     |none=>none
    |none=>none
   else if o="join" then match L a (s.pt p)with
    |some (x,s1)=>match L b s1 with
     |some (y,s2)=>some (((s2.us (.row x p 0 s.n)).us (.row y p 1 s.n)).mk' (mkR s.n own p))
     |none=>none
    |none=>none
   else if o="less" then match jM L a b p (s.pt p)with
    |some s'=>some (((s'.mk' ⟨"rec",.tup [],s.n,p⟩).mk' ⟨"tag",.tup [sD "yes",kD s.n],own,p⟩).mk' ⟨"tag",.tup [sD "no",kD s.n],own,p⟩)
    |none=>none
   else if o="add"\/o="sub" then match jM L a b p s with
    |some s'=>some (s'.mk' (mkN own p))
    |none=>none
   else none
  |[a,b,c]=>if o="at" then match L a s with
    |some (x,s)=>match L b s with
     |some (y,s)=>match L c s with
      |some (z,s)=>some (((s.us (.row x p 0 own)).us (.num y p 1)).fl z own)
      |none=>none
     |none=>none
    |none=>none
   else none
  |_=>none
def iE (ρs:List Ro) (roots:List Nat) (ho:Nat->Option Hm):Nat->Lf
 |0,_,_=>none
 |f+ 1,p,s=>match atZ ρs p with
  |some ρ=>match hV (iE ρs roots ho f) roots (ho p.toNat) p s.n (s.pt p) ρ with
   |some s'=>some (s.n,s')
   |none=>none
  |none=>none
def fLy (p h b hd sd:Addr):List (Str×V):=[("program",.ref p),("homes",.ref h),("papers",.non),("board",.ref b),("held",.ref hd),("starts",.ref sd)]
theorem ot {p h b hd sd:Addr}:(fLy p h b hd sd).lookup ("program":Str)=some (.ref p)/\(fLy p h b hd sd).lookup ("homes":Str)=some (.ref h)/\(fLy p h b hd sd).lookup ("papers":Str)=some .non/\(fLy p h b hd sd).lookup ("board":Str)=some (.ref b)/\(fLy p h b hd sd).lookup ("held":Str)=some (.ref hd)/\(fLy p h b hd sd).lookup ("starts":Str)=some (.ref sd):=⟨by kernel_rfl,by kernel_rfl,by kernel_rfl,by kernel_rfl,by kernel_rfl,by kernel_rfl⟩
theorem gZ {p h b hd sd:Addr} {n:Str} (hn:((["program","homes","papers","board","held","starts"]:List Str).all fun x=>!(n==x))=true):(fLy p h b hd sd).lookup n=none:=by
 simp only[aY,List.all_nil,Bool.and_true,dS,Bool.not_eq_true']at hn
 obtain⟨h1,h2,h3,h4,h5,h6⟩:=hn
 simp only[fLy,aW,h1,h2,h3,h4,h5,h6,List.lookup_nil]
def DkI (H:Hp) (a:Addr) (g:Int->Option Int) (n:Nat):Prop:=∃kvs:List (Key×V),H a=some (.dK kvs)/\kvs.length<=n/\∀k:Int,kr kvs (Sum.inl k)=(g k).map V.int
structure La where
 l:Addr
 lx:Addr
 p:Addr
 h:Addr
 B:Ad
 hd:Addr
 sd:Addr
def La.ch (A:La):List Addr:=A.B.ls++[A.hd,A.sd]
structure Lm (CL:Addr) (c:Cs) (H:Hp) (A:La) (s:Ls):Prop where
 o:H A.l=some (.ins CL A.lx (fLy A.p A.h A.B.b A.hd A.sd))
 b:Bw c H A.B (.int 0) s.D
 hd:DkI H A.hd s.held s.D.pts.length
 sd:DkI H A.sd s.st s.D.pts.length
 ne:A.hd≠A.sd
def FL (A:La) (H H':Hp):Prop:=∀a o,H a=some o->a∉A.ch->H' a=some o
theorem FL.refl {A:La} {H:Hp}:FL A H H:=fun _ _ e _=>e
theorem FL.trans {A:La} {H H1 H2:Hp} (f:FL A H H1) (g:FL A H1 H2):FL A H H2:=fun a o e n=>g a o (f a o e n) n
theorem FL.same {A:La} {H H':Hp} (S:fC H H'):FL A H H':=fun a o e _=>S a o e
structure Sz (n:Nat) (s:Ls):Prop where
 p:s.D.pts.length<=n
 m:s.D.mks.length<=n
 u:s.D.uss.length<=n
 f:s.D.fls.length<=n
section
variable {CL:Addr} {c:Cs} {H H':Hp} {A:La} {s:Ls}
theorem Lm.ins (M:Lm CL c H A s) {a:Addr} {o:HO} (e:H a=some o) (hl:∀xs,o≠ .lst xs) (hk:∀kvs,o≠ .dK kvs):a∉A.ch:=fun z=>by
 obtain⟨_,b,⟨k1,d1,_⟩,⟨k2,d2,_⟩,_⟩:=M
 obtain⟨_,e0,⟨_,m1,_⟩,⟨_,u1,_⟩,⟨_,g1,_⟩,_⟩:=b
 simp only[La.ch,Ad.ls,aR,bG,aj,bj,or_false]at z
 rcases z with rfl|rfl|rfl|rfl|rfl|rfl
 ·rw[e0]at e;exact hl _ (cx.inj e).symm
 ·rw[m1]at e;exact hl _ (cx.inj e).symm
 ·rw[u1]at e;exact hl _ (cx.inj e).symm
 ·rw[g1]at e;exact hl _ (cx.inj e).symm
 ·rw[d1]at e;exact hk _ (cx.inj e).symm
 ·rw[d2]at e;exact hk _ (cx.inj e).symm
theorem Lm.tk (M:Lm CL c H A s) (F:FL A H H'):TK H H':=fun a xs e=>F a _ e (M.ins e (fun _ z=>nomatch z) fun _ z=>nomatch z)
theorem Lm.same (M:Lm CL c H A s) (S:fC H H'):Lm CL c H' A s:=by
 obtain⟨o,b,⟨k1,d1,r1⟩,⟨k2,d2,r2⟩,ne⟩:=M
 exact⟨S _ _ o,b.same S,⟨k1,S _ _ d1,r1⟩,⟨k2,S _ _ d2,r2⟩,ne⟩
theorem Lm.nl (M:Lm CL c H A s) {a:Addr} {xs:List V} {o:HO} (e:H a=some (.lst xs)):(upd H a o) A.l=some (.ins CL A.lx (fLy A.p A.h A.B.b A.hd A.sd))/\(∃kvs,(upd H a o) A.hd=some (.dK kvs)/\kvs.length<=s.D.pts.length/\∀k:Int,kr kvs (Sum.inl k)=(s.held k).map V.int)/\∃kvs,(upd H a o) A.sd=some (.dK kvs)/\kvs.length<=s.D.pts.length/\∀k:Int,kr kvs (Sum.inl k)=(s.st k).map V.int:=by
 obtain⟨oo,b,⟨k1,d1,r1⟩,⟨k2,d2,r2⟩,ne⟩:=M
 exact⟨by rw[eT (jm oo e (fun z=>nomatch z))];exact oo,⟨k1,by rw[eT (jm d1 e (fun z=>nomatch z))];exact d1,r1⟩,k2,by rw[eT (jm d2 e (fun z=>nomatch z))];exact d2,r2⟩
theorem wV {a:Addr} {o:HO} (h:a∈A.ch):FL A H (upd H a o):=fun b u e n=>by rw[eT (fun z=>n (by rw[z];exact h))];exact e
theorem vD {Q:VK} {p:Int} (M:Lm CL c H A s) (hb:s.D.pts.length<10000000) (q:∀H',Lm CL c H' A (s.pt p)->FL A H H'->DkI H' A.hd s.held s.D.pts.length->DkI H' A.sd s.st s.D.pts.length->Q (.int s.n) H'):kh c.B [.ref A.B.b,.int p] H Q E0:=by
 have sl:=sizeLine_eq
 obtain⟨n1,⟨k1,d1,l1,r1⟩,k2,d2,l2,r2⟩:=M.nl (o:= .lst (s.D.pts.map V.int++[.int p])) M.b.e0
 refine⟨_,_,_,_,_,_,_,_,_,rfl,M.b.b,M.b.e0,by rw[aB];lia,?_⟩
 rw[aB]
 have lp:(s.D.pts++[p]).length=s.D.pts.length+ 1:=by rw[aN];rfl
 exact q _ ⟨n1,M.b.pt p,⟨k1,d1,by show _<=(s.D.pts++[p]).length;lia,r1⟩,⟨k2,d2,by show _<=(s.D.pts++[p]).length;lia,r2⟩,M.ne⟩ (wV (by simp[La.ch,Ad.ls])) ⟨k1,d1,l1,r1⟩ ⟨k2,d2,l2,r2⟩
theorem yM {Q:VK} {p:Int} (M:Lm CL c H A s) (hb:s.D.pts.length<10000000) (q:∀H',Lm CL c H' A (s.pt p)->FL A H H'->Q (.int s.n) H'):kh c.B [.ref A.B.b,.int p] H Q E0:=vD M hb fun H' M' F' _ _=>q H' M' F'
theorem ou {Q:VK} {p r:Int} (M:Lm CL c H A s) (hb:s.D.fls.length<10000000) (q:∀H',Lm CL c H' A (s.fl p r)->FL A H H'->Q .non H'):nv c.B [.ref A.B.b,.int p,.int r] H Q E0:=by
 have sl:=sizeLine_eq
 obtain⟨fv,g1,g2⟩:=M.b.e3
 have lf:=g2.length
 rw[aB]at lf
 refine⟨_,_,_,_,_,_,_,_,_,fv,rfl,M.b.b,g1,by lia,fun t ht=>?_⟩
 have S1:=eS ht (.tup [.int p,.int r])
 have M1:=M.same S1
 have i1:Im (upd H t (.tup [.int p,.int r])) (.ref t) (flD (p,r)):= .tup eO (.cons (.flat rfl) (.cons (.flat rfl) .nil))
 obtain⟨n1,r1,r2⟩:=M1.nl (o:= .lst (fv++[.ref t])) (S1 _ _ g1)
 exact q _ ⟨n1,M1.b.fl (S1 _ _ g1) i1,r1,r2,M.ne⟩ ((FL.same S1).trans (wV (by simp[La.ch,Ad.ls])))
theorem Eg {Q:VK} {x:V} {u:Us} (M:Lm CL c H A s) (hb:s.D.uss.length<10000000) (hu:pK c H x u) (q:∀H',Lm CL c H' A (s.us u)->FL A H H'->Q .non H'):lO c.B [.ref A.B.b,x] H Q E0:=by
 have sl:=sizeLine_eq
 obtain⟨uv,g1,g2⟩:=M.b.e2
 have lf:=g2.length
 obtain⟨n1,r1,r2⟩:=M.nl (o:= .lst (uv++[x])) g1
 exact⟨_,_,_,_,_,_,_,_,uv,rfl,M.b.b,g1,by lia,q _ ⟨n1,M.b.us g1 hu,r1,r2,M.ne⟩ (wV (by simp[La.ch,Ad.ls]))⟩
theorem Cw {Q:VK} {f:V} {m:Mkg} (M:Lm CL c H A s) (hb:s.D.mks.length<10000000) (hf:Im H f m.f) (hd:jb m.f<=2) (ho:okD m.f) (q:∀H',Lm CL c H' A (s.mk' m)->FL A H H'->Q .non H'):kO c.B c.M [.ref A.B.b,.str m.s,f,.int m.a,.int m.p] H Q E0:=by
 have sl:=sizeLine_eq
 obtain⟨mv,g1,g2⟩:=M.b.e1
 have lf:=g2.length
 refine⟨_,_,_,_,_,_,_,_,_,_,_,mv,rfl,M.b.b,g1,by lia,fun a da ha hda=>?_⟩
 have S1:fC H (upd (upd H da (.own a)) a (.ins c.M da (fM (.str m.s) f (.int m.a) (.int m.p)))):=iW ha hda
 have M1:=M.same S1
 have x1:rQ c (upd (upd H da (.own a)) a (.ins c.M da (fM (.str m.s) f (.int m.a) (.int m.p)))) (.ref a) m:=⟨a,da,f,rfl,eO,hf.mono (fC.tk S1),hd,ho⟩
 obtain⟨n1,r1,r2⟩:=M1.nl (o:= .lst (mv++[.ref a])) (S1 _ _ g1)
 exact q _ ⟨n1,M1.b.addM (S1 _ _ g1) x1,r1,r2,M.ne⟩ ((FL.same S1).trans (wV (by simp[La.ch,Ad.ls])))
end
structure Le (s s':Ls):Prop where
 p:s.D.pts.length<=s'.D.pts.length
 m:s.D.mks.length<=s'.D.mks.length
 u:s.D.uss.length<=s'.D.uss.length
 f:s.D.fls.length<=s'.D.fls.length
theorem Le.refl (s:Ls):Le s s:=⟨cb _,cb _,cb _,cb _⟩
theorem Le.trans {a b c:Ls} (h:Le a b) (k:Le b c):Le a c:=⟨b0 h.p k.p,b0 h.m k.m,b0 h.u k.u,b0 h.f k.f⟩
theorem Le.sz {a b:Ls} {n:Nat} (h:Le a b) (k:Sz n b):Sz n a:=⟨b0 h.p k.p,b0 h.m k.m,b0 h.u k.u,b0 h.f k.f⟩
theorem E6 {α:Type} (l:List α) (a:α):l.length<=(l++[a]).length:=by rw[aN];lia
section
variable {s s':Ls}
theorem Le.pt {p:Int}:Le s (s.pt p):=⟨E6 _ _,cb _,cb _,cb _⟩
theorem Le.mk' {p:Mkg}:Le s (s.mk' p):=⟨cb _,E6 _ _,cb _,cb _⟩
theorem Le.us {p:Us}:Le s (s.us p):=⟨cb _,cb _,E6 _ _,cb _⟩
theorem Le.fl {p q:Int}:Le s (s.fl p q):=⟨cb _,cb _,cb _,E6 _ _⟩
theorem Le.ho {p q:Int}:Le s (s.hold p q):=⟨cb _,cb _,cb _,cb _⟩
theorem Le.be {p q:Int}:Le s (s.begin p q):=⟨cb _,cb _,cb _,cb _⟩
end
def Lmo (L:Lf):Prop:=∀p s q s',L p s=some (q,s')->Le s s'
section
variable {L:Lf} (hL:Lmo L)
include hL
theorem L1 {p:Int} {s:Ls} {α:Type} {g:Int->Ls->Option α} {a:α} (h:(match L p s with|some (q,s)=>g q s|none=>none)=some a):∃q s1,L p s=some (q,s1)/\g q s1=some a/\Le s s1:=by
 cases e:L p s with
 |none=>rw[e]at h;cases h
 |some z=>obtain⟨q,s1⟩:=z;rw[e]at h;exact⟨q,s1,rfl,h,hL _ _ _ _ e⟩
theorem vE:∀{l acc:List (Str×Int)} {s:Ls} {r:List (Str×Int)×Ls},r9 L l acc s=some r->Le s r.2/\r.1.length=acc.length+l.length
 |[],acc,s,r,h=>by cases h;exact⟨Le.refl _,rfl⟩
 |p::l,acc,s,r,h=>by
  obtain⟨q,s1,_,h2,l1⟩:=L1 hL h
  obtain⟨a,b⟩:=vE h2
  exact⟨l1.trans a,by rw[b,aN,aU,ay];lia⟩
theorem vF {p own:Int}:∀{l:List (Str×Str×Int)} {acc:List (Str×Int)} {s:Ls} {r:List (Str×Int)×Ls},ui L p own l acc s=some r->Le s r.2/\r.1.length=acc.length+l.length
 |[],acc,s,r,h=>by cases h;exact⟨Le.refl _,rfl⟩
 |a::l,acc,s,r,h=>by
  obtain⟨q,s1,_,h2,l1⟩:=L1 hL h
  obtain⟨x,b⟩:=vF h2
  exact⟨((Le.pt.trans Le.ho).trans l1).trans (Le.fl.trans x),by rw[b,aN,aU,ay];lia⟩
theorem vG {th:Int}:∀{l:List Int} {s s':Ls},tO L th l s=some s'->Le s s'
 |[],s,s',h=>by cases h;exact Le.refl _
 |k::l,s,s',h=>by
  obtain⟨q,s1,_,h2,l1⟩:=L1 hL h
  exact l1.trans (Le.fl.trans (vG h2))
theorem yN {a b p:Int} {s s':Ls} (h:jM L a b p s=some s'):Le s s':=by
 obtain⟨x,s1,_,h,l1⟩:=L1 hL h
 obtain⟨y,s2,_,h,l2⟩:=L1 hL h
 cases h
 exact(l1.trans l2).trans (Le.us.trans Le.us)
theorem Eh {roots:List Nat} {d:Int} {s:Ls} {r:Int×Ls} (h:qv L roots d s=some r):Le s r.2:=by
 unfold qv at h
 cases e:atZ roots d with
 |none=>rw[e]at h;cases h
 |some z=>
  rw[e]at h
  obtain⟨q,s1,_,h,l1⟩:=L1 hL h
  cases h
  exact((Le.pt.trans Le.be).trans l1).trans Le.fl
theorem Al {roots:List Nat} {h0:Hm} {p:Int} {s:Ls} {r:Int×Ls} (h:ia L roots h0 p s=some r):Le s r.2:=by
 unfold ia at h
 split at h
 ·exact hL _ _ _ _ h
 ·split at h
  ·split at h
   ·obtain⟨q,_,rfl⟩:=cB.mp h;exact Le.refl _
   ·exact Eh hL h
  ·obtain⟨q,_,rfl⟩:=cB.mp h;exact Le.refl _
theorem yO {roots:List Nat} {ho:Option Hm} {p own:Int} {s s':Ls} {ρ:Ro} (h:hV L roots ho p own s ρ=some s'):Le s s':=by
 cases ρ with
 |num n=>cases h;exact Le.mk'
 |name w=>
  cases ho with
  |none=>cases h
  |some h0=>
   have h:(match ia L roots h0 p s with|some (q,s)=>some (s.fl q own)|none=>none)=some s':=h
   cases e:ia L roots h0 p s with
   |none=>rw[e]at h;cases h
   |some z=>rw[e]at h;cases h;exact(Al hL e).trans Le.fl
 |fn w k=>
  obtain⟨q,s1,_,h,l1⟩:=L1 hL h
  cases h
  exact((Le.pt.trans Le.ho).trans l1).trans Le.mk'
 |lt w a b=>
  obtain⟨_,s1,_,h,l1⟩:=L1 hL h
  obtain⟨q,s2,_,h,l2⟩:=L1 hL h
  cases h
  exact(l1.trans l2).trans Le.fl
 |rcd l=>
  have h:(match r9 L l [] s with|some (fs,s)=>some (s.mk' ⟨"rec",prD fs,own,p⟩)|none=>none)=some s':=h
  cases e:r9 L l [] s with
  |none=>rw[e]at h;cases h
  |some z=>rw[e]at h;cases h;exact(vE hL e).1.trans Le.mk'
 |get k w=>
  obtain⟨q,s1,_,h,l1⟩:=L1 hL h
  cases h
  exact l1.trans Le.us
 |tag w k=>
  obtain⟨q,s1,_,h,l1⟩:=L1 hL h
  cases h
  exact l1.trans Le.mk'
 |case k l=>
  obtain⟨q,s1,_,h,l1⟩:=L1 hL h
  cases e:ui L p own l [] s1 with
  |none=>rw[e]at h;cases h
  |some z=>rw[e]at h;cases h;exact(l1.trans (vF hL e).1).trans Le.us
 |row ks=>
  have h:(match tO L s.n ks (s.pt p)with|some s2=>some (s2.mk' (mkR s.n own p))|none=>none)=some s':=h
  cases e:tO L s.n ks (s.pt p)with
  |none=>rw[e]at h;cases h
  |some z=>rw[e]at h;cases h;exact(Le.pt.trans (vG hL e)).trans Le.mk'
 |op o ks=>
  match ks,h with
  |[],h=>cases h
  |[a],h=>
   simp only[hV]at h
   split at h
   ·obtain⟨q,s1,_,h,l1⟩:=L1 hL h
    cases h
    exact(Le.pt.trans l1).trans (Le.us.trans Le.mk')
   ·cases h
  |[a,b],h=>
   simp only[hV]at h
   split at h
   ·obtain⟨x,s1,_,h,l1⟩:=L1 hL h
    obtain⟨y,s2,_,h,l2⟩:=L1 hL h
    cases h
    exact(l1.trans l2).trans Le.us
   ·split at h
    ·obtain⟨x,s1,_,h,l1⟩:=L1 hL h
     obtain⟨y,s2,_,h,l2⟩:=L1 hL h
     cases h
     exact((Le.pt.trans l1).trans l2).trans ((Le.us.trans Le.us).trans Le.mk')
    ·split at h
     ·cases e:jM L a b p (s.pt p)with
      |none=>rw[e]at h;cases h
      |some z=>rw[e]at h;cases h;exact(Le.pt.trans (yN hL e)).trans ((Le.mk'.trans Le.mk').trans Le.mk')
     ·split at h
      ·cases e:jM L a b p s with
       |none=>rw[e]at h;cases h
       |some z=>rw[e]at h;cases h;exact(yN hL e).trans Le.mk'
      ·cases h
  |[a,b,c],h=>
   simp only[hV]at h
   split at h
   ·obtain⟨x,s1,_,h,l1⟩:=L1 hL h
    obtain⟨y,s2,_,h,l2⟩:=L1 hL h
    obtain⟨z,s3,_,h,l3⟩:=L1 hL h
    cases h
    exact((l1.trans l2).trans l3).trans ((Le.us.trans Le.us).trans Le.fl)
   ·cases h
  |_::_::_::_::_,h=>cases h
end
theorem gy {ρs:List Ro} {roots:List Nat} {ho:Nat->Option Hm}:∀f,Lmo (iE ρs roots ho f)
 |0,p,s,q,s',h=>by cases h
 |f+ 1,p,s,q,s',h=>by
  unfold iE at h
  cases e:atZ ρs p with
  |none=>rw[e]at h;cases h
  |some ρ=>
   rw[e]at h
   have h:(match hV (iE ρs roots ho f) roots (ho p.toNat) p s.n (s.pt p) ρ with|some s2=>some (s.n,s2)|none=>none)=some (q,s'):=h
   cases e2:hV (iE ρs roots ho f) roots (ho p.toNat) p s.n (s.pt p) ρ with
   |none=>rw[e2]at h;cases h
   |some s2=>rw[e2]at h;cases h;exact Le.pt.trans (yO (gy f) e2)
def hoD:Option Hm->Dt
 |none=> .flat .non
 |some h=>hmD h
theorem Cy {f:Str} {v:V} {r:List (Str×V)}:az f ((f,v)::r)=some v:=by
 rw[aW,show(f==f)=true by simp]
theorem Cz {f g:Str} {v:V} {r:List (Str×V)} (h:(f==g)=false):az f ((g,v)::r)=az f r:=by
 rw[aW,h]
def fP (n r w:Addr):List (Str×V):=[("names",.ref n),("roots",.ref r),("rows",.ref w)]
theorem Am (n r w:Addr):(fP n r w).lookup ("names":Str)=some (.ref n):=Cy
theorem pf (n r w:Addr):(fP n r w).lookup ("roots":Str)=some (.ref r):=(Cz fS).trans Cy
theorem yP (n r w:Addr):(fP n r w).lookup ("rows":Str)=some (.ref w):=(Cz fS).trans ((Cz fS).trans Cy)
def nI (k:Nat):V:= .int (k:Int)
structure PrA (C:Addr) (H:Hp) (p n r w dx:Addr) (xs:List V) (names:List Str) (roots:List Nat) (ρs:List Ro):Prop where
 o:H p=some (.ins C dx (fP n r w))
 n:H n=some (.lst (names.map V.str))
 r:H r=some (.lst (roots.map nI))
 w:H w=some (.lst xs)
 i:Ims H xs (ρs.map Ro.d)
theorem PrA.same {C:Addr} {H H':Hp} {p n r w dx:Addr} {xs:List V} {names:List Str} {roots:List Nat} {ρs:List Ro} (h:PrA C H p n r w dx xs names roots ρs) (s:fC H H'):PrA C H' p n r w dx xs names roots ρs:=⟨s _ _ h.o,s _ _ h.n,s _ _ h.r,s _ _ h.w,h.i.mono (fC.tk s)⟩
theorem jx {H:Hp}:∀{xs:List V} {ds:List Dt} {j:Nat} {x:V},Ims H xs ds->xs[j]?=some x->∃d,ds[j]?=some d/\Im H x d
 |_,_,0,_,.cons h _,e=>⟨_,rfl,by cases e;exact h⟩
 |_,_,j+ 1,_,.cons _ t,e=>by
  rw[bo]at e
  obtain⟨d,e1,e2⟩:=jx t e
  exact⟨d,by rw[bo];exact e1,e2⟩
theorem CA {H:Hp} {xs:List V} {ρs:List Ro} {k:Nat} {ρ:Ro} (h:Ims H xs (ρs.map Ro.d)) (e:ρs[k]?=some ρ):∃(t:Addr) (ys:List V),xs[k]?=some (.ref t)/\H t=some (.tup (.str ρ.s::ys))/\Ims H ys ρ.r/\Im H (.ref t) ρ.d:=by
 have lx:=h.length
 rw[aB]at lx
 have hk:=(aq.mp e).1
 obtain⟨d,hd,him⟩:=jx h (ba (show k<xs.length by lia))
 rw[aJ,e]at hd
 cases hd
 have h0:xs[k]?=some xs[k]:=ba (by lia)
 generalize xs[k]=v at h0 him
 have him':=him
 cases him with
 |@tup t ys _ et hs=>
  cases hs with
  |cons a hs=>
   cases a
   exact⟨t,_,h0,et,hs,him'⟩
theorem km {H:Hp} {t:Addr} {ρ:Ro} (h:Im H (.ref t) ρ.d):∃ys,H t=some (.tup (.str ρ.s::ys))/\Ims H ys ρ.r:=by
 unfold Ro.d at h
 cases h with
 |tup e i=>
  cases i with
  |cons a i=>cases a;exact⟨_,e,i⟩
abbrev hdT (i:Nat) (x:Str):TT:=cT (tOp (cEq false) (tOp A4 (cV i) (tC (.int 0))) (tC (.str x)))
theorem vH {i:Nat} {x s:Str} {t:Addr} {ys:List V} {σ:St} {H:Hp} {k:Bool->Hp->Prop} {b:Bool} (hσ:σ[i]?=some (some (.ref t))) (et:H t=some (.tup (.str s::ys))) (e:decide (s=x)=b) (h:k b H):hdT i x σ H k:=by
 show onV σ[i]? _
 rw[hσ]
 refine⟨_,et,eX (eU (j:=0) rfl) ?_⟩
 dsimp only[tC,cEq,onB]
 rw[dW,e]
 exact h
theorem oM {i:Nat} {x s:Str} {t:Addr} {ys:List V} {σ:St} {H:Hp} {T u:TS} {D:nH} (hσ:σ[i]?=some (some (.ref t))) (et:H t=some (.tup (.str s::ys))) (e:decide (s=x)=false) (h:u D σ H):ve (hdT i x) T u D σ H:=vH hσ et e (jo h)
theorem oN {i:Nat} {x s:Str} {t:Addr} {ys:List V} {σ:St} {H:Hp} {T u:TS} {D:nH} (hσ:σ[i]?=some (some (.ref t))) (et:H t=some (.tup (.str s::ys))) (e:decide (s=x)=true) (h:T D σ H):ve (hdT i x) T u D σ H:=vH hσ et e (jL h)
theorem uI {H:Hp} {x:V} {a b:Dt} (h:Im H x (.tup [a,b])):∃t y z,x= .ref t/\H t=some (.tup [y,z])/\Im H y a/\Im H z b:=by
 cases h with
 |tup e i=>
  cases i with
  |cons h1 i=>
   cases i with
   |cons h2 i=>cases i;exact⟨_,_,_,rfl,e,h1,h2⟩
theorem f9 {α:Type} {l:List α} {i:Int} {a:α} (h:atZ l i=some a):∃k:Nat,i=(k:Int)/\l[k]?=some a:=by
 cases i with
 |ofNat k=>exact⟨k,rfl,h⟩
 |negSucc k=>cases h
theorem ip {H:Hp} {t:Addr} {xs:List V} {ds:List Dt} (h:H t=none) (i:Ims H xs ds):Im (L2.Internal.upd H t (.tup xs)) (.ref t) (.tup ds):= .tup eO (i.mono (fC.tk (eS h _)))
def Ro.few:Ro->Prop
 | .rcd l=>l.length<=10
 | .case _ l=>l.length<=10
 | .row ks=>ks.length<=1000
 |_=>True
structure Cp (CP:Addr) (H:Hp) (A:La) (names:List Str) (roots:List Nat) (ρs:List Ro) (ho:Nat->Option Hm):Prop where
 p:∃n r w dx xs,PrA CP H A.p n r w dx xs names roots ρs/\A.p∉A.ch/\n∉A.ch/\r∉A.ch/\w∉A.ch
 h:∃hs,H A.h=some (.lst hs)/\A.h∉A.ch/\∀(k:Nat) (ρ:Ro),ρs[k]?=some ρ->∃y,hs[k]?=some y/\Im H y (hoD (ho k))
 few:∀(k:Nat) (ρ:Ro),ρs[k]?=some ρ->ρ.few
 dom:∀(k:Nat) (h:Hm),ho k=some h->h.1="def"->∃d:Nat,h.2=(d:Int)/\d<roots.length
theorem Cp.fl {CL CP:Addr} {c:Cs} {H H':Hp} {A:La} {s:Ls} {names:List Str} {roots:List Nat} {ρs:List Ro} {ho:Nat->Option Hm} (x:Cp CP H A names roots ρs ho) (M:Lm CL c H A s) (F:FL A H H'):Cp CP H' A names roots ρs ho:=by
 have k:=M.tk F
 obtain⟨⟨n,r,w,dx,xs,pr,n1,n2,n3,n4⟩,⟨hs,e,n5,hh⟩,fw,dm⟩:=x
 exact⟨⟨n,r,w,dx,xs,⟨F _ _ pr.o n1,F _ _ pr.n n2,F _ _ pr.r n3,F _ _ pr.w n4,pr.i.mono k⟩,n1,n2,n3,n4⟩,⟨hs,F _ _ e n5,n5,fun j ρ hj=>let⟨y,a,b⟩:=hh j ρ hj;⟨y,a,b.mono k⟩⟩,fw,dm⟩
theorem DkI.put {H:Hp} {a:Addr} {g:Int->Option Int} {n:Nat} (h:DkI H a g n) (hn:n<10000000) (k v:Int):∃H',xN H a (.int k) (.int v) H'/\(∃o,H'=L2.Internal.upd H a (.dK o))/\DkI H' a (put g k v) (n+ 1):=by
 have sl:=sizeLine_eq
 obtain⟨kvs,e,l,r⟩:=h
 refine⟨_,xN.k (k:=(Sum.inl k:Key)) e (by lia),⟨_,rfl⟩,_,eO,b0 (ky _ _ _) (by lia),fun x=>?_⟩
 rw[rG]
 unfold K23.Internal.put
 by_cases h:x=k
 ·rw[fY (by rw[h]),fY h];rfl
 ·rw[fN (fun z=>h (by injection z)),fN h];exact r x
theorem DkI.get {H:Hp} {a:Addr} {g:Int->Option Int} {n:Nat} (h:DkI H a g n) {k v:Int} (e:g k=some v):sY H a (.int k) (some (.int v)):=by
 obtain⟨kvs,e1,l,r⟩:=h
 have z:=sY.k (k:=(Sum.inl k:Key)) e1
 rw[r k,e]at z
 exact z
theorem Bw.dk {c:Cs} {H:Hp} {A:Ad} {r:V} {D:Bd} (B:Bw c H A r D) {a:Addr} {kvs:List (Key×V)} {o:List (Key×V)} (e:H a=some (.dK kvs)):Bw c (L2.Internal.upd H a (.dK o)) A r D:=by
 obtain⟨b,e0,⟨mv,m1,m2⟩,⟨uv,u1,u2⟩,⟨fv,g1,g2⟩,nd⟩:=B
 have k:FK H (L2.Internal.upd H a (.dK o)):=fun b u q f=>by rw[eT (fun z=>by rw[z,e]at q;cases q;exact f.elim)];exact q
 have ne:∀{b:Addr} {u:HO},H b=some u->(∀l,u≠ .dK l)->(L2.Internal.upd H a (.dK o)) b=some u:=fun q n=>by rw[eT (jm q e (n _))];exact q
 exact⟨ne b (fun _ z=>nomatch z),ne e0 (fun _ z=>nomatch z),⟨mv,ne m1 (fun _ z=>nomatch z),m2.imp fun _ _=>rQ.mono k⟩,⟨uv,ne u1 (fun _ z=>nomatch z),u2.imp fun _ _=>pK.mono k⟩,⟨fv,ne g1 (fun _ z=>nomatch z),g2.mono k.tk⟩,nd⟩
theorem Lm.hold {CL:Addr} {c:Cs} {H:Hp} {A:La} {s:Ls} (M:Lm CL c H A (s.pt p0)) (hs:DkI H A.hd s.held s.D.pts.length) (hn:s.D.pts.length<1000000) (k v:Int):∃H',xN H A.hd (.int k) (.int v) H'/\Lm CL c H' A ((s.pt p0).hold k v)/\FL A H H':=by
 obtain⟨H',d,⟨o,rfl⟩,h⟩:=hs.put (by lia) k v
 obtain⟨kvs,e,_⟩:=hs
 obtain⟨o1,b,_,⟨k2,d2,r2⟩,ne⟩:=M
 have lp:(s.D.pts++[p0]).length=s.D.pts.length+ 1:=by rw[aN];rfl
 refine⟨_,d,⟨by rw[eT (jm o1 e (fun z=>nomatch z))];exact o1,Bw.dk b e,?_,⟨k2,by rw[eT ne.symm];exact d2,r2⟩,ne⟩,wV (by simp[La.ch])⟩
 show DkI _ A.hd (put s.held k v) (s.D.pts++[p0]).length
 rw[lp]
 exact h
inductive XLa (CL CP:Addr) (c:Cs) (f:Nat) (vs:List V) (H:Hp) (Q:VK):Prop
 |mk (A:La) (s s':Ls) (p r:Int) (names:List Str) (roots:List Nat) (ρs:List Ro) (ho:Nat->Option Hm) (e:vs=[.ref A.l,.int p]) (M:Lm CL c H A s) (C:Cp CP H A names roots ρs ho) (hl:iE ρs roots ho f p s=some (r,s')) (hz:Sz 1000000 s') (q:∀H',Lm CL c H' A s'->FL A H H'->Q (.int r) H')
def jJ (CL CP:Addr) (c:Cs) (f:Nat):Sp:=fun vs H Q _=>XLa CL CP c f vs H Q
inductive XL (CL CP:Addr) (c:Cs) (f:Nat) (U:Ro->Prop) (vs:List V) (H:Hp) (Q:VK):Prop
 |mk (A:La) (s s':Ls) (p own:Int) (t:Addr) (ρ:Ro) (names:List Str) (roots:List Nat) (ρs:List Ro) (ho:Nat->Option Hm) (e:vs=[.ref A.l,.ref t,.int p,.int own]) (M:Lm CL c H A s) (C:Cp CP H A names roots ρs ho) (hk:atZ ρs p=some ρ) (hu:U ρ) (it:Im H (.ref t) ρ.d) (hl:hV (iE ρs roots ho f) roots (ho p.toNat) p own s ρ=some s') (hz:Sz 1000000 s') (q:∀H',Lm CL c H' A s'->FL A H H'->Q .non H')
def iF (CL CP:Addr) (c:Cs) (f:Nat) (U:Ro->Prop):Sp:=fun vs H Q _=>XL CL CP c f U vs H Q
theorem jN {H:Hp} {x:V} {k:Int} (h:Im H x (kD k)):x= .int k:=by cases h;rfl
theorem kX {H:Hp} {x:V} {k:Str} (h:Im H x (sD k)):x= .str k:=by cases h;rfl
theorem A8 {H:Hp} {xs:List V} {d:Dt} (h:Ims H xs [d]):∃x,xs=[x]/\Im H x d:=by
 cases h with
 |cons a i=>cases i;exact⟨_,rfl,a⟩
theorem Ao {H:Hp} {xs:List V} {d e:Dt} (h:Ims H xs [d,e]):∃x y,xs=[x,y]/\Im H x d/\Im H y e:=by
 cases h with
 |cons a i=>obtain⟨y,rfl,b⟩:=A8 i;exact⟨_,_,rfl,a,b⟩
theorem E7 {H:Hp} {xs:List V} {d e g:Dt} (h:Ims H xs [d,e,g]):∃x y z,xs=[x,y,z]/\Im H x d/\Im H y e/\Im H z g:=by
 cases h with
 |cons a i=>obtain⟨y,z,rfl,b⟩:=Ao i;exact⟨_,_,_,rfl,a,b⟩
theorem FL.tup {CL:Addr} {c:Cs} {H H':Hp} {A:La} {s:Ls} (F:FL A H H') (M:Lm CL c H A s) {t:Addr} {xs:List V} (e:H t=some (.tup xs)):H' t=some (.tup xs):=M.tk F _ _ e
theorem fE {p h b hd sd:Addr}:(fLy p h b hd sd).lookup ("board":Str)=some (.ref b):=ot.2.2.2.1
theorem uJ {p h b hd sd:Addr}:(fLy p h b hd sd).lookup ("held":Str)=some (.ref hd):=ot.2.2.2.2.1
theorem iq {CL CP:Addr} {c:Cs} {f:Nat} {H:Hp} {A:La} {s s':Ls} {p r:Int} {names:List Str} {roots:List Nat} {ρs:List Ro} {ho:Nat->Option Hm} {Q:VK} (M:Lm CL c H A s) (C:Cp CP H A names roots ρs ho) (hl:iE ρs roots ho f p s=some (r,s')) (hz:Sz 1000000 s') (q:∀H',Lm CL c H' A s'->FL A H H'->Cp CP H' A names roots ρs ho->TK H H'->Q (.int r) H'):jJ CL CP c f [.ref A.l,.int p] H Q E0:=
 ⟨A,s,s',p,r,names,roots,ρs,ho,rfl,M,C,hl,hz,fun H' M' F'=>q H' M' F' (C.fl M F') (M.tk F')⟩
theorem iX {CL:Addr} {c:Cs} {H:Hp} {A:La} {s:Ls} {Q:VK} {a:Addr} {xs:List V} {ds:List Dt} {w:Str} {o p:Int} (M:Lm CL c H A s) (hz:Sz 1000000 s) (ha:H a=none) (i:Ims H xs ds) (hd:jb (.tup ds)<=2) (ho:okD (.tup ds)) (q:∀H',Lm CL c H' A (s.mk' ⟨w,.tup ds,o,p⟩)->FL A H H'->Q .non H'):kO c.B c.M [.ref A.B.b,.str w,.ref a,.int o,.int p] (L2.Internal.upd H a (.tup xs)) Q E0:=
 Cw (m:=⟨w,.tup ds,o,p⟩) (M.same (eS ha _)) (by have:=hz.m;lia) (ip ha i) hd ho fun H' M' F'=>q H' M' ((FL.same (eS ha _)).trans F')
theorem ki {CL:Addr} {c:Cs} {H:Hp} {A:La} {s:Ls} {Q:VK} {x dx:Addr} {o:HO} {u:Us} (M:Lm CL c H A s) (hz:Sz 1000000 s) (hx:H x=none) (hd:H dx=none) (hu:pK c (L2.Internal.upd (L2.Internal.upd H dx (.own x)) x o) (.ref x) u) (q:∀H',Lm CL c H' A (s.us u)->FL A H H'->Q .non H'):lO c.B [.ref A.B.b,.ref x] (L2.Internal.upd (L2.Internal.upd H dx (.own x)) x o) Q E0:=
 Eg (M.same (iW hx hd)) (by have:=hz.u;lia) hu fun H' M' F'=>q H' M' ((FL.same (iW hx hd)).trans F')
theorem tP {L:Lf} {roots:List Nat} {h:Option Hm} {p own:Int} {s s':Ls} {o:Str} {ks:List Int} (h1:o≠"size") (h2:o≠"at") (hl:hV L roots h p own s (.op o ks)=some s'):∃a b,ks=[a,b]:=by
 match ks,hl with
 |[],hl=>exact nomatch(show(none:Option Ls)=some s' from hl)
 |[a],hl=>exact nomatch((fN h1).symm.trans hl)
 |[a,b],_=>exact⟨a,b,rfl⟩
 |[a,b,c],hl=>exact nomatch((fN h2).symm.trans hl)
 |_::_::_::_::_,hl=>exact nomatch(show(none:Option Ls)=some s' from hl)
def cs (T:Txt K mg):Cs:=⟨T.c1.a,T.c3.a,T.c4.a,T.c5.a,T.c6.a,T.c7.a,T.c8.a⟩
theorem wW (T:Txt K mg) (f:Nat):FO P w base (5*f+ 7) T.d8 (iF T.c9.a T.c10.a (cs T) f fun ρ=>∃n,ρ= .num n):=by
 have gE65:=gk (P:=P) (w:=w) (base:=base) T
 refine T.d8.F.ok wK (fun vs H Q E h=>?_) (fun cdv A0 outer s0 H vs Q E hr h=>?_)
 ·obtain⟨A,s,s',p,own,t,ρ,names,roots,ρs,ho,rfl,_⟩:=h
  rfl
 obtain⟨A,s,s',p,own,t,ρ,names,roots,ρs,ho,rfl,M,C,hk,⟨n,rfl⟩,it,hl,hz,q⟩:=h
 refine⟨_,(eV (fo (e8 (fm (PE.mono (fj T.c9.cl T.n9board (cv 0))) T.c8.cl T.e65.me gE65 (hr.mono (by lia)) T.e65.b .nil fH (eN fD (eN (fz eP) (eN (cv 3) (eN (cv 2) eP)))))))),?_⟩
 cases cx.inj hl
 exact⟨_,⟨_,_,M.o,fE⟩,⟨_,_,M.b.b,gH _ _ _ _ _⟩,mh,fun a ha=>iX M (Le.mk'.sz hz) ha .nil (by decide) ⟨by decide,trivial⟩ q⟩
theorem wX (T:Txt K mg) (f:Nat) (gE71:MO P w base mg (5*f+ 3) T.e71 (jJ T.c9.a T.c10.a (cs T) f)):FO P w base (5*f+ 7) T.d17 (iF T.c9.a T.c10.a (cs T) f fun ρ=>X2 fun n k=>ρ= .tag n k):=by
 have gE65:=gk (P:=P) (w:=w) (base:=base) T
 refine T.d17.F.ok rj (fun vs H Q E h=>?_) (fun cdv A0 outer s0 H vs Q E hr h=>?_)
 ·obtain⟨A,s,s',p,own,t,ρ,names,roots,ρs,ho,rfl,_⟩:=h
  rfl
 obtain⟨A,s,s',p,own,t,ρ,names,roots,ρs,ho,rfl,M,C,hk,⟨n,k,rfl⟩,it,hl,hz,q⟩:=h
 refine⟨_,(eQ (pS (i:=4) rj.nd (e8 (fm (PE.mono (cv 0)) T.c9.cl T.e71.me gE71 (hr.mono (by lia)) T.e71.b .nil fH (eN (eZ fh (cv 1) eR) eP))))
  (eV (fo (e8 (fm (PE.mono (fj T.c9.cl T.n9board (cv 0))) T.c8.cl T.e65.me gE65 (hr.mono (by lia)) T.e65.b .nil fH (eN fD (eN (fz (eN (eZ fh (cv 1) eR) (eN (cv 4) eP))) (eN (cv 3) (eN (cv 2) eP))))))))),?_⟩
 obtain⟨ys,et,iy⟩:=km it
 obtain⟨y1,y2,rfl,i1,i2⟩:=Ao iy
 cases kX i1
 cases jN i2
 obtain⟨x,s1,h1,hl,_⟩:=L1 (gy f) hl
 have l1:Le s1 s':=by cases cx.inj hl;exact Le.mk'
 refine⟨⟨_,_,M.o,gZ fS⟩,_,et,eX (eU (j:=2) rfl) (iq M C h1 (l1.sz hz) fun H1 M1 F1 C1 k1=>?_)⟩
 cases cx.inj hl
 exact⟨_,⟨_,_,M1.o,fE⟩,⟨_,_,M1.b.b,gH _ _ _ _ _⟩,_,k1 _ _ et,eX (eU (j:=1) rfl) ⟨lQ,fun a ha=>iX M1 (Le.mk'.sz hz) ha (.cons (.flat rfl) (.cons (.flat rfl) .nil)) (by simp[jb,fV,sD,kD]) (by simp[okD,tq,sD,kD]) fun H' M' F'=>q H' M' (F1.trans F')⟩⟩
theorem wY (T:Txt K mg) (f:Nat) (gE71:MO P w base mg (5*f+ 3) T.e71 (jJ T.c9.a T.c10.a (cs T) f)):FO P w base (5*f+ 7) T.d16 (iF T.c9.a T.c10.a (cs T) f fun ρ=>X2 fun k n=>ρ= .get k n):=by
 have gE66:=gY (P:=P) (w:=w) (base:=base) T
 have gE57:=mU (P:=P) (w:=w) (base:=base) T
 refine T.d16.F.ok rh (fun vs H Q E h=>?_) (fun cdv A0 outer s0 H vs Q E hr h=>?_)
 ·obtain⟨A,s,s',p,own,t,ρ,names,roots,ρs,ho,rfl,_⟩:=h
  rfl
 obtain⟨A,s,s',p,own,t,ρ,names,roots,ρs,ho,rfl,M,C,hk,⟨k,n,rfl⟩,it,hl,hz,q⟩:=h
 refine⟨_,(eQ (pS (i:=4) rh.nd (e8 (fm (PE.mono (cv 0)) T.c9.cl T.e71.me gE71 (hr.mono (by lia)) T.e71.b .nil fH (eN (eZ fh (cv 1) eR) eP))))
  (eV (fo (e8 (fm (PE.mono (fj T.c9.cl T.n9board (cv 0))) T.c8.cl T.e66.me gE66 (hr.mono (by lia)) T.e66.b .nil fH (eN (je T.mk5 gE57 (hr.mono (by lia)) rfl T.c5.m T.e57.b .nil fH (eN (cv 4) (eN (cv 2) (eN eR (eN (fz (eN (fz (eN (eZ fh (cv 1) eR) (eN (cv 3) eP))) eP)) eP))))) eP)))))),?_⟩
 obtain⟨ys,et,iy⟩:=km it
 obtain⟨y1,y2,rfl,i1,i2⟩:=Ao iy
 cases jN i1
 cases kX i2
 obtain⟨x,s1,h1,hl,_⟩:=L1 (gy f) hl
 have l1:Le s1 s':=by cases cx.inj hl;exact Le.us
 refine⟨⟨_,_,M.o,gZ fS⟩,_,et,eX (eU (j:=1) rfl) (iq M C h1 (l1.sz hz) fun H1 M1 F1 C1 k1=>?_)⟩
 cases cx.inj hl
 refine⟨_,⟨_,_,M1.o,fE⟩,⟨_,_,M1.b.b,ij _ _ _ _ _⟩,_,k1 _ _ et,eX (eU (j:=2) rfl) ⟨lQ,fun a ha=>⟨lY,fun b hb x dx hx hdx nx=>⟨x,dx,_,_,_,_,rfl,eO,rfl,?_⟩⟩⟩⟩
 rw[gb]
 have S1:=eS ha (.tup [.str n,.int own])
 have S2:=eS hb (.tup [.ref a])
 have S3:=S1.trans S2
 have i3:=ip hb (.cons (ip ha (.cons (.flat rfl) (.cons (.flat rfl) .nil))) .nil)
 exact ki (u:= .take _ _ _ [(n,own)]) (M1.same S3) (Le.us.sz hz) hx hdx ⟨x,dx,_,rfl,eO,i3.mono (fC.tk (iW hx hdx)),by show 1<=10;decide⟩ fun H' M' F'=>q H' M' (F1.trans ((FL.same S3).trans F'))
theorem uK (T:Txt K mg) (f:Nat) (gE71:MO P w base mg (5*f+ 3) T.e71 (jJ T.c9.a T.c10.a (cs T) f)):FO P w base (5*f+ 7) T.d13 (iF T.c9.a T.c10.a (cs T) f fun ρ=>∃ks,ρ= .op "call" ks):=by
 have gE66:=gY (P:=P) (w:=w) (base:=base) T
 have gE55:=mS (P:=P) (w:=w) (base:=base) T
 refine T.d13.F.ok mJ (fun vs H Q E h=>?_) (fun cdv A0 outer s0 H vs Q E hr h=>?_)
 ·obtain⟨A,s,s',p,own,t,ρ,names,roots,ρs,ho,rfl,_⟩:=h
  rfl
 obtain⟨A,s,s',p,own,t,ρ,names,roots,ρs,ho,rfl,M,C,hk,⟨ks,rfl⟩,it,hl,hz,q⟩:=h
 refine⟨_,(eQ (pS (i:=4) mJ.nd (e8 (fm (PE.mono (cv 0)) T.c9.cl T.e71.me gE71 (hr.mono (by lia)) T.e71.b .nil fH (eN (eZ fh (cv 1) eR) eP))))
  (eQ (pS (i:=5) mJ.nd (e8 (fm (PE.mono (cv 0)) T.c9.cl T.e71.me gE71 (hr.mono (by lia)) T.e71.b .nil fH (eN (eZ fh (cv 1) eR) eP))))
  (eV (fo (e8 (fm (PE.mono (fj T.c9.cl T.n9board (cv 0))) T.c8.cl T.e66.me gE66 (hr.mono (by lia)) T.e66.b .nil fH (eN (je T.mk4 gE55 (hr.mono (by lia)) rfl T.c4.m T.e55.b .nil fH (eN (cv 4) (eN (cv 2) (eN eR (eN (cv 5) (eN (cv 3) eP)))))) eP))))))),?_⟩
 obtain⟨k1,k2,rfl⟩:=tP fS fS hl
 obtain⟨ys,et,iy⟩:=km it
 obtain⟨y1,y2,rfl,i1,i2⟩:=Ao iy
 cases jN i1
 cases jN i2
 obtain⟨x,s1,h1,hl,_⟩:=L1 (gy f) hl
 obtain⟨y,s2,h2,hl,l2⟩:=L1 (gy f) hl
 have l1:Le s2 s':=by cases cx.inj hl;exact Le.us
 refine⟨⟨_,_,M.o,gZ fS⟩,_,et,eX (eU (j:=1) rfl) (iq M C h1 ((l2.trans l1).sz hz) fun H1 M1 F1 C1 k1=>?_)⟩
 have e1:=k1 _ _ et
 refine⟨⟨_,_,M1.o,gZ fS⟩,_,e1,eX (eU (j:=2) rfl) (iq M1 C1 h2 (l1.sz hz) fun H2 M2 F2 C2 k2=>?_)⟩
 cases cx.inj hl
 refine⟨_,⟨_,_,M2.o,fE⟩,⟨_,_,M2.b.b,ij _ _ _ _ _⟩,fun x dx hx hdx nx=>⟨x,dx,_,_,_,_,_,rfl,eO,rfl,?_⟩⟩
 rw[gb]
 exact ki (u:= .call _ _ _ _ _) M2 (Le.us.sz hz) hx hdx ⟨x,dx,rfl,eO⟩ fun H' M' F'=>q H' M' (F1.trans (F2.trans F'))
theorem wZ (T:Txt K mg) (f:Nat) (gE71:MO P w base mg (5*f+ 3) T.e71 (jJ T.c9.a T.c10.a (cs T) f)):FO P w base (5*f+ 7) T.d14 (iF T.c9.a T.c10.a (cs T) f fun ρ=>X3 fun n a b=>ρ= .lt n a b):=by
 have gE67:=hG (P:=P) (w:=w) (base:=base) T
 refine T.d14.F.ok wL (fun vs H Q E h=>?_) (fun cdv A0 outer s0 H vs Q E hr h=>?_)
 ·obtain⟨A,s,s',p,own,t,ρ,names,roots,ρs,ho,rfl,_⟩:=h
  rfl
 obtain⟨A,s,s',p,own,t,ρ,names,roots,ρs,ho,rfl,M,C,hk,⟨n,a,b,rfl⟩,it,hl,hz,q⟩:=h
 refine⟨_,(eQ (fo (e8 (fm (PE.mono (cv 0)) T.c9.cl T.e71.me gE71 (hr.mono (by lia)) T.e71.b .nil fH (eN (eZ fh (cv 1) eR) eP))))
  (eV (fo (e8 (fm (PE.mono (fj T.c9.cl T.n9board (cv 0))) T.c8.cl T.e67.me gE67 (hr.mono (by lia)) T.e67.b .nil fH (eN (e8 (fm (PE.mono (cv 0)) T.c9.cl T.e71.me gE71 (hr.mono (by lia)) T.e71.b .nil fH (eN (eZ fh (cv 1) eR) eP))) (eN (cv 3) eP))))))),?_⟩
 obtain⟨ys,et,iy⟩:=km it
 obtain⟨y1,y2,y3,rfl,i1,i2,i3⟩:=E7 iy
 cases kX i1
 cases jN i2
 cases jN i3
 obtain⟨x,s1,h1,hl,_⟩:=L1 (gy f) hl
 obtain⟨y,s2,h2,hl,l2⟩:=L1 (gy f) hl
 have l1:Le s2 s':=by cases cx.inj hl;exact Le.fl
 refine⟨⟨_,_,M.o,gZ fS⟩,_,et,eX (eU (j:=2) rfl) (iq M C h1 ((l2.trans l1).sz hz) fun H1 M1 F1 C1 k1=>?_)⟩
 have e1:=k1 _ _ et
 refine⟨_,⟨_,_,M1.o,fE⟩,⟨_,_,M1.b.b,jz _ _ _ _ _⟩,⟨_,_,M1.o,gZ fS⟩,_,e1,eX (eU (j:=3) rfl) (iq M1 C1 h2 (l1.sz hz) fun H2 M2 F2 C2 k2=>?_)⟩
 cases cx.inj hl
 exact ou M2 (by have:=(Le.fl.sz hz:Sz _ s2).f;lia) fun H' M' F'=>q H' M' (F1.trans (F2.trans F'))
theorem Ei {L:Lf} {roots:List Nat} {h:Option Hm} {p own:Int} {s s':Ls} {ks:List Int} (hl:hV L roots h p own s (.op "size" ks)=some s'):∃a,ks=[a]:=by
 match ks,hl with
 |[],hl=>exact nomatch(show(none:Option Ls)=some s' from hl)
 |[a],hl=>exact⟨a,rfl⟩
 |[a,b],hl=>exact nomatch(show(none:Option Ls)=some s' from hl)
 |[a,b,c],hl=>exact nomatch(show(none:Option Ls)=some s' from hl)
 |_::_::_::_::_,hl=>exact nomatch(show(none:Option Ls)=some s' from hl)
theorem Ap {L:Lf} {roots:List Nat} {h:Option Hm} {p own:Int} {s s':Ls} {ks:List Int} (hl:hV L roots h p own s (.op "at" ks)=some s'):∃a b c,ks=[a,b,c]:=by
 match ks,hl with
 |[],hl=>exact nomatch(show(none:Option Ls)=some s' from hl)
 |[a],hl=>exact nomatch(show(none:Option Ls)=some s' from hl)
 |[a,b],hl=>exact nomatch(show(none:Option Ls)=some s' from hl)
 |[a,b,c],hl=>exact⟨a,b,c,rfl⟩
 |_::_::_::_::_,hl=>exact nomatch(show(none:Option Ls)=some s' from hl)
theorem tQ {L:Lf} (hL:Lmo L) {a b p:Int} {s s':Ls} (h:jM L a b p s=some s'):∃x s1 y s2,L a s=some (x,s1)/\L b s1=some (y,s2)/\s'=(s2.us (.num x p 0)).us (.num y p 1)/\Le s1 s2/\Le s s1:=by
 obtain⟨x,s1,h1,hl,l1⟩:=L1 hL h
 obtain⟨y,s2,h2,hl,l2⟩:=L1 hL hl
 exact⟨x,s1,y,s2,h1,h2,(cx.inj hl).symm,l2,l1⟩
theorem N1 {L:Lf} (hL:Lmo L) {a b p:Int} {s s':Ls} {g:Ls->Option Ls} (h:(match jM L a b p s with|some s=>g s|none=>none)=some s'):∃s1,jM L a b p s=some s1/\g s1=some s':=by
 cases e:jM L a b p s with
 |none=>rw[e]at h;cases h
 |some z=>rw[e]at h;exact⟨z,rfl,h⟩
theorem tn1 {σ:St} {H:Hp} {k:List V->Hp->Prop} (h:k [] H):sP σ H k:=h
theorem tc1 {i:Nat} {v:V} {σ:St} {H:Hp} {k:List V->Hp->Prop} (e:σ[i]?=some (some v)) (h:k [v] H):jA (cV i) sP σ H k:=by
 show onV σ[i]? _
 rw[e]
 exact h
theorem tc2 {i j:Nat} {v u:V} {σ:St} {H:Hp} {k:List V->Hp->Prop} (e:σ[i]?=some (some v)) (e2:σ[j]?=some (some u)) (h:k [v,u] H):jA (cV i) (jA (cV j) sP) σ H k:=by
 show onV σ[i]? _
 rw[e]
 exact tc1 (k:=fun xs H2=>k (v::xs) H2) e2 h
theorem CB {s:Ls} {p:Int} (h:(s.pt p).D.pts.length<=1000000):s.D.pts.length<1000000:=by
 have h:(s.D.pts++[p]).length<=1000000:=h
 rw[aN,aU]at h
 lia
inductive XNu (CL CP:Addr) (c:Cs) (f:Nat) (vs:List V) (H:Hp) (Q:VK):Prop
 |mk (A:La) (s s':Ls) (p a b:Int) (t:Addr) (o:V) (names:List Str) (roots:List Nat) (ρs:List Ro) (ho:Nat->Option Hm) (e:vs=[.ref A.l,.ref t,.int p]) (M:Lm CL c H A s) (C:Cp CP H A names roots ρs ho) (it:H t=some (.tup [o,.int a,.int b])) (hl:jM (iE ρs roots ho f) a b p s=some s') (hz:Sz 1000000 s') (q:∀H',Lm CL c H' A s'->FL A H H'->Q .non H')
def Ga (CL CP:Addr) (c:Cs) (f:Nat):Sp:=fun vs H Q _=>XNu CL CP c f vs H Q
theorem mf (T:Txt K mg) (f:Nat) (gE71:MO P w base mg (5*f+ 3) T.e71 (jJ T.c9.a T.c10.a (cs T) f)):FO P w base (5*f+ 5) T.d25 (Ga T.c9.a T.c10.a (cs T) f):=by
 have gE66:=gY (P:=P) (w:=w) (base:=base) T
 have gE53:=gJ (P:=P) (w:=w) (base:=base) T
 refine T.d25.F.ok kg (fun vs H Q E h=>?_) (fun cdv A0 outer s0 H vs Q E hr h=>?_)
 ·obtain⟨A,s,s',p,a,b,t,o,names,roots,ρs,ho,rfl,_⟩:=h
  rfl
 obtain⟨A,s,s',p,a,b,t,o,names,roots,ρs,ho,rfl,M,C,et,hl,hz,q⟩:=h
 refine⟨_,(eQ (pS (i:=3) kg.nd (e8 (fm (PE.mono (cv 0)) T.c9.cl T.e71.me gE71 (hr.mono (by lia)) T.e71.b .nil fH (eN (eZ fh (cv 1) eR) eP))))
  (eQ (pS (i:=4) kg.nd (e8 (fm (PE.mono (cv 0)) T.c9.cl T.e71.me gE71 (hr.mono (by lia)) T.e71.b .nil fH (eN (eZ fh (cv 1) eR) eP))))
  (eQ (fo (e8 (fm (PE.mono (fj T.c9.cl T.n9board (cv 0))) T.c8.cl T.e66.me gE66 (hr.mono (by lia)) T.e66.b .nil fH (eN (je T.mk3 gE53 (hr.mono (by lia)) rfl T.c3.m T.e53.b .nil fH (eN (cv 3) (eN (cv 2) (eN eR eP)))) eP))))
  (eV (fo (e8 (fm (PE.mono (fj T.c9.cl T.n9board (cv 0))) T.c8.cl T.e66.me gE66 (hr.mono (by lia)) T.e66.b .nil fH (eN (je T.mk3 gE53 (hr.mono (by lia)) rfl T.c3.m T.e53.b .nil fH (eN (cv 4) (eN (cv 2) (eN eR eP)))) eP)))))))),?_⟩
 obtain⟨x,s1,y,s2,h1,h2,rfl,l2,l1⟩:=tQ (gy f) hl
 have l3:Le s2 ((s2.us (.num x p 0)).us (.num y p 1)):=Le.us.trans Le.us
 refine⟨⟨_,_,M.o,gZ fS⟩,_,et,eX (eU (j:=1) rfl) (iq M C h1 ((l2.trans l3).sz hz) fun H1 M1 F1 C1 k1=>?_)⟩
 have e1:=k1 _ _ et
 refine⟨⟨_,_,M1.o,gZ fS⟩,_,e1,eX (eU (j:=2) rfl) (iq M1 C1 h2 (l3.sz hz) fun H2 M2 F2 C2 k2=>?_)⟩
 refine⟨_,⟨_,_,M2.o,fE⟩,⟨_,_,M2.b.b,ij _ _ _ _ _⟩,fun z dz hx hdx nx=>⟨z,_,dz,_,_,_,rfl,eO,T.c3.cl,T.n3at,T.n3place,T.n3slot,rfl,?_⟩⟩
 rw[gb]
 refine tn1 (ki (u:= .num x p 0) M2 (l3.sz hz) hx hdx ⟨z,dz,rfl,eO⟩ fun H3 M3 F3=>?_)
 refine⟨_,⟨_,_,M3.o,fE⟩,⟨_,_,M3.b.b,ij _ _ _ _ _⟩,fun z dz hx hdx nx=>⟨z,_,dz,_,_,_,rfl,eO,T.c3.cl,T.n3at,T.n3place,T.n3slot,rfl,?_⟩⟩
 rw[gb]
 exact ki (u:= .num _ _ _) M3 (Le.us.sz hz) hx hdx ⟨z,dz,rfl,eO⟩ fun H' M' F'=>q H' M' (F1.trans (F2.trans (F3.trans F')))
theorem xa (T:Txt K mg) (f:Nat) (gE71:MO P w base mg (5*f+ 3) T.e71 (jJ T.c9.a T.c10.a (cs T) f)):FO P w base (5*f+ 7) T.d23 (iF T.c9.a T.c10.a (cs T) f fun ρ=>X2 fun o ks=>ρ= .op o ks/\(o="add"\/o="sub")):=by
 have gE65:=gk (P:=P) (w:=w) (base:=base) T
 have gD25:=mf (P:=P) (w:=w) (base:=base) T f gE71
 refine T.d23.F.ok wM (fun vs H Q E h=>?_) (fun cdv A0 outer s0 H vs Q E hr h=>?_)
 ·obtain⟨A,s,s',p,own,t,ρ,names,roots,ρs,ho,rfl,_⟩:=h
  rfl
 obtain⟨A,s,s',p,own,t,ρ,names,roots,ρs,ho,rfl,M,C,hk,⟨o,ks,rfl,ho2⟩,it,hl,hz,q⟩:=h
 refine⟨_,(eQ (fo (pF T.d25 gD25 (hr.mono (by lia)) (eN (cv 0) (eN (cv 1) (eN (cv 2) eP)))))
  (eV (fo (e8 (fm (PE.mono (fj T.c9.cl T.n9board (cv 0))) T.c8.cl T.e65.me gE65 (hr.mono (by lia)) T.e65.b .nil fH (eN fD (eN (fz eP) (eN (cv 3) (eN (cv 2) eP))))))))),?_⟩
 have two:∃a b,ks=[a,b]:=by rcases ho2 with rfl|rfl<;>exact tP fS fS hl
 obtain⟨a,b,rfl⟩:=two
 obtain⟨ys,et,iy⟩:=km it
 obtain⟨y1,y2,rfl,i1,i2⟩:=Ao iy
 cases jN i1
 cases jN i2
 obtain⟨s1,h1,hl⟩:∃s1,jM (iE ρs roots ho f) a b p s=some s1/\some (s1.mk' (mkN own p))=some s':=by
  rcases ho2 with rfl|rfl<;>exact N1 (g:=fun s1=>some (s1.mk' (mkN own p))) (gy f) hl
 cases cx.inj hl
 refine⟨A,s,s1,p,a,b,t,_,names,roots,ρs,ho,rfl,M,C,et,h1,Le.mk'.sz hz,fun H1 M1 F1=>?_⟩
 exact⟨_,⟨_,_,M1.o,fE⟩,⟨_,_,M1.b.b,gH _ _ _ _ _⟩,mh,fun a ha=>iX M1 (Le.mk'.sz hz) ha .nil (by decide) ⟨by decide,trivial⟩ fun H' M' F'=>q H' M' (F1.trans F')⟩
theorem uL (T:Txt K mg) (f:Nat) (gE71:MO P w base mg (5*f+ 3) T.e71 (jJ T.c9.a T.c10.a (cs T) f)):FO P w base (5*f+ 7) T.d22 (iF T.c9.a T.c10.a (cs T) f fun ρ=>∃ks,ρ= .op "size" ks):=by
 have gE65:=gk (P:=P) (w:=w) (base:=base) T
 have gE66:=gY (P:=P) (w:=w) (base:=base) T
 have gE64:=gq (P:=P) (w:=w) (base:=base) T
 have gE61:=iV (P:=P) (w:=w) (base:=base) T
 refine T.d22.F.ok mK (fun vs H Q E h=>?_) (fun cdv A0 outer s0 H vs Q E hr h=>?_)
 ·obtain⟨A,s,s',p,own,t,ρ,names,roots,ρs,ho,rfl,_⟩:=h
  rfl
 obtain⟨A,s,s',p,own,t,ρ,names,roots,ρs,ho,rfl,M,C,hk,⟨ks,rfl⟩,it,hl,hz,q⟩:=h
 refine⟨_,(eQ (pS (i:=4) mK.nd (e8 (fm (PE.mono (fj T.c9.cl T.n9board (cv 0))) T.c8.cl T.e64.me gE64 (hr.mono (by lia)) T.e64.b .nil fH (eN (cv 2) eP))))
  (eQ (pS (i:=5) mK.nd (e8 (fm (PE.mono (cv 0)) T.c9.cl T.e71.me gE71 (hr.mono (by lia)) T.e71.b .nil fH (eN (eZ fh (cv 1) eR) eP))))
  (eQ (fo (e8 (fm (PE.mono (fj T.c9.cl T.n9board (cv 0))) T.c8.cl T.e66.me gE66 (hr.mono (by lia)) T.e66.b .nil fH (eN (je T.mk7 gE61 (hr.mono (by lia)) rfl T.c7.m T.e61.b .nil fH (eN (cv 5) (eN (cv 2) (eN eR (eN (cv 4) eP))))) eP))))
  (eV (fo (e8 (fm (PE.mono (fj T.c9.cl T.n9board (cv 0))) T.c8.cl T.e65.me gE65 (hr.mono (by lia)) T.e65.b .nil fH (eN fD (eN (fz eP) (eN (cv 3) (eN (cv 2) eP))))))))))),?_⟩
 obtain⟨a,rfl⟩:=Ei hl
 obtain⟨ys,et,iy⟩:=km it
 obtain⟨y1,rfl,i1⟩:=A8 iy
 cases jN i1
 obtain⟨x,s2,h2,hl,l2⟩:=L1 (gy f) hl
 have l3:Le s2 s':=by cases cx.inj hl;exact Le.us.trans Le.mk'
 refine⟨_,⟨_,_,M.o,fE⟩,⟨_,_,M.b.b,gX _ _ _ _ _⟩,?_⟩
 refine tc1 (v:= .int p) rfl (yM M (by have:=((Le.pt.trans (l2.trans l3)).sz hz).p;lia) fun H1 M1 F1=>?_)
 have C1:=C.fl M F1
 have e1:=F1.tup M et
 refine⟨⟨_,_,M1.o,gZ fS⟩,_,e1,eX (eU (j:=1) rfl) (iq M1 C1 h2 (l3.sz hz) fun H2 M2 F2 C2 k2=>?_)⟩
 cases cx.inj hl
 refine⟨_,⟨_,_,M2.o,fE⟩,⟨_,_,M2.b.b,ij _ _ _ _ _⟩,fun z dz hx hdx nx=>⟨z,dz,_,_,_,_,rfl,eO,rfl,?_⟩⟩
 rw[gb]
 refine tn1 (ki (u:= .row _ _ _ _) M2 (l3.sz hz) hx hdx ⟨z,dz,rfl,eO⟩ fun H3 M3 F3=>?_)
 exact⟨_,⟨_,_,M3.o,fE⟩,⟨_,_,M3.b.b,gH _ _ _ _ _⟩,mh,fun a ha=>iX M3 (Le.mk'.sz hz) ha .nil (by decide) ⟨by decide,trivial⟩ fun H' M' F'=>q H' M' (F1.trans (F2.trans (F3.trans F')))⟩
theorem uM (T:Txt K mg) (f:Nat) (gE71:MO P w base mg (5*f+ 3) T.e71 (jJ T.c9.a T.c10.a (cs T) f)):FO P w base (5*f+ 7) T.d21 (iF T.c9.a T.c10.a (cs T) f fun ρ=>∃ks,ρ= .op "join" ks):=by
 have gE65:=gk (P:=P) (w:=w) (base:=base) T
 have gE66:=gY (P:=P) (w:=w) (base:=base) T
 have gE64:=gq (P:=P) (w:=w) (base:=base) T
 have gE61:=iV (P:=P) (w:=w) (base:=base) T
 refine T.d21.F.ok kN (fun vs H Q E h=>?_) (fun cdv A0 outer s0 H vs Q E hr h=>?_)
 ·obtain⟨A,s,s',p,own,t,ρ,names,roots,ρs,ho,rfl,_⟩:=h
  rfl
 obtain⟨A,s,s',p,own,t,ρ,names,roots,ρs,ho,rfl,M,C,hk,⟨ks,rfl⟩,it,hl,hz,q⟩:=h
 refine⟨_,(eQ (pS (i:=4) kN.nd (e8 (fm (PE.mono (fj T.c9.cl T.n9board (cv 0))) T.c8.cl T.e64.me gE64 (hr.mono (by lia)) T.e64.b .nil fH (eN (cv 2) eP))))
  (eQ (pS (i:=5) kN.nd (e8 (fm (PE.mono (cv 0)) T.c9.cl T.e71.me gE71 (hr.mono (by lia)) T.e71.b .nil fH (eN (eZ fh (cv 1) eR) eP))))
  (eQ (pS (i:=6) kN.nd (e8 (fm (PE.mono (cv 0)) T.c9.cl T.e71.me gE71 (hr.mono (by lia)) T.e71.b .nil fH (eN (eZ fh (cv 1) eR) eP))))
  (eQ (fo (e8 (fm (PE.mono (fj T.c9.cl T.n9board (cv 0))) T.c8.cl T.e66.me gE66 (hr.mono (by lia)) T.e66.b .nil fH (eN (je T.mk7 gE61 (hr.mono (by lia)) rfl T.c7.m T.e61.b .nil fH (eN (cv 5) (eN (cv 2) (eN eR (eN (cv 4) eP))))) eP))))
  (eQ (fo (e8 (fm (PE.mono (fj T.c9.cl T.n9board (cv 0))) T.c8.cl T.e66.me gE66 (hr.mono (by lia)) T.e66.b .nil fH (eN (je T.mk7 gE61 (hr.mono (by lia)) rfl T.c7.m T.e61.b .nil fH (eN (cv 6) (eN (cv 2) (eN eR (eN (cv 4) eP))))) eP))))
  (eV (fo (e8 (fm (PE.mono (fj T.c9.cl T.n9board (cv 0))) T.c8.cl T.e65.me gE65 (hr.mono (by lia)) T.e65.b .nil fH (eN fD (eN (fz (eN (cv 4) eP)) (eN (cv 3) (eN (cv 2) eP))))))))))))),?_⟩
 obtain⟨a,b,rfl⟩:=tP fS fS hl
 obtain⟨ys,et,iy⟩:=km it
 obtain⟨y1,y2,rfl,i1,i2⟩:=Ao iy
 cases jN i1
 cases jN i2
 obtain⟨x,s2,h2,hl,l2⟩:=L1 (gy f) hl
 obtain⟨y,s3,h3,hl,l3⟩:=L1 (gy f) hl
 have l4:Le s3 s':=by cases cx.inj hl;exact Le.us.trans (Le.us.trans Le.mk')
 refine⟨_,⟨_,_,M.o,fE⟩,⟨_,_,M.b.b,gX _ _ _ _ _⟩,?_⟩
 refine tc1 (v:= .int p) rfl (yM M (by have:=((Le.pt.trans (l2.trans (l3.trans l4))).sz hz).p;lia) fun H1 M1 F1=>?_)
 have C1:=C.fl M F1
 have e1:=F1.tup M et
 refine⟨⟨_,_,M1.o,gZ fS⟩,_,e1,eX (eU (j:=1) rfl) (iq M1 C1 h2 ((l3.trans l4).sz hz) fun H2 M2 F2 C2 k2=>?_)⟩
 have e2:=k2 _ _ e1
 refine⟨⟨_,_,M2.o,gZ fS⟩,_,e2,eX (eU (j:=2) rfl) (iq M2 C2 h3 (l4.sz hz) fun H3 M3 F3 C3 k3=>?_)⟩
 cases cx.inj hl
 refine⟨_,⟨_,_,M3.o,fE⟩,⟨_,_,M3.b.b,ij _ _ _ _ _⟩,fun z dz hx hdx nx=>⟨z,dz,_,_,_,_,rfl,eO,rfl,?_⟩⟩
 rw[gb]
 refine tn1 (ki (u:= .row _ _ _ _) M3 (l4.sz hz) hx hdx ⟨z,dz,rfl,eO⟩ fun H4 M4 F4=>?_)
 refine⟨_,⟨_,_,M4.o,fE⟩,⟨_,_,M4.b.b,ij _ _ _ _ _⟩,fun z dz hx hdx nx=>⟨z,dz,_,_,_,_,rfl,eO,rfl,?_⟩⟩
 rw[gb]
 refine tn1 (ki (u:= .row _ _ _ _) M4 ((Le.us.trans Le.mk').sz hz) hx hdx ⟨z,dz,rfl,eO⟩ fun H5 M5 F5=>?_)
 exact⟨_,⟨_,_,M5.o,fE⟩,⟨_,_,M5.b.b,gH _ _ _ _ _⟩,lY,fun a ha=>iX M5 (Le.mk'.sz hz) ha (.cons (.flat rfl) .nil) (by simp[jb,fV,sD,kD]) (by simp[okD,tq,sD,kD]) fun H' M' F'=>q H' M' (F1.trans (F2.trans (F3.trans (F4.trans (F5.trans F')))))⟩
theorem yQ (T:Txt K mg) (f:Nat) (gE71:MO P w base mg (5*f+ 3) T.e71 (jJ T.c9.a T.c10.a (cs T) f)):FO P w base (5*f+ 7) T.d20 (iF T.c9.a T.c10.a (cs T) f fun ρ=>∃ks,ρ= .op "at" ks):=by
 have gE67:=hG (P:=P) (w:=w) (base:=base) T
 have gE66:=gY (P:=P) (w:=w) (base:=base) T
 have gE53:=gJ (P:=P) (w:=w) (base:=base) T
 have gE61:=iV (P:=P) (w:=w) (base:=base) T
 refine T.d20.F.ok m8 (fun vs H Q E h=>?_) (fun cdv A0 outer s0 H vs Q E hr h=>?_)
 ·obtain⟨A,s,s',p,own,t,ρ,names,roots,ρs,ho,rfl,_⟩:=h
  rfl
 obtain⟨A,s,s',p,own,t,ρ,names,roots,ρs,ho,rfl,M,C,hk,⟨ks,rfl⟩,it,hl,hz,q⟩:=h
 refine⟨_,(eQ (pS (i:=4) m8.nd (e8 (fm (PE.mono (cv 0)) T.c9.cl T.e71.me gE71 (hr.mono (by lia)) T.e71.b .nil fH (eN (eZ fh (cv 1) eR) eP))))
  (eQ (pS (i:=5) m8.nd (e8 (fm (PE.mono (cv 0)) T.c9.cl T.e71.me gE71 (hr.mono (by lia)) T.e71.b .nil fH (eN (eZ fh (cv 1) eR) eP))))
  (eQ (pS (i:=6) m8.nd (e8 (fm (PE.mono (cv 0)) T.c9.cl T.e71.me gE71 (hr.mono (by lia)) T.e71.b .nil fH (eN (eZ fh (cv 1) eR) eP))))
  (eQ (fo (e8 (fm (PE.mono (fj T.c9.cl T.n9board (cv 0))) T.c8.cl T.e66.me gE66 (hr.mono (by lia)) T.e66.b .nil fH (eN (je T.mk7 gE61 (hr.mono (by lia)) rfl T.c7.m T.e61.b .nil fH (eN (cv 4) (eN (cv 2) (eN eR (eN (cv 3) eP))))) eP))))
  (eQ (fo (e8 (fm (PE.mono (fj T.c9.cl T.n9board (cv 0))) T.c8.cl T.e66.me gE66 (hr.mono (by lia)) T.e66.b .nil fH (eN (je T.mk3 gE53 (hr.mono (by lia)) rfl T.c3.m T.e53.b .nil fH (eN (cv 5) (eN (cv 2) (eN eR eP)))) eP))))
  (eV (fo (e8 (fm (PE.mono (fj T.c9.cl T.n9board (cv 0))) T.c8.cl T.e67.me gE67 (hr.mono (by lia)) T.e67.b .nil fH (eN (cv 6) (eN (cv 3) eP))))))))))),?_⟩
 obtain⟨a,b,c,rfl⟩:=Ap hl
 obtain⟨ys,et,iy⟩:=km it
 obtain⟨y1,y2,y3,rfl,i1,i2,i3⟩:=E7 iy
 cases jN i1
 cases jN i2
 cases jN i3
 obtain⟨x,s1,h1,hl,l1⟩:=L1 (gy f) hl
 obtain⟨y,s2,h2,hl,l2⟩:=L1 (gy f) hl
 obtain⟨z,s3,h3,hl,l3⟩:=L1 (gy f) hl
 have l4:Le s3 s':=by cases cx.inj hl;exact Le.us.trans (Le.us.trans Le.fl)
 refine⟨⟨_,_,M.o,gZ fS⟩,_,et,eX (eU (j:=1) rfl) (iq M C h1 ((l2.trans (l3.trans l4)).sz hz) fun H1 M1 F1 C1 k1=>?_)⟩
 have e1:=k1 _ _ et
 refine⟨⟨_,_,M1.o,gZ fS⟩,_,e1,eX (eU (j:=2) rfl) (iq M1 C1 h2 ((l3.trans l4).sz hz) fun H2 M2 F2 C2 k2=>?_)⟩
 have e2:=k2 _ _ e1
 refine⟨⟨_,_,M2.o,gZ fS⟩,_,e2,eX (eU (j:=3) rfl) (iq M2 C2 h3 (l4.sz hz) fun H3 M3 F3 C3 k3=>?_)⟩
 cases cx.inj hl
 refine⟨_,⟨_,_,M3.o,fE⟩,⟨_,_,M3.b.b,ij _ _ _ _ _⟩,fun z dz hx hdx nx=>⟨z,dz,_,_,_,_,rfl,eO,rfl,?_⟩⟩
 rw[gb]
 refine tn1 (ki (u:= .row _ _ _ _) M3 (l4.sz hz) hx hdx ⟨z,dz,rfl,eO⟩ fun H4 M4 F4=>?_)
 refine⟨_,⟨_,_,M4.o,fE⟩,⟨_,_,M4.b.b,ij _ _ _ _ _⟩,fun z dz hx hdx nx=>⟨z,_,dz,_,_,_,rfl,eO,T.c3.cl,T.n3at,T.n3place,T.n3slot,rfl,?_⟩⟩
 rw[gb]
 refine tn1 (ki (u:= .num y p 1) M4 ((Le.us.trans Le.fl).sz hz) hx hdx ⟨z,dz,rfl,eO⟩ fun H5 M5 F5=>?_)
 exact⟨_,⟨_,_,M5.o,fE⟩,⟨_,_,M5.b.b,jz _ _ _ _ _⟩,ou M5 (by have:=(Le.fl.sz hz:Sz _ _).f;lia) fun H' M' F'=>q H' M' (F1.trans (F2.trans (F3.trans (F4.trans (F5.trans F')))))⟩
theorem uN (T:Txt K mg) (f:Nat) (gE71:MO P w base mg (5*f+ 3) T.e71 (jJ T.c9.a T.c10.a (cs T) f)):FO P w base (5*f+ 7) T.d24 (iF T.c9.a T.c10.a (cs T) f fun ρ=>∃ks,ρ= .op "less" ks):=by
 have gE65:=gk (P:=P) (w:=w) (base:=base) T
 have gE64:=gq (P:=P) (w:=w) (base:=base) T
 have gD25:=mf (P:=P) (w:=w) (base:=base) T f gE71
 refine T.d24.F.ok pZ (fun vs H Q E h=>?_) (fun cdv A0 outer s0 H vs Q E hr h=>?_)
 ·obtain⟨A,s,s',p,own,t,ρ,names,roots,ρs,ho,rfl,_⟩:=h
  rfl
 obtain⟨A,s,s',p,own,t,ρ,names,roots,ρs,ho,rfl,M,C,hk,⟨ks,rfl⟩,it,hl,hz,q⟩:=h
 refine⟨_,(eQ (pS (i:=4) pZ.nd (e8 (fm (PE.mono (fj T.c9.cl T.n9board (cv 0))) T.c8.cl T.e64.me gE64 (hr.mono (by lia)) T.e64.b .nil fH (eN (cv 2) eP))))
  (eQ (fo (pF T.d25 gD25 (hr.mono (by lia)) (eN (cv 0) (eN (cv 1) (eN (cv 2) eP)))))
  (eQ (fo (e8 (fm (PE.mono (fj T.c9.cl T.n9board (cv 0))) T.c8.cl T.e65.me gE65 (hr.mono (by lia)) T.e65.b .nil fH (eN fD (eN (fz eP) (eN (cv 4) (eN (cv 2) eP)))))))
  (eQ (fo (e8 (fm (PE.mono (fj T.c9.cl T.n9board (cv 0))) T.c8.cl T.e65.me gE65 (hr.mono (by lia)) T.e65.b .nil fH (eN fD (eN (fz (eN fD (eN (cv 4) eP))) (eN (cv 3) (eN (cv 2) eP)))))))
  (eV (fo (e8 (fm (PE.mono (fj T.c9.cl T.n9board (cv 0))) T.c8.cl T.e65.me gE65 (hr.mono (by lia)) T.e65.b .nil fH (eN fD (eN (fz (eN fD (eN (cv 4) eP))) (eN (cv 3) (eN (cv 2) eP)))))))))))),?_⟩
 obtain⟨a,b,rfl⟩:=tP fS fS hl
 obtain⟨ys,et,iy⟩:=km it
 obtain⟨y1,y2,rfl,i1,i2⟩:=Ao iy
 cases jN i1
 cases jN i2
 obtain⟨s2,h2,hl⟩:=N1 (gy f) hl
 obtain⟨_,_,_,s3,_,_,e2,l3,l2⟩:=tQ (gy f) h2
 have l5:Le s3 s2:=by rw[e2];exact Le.us.trans Le.us
 have l4:Le s2 s':=by cases cx.inj hl;exact Le.mk'.trans (Le.mk'.trans Le.mk')
 refine⟨_,⟨_,_,M.o,fE⟩,⟨_,_,M.b.b,gX _ _ _ _ _⟩,?_⟩
 refine tc1 (v:= .int p) rfl (yM M (by have:=((Le.pt.trans (l2.trans (l3.trans (l5.trans l4)))).sz hz).p;lia) fun H1 M1 F1=>?_)
 have C1:=C.fl M F1
 have e1:=F1.tup M et
 refine⟨A,_,s2,p,a,b,t,_,names,roots,ρs,ho,rfl,M1,C1,e1,h2,l4.sz hz,fun H2 M2 F2=>?_⟩
 cases cx.inj hl
 refine⟨_,⟨_,_,M2.o,fE⟩,⟨_,_,M2.b.b,gH _ _ _ _ _⟩,mh,fun a ha=>tc2 rfl rfl (iX M2 (l4.sz hz) ha .nil (by decide) ⟨by decide,trivial⟩ fun H3 M3 F3=>?_)⟩
 refine⟨_,⟨_,_,M3.o,fE⟩,⟨_,_,M3.b.b,gH _ _ _ _ _⟩,lQ,fun a ha=>tc2 rfl rfl (iX M3 ((Le.mk'.trans Le.mk').sz hz) ha (.cons (.flat rfl) (.cons (.flat rfl) .nil)) (by simp[jb,fV,sD,kD]) (by simp[okD,tq,sD,kD]) fun H4 M4 F4=>?_)⟩
 exact⟨_,⟨_,_,M4.o,fE⟩,⟨_,_,M4.b.b,gH _ _ _ _ _⟩,lQ,fun a ha=>iX M4 (Le.mk'.sz hz) ha (.cons (.flat rfl) (.cons (.flat rfl) .nil)) (by simp[jb,fV,sD,kD]) (by simp[okD,tq,sD,kD]) fun H' M' F'=>q H' M' (F1.trans (F2.trans (F3.trans (F4.trans F'))))⟩
theorem yR (T:Txt K mg) (f:Nat) (gE71:MO P w base mg (5*f+ 3) T.e71 (jJ T.c9.a T.c10.a (cs T) f)):FO P w base (5*f+ 7) T.d12 (iF T.c9.a T.c10.a (cs T) f fun ρ=>X2 fun n k=>ρ= .fn n k):=by
 have gE65:=gk (P:=P) (w:=w) (base:=base) T
 have gE64:=gq (P:=P) (w:=w) (base:=base) T
 refine T.d12.F.ok pY (fun vs H Q E h=>?_) (fun cdv A0 outer s0 H vs Q E hr h=>?_)
 ·obtain⟨A,s,s',p,own,t,ρ,names,roots,ρs,ho,rfl,_⟩:=h
  rfl
 obtain⟨A,s,s',p,own,t,ρ,names,roots,ρs,ho,rfl,M,C,hk,⟨n,k,rfl⟩,it,hl,hz,q⟩:=h
 have hu:=wC hr
 refine⟨_,(eQ (pS (i:=4) pY.nd (e8 (fm (PE.mono (fj T.c9.cl T.n9board (cv 0))) T.c8.cl T.e64.me gE64 (hr.mono (by lia)) T.e64.b .nil fH (eN (cv 2) eP))))
  (eQ (rH hu (fj T.c9.cl T.n9held (cv 0)) (eZ fh (cv 1) eR) (cv 4) rfl)
  (eQ (pS (i:=5) pY.nd (e8 (fm (PE.mono (cv 0)) T.c9.cl T.e71.me gE71 (hr.mono (by lia)) T.e71.b .nil fH (eN (eZ fh (cv 1) eR) eP))))
  (eV (fo (e8 (fm (PE.mono (fj T.c9.cl T.n9board (cv 0))) T.c8.cl T.e65.me gE65 (hr.mono (by lia)) T.e65.b .nil fH (eN fD (eN (fz (eN (cv 4) (eN (cv 5) eP))) (eN (cv 3) (eN (cv 2) eP))))))))))),?_⟩
 obtain⟨ys,et,iy⟩:=km it
 obtain⟨y1,y2,rfl,i1,i2⟩:=Ao iy
 cases kX i1
 cases jN i2
 obtain⟨x,s2,h2,hl,l2⟩:=L1 (gy f) hl
 have l3:Le s2 s':=by cases cx.inj hl;exact Le.mk'
 have lp:=((Le.pt.trans (Le.ho.trans (l2.trans l3))).sz hz).p
 have lq:=((Le.ho.trans (l2.trans l3)).sz hz).p
 refine⟨_,⟨_,_,M.o,fE⟩,⟨_,_,M.b.b,gX _ _ _ _ _⟩,?_⟩
 refine tc1 (v:= .int p) rfl (vD M (by lia) fun H1 M1 F1 d1 _=>?_)
 have C1:=C.fl M F1
 have e1:=F1.tup M et
 obtain⟨H2,dp,M2,F2⟩:=M1.hold d1 (CB lq) k s.n
 have C2:=C1.fl M1 F2
 have e2:=F2.tup M1 e1
 refine⟨_,⟨_,_,M1.o,uJ⟩,_,e1,eX (eU (j:=2) rfl) ⟨A.hd,H2,rfl,dp,?_⟩⟩
 refine⟨⟨_,_,M2.o,gZ fS⟩,_,e2,eX (eU (j:=2) rfl) (iq M2 C2 h2 (l3.sz hz) fun H3 M3 F3 C3 k3=>?_)⟩
 cases cx.inj hl
 exact⟨_,⟨_,_,M3.o,fE⟩,⟨_,_,M3.b.b,gH _ _ _ _ _⟩,lQ,fun a ha=>iX M3 (l3.sz hz) ha (.cons (.flat rfl) (.cons (.flat rfl) .nil)) (by simp[jb,fV,sD,kD]) (by simp[okD,tq,sD,kD]) fun H' M' F'=>q H' M' (F1.trans (F2.trans (F3.trans F')))⟩
theorem O1 {α:Type} {o:Option Ls} {g:Ls->Option α} {a:α} (h:(match o with|some s=>g s|none=>none)=some a):∃s1,o=some s1/\g s1=some a:=by
 cases e:o with
 |none=>rw[e]at h;cases h
 |some z=>rw[e]at h;exact⟨z,rfl,h⟩
theorem tR {α:Type} {l:List α} {i:Nat} {a:α} (h:l[i]?=some a):l.drop i=a::l.drop (i+ 1):=by
 obtain⟨h1,rfl⟩:=aq.mp h
 exact List.drop_eq_getElem_cons h1
theorem A9 {H:Hp}:∀{ks:List Int} {xs:List V},Ims H xs (ks.map kD)->xs=ks.map V.int
 |[],_,.nil=>rfl
 |k::ks,_,.cons h t=>by rw[jN h,A9 t];rfl
theorem qm {H:Hp} {x:V} {ds:List Dt} (h:Im H x (.tup ds)):∃t xs,x= .ref t/\H t=some (.tup xs)/\Ims H xs ds:=by
 cases h with
 |tup e i=>exact⟨_,_,rfl,e,i⟩
section
variable {CL:Addr} {c:Cs} {H H':Hp} {A:La} {s:Ls}
theorem Lm.out (M:Lm CL c H A s) {a:Addr} (h:H a=none):a∉A.ch:=fun m=>by
 obtain⟨_,b,⟨k1,d1,_⟩,⟨k2,d2,_⟩,_⟩:=M
 rcases ak.mp m with m|m
 ·exact b.out h m
 ·rcases aj.mp m with rfl|m
  ·rw[h]at d1;cases d1
  ·rcases aj.mp m with rfl|m
   ·rw[h]at d2;cases d2
   ·cases m
theorem Lm.other (M:Lm CL c H A s) {a:Addr} {xs ys:List V} (e:H a=some (.lst xs)) (n:a∉A.ch):Lm CL c (L2.Internal.upd H a (.lst ys)) A s:=by
 obtain⟨n1,r1,r2⟩:=M.nl (o:= .lst ys) e
 exact⟨n1,M.b.other e fun z=>n (ao _ z),r1,r2,M.ne⟩
theorem FL.put {H0:Hp} (F:FL A H0 H) {a:Addr} (h:H0 a=none) (o:HO):FL A H0 (L2.Internal.upd H a o):=fun b u e n=>by
 rw[eT (eY e h)]
 exact F b u e n
end
theorem Gb {H:Hp} {xs:List V} {l:List (Str×Int)} {i:Nat} {v:V} (h:Ims H xs (l.map fdD)) (e:xs[i]?=some v):∃p t,l[i]?=some p/\v= .ref t/\H t=some (.tup [.str p.1,.int p.2]):=by
 obtain⟨d,e1,e2⟩:=jx h e
 rw[aJ]at e1
 obtain⟨p,hp,rfl⟩:=cB.mp e1
 obtain⟨t,y,z,rfl,et,i1,i2⟩:=uI e2
 cases kX i1
 cases jN i2
 exact⟨p,t,hp,rfl,et⟩
theorem Ge {H:Hp} {xs:List V} {l:List (Str×Str×Int)} {i:Nat} {v:V} (h:Ims H xs (l.map amD)) (e:xs[i]?=some v):∃p t,l[i]?=some p/\v= .ref t/\H t=some (.tup [.str p.1,.str p.2.1,.int p.2.2]):=by
 obtain⟨d,e1,e2⟩:=jx h e
 rw[aJ]at e1
 obtain⟨p,hp,rfl⟩:=cB.mp e1
 obtain⟨t,xs,rfl,et,i1⟩:=qm e2
 obtain⟨x,y,z,rfl,i1,i2,i3⟩:=E7 i1
 cases kX i1
 cases kX i2
 cases jN i3
 exact⟨p,t,hp,rfl,et⟩
theorem xb (T:Txt K mg) (f:Nat) (gE71:MO P w base mg (5*f+ 3) T.e71 (jJ T.c9.a T.c10.a (cs T) f)):FO P w base (5*f+ 7) T.d19 (iF T.c9.a T.c10.a (cs T) f fun ρ=>∃ks,ρ= .row ks):=by
 have gE65:=gk (P:=P) (w:=w) (base:=base) T
 have gE64:=gq (P:=P) (w:=w) (base:=base) T
 have gE67:=hG (P:=P) (w:=w) (base:=base) T
 refine T.d19.F.ok oh (fun vs H Q E h=>?_) (fun cdv A0 outer s0 H vs Q E hr h=>?_)
 ·obtain⟨A,s,s',p,own,t,ρ,names,roots,ρs,ho,rfl,_⟩:=h
  rfl
 obtain⟨A,s,s',p,own,t,ρ,names,roots,ρs,ho,rfl,M,C,hk,⟨ks,rfl⟩,it,hl,hz,q⟩:=h
 refine⟨_,(eQ (pS (i:=4) oh.nd (e8 (fm (PE.mono (fj T.c9.cl T.n9board (cv 0))) T.c8.cl T.e64.me gE64 (hr.mono (by lia)) T.e64.b .nil fH (eN (cv 2) eP))))
  (eQ (jP PassesOwn.never rfl (vj (eZ fh (cv 1) eR)) (pN (i:=5) oh.nd)
   (eV (fo (e8 (fm (PE.mono (fj T.c9.cl T.n9board (cv 0))) T.c8.cl T.e67.me gE67 (hr.mono (by lia)) T.e67.b .nil fH (eN (e8 (fm (PE.mono (cv 0)) T.c9.cl T.e71.me gE71 (hr.mono (by lia)) T.e71.b .nil fH (eN (cv 5) eP))) (eN (cv 4) eP)))))))
  (eV (fo (e8 (fm (PE.mono (fj T.c9.cl T.n9board (cv 0))) T.c8.cl T.e65.me gE65 (hr.mono (by lia)) T.e65.b .nil fH (eN fD (eN (fz (eN (cv 4) eP)) (eN (cv 3) (eN (cv 2) eP)))))))))),?_⟩
 obtain⟨ys,et,iy⟩:=km it
 obtain⟨y1,rfl,i1⟩:=A8 iy
 obtain⟨tl,xs,rfl,el,il⟩:=qm i1
 cases A9 il
 obtain⟨s1,h1,hl⟩:=O1 hl
 have l1:=vG (gy f) h1
 have l3:Le s1 s':=by cases cx.inj hl;exact Le.mk'
 refine⟨_,⟨_,_,M.o,fE⟩,⟨_,_,M.b.b,gX _ _ _ _ _⟩,?_⟩
 refine tc1 (v:= .int p) rfl (yM M (by have:=((Le.pt.trans (l1.trans l3)).sz hz).p;lia) fun H1 M1 F1=>?_)
 have C1:=C.fl M F1
 have e1:=F1.tup M et
 have el1:=F1.tup M el
 refine⟨_,e1,eX (eU (j:=1) rfl) ⟨tl,rfl,⟨_,SqT.of el1⟩,uq (xs:=ks.map V.int) (fun i σ H2=>X2 fun(o5:Option V) (si:Ls)=>Y4 (σ=[some (.ref A.l),some (.ref t),some (.int p),some (.int own),some (.int s.n),o5]) (Lm T.c9.a (cs T) H2 A si) (tO (iE ρs roots ho f) s.n (ks.drop i) si=some s1) (FL A H1 H2))
   ⟨none,_,rfl,M1,h1,FL.refl⟩ (fun i σ H2 _ ⟨_,_,_,_,_,F⟩=>SqT.of (F.tup M1 el1)) ?_ ?_⟩⟩
 ·rintro i v σ H2 hv ⟨o5,si,rfl,M2,h2,F2⟩
  rw[aJ]at hv
  obtain⟨k,hk,rfl⟩:=cB.mp hv
  rw[tR hk]at h2
  obtain⟨x,s2,h3,h2,l2⟩:=L1 (gy f) h2
  have l4:=vG (gy f) h2
  have C2:=C1.fl M1 F2
  dsimp only[fK]
  refine⟨_,⟨_,_,M2.o,fE⟩,⟨_,_,M2.b.b,jz _ _ _ _ _⟩,⟨_,_,M2.o,gZ fS⟩,?_⟩
  refine tc1 (v:= .int k) rfl (iq M2 C2 h3 ((Le.fl.trans (l4.trans l3)).sz hz) fun H3 M3 F3 C3 k3=>?_)
  refine tc1 (v:= .int s.n) rfl (ou M3 (by have:=((Le.fl.trans (l4.trans l3)).sz hz).f;lia) fun H4 M4 F4=>?_)
  exact⟨_,_,rfl,M4,h2,F2.trans (F3.trans F4)⟩
 ·rintro σ H2 ⟨o5,si,rfl,M2,h2,F2⟩
  rw[aB,bH]at h2
  cases cx.inj h2
  cases cx.inj hl
  exact⟨_,⟨_,_,M2.o,fE⟩,⟨_,_,M2.b.b,gH _ _ _ _ _⟩,lY,fun a ha=>iX M2 (l3.sz hz) ha (.cons (.flat rfl) .nil) (by simp[jb,fV,sD,kD]) (by simp[okD,tq,sD,kD]) fun H' M' F'=>q H' M' (F1.trans (F2.trans F'))⟩
theorem xf (T:Txt K mg) (f:Nat) (gE71:MO P w base mg (5*f+ 3) T.e71 (jJ T.c9.a T.c10.a (cs T) f)):FO P w base (5*f+ 7) T.d15 (iF T.c9.a T.c10.a (cs T) f fun ρ=>∃l,ρ= .rcd l):=by
 have gE65:=gk (P:=P) (w:=w) (base:=base) T
 refine T.d15.F.ok n9 (fun vs H Q E h=>?_) (fun cdv A0 outer s0 H vs Q E hr h=>?_)
 ·obtain⟨A,s,s',p,own,t,ρ,names,roots,ρs,ho,rfl,_⟩:=h
  rfl
 obtain⟨A,s,s',p,own,t,ρ,names,roots,ρs,ho,rfl,M,C,hk,⟨l,rfl⟩,it,hl,hz,q⟩:=h
 refine⟨_,(eQ (pS (i:=4) n9.nd (fG eP))
  (eQ (jP PassesOwn.never rfl (vj (eZ fh (cv 1) eR)) (pN (i:=5) n9.nd)
   (eV (fo (jV (lg dJ dM dN fZ (PE.mono (cv 4)) (eN (PE.mono (fz (eN (eZ fh (cv 5) eR) (eN (e8 (fm (PE.mono (cv 0)) T.c9.cl T.e71.me gE71 (hr.mono (by lia)) T.e71.b .nil fH (eN (eZ fh (cv 5) eR) eP))) eP)))) eP))))))
  (eV (fo (e8 (fm (PE.mono (fj T.c9.cl T.n9board (cv 0))) T.c8.cl T.e65.me gE65 (hr.mono (by lia)) T.e65.b .nil fH (eN fD (eN (gf gh rfl T.z_tuple ir (eN (cv 4) eP)) (eN (cv 3) (eN (cv 2) eP)))))))))),?_⟩
 have sl:=sizeLine_eq
 obtain⟨k0,rfl,hk0⟩:=f9 hk
 have fw:l.length<=10:=C.few _ _ hk0
 obtain⟨ys,et,iy⟩:=km it
 obtain⟨y1,rfl,i1⟩:=A8 iy
 obtain⟨tl,xs,rfl,el,il⟩:=qm i1
 obtain⟨fs,s1,h1,hl⟩:∃fs s1,r9 (iE ρs roots ho f) l [] s=some (fs,s1)/\some (s1.mk' ⟨"rec",prD fs,own,k0⟩)=some s':=by
  unfold hV at hl
  dsimp only at hl
  cases e:r9 (iE ρs roots ho f) l [] s with
  |none=>rw[e]at hl;cases hl
  |some z=>obtain⟨fs,s1⟩:=z;rw[e]at hl;exact⟨fs,s1,rfl,hl⟩
 obtain⟨l1,n1⟩:=vE (gy f) h1
 have n1:fs.length=0+l.length:=n1
 have l3:Le s1 s':=by cases cx.inj hl;exact Le.mk'
 refine⟨mh,fun d hd=>?_⟩
 have nd:=M.out hd
 have S1:=eS hd (.lst [])
 refine⟨_,S1 _ _ et,eX (eU (j:=1) rfl) ⟨tl,rfl,⟨_,SqT.of (S1 _ _ el)⟩,uq (xs:=xs) (fun i σ H2=>X4 fun(o5:Option V) (si:Ls) (acc:List (Str×Int)) (zs:List V)=>Y6 (σ=[some (.ref A.l),some (.ref t),some (.int k0),some (.int own),some (.ref d),o5]) (Lm T.c9.a (cs T) H2 A si) (r9 (iE ρs roots ho f) (l.drop i) acc si=some (fs,s1)) (FL A H H2) (H2 d=some (.lst zs)) (Ims H2 zs (acc.map prL)))
   ⟨none,_,[],[],rfl,M.same S1,h1,FL.same S1,eO,.nil⟩ (fun i σ H2 _ ⟨_,_,_,_,_,_,_,F,_,_⟩=>SqT.of (F.tup M el)) ?_ ?_⟩⟩
 ·rintro i v σ H2 hv ⟨o5,si,acc,zs,rfl,M2,h2,F2,ez,iz⟩
  obtain⟨p,t',hp,rfl,et'⟩:=Gb (il.mono (M.tk F2)) hv
  rw[tR hp]at h2
  obtain⟨x,s2,h3,h2,l2⟩:=L1 (gy f) h2
  obtain⟨l4,n4⟩:=vE (gy f) h2
  have n4:fs.length=_:=n4
  rw[aN,aU]at n4
  have lz:=iz.length
  rw[aB]at lz
  have C2:=C.fl M F2
  dsimp only[fK]
  refine⟨⟨_,ez⟩,_,et',eX (eU (j:=0) rfl) ⟨⟨_,_,M2.o,gZ fS⟩,_,et',eX (eU (j:=1) rfl) (iq M2 C2 h3 ((l4.trans l3).sz hz) fun H3 M3 F3 C3 k3=>?_)⟩⟩
  refine⟨lQ,fun t2 h2'=>⟨zs,?_,by lia,?_⟩⟩
  ·exact eS h2' _ _ _ (F3 _ _ ez nd)
  have S4:=eS h2' (.tup [.str p.1,.int x])
  have e4:=S4 _ _ (F3 _ _ ez nd)
  refine⟨_,_,_,_,rfl,(M3.same S4).other e4 nd,h2,((F2.trans F3).trans (FL.same S4)).put hd _,eO,?_⟩
  rw[bC]
  exact(((iz.mono k3).mono (fC.tk S4)).app (.cons (ip h2' (.cons (.flat rfl) (.cons (.flat rfl) .nil))) .nil)).mono (ie e4).tk
 ·rintro σ H2 ⟨o5,si,acc,zs,rfl,M2,h2,F2,ez,iz⟩
  have lx:=il.length
  rw[aB]at lx
  rw[lx,bH]at h2
  cases cx.inj h2
  cases cx.inj hl
  refine⟨_,⟨_,_,M2.o,fE⟩,⟨_,_,M2.b.b,gH _ _ _ _ _⟩,d,zs,rfl,.inl ⟨SqL.of ez,fun a ha=>?_⟩⟩
  exact tc2 rfl rfl (iX M2 (l3.sz hz) ha iz (uC _) (yo (by lia)) fun H' M' F'=>q H' M' (F2.trans F'))
theorem uO (T:Txt K mg) (f:Nat) (gE71:MO P w base mg (5*f+ 3) T.e71 (jJ T.c9.a T.c10.a (cs T) f)):FO P w base (5*f+ 7) T.d18 (iF T.c9.a T.c10.a (cs T) f fun ρ=>X2 fun k l=>ρ= .case k l):=by
 have gE64:=gq (P:=P) (w:=w) (base:=base) T
 have gE67:=hG (P:=P) (w:=w) (base:=base) T
 have gE66:=gY (P:=P) (w:=w) (base:=base) T
 have gE59:=mV (P:=P) (w:=w) (base:=base) T
 refine T.d18.F.ok jE (fun vs H Q E h=>?_) (fun cdv A0 outer s0 H vs Q E hr h=>?_)
 ·obtain⟨A,s,s',p,own,t,ρ,names,roots,ρs,ho,rfl,_⟩:=h
  rfl
 obtain⟨A,s,s',p,own,t,ρ,names,roots,ρs,ho,rfl,M,C,hk,⟨k,l,rfl⟩,it,hl,hz,q⟩:=h
 have hu:=wC hr
 refine⟨_,(eQ (pS (i:=4) jE.nd (e8 (fm (PE.mono (cv 0)) T.c9.cl T.e71.me gE71 (hr.mono (by lia)) T.e71.b .nil fH (eN (eZ fh (cv 1) eR) eP))))
  (eQ (pS (i:=5) jE.nd (fG eP))
  (eQ (jP PassesOwn.never rfl (vj (eZ fh (cv 1) eR)) (pN (i:=6) jE.nd)
   (eQ (pS (i:=7) jE.nd (e8 (fm (PE.mono (fj T.c9.cl T.n9board (cv 0))) T.c8.cl T.e64.me gE64 (hr.mono (by lia)) T.e64.b .nil fH (eN (cv 2) eP))))
   (eQ (rH hu (fj T.c9.cl T.n9held (cv 0)) (eZ fh (cv 6) eR) (cv 7) rfl)
   (eQ (fo (e8 (fm (PE.mono (fj T.c9.cl T.n9board (cv 0))) T.c8.cl T.e67.me gE67 (hr.mono (by lia)) T.e67.b .nil fH (eN (e8 (fm (PE.mono (cv 0)) T.c9.cl T.e71.me gE71 (hr.mono (by lia)) T.e71.b .nil fH (eN (eZ fh (cv 6) eR) eP))) (eN (cv 3) eP)))))
   (eV (fo (jV (lg dJ dM dN fZ (PE.mono (cv 5)) (eN (PE.mono (fz (eN (eZ fh (cv 6) eR) (eN (cv 7) eP)))) eP)))))))))
  (eV (fo (e8 (fm (PE.mono (fj T.c9.cl T.n9board (cv 0))) T.c8.cl T.e66.me gE66 (hr.mono (by lia)) T.e66.b .nil fH (eN (je T.mk6 gE59 (hr.mono (by lia)) rfl T.c6.m T.e59.b .nil fH (eN (cv 4) (eN (cv 2) (eN eR (eN (gf gh rfl T.z_tuple ir (eN (cv 5) eP)) eP))))) eP)))))))),?_⟩
 have sl:=sizeLine_eq
 obtain⟨k0,rfl,hk0⟩:=f9 hk
 have fw:l.length<=10:=C.few _ _ hk0
 obtain⟨ys,et,iy⟩:=km it
 obtain⟨y1,y2,rfl,i0,i1⟩:=Ao iy
 cases jN i0
 obtain⟨tl,xs,rfl,el,il⟩:=qm i1
 obtain⟨x0,s0',h0,hl,_⟩:=L1 (gy f) hl
 obtain⟨fs,s1,h1,hl⟩:∃fs s1,ui (iE ρs roots ho f) k0 own l [] s0'=some (fs,s1)/\some (s1.us (.case x0 k0 0 fs))=some s':=by
  cases e:ui (iE ρs roots ho f) k0 own l [] s0' with
  |none=>rw[e]at hl;cases hl
  |some z=>obtain⟨fs,s1⟩:=z;rw[e]at hl;exact⟨fs,s1,rfl,hl⟩
 obtain⟨l1,n1⟩:=vF (gy f) h1
 have n1:fs.length=0+l.length:=n1
 have l1:Le s0' s1:=l1
 have l3:Le s1 s':=by cases cx.inj hl;exact Le.us
 refine⟨⟨_,_,M.o,gZ fS⟩,_,et,eX (eU (j:=1) rfl) (iq M C h0 ((l1.trans l3).sz hz) fun H0 M0 F0 C0 k0'=>?_)⟩
 have et0:=k0' _ _ et
 have el0:=k0' _ _ el
 have il0:=il.mono k0'
 refine⟨mh,fun d hd=>?_⟩
 have nd:=M0.out hd
 have S1:=eS hd (.lst [])
 refine⟨_,S1 _ _ et0,eX (eU (j:=2) rfl) ⟨tl,rfl,⟨_,SqT.of (S1 _ _ el0)⟩,uq (xs:=xs) (fun i σ H2=>X5 fun(o6 o7:Option V) (si:Ls) (acc:List (Str×Int)) (zs:List V)=>Y6 (σ=[some (.ref A.l),some (.ref t),some (.int k0),some (.int own),some (.int x0),some (.ref d),o6,o7]) (Lm T.c9.a (cs T) H2 A si) (ui (iE ρs roots ho f) k0 own (l.drop i) acc si=some (fs,s1)) (FL A H0 H2) (H2 d=some (.lst zs)) (Ims H2 zs (acc.map prL)))
   ⟨none,none,_,[],[],rfl,M0.same S1,h1,FL.same S1,eO,.nil⟩ (fun i σ H2 _ ⟨_,_,_,_,_,_,_,_,F,_,_⟩=>SqT.of (F.tup M0 el0)) ?_ ?_⟩⟩
 ·rintro i v σ H2 hv ⟨o6,o7,si,acc,zs,rfl,M2,h2,F2,ez,iz⟩
  obtain⟨p,t',hp,rfl,et'⟩:=Ge (il0.mono (M0.tk F2)) hv
  rw[tR hp]at h2
  obtain⟨x,s2,h3,h2,l2⟩:=L1 (gy f) h2
  obtain⟨l4,n4⟩:=vF (gy f) h2
  have n4:fs.length=_:=n4
  rw[aN,aU]at n4
  have lz:=iz.length
  rw[aB]at lz
  have C2:=C0.fl M0 F2
  have l5:Le s2 s':=Le.fl.trans (Le.trans l4 l3)
  have lp:=((Le.pt.trans (Le.ho.trans (l2.trans l5))).sz hz).p
  have lq:=((Le.ho.trans (l2.trans l5)).sz hz).p
  dsimp only[fK]
  refine⟨_,⟨_,_,M2.o,fE⟩,⟨_,_,M2.b.b,gX _ _ _ _ _⟩,?_⟩
  refine tc1 (v:= .int k0) rfl (vD M2 (by lia) fun H3 M3 F3 d3 _=>?_)
  have e3:=F3.tup M2 et'
  obtain⟨H4,dp,M4,F4⟩:=M3.hold d3 (CB lq) p.2.2 si.n
  have e4:=F4.tup M3 e3
  have C4:=(C2.fl M2 F3).fl M3 F4
  refine⟨_,⟨_,_,M3.o,uJ⟩,_,e3,eX (eU (j:=2) rfl) ⟨A.hd,H4,rfl,dp,?_⟩⟩
  refine⟨_,⟨_,_,M4.o,fE⟩,⟨_,_,M4.b.b,jz _ _ _ _ _⟩,⟨_,_,M4.o,gZ fS⟩,_,e4,eX (eU (j:=2) rfl) (iq M4 C4 h3 (l5.sz hz) fun H5 M5 F5 C5 k5=>?_)⟩
  refine tc1 (v:= .int own) rfl (ou M5 (by have:=(l5.sz hz).f;lia) fun H6 M6 F6=>?_)
  have e6:=F6.tup M5 (k5 _ _ e4)
  have F26:=F3.trans (F4.trans (F5.trans F6))
  have ez6:=F26 _ _ ez nd
  refine⟨⟨_,ez6⟩,_,e6,eX (eU (j:=0) rfl) ⟨lQ,fun t2 h2'=>⟨zs,?_,by lia,?_⟩⟩⟩
  ·exact eS h2' _ _ _ ez6
  have S7:=eS h2' (.tup [.str p.1,.int si.n])
  have e7:=S7 _ _ ez6
  refine⟨_,_,_,_,_,rfl,(M6.same S7).other e7 nd,h2,((F2.trans F26).trans (FL.same S7)).put hd _,eO,?_⟩
  rw[bC]
  exact(((iz.mono (M2.tk F26)).mono (fC.tk S7)).app (.cons (ip h2' (.cons (.flat rfl) (.cons (.flat rfl) .nil))) .nil)).mono (ie e7).tk
 ·rintro σ H2 ⟨o6,o7,si,acc,zs,rfl,M2,h2,F2,ez,iz⟩
  have lx:=il.length
  rw[aB]at lx
  rw[lx,bH]at h2
  cases cx.inj h2
  cases cx.inj hl
  refine⟨_,⟨_,_,M2.o,fE⟩,⟨_,_,M2.b.b,ij _ _ _ _ _⟩,d,zs,rfl,.inl ⟨SqL.of ez,fun a ha x dx hx hdx nx=>⟨x,dx,_,_,_,_,rfl,eO,rfl,?_⟩⟩⟩
  rw[gb]
  have S3:=eS ha (.tup zs)
  exact tn1 (ki (u:= .case _ _ _ fs) (M2.same S3) (l3.sz hz) hx hdx ⟨x,dx,_,rfl,eO,(ip ha iz).mono (fC.tk (iW hx hdx)),by lia⟩ fun H' M' F'=>q H' M' (F0.trans (F2.trans ((FL.same S3).trans F'))))
theorem tS {p h b hd sd:Addr}:(fLy p h b hd sd).lookup ("starts":Str)=some (.ref sd):=ot.2.2.2.2.2
theorem ox {p h b hd sd:Addr}:(fLy p h b hd sd).lookup ("program":Str)=some (.ref p):=ot.1
theorem Aq {p h b hd sd:Addr}:(fLy p h b hd sd).lookup ("homes":Str)=some (.ref h):=ot.2.1
theorem yS {p h b hd sd:Addr}:(fLy p h b hd sd).lookup ("papers":Str)=some .non:=ot.2.2.1
theorem Lm.start {CL:Addr} {c:Cs} {H:Hp} {A:La} {s:Ls} {p0:Int} (M:Lm CL c H A (s.pt p0)) (hs:DkI H A.sd s.st s.D.pts.length) (hn:s.D.pts.length<1000000) (k v:Int):∃H',xN H A.sd (.int k) (.int v) H'/\Lm CL c H' A ((s.pt p0).begin k v)/\FL A H H':=by
 obtain⟨H',d,⟨o,rfl⟩,h⟩:=hs.put (by lia) k v
 obtain⟨kvs,e,_⟩:=hs
 obtain⟨o1,b,⟨k2,d2,r2⟩,_,ne⟩:=M
 have lp:(s.D.pts++[p0]).length=s.D.pts.length+ 1:=by rw[aN];rfl
 refine⟨_,d,⟨by rw[eT (jm o1 e (fun z=>nomatch z))];exact o1,Bw.dk b e,⟨k2,by rw[eT ne];exact d2,r2⟩,?_,ne⟩,wV (by simp[La.ch])⟩
 show DkI _ A.sd (put s.st k v) (s.D.pts++[p0]).length
 rw[lp]
 exact h
inductive XSt (CP:Addr) (vs:List V) (H:Hp) (Q:VK):Prop
 |mk (a n r w dx:Addr) (xs:List V) (names:List Str) (roots:List Nat) (ρs:List Ro) (p:Int) (d:Nat) (e:vs=[.ref a,.int p,.int (d:Int)]) (pr:PrA CP H a n r w dx xs names roots ρs) (hd:d<roots.length) (q:Q (.bl (inF roots p d)) H)
def Gf (CP:Addr):Sp:=fun vs H Q _=>XSt CP vs H Q
theorem jS {L:Lf} {roots:List Nat} {d r:Int} {s s':Ls} (h:qv L roots d s=some (r,s')):∃r0 q0 s2,atZ roots d=some r0/\L (r0:Int) ((s.pt r0).begin d s.n)=some (q0,s2)/\r=s.n/\s'=s2.fl q0 s.n:=by
 unfold qv at h
 cases e:atZ roots d with
 |none=>rw[e]at h;cases h
 |some r0=>
  rw[e]at h
  dsimp only at h
  cases e2:L (r0:Int) ((s.pt r0).begin d s.n)with
  |none=>rw[e2]at h;cases h
  |some z=>obtain⟨q0,s2⟩:=z;rw[e2]at h;cases h;exact⟨r0,q0,s2,rfl,e2,rfl,rfl⟩
inductive XLd (CL CP:Addr) (c:Cs) (f:Nat) (vs:List V) (H:Hp) (Q:VK):Prop
 |mk (A:La) (s s':Ls) (d r:Int) (names:List Str) (roots:List Nat) (ρs:List Ro) (ho:Nat->Option Hm) (e:vs=[.ref A.l,.int d]) (M:Lm CL c H A s) (C:Cp CP H A names roots ρs ho) (hl:qv (iE ρs roots ho f) roots d s=some (r,s')) (hz:Sz 1000000 s') (q:∀H',Lm CL c H' A s'->FL A H H'->Q (.int r) H')
def Gg (CL CP:Addr) (c:Cs) (f:Nat):Sp:=fun vs H Q _=>XLd CL CP c f vs H Q
theorem tT (T:Txt K mg):FO P w base 1 T.d1 (Gf T.c10.a):=by
 refine T.d1.F.ok oJ (fun vs H Q E h=>?_) (fun cdv A0 outer s0 H vs Q E hr h=>?_)
 ·obtain⟨a,n,r,w,dx,xs,names,roots,ρs,p,d,rfl,_⟩:=h
  rfl
 obtain⟨a,n,r,w,dx,xs,names,roots,ρs,p,d,rfl,pr,hd,q⟩:=h
 refine⟨_,(eQ (pS (i:=3) oJ.nd (fq gF (cv 2) eR))
  (eV (fu (Dy (nL jv (cv 3) (fJ fR rfl T.z_len ja (eN (fj T.c10.cl T.n10roots (cv 0)) eP))) (sN (nL lA (cv 1) (eZ fc (fj T.c10.cl T.n10roots (cv 0)) (cv 3)))))))),?_⟩
 refine⟨_,⟨dx,_,pr.o,pf _ _ _⟩,r,_,rfl,.inl (SqL.of pr.r),_,rfl,?_⟩
 show if(false ^^ decide ((d:Int)+ 1=(((roots.map nI).length:Nat):Int)))=true then _ else _
 rw[dW,aB,show decide ((d:Int)+ 1=(roots.length:Int))=decide (d+ 1=roots.length)from decide_eq_decide.mpr (by lia)]
 have ea:atZ roots ((d:Int)+ 1)=roots[d+ 1]?:=rfl
 unfold inF at q
 rw[ea]at q
 by_cases e:d+ 1=roots.length
 ·rw[List.getElem?_eq_none (by lia)]at q
  rw[gQ e]
  exact jL q
 ·have h1:roots[d+ 1]?=some (roots[d+ 1]'(by lia)):=ba (by lia)
  rw[h1]at q
  rw[gA e]
  refine jo ⟨_,⟨dx,_,pr.o,pf _ _ _⟩,_,pr.r,eX (v:=nI (roots[d+ 1]'(by lia))) (eU (j:=d+ 1) (by rw[aJ,h1];rfl)) ?_⟩
  exact q
theorem iJ (T:Txt K mg) (f:Nat) (gE71:MO P w base mg (5*f+ 3) T.e71 (jJ T.c9.a T.c10.a (cs T) f)):MO P w base mg (5*f+ 4) T.e70 (Gg T.c9.a T.c10.a (cs T) f):=by
 have gE64:=gq (P:=P) (w:=w) (base:=base) T
 have gE67:=hG (P:=P) (w:=w) (base:=base) T
 refine T.e70.F.ok gG (fun vs H Q E h=>?_) (fun cdv A0 outer s0 H vs Q E hr h=>?_)
 ·obtain⟨A,s,s',d,r,names,roots,ρs,ho,rfl,_⟩:=h
  rfl
 obtain⟨A,s,s',d,r,names,roots,ρs,ho,rfl,M,C,hl,hz,q⟩:=h
 have hu:=wC hr
 refine⟨_,(eQ (pS (i:=2) gG.nd (eZ fc (fj T.c10.cl T.n10roots (fj T.c9.cl T.n9program (cv 0))) (cv 1)))
  (eQ (pS (i:=3) gG.nd (e8 (fm (PE.mono (fj T.c9.cl T.n9board (cv 0))) T.c8.cl T.e64.me gE64 (hr.mono (by lia)) T.e64.b .nil fH (eN (cv 2) eP))))
  (eQ (rH hu (fj T.c9.cl T.n9starts (cv 0)) (cv 1) (cv 3) rfl)
  (eQ (fo (e8 (fm (PE.mono (fj T.c9.cl T.n9board (cv 0))) T.c8.cl T.e67.me gE67 (hr.mono (by lia)) T.e67.b .nil fH (eN (e8 (fm (PE.mono (cv 0)) T.c9.cl T.e71.me gE71 (hr.mono (by lia)) T.e71.b .nil fH (eN (cv 2) eP))) (eN (cv 3) eP)))))
  (eV (fu (cv 3))))))),?_⟩
 obtain⟨r0,q0,s2,hd,h2,rfl,rfl⟩:=jS hl
 obtain⟨d,rfl,hd3⟩:=f9 hd
 obtain⟨n,rr,w',dx,xs,pr,_⟩:=C.p
 have l2:=gy f _ _ _ _ h2
 have lp:=((Le.pt.trans (Le.be.trans (l2.trans Le.fl))).sz hz).p
 have lq:=((Le.be.trans (l2.trans Le.fl)).sz hz).p
 refine⟨_,⟨_,_,M.o,ox⟩,_,⟨_,_,pr.o,pf _ _ _⟩,?_⟩
 refine⟨_,pr.r,eX (v:=nI r0) (eU (j:=d) (by rw[aJ,hd3];rfl)) ?_⟩
 dsimp only[fK]
 refine⟨_,⟨_,_,M.o,fE⟩,⟨_,_,M.b.b,gX _ _ _ _ _⟩,?_⟩
 refine tc1 (v:= .int r0) rfl (vD M (by lia) fun H1 M1 F1 _ d1=>?_)
 obtain⟨H2,dp,M2,F2⟩:=M1.start d1 (CB lq) d s.n
 have C2:=(C.fl M F1).fl M1 F2
 refine⟨_,⟨_,_,M1.o,tS⟩,A.sd,H2,rfl,dp,?_⟩
 refine⟨_,⟨_,_,M2.o,fE⟩,⟨_,_,M2.b.b,jz _ _ _ _ _⟩,⟨_,_,M2.o,gZ fS⟩,?_⟩
 refine tc1 (v:= .int r0) rfl (iq M2 C2 h2 (Le.fl.sz hz) fun H3 M3 F3 C3 k3=>?_)
 refine tc1 (v:= .int s.n) rfl (ou M3 (by have:=(Le.fl.sz hz:Sz _ s2).f;lia) fun H4 M4 F4=>?_)
 exact q _ M4 (F1.trans (F2.trans (F3.trans F4)))
def dpF (L:Lf) (roots:List Nat) (p d:Int) (s:Ls):Option (Int×Ls):=if inF roots p d then(s.st d).map fun q=>(q,s)else qv L roots d s
inductive XDp (CL CP:Addr) (c:Cs) (f:Nat) (vs:List V) (H:Hp) (Q:VK):Prop
 |mk (A:La) (s s':Ls) (p:Int) (d:Nat) (r:Int) (names:List Str) (roots:List Nat) (ρs:List Ro) (ho:Nat->Option Hm) (e:vs=[.ref A.l,.int p,.int (d:Int)]) (M:Lm CL c H A s) (C:Cp CP H A names roots ρs ho) (hd:d<roots.length) (hl:dpF (iE ρs roots ho f) roots p d s=some (r,s')) (hz:Sz 1000000 s') (q:∀H',Lm CL c H' A s'->FL A H H'->Q (.int r) H')
def Gh (CL CP:Addr) (c:Cs) (f:Nat):Sp:=fun vs H Q _=>XDp CL CP c f vs H Q
inductive XMp (CL CP:Addr) (c:Cs) (f:Nat) (vs:List V) (H:Hp) (Q:VK):Prop
 |mk (A:La) (s s':Ls) (k:Nat) (r:Int) (ρ:Ro) (h:Hm) (names:List Str) (roots:List Nat) (ρs:List Ro) (ho:Nat->Option Hm) (e:vs=[.ref A.l,.int (k:Int)]) (M:Lm CL c H A s) (C:Cp CP H A names roots ρs ho) (hk:ρs[k]?=some ρ) (hh:ho k=some h) (hl:ia (iE ρs roots ho f) roots h k s=some (r,s')) (hz:Sz 1000000 s') (q:∀H',Lm CL c H' A s'->FL A H H'->Q (.int r) H')
def Gi (CL CP:Addr) (c:Cs) (f:Nat):Sp:=fun vs H Q _=>XMp CL CP c f vs H Q
def Gj:Sp:=fun _ _ _ _=>False
theorem yT (T:Txt K mg):FO P w base 1 T.d2 Gj:=
 T.d2.F.ok yD (fun vs H Q E h=>h.elim) (fun cdv A0 outer s0 H vs Q E hr h=>h.elim)
theorem mW (T:Txt K mg) (f:Nat) (gE71:MO P w base mg (5*f+ 3) T.e71 (jJ T.c9.a T.c10.a (cs T) f)):FO P w base (5*f+ 5) T.d11 (Gh T.c9.a T.c10.a (cs T) f):=by
 have gE70:=iJ (P:=P) (w:=w) (base:=base) T f gE71
 have gD1:=tT (P:=P) (w:=w) (base:=base) T
 have gD2:=yT (P:=P) (w:=w) (base:=base) T
 refine T.d11.F.ok mI (fun vs H Q E h=>?_) (fun cdv A0 outer s0 H vs Q E hr h=>?_)
 ·obtain⟨A,s,s',p,d,r,names,roots,ρs,ho,rfl,_⟩:=h
  rfl
 obtain⟨A,s,s',p,d,r,names,roots,ρs,ho,rfl,M,C,hd,hl,hz,q⟩:=h
 have hu:=wC hr
 refine⟨_,(eQ (gB (m7 (pF T.d1 gD1 (hr.mono (by lia)) (eN (fj T.c9.cl T.n9program (cv 0)) (eN (cv 1) (eN (cv 2) eP)))))
   (eV (fu (uz hu (fj T.c9.cl T.n9starts (cv 0)) (cv 2))))
   fF)
  (eQ (gB (vc (xt (fj T.c9.cl T.n9papers (cv 0))))
   (eV (fu (e8 (fm (PE.mono (cv 0)) T.c9.cl T.e70.me gE70 (hr.mono (by lia)) T.e70.b .nil fH (eN (cv 2) eP)))))
   fF)
  (eV (fu (pF T.d2 gD2 (hr.mono (by lia)) (eN (fj T.c9.cl T.n9board (cv 0)) (eN (eZ fc (fj T.c9.cl T.n9papers (cv 0)) (cv 2)) (eN (cv 1) eP)))))))),?_⟩
 obtain⟨n,rr,w',dx,xs,pr,_⟩:=C.p
 refine⟨_,⟨_,_,M.o,ox⟩,A.p,n,rr,w',dx,xs,names,roots,ρs,p,d,rfl,pr,hd,_,rfl,?_⟩
 unfold dpF at hl
 cases e:inF roots p d with
 |true=>
  rw[e,fY rfl]at hl
  obtain⟨v,hv,e2⟩:=cB.mp hl
  cases e2
  exact jL ⟨_,⟨_,_,M.o,tS⟩,A.sd,_,rfl,M.sd.get hv,q _ M FL.refl⟩
 |false=>
  rw[e,fN (by decide)]at hl
  refine jo ⟨_,⟨_,_,M.o,yS⟩,_,rfl,jL ⟨⟨_,_,M.o,gZ fS⟩,?_⟩⟩
  exact⟨A,s,s',d,r,names,roots,ρs,ho,rfl,M,C,hl,hz,q⟩
theorem qL (T:Txt K mg) (f:Nat) (gE71:MO P w base mg (5*f+ 3) T.e71 (jJ T.c9.a T.c10.a (cs T) f)):FO P w base (5*f+ 6) T.d10 (Gi T.c9.a T.c10.a (cs T) f):=by
 have gD11:=mW (P:=P) (w:=w) (base:=base) T f gE71
 refine T.d10.F.ok l9 (fun vs H Q E h=>?_) (fun cdv A0 outer s0 H vs Q E hr h=>?_)
 ·obtain⟨A,s,s',k,r,ρ,h,names,roots,ρs,ho,rfl,_⟩:=h
  rfl
 obtain⟨A,s,s',k,r,ρ,h,names,roots,ρs,ho,rfl,M,C,hk,hh,hl,hz,q⟩:=h
 have hu:=wC hr
 refine⟨_,(eQ (pS (i:=2) l9.nd (eZ fc (fj T.c9.cl T.n9homes (cv 0)) (cv 1)))
  (eQ (gB (fA jv (eZ fh (cv 2) eR) fD)
   (eV (fu (e8 (fm (PE.mono (cv 0)) T.c9.cl T.e71.me gE71 (hr.mono (by lia)) T.e71.b .nil fH (eN (eZ fh (cv 2) eR) eP)))))
   fF)
  (eQ (gB (fA jv (eZ fh (cv 2) eR) fD)
   (eV (fu (pF T.d11 gD11 (hr.mono (by lia)) (eN (cv 0) (eN (cv 1) (eN (eZ fh (cv 2) eR) eP))))))
   fF)
  (eV (fu (uz hu (fj T.c9.cl T.n9held (cv 0)) (eZ fh (cv 2) eR))))))),?_⟩
 obtain⟨hs,eh,_,hy⟩:=C.h
 obtain⟨y,ey,iy⟩:=hy _ _ hk
 rw[hh]at iy
 obtain⟨t,y1,y2,rfl,et,j1,j2⟩:=uI (show Im H y (.tup [sD h.1,kD h.2])from iy)
 cases kX j1
 cases jN j2
 refine⟨_,⟨_,_,M.o,Aq⟩,_,eh,eX (eU ey) ?_⟩
 dsimp only[fK]
 unfold ia at hl
 by_cases e1:h.1="let"
 ·rw[fY e1]at hl
  refine oN (i:=2) (x:="let") ?_ et (gQ e1) ?_
  ·rfl
  exact⟨⟨_,_,M.o,gZ fS⟩,_,et,eX (eU (j:=1) rfl) (iq M C hl hz fun H' M' F' _ _=>q H' M' F')⟩
 rw[fN e1]at hl
 refine oM (i:=2) (x:="let") ?_ et (gA e1) ?_
 ·rfl
 dsimp only[ju]
 by_cases e2:h.1="def"
 ·rw[fY e2]at hl
  obtain⟨d,hd,ld⟩:=C.dom _ _ hh e2
  rw[hd]at hl et
  refine oN (i:=2) (x:="def") ?_ et (gQ e2) ?_
  ·rfl
  exact⟨_,et,eX (eU (j:=1) rfl) ⟨A,s,s',k,d,r,names,roots,ρs,ho,rfl,M,C,ld,hl,hz,q⟩⟩
 rw[fN e2]at hl
 refine oM (i:=2) (x:="def") ?_ et (gA e2) ?_
 ·rfl
 obtain⟨v,hv,e3⟩:=cB.mp hl
 cases e3
 exact⟨_,⟨_,_,M.o,uJ⟩,_,et,eX (eU (j:=1) rfl) ⟨A.hd,_,rfl,M.hd.get hv,q _ M FL.refl⟩⟩
theorem uP (T:Txt K mg) (f:Nat) (gE71:MO P w base mg (5*f+ 3) T.e71 (jJ T.c9.a T.c10.a (cs T) f)):FO P w base (5*f+ 7) T.d9 (iF T.c9.a T.c10.a (cs T) f fun ρ=>∃n,ρ= .name n):=by
 have gE67:=hG (P:=P) (w:=w) (base:=base) T
 have gD10:=qL (P:=P) (w:=w) (base:=base) T f gE71
 refine T.d9.F.ok uE (fun vs H Q E h=>?_) (fun cdv A0 outer s0 H vs Q E hr h=>?_)
 ·obtain⟨A,s,s',p,own,t,ρ,names,roots,ρs,ho,rfl,_⟩:=h
  rfl
 obtain⟨A,s,s',p,own,t,ρ,names,roots,ρs,ho,rfl,M,C,hk,⟨n,rfl⟩,it,hl,hz,q⟩:=h
 refine⟨_,(eV (fo (e8 (fm (PE.mono (fj T.c9.cl T.n9board (cv 0))) T.c8.cl T.e67.me gE67 (hr.mono (by lia)) T.e67.b .nil fH (eN (pF T.d10 gD10 (hr.mono (by lia)) (eN (cv 0) (eN (cv 2) eP))) (eN (cv 3) eP)))))),?_⟩
 obtain⟨k,rfl,hk⟩:=f9 hk
 obtain⟨h,r,s1,hh,h1,hl⟩:∃h r s1,ho k=some h/\ia (iE ρs roots ho f) roots h k s=some (r,s1)/\some (s1.fl r own)=some s':=by
  unfold hV at hl
  dsimp only at hl
  rw[show((k:Int)).toNat=k from rfl]at hl
  cases e:ho k with
  |none=>rw[e]at hl;cases hl
  |some h=>
   rw[e]at hl
   dsimp only at hl
   cases e2:ia (iE ρs roots ho f) roots h k s with
   |none=>rw[e2]at hl;cases hl
   |some z=>obtain⟨r,s1⟩:=z;rw[e2]at hl;exact⟨h,r,s1,rfl,e2,hl⟩
 cases cx.inj hl
 refine⟨_,⟨_,_,M.o,fE⟩,⟨_,_,M.b.b,jz _ _ _ _ _⟩,A,s,s1,k,r,_,h,names,roots,ρs,ho,rfl,M,C,hk,hh,h1,Le.fl.sz hz,fun H1 M1 F1=>?_⟩
 exact tc1 (v:= .int own) rfl (ou M1 (by have:=(Le.fl.sz hz:Sz _ s1).f;lia) fun H' M' F'=>q H' M' (F1.trans F'))
def U1:Ro->Prop
 | .op o _=>o="call"\/o="at"\/o="join"\/o="size"\/o="add"\/o="sub"\/o="less"
 |_=>True
theorem Gk {L:Lf} {roots:List Nat} {h:Option Hm} {p own:Int} {s s':Ls} {ρ:Ro} (hl:hV L roots h p own s ρ=some s'):U1 ρ:=by
 cases ρ with
 |op o ks=>
  show o="call"\/o="at"\/o="join"\/o="size"\/o="add"\/o="sub"\/o="less"
  by_cases h1:o="call"
  ·exact .inl h1
  by_cases h2:o="at"
  ·exact .inr (.inl h2)
  by_cases h3:o="join"
  ·exact .inr (.inr (.inl h3))
  by_cases h4:o="size"
  ·exact .inr (.inr (.inr (.inl h4)))
  by_cases h5:o="add"\/o="sub"
  ·rcases h5 with h5|h5
   ·exact .inr (.inr (.inr (.inr (.inl h5))))
   ·exact .inr (.inr (.inr (.inr (.inr (.inl h5)))))
  by_cases h6:o="less"
  ·exact .inr (.inr (.inr (.inr (.inr (.inr h6)))))
  obtain⟨a,b,rfl⟩:=tP h4 h2 hl
  unfold hV at hl
  dsimp only at hl
  rw[fN h1,fN h3,fN h6,fN h5]at hl
  cases hl
 |_=>trivial
theorem lW {ρs:List Ro} {roots:List Nat} {ho:Nat->Option Hm} {f:Nat} {p r:Int} {s s':Ls} (h:iE ρs roots ho (f+ 1) p s=some (r,s')):∃ρ,atZ ρs p=some ρ/\hV (iE ρs roots ho f) roots (ho p.toNat) p s.n (s.pt p) ρ=some s'/\r=s.n:=by
 unfold iE at h
 cases e:atZ ρs p with
 |none=>rw[e]at h;cases h
 |some ρ=>
  rw[e]at h
  dsimp only at h
  cases e2:hV (iE ρs roots ho f) roots (ho p.toNat) p s.n (s.pt p) ρ with
  |none=>rw[e2]at h;cases h
  |some z=>rw[e2]at h;cases h;exact⟨ρ,rfl,e2,rfl⟩
inductive LyS (T:Txt K mg) (f:Nat):Addr->Sp->Prop
 |num:LyS T f T.d8.a (iF T.c9.a T.c10.a (cs T) f fun ρ=>∃n,ρ= .num n)
 |name:LyS T f T.d9.a (iF T.c9.a T.c10.a (cs T) f fun ρ=>∃n,ρ= .name n)
 |fn:LyS T f T.d12.a (iF T.c9.a T.c10.a (cs T) f fun ρ=>X2 fun n k=>ρ= .fn n k)
 |call:LyS T f T.d13.a (iF T.c9.a T.c10.a (cs T) f fun ρ=>∃ks,ρ= .op "call" ks)
 |lt:LyS T f T.d14.a (iF T.c9.a T.c10.a (cs T) f fun ρ=>X3 fun n a b=>ρ= .lt n a b)
 |rcd:LyS T f T.d15.a (iF T.c9.a T.c10.a (cs T) f fun ρ=>∃l,ρ= .rcd l)
 |get:LyS T f T.d16.a (iF T.c9.a T.c10.a (cs T) f fun ρ=>X2 fun k n=>ρ= .get k n)
 |tag:LyS T f T.d17.a (iF T.c9.a T.c10.a (cs T) f fun ρ=>X2 fun n k=>ρ= .tag n k)
 |case:LyS T f T.d18.a (iF T.c9.a T.c10.a (cs T) f fun ρ=>X2 fun k l=>ρ= .case k l)
 |row:LyS T f T.d19.a (iF T.c9.a T.c10.a (cs T) f fun ρ=>∃ks,ρ= .row ks)
 |ix:LyS T f T.d20.a (iF T.c9.a T.c10.a (cs T) f fun ρ=>∃ks,ρ= .op "at" ks)
 |join:LyS T f T.d21.a (iF T.c9.a T.c10.a (cs T) f fun ρ=>∃ks,ρ= .op "join" ks)
 |size:LyS T f T.d22.a (iF T.c9.a T.c10.a (cs T) f fun ρ=>∃ks,ρ= .op "size" ks)
 |sum:LyS T f T.d23.a (iF T.c9.a T.c10.a (cs T) f fun ρ=>X2 fun o ks=>ρ= .op o ks/\(o="add"\/o="sub"))
 |less:LyS T f T.d24.a (iF T.c9.a T.c10.a (cs T) f fun ρ=>∃ks,ρ= .op "less" ks)
theorem LyS.ok {T:Txt K mg} {f:Nat} {X:Cx} (e1:X.prog=P) (e2:X.w=w) (e3:X.K=K) (e4:X.mg=mg) (e5:X.base=base) (G:MO P w base mg (5*f+ 3) T.e71 (jJ T.c9.a T.c10.a (cs T) f)) {a:Addr} {sp:Sp} (h:LyS T f a sp):G7 X CX0 (5*f+ 7) a sp:=by
 subst e1 e2 e3 e4 e5
 cases h with
 |num=>exact⟨_,_,wW T f,T.d8.k,T.d8.b⟩
 |name=>exact⟨_,_,uP T f G,T.d9.k,T.d9.b⟩
 |fn=>exact⟨_,_,yR T f G,T.d12.k,T.d12.b⟩
 |call=>exact⟨_,_,uK T f G,T.d13.k,T.d13.b⟩
 |lt=>exact⟨_,_,wZ T f G,T.d14.k,T.d14.b⟩
 |rcd=>exact⟨_,_,xf T f G,T.d15.k,T.d15.b⟩
 |get=>exact⟨_,_,wY T f G,T.d16.k,T.d16.b⟩
 |tag=>exact⟨_,_,wX T f G,T.d17.k,T.d17.b⟩
 |case=>exact⟨_,_,uO T f G,T.d18.k,T.d18.b⟩
 |row=>exact⟨_,_,xb T f G,T.d19.k,T.d19.b⟩
 |ix=>exact⟨_,_,yQ T f G,T.d20.k,T.d20.b⟩
 |join=>exact⟨_,_,uM T f G,T.d21.k,T.d21.b⟩
 |size=>exact⟨_,_,uL T f G,T.d22.k,T.d22.b⟩
 |sum=>exact⟨_,_,xa T f G,T.d23.k,T.d23.b⟩
 |less=>exact⟨_,_,uN T f G,T.d24.k,T.d24.b⟩
structure Lk (P:Program) (w:World) (T:Txt K mg) where
 a:Addr
 m:mg "LAYERS"=some (.ref a)
 kvs:List (Key×V)
 kd:B8 P w K a kvs
 yes:∀ρ,U1 ρ->∃g,kr kvs (Sum.inr ρ.s)=some (.ref g)/\∀f,∃U,LyS T f g (iF T.c9.a T.c10.a (cs T) f U)/\U ρ
theorem qM (T:Txt K mg) (W:Lk P w T) (f:Nat) (gE71:MO P w base mg (5*f+ 3) T.e71 (jJ T.c9.a T.c10.a (cs T) f)):MO P w base mg (5*(f+ 1)+ 3) T.e71 (jJ T.c9.a T.c10.a (cs T) (f+ 1)):=by
 have gE64:=gq (P:=P) (w:=w) (base:=base) T
 refine T.e71.F.ok jw (fun vs H Q E h=>?_) (fun cdv A0 outer s0 H vs Q E hr h=>?_)
 ·obtain⟨A,s,s',p,r,names,roots,ρs,ho,rfl,_⟩:=h
  rfl
 obtain⟨A,s,s',p,r,names,roots,ρs,ho,rfl,M,C,hl,hz,q⟩:=h
 refine⟨_,(eQ (pS (i:=2) jw.nd (eZ fc (fj T.c10.cl T.n10rows (fj T.c9.cl T.n9program (cv 0))) (cv 1)))
  (eQ (pS (i:=3) jw.nd (e8 (fm (PE.mono (fj T.c9.cl T.n9board (cv 0))) T.c8.cl T.e64.me gE64 (hr.mono (by lia)) T.e64.b .nil fH (eN (cv 1) eP))))
  (eQ (fo (z7 (fun g sp (h:LyS T f g sp)=>h.ok rfl rfl rfl rfl rfl gE71) (hr.mono (by lia)) fH (B9 W.kd (ya rfl W.m) (eZ fh (cv 2) eR)) (eN (cv 0) (eN (cv 2) (eN (cv 1) (eN (cv 3) eP))))))
  (eV (fu (cv 3)))))),?_⟩
 obtain⟨ρ,hk,h1,e1⟩:=lW hl
 cases e1
 obtain⟨k,rfl,hk'⟩:=f9 hk
 obtain⟨n,rr,w',dx,xs,pr,_⟩:=C.p
 obtain⟨tr,ys,hxt,etr,_,him⟩:=CA pr.i hk'
 obtain⟨g,hv,hS⟩:=W.yes ρ (Gk h1)
 obtain⟨U,hS,hU⟩:=hS f
 have lp:=((Le.pt.trans (yO (gy f) h1)).sz hz).p
 refine⟨_,⟨_,_,M.o,ox⟩,_,⟨_,_,pr.o,yP _ _ _⟩,_,pr.w,eX (eU hxt) ?_⟩
 dsimp only[fK]
 refine⟨_,⟨_,_,M.o,fE⟩,⟨_,_,M.b.b,gX _ _ _ _ _⟩,?_⟩
 refine tc1 (v:= .int k) rfl (yM M (by lia) fun H1 M1 F1=>?_)
 refine⟨_,F1.tup M etr,eX (eU (j:=0) rfl) ⟨Sum.inr ρ.s,_,rfl,rfl,hv,g,_,rfl,hS,?_⟩⟩
 exact⟨A,_,s',k,s.n,tr,ρ,names,roots,ρs,ho,rfl,M1,C.fl M F1,hk,hU,him.mono (M.tk F1),h1,hz,fun H' M' F'=>q H' M' (F1.trans F')⟩
theorem nA (T:Txt K mg) (W:Lk P w T):∀f:Nat,MO P w base mg (5*f+ 3) T.e71 (jJ T.c9.a T.c10.a (cs T) f)
 |0=>by
  refine T.e71.F.ok jw (fun vs H Q E h=>?_) (fun cdv A0 outer s0 H vs Q E hr h=>?_)
  ·obtain⟨A,s,s',p,r,names,roots,ρs,ho,rfl,_⟩:=h
   rfl
  ·obtain⟨A,s,s',p,r,names,roots,ρs,ho,rfl,M,C,hl,_⟩:=h
   cases hl
 |f+ 1=>qM T W f (nA T W f)
def s00:Ls:=⟨⟨[],[],[],[],0⟩,fun _=>none,fun _=>none⟩
structure Jx (CL dx x:Addr) (H0 H:Hp) (fs:List (Str×V)) (ks:List (Addr×HO)):Prop where
 x0:∃u,H0 x=some u
 o:H x=some (.ins CL dx fs)
 k:∀b u,H0 b=some u->b≠x->H b=some u
 m:∀q∈ks,H q.1=some q.2/\H0 q.1=none
section
variable {CL dx x:Addr} {H0 H H':Hp} {fs:List (Str×V)} {ks:List (Addr×HO)}
theorem Jx.fld (j:Jx CL dx x H0 H fs ks) (gs:List (Str×V)):Jx CL dx x H0 (L2.Internal.upd H x (.ins CL dx gs)) gs ks:=
 let⟨_,e⟩:=j.x0
 ⟨j.x0,eO,fun b u h n=>by rw[eT n];exact j.k b u h n,fun q hq=>⟨by rw[eT (fun z=>by have:=(j.m q hq).2;rw[z,e]at this;cases this)];exact(j.m q hq).1,(j.m q hq).2⟩⟩
theorem Jx.non0 (j:Jx CL dx x H0 H fs ks) {a:Addr} (h:H a=none):H0 a=none:=by
 cases e:H0 a with
 |none=>rfl
 |some u=>
  have n:a≠x:=fun z=>by rw[z,j.o]at h;cases h
  rw[j.k a u e n]at h
  cases h
theorem Jx.add (j:Jx CL dx x H0 H fs ks) (S:fC H H') (l:List (Addr×HO)) (hl:∀q∈l,H q.1=none/\H' q.1=some q.2):Jx CL dx x H0 H' fs (l++ks):=
 ⟨j.x0,S _ _ j.o,fun b u h n=>S _ _ (j.k b u h n),fun q hq=>by
  rcases ak.mp hq with h|h
  ·exact⟨(hl q h).2,j.non0 (hl q h).1⟩
  ·exact⟨S _ _ (j.m q h).1,(j.m q h).2⟩⟩
end
inductive XLi (CL:Addr) (c:Cs) (vs:List V) (H:Hp) (Q:VK):Prop
 |mk (x dx p h:Addr) (e:vs=[.ref x,.ref p,.ref h,.non]) (o:H x=some (.ins CL dx [])) (q:∀(A:La) (H':Hp),A.l=x->A.p=p->A.h=h->Lm CL c H' A s00->(∀b o,H b=some o->b≠x->H' b=some o)->(∀a∈A.B.b::A.ch,H a=none)->Q .non H')
def Gm (CL:Addr) (c:Cs):Sp:=fun vs H Q _=>XLi CL c vs H Q
theorem nB (T:Txt K mg):MO P w base mg 3 T.e69 (Gm T.c9.a (cs T)):=by
 have gE63:=oq (P:=P) (w:=w) (base:=base) T
 refine T.e69.F.ok nu (fun vs H Q E h=>?_) (fun cdv A0 outer s0 H vs Q E hr h=>?_)
 ·obtain⟨x,dx,p,h,rfl,_⟩:=h
  rfl
 obtain⟨x,dx,p,h,rfl,o,q⟩:=h
 refine⟨_,(eQ (kA T.c9.cl T.n9program (gE (PE.mono (cv 0)) (PE.mono (cv 1)) rfl))
  (eQ (kA T.c9.cl T.n9homes (gE (PE.mono (cv 0)) (PE.mono (cv 2)) rfl))
  (eQ (kA T.c9.cl T.n9papers (gE (PE.mono (cv 0)) (PE.mono (cv 3)) rfl))
  (eQ (kA T.c9.cl T.n9board (gE (PE.mono (cv 0)) (PE.mono (zP T.mk8 gE63 hr.m rfl T.c8.m T.e63.b .nil fH)) rfl))
  (eQ (kA T.c9.cl T.n9held (gE (PE.mono (cv 0)) (PE.mono rJ) rfl))
  (eV (kA T.c9.cl T.n9starts (gE (PE.mono (cv 0)) (PE.mono rJ) rfl)))))))),?_⟩
 have j0:Jx T.c9.a dx x H H [] []:=⟨⟨_,o⟩,o,fun _ _ e _=>e,fun q hq=>by cases hq⟩
 refine⟨_,_,o,(by show 0<1000;decide),?_⟩
 have j1:=j0.fld (iZ "program" (.ref p) [])
 dsimp only
 generalize L2.Internal.upd H x (.ins T.c9.a dx (iZ "program" (.ref p) []))=H1 at j1⊢
 refine⟨_,_,j1.o,(by show 1<1000;decide),?_⟩
 have j2:=j1.fld (iZ "homes" (.ref h) (iZ "program" (.ref p) []))
 dsimp only
 generalize L2.Internal.upd H1 x _=H2 at j2⊢
 refine⟨_,_,j2.o,(by show 2<1000;decide),?_⟩
 have j3:=j2.fld (iZ "papers" .non (iZ "homes" (.ref h) (iZ "program" (.ref p) [])))
 dsimp only
 generalize L2.Internal.upd H2 x _=H3 at j3⊢
 rw[show iZ "papers" .non (iZ "homes" (.ref h) (iZ "program" (.ref p) []))=([("program",.ref p),("homes",.ref h),("papers",.non)]:List (Str×V)) by kernel_rfl]at j3
 refine fun b bx hb hbx nx=>⟨b,bx,rfl,eO,fun p0 p1 p2 p3 H4 hn nd eb el hk=>⟨rfl,?_⟩⟩
 have Sm:=iW (o:= .ins T.c8.a bx []) hb hbx
 have S4:fC H3 H4:=fun y u e=>hk y u (Sm _ _ e) (eY e hb)
 have hn3:∀a∈[p0,p1,p2,p3],H3 a=none:=fun a ha=>by
  cases e:H3 a with
  |none=>rfl
  |some u=>have:=hn a ha;rw[Sm _ _ e]at this;cases this
 obtain⟨l0,l1,l2,l3⟩:H4 p0=some (.lst [])/\H4 p1=some (.lst [])/\H4 p2=some (.lst [])/\H4 p3=some (.lst []):=by
  cases el with
  |cons a0 el=>cases el with
   |cons a1 el=>cases el with
    |cons a2 el=>cases el with
     |cons a3 el=>exact⟨a0,a1,a2,a3⟩
 have j4:=j3.add S4 [(b,.ins T.c8.a bx (fB p0 p1 p2 p3 (.int 0))),(p0,.lst []),(p1,.lst []),(p2,.lst []),(p3,.lst [])] (fun q hq=>by
  simp only[aj,bj,or_false]at hq
  rcases hq with rfl|rfl|rfl|rfl|rfl
  ·exact⟨hb,eb⟩
  ·exact⟨hn3 p0 (by simp),l0⟩
  ·exact⟨hn3 p1 (by simp),l1⟩
  ·exact⟨hn3 p2 (by simp),l2⟩
  ·exact⟨hn3 p3 (by simp),l3⟩)
 clear hn3 hn hk Sm
 refine⟨_,_,j4.o,(by show 3<1000;decide),?_⟩
 have j5:=j4.fld (iZ "board" (.ref b) [("program",.ref p),("homes",.ref h),("papers",.non)])
 dsimp only
 generalize L2.Internal.upd H4 x _=H5 at j5⊢
 rw[show iZ "board" (.ref b) [("program",.ref p),("homes",.ref h),("papers",.non)]=([("program",.ref p),("homes",.ref h),("papers",.non),("board",.ref b)]:List (Str×V)) by kernel_rfl]at j5
 refine fun d hd=>?_
 have j6:=j5.add (eS hd (.dK [])) [(d,.dK [])] (fun q hq=>by
  rcases aZ.mp hq with rfl
  exact⟨hd,eO⟩)
 refine⟨_,_,j6.o,(by show 4<1000;decide),?_⟩
 have j7:=j6.fld (iZ "held" (.ref d) [("program",.ref p),("homes",.ref h),("papers",.non),("board",.ref b)])
 dsimp only
 generalize L2.Internal.upd (L2.Internal.upd H5 d _) x _=H7 at j7⊢
 rw[show iZ "held" (.ref d) [("program",.ref p),("homes",.ref h),("papers",.non),("board",.ref b)]=([("program",.ref p),("homes",.ref h),("papers",.non),("board",.ref b),("held",.ref d)]:List (Str×V)) by kernel_rfl]at j7
 refine fun e he=>?_
 have ne:d≠e:=eY (j7.m (d,.dK []) (by simp)).1 he
 have j8:=j7.add (eS he (.dK [])) [(e,.dK [])] (fun q hq=>by
  rcases aZ.mp hq with rfl
  exact⟨he,eO⟩)
 refine⟨_,_,j8.o,(by show 5<1000;decide),?_⟩
 have j9:=j8.fld (iZ "starts" (.ref e) [("program",.ref p),("homes",.ref h),("papers",.non),("board",.ref b),("held",.ref d)])
 dsimp only
 generalize L2.Internal.upd (L2.Internal.upd H7 e _) x _=H9 at j9⊢
 rw[show iZ "starts" (.ref e) [("program",.ref p),("homes",.ref h),("papers",.non),("board",.ref b),("held",.ref d)]=fLy p h b d e by kernel_rfl]at j9
 have m:=fun q hq=>(j9.m q hq).1
 have mb:=m (b,.ins T.c8.a bx (fB p0 p1 p2 p3 (.int 0))) (by simp)
 have m0:=m (p0,.lst []) (by simp)
 have m1:=m (p1,.lst []) (by simp)
 have m2:=m (p2,.lst []) (by simp)
 have m3:=m (p3,.lst []) (by simp)
 have md:=m (d,.dK []) (by simp)
 have me:=m (e,.dK []) (by simp)
 refine q ⟨x,dx,p,h,⟨b,bx,p0,p1,p2,p3⟩,d,e⟩ H9 rfl rfl rfl ⟨j9.o,⟨mb,m0,⟨[],m1,.nil⟩,⟨[],m2,.nil⟩,⟨[],m3,.nil⟩,nd⟩,⟨[],md,cb _,fun _=>rfl⟩,⟨[],me,cb _,fun _=>rfl⟩,ne⟩ j9.k ?_
 intro a ha
 simp only[La.ch,Ad.ls,aR,bG,aj,bj,or_false]at ha
 rcases ha with rfl|rfl|rfl|rfl|rfl|rfl|rfl
 ·exact(j9.m (_,.ins T.c8.a bx (fB p0 p1 p2 p3 (.int 0))) (by simp)).2
 ·exact(j9.m (_,.lst []) (by simp)).2
 ·exact(j9.m (_,.lst []) (by simp)).2
 ·exact(j9.m (_,.lst []) (by simp)).2
 ·exact(j9.m (_,.lst []) (by simp)).2
 ·exact(j9.m (_,.dK []) (by simp)).2
 ·exact(j9.m (_,.dK []) (by simp)).2
structure Cq (CP:Addr) (H:Hp) (p h:Addr) (names:List Str) (roots:List Nat) (ρs:List Ro) (ho:Nat->Option Hm):Prop where
 p:∃n r w dx xs,PrA CP H p n r w dx xs names roots ρs
 h:∃hs,H h=some (.lst hs)/\∀(k:Nat) (ρ:Ro),ρs[k]?=some ρ->∃y,hs[k]?=some y/\Im H y (hoD (ho k))
 few:∀(k:Nat) (ρ:Ro),ρs[k]?=some ρ->ρ.few
 dom:∀(k:Nat) (h:Hm),ho k=some h->h.1="def"->∃d:Nat,h.2=(d:Int)/\d<roots.length
theorem Cq.cp {CP:Addr} {H H':Hp} {A:La} {names:List Str} {roots:List Nat} {ρs:List Ro} {ho:Nat->Option Hm} (x:Cq CP H A.p A.h names roots ρs ho) (S:fC H H') (hn:∀a∈A.ch,H a=none):Cp CP H' A names roots ρs ho:=by
 obtain⟨⟨n,r,w,dx,xs,pr⟩,⟨hs,e,hh⟩,fw,dm⟩:=x
 have no:∀{a:Addr} {o:HO},H a=some o->a∉A.ch:=fun e z=>by rw[hn _ z]at e;cases e
 exact⟨⟨n,r,w,dx,xs,pr.same S,no pr.o,no pr.n,no pr.r,no pr.w⟩,⟨hs,S _ _ e,no e,fun j ρ hj=>let⟨y,a,b⟩:=hh j ρ hj;⟨y,a,b.mono (fC.tk S)⟩⟩,fw,dm⟩
inductive XLd2 (CP:Addr) (c:Cs) (f:Nat) (vs:List V) (H:Hp) (Q:VK):Prop
 |mk (p h:Addr) (d r:Int) (s':Ls) (names:List Str) (roots:List Nat) (ρs:List Ro) (ho:Nat->Option Hm) (e:vs=[.ref p,.ref h,.int d,.non]) (C:Cq CP H p h names roots ρs ho) (hl:qv (iE ρs roots ho f) roots d s00=some (r,s')) (hz:Sz 1000000 s') (q:∀B H',fC H H'->(∀a∈B.b::B.ls,H a=none)->Bw c H' B (.int r) s'.D->Q (.ref B.b) H')
def CC (CP:Addr) (c:Cs) (f:Nat):Sp:=fun vs H Q _=>XLd2 CP c f vs H Q
theorem CD (T:Txt K mg) (W:Lk P w T) (f:Nat):qu P w K mg base CX0 (5*f+ 5) T.y7.a T.y7.fd ["program","homes","which","papers"] (CC T.c10.a (cs T) f):=by
 have gE70:=iJ (P:=P) (w:=w) (base:=base) T f (nA T W f)
 have gE69:=nB (P:=P) (w:=w) (base:=base) T
 have gE68:=ql (P:=P) (w:=w) (base:=base) T
 refine T.y7.F.ok yE (fun vs H Q E h=>?_) (fun cdv A0 outer s0 H vs Q E hr h=>?_)
 ·obtain⟨p,h,d,r,s',names,roots,ρs,ho,rfl,_⟩:=h
  rfl
 obtain⟨p,h,d,r,s',names,roots,ρs,ho,rfl,C,hl,hz,q⟩:=h
 refine⟨_,(eQ (pS (i:=4) yE.nd (je T.mk9 gE69 (hr.mono (by lia)) rfl T.c9.m T.e69.b .nil fH (eN (cv 0) (eN (cv 1) (eN (cv 3) eP)))))
  (eQ (fo (e8 (fm (PE.mono (fj T.c9.cl T.n9board (cv 4))) T.c8.cl T.e68.me gE68 (hr.mono (by lia)) T.e68.b .nil fH (eN (e8 (fm (PE.mono (cv 4)) T.c9.cl T.e70.me gE70 (hr.mono (by lia)) T.e70.b .nil fH (eN (cv 2) eP))) eP))))
  (eV (fu (fj T.c9.cl T.n9board (cv 4)))))),?_⟩
 refine fun x dx hx hdx nx=>⟨x,dx,p,h,rfl,eO,fun A H1 eA ep eh M1 k1 n1=>⟨rfl,?_⟩⟩
 have Sm:=iW (o:= .ins T.c9.a dx []) hx hdx
 have S1:fC H H1:=fun y u e=>k1 y u (Sm _ _ e) (eY e hx)
 have hn:∀a∈A.B.b::A.ch,H a=none:=fun a ha=>by
  cases e:H a with
  |none=>rfl
  |some u=>have:=n1 a ha;rw[Sm _ _ e]at this;cases this
 clear n1 k1 Sm
 subst eA ep eh
 have C1:=C.cp S1 (fun a ha=>hn a (ai _ ha))
 dsimp only[fK]
 refine⟨_,⟨_,_,M1.o,fE⟩,⟨_,_,M1.b.b,tI _ _ _ _ _⟩,⟨_,_,M1.o,gZ fS⟩,?_⟩
 refine tc1 (v:= .int d) rfl ⟨A,s00,s',d,r,names,roots,ρs,ho,rfl,M1,C1,hl,hz,fun H2 M2 F2=>?_⟩
 refine⟨A.B.b,A.B.bx,A.B.p0,A.B.p1,A.B.p2,A.B.p3,.int 0,.int r,rfl,M2.b.b,?_⟩
 have nb:A.l≠A.B.b:=jm M2.o M2.b.b (fun z=>by
  injection z with _ _ z
  exact absurd (congrArg List.length z) (by show ¬(6:Nat)=5;decide))
 refine⟨_,⟨_,_,(by rw[eT nb];exact M2.o),fE⟩,?_⟩
 refine q A.B _ (fun y u e=>?_) (fun a ha=>hn a ?_) (M2.b.root (.int r))
 ·have ny:y∉A.B.b::A.ch:=fun z=>by rw[hn y z]at e;cases e
  rw[eT (fun z=>ny (by rw[z];exact ag))]
  exact F2 _ _ (S1 _ _ e) fun z=>ny (ai _ z)
 ·rcases aj.mp ha with rfl|ha
  ·exact ag
  ·exact ai _ (ao _ ha)
def Wr (en:Int->Int) (p:Int) (h h':Int->Option Int):Prop:=∀k,h' k≠h k->(p<k/\k<en p)\/(k<p/\en k<=p)
def Nst (en:Int->Int):Prop:=∀k p,k<p->en k<=p\/en p<=en k
theorem Wr.refl {en:Int->Int} {p:Int} {h:Int->Option Int}:Wr en p h h:=fun _ n=>absurd rfl n
theorem Wr.trans {en:Int->Int} {p:Int} {h h1 h2:Int->Option Int} (a:Wr en p h h1) (b:Wr en p h1 h2):Wr en p h h2:=fun k n=>by
 by_cases e:h1 k=h k
 ·exact b k (by rw[e];exact n)
 ·exact a k e
theorem Wr.part {en:Int->Int} (N:Nst en) {p c:Int} {h h1:Int->Option Int} (a:Wr en c h h1) (z1:p<c) (z2:en c<=en p) (z3:c<en c):Wr en p h h1:=fun k n=>by
 rcases a k n with⟨x,y⟩|⟨x,y⟩
 ·exact .inl ⟨by lia,by lia⟩
 ·by_cases e:p<k
  ·exact .inl ⟨e,by lia⟩
  ·by_cases e2:k=p
   ·subst e2;lia
   ·have kp:k<p:=by lia
    rcases N k p kp with z|z
    ·exact .inr ⟨kp,z⟩
    ·lia
theorem Wr.ahead {en:Int->Int} {p c:Int} {h h1:Int->Option Int} (N:Nst en) (a:Wr en c h h1) (h2:en c<=p) (h3:c<en c):Wr en p h h1:=fun k n=>by
 rcases a k n with⟨x,y⟩|⟨x,y⟩
 ·rcases N k p (by lia)with z|z
  ·exact .inr ⟨by lia,z⟩
  ·rcases N c k x with u|u
   ·lia
   ·exact .inr ⟨by lia,by lia⟩
 ·exact .inr ⟨by lia,by lia⟩
theorem Wr.enc {en:Int->Int} {p k:Int} {h h1:Int->Option Int} (a:Wr en p h h1) (z1:k<=p) (z2:p<en k):h1 k=h k:=by
 by_cases e:h1 k=h k
 ·exact e
 ·rcases a k e with⟨x,y⟩|⟨x,y⟩<;>lia
def ku:Ro->List Int
 | .fn _ k=>[k]
 | .tag _ k=>[k]
 | .lt _ a b=>[a,b]
 | .get k _=>[k]
 | .rcd l=>l.map fun x=>x.2
 | .case k l=>k::l.map fun x=>x.2.2
 | .row ks=>ks
 | .op _ ks=>ks
 |_=>[]
def Rw (en df:Int->Int) (p:Int) (s s':Ls):Prop:=Wr en p s.held s'.held/\∀d,s'.st d≠s.st d->d<df p
section
variable {en df:Int->Int} {p0:Int}
theorem Rw.eq {s s':Ls} (h:s'.held=s.held) (k:s'.st=s.st):Rw en df p0 s s':=⟨by rw[h];exact Wr.refl,fun d n=>absurd (by rw[k]) n⟩
theorem Rw.refl (s:Ls):Rw en df p0 s s:=Rw.eq rfl rfl
theorem Rw.trans {a b c:Ls} (h:Rw en df p0 a b) (k:Rw en df p0 b c):Rw en df p0 a c:=⟨h.1.trans k.1,fun d n=>by
 by_cases e:b.st d=a.st d
 ·exact k.2 d (by rw[e];exact n)
 ·exact h.2 d e⟩
theorem Rw.pt {s:Ls} {p:Int}:Rw en df p0 s (s.pt p):=Rw.eq rfl rfl
theorem Rw.mk' {s:Ls} {p:Mkg}:Rw en df p0 s (s.mk' p):=Rw.eq rfl rfl
theorem Rw.us {s:Ls} {p:Us}:Rw en df p0 s (s.us p):=Rw.eq rfl rfl
theorem Rw.fl {s:Ls} {p q:Int}:Rw en df p0 s (s.fl p q):=Rw.eq rfl rfl
theorem Rw.ho {s:Ls} {k v:Int} (h1:p0<k) (h2:k<en p0):Rw en df p0 s (s.hold k v):=⟨fun x n=>by
 by_cases e:x=k
 ·subst e;exact .inl ⟨h1,h2⟩
 ·exact absurd (fN e) n,fun d n=>absurd rfl n⟩
def Ok (L:Lf) (en df:Int->Int) (p0 c:Int):Prop:=p0<c/\c<en p0/\∀s q s',L c s=some (q,s')->Rw en df p0 s s'
theorem K1 {L:Lf} {c:Int} (hL:Ok L en df p0 c) {s:Ls} {α:Type} {g:Int->Ls->Option α} {a:α} (h:(match L c s with|some (q,s)=>g q s|none=>none)=some a):∃q s1,L c s=some (q,s1)/\g q s1=some a/\Rw en df p0 s s1:=by
 cases e:L c s with
 |none=>rw[e]at h;cases h
 |some z=>obtain⟨q,s1⟩:=z;rw[e]at h;exact⟨q,s1,rfl,h,hL.2.2 _ _ _ e⟩
variable {L:Lf}
theorem Ba:∀{l acc:List (Str×Int)} {s:Ls} {r:List (Str×Int)×Ls},(∀x∈l,Ok L en df p0 x.2)->r9 L l acc s=some r->Rw en df p0 s r.2
 |[],acc,s,r,_,h=>by cases h;exact Rw.refl _
 |p::l,acc,s,r,hk,h=>by
  obtain⟨q,s1,_,h2,l1⟩:=K1 (hk p (by simp)) h
  exact l1.trans (Ba (fun x hx=>hk x (by simp[hx])) h2)
theorem Bb {p own:Int}:∀{l:List (Str×Str×Int)} {acc:List (Str×Int)} {s:Ls} {r:List (Str×Int)×Ls},(∀x∈l,Ok L en df p0 x.2.2)->ui L p own l acc s=some r->Rw en df p0 s r.2
 |[],acc,s,r,_,h=>by cases h;exact Rw.refl _
 |a::l,acc,s,r,hk,h=>by
  have ha:=hk a (by simp)
  obtain⟨q,s1,_,h2,l1⟩:=K1 ha h
  exact((Rw.pt.trans (Rw.ho ha.1 ha.2.1)).trans l1).trans (Rw.fl.trans (Bb (fun x hx=>hk x (by simp[hx])) h2))
theorem Bc {th:Int}:∀{l:List Int} {s s':Ls},(∀x∈l,Ok L en df p0 x)->tO L th l s=some s'->Rw en df p0 s s'
 |[],s,s',_,h=>by cases h;exact Rw.refl _
 |k::l,s,s',hk,h=>by
  obtain⟨q,s1,_,h2,l1⟩:=K1 (hk k (by simp)) h
  exact l1.trans (Rw.fl.trans (Bc (fun x hx=>hk x (by simp[hx])) h2))
theorem yU {a b p:Int} {s s':Ls} (ha:Ok L en df p0 a) (hb:Ok L en df p0 b) (h:jM L a b p s=some s'):Rw en df p0 s s':=by
 obtain⟨x,s1,_,h,l1⟩:=K1 ha h
 obtain⟨y,s2,_,h,l2⟩:=K1 hb h
 cases h
 exact(l1.trans l2).trans (Rw.us.trans Rw.us)
theorem CF {roots:List Nat} {ho:Option Hm} {p own:Int} {s s':Ls} {ρ:Ro} (hk:∀c∈ku ρ,Ok L en df p0 c) (hm:∀h0,ho=some h0->∀s r,ia L roots h0 p s=some r->Rw en df p0 s r.2) (h:hV L roots ho p own s ρ=some s'):Rw en df p0 s s':=by
 cases ρ with
 |num n=>cases h;exact Rw.mk'
 |name w=>
  cases ho with
  |none=>cases h
  |some h0=>
   have h:(match ia L roots h0 p s with|some (q,s)=>some (s.fl q own)|none=>none)=some s':=h
   cases e:ia L roots h0 p s with
   |none=>rw[e]at h;cases h
   |some z=>rw[e]at h;cases h;exact(hm _ rfl _ _ e).trans Rw.fl
 |fn w k=>
  obtain⟨q,s1,_,h,l1⟩:=K1 (hk _ (by simp[ku])) h
  cases h
  exact((Rw.pt.trans (Rw.ho (hk k (by simp[ku])).1 (hk k (by simp[ku])).2.1)).trans l1).trans Rw.mk'
 |lt w a b=>
  obtain⟨_,s1,_,h,l1⟩:=K1 (hk _ (by simp[ku])) h
  obtain⟨q,s2,_,h,l2⟩:=K1 (hk _ (by simp[ku])) h
  cases h
  exact(l1.trans l2).trans Rw.fl
 |rcd l=>
  have h:(match r9 L l [] s with|some (fs,s)=>some (s.mk' ⟨"rec",prD fs,own,p⟩)|none=>none)=some s':=h
  cases e:r9 L l [] s with
  |none=>rw[e]at h;cases h
  |some z=>rw[e]at h;cases h;exact(Ba (fun x hx=>hk x.2 (by simp only[ku];exact bI hx)) e).trans Rw.mk'
 |get k w=>
  obtain⟨q,s1,_,h,l1⟩:=K1 (hk _ (by simp[ku])) h
  cases h
  exact l1.trans Rw.us
 |tag w k=>
  obtain⟨q,s1,_,h,l1⟩:=K1 (hk _ (by simp[ku])) h
  cases h
  exact l1.trans Rw.mk'
 |case k l=>
  obtain⟨q,s1,_,h,l1⟩:=K1 (hk _ (by simp[ku])) h
  cases e:ui L p own l [] s1 with
  |none=>rw[e]at h;cases h
  |some z=>rw[e]at h;cases h;exact(l1.trans (Bb (fun x hx=>hk x.2.2 (by simp only[ku];exact ai _ (bI hx))) e)).trans Rw.us
 |row ks=>
  have h:(match tO L s.n ks (s.pt p)with|some s2=>some (s2.mk' (mkR s.n own p))|none=>none)=some s':=h
  cases e:tO L s.n ks (s.pt p)with
  |none=>rw[e]at h;cases h
  |some z=>rw[e]at h;cases h;exact(Rw.pt.trans (Bc (fun x hx=>hk x hx) e)).trans Rw.mk'
 |op o ks=>
  match ks,h with
  |[],h=>cases h
  |[a],h=>
   simp only[hV]at h
   split at h
   ·obtain⟨q,s1,_,h,l1⟩:=K1 (hk _ (by simp[ku])) h
    cases h
    exact(Rw.pt.trans l1).trans (Rw.us.trans Rw.mk')
   ·cases h
  |[a,b],h=>
   simp only[hV]at h
   split at h
   ·obtain⟨x,s1,_,h,l1⟩:=K1 (hk _ (by simp[ku])) h
    obtain⟨y,s2,_,h,l2⟩:=K1 (hk _ (by simp[ku])) h
    cases h
    exact(l1.trans l2).trans Rw.us
   ·split at h
    ·obtain⟨x,s1,_,h,l1⟩:=K1 (hk _ (by simp[ku])) h
     obtain⟨y,s2,_,h,l2⟩:=K1 (hk _ (by simp[ku])) h
     cases h
     exact((Rw.pt.trans l1).trans l2).trans ((Rw.us.trans Rw.us).trans Rw.mk')
    ·split at h
     ·cases e:jM L a b p (s.pt p)with
      |none=>rw[e]at h;cases h
      |some z=>rw[e]at h;cases h;exact(Rw.pt.trans (yU (hk a (by simp[ku])) (hk b (by simp[ku])) e)).trans ((Rw.mk'.trans Rw.mk').trans Rw.mk')
     ·split at h
      ·cases e:jM L a b p s with
       |none=>rw[e]at h;cases h
       |some z=>rw[e]at h;cases h;exact(yU (hk a (by simp[ku])) (hk b (by simp[ku])) e).trans Rw.mk'
      ·cases h
  |[a,b,c],h=>
   simp only[hV]at h
   split at h
   ·obtain⟨x,s1,_,h,l1⟩:=K1 (hk _ (by simp[ku])) h
    obtain⟨y,s2,_,h,l2⟩:=K1 (hk _ (by simp[ku])) h
    obtain⟨z,s3,_,h,l3⟩:=K1 (hk _ (by simp[ku])) h
    cases h
    exact((l1.trans l2).trans l3).trans ((Rw.us.trans Rw.us).trans Rw.fl)
   ·cases h
  |_::_::_::_::_,h=>cases h
end
structure Nt (en df:Int->Int) (ρs:List Ro) (roots:List Nat) (ho:Nat->Option Hm):Prop where
 n:Nst en
 kid:∀p ρ c,atZ ρs p=some ρ->c∈ku ρ->p<c/\en c<=en p/\c<en c/\df c=df p
 lt:∀(k:Nat) h,ho k=some h->h.1="let"->en h.2<=k/\h.2<en h.2/\df h.2=df k
 dn:∀(k:Nat) h,ho k=some h->h.1="def"->inF roots k h.2=false->h.2<df k/\∀r,atZ roots h.2=some r->(r:Int)<en r/\en r<=k/\df r=h.2
theorem vI {en df:Int->Int} {ρs:List Ro} {roots:List Nat} {ho:Nat->Option Hm} (N:Nt en df ρs roots ho):∀f p s q s',iE ρs roots ho f p s=some (q,s')->Rw en df p s s'
 |0,p,s,q,s',h=>by cases h
 |f+ 1,p,s,q,s',h=>by
  obtain⟨ρ,hk,h1,rfl⟩:=lW h
  obtain⟨k,rfl,hk'⟩:=f9 hk
  refine Rw.pt.trans (CF (fun c hc=>?_) (fun h0 e0 s r hm=>?_) h1)
  ·obtain⟨z1,z2,z3,z4⟩:=N.kid _ _ _ hk hc
   refine⟨z1,by lia,fun s q s' hl=>?_⟩
   have w:=vI N f _ _ _ _ hl
   exact⟨w.1.part N.n z1 z2 z3,fun d n=>by rw[<-z4];exact w.2 d n⟩
  ·have e0:ho k=some h0:=e0
   unfold ia at hm
   split at hm
   ·rename_i e1
    obtain⟨z1,z2,z3⟩:=N.lt _ _ e0 e1
    have w:=vI N f _ _ _ _ (show iE ρs roots ho f h0.2 s=some (r.1,r.2)from hm)
    exact⟨w.1.ahead N.n z1 z2,fun d n=>by rw[<-z3];exact w.2 d n⟩
   ·split at hm
    ·rename_i e1
     split at hm
     ·obtain⟨q,_,rfl⟩:=cB.mp hm;exact Rw.refl _
     ·rename_i e2
      obtain⟨z1,z2⟩:=N.dn _ _ e0 e1 (by simpa using e2)
      obtain⟨r0,q0,s2,hd,h2,_,e3⟩:=jS (show qv (iE ρs roots ho f) roots h0.2 s=some (r.1,r.2)from hm)
      obtain⟨z3,z4,z5⟩:=z2 _ hd
      have w:=vI N f _ _ _ _ h2
      rw[e3]
      refine Rw.trans (b:=(s.pt r0).begin h0.2 s.n) ⟨Wr.refl,fun d n=>?_⟩ (Rw.trans ⟨w.1.ahead N.n z4 z3,fun d n=>?_⟩ Rw.fl)
      ·by_cases e:d=h0.2
       ·rw[e];exact z1
       ·exact absurd (fN e) n
      ·have:=w.2 d n
       rw[z5]at this
       lia
    ·obtain⟨q,_,rfl⟩:=cB.mp hm;exact Rw.refl _
def bnd:Ro->List Int
 | .fn _ k=>[k]
 | .case _ l=>l.map fun x=>x.2.2
 |_=>[]
structure Vs (vi:Int->Int->Prop) (en df:Int->Int) (ρs:List Ro) (roots:List Nat) (ho:Nat->Option Hm):Prop where
 enc:∀p k,vi p k->0<=k/\k<=p/\p<en k
 kid:∀p ρ c k,atZ ρs p=some ρ->c∈ku ρ->vi c k->vi p k\/(k=c/\c∈bnd ρ)
 lt:∀(p:Nat) h k,ho p=some h->h.1="let"->vi h.2 k->vi p k
 root:∀d r k,atZ roots d=some r->¬vi r k
 held:∀(p:Nat) h,ho p=some h->h.1≠"let"->h.1≠"def"->vi p h.2
 inn:∀(p:Nat) h,ho p=some h->h.1="def"->(inF roots p h.2=true↔h.2=df p)
 dr:∀d r,atZ roots d=some r->df r=d
 sub:∀p a l,atZ ρs p=some (.case a l)->a∉bnd (.case a l)
theorem ph {K:PySem.W.Frag} {H:Hp} {a b:Addr} {xs ys:List V} {Q:VK} (ha:H a=some (.tup xs)) (hb:H b=some (.tup ys)) (hz:xs.length+ys.length<=sizeLine) (h:∀c H',fC H H'->H' c=some (.tup (xs++ys))->Q (.ref c) H'):z8 K (.ref a) (.ref b) H Q:=
 ⟨a,b,xs,ys,rfl,rfl,SqT.of ha,SqT.of hb,hz,fun z=>h b H (fun _ _ e=>e) (by rw[z];exact hb),fun z=>h a H (fun _ _ e=>e) (by rw[z,aC];exact ha),fun p hp=>h p _ (eS hp _) eO⟩
theorem Ar {K:PySem.W.Frag} {a:Addr} {xs:List V} {g:TG} {tb:TS} {D:nH} {σ:St} {H:Hp} (Pv:Nat->St->Hp->Prop) (h0:Pv 0 σ H) (hl:∀i σ H,i<=xs.length->Pv i σ H->SqL K H a xs)
  (hs:∀(i:Nat) (x:V) (σ:St) (H:Hp) (T:Addr),xs[i]?=some x->Pv i σ H->H T=none->g (.ref T) σ (upd H T (.tup [.int (i:Int),x])) fun σ2 H2=>tb {D with nx:=Pv (i+ 1),ct:=Pv (i+ 1),bk:=D.nx} σ2 H2) (hd:∀σ H,Pv xs.length σ H->D.nx σ H):
  ∃W:Nat->Nat->St->Hp->Prop,(∃m,W 0 m σ H)/\∀i m σ H,W i m σ H->
   ((Ite K a).stop i H/\D.nx σ H)\/((Ite K a).go i H/\∃N:St->Hp->Prop,(∀σ' H',N σ' H'->∃m',m'<m/\W (i+ 1) m' σ' H')/\∀x H',(Ite K a).yld i H x H'->g x σ H' fun σ2 H2=>tb {D with nx:=N,ct:=N,bk:=D.nx} σ2 H2):=by
 refine⟨fun i m σ H=>m=xs.length-i/\i<=xs.length/\Pv i σ H,⟨xs.length,by simp,cc _,h0⟩,?_⟩
 rintro i m σ H ⟨rfl,hi,p⟩
 have q:=hl i σ H hi p
 by_cases hlt:i<xs.length
 ·refine .inr ⟨⟨xs,xs[i],q,by simp[hlt]⟩,Pv (i+ 1),fun σ' H' p'=>⟨xs.length-(i+ 1),by lia,rfl,hlt,p'⟩,fun v H' y=>?_⟩
  obtain⟨T,x,rfl,hT,rfl,hx⟩:=y
  exact hs i x σ H T (hx xs q) p hT
 ·have e:i=xs.length:=by lia
  subst e
  exact .inl ⟨⟨xs,q,rfl⟩,hd σ H p⟩
def rnV (g:Int->Int):V->V
 | .int k=> .int (g k)
 |v=>v
mutual
def rnD (g:Int->Int):Dt->Dt
 | .flat v=> .flat (rnV g v)
 | .tup l=> .tup (kn g l)
 | .lst l=> .lst l
def kn (g:Int->Int):List Dt->List Dt
 |[]=>[]
 |d::l=>rnD g d::kn g l
end
def inV:V->List Int
 | .int k=>[k]
 |_=>[]
mutual
def inD:Dt->List Int
 | .flat v=>inV v
 | .tup l=>E8 l
 | .lst _=>[]
def E8:List Dt->List Int
 |[]=>[]
 |d::l=>inD d++E8 l
end
def rnP (g:Int->Int) (l:List (Str×Int)):List (Str×Int):=l.map fun x=>(x.1,g x.2)
theorem yV (g:Int->Int):∀l:List (Str×Int),kn g (l.map prL)=(rnP g l).map prL
 |[]=>rfl
 |x::l=>by
  show rnD g (prL x)::kn g (l.map prL)=_
  rw[yV g l]
  rfl
theorem yW (g:Int->Int) (l:List (Str×Int)):rnD g (prD l)=prD (rnP g l):=by
 show Dt.tup (kn g (l.map prL))=_
 rw[yV]
 rfl
theorem yX {x:Int}:∀{l:List (Str×Int)},x∈E8 (l.map prL)->∃y∈l,y.2=x
 |[],h=>by cases h
 |y::l,h=>by
  rcases ak.mp (show x∈inD (prL y)++E8 (l.map prL)from h)with h|h
  ·exact⟨y,by simp,(aZ.mp (show x∈[y.2]from h)).symm⟩
  ·obtain⟨z,h1,h2⟩:=yX h;exact⟨z,by simp[h1],h2⟩
def rnM (g:Int->Int) (m:Mkg):Mkg:=⟨m.s,rnD g m.f,g m.a,m.p⟩
def rnU (g:Int->Int):Us->Us
 | .num a p s=> .num (g a) p s
 | .call a p s x y=> .call (g a) p s (g x) (g y)
 | .take a p s l=> .take (g a) p s (rnP g l)
 | .case a p s l=> .case (g a) p s (rnP g l)
 | .row a p s x=> .row (g a) p s (g x)
def uA:Us->Int
 | .num a _ _=>a
 | .call a _ _ _ _=>a
 | .take a _ _ _=>a
 | .case a _ _ _=>a
 | .row a _ _ _=>a
def inU:Us->List Int
 | .num a _ _=>[a]
 | .call a _ _ x y=>[a,x,y]
 | .take a _ _ l=>a::l.map Prod.snd
 | .case a _ _ l=>a::l.map Prod.snd
 | .row a _ _ x=>[a,x]
def rnF (g:Int->Int) (x:Int×Int):Int×Int:=(g x.1,g x.2)
def frk:Ro->List Int
 | .tag _ k=>[k]
 | .lt _ a b=>[a,b]
 | .get k _=>[k]
 | .rcd l=>l.map fun x=>x.2
 | .case k _=>[k]
 | .row ks=>ks
 | .op _ ks=>ks
 |_=>[]
theorem oy {ρ:Ro} {c:Int} (h:c∈frk ρ):c∈ku ρ:=by
 cases ρ with
 |case k l=>exact aj.mpr (.inl (aZ.mp h))
 |name=>cases h
 |num=>cases h
 |fn=>cases h
 |_=>exact h
theorem oz {ρ:Ro} {c:Int} (h:c∈bnd ρ):c∈ku ρ:=by
 cases ρ with
 |case k l=>exact ai _ h
 |fn=>exact h
 |_=>cases h
theorem se (s:Ls) (p:Int):(s.pt p).n=s.n+ 1:=by
 show((s.D.pts++[p]).length:Int)=_
 rw[aN]
 rfl
structure Gn {γ:Type} (g:Int->Int) (R:γ->Ls->Ls->Prop) (N:γ->Int->Int->Prop) (L M:Lf) (p:Int) (ρ:Ro):Prop where
 n:∀{c s t},R c s t->t.n=g s.n
 pt:∀{c s t},R c s t->R c (s.pt p) (t.pt p)/\(∀x,N c s.n x->N c (s.n+ 1) x)/\N c (s.n+ 1) s.n
 ma:∀{c s t} {m:Mkg},R c s t->N c s.n m.a->(∀x∈inD m.f,N c s.n x)->R c (s.mk' m) (t.mk' (rnM g m))
 us:∀{c s t} {u:Us},R c s t->(∀x∈inU u,N c s.n x)->R c (s.us u) (t.us (rnU g u))
 fl:∀{c s t x y},R c s t->N c s.n x->N c s.n y->R c (s.fl x y) (t.fl (g x) (g y))
 kid:∀{c s t k q s'},k∈frk ρ->R c s t->L k s=some (q,s')->∃c' t',M k t=some (g q,t')/\R c' s' t'/\(∀x,N c s.n x->N c' s'.n x)/\N c' s'.n q
 bnd:∀{c s t k q s'},k∈bnd ρ->R c s t->L k ((s.pt p).hold k s.n)=some (q,s')->∃c' t',M k ((t.pt p).hold k t.n)=some (g q,t')/\R c' s' t'/\(∀x,N c s.n x->N c' s'.n x)/\N c' s'.n q/\N c' s'.n s.n
section
variable {γ:Type} {g:Int->Int} {R:γ->Ls->Ls->Prop} {N:γ->Int->Int->Prop} {L M:Lf} {p:Int} {ρ:Ro} (G:Gn g R N L M p ρ)
include G
theorem Gn.pt' {c:γ} {s t:Ls} (r:R c s t):R c (s.pt p) (t.pt p)/\(∀x,N c s.n x->N c (s.pt p).n x)/\N c (s.pt p).n s.n:=by
 rw[se]
 exact G.pt r
theorem Gn.k {c:γ} {s t:Ls} {k:Int} (hk:k∈frk ρ) (r:R c s t) {α:Type} {h:Int->Ls->Option α} {a:α} (e:(match L k s with|some (q,s)=>h q s|none=>none)=some a):∃c' q s' t',M k t=some (g q,t')/\h q s'=some a/\R c' s' t'/\(∀x,N c s.n x->N c' s'.n x)/\N c' s'.n q:=by
 cases e1:L k s with
 |none=>rw[e1]at e;cases e
 |some z=>
  obtain⟨q,s'⟩:=z
  rw[e1]at e
  obtain⟨c',t',h1,h2,h3,h4⟩:=G.kid hk r e1
  exact⟨c',q,s',t',h1,e,h2,h3,h4⟩
theorem Gn.b {c:γ} {s t:Ls} {k:Int} (hk:k∈K23.Internal.bnd ρ) (r:R c s t) {α:Type} {h:Int->Ls->Option α} {a:α} (e:(match L k ((s.pt p).hold k s.n)with|some (q,s)=>h q s|none=>none)=some a):∃c' q s' t',M k ((t.pt p).hold k t.n)=some (g q,t')/\h q s'=some a/\R c' s' t'/\(∀x,N c s.n x->N c' s'.n x)/\N c' s'.n q/\N c' s'.n s.n:=by
 cases e1:L k ((s.pt p).hold k s.n)with
 |none=>rw[e1]at e;cases e
 |some z=>
  obtain⟨q,s'⟩:=z
  rw[e1]at e
  obtain⟨c',t',h1,h2,h3,h4⟩:=G.bnd hk r e1
  exact⟨c',q,s',t',h1,e,h2,h3,h4⟩
theorem Gn.rc:∀{l acc:List (Str×Int)} {c:γ} {s t:Ls} {fs:List (Str×Int)} {s':Ls},(∀x∈l,x.2∈frk ρ)->R c s t->(∀x∈acc,N c s.n x.2)->r9 L l acc s=some (fs,s')->∃c' t',r9 M l (rnP g acc) t=some (rnP g fs,t')/\R c' s' t'/\(∀x,N c s.n x->N c' s'.n x)/\∀x∈fs,N c' s'.n x.2
 |[],acc,c,s,t,fs,s',_,r,ha,h=>by cases h;exact⟨c,t,rfl,r,fun _ z=>z,ha⟩
 |y::l,acc,c,s,t,fs,s',hl,r,ha,h=>by
  obtain⟨c1,q,s1,t1,e1,h,r1,m1,n1⟩:=G.k (hl y (by simp)) r h
  obtain⟨c2,t2,e2,r2,m2,n2⟩:=Gn.rc (acc:=acc++[(y.1,q)]) (fun x hx=>hl x (by simp[hx])) r1 (fun x hx=>by
   rcases ak.mp hx with hx|hx
   ·exact m1 _ (ha x hx)
   ·rw[aZ.mp hx];exact n1) h
  refine⟨c2,t2,?_,r2,fun x z=>m2 x (m1 x z),n2⟩
  unfold r9
  rw[e1]
  have:rnP g (acc++[(y.1,q)])=rnP g acc++[(y.1,g q)]:=by unfold rnP;rw[bC];rfl
  rw[this]at e2
  exact e2
theorem Gn.arm {own:Int}:∀{l:List (Str×Str×Int)} {acc:List (Str×Int)} {c:γ} {s t:Ls} {fs:List (Str×Int)} {s':Ls},(∀x∈l,x.2.2∈K23.Internal.bnd ρ)->R c s t->N c s.n own->(∀x∈acc,N c s.n x.2)->ui L p own l acc s=some (fs,s')->∃c' t',ui M p (g own) l (rnP g acc) t=some (rnP g fs,t')/\R c' s' t'/\(∀x,N c s.n x->N c' s'.n x)/\∀x∈fs,N c' s'.n x.2
 |[],acc,c,s,t,fs,s',_,r,_,ha,h=>by cases h;exact⟨c,t,rfl,r,fun _ z=>z,ha⟩
 |y::l,acc,c,s,t,fs,s',hl,r,ho,ha,h=>by
  obtain⟨c1,q,s1,t1,e1,h,r1,m1,n1,n1'⟩:=G.b (hl y (by simp)) r h
  obtain⟨c2,t2,e2,r2,m2,n2⟩:=Gn.arm (acc:=acc++[(y.1,s.n)]) (own:=own) (fun x hx=>hl x (by simp[hx])) (G.fl r1 n1 (m1 _ ho)) (m1 _ ho) (fun x hx=>by
   rcases ak.mp hx with hx|hx
   ·exact m1 _ (ha x hx)
   ·rw[aZ.mp hx];exact n1') h
  refine⟨c2,t2,?_,r2,fun x z=>m2 x (m1 x z),n2⟩
  unfold ui
  rw[e1]
  have:rnP g (acc++[(y.1,s.n)])=rnP g acc++[(y.1,t.n)]:=by unfold rnP;rw[bC,G.n r];rfl
  rw[this]at e2
  exact e2
theorem Gn.row {th:Int}:∀{l:List Int} {c:γ} {s t s':Ls},(∀x∈l,x∈frk ρ)->R c s t->N c s.n th->tO L th l s=some s'->∃c' t',tO M (g th) l t=some t'/\R c' s' t'/\∀x,N c s.n x->N c' s'.n x
 |[],c,s,t,s',_,r,_,h=>by cases h;exact⟨c,t,rfl,r,fun _ z=>z⟩
 |y::l,c,s,t,s',hl,r,ht,h=>by
  obtain⟨c1,q,s1,t1,e1,h,r1,m1,n1⟩:=G.k (hl y (by simp)) r h
  obtain⟨c2,t2,e2,r2,m2⟩:=Gn.row (th:=th) (fun x hx=>hl x (by simp[hx])) (G.fl r1 n1 (m1 _ ht)) (m1 _ ht) h
  refine⟨c2,t2,?_,r2,fun x z=>m2 x (m1 x z)⟩
  unfold tO
  rw[e1]
  exact e2
theorem Gn.nums {a b:Int} {c:γ} {s t s':Ls} (ha:a∈frk ρ) (hb:b∈frk ρ) (r:R c s t) (h:jM L a b p s=some s'):∃c' t',jM M a b p t=some t'/\R c' s' t'/\∀x,N c s.n x->N c' s'.n x:=by
 obtain⟨c1,q,s1,t1,e1,h,r1,m1,n1⟩:=G.k ha r h
 obtain⟨c2,q2,s2,t2,e2,h,r2,m2,n2⟩:=G.k hb r1 h
 cases h
 refine⟨c2,_,?_,G.us (G.us r2 (u:= .num q p 0) (by simpa[inU]using m2 _ n1)) (u:= .num q2 p 1) (fun x hx=>by rw[aZ.mp (show x∈[q2]from hx)];exact n2),fun x z=>m2 x (m1 x z)⟩
 unfold jM
 rw[e1]
 dsimp only
 rw[e2]
 rfl
theorem Gn.go {roots:List Nat} {ho:Option Hm} {own:Int} {c:γ} {s t s':Ls} (nn:∀w,ρ≠ .name w) (r:R c s t) (no:N c s.n own) (h:hV L roots ho p own s ρ=some s'):∃c' t',hV M roots ho p (g own) t ρ=some t'/\R c' s' t'/\∀x,N c s.n x->N c' s'.n x:=by
 cases ρ with
 |name w=>exact absurd rfl (nn w)
 |num n=>cases h;exact⟨c,_,rfl,G.ma r (m:=mkN own p) no (fun x hx=>by cases hx),fun _ z=>z⟩
 |fn w k=>
  obtain⟨c1,q,s1,t1,e1,h,r1,m1,n1,n2⟩:=G.b (k:=k) (by simp[K23.Internal.bnd]) r h
  cases h
  refine⟨c1,_,?_,G.ma r1 (m:=⟨"fn",.tup [kD s.n,kD q],own,p⟩) (m1 _ no) (fun x hx=>?_),m1⟩
  ·simp only[hV,e1]
   rw[G.n r]
   rfl
  ·have hx:x∈[s.n,q]:=hx
   simp only[aj,bj,or_false]at hx
   rcases hx with rfl|rfl
   ·exact n2
   ·exact n1
 |lt w a b=>
  obtain⟨c1,q,s1,t1,e1,h,r1,m1,n1⟩:=G.k (k:=a) (by simp[frk]) r h
  obtain⟨c2,q2,s2,t2,e2,h,r2,m2,n2⟩:=G.k (k:=b) (by simp[frk]) r1 h
  cases h
  refine⟨c2,_,?_,G.fl r2 n2 (m2 _ (m1 _ no)),fun x z=>m2 x (m1 x z)⟩
  simp only[hV,e1,e2]
 |get k w=>
  obtain⟨c1,q,s1,t1,e1,h,r1,m1,n1⟩:=G.k (k:=k) (by simp[frk]) r h
  cases h
  refine⟨c1,_,?_,G.us r1 (u:= .take q p 0 [(w,own)]) (fun x hx=>?_),m1⟩
  ·simp only[hV,e1];rfl
  ·have hx:x∈[q,own]:=hx
   simp only[aj,bj,or_false]at hx
   rcases hx with rfl|rfl
   ·exact n1
   ·exact m1 _ no
 |tag w k=>
  obtain⟨c1,q,s1,t1,e1,h,r1,m1,n1⟩:=G.k (k:=k) (by simp[frk]) r h
  cases h
  refine⟨c1,_,?_,G.ma r1 (m:=⟨"tag",.tup [sD w,kD q],own,p⟩) (m1 _ no) (fun x hx=>?_),m1⟩
  ·simp only[hV,e1];rfl
  ·rw[aZ.mp (show x∈[q]from hx)];exact n1
 |rcd l=>
  have h:(match r9 L l [] s with|some (fs,s)=>some (s.mk' ⟨"rec",prD fs,own,p⟩)|none=>none)=some s':=h
  cases e:r9 L l [] s with
  |none=>rw[e]at h;cases h
  |some z=>
   obtain⟨fs,s1⟩:=z
   rw[e]at h;cases h
   obtain⟨c1,t1,e1,r1,m1,n1⟩:=G.rc (acc:=[]) (fun x hx=>by simp only[frk];exact bI hx) r (fun x hx=>by cases hx) e
   refine⟨c1,_,?_,G.ma r1 (m:=⟨"rec",prD fs,own,p⟩) (m1 _ no) (fun x hx=>?_),m1⟩
   ·have e1:r9 M l [] t=some (rnP g fs,t1):=e1
    simp only[hV,e1]
    unfold rnM
    rw[yW]
   ·obtain⟨y,hy,rfl⟩:=yX hx;exact n1 y hy
 |case k l=>
  obtain⟨c1,q,s1,t1,e1,h,r1,m1,n1⟩:=G.k (k:=k) (by simp[frk]) r h
  cases e:ui L p own l [] s1 with
  |none=>rw[e]at h;cases h
  |some z=>
   obtain⟨fs,s2⟩:=z
   rw[e]at h;cases h
   obtain⟨c2,t2,e2,r2,m2,n2⟩:=G.arm (acc:=[]) (own:=own) (fun x hx=>by simp only[K23.Internal.bnd];exact bI hx) r1 (m1 _ no) (fun x hx=>by cases hx) e
   refine⟨c2,_,?_,G.us r2 (u:= .case q p 0 fs) (fun x hx=>?_),fun x z=>m2 x (m1 x z)⟩
   ·have e2:ui M p (g own) l [] t1=some (rnP g fs,t2):=e2
    simp only[hV,e1,e2]
    rfl
   ·rcases aj.mp (show x∈q::fs.map Prod.snd from hx)with rfl|hx
    ·exact m2 _ n1
    ·obtain⟨y,hy,rfl⟩:=bb.mp hx;exact n2 y hy
 |row ks=>
  have h:(match tO L s.n ks (s.pt p)with|some s2=>some (s2.mk' (mkR s.n own p))|none=>none)=some s':=h
  cases e:tO L s.n ks (s.pt p)with
  |none=>rw[e]at h;cases h
  |some z=>
   rw[e]at h;cases h
   obtain⟨r0,m0,n0⟩:=G.pt' r
   obtain⟨c1,t1,e1,r1,m1⟩:=G.row (fun x hx=>hx) r0 n0 e
   refine⟨c1,_,?_,G.ma r1 (m:=mkR s.n own p) (m1 _ (m0 _ no)) (fun x hx=>?_),fun x z=>m1 x (m0 x z)⟩
   ·have e1:tO M (g s.n) ks (t.pt p)=some t1:=e1
    simp only[hV,G.n r,e1];rfl
   ·rw[aZ.mp (show x∈[s.n]from hx)];exact m1 _ n0
 |op o ks=>
  match ks,h,G with
  |[],h,_=>cases h
  |[a],h,G=>
   simp only[hV]at h⊢
   split at h
   ·rename_i e0
    obtain⟨r0,m0,n0⟩:=G.pt' r
    obtain⟨c1,q,s1,t1,e1,h,r1,m1,n1⟩:=G.k (k:=a) (by simp[frk]) r0 h
    cases h
    refine⟨c1,_,?_,G.ma (G.us r1 (u:= .row q p 0 s.n) (fun x hx=>?_)) (m:=mkN own p) (m1 _ (m0 _ no)) (fun x hx=>by cases hx),fun x z=>m1 x (m0 x z)⟩
    ·simp only[e0,if_true,e1,G.n r];rfl
    ·have hx:x∈[q,s.n]:=hx
     simp only[aj,bj,or_false]at hx
     rcases hx with rfl|rfl
     ·exact n1
     ·exact m1 _ n0
   ·cases h
  |[a,b],h,G=>
   have ha:a∈frk (.op o [a,b]):=by simp[frk]
   have hb:b∈frk (.op o [a,b]):=by simp[frk]
   simp only[hV]at h⊢
   split at h
   ·rename_i e0
    obtain⟨c1,q,s1,t1,e1,h,r1,m1,n1⟩:=G.k ha r h
    obtain⟨c2,q2,s2,t2,e2,h,r2,m2,n2⟩:=G.k hb r1 h
    cases h
    refine⟨c2,_,?_,G.us r2 (u:= .call q p 0 q2 own) (fun x hx=>?_),fun x z=>m2 x (m1 x z)⟩
    ·rw[fY e0]
     simp only[e1,e2];rfl
    ·have hx:x∈[q,q2,own]:=hx
     simp only[aj,bj,or_false]at hx
     rcases hx with rfl|rfl|rfl
     ·exact m2 _ n1
     ·exact n2
     ·exact m2 _ (m1 _ no)
   ·rename_i n0
    rw[fN n0]
    split at h
    ·rename_i e0
     obtain⟨r0,m0,n0⟩:=G.pt' r
     obtain⟨c1,q,s1,t1,e1,h,r1,m1,n1⟩:=G.k ha r0 h
     obtain⟨c2,q2,s2,t2,e2,h,r2,m2,n2⟩:=G.k hb r1 h
     cases h
     have k0:=m2 _ (m1 _ n0)
     refine⟨c2,_,?_,G.ma (G.us (G.us r2 (u:= .row q p 0 s.n) (fun x hx=>?_)) (u:= .row q2 p 1 s.n) (fun x hx=>?_)) (m:=mkR s.n own p) (m2 _ (m1 _ (m0 _ no))) (fun x hx=>?_),fun x z=>m2 x (m1 x (m0 x z))⟩
     ·rw[fY e0]
      simp only[e1,e2,G.n r];rfl
     ·have hx:x∈[q,s.n]:=hx
      simp only[aj,bj,or_false]at hx
      rcases hx with rfl|rfl
      ·exact m2 _ n1
      ·exact k0
     ·have hx:x∈[q2,s.n]:=hx
      simp only[aj,bj,or_false]at hx
      rcases hx with rfl|rfl
      ·exact n2
      ·exact k0
     ·rw[aZ.mp (show x∈[s.n]from hx)];exact k0
    ·rename_i n1
     rw[fN n1]
     split at h
     ·rename_i e0
      cases e:jM L a b p (s.pt p)with
      |none=>rw[e]at h;cases h
      |some z=>
       rw[e]at h;cases h
       obtain⟨r0,m0,n0⟩:=G.pt' r
       obtain⟨c1,t1,e1,r1,m1⟩:=G.nums ha hb r0 e
       have k0:=m1 _ n0
       have ko:=m1 _ (m0 _ no)
       have kx:∀(u:Str),∀x∈inD (.tup [sD u,kD s.n]),N c1 z.n x:=fun u x hx=>by rw[aZ.mp (show x∈[s.n]from hx)];exact k0
       refine⟨c1,_,?_,G.ma (G.ma (G.ma r1 (m:=⟨"rec",.tup [],s.n,p⟩) k0 (fun x hx=>by cases hx)) (m:=⟨"tag",.tup [sD "yes",kD s.n],own,p⟩) ko (kx _)) (m:=⟨"tag",.tup [sD "no",kD s.n],own,p⟩) ko (kx _),fun x z=>m1 x (m0 x z)⟩
       rw[fY e0]
       simp only[e1,G.n r];rfl
     ·rename_i n2
      rw[fN n2]
      split at h
      ·rename_i e0
       cases e:jM L a b p s with
       |none=>rw[e]at h;cases h
       |some z=>
        rw[e]at h;cases h
        obtain⟨c1,t1,e1,r1,m1⟩:=G.nums ha hb r e
        refine⟨c1,_,?_,G.ma r1 (m:=mkN own p) (m1 _ no) (fun x hx=>by cases hx),m1⟩
        rw[fY e0]
        simp only[e1];rfl
      ·cases h
  |[a,b,d],h,G=>
   simp only[hV]at h⊢
   split at h
   ·rename_i e0
    obtain⟨c1,q,s1,t1,e1,h,r1,m1,n1⟩:=G.k (k:=a) (by simp[frk]) r h
    obtain⟨c2,q2,s2,t2,e2,h,r2,m2,n2⟩:=G.k (k:=b) (by simp[frk]) r1 h
    obtain⟨c3,q3,s3,t3,e3,h,r3,m3,n3⟩:=G.k (k:=d) (by simp[frk]) r2 h
    cases h
    have ko:=m3 _ (m2 _ (m1 _ no))
    refine⟨c3,_,?_,G.fl (G.us (G.us r3 (u:= .row q p 0 own) (fun x hx=>?_)) (u:= .num q2 p 1) (fun x hx=>?_)) n3 ko,fun x z=>m3 x (m2 x (m1 x z))⟩
    ·rw[fY e0]
     simp only[e1,e2,e3];rfl
    ·have hx:x∈[q,own]:=hx
     simp only[aj,bj,or_false]at hx
     rcases hx with rfl|rfl
     ·exact m3 _ (m2 _ n1)
     ·exact ko
    ·rw[aZ.mp (show x∈[q2]from hx)];exact m3 _ n2
   ·cases h
  |_::_::_::_::_,h,_=>cases h
end
open TM.Internal (Kn Tr gv szs)
def roK:Kn->List Nat->Ro
 | .num n,_=> .num n
 | .name w,_=> .name w
 | .fn w,p::_=> .fn w p
 | .tag w,p::_=> .tag w p
 | .lt w,p::q::_=> .lt w p q
 | .get w,p::_=> .get p w
 | .rcd l,ps=> .rcd ((l.zip ps).map fun q=>(q.1,(q.2:Int)))
 | .case l,p::ps=> .case p ((l.zip ps).map fun q=>(q.1.1,q.1.2,(q.2:Int)))
 | .row _,ps=> .row (ps.map fun p:Nat=>(p:Int))
 | .op s _,ps=> .op s (ps.map fun p:Nat=>(p:Int))
 |_,_=> .num 0
structure En where
 w:Str
 h:Hm
 v:Nat
abbrev Sc:=List En
def lkE (sc:Sc) (w:Str):Option En:=sc.foldl (fun a x=>if x.w=w then some x else a) none
theorem kP (sc:Sc) (x:En) (w:Str):lkE (sc++[x]) w=if x.w=w then some x else lkE sc w:=by
 unfold lkE
 rw[List.foldl_append]
 rfl
theorem vJ {w:Str} {e:En}:∀{sc:Sc} {a:Option En},sc.foldl (fun a x=>if x.w=w then some x else a) a=some e->a=some e\/(e∈sc/\e.w=w)
 |[],a,h=> .inl h
 |x::sc,a,h=>by
  rcases vJ (sc:=sc) h with h1|⟨h1,h2⟩
  ·dsimp only at h1
   split at h1
   ·cases h1;exact .inr ⟨by simp,by assumption⟩
   ·exact .inl h1
  ·exact .inr ⟨ai _ h1,h2⟩
theorem yY {sc:Sc} {w:Str} {e:En} (h:lkE sc w=some e):e∈sc/\e.w=w:=by
 rcases vJ h with h|h
 ·cases h
 ·exact h
def val (sc:Sc) (w:Str):Nat:=match lkE sc w with
 |some e=>e.v
 |none=>0
abbrev Ex:=Option (Str×Str)
def exN:Kn->List Ex
 | .fn w=>[some (w,"fn")]
 | .lt w=>[none,some (w,"let")]
 | .case l=>none::l.map fun a=>some (a.2,"arm")
 |_=>[]
def hdX (xs:List Ex):Ex:=xs.headD none
def exS (sc:Sc) (x:Ex) (p pp pw:Nat):Sc:=match x with
 |none=>sc
 |some (w,k)=>sc++[if k="let" then⟨w,("let",(pp:Int)),pw⟩else⟨w,(k,(p:Int)),0⟩]
def upE (e:Str->Nat) (x:Ex) (pw:Nat):Str->Nat:=match x with
 |none=>e
 |some (w,k)=>fun u=>if w=u then(if k="let" then pw else 0)else e u
theorem yZ (sc:Sc) (x:Ex) (p pp pw:Nat):val (exS sc x p pp pw)=upE (val sc) x pw:=by
 cases x with
 |none=>rfl
 |some z=>
  obtain⟨w,k⟩:=z
  funext u
  show val (sc++[_]) u=_
  unfold val upE
  rw[kP]
  by_cases h:k="let"
  ·rw[fY h]
   by_cases e:w=u
   ·rw[fY e];simp[e,h]
   ·rw[fN e];simp[e]
  ·rw[fN h]
   by_cases e:w=u
   ·rw[fY e];simp[e,h]
   ·rw[fN e];simp[e]
def nmW:Kn->(Str->Nat)->Nat
 | .name w,e=>e w
 |_,_=>0
mutual
def wT:Tr->(Str->Nat)->Nat
 | .mk κ ks,e=>1+nmW κ e+wTs ks (exN κ) e 0
def wTs:List Tr->List Ex->(Str->Nat)->Nat->Nat
 |[],_,_,_=>0
 |t::ts,xs,e,pw=>wT t (upE e (hdX xs) pw)+wTs ts xs.tail e (wT t (upE e (hdX xs) pw))
end
def adN (N:Str->Prop) (x:Ex):Str->Prop:=match x with
 |none=>N
 |some (w,_)=>fun u=>u=w\/N u
def okK:Kn->Nat->(Str->Prop)->Prop
 | .num _,n,_=>n=0
 | .name w,n,N=>n=0/\N w
 | .fn _,n,_=>n=1
 | .tag _,n,_=>n=1
 | .lt _,n,_=>n=2
 | .get _,n,_=>n=1
 | .rcd l,n,_=>n=l.length/\l.length<=10
 | .case l,n,_=>n=l.length+ 1/\l.length<=10
 | .row m,n,_=>n=m/\m<=1000
 | .op s m,n,_=>n=m/\(s,m)∈TM.Internal.ops
mutual
def okT:Tr->(Str->Prop)->Prop
 | .mk κ ks,N=>okK κ ks.length N/\sg ks (exN κ) N
def sg:List Tr->List Ex->(Str->Prop)->Prop
 |[],_,_=>True
 |t::ts,xs,N=>okT t (adN N (hdX xs))/\sg ts xs.tail N
end
theorem As {N M:Str->Prop} (h:∀w,N w->M w) (x:Ex):∀w,adN N x w->adN M x w:=fun w a=>by
 cases x with
 |none=>exact h w a
 |some z=>
  rcases a with a|a
  ·exact .inl a
  ·exact .inr (h w a)
mutual
theorem sj:∀(t:Tr) {N M:Str->Prop},(∀w,N w->M w)->okT t N->okT t M
 | .mk κ ks,N,M,h,a=>by
  unfold okT at a⊢
  refine⟨?_,tU ks h a.2⟩
  have a1:=a.1
  cases κ with
  |name w=>exact⟨a1.1,h w a1.2⟩
  |_=>exact a1
theorem tU:∀(ts:List Tr) {xs:List Ex} {N M:Str->Prop},(∀w,N w->M w)->sg ts xs N->sg ts xs M
 |[],xs,N,M,_,_=>by unfold sg;trivial
 |t::ts,xs,N,M,h,a=>by
  unfold sg at a⊢
  exact⟨sj t (As h _) a.1,tU ts h a.2⟩
end
structure Pc where
 ρ:Ro
 sc:Sc
 en:Nat
 df:Nat
 wt:Nat
mutual
def pcT:Tr->Nat->Sc->Nat->List Pc
 | .mk κ ks,p,sc,d=>⟨roK κ (gv ks (p+ 1)),sc,p+(Tr.mk κ ks).sz,d,wT (.mk κ ks) (val sc)⟩::y4 ks (p+ 1) 0 0 (exN κ) sc d
def y4:List Tr->Nat->Nat->Nat->List Ex->Sc->Nat->List Pc
 |[],_,_,_,_,_,_=>[]
 |t::ts,p,pp,pw,xs,sc,d=>pcT t p (exS sc (hdX xs) p pp pw) d++y4 ts (p+t.sz) p (wT t (upE (val sc) (hdX xs) pw)) xs.tail sc d
end
mutual
def Pl (G:List Pc):Tr->Nat->Sc->Nat->Prop
 | .mk κ ks,p,sc,d=>G[p]?=some ⟨roK κ (gv ks (p+ 1)),sc,p+(Tr.mk κ ks).sz,d,wT (.mk κ ks) (val sc)⟩/\Pls G ks (p+ 1) 0 0 (exN κ) sc d
def Pls (G:List Pc):List Tr->Nat->Nat->Nat->List Ex->Sc->Nat->Prop
 |[],_,_,_,_,_,_=>True
 |t::ts,p,pp,pw,xs,sc,d=>Pl G t p (exS sc (hdX xs) p pp pw) d/\Pls G ts (p+t.sz) p (wT t (upE (val sc) (hdX xs) pw)) xs.tail sc d
end
mutual
theorem jK:∀(t:Tr) (p:Nat) (sc:Sc) (d:Nat),(pcT t p sc d).length=t.sz
 | .mk κ ks,p,sc,d=>by rw[pcT,ay,vK,Tr.sz];lia
theorem vK:∀(ts:List Tr) (p pp pw:Nat) (xs:List Ex) (sc:Sc) (d:Nat),(y4 ts p pp pw xs sc d).length=szs ts
 |[],_,_,_,_,_,_=>rfl
 |t::ts,p,pp,pw,xs,sc,d=>by rw[y4,aN,jK,vK,szs]
end
theorem oO:∀t:Tr,0<t.sz
 | .mk κ ks=>by rw[Tr.sz];lia
mutual
theorem CG:∀(t:Tr) {p:Nat} {sc:Sc} {d:Nat} {G l1 l2:List Pc},G=l1++(pcT t p sc d++l2)->l1.length=p->Pl G t p sc d
 | .mk κ ks,p,sc,d,G,l1,l2,e,h=>by
  rw[pcT]at e
  refine⟨?_,Be ks (l1:=l1++[_]) (l2:=l2) (by rw[e,bJ];rfl) (by rw[aN,h];rfl)⟩
  rw[e,aH (by lia),h,cg]
  rfl
theorem Be:∀(ts:List Tr) {p pp pw:Nat} {xs:List Ex} {sc:Sc} {d:Nat} {G l1 l2:List Pc},G=l1++(y4 ts p pp pw xs sc d++l2)->l1.length=p->Pls G ts p pp pw xs sc d
 |[],_,_,_,_,_,_,_,_,_,_,_=>trivial
 |t::ts,p,pp,pw,xs,sc,d,G,l1,l2,e,h=>by
  rw[y4,bJ]at e
  exact⟨CG t e h,Be ts (l1:=l1++_) (l2:=l2) (by rw[e,bJ]) (by rw[aN,h,jK])⟩
end
theorem Pl.at {G:List Pc} {t:Tr} {p:Nat} {sc:Sc} {d:Nat} (h:Pl G t p sc d):∃ρ,G[p]?=some ⟨ρ,sc,p+t.sz,d,wT t (val sc)⟩:=by
 cases t with
 |mk κ ks=>exact⟨_,h.1⟩
theorem Bg {G:List Pc}:∀{ts:List Tr} {p pp pw:Nat} {xs:List Ex} {sc:Sc} {d j c:Nat},Pls G ts p pp pw xs sc d->(gv ts p)[j]?=some c->∃t pp' pw',ts[j]?=some t/\Pl G t c (exS sc (xs[j]?.getD none) c pp' pw') d/\p<=c/\c+t.sz<=p+szs ts/\(0<j->p<c)
 |[],p,pp,pw,xs,sc,d,j,c,_,h=>by cases h
 |t::ts,p,pp,pw,xs,sc,d,0,c,a,h=>by
  cases h
  refine⟨t,pp,pw,rfl,?_,cb _,by rw[szs];lia,fun z=>absurd z (bY _)⟩
  have e:xs[0]?.getD none=hdX xs:=by cases xs<;>rfl
  rw[e]
  exact a.1
 |t::ts,p,pp,pw,xs,sc,d,j+ 1,c,a,h=>by
  obtain⟨t',pp',pw',e,b,l1,l2,_⟩:=Bg a.2 (show(gv ts (p+t.sz))[j]?=some c from h)
  have:=oO t
  refine⟨t',pp',pw',e,?_,by lia,by rw[szs];lia,fun _=>by lia⟩
  have e:xs.tail[j]?=xs[j+ 1]?:=by cases xs<;>simp
  rw[<-e]
  exact b
open TM.Internal (Kn Tr gv szs)
def Bi (sc:Sc) (k:Int):Prop:=∃e∈sc,(e.h.1="fn"\/e.h.1="arm")/\e.h.2=k
def SE (G:List Pc) (roots:List Nat) (sc:Sc) (p q d:Nat) (e:En):Prop:=
 (e.h.1="let"/\∃(a:Nat) (ca:Pc),e.h.2=(a:Int)/\G[a]?=some ca/\ca.en<=p/\a<ca.en/\ca.df=d/\ca.wt<=e.v/\∀k,Bi ca.sc k->Bi sc k)
 \/(e.h.1="def"/\∃j:Nat,e.h.2=(j:Int)/\j<=d/\(j<d->∃(r:Nat) (c:Pc),roots[j]?=some r/\G[r]?=some c/\c.df=j/\c.en<=p/\r<c.en/\c.wt<=e.v/\∀k,¬Bi c.sc k))
 \/((e.h.1="fn"\/e.h.1="arm")/\∃(a:Nat) (ca:Pc),e.h.2=(a:Int)/\G[a]?=some ca/\a<=p/\q<=ca.en)
def Sok (G:List Pc) (roots:List Nat) (sc:Sc) (p q d:Nat):Prop:=∀e∈sc,SE G roots sc p q d e
def Nm (sc:Sc) (w:Str):Prop:=∃e,lkE sc w=some e
theorem Bi.ex {sc:Sc} {x:Ex} {p pp pw:Nat} {k:Int} (h:Bi sc k):Bi (exS sc x p pp pw) k:=by
 cases x with
 |none=>exact h
 |some z=>
  obtain⟨e,he,h⟩:=h
  exact⟨e,ao _ he,h⟩
theorem Nm.ex {sc:Sc} {x:Ex} {p pp pw:Nat} (w:Str) (h:adN (Nm sc) x w):Nm (exS sc x p pp pw) w:=by
 cases x with
 |none=>exact h
 |some z=>
  obtain⟨u,k⟩:=z
  obtain⟨y,hy,ew⟩:∃y:En,exS sc (some (u,k)) p pp pw=sc++[y]/\y.w=u:=⟨_,rfl,by split<;>rfl⟩
  unfold Nm
  rw[hy,kP,ew]
  by_cases e:u=w
  ·rw[fY e];exact⟨_,rfl⟩
  ·rw[fN e]
   rcases h with h|h
   ·exact absurd h.symm e
   ·exact h
structure Ft (G:List Pc) (roots:List Nat) (i:Nat) (c:Pc):Prop where
 t:∃t,Pl G t i c.sc c.df/\c.en=i+t.sz/\c.wt=wT t (val c.sc)/\okT t (Nm c.sc)
 s:Sok G roots c.sc i c.en c.df
def nol (xs:List Ex):Prop:=∀w,some (w,("let":Str))∉xs
theorem Ej {xs:List Ex} (h:nol xs) (w:Str):hdX xs≠some (w,("let":Str)):=fun e=>by
 cases xs with
 |nil=>cases e
 |cons x xs=>exact h w (by rw[show x=_ from e];simp)
section
variable {G:List Pc} {roots:List Nat}
theorem Sok.in {sc:Sc} {p q p' q' d:Nat} (h:Sok G roots sc p q d) (z1:p<=p') (z2:q'<=q):Sok G roots sc p' q' d:=fun e he=>by
 rcases h e he with⟨a,x,c,y,g,l1,l2,l3,l4,l5⟩|⟨a,j,y,l,r⟩|⟨a,x,c,y,g,l1,l2⟩
 ·exact .inl ⟨a,x,c,y,g,by lia,l2,l3,l4,l5⟩
 ·exact .inr (.inl ⟨a,j,y,l,fun z=>let⟨r,c,h1,h2,h3,h4,h5⟩:=r z;⟨r,c,h1,h2,h3,by lia,h5⟩⟩)
 ·exact .inr (.inr ⟨a,x,c,y,g,by lia,by lia⟩)
theorem Sok.bind {sc:Sc} {p q d pp pw:Nat} {x:Ex} {cp:Pc} (h:Sok G roots sc p q d) (nl:∀w,x≠some (w,("let":Str))) (nd:∀w k,x=some (w,k)->k="fn"\/k="arm") (hp:G[p]?=some cp) (hq:q<=cp.en):Sok G roots (exS sc x p pp pw) p q d:=by
 cases x with
 |none=>exact h
 |some z=>
  obtain⟨u,k⟩:=z
  have nk:k≠"let":=fun e=>nl u (by rw[e])
  intro e he
  rcases ak.mp he with he|he
  ·rcases h e he with⟨a,x,c,y,g,l1,l2,l3,l4,l5⟩|r|r
   ·exact .inl ⟨a,x,c,y,g,l1,l2,l3,l4,fun k hk=>(l5 k hk).ex⟩
   ·exact .inr (.inl r)
   ·exact .inr (.inr r)
  ·rw[fN nk]at he
   rw[aZ.mp he]
   exact .inr (.inr ⟨nd u k rfl,p,cp,rfl,hp,cb _,hq⟩)
theorem Sok.lt {sc:Sc} {p q d pp pw:Nat} {w:Str} {ca:Pc} (h:Sok G roots sc p q d) (ha:G[pp]?=some ca) (h1:ca.en<=p) (h2:pp<ca.en) (h3:ca.df=d) (h4:ca.wt<=pw) (h5:ca.sc=sc):Sok G roots (exS sc (some (w,("let":Str))) p pp pw) p q d:=by
 intro e he
 rcases ak.mp he with he|he
 ·rcases h e he with⟨a,x,c,y,g,l1,l2,l3,l4,l5⟩|r|r
  ·exact .inl ⟨a,x,c,y,g,l1,l2,l3,l4,fun k hk=>(l5 k hk).ex⟩
  ·exact .inr (.inl r)
  ·exact .inr (.inr r)
 ·rw[fY rfl]at he
  rw[aZ.mp he]
  exact .inl ⟨rfl,pp,ca,rfl,ha,h1,h2,h3,h4,fun k hk=>by rw[h5]at hk;exact hk.ex⟩
def ndx (xs:List Ex):Prop:=∀w k,some (w,k)∈xs->k="fn"\/k="arm"
theorem Ek {xs:List Ex} (h:ndx xs):ndx xs.tail:=fun w k m=>h w k (List.mem_of_mem_tail m)
theorem El {xs:List Ex} (h:ndx xs) (w k:Str) (e:hdX xs=some (w,k)):k="fn"\/k="arm":=by
 cases xs with
 |nil=>cases e
 |cons x xs=>exact h w k (by rw[show x=_ from e];simp)
theorem CH {xs:List Ex} (h:ndx xs):nol xs:=fun w m=>by
 rcases h w "let" m with h|h<;>exact absurd h fS
def Fts (G:List Pc) (roots:List Nat) (p q d:Nat):Prop:=(∀i,p<=i->i<q->∃c,G[i]?=some c/\Ft G roots i c/\c.df=d/\c.en<=q)/\∀i j ci cj,p<=i->i<j->j<q->G[i]?=some ci->G[j]?=some cj->ci.en<=j\/cj.en<=ci.en
theorem Fts.app {p q r d:Nat} (a:Fts G roots p q d) (b:Fts G roots q r d) (h1:p<=q) (h2:q<=r):Fts G roots p r d:=by
 refine⟨fun i l1 l2=>?_,fun i j ci cj l1 l2 l3 e1 e2=>?_⟩
 ·by_cases z:i<q
  ·obtain⟨c,h1,h2,h3,h4⟩:=a.1 i l1 z
   exact⟨c,h1,h2,h3,by lia⟩
  ·exact b.1 i (by lia) l2
 ·by_cases z:j<q
  ·exact a.2 i j ci cj l1 l2 z e1 e2
  ·by_cases y:i<q
   ·obtain⟨c,h1,h2,h3,h4⟩:=a.1 i l1 y
    rw[h1]at e1
    cases e1
    exact .inl (by lia)
   ·exact b.2 i j ci cj (by lia) l2 l3 e1 e2
mutual
theorem Au:∀(t:Tr) {p:Nat} {sc:Sc} {d:Nat},Pl G t p sc d->okT t (Nm sc)->Sok G roots sc p (p+t.sz) d->Fts G roots p (p+t.sz) d
 | .mk κ ks,p,sc,d,h,o,s=>by
  have es:(Tr.mk κ ks).sz=1+szs ks:=by rw[Tr.sz]
  have hf:Ft G roots p ⟨roK κ (gv ks (p+ 1)),sc,p+(Tr.mk κ ks).sz,d,wT (.mk κ ks) (val sc)⟩:=⟨⟨_,h,rfl,rfl,o⟩,s⟩
  have hr:Fts G roots (p+ 1) (p+(Tr.mk κ ks).sz) d:=by
   rw[es,<-ck]
   have s':Sok G roots sc (p+ 1) (p+ 1+szs ks) d:=s.in (by lia) (by lia)
   by_cases hk:∃w,κ= .lt w
   ·obtain⟨w,rfl⟩:=hk
    have l2:ks.length=2:=o.1
    match ks,l2,h,o with
    |[a,b],_,h,o=>
     have h2:=h.2
     have o2:=o.2
     obtain⟨ha,hb,_⟩:=h2
     obtain⟨oa,ob,_⟩:=o2
     have ss:szs [a,b]=a.sz+b.sz:=by simp[szs]
     rw[ss]at s'⊢
     have fa:Fts G roots (p+ 1) (p+ 1+a.sz) d:=Au a ha oa (s'.in (cb _) (by lia))
     obtain⟨ρa,ga⟩:=ha.at
     have:=oO a
     have sb:=Sok.lt (w:=w) (pw:=wT a (upE (val sc) (hdX (exN (.lt w))) 0)) (s'.in (p':=p+ 1+a.sz) (q':=p+ 1+a.sz+b.sz) (by lia) (by lia)) ga (cb _) (by show p+ 1<p+ 1+a.sz;lia) rfl (cb _) rfl
     have fb:=Au b hb (sj b (fun w h=>Nm.ex w h) ob) sb
     rw[<-ck]
     exact fa.app fb (by lia) (by lia)
   ·have nx:ndx (exN κ):=fun w k m=>by
     cases κ with
     |fn u=>simp only[exN,aZ,cx.injEq,Prod.mk.injEq]at m;exact .inl m.2
     |lt u=>exact absurd ⟨u,rfl⟩ hk
     |case l=>
      simp only[exN,aj,bb]at m
      rcases m with m|⟨a,_,m⟩
      ·cases m
      ·cases m;exact .inr rfl
     |_=>cases m
    exact Bh ks h.2 o.2 nx s'
  refine⟨fun i l1 l2=>?_,fun i j ci cj l1 l2 l3 e1 e2=>?_⟩
  ·by_cases z:i=p
   ·subst z;exact⟨_,h.1,hf,rfl,cb _⟩
   ·exact hr.1 i (by lia) l2
  ·by_cases z:i=p
   ·subst z
    rw[h.1]at e1
    cases e1
    obtain⟨c,g1,_,_,g4⟩:=hr.1 j (by lia) l3
    rw[g1]at e2
    cases e2
    exact .inr g4
   ·exact hr.2 i j ci cj (by lia) l2 l3 e1 e2
theorem Bh:∀(ts:List Tr) {p pp pw:Nat} {xs:List Ex} {sc:Sc} {d:Nat},Pls G ts p pp pw xs sc d->sg ts xs (Nm sc)->ndx xs->Sok G roots sc p (p+szs ts) d->Fts G roots p (p+szs ts) d
 |[],p,pp,pw,xs,sc,d,_,_,_,_=>⟨fun i l1 l2=>by rw[szs]at l2;lia,fun i j ci cj l1 l2 l3=>by rw[szs]at l3;lia⟩
 |t::ts,p,pp,pw,xs,sc,d,h,o,n,s=>by
  rw[szs]at s⊢
  obtain⟨ρ,ga⟩:=h.1.at
  have f1:=Au t h.1 (sj t (fun w h=>Nm.ex w h) o.1) (Sok.bind (s.in (q':=p+t.sz) (cb _) (by lia)) (Ej (CH n)) (El n) ga (cb _))
  have f2:=Bh ts h.2 o.2 (Ek n) (s.in (by lia) (by lia))
  rw[<-ck]
  exact f1.app f2 (by lia) (by lia)
end
end
open TM.Internal (Kn Tr gv szs)
def dfE (wd:Nat->Str) (d v:Nat):En:=⟨wd d,("def",(d:Int)),v⟩
def pcD (wd:Nat->Str):List Tr->Nat->Nat->Sc->List Pc
 |[],_,_,_=>[]
 |t::ts,d,p,sc=>pcT t p (sc++[dfE wd d 0]) d++pcD wd ts (d+ 1) (p+t.sz) (sc++[dfE wd d (wT t (val (sc++[dfE wd d 0])))])
def E9 (wd:Nat->Str):List Tr->Nat->Sc->Prop
 |[],_,_=>True
 |t::ts,d,sc=>okT t (Nm (sc++[dfE wd d 0]))/\E9 wd ts (d+ 1) (sc++[dfE wd d (wT t (val (sc++[dfE wd d 0])))])
structure FtD (G:List Pc) (roots:List Nat) (d p q:Nat):Prop where
 a:∀i,p<=i->i<q->∃c,G[i]?=some c/\Ft G roots i c/\c.en<=q/\(∃r,roots[c.df]?=some r/\r<=i)/\∀r',roots[c.df+ 1]?=some r'->c.en<=r'
 n:∀i j ci cj,p<=i->i<j->j<q->G[i]?=some ci->G[j]?=some cj->ci.en<=j\/cj.en<=ci.en
 r:∀j r,d<=j->roots[j]?=some r->r<q/\∃c,G[r]?=some c/\c.df=j/\∀k,¬Bi c.sc k
def Sdf (G:List Pc) (roots:List Nat) (sc:Sc) (p d:Nat):Prop:=∀e∈sc,e.h.1="def"/\∃j:Nat,e.h.2=(j:Int)/\j<d/\∃(r:Nat) (c:Pc),roots[j]?=some r/\G[r]?=some c/\c.df=j/\c.en<=p/\r<c.en/\c.wt<=e.v/\∀k,¬Bi c.sc k
theorem Sdf.nob {G:List Pc} {roots:List Nat} {sc:Sc} {p d:Nat} {wd:Nat->Str} {v:Nat} (h:Sdf G roots sc p d) (k:Int):¬Bi (sc++[dfE wd d v]) k:=by
 rintro⟨e,he,h1,_⟩
 have z:e.h.1="def":=by
  rcases ak.mp he with he|he
  ·exact(h e he).1
  ·rw[aZ.mp he];rfl
 rw[z]at h1
 rcases h1 with h1|h1<;>exact absurd h1 fS
theorem Em {G:List Pc} {roots:List Nat} {wd:Nat->Str}:∀{ts:List Tr} {d p:Nat} {sc:Sc} {l1:List Pc},G=l1++pcD wd ts d p sc->l1.length=p->roots.drop d=gv ts p->E9 wd ts d sc->Sdf G roots sc p d->FtD G roots d p (p+szs ts)
 |[],d,p,sc,l1,_,_,hr,_,_=>⟨fun i h1 h2=>by rw[szs]at h2;lia,fun i j ci cj h1 h2 h3=>by rw[szs]at h3;lia,fun j r h1 h2=>by
   have h3:(roots.drop d)[j-d]?=some r:=by rw[bK,Nat.add_sub_cancel' h1];exact h2
   rw[hr]at h3
   cases h3⟩
 |t::ts,d,p,sc,l1,e,hl,hr,ok,sd=>by
  have h0:roots[d]?=some p:=by
   have h3:(roots.drop d)[0]?=some p:=by rw[hr];rfl
   rwa[bK,Nat.add_zero]at h3
  have h1:roots.drop (d+ 1)=gv ts (p+t.sz):=by
   rw[<-List.tail_drop,hr];rfl
  have hp:Pl G t p (sc++[dfE wd d 0]) d:=CG t (l2:=pcD wd ts (d+ 1) (p+t.sz) (sc++[dfE wd d (wT t (val (sc++[dfE wd d 0])))])) (by rw[e];rfl) hl
  obtain⟨ρ,gp⟩:=hp.at
  have tp:=oO t
  have so:Sok G roots (sc++[dfE wd d 0]) p (p+t.sz) d:=fun x hx=>by
   refine .inr (.inl ?_)
   rcases ak.mp hx with hx|hx
   ·obtain⟨a,j,b,l,r⟩:=sd x hx
    exact⟨a,j,b,by lia,fun _=>r⟩
   ·rw[aZ.mp hx]
    exact⟨rfl,d,rfl,cb _,fun z=>absurd z (bY _)⟩
  have f1:=Au t hp ok.1 so
  have sd2:Sdf G roots (sc++[dfE wd d (wT t (val (sc++[dfE wd d 0])))]) (p+t.sz) (d+ 1):=fun x hx=>by
   rcases ak.mp hx with hx|hx
   ·obtain⟨a,j,b,l,r,c,h1,h2,h3,h4,h5⟩:=sd x hx
    exact⟨a,j,b,by lia,r,c,h1,h2,h3,by lia,h5⟩
   ·rw[aZ.mp hx]
    exact⟨rfl,d,rfl,by lia,p,_,h0,gp,rfl,cb _,by show p<p+t.sz;lia,cb _,fun k=>sd.nob k⟩
  have f2:=Em (l1:=l1++pcT t p (sc++[dfE wd d 0]) d) (by rw[e,pcD,bJ]) (by rw[aN,hl,jK]) h1 ok.2 sd2
  have es:p+szs (t::ts)=p+t.sz+szs ts:=by rw[szs];lia
  rw[es]
  refine⟨fun i l1 l2=>?_,fun i j ci cj l1 l2 l3 e1 e2=>?_,fun j r l hj=>?_⟩
  ·by_cases z:i<p+t.sz
   ·obtain⟨c,g1,g2,g3,g4⟩:=f1.1 i l1 z
    refine⟨c,g1,g2,by lia,⟨p,by rw[g3];exact h0,l1⟩,fun r' hr'=>?_⟩
    rw[g3]at hr'
    have h3:(roots.drop (d+ 1))[0]?=some r':=by rw[bK];exact hr'
    rw[h1]at h3
    cases ts with
    |nil=>cases h3
    |cons u us=>cases h3;exact g4
   ·exact f2.a i (by lia) l2
  ·by_cases z:j<p+t.sz
   ·exact f1.2 i j ci cj l1 l2 z e1 e2
   ·by_cases y:i<p+t.sz
    ·obtain⟨c,g1,_,_,g4⟩:=f1.1 i l1 y
     rw[g1]at e1
     cases e1
     exact .inl (by lia)
    ·exact f2.n i j ci cj (by lia) l2 l3 e1 e2
  ·by_cases z:j=d
   ·subst z
    rw[h0]at hj
    cases hj
    exact⟨by lia,_,gp,rfl,fun k=>sd.nob k⟩
   ·exact f2.r j r (by lia) hj
theorem y6 {wd:Nat->Str}:∀{ts:List Tr} {d p:Nat} {sc:Sc},(pcD wd ts d p sc).length=szs ts
 |[],_,_,_=>rfl
 |t::ts,d,p,sc=>by rw[pcD,aN,jK,y6,szs]
theorem CI {wd:Nat->Str} {ts:List Tr} (ok:E9 wd ts 0 []):FtD (pcD wd ts 0 0 []) (gv ts 0) 0 0 (szs ts):=by
 have h:=Em (l1:=[]) (G:=pcD wd ts 0 0 []) (roots:=gv ts 0) rfl rfl rfl ok (fun _ h=>by cases h)
 rwa[cm]at h
def enG (G:List Pc) (k:Int):Int:=match atZ G k with
 |some c=>(c.en:Int)
 |none=>k+ 1
def dfG (G:List Pc) (k:Int):Int:=match atZ G k with
 |some c=>(c.df:Int)
 |none=> -1
def viG (G:List Pc) (p k:Int):Prop:=∃c,atZ G p=some c/\Bi c.sc k
def hoC (c:Pc):Option Hm:=match c.ρ with
 | .name w=>(lkE c.sc w).map En.h
 |_=>none
def hoG (G:List Pc) (k:Nat):Option Hm:=(G[k]?).bind hoC
theorem Gp {c:Pc} {h:Hm} (e:hoC c=some h):∃w x,c.ρ= .name w/\lkE c.sc w=some x/\x.h=h:=by
 unfold hoC at e
 split at e
 ·rename_i w hw
  obtain⟨x,hx,rfl⟩:=cB.mp e
  exact⟨w,x,hw,hx,rfl⟩
 ·cases e
theorem Gq {G:List Pc} {k:Nat} {h:Hm} (e:hoG G k=some h):∃c w x,G[k]?=some c/\c.ρ= .name w/\x∈c.sc/\lkE c.sc w=some x/\x.h=h:=by
 unfold hoG at e
 obtain⟨c,hc,e⟩:=Option.bind_eq_some_iff.mp e
 obtain⟨w,x,h1,h2,h3⟩:=Gp e
 exact⟨c,w,x,hc,h1,(yY h2).1,h2,h3⟩
theorem Av {κ:Kn} {ps:List Nat} {c:Int} (h:c∈ku (roK κ ps)):∃j n:Nat,ps[j]?=some n/\c=(n:Int):=by
 have mm:∀{n:Nat} {ps:List Nat},n∈ps->∃j:Nat,ps[j]?=some n:=fun h=>bD.mp h
 unfold roK at h
 split at h
 ·cases h
 ·cases h
 ·simp only[ku,aZ]at h;exact⟨0,_,rfl,h⟩
 ·simp only[ku,aZ]at h;exact⟨0,_,rfl,h⟩
 ·simp only[ku,aj,bj,or_false]at h
  rcases h with h|h
  ·exact⟨0,_,rfl,h⟩
  ·exact⟨1,_,rfl,h⟩
 ·simp only[ku,aZ]at h;exact⟨0,_,rfl,h⟩
 ·simp only[ku,bg,bb,Function.comp]at h
  obtain⟨q,hq,rfl⟩:=h
  obtain⟨j,hj⟩:=mm (aE hq).2
  exact⟨j,_,hj,rfl⟩
 ·simp only[ku,bg,aj,bb,Function.comp]at h
  rcases h with h|⟨q,hq,rfl⟩
  ·exact⟨0,_,rfl,h⟩
  ·obtain⟨j,hj⟩:=mm (aE hq).2
   exact⟨j+ 1,_,hj,rfl⟩
 ·simp only[ku,bb]at h
  obtain⟨n,hn,rfl⟩:=h
  obtain⟨j,hj⟩:=mm hn
  exact⟨j,_,hj,rfl⟩
 ·simp only[ku,bb]at h
  obtain⟨n,hn,rfl⟩:=h
  obtain⟨j,hj⟩:=mm hn
  exact⟨j,_,hj,rfl⟩
 ·cases h
theorem uQ:∀{ts:List Tr} {p i a:Nat},(gv ts p)[i]?=some a->p<=a
 |[],_,_,_,h=>by cases h
 |t::ts,p,0,a,h=>by cases h;exact cb _
 |t::ts,p,i+ 1,a,h=>by have:=uQ (show(gv ts (p+t.sz))[i]?=some a from h);lia
theorem tV:∀{ts:List Tr} {p i j a b:Nat},(gv ts p)[i]?=some a->(gv ts p)[j]?=some b->i<=j->a<=b
 |[],_,_,_,_,_,h,_,_=>by cases h
 |t::ts,p,0,j,a,b,h,h2,_=>by cases h;exact uQ h2
 |t::ts,p,i+ 1,0,a,b,_,_,l=>by lia
 |t::ts,p,i+ 1,j+ 1,a,b,h,h2,l=>tV (show(gv ts (p+t.sz))[i]?=some a from h) (show(gv ts (p+t.sz))[j]?=some b from h2) (by lia)
open TM.Internal (Kn Tr gv szs)
theorem dfn {s:Str}:s="def"->s≠"let"/\s≠"fn"/\s≠"arm":=fun h=>by subst h;exact⟨fS,fS,fS⟩
theorem ltn {s:Str}:s="let"->s≠"def"/\s≠"fn"/\s≠"arm":=fun h=>by subst h;exact⟨fS,fS,fS⟩
section
variable {G:List Pc} {roots:List Nat} {q:Nat}
theorem qo {k:Nat} {c:Pc} (h:G[k]?=some c):enG G (k:Int)=c.en:=by
 unfold enG;rw[show atZ G (k:Int)=some c from h]
theorem oP {k:Nat} {c:Pc} (h:G[k]?=some c):dfG G (k:Int)=c.df:=by
 unfold dfG;rw[show atZ G (k:Int)=some c from h]
theorem rk {k:Nat} {c:Pc} (h:G[k]?=some c) {x:Int}:viG G (k:Int) x↔Bi c.sc x:=
 ⟨fun⟨c',h',b⟩=>by rw[show atZ G (k:Int)=some c from h]at h';cases h';exact b,fun b=>⟨c,h,b⟩⟩
theorem FtD.at (F:FtD G roots 0 0 q) (hq:q=G.length) {i:Nat} {c:Pc} (h:G[i]?=some c):Ft G roots i c/\c.en<=q/\i<c.en/\(∃r,roots[c.df]?=some r/\r<=i)/\∀r',roots[c.df+ 1]?=some r'->c.en<=r':=by
 obtain⟨c',g,f,a,b,d⟩:=F.a i (cc _) (by rw[hq];exact(aq.mp h).1)
 rw[h]at g
 cases g
 obtain⟨t,_,e,_⟩:=f.t
 have:=oO t
 exact⟨f,a,by lia,b,d⟩
theorem FtD.kid (F:FtD G roots 0 0 q) (hq:q=G.length) {p:Int} {ρ:Ro} {c:Int} (h:atZ (G.map Pc.ρ) p=some ρ) (hc:c∈ku ρ):∃(i n:Nat) (ci cn:Pc) (κ:Kn) (ks:List Tr) (j pp pw:Nat),p=(i:Int)/\c=(n:Int)/\G[i]?=some ci/\G[n]?=some cn/\ρ=roK κ (gv ks (i+ 1))/\(gv ks (i+ 1))[j]?=some n/\cn.sc=exS ci.sc ((exN κ)[j]?.getD none) n pp pw/\i<n/\cn.en<=ci.en/\n<cn.en/\cn.df=ci.df/\(0<j->i+ 1<n)/\okK κ ks.length (Nm ci.sc):=by
 obtain⟨i,rfl,h'⟩:=f9 h
 clear h
 have h:=h'
 rw[aJ]at h
 obtain⟨ci,hi,rfl⟩:=cB.mp h
 obtain⟨f,_⟩:=F.at hq hi
 obtain⟨⟨κ,ks⟩,pl,en,_,ok⟩:=f.t
 have p1:=pl.1
 rw[hi]at p1
 have eρ:ci.ρ=roK κ (gv ks (i+ 1)):=by rw[cx.inj p1]
 rw[eρ]at hc
 obtain⟨j,n,hj,rfl⟩:=Av hc
 obtain⟨t,pp,pw,_,pt,l1,l2,l3⟩:=Bg pl.2 hj
 obtain⟨ρn,gn⟩:=pt.at
 have:=oO t
 have es:(Tr.mk κ ks).sz=1+szs ks:=by rw[Tr.sz]
 exact⟨i,n,ci,_,κ,ks,j,pp,pw,rfl,rfl,hi,gn,eρ,hj,rfl,by lia,by show n+t.sz<=ci.en;lia,by show n<n+t.sz;lia,rfl,fun z=>by have:=l3 z;lia,ok.1⟩
theorem FtD.en (F:FtD G roots 0 0 q) (hq:q=G.length) {k:Nat} {h:Hm} (e:hoG G k=some h):∃c x,G[k]?=some c/\x∈c.sc/\x.h=h/\SE G roots c.sc k c.en c.df x/\k<c.en/\(∃r,roots[c.df]?=some r/\r<=k)/\∀r',roots[c.df+ 1]?=some r'->c.en<=r':=by
 obtain⟨c,w,x,hc,_,hx,_,rfl⟩:=Gq e
 obtain⟨f,_,l,a,b⟩:=F.at hq hc
 exact⟨c,x,hc,hx,rfl,f.s x hx,l,a,b⟩
theorem sk {roots:List Nat} {k:Nat} {c:Pc} {ts:List Tr} (er:roots=gv ts 0) (l:k<c.en) (a:∃r,roots[c.df]?=some r/\r<=k) (b:∀r',roots[c.df+ 1]?=some r'->c.en<=r') {j:Nat} (hj:j<=c.df):inF roots (k:Int) (j:Int)=true↔j=c.df:=by
 unfold inF
 rw[show atZ roots ((j:Int)+ 1)=roots[j+ 1]? from rfl]
 constructor
 ·intro h
  by_cases e:j=c.df
  ·exact e
  ·exfalso
   obtain⟨r,hr,lr⟩:=a
   have ll:=(aq.mp hr).1
   obtain⟨r',hr'⟩:∃r',roots[j+ 1]?=some r':=⟨_,ba (by lia)⟩
   rw[hr']at h
   have:=of_decide_eq_true h
   rw[er]at hr hr'
   have:=tV hr' hr (by lia)
   lia
 ·rintro rfl
  split
  ·rename_i r' hr'
   have:=b r' hr'
   exact gQ (by lia)
  ·rfl
theorem Gs {ts:List Tr} (er:roots=gv ts 0) (F:FtD G roots 0 0 q) (hq:q=G.length):Nt (enG G) (dfG G) (G.map Pc.ρ) roots (hoG G) where
 n:=fun k p l=>by
  cases e:atZ G k with
  |none=>left;unfold enG;rw[e];show k+ 1<=p;lia
  |some c=>
   obtain⟨i,rfl,hi⟩:=f9 e
   obtain⟨_,le,_⟩:=F.at hq hi
   have:∃j:Nat,p=(j:Int):=⟨p.toNat,by lia⟩
   obtain⟨j,rfl⟩:=this
   rw[qo hi]
   by_cases z:j<G.length
   ·have hj:G[j]?=some G[j]:=ba z
    rw[qo hj]
    rcases F.n i j c _ (cc _) (by lia) (by lia) hi hj with h|h
    ·left;lia
    ·right;lia
   ·left;lia
 kid:=fun p ρ c h hc=>by
  obtain⟨i,n,ci,cn,κ,ks,j,pp,pw,rfl,rfl,gi,gn,_,_,_,l1,l2,l3,l4,_⟩:=F.kid hq h hc
  rw[qo gi,qo gn,oP gi,oP gn,l4]
  exact⟨by lia,by lia,by lia,rfl⟩
 lt:=fun k h e h1=>by
  obtain⟨c,x,gc,hx,rfl,s,l,_⟩:=F.en hq e
  rcases s with⟨_,a,ca,e2,ga,l1,l2,l3,_⟩|⟨z,_⟩|⟨z,_⟩
  ·rw[e2,qo ga,oP ga,oP gc,l3]
   exact⟨by lia,by lia,rfl⟩
  ·exact absurd z (ltn h1).1
  ·rcases z with z|z
   ·exact absurd z (ltn h1).2.1
   ·exact absurd z (ltn h1).2.2
 dn:=fun k h e h1 h2=>by
  obtain⟨c,x,gc,hx,rfl,s,l,a,b⟩:=F.en hq e
  rcases s with⟨z,_⟩|⟨_,j,ej,lj,hj⟩|⟨z,_⟩
  ·exact absurd h1 (ltn z).1
  ·rw[ej]at h2⊢
   have nj:j≠c.df:=fun z=>by rw[(sk er l a b lj).mpr z]at h2;cases h2
   obtain⟨r,cr,r1,r2,r3,r4,r5,r6,r7⟩:=hj (by lia)
   rw[oP gc]
   refine⟨by lia,fun r' hr'=>?_⟩
   rw[show atZ roots (j:Int)=roots[j]? from rfl,r1]at hr'
   cases hr'
   rw[qo r2,oP r2,r3]
   exact⟨by lia,by lia,rfl⟩
  ·rcases z with z|z
   ·exact absurd z (dfn h1).2.1
   ·exact absurd z (dfn h1).2.2
theorem Eo {κ:Kn} {j n i:Nat} {w k:Str} {ks:List Tr} {N:Str->Prop} (ok:okK κ ks.length N) (h:(exN κ)[j]?.getD none=some (w,k)) (hk:k≠"let") (hj:(gv ks (i+ 1))[j]?=some n):(n:Int)∈bnd (roK κ (gv ks (i+ 1))):=by
 have hl:(gv ks (i+ 1)).length=ks.length:=TM.Internal.offs_len ks (i+ 1)
 cases κ with
 |fn u=>
  have l1:ks.length=1:=ok
  match gv ks (i+ 1),hl,hj with
  |[a],_,hj=>
   cases j with
   |zero=>cases hj;simp[roK,bnd]
   |succ j=>simp at hj
  |[],hl,_=>rw[l1]at hl;cases hl
  |_::_::_,hl,_=>rw[l1]at hl;simp at hl
 |lt u=>
  exfalso
  match j,h with
  |0,h=>cases h
  |1,h=>cases h;exact hk rfl
  |j+ 2,h=>cases h
 |case l=>
  have l1:ks.length=l.length+ 1:=ok.1
  cases j with
  |zero=>cases h
  |succ j=>
   match gv ks (i+ 1),hl,hj with
   |[],hl,_=>rw[l1]at hl;cases hl
   |a::ps,hl,hj=>
    have hj:ps[j]?=some n:=hj
    have lj:j<l.length:=by
     have:=(aq.mp hj).1
     rw[ay,l1]at hl
     lia
    show(n:Int)∈(((l.zip ps).map fun q=>(q.1.1,q.1.2,(q.2:Int))).map fun x=>x.2.2)
    rw[bg]
    refine bb.mpr ⟨(l[j],n),?_,rfl⟩
    refine bD.mpr ⟨j,?_⟩
    rw[bL]
    exact⟨ba lj,hj⟩
 |_=>cases j<;>cases h
theorem Gu {ts:List Tr} (er:roots=gv ts 0) (F:FtD G roots 0 0 q) (hq:q=G.length):Vs (viG G) (enG G) (dfG G) (G.map Pc.ρ) roots (hoG G) where
 enc:=fun p k ⟨c,hc,e,he,hk,ek⟩=>by
  obtain⟨i,rfl,hc⟩:=f9 hc
  obtain⟨f,_,l,_⟩:=F.at hq hc
  rcases f.s e he with⟨z,_⟩|⟨z,_⟩|⟨_,a,ca,e2,ga,l1,l2⟩
  ·rcases hk with hk|hk
   ·exact absurd hk (ltn z).2.1
   ·exact absurd hk (ltn z).2.2
  ·rcases hk with hk|hk
   ·exact absurd hk (dfn z).2.1
   ·exact absurd hk (dfn z).2.2
  ·rw[<-ek,e2,qo ga]
   exact⟨by lia,by lia,by lia⟩
 kid:=fun p ρ c k h hc hv=>by
  obtain⟨i,n,ci,cn,κ,ks,j,pp,pw,rfl,rfl,gi,gn,eρ,hj,es,l1,l2,l3,l4,l5,ok⟩:=F.kid hq h hc
  rw[rk gn]at hv
  rw[rk gi]
  obtain⟨e,he,hk,ek⟩:=hv
  rw[es]at he
  cases hx:(exN κ)[j]?.getD none with
  |none=>rw[hx]at he;exact .inl ⟨e,he,hk,ek⟩
  |some z=>
   obtain⟨w,kk⟩:=z
   rw[hx]at he
   rcases ak.mp he with he|he
   ·exact .inl ⟨e,he,hk,ek⟩
   ·have he:=aZ.mp he
    by_cases z:kk="let"
    ·rw[fY z]at he
     rw[he]at hk
     rcases hk with hk|hk
     ·exact absurd hk (ltn rfl).2.1
     ·exact absurd hk (ltn rfl).2.2
    ·rw[fN z]at he
     rw[he]at ek
     exact .inr ⟨ek.symm,by rw[eρ];exact Eo ok hx z hj⟩
 lt:=fun p h k e h1 hv=>by
  obtain⟨c,x,gc,hx,rfl,s,l,_⟩:=F.en hq e
  rw[rk gc]
  rcases s with⟨_,a,ca,e2,ga,l1,l2,l3,_,l5⟩|⟨z,_⟩|⟨z,_⟩
  ·rw[e2,rk ga]at hv;exact l5 k hv
  ·exact absurd z (ltn h1).1
  ·rcases z with z|z
   ·exact absurd z (ltn h1).2.1
   ·exact absurd z (ltn h1).2.2
 root:=fun d r k h hv=>by
  obtain⟨j,rfl,h⟩:=f9 h
  obtain⟨_,c,gc,_,nb⟩:=F.r j r (cc _) h
  rw[rk gc]at hv
  exact nb k hv
 held:=fun p h e h1 h2=>by
  obtain⟨c,x,gc,hx,rfl,s,l,_⟩:=F.en hq e
  rw[rk gc]
  rcases s with⟨z,_⟩|⟨z,_⟩|⟨z,_⟩
  ·exact absurd z h1
  ·exact absurd z h2
  ·exact⟨x,hx,z,rfl⟩
 inn:=fun p h e h1=>by
  obtain⟨c,x,gc,hx,rfl,s,l,a,b⟩:=F.en hq e
  rcases s with⟨z,_⟩|⟨_,j,ej,lj,hj⟩|⟨z,_⟩
  ·exact absurd h1 (ltn z).1
  ·rw[ej,oP gc,sk er l a b lj]
   lia
  ·rcases z with z|z
   ·exact absurd z (dfn h1).2.1
   ·exact absurd z (dfn h1).2.2
 dr:=fun d r h=>by
  obtain⟨j,rfl,h⟩:=f9 h
  obtain⟨_,c,gc,e,_⟩:=F.r j r (cc _) h
  rw[oP gc,e]
 sub:=fun p a l h=>by
  obtain⟨i,n,ci,cn,κ,ks,j,pp,pw,rfl,rfl,gi,gn,eρ,hj,_⟩:=F.kid hq h (show a∈ku (.case a l) by simp[ku])
  intro hb
  have key:∀(b:Int),b∈bnd (roK κ (gv ks (i+ 1)))->∀a l,roK κ (gv ks (i+ 1))= .case a l->a<b:=by
   intro b hb a l e
   cases κ with
   |case l'=>
    cases ks with
    |nil=>cases e
    |cons t ts=>
     have e:Ro.case ((i+ 1:Nat):Int) ((l'.zip (gv ts (i+ 1+t.sz))).map fun q=>(q.1.1,q.1.2,(q.2:Int)))= .case a l:=e
     have hb:b∈(((l'.zip (gv ts (i+ 1+t.sz))).map fun q=>(q.1.1,q.1.2,(q.2:Int))).map fun x=>x.2.2):=hb
     rw[bg]at hb
     obtain⟨z,hz,rfl⟩:=bb.mp hb
     obtain⟨m,hm⟩:=bD.mp (aE hz).2
     have:=uQ hm
     have:=oO t
     cases e
     show((i+ 1:Nat):Int)<(z.2:Int)
     lia
   |num=>cases e
   |name=>cases e
   |row=>cases e
   |op=>cases e
   |rcd=>cases e
   |fn=>cases ks<;>cases e
   |tag=>cases ks<;>cases e
   |get=>cases ks<;>cases e
   |lt=>
    cases ks with
    |nil=>cases e
    |cons t ts=>cases ts<;>cases e
  rw[eρ]at hb
  exact absurd (key _ hb _ _ eρ.symm) (by lia)
end
open TM.Internal (Kn Tr gv szs)
def nS (s:Ls):Nat:=s.D.pts.length+s.D.mks.length+s.D.uss.length+s.D.fls.length
theorem oA (s:Ls) (p:Int):nS (s.pt p)=nS s+ 1:=by simp only[nS,Ls.pt,aN,aU];lia
theorem oW (s:Ls) (m:Mkg):nS (s.mk' m)=nS s+ 1:=by simp only[nS,Ls.mk',aN,aU];lia
theorem nE (s:Ls) (u:Us):nS (s.us u)=nS s+ 1:=by simp only[nS,Ls.us,aN,aU];lia
theorem uR (s:Ls) (p q:Int):nS (s.fl p q)=nS s+ 1:=by simp only[nS,Ls.fl,aN,aU];lia
theorem Ep (s:Ls) (p q:Int):nS (s.hold p q)=nS s:=rfl
theorem Er (s:Ls) (p q:Int):nS (s.begin p q)=nS s:=rfl
def Gr (s s':Ls):Prop:=(∀b,(∃v,s.held b=some v)->∃v,s'.held b=some v)/\∀b,(∃v,s.st b=some v)->∃v,s'.st b=some v
theorem Gr.refl (s:Ls):Gr s s:=⟨fun _ h=>h,fun _ h=>h⟩
theorem Gr.trans {a b c:Ls} (h:Gr a b) (k:Gr b c):Gr a c:=⟨fun x z=>k.1 x (h.1 x z),fun x z=>k.2 x (h.2 x z)⟩
theorem vL {g:Int->Option Int} {b:Int} (k x:Int) (h:∃v,g b=some v):∃v,put g k x b=some v:=by
 unfold put
 by_cases e:b=k
 ·exact⟨x,fY e⟩
 ·rw[fN e];exact h
theorem Gr.ho (s:Ls) (k v:Int):Gr s (s.hold k v):=⟨fun _ h=>vL k v h,fun _ h=>h⟩
theorem Gr.be (s:Ls) (k v:Int):Gr s (s.begin k v):=⟨fun _ h=>h,fun _ h=>vL k v h⟩
theorem Gr.eq {s s':Ls} (h:s'.held=s.held) (k:s'.st=s.st):Gr s s':=⟨fun _ z=>by rw[h];exact z,fun _ z=>by rw[k];exact z⟩
def HS (sc:Sc) (d:Nat) (s:Ls):Prop:=(∀b,Bi sc b->∃v,s.held b=some v)/\∃v,s.st (d:Int)=some v
theorem HS.gr {sc:Sc} {d:Nat} {s s':Ls} (h:HS sc d s) (g:Gr s s'):HS sc d s':=⟨fun b z=>g.1 b (h.1 b z),g.2 _ h.2⟩
theorem HS.eq {sc:Sc} {d:Nat} {s s':Ls} (h:HS sc d s) (a:s'.held=s.held) (k:s'.st=s.st):HS sc d s':=h.gr (Gr.eq a k)
theorem HS.bind {sc:Sc} {d:Nat} {s:Ls} (h:HS sc d s) (w k:Str) (n pp pw:Nat) (v:Int):HS (exS sc (some (w,k)) n pp pw) d (s.hold n v):=⟨fun b ⟨e,he,z,eb⟩=>by
 rcases ak.mp he with he|he
 ·exact(Gr.ho s n v).1 b (h.1 b ⟨e,he,z,eb⟩)
 ·have he:=aZ.mp he
  by_cases l:k="let"
  ·rw[fY l]at he
   rw[he]at z
   rcases z with z|z
   ·exact absurd z (ltn rfl).2.1
   ·exact absurd z (ltn rfl).2.2
  ·rw[fN l]at he
   rw[he]at eb
   exact⟨v,fY eb.symm⟩,h.2⟩
theorem HS.lt {sc:Sc} {d:Nat} {s:Ls} (h:HS sc d s) (w:Str) (n pp pw:Nat):HS (exS sc (some (w,"let")) n pp pw) d s:=⟨fun b ⟨e,he,z,eb⟩=>by
 rcases ak.mp he with he|he
 ·exact h.1 b ⟨e,he,z,eb⟩
 ·have he:=aZ.mp he
  rw[fY rfl]at he
  rw[he]at z
  rcases z with z|z
  ·exact absurd z (ltn rfl).2.1
  ·exact absurd z (ltn rfl).2.2,h.2⟩
section
variable {G:List Pc} {f d:Nat} {L:Lf}
def Kd1 (G:List Pc) (f d:Nat) (L:Lf):Prop:=∀t n sc s,Pl G t n sc d->wT t (val sc)<=f->HS sc d s->∃q s',L (n:Int) s=some (q,s')/\nS s'+ 2<=nS s+ 10*wT t (val sc)/\Gr s s'
variable (K:Kd1 G f d L)
include K
theorem Bj {sc:Sc}:∀{ts:List Tr} {l:List Str} {p pp pw:Nat} {acc:List (Str×Int)} {s:Ls},Pls G ts p pp pw [] sc d->wTs ts [] (val sc) pw<=f->HS sc d s->∃fs s',r9 L ((l.zip (gv ts p)).map fun q=>(q.1,(q.2:Int))) acc s=some (fs,s')/\nS s'<=nS s+ 10*wTs ts [] (val sc) pw/\Gr s s'
 |[],l,p,pp,pw,acc,s,_,_,_=>⟨acc,s,by cases l<;>rfl,by lia,Gr.refl _⟩
 |t::ts,[],p,pp,pw,acc,s,_,_,_=>⟨acc,s,rfl,by lia,Gr.refl _⟩
 |t::ts,w::l,p,pp,pw,acc,s,h,hw,hs=>by
  have ew:wTs (t::ts) [] (val sc) pw=wT t (val sc)+wTs ts [] (val sc) (wT t (val sc)):=by rw[wTs];rfl
  rw[ew]at hw⊢
  obtain⟨q,s1,h1,n1,g1⟩:=K t p sc s h.1 (by lia) hs
  obtain⟨fs,s2,h2,n2,g2⟩:=Bj (l:=l) (acc:=acc++[(w,q)]) h.2 (show wTs ts [] (val sc) (wT t (val sc))<=f by lia) (hs.gr g1)
  refine⟨fs,s2,?_,by have:nS s2<=nS s1+ 10*wTs ts [] (val sc) (wT t (val sc)):=n2;lia,g1.trans g2⟩
  show(match L (p:Int) s with|some (q,s)=>r9 L ((l.zip (gv ts (p+t.sz))).map fun q:Str×Nat=>(q.1,(q.2:Int))) (acc++[(w,q)]) s|none=>none)=_
  rw[h1]
  exact h2
theorem Bl {sc:Sc} {th:Int}:∀{ts:List Tr} {p pp pw:Nat} {s:Ls},Pls G ts p pp pw [] sc d->wTs ts [] (val sc) pw<=f->HS sc d s->∃s',tO L th ((gv ts p).map fun p:Nat=>(p:Int)) s=some s'/\nS s'<=nS s+ 10*wTs ts [] (val sc) pw/\Gr s s'
 |[],p,pp,pw,s,_,_,_=>⟨s,rfl,by lia,Gr.refl _⟩
 |t::ts,p,pp,pw,s,h,hw,hs=>by
  have ew:wTs (t::ts) [] (val sc) pw=wT t (val sc)+wTs ts [] (val sc) (wT t (val sc)):=by rw[wTs];rfl
  rw[ew]at hw⊢
  obtain⟨q,s1,h1,n1,g1⟩:=K t p sc s h.1 (by lia) hs
  obtain⟨s2,h2,n2,g2⟩:=Bl (th:=th) (s:=s1.fl q th) h.2 (show wTs ts [] (val sc) (wT t (val sc))<=f by lia) ((hs.gr g1).eq rfl rfl)
  have n2:nS s2<=nS (s1.fl q th)+ 10*wTs ts [] (val sc) (wT t (val sc)):=n2
  rw[uR]at n2
  refine⟨s2,?_,by lia,(g1.trans (Gr.eq rfl rfl)).trans g2⟩
  show(match L (p:Int) s with|some (q,s)=>tO L th ((gv ts (p+t.sz)).map fun p:Nat=>(p:Int)) (s.fl q th)|none=>none)=_
  rw[h1]
  exact h2
theorem Bm {sc:Sc} {p0 own:Int}:∀{ts:List Tr} {l:List (Str×Str)} {p pp pw:Nat} {acc:List (Str×Int)} {s:Ls},ts.length=l.length->Pls G ts p pp pw (l.map fun a=>some (a.2,"arm")) sc d->wTs ts (l.map fun a=>some (a.2,"arm")) (val sc) pw<=f->HS sc d s->∃fs s',ui L p0 own ((l.zip (gv ts p)).map fun q=>(q.1.1,q.1.2,(q.2:Int))) acc s=some (fs,s')/\nS s'<=nS s+ 10*wTs ts (l.map fun a=>some (a.2,"arm")) (val sc) pw/\Gr s s'
 |[],l,p,pp,pw,acc,s,_,_,_,_=>⟨acc,s,by cases l<;>rfl,by lia,Gr.refl _⟩
 |t::ts,[],p,pp,pw,acc,s,e,_,_,_=>by cases e
 |t::ts,w::l,p,pp,pw,acc,s,e,h,hw,hs=>by
  have ew:wTs (t::ts) ((w::l).map fun a=>some (a.2,"arm")) (val sc) pw=wT t (upE (val sc) (some (w.2,"arm")) pw)+wTs ts (l.map fun a=>some (a.2,"arm")) (val sc) (wT t (upE (val sc) (some (w.2,"arm")) pw)):=by rw[wTs];rfl
  rw[ew]at hw⊢
  have hh:Pl G t p (exS sc (some (w.2,"arm")) p pp pw) d:=h.1
  have K1:=K t p _ ((s.pt p0).hold p s.n) hh
  rw[yZ]at K1
  obtain⟨q,s1,h1,n1,g1⟩:=K1 (by lia) ((hs.eq (s':=s.pt p0) rfl rfl).bind w.2 "arm" p pp pw s.n)
  rw[Ep,oA]at n1
  have g1:=(Gr.eq (s':=s.pt p0) (s:=s) rfl rfl).trans ((Gr.ho (s.pt p0) p s.n).trans g1)
  obtain⟨fs,s2,h2,n2,g2⟩:=Bm (l:=l) (acc:=acc++[(w.1,s.n)]) (p0:=p0) (own:=own) (s:=s1.fl q own) (by simpa using e) h.2 (show wTs ts (l.map fun a=>some (a.2,"arm")) (val sc) (wT t (upE (val sc) (some (w.2,"arm")) pw))<=f by lia) ((hs.gr g1).eq rfl rfl)
  have n2:nS s2<=nS (s1.fl q own)+ 10*wTs ts (l.map fun a=>some (a.2,"arm")) (val sc) (wT t (upE (val sc) (some (w.2,"arm")) pw)):=n2
  rw[uR]at n2
  refine⟨fs,s2,?_,by lia,(g1.trans (Gr.eq rfl rfl)).trans g2⟩
  show(match L (p:Int) ((s.pt p0).hold p s.n)with|some (q,s')=>ui L p0 own ((l.zip (gv ts (p+t.sz))).map fun q:(Str×Str)×Nat=>(q.1.1,q.1.2,(q.2:Int))) (acc++[(w.1,s.n)]) (s'.fl q own)|none=>none)=_
  rw[h1]
  exact h2
end
open TM.Internal (Kn Tr gv szs)
section
variable {G:List Pc} {f d:Nat} {L:Lf}
theorem tW (κ:Kn) (ks:List Tr) (e:Str->Nat):wT (.mk κ ks) e=1+nmW κ e+wTs ks (exN κ) e 0:=by rw[wT]
theorem kQ (xs:List Ex) (e:Str->Nat) (pw:Nat):wTs [] xs e pw=0:=by rw[wTs]
theorem iY (t:Tr) (ts:List Tr) (xs:List Ex) (e:Str->Nat) (pw:Nat):wTs (t::ts) xs e pw=wT t (upE e (hdX xs) pw)+wTs ts xs.tail e (wT t (upE e (hdX xs) pw)):=by rw[wTs]
variable (K:Kd1 G f d L)
include K
theorem vM {sc:Sc} {a:Tr} {p pp pw:Nat} {s:Ls} (h:Pls G [a] p pp pw [] sc d) (hw:wTs [a] [] (val sc) pw<=f) (hs:HS sc d s):∃q s',L (p:Int) s=some (q,s')/\nS s'+ 2<=nS s+ 10*wTs [a] [] (val sc) pw/\Gr s s':=by
 rw[iY,kQ]at hw⊢
 exact K a p sc s h.1 hw hs
theorem rl {sc:Sc} {a b:Tr} {p pp pw:Nat} {s:Ls} (h:Pls G [a,b] p pp pw [] sc d) (hw:wTs [a,b] [] (val sc) pw<=f) (hs:HS sc d s):∃q s1 r s',L (p:Int) s=some (q,s1)/\L ((p+a.sz:Nat):Int) s1=some (r,s')/\nS s'+ 4<=nS s+ 10*wTs [a,b] [] (val sc) pw/\Gr s s':=by
 rw[iY]at hw⊢
 obtain⟨q,s1,h1,n1,g1⟩:=K a p sc s h.1 (by have:wT a (upE (val sc) none pw)=wT a (val sc):=rfl;change wT a (val sc)+_<=f at hw;lia) hs
 obtain⟨r,s2,h2,n2,g2⟩:=vM K (s:=s1) h.2 (by change wT a (val sc)+wTs [b] [] (val sc) (wT a (val sc))<=f at hw;change wTs [b] [] (val sc) (wT a (val sc))<=f;lia) (hs.gr g1)
 refine⟨q,s1,r,s2,h1,h2,?_,g1.trans g2⟩
 change _<=nS s+ 10*(wT a (val sc)+wTs [b] [] (val sc) (wT a (val sc)))
 change nS s2+ 2<=nS s1+ 10*wTs [b] [] (val sc) (wT a (val sc))at n2
 lia
theorem Aw {sc:Sc} {a b c:Tr} {p pp pw:Nat} {s:Ls} (h:Pls G [a,b,c] p pp pw [] sc d) (hw:wTs [a,b,c] [] (val sc) pw<=f) (hs:HS sc d s):∃q s1 r s2 u s',L (p:Int) s=some (q,s1)/\L ((p+a.sz:Nat):Int) s1=some (r,s2)/\L ((p+a.sz+b.sz:Nat):Int) s2=some (u,s')/\nS s'+ 6<=nS s+ 10*wTs [a,b,c] [] (val sc) pw/\Gr s s':=by
 rw[iY]at hw⊢
 obtain⟨q,s1,h1,n1,g1⟩:=K a p sc s h.1 (by change wT a (val sc)+_<=f at hw;lia) hs
 obtain⟨r,s2,u,s3,h2,h3,n2,g2⟩:=rl K (s:=s1) h.2 (by change wT a (val sc)+wTs [b,c] [] (val sc) (wT a (val sc))<=f at hw;change wTs [b,c] [] (val sc) (wT a (val sc))<=f;lia) (hs.gr g1)
 refine⟨q,s1,r,s2,u,s3,h1,h2,h3,?_,g1.trans g2⟩
 change _<=nS s+ 10*(wT a (val sc)+wTs [b,c] [] (val sc) (wT a (val sc)))
 change nS s3+ 4<=nS s1+ 10*wTs [b,c] [] (val sc) (wT a (val sc))at n2
 lia
theorem CJ {roots:List Nat} {h0:Option Hm} {κ:Kn} {ks:List Tr} {i:Nat} {sc:Sc} {own:Int} {s:Ls} {N:Str->Prop} (h:Pls G ks (i+ 1) 0 0 (exN κ) sc d) (ok:okK κ ks.length N) (hw:wTs ks (exN κ) (val sc) 0<=f) (hs:HS sc d s) (nn:∀w,κ≠ .name w):∃s',hV L roots h0 (i:Int) own s (roK κ (gv ks (i+ 1)))=some s'/\nS s'<=nS s+ 7+ 10*wTs ks (exN κ) (val sc) 0/\Gr s s':=by
 cases κ with
 |num n=>exact⟨_,rfl,by rw[oW];lia,Gr.eq rfl rfl⟩
 |name w=>exact absurd rfl (nn w)
 |fn w=>
  match ks,(show ks.length=1 from ok),h,hw with
  |[a],_,h,hw=>
   have ew:wTs [a] (exN (.fn w)) (val sc) 0=wT a (upE (val sc) (some (w,"fn")) 0):=by rw[iY,kQ];rfl
   rw[ew]at hw⊢
   have K1:=K a (i+ 1) _ ((s.pt i).hold ((i+ 1:Nat):Int) s.n) (show Pl G a (i+ 1) (exS sc (some (w,"fn")) (i+ 1) 0 0) d from h.1)
   rw[yZ]at K1
   obtain⟨q,s1,h1,n1,g1⟩:=K1 hw ((hs.eq (s':=s.pt i) rfl rfl).bind w "fn" (i+ 1) 0 0 s.n)
   rw[Ep,oA]at n1
   refine⟨s1.mk' ⟨"fn",.tup [kD s.n,kD q],own,i⟩,?_,by rw[oW];lia,((Gr.eq (s':=s.pt i) (s:=s) rfl rfl).trans ((Gr.ho (s.pt i) ((i+ 1:Nat):Int) s.n).trans g1)).trans (Gr.eq rfl rfl)⟩
   show hV L roots h0 (i:Int) own s (.fn w ((i+ 1:Nat):Int))=_
   simp only[hV,h1]
 |tag w=>
  match ks,(show ks.length=1 from ok),h,hw with
  |[a],_,h,hw=>
   obtain⟨q,s1,h1,n1,g1⟩:=vM K h hw hs
   have n1:nS s1+ 2<=nS s+ 10*wTs [a] (exN (.tag w)) (val sc) 0:=n1
   refine⟨s1.mk' ⟨"tag",.tup [sD w,kD q],own,i⟩,?_,by rw[oW];lia,g1.trans (Gr.eq rfl rfl)⟩
   show hV L roots h0 (i:Int) own s (.tag w ((i+ 1:Nat):Int))=_
   simp only[hV,h1]
 |get w=>
  match ks,(show ks.length=1 from ok),h,hw with
  |[a],_,h,hw=>
   obtain⟨q,s1,h1,n1,g1⟩:=vM K h hw hs
   have n1:nS s1+ 2<=nS s+ 10*wTs [a] (exN (.get w)) (val sc) 0:=n1
   refine⟨s1.us (.take q i 0 [(w,own)]),?_,by rw[nE];lia,g1.trans (Gr.eq rfl rfl)⟩
   show hV L roots h0 (i:Int) own s (.get ((i+ 1:Nat):Int) w)=_
   simp only[hV,h1]
 |lt w=>
  match ks,(show ks.length=2 from ok),h,hw with
  |[a,b],_,h,hw=>
   have ew:wTs [a,b] (exN (.lt w)) (val sc) 0=wT a (val sc)+wT b (upE (val sc) (some (w,"let")) (wT a (val sc))):=by rw[iY,iY,kQ];rfl
   rw[ew]at hw⊢
   obtain⟨x,s1,h1,n1,g1⟩:=K a (i+ 1) sc s h.1 (by lia) hs
   have K1:=K b (i+ 1+a.sz) _ s1 (show Pl G b (i+ 1+a.sz) (exS sc (some (w,"let")) (i+ 1+a.sz) (i+ 1) (wT a (val sc))) d from h.2.1)
   rw[yZ]at K1
   obtain⟨q,s2,h2,n2,g2⟩:=K1 (by lia) ((hs.gr g1).lt w _ _ _)
   refine⟨s2.fl q own,?_,by rw[uR];lia,(g1.trans g2).trans (Gr.eq rfl rfl)⟩
   show hV L roots h0 (i:Int) own s (.lt w ((i+ 1:Nat):Int) ((i+ 1+a.sz:Nat):Int))=_
   simp only[hV,h1,h2]
 |rcd l=>
  obtain⟨fs,s1,h1,n1,g1⟩:=Bj K (l:=l) (acc:=[]) h hw hs
  have n1:nS s1<=nS s+ 10*wTs ks (exN (.rcd l)) (val sc) 0:=n1
  refine⟨s1.mk' ⟨"rec",prD fs,own,i⟩,?_,by rw[oW];lia,g1.trans (Gr.eq rfl rfl)⟩
  show hV L roots h0 (i:Int) own s (.rcd _)=_
  simp only[hV,h1]
 |row m=>
  obtain⟨s1,h1,n1,g1⟩:=Bl K (th:=s.n) (s:=s.pt i) h hw (hs.eq rfl rfl)
  have n1:nS s1<=nS (s.pt i)+ 10*wTs ks (exN (.row m)) (val sc) 0:=n1
  rw[oA]at n1
  refine⟨s1.mk' (mkR s.n own i),?_,by rw[oW];lia,(Gr.eq (s':=s.pt i) (s:=s) rfl rfl).trans (g1.trans (Gr.eq rfl rfl))⟩
  show hV L roots h0 (i:Int) own s (.row _)=_
  simp only[hV,h1]
 |case l=>
  match ks,ok,h,hw with
  |[],ok,_,_=>exact absurd ok.1 (by simp)
  |a::bs,ok,h,hw=>
   have lb:bs.length=l.length:=by have:=ok.1;simpa using this
   have ew:wTs (a::bs) (exN (.case l)) (val sc) 0=wT a (val sc)+wTs bs (l.map fun a=>some (a.2,"arm")) (val sc) (wT a (val sc)):=by rw[iY];rfl
   rw[ew]at hw⊢
   obtain⟨x,s1,h1,n1,g1⟩:=K a (i+ 1) sc s h.1 (by lia) hs
   obtain⟨fs,s2,h2,n2,g2⟩:=Bm K (l:=l) (acc:=[]) (p0:=(i:Int)) (own:=own) (s:=s1) (pw:=wT a (val sc)) lb h.2 (by lia) (hs.gr g1)
   refine⟨s2.us (.case x i 0 fs),?_,by rw[nE];lia,(g1.trans g2).trans (Gr.eq rfl rfl)⟩
   show hV L roots h0 (i:Int) own s (.case ((i+ 1:Nat):Int) _)=_
   simp only[hV,h1,h2]
 |op o m=>
  obtain⟨lk,ho⟩:ks.length=m/\(o,m)∈TM.Internal.ops:=ok
  have ex:exN (.op o m)=[]:=rfl
  rw[ex]at h hw⊢
  have gp:Gr s (s.pt i):=Gr.eq rfl rfl
  have hsp:HS sc d (s.pt i):=hs.eq rfl rfl
  simp only[TM.Internal.ops,aj,Prod.mk.injEq,bj,or_false]at ho
  rcases ho with⟨rfl,rfl⟩|⟨rfl,rfl⟩|⟨rfl,rfl⟩|⟨rfl,rfl⟩|⟨rfl,rfl⟩|⟨rfl,rfl⟩|⟨rfl,rfl⟩
  ·match ks,lk,h,hw with
   |[a,b],_,h,hw=>
    obtain⟨x,s1,y,s2,h1,h2,n2,g2⟩:=rl K h hw hs
    exact⟨s2.us (.call x i 0 y own),(by show hV L roots h0 (i:Int) own s (.op "call" [((i+ 1:Nat):Int),((i+ 1+a.sz:Nat):Int)])=_;unfold hV;dsimp only;rw[fY rfl];simp only[h1,h2]),by rw[nE];lia,g2.trans (Gr.eq rfl rfl)⟩
  ·match ks,lk,h,hw with
   |[a,b,c],_,h,hw=>
    obtain⟨x,s1,y,s2,z,s3,h1,h2,h3,n2,g2⟩:=Aw K h hw hs
    exact⟨((s3.us (.row x i 0 own)).us (.num y i 1)).fl z own,(by show hV L roots h0 (i:Int) own s (.op "at" [((i+ 1:Nat):Int),((i+ 1+a.sz:Nat):Int),((i+ 1+a.sz+b.sz:Nat):Int)])=_;unfold hV;dsimp only;rw[fY rfl];simp only[h1,h2,h3]),by rw[uR,nE,nE];lia,g2.trans (Gr.eq rfl rfl)⟩
  ·match ks,lk,h,hw with
   |[a,b],_,h,hw=>
    obtain⟨x,s1,y,s2,h1,h2,n2,g2⟩:=rl K h hw hsp
    rw[oA]at n2
    exact⟨((s2.us (.row x i 0 s.n)).us (.row y i 1 s.n)).mk' (mkR s.n own i),(by show hV L roots h0 (i:Int) own s (.op "join" [((i+ 1:Nat):Int),((i+ 1+a.sz:Nat):Int)])=_;unfold hV;dsimp only;rw[fN fS,fY rfl];simp only[h1,h2]),by rw[oW,nE,nE];lia,gp.trans (g2.trans (Gr.eq rfl rfl))⟩
  ·match ks,lk,h,hw with
   |[a],_,h,hw=>
    obtain⟨x,s1,h1,n2,g2⟩:=vM K h hw hsp
    rw[oA]at n2
    exact⟨(s1.us (.row x i 0 s.n)).mk' (mkN own i),(by show hV L roots h0 (i:Int) own s (.op "size" [((i+ 1:Nat):Int)])=_;unfold hV;dsimp only;rw[fY rfl];simp only[h1]),by rw[oW,nE];lia,gp.trans (g2.trans (Gr.eq rfl rfl))⟩
  ·match ks,lk,h,hw with
   |[a,b],_,h,hw=>
    obtain⟨x,s1,y,s2,h1,h2,n2,g2⟩:=rl K h hw hs
    exact⟨((s2.us (.num x i 0)).us (.num y i 1)).mk' (mkN own i),(by show hV L roots h0 (i:Int) own s (.op "add" [((i+ 1:Nat):Int),((i+ 1+a.sz:Nat):Int)])=_;unfold hV;dsimp only;rw[fN fS,fN fS,fN fS,fY (.inl rfl)];simp only[jM,h1,h2]),by rw[oW,nE,nE];lia,g2.trans (Gr.eq rfl rfl)⟩
  ·match ks,lk,h,hw with
   |[a,b],_,h,hw=>
    obtain⟨x,s1,y,s2,h1,h2,n2,g2⟩:=rl K h hw hs
    exact⟨((s2.us (.num x i 0)).us (.num y i 1)).mk' (mkN own i),(by show hV L roots h0 (i:Int) own s (.op "sub" [((i+ 1:Nat):Int),((i+ 1+a.sz:Nat):Int)])=_;unfold hV;dsimp only;rw[fN fS,fN fS,fN fS,fY (.inr rfl)];simp only[jM,h1,h2]),by rw[oW,nE,nE];lia,g2.trans (Gr.eq rfl rfl)⟩
  ·match ks,lk,h,hw with
   |[a,b],_,h,hw=>
    obtain⟨x,s1,y,s2,h1,h2,n2,g2⟩:=rl K h hw hsp
    rw[oA]at n2
    exact⟨((((s2.us (.num x i 0)).us (.num y i 1)).mk' ⟨"rec",.tup [],s.n,i⟩).mk' ⟨"tag",.tup [sD "yes",kD s.n],own,i⟩).mk' ⟨"tag",.tup [sD "no",kD s.n],own,i⟩,(by show hV L roots h0 (i:Int) own s (.op "less" [((i+ 1:Nat):Int),((i+ 1+a.sz:Nat):Int)])=_;unfold hV;dsimp only;rw[fN fS,fN fS,fY rfl];simp only[jM,h1,h2]),by rw[oW,oW,oW,nE,nE];lia,gp.trans (g2.trans (Gr.eq rfl rfl))⟩
end
theorem Bn {G:List Pc} {roots:List Nat} {q:Nat} {ts:List Tr} (er:roots=gv ts 0) (F:FtD G roots 0 0 q) (hq:q=G.length):∀(f:Nat) (i:Nat) (c:Pc) (s:Ls),G[i]?=some c->c.wt<=f->HS c.sc c.df s->∃r s',iE (G.map Pc.ρ) roots (hoG G) f (i:Int) s=some (r,s')/\nS s'+ 2<=nS s+ 10*c.wt/\Gr s s'
 |0,i,c,s,hc,hw,_=>by
  obtain⟨⟨⟨κ,ks⟩,_,_,e,_⟩,_⟩:=(F.at hq hc).1
  rw[tW]at e
  lia
 |f+ 1,i,c,s,hc,hw,hs=>by
  have IH:=Bn er F hq f
  obtain⟨ft,_,li,ra,rb⟩:=F.at hq hc
  obtain⟨⟨κ,ks⟩,pl,_,e,ok⟩:=ft.t
  rw[tW]at e
  have p1:=pl.1
  rw[hc]at p1
  have eρ:c.ρ=roK κ (gv ks (i+ 1)):=by rw[cx.inj p1]
  have ez:atZ (G.map Pc.ρ) (i:Int)=some c.ρ:=by show(G.map Pc.ρ)[i]?=_;rw[aJ,hc];rfl
  have key:∃s',hV (iE (G.map Pc.ρ) roots (hoG G) f) roots (hoG G i) (i:Int) s.n (s.pt i) c.ρ=some s'/\nS s'+ 2<=nS s+ 10*c.wt/\Gr s s':=by
   have K:Kd1 G f c.df (iE (G.map Pc.ρ) roots (hoG G) f):=fun t n sc s h w z=>by
    obtain⟨ρ,g⟩:=h.at
    exact IH n _ s g w z
   by_cases nn:∃w,κ= .name w
   ·obtain⟨w,rfl⟩:=nn
    have eρ:c.ρ= .name w:=eρ
    obtain⟨x,hx⟩:Nm c.sc w:=ok.1.2
    have eh:hoG G i=some x.h:=by unfold hoG;rw[hc];show hoC c=_;unfold hoC;rw[eρ];dsimp only;rw[hx];rfl
    have ev:nmW (.name w) (val c.sc)=x.v:=by show val c.sc w=_;unfold val;rw[hx]
    rw[ev]at e
    have xm:=(yY hx).1
    have hsp:HS c.sc c.df (s.pt i):=hs.eq rfl rfl
    have m:∃r s',ia (iE (G.map Pc.ρ) roots (hoG G) f) roots x.h (i:Int) (s.pt i)=some (r,s')/\nS s'<=nS s+ 3+ 10*x.v/\Gr s s':=by
     unfold ia
     rcases ft.s x xm with⟨z,a,ca,e2,ga,l1,l2,l3,l4,l5⟩|⟨z,j,ej,lj,hj⟩|⟨z,a,ca,e2,_⟩
     ·rw[fY z,e2]
      obtain⟨r,s',h1,n1,g1⟩:=IH a ca (s.pt i) ga (by lia) ⟨fun b hb=>hsp.1 b (l5 b hb),by rw[l3];exact hsp.2⟩
      rw[oA]at n1
      exact⟨r,s',h1,by lia,(Gr.eq (s':=s.pt i) (s:=s) rfl rfl).trans g1⟩
     ·rw[fN (dfn z).1,fY z,ej]
      by_cases y:j=c.df
      ·rw[fY ((sk er li ra rb lj).mpr y),y]
       obtain⟨v,hv⟩:=hsp.2
       rw[hv]
       exact⟨v,s.pt i,rfl,by rw[oA];lia,Gr.eq rfl rfl⟩
      ·rw[fN (fun u=>y ((sk er li ra rb lj).mp u))]
       obtain⟨r,cr,r1,r2,r3,r4,r5,r6,r7⟩:=hj (by lia)
       obtain⟨u,s',h1,n1,g1⟩:=IH r cr (((s.pt i).pt r).begin j (s.pt i).n) r2 (by lia) ⟨fun b hb=>absurd hb (r7 b),(s.pt i).n,by rw[r3];exact fY rfl⟩
       rw[Er,oA,oA]at n1
       refine⟨(s.pt i).n,s'.fl u (s.pt i).n,?_,by rw[uR];lia,?_⟩
       ·unfold qv
        rw[show atZ roots (j:Int)=roots[j]? from rfl,r1]
        dsimp only
        rw[h1]
       ·exact(Gr.eq (s':=(s.pt i).pt r) (s:=s) rfl rfl).trans ((Gr.be _ j (s.pt i).n).trans (g1.trans (Gr.eq rfl rfl)))
     ·have z1:x.h.1≠"let":=fun u=>by rcases z with z|z;exact(ltn u).2.1 z;exact(ltn u).2.2 z
      have z2:x.h.1≠"def":=fun u=>by rcases z with z|z;exact(dfn u).2.1 z;exact(dfn u).2.2 z
      rw[fN z1,fN z2]
      obtain⟨v,hv⟩:=hsp.1 x.h.2 ⟨x,xm,z,rfl⟩
      rw[hv]
      exact⟨v,s.pt i,rfl,by rw[oA];lia,Gr.eq rfl rfl⟩
    obtain⟨r,s',h1,n1,g1⟩:=m
    refine⟨s'.fl r s.n,?_,by rw[uR];lia,g1.trans (Gr.eq rfl rfl)⟩
    rw[eρ,eh]
    simp only[hV,h1]
   ·have e0:nmW κ (val c.sc)=0:=by
     cases κ with
     |name w=>exact absurd ⟨w,rfl⟩ nn
     |_=>rfl
    obtain⟨s',h1,n1,g1⟩:=CJ (own:=s.n) (s:=s.pt i) (roots:=roots) (h0:=hoG G i) K pl.2 ok.1 (by lia) (hs.eq rfl rfl) (fun w h=>nn ⟨w,h⟩)
    rw[oA]at n1
    exact⟨s',by rw[eρ];exact h1,by lia,(Gr.eq (s':=s.pt i) (s:=s) rfl rfl).trans g1⟩
  obtain⟨s',h1,n1,g1⟩:=key
  refine⟨s.n,s',?_,n1,g1⟩
  unfold iE
  rw[ez]
  dsimp only
  rw[show((i:Int)).toNat=i from rfl,h1]
open TM.Internal (Kn Tr gv szs)
def wsD:Kn->List Dt
 | .num n=>[kD n]
 | .name w=>[sD w]
 | .fn w=>[sD w]
 | .tag w=>[sD w]
 | .lt w=>[sD w]
 | .get w=>[sD w]
 | .rcd l=>l.map sD
 | .case l=>l.flatMap fun a=>[sD a.1,sD a.2]
 |_=>[]
mutual
def ndD:Tr->Dt
 | .mk κ ks=> .tup [sD κ.s,.tup (wsD κ),.tup (Ax ks)]
def Ax:List Tr->List Dt
 |[]=>[]
 |t::ts=>ndD t::Ax ts
end
theorem y8:∀{ts:List Tr} {k:Nat} {d:Dt},(Ax ts)[k]?=some d->∃t,ts[k]?=some t/\d=ndD t
 |[],_,_,h=>by cases h
 |t::ts,0,d,h=>by cases h;exact⟨t,rfl,rfl⟩
 |t::ts,k+ 1,d,h=>y8 (ts:=ts) (k:=k) h
theorem sq:∀ts:List Tr,(Ax ts).length=ts.length
 |[]=>rfl
 |t::ts=>by rw[Ax,ay,sq ts,ay]
def enD (e:En):Dt:= .tup [sD e.w,hmD e.h]
theorem tX {H:Hp} {x:V} {κ:Kn} {ks:List Tr} (h:Im H x (ndD (.mk κ ks))):∃a b c xs ys,x= .ref a/\H a=some (.tup [.str κ.s,.ref b,.ref c])/\H b=some (.tup xs)/\Ims H xs (wsD κ)/\H c=some (.tup ys)/\Ims H ys (Ax ks):=by
 rw[ndD]at h
 obtain⟨a,zs,rfl,e,i⟩:=qm h
 obtain⟨x,y,z,rfl,i1,i2,i3⟩:=E7 i
 cases kX i1
 obtain⟨b,xs,rfl,eb,ib⟩:=qm i2
 obtain⟨c,ys,rfl,ec,ic⟩:=qm i3
 exact⟨a,b,c,xs,ys,rfl,e,eb,ib,ec,ic⟩
theorem Gv {H:Hp} {xs:List V} {sc:Sc} {i:Nat} {v:V} (h:Ims H xs (sc.map enD)) (e:xs[i]?=some v):∃p t y,sc[i]?=some p/\v= .ref t/\H t=some (.tup [.str p.w,y])/\Im H y (hmD p.h):=by
 obtain⟨d,e1,e2⟩:=jx h e
 rw[aJ]at e1
 obtain⟨p,hp,rfl⟩:=cB.mp e1
 obtain⟨t,y,z,rfl,et,i1,i2⟩:=uI e2
 cases kX i1
 exact⟨p,t,z,hp,rfl,et,i2⟩
inductive XHo (vs:List V) (H:Hp) (Q:VK):Prop
 |mk (l:Addr) (w:Str) (xs:List V) (sc:Sc) (e:vs=[.ref l,.str w]) (hl:H l=some (.lst xs)) (i:Ims H xs (sc.map enD)) (q:∀v,Im H v (hoD ((lkE sc w).map En.h))->Q v H)
def Es:Sp:=fun vs H Q _=>XHo vs H Q
theorem vN {sc:Sc} {i:Nat} {p:En} {w:Str} (h:sc[i]?=some p):lkE (sc.take (i+ 1)) w=if p.w=w then some p else lkE (sc.take i) w:=by
 rw[bM,h]
 exact kP _ _ _
def exL (x:Ex) (p pp pw:Nat):List En:=match x with
 |none=>[]
 |some (w,k)=>[if k="let" then⟨w,("let",(pp:Int)),pw⟩else⟨w,(k,(p:Int)),0⟩]
theorem CK (sc:Sc) (x:Ex) (p pp pw:Nat):exS sc x p pp pw=sc++exL x p pp pw:=by
 cases x with
 |none=>exact(aC _).symm
 |some z=>rfl
inductive XSc (vs:List V) (H:Hp) (Q:VK):Prop
 |mk (n:V) (κ:Kn) (ks:List Tr) (k:Nat) (l:Addr) (ps:List Nat) (p pp pw:Nat) (N:Str->Prop) (e:vs=[n,.int (k:Int),.ref l]) (i:Im H n (ndD (.mk κ ks))) (hk:k<ks.length) (ok:okK κ ks.length N) (hl:H l=some (.lst (ps.map nI))) (hp:ps[k]?=some p) (hpp:∀j,j+ 1=k->ps[j]?=some pp) (q:∀H' a xs,fC H H'->H' a=some (.lst xs)->H a=none->Ims H' xs ((exL ((exN κ)[k]?.getD none) p pp pw).map enD)->Q (.ref a) H')
def Gw:Sp:=fun vs H Q _=>XSc vs H Q
theorem sr:∀{l:List (Str×Str)} {k:Nat} {a:Str×Str},l[k]?=some a->(l.flatMap fun a=>[sD a.1,sD a.2])[2*k]?=some (sD a.1)/\(l.flatMap fun a=>[sD a.1,sD a.2])[2*k+ 1]?=some (sD a.2)
 |[],_,_,h=>by cases h
 |b::l,0,a,h=>by cases h;exact⟨rfl,rfl⟩
 |b::l,k+ 1,a,h=>by
  have:=sr (l:=l) (k:=k) h
  rw[List.flatMap_cons]
  exact⟨by rw[show 2*(k+ 1)=2*k+ 1+ 1 by lia];exact this.1,by rw[show 2*(k+ 1)+ 1=2*k+ 1+ 1+ 1 by lia];exact this.2⟩
theorem tY {H:Hp} {xs:List V} {ds:List Dt} {j:Nat} {d:Dt} (h:Ims H xs ds) (e:ds[j]?=some d):∃x,xs[j]?=some x/\Im H x d:=by
 have l:=h.length
 have lj:=(aq.mp e).1
 have ex:xs[j]?=some (xs[j]'(by lia)):=ba (by lia)
 obtain⟨d',e1,e2⟩:=jx h ex
 rw[e]at e1
 cases e1
 exact⟨_,ex,e2⟩
theorem Gx {κ:Kn} {n:Nat} {N:Str->Prop} (ok:okK κ n N):(κ.s="fn"->∃w,κ= .fn w)/\(κ.s="let"->∃w,κ= .lt w)/\(κ.s="case"->∃l,κ= .case l)/\(κ.s="name"->∃w,κ= .name w)/\(κ.s="get"->∃w,κ= .get w)/\(κ.s="rec"->∃l,κ= .rcd l)/\(κ.s="row"->∃m,κ= .row m):=by
 cases κ with
 |op o m=>
  have ho:(o,m)∈TM.Internal.ops:=ok.2
  simp only[TM.Internal.ops,aj,Prod.mk.injEq,bj,or_false]at ho
  simp only[Kn.s]
  rcases ho with⟨rfl,rfl⟩|⟨rfl,rfl⟩|⟨rfl,rfl⟩|⟨rfl,rfl⟩|⟨rfl,rfl⟩|⟨rfl,rfl⟩|⟨rfl,rfl⟩<;>refine⟨fun h=>?_,fun h=>?_,fun h=>?_,fun h=>?_,fun h=>?_,fun h=>?_,fun h=>?_⟩<;>exact absurd h fS
 |_=>
  simp only[Kn.s]
  refine⟨fun h=>?_,fun h=>?_,fun h=>?_,fun h=>?_,fun h=>?_,fun h=>?_,fun h=>?_⟩<;>first
   |exact⟨_,rfl⟩
   |exact absurd h fS
theorem y9 {i:Nat} {x s:Str} {t:Addr} {ys:List V} {σ:St} {H:Hp} {c:TT} {T u:TS} {D:nH} (hσ:σ[i]?=some (some (.ref t))) (et:H t=some (.tup (.str s::ys))) (e:decide (s=x)=false) (h:u D σ H):ve (Dv (hdT i x) c) T u D σ H:=vH hσ et e (jo (jo h))
theorem za {i:Nat} {x s:Str} {t:Addr} {ys:List V} {σ:St} {H:Hp} {c:TT} {T u:TS} {D:nH} (hσ:σ[i]?=some (some (.ref t))) (et:H t=some (.tup (.str s::ys))) (e:decide (s=x)=true) (h:ve c T u D σ H):ve (Dv (hdT i x) c) T u D σ H:=vH hσ et e (jL h)
theorem rm {i:Nat} {n m:Int} {σ:St} {H:Hp} {T u:TS} {D:nH} (hσ:σ[i]?=some (some (.int n))) (e:n=m) (h:T D σ H):ve (cT (tOp (cEq false) (cV i) (tC (.int m)))) T u D σ H:=by
 show onV σ[i]? _
 rw[hσ]
 show if(false ^^ decide (n=m))=true then _ else _
 rw[gQ e]
 exact jL h
theorem rp {i:Nat} {n m:Int} {σ:St} {H:Hp} {T u:TS} {D:nH} (hσ:σ[i]?=some (some (.int n))) (e:n≠m) (h:u D σ H):ve (cT (tOp (cEq false) (cV i) (tC (.int m)))) T u D σ H:=by
 show onV σ[i]? _
 rw[hσ]
 show if(false ^^ decide (n=m))=true then _ else _
 rw[gA e]
 exact jo h
theorem ifG {i:Nat} {n m:Int} {σ:St} {H:Hp} {T u:TS} {D:nH} (hσ:σ[i]?=some (some (.int n))) (h:if m<n then T D σ H else u D σ H):ve (cT (tOp (cI0 fun i j=> .bl (decide (j<i))) (cV i) (tC (.int m)))) T u D σ H:=by
 show onV σ[i]? _
 rw[hσ]
 show if decide (m<n)=true then _ else _
 by_cases e:m<n
 ·rw[gQ e];rw[fY e]at h;exact jL h
 ·rw[gA e];rw[fN e]at h;exact jo h
theorem tZ (T:Txt K mg):FO P w base 1 T.d42 Es:=by
 refine T.d42.F.ok jR (fun vs H Q E h=>?_) (fun cdv A0 outer s0 H vs Q E hr h=>?_)
 ·obtain⟨l,w,xs,sc,rfl,_⟩:=h
  rfl
 obtain⟨l,w',xs,sc,rfl,hl,i,q⟩:=h
 refine⟨_,(eQ (pS (i:=2) jR.nd xr)
  (eQ (jP PassesOwn.never rfl (iA (cv 0)) (pN (i:=3) jR.nd)
   (eV (gB (fA jv (eZ fh (cv 3) eR) (cv 1))
    (eV (pS (i:=2) jR.nd (eZ fh (cv 3) eR)))
    fF)))
  (eV (fu (cv 2))))),?_⟩
 dsimp only[fK]
 have lx:=i.length
 rw[aB]at lx
 refine⟨l,rfl,⟨_,SqL.of hl⟩,rF (xs:=xs) (fun k σ H2=>X2 fun(v:V) (o3:Option V)=>Y3 (σ=[some (.ref l),some (.str w'),some v,o3]) (H2=H) (Im H v (hoD ((lkE (sc.take k) w').map En.h))))
  ⟨.non,none,rfl,rfl,.flat rfl⟩ (fun k σ H2 _ ⟨_,_,_,e,_⟩=>SqL.of (by rw[e];exact hl)) ?_ ?_⟩
 ·rintro k x σ H2 hx ⟨v,o3,rfl,rfl,iv⟩
  obtain⟨p,t,y,hp,rfl,et,iy⟩:=Gv i hx
  dsimp only[fK]
  refine⟨_,et,eX (eU (j:=0) rfl) ?_⟩
  show if(false ^^ decide (p.w=w'))=true then _ else _
  rw[dW]
  by_cases e:p.w=w'
  ·rw[gQ e]
   refine jL ⟨_,et,eX (eU (j:=1) rfl) ⟨y,_,rfl,rfl,?_⟩⟩
   rw[vN hp,fY e]
   exact iy
  ·rw[gA e]
   refine jo ⟨v,_,rfl,rfl,?_⟩
   rw[vN hp,fN e]
   exact iv
 ·rintro σ H2 ⟨v,o3,rfl,rfl,iv⟩
  rw[lx,bE]at iv
  exact q v iv
theorem qN (T:Txt K mg):FO P w base 1 T.d41 Gw:=by
 refine T.d41.F.ok qD (fun vs H Q E h=>?_) (fun cdv A0 outer s0 H vs Q E hr h=>?_)
 ·obtain⟨n,κ,ks,k,l,ps,p,pp,pw,N,rfl,_⟩:=h
  rfl
 obtain⟨n,κ,ks,k,l,ps,p,pp,pw,N,rfl,i,hk,ok,hl,hp,hpp,q⟩:=h
 refine⟨_,(eQ (gB (fA jv (eZ fh (cv 0) eR) fD)
   (eV (fu (fG (eN (fz (eN (eZ fh (eZ fh (cv 0) eR) eR) (eN (fz (eN fD (eN (eZ fc (cv 2) eR) eP))) eP))) eP))))
   fF)
  (eQ (gB (PW.pt (oE (fA jv (eZ fh (cv 0) eR) fD) (nJ (fA jv (cv 1) eR))))
   (eV (fu (fG (eN (fz (eN (eZ fh (eZ fh (cv 0) eR) eR) (eN (fz (eN fD (eN (eZ fc (cv 2) eR) eP))) eP))) eP))))
   fF)
  (eQ (gB (PW.pt (oE (fA jv (eZ fh (cv 0) eR) fD) (nJ (fA wH (cv 1) eR))))
   (eV (fu (fG (eN (fz (eN (eZ fh (eZ fh (cv 0) eR) (fq pL (fq pM eR (cv 1)) eR)) (eN (fz (eN fD (eN (eZ fc (cv 2) (cv 1)) eP))) eP))) eP))))
   fF)
  (eV (fu (fG eP)))))),?_⟩
 obtain⟨a,b,c,xs,ys,rfl,ea,eb,ib,ec,ic⟩:=tX i
 have er:∀{j m:Nat},ps[j]?=some m->(ps.map nI)[j]?=some (.int (m:Int)):=fun h=>by rw[aJ,h];rfl
 have nn:∀{H2:Hp} {a:Addr},fC H H2->H2 a=none->H a=none:=fun{H2 a} S h=>by cases z:H a with|none=>rfl|some u=>rw[S _ _ z]at h;cases h
 have fin2:∀{H2:Hp} {a:Addr} {v:V},fC H H2->H2 a=none->Ims H2 [v] ((exL ((exN κ)[k]?.getD none) p pp pw).map enD)->Q (.ref a) (L2.Internal.upd H2 a (.lst [v])):=fun{H2 a v} S h i=>q _ a [v] (S.trans (eS h _)) eO (nn S h) (i.mono (fC.tk (eS h _)))
 have fin:∀{H2:Hp} {a:Addr},fC H H2->H2 a=none->exL ((exN κ)[k]?.getD none) p pp pw=[]->Q (.ref a) (L2.Internal.upd H2 a (.lst [])):=fun{H2 a} S h e=>q _ a [] (S.trans (eS h _)) eO (by cases z:H a with|none=>rfl|some u=>rw[S _ _ z]at h;cases h) (by rw[e];exact .nil)
 obtain⟨k1,k2,k3,_⟩:=Gx ok
 by_cases e1:κ.s="fn"
 ·obtain⟨w0,rfl⟩:=k1 e1
  have hk0:k=0:=by have:ks.length=1:=ok;lia
  subst hk0
  obtain⟨x,rfl,ix⟩:=A8 ib
  cases kX ix
  refine oN (i:=0) (x:="fn") (s:="fn") rfl ea fS ?_
  refine⟨_,ea,eX (eU (j:=1) rfl) ⟨_,eb,eX (eU (j:=0) rfl) ⟨_,hl,eX (eU (er hp)) ⟨lQ,fun t1 h1=>⟨lQ,fun t2 h2=>⟨lY,fun t3 h3=>?_⟩⟩⟩⟩⟩⟩
  have S1:=eS h1 (.tup [.str "fn",.int (p:Int)])
  have S2:=eS h2 (.tup [.str w0,.ref t1])
  exact fin2 (S1.trans S2) h3 (.cons (ip h2 (.cons (.flat rfl) (.cons (ip h1 (.cons (.flat rfl) (.cons (.flat rfl) .nil))) .nil))) .nil)
 refine oM (i:=0) (x:="fn") (s:=κ.s) rfl ea (gA e1) ?_
 dsimp only[ju]
 by_cases e2:κ.s="let"
 ·obtain⟨w0,rfl⟩:=k2 e2
  have lk:ks.length=2:=ok
  obtain⟨x,rfl,ix⟩:=A8 ib
  cases kX ix
  by_cases hk0:k=1
  ·subst hk0
   refine za (i:=0) (x:="let") (s:="let") rfl ea fS ?_
   refine rm (i:=1) (n:=((1:Nat):Int)) rfl rfl ?_
   refine⟨_,ea,eX (eU (j:=1) rfl) ⟨_,eb,eX (eU (j:=0) rfl) ⟨_,hl,eX (eU (er (hpp 0 rfl))) ⟨lQ,fun t1 h1=>⟨lQ,fun t2 h2=>⟨lY,fun t3 h3=>?_⟩⟩⟩⟩⟩⟩
   have S1:=eS h1 (.tup [.str "let",.int (pp:Int)])
   have S2:=eS h2 (.tup [.str w0,.ref t1])
   exact fin2 (S1.trans S2) h3 (.cons (ip h2 (.cons (.flat rfl) (.cons (ip h1 (.cons (.flat rfl) (.cons (.flat rfl) .nil))) .nil))) .nil)
  ·have hk0:k=0:=by lia
   subst hk0
   refine za (i:=0) (x:="let") (s:="let") rfl ea fS ?_
   refine rp (i:=1) (n:=((0:Nat):Int)) rfl (by decide) ?_
   dsimp only[ju]
   refine y9 (i:=0) (x:="case") (s:="let") rfl ea fS ?_
   exact⟨mh,fun t1 h1=>fin (fun _ _ e=>e) h1 rfl⟩
 refine y9 (i:=0) (x:="let") (s:=κ.s) rfl ea (gA e2) ?_
 dsimp only[ju]
 by_cases e3:κ.s="case"
 ·obtain⟨l0,rfl⟩:=k3 e3
  obtain⟨lk,lk2⟩:ks.length=l0.length+ 1/\l0.length<=10:=ok
  refine za (i:=0) (x:="case") (s:="case") rfl ea fS ?_
  refine ifG (i:=1) (n:=(k:Int)) rfl ?_
  cases k with
  |zero=>
   rw[fN (by decide)]
   exact⟨mh,fun t1 h1=>fin (fun _ _ e=>e) h1 rfl⟩
  |succ j=>
   rw[fY (by lia)]
   have hj:l0[j]?=some (l0[j]'(by lia)):=ba (by lia)
   obtain⟨x,ex,ix⟩:=tY ib (sr hj).2
   cases kX ix
   have e5:(2*((j+ 1:Nat):Int)-1)=((2*j+ 1:Nat):Int):=by lia
   refine⟨_,ea,eX (eU (j:=1) rfl) ⟨.inl ⟨by decide,by decide⟩,_,eb,eX (show atI xs (2*((j+ 1:Nat):Int)-1)=_ by rw[e5];exact eU ex) ⟨_,hl,eX (eU (er hp)) ⟨lQ,fun t1 h1=>⟨lQ,fun t2 h2=>⟨lY,fun t3 h3=>?_⟩⟩⟩⟩⟩⟩
   have S1:=eS h1 (.tup [.str "arm",.int (p:Int)])
   have S2:=eS h2 (.tup [.str (l0[j]'(by lia)).2,.ref t1])
   refine fin2 (S1.trans S2) h3 ?_
   have exx:(exN (.case l0))[j+ 1]?.getD none=some ((l0[j]'(by lia)).2,("arm":Str)):=by
    show((l0.map fun a=>some (a.2,("arm":Str)))[j]?).getD none=_
    rw[aJ,hj]
    rfl
   rw[exx]
   exact .cons (ip h2 (.cons (.flat rfl) (.cons (ip h1 (.cons (.flat rfl) (.cons (.flat rfl) .nil))) .nil))) .nil
 refine y9 (i:=0) (x:="case") (s:=κ.s) rfl ea (gA e3) ?_
 refine⟨mh,fun t1 h1=>fin (fun _ _ e=>e) h1 ?_⟩
 have ex:exN κ=[]:=by
  cases κ with
  |fn=>exact absurd rfl e1
  |lt=>exact absurd rfl e2
  |case=>exact absurd rfl e3
  |_=>rfl
 rw[ex]
 rfl
open TM.Internal (Kn Tr gv szs)
inductive XRw (vs:List V) (H:Hp) (Q:VK):Prop
 |mk (n:V) (κ:Kn) (ks:List Tr) (l:Addr) (ps:List Nat) (N:Str->Prop) (e:vs=[n,.ref l]) (i:Im H n (ndD (.mk κ ks))) (ok:okK κ ks.length N) (hl:H l=some (.lst (ps.map nI))) (hp:ps.length=ks.length) (q:∀H' v,fC H H'->Im H' v (roK κ ps).d->Q v H')
def Gy:Sp:=fun vs H Q _=>XRw vs H Q
theorem vO {H:Hp}:∀ps:List Nat,Ims H (ps.map nI) ((ps.map fun p:Nat=>(p:Int)).map kD)
 |[]=> .nil
 |p::ps=> .cons (.flat rfl) (vO ps)
theorem zc {K:PySem.W.Frag} {b l D:Addr} {Q:VK} {H1:Hp} {xs ys:List V} {u0 v0:Option V} (eb:H1 b=some (.tup xs)) (el:H1 l=some (.lst ys)) (hD:H1 D=none) (hn:xs.length<1000) (heq:ys.length=xs.length)
  (hq:∀H' zs,fC H1 H'->H' D=some (.lst zs)->zs.length=xs.length->(∀(i:Nat) x y,xs[i]?=some x->ys[i]?=some y->∃t,zs[i]?=some (.ref t)/\H' t=some (.tup [x,y]))->Q (.ref D) H'):LcG (FU K b l) (DB K 2 (rC (fK 0) (rC (fK 1) DA))) (G0 (jA (cV 0) (jA (cV 1) sP))) Q [u0,v0] H1 D:=by
 have sl:=sizeLine_eq
 refine⟨fun k m σ' H2=>Y5 (m=xs.length-k) (k<=xs.length) ((∃u v,σ'=[u,v])) (fC H1 H2) (∃zs,Y3 (H2 D=some (.lst zs)) (zs.length=k) (∀(i:Nat) x y,i<k->xs[i]?=some x->ys[i]?=some y->∃t,zs[i]?=some (.ref t)/\H2 t=some (.tup [x,y]))),⟨xs.length,by simp,cc _,⟨_,_,rfl⟩,eS hD _,[],eO,rfl,fun i x y h=>absurd h (cq _)⟩,?_⟩
 rintro k m σ' H2 ⟨rfl,hk,⟨u,v,rfl⟩,S,zs,ez,lz,hz⟩
 by_cases hlt:k<xs.length
 ·refine .inr ⟨⟨xs,ys,xs[k],ys[k]'(by lia),SqT.of (S _ _ eb),SqL.of (S _ _ el),ba hlt,ba (by lia)⟩,?_⟩
  rintro y H3 ⟨T,x,y,rfl,hT,rfl,hx,hy⟩
  have hx:=hx xs (SqT.of (S _ _ eb))
  have hy:=hy ys (SqL.of (S _ _ el))
  have S3:=eS hT (.tup [x,y])
  refine⟨T,_,rfl,SqT.of eO,rfl,_,_,rfl,_,_,rfl,rfl,?_⟩
  refine⟨lQ,fun t ht=>?_⟩
  have S4:=eS ht (.tup [x,y])
  have e4:=(S3.trans S4) _ _ ez
  refine⟨zs,e4,by lia,xs.length-(k+ 1),by lia,rfl,hlt,⟨_,_,rfl⟩,?_,zs++[.ref t],eO,by rw[aN,lz];rfl,?_⟩
  ·intro q u e
   rw[eT (eY e hD)]
   exact S4 _ _ (S3 _ _ (S _ _ e))
  ·have nt:∀{a:Addr} {ws:List V},(L2.Internal.upd (L2.Internal.upd H2 T (.tup [x,y])) t (.tup [x,y])) a=some (.tup ws)->(L2.Internal.upd (L2.Internal.upd (L2.Internal.upd H2 T (.tup [x,y])) t (.tup [x,y])) D (.lst (zs++[.ref t]))) a=some (.tup ws):=fun e=>by rw[eT (jm e e4 (fun z=>nomatch z))];exact e
   intro i x' y' hi hx' hy'
   by_cases z:i<k
   ·obtain⟨t',h1,h2⟩:=hz i x' y' z hx' hy'
    exact⟨t',by rw[aI (by lia)];exact h1,nt (S4 _ _ (S3 _ _ h2))⟩
   ·have ik:i=k:=by lia
    subst ik
    rw[hx]at hx'
    rw[hy]at hy'
    cases hx'
    cases hy'
    exact⟨t,by rw[aH (by lia),lz,cg];rfl,nt eO⟩
 ·have e1:k=xs.length:=by lia
  subst e1
  exact .inl ⟨⟨xs,ys,SqT.of (S _ _ eb),SqL.of (S _ _ el),by lia⟩,hq H2 zs S ez lz fun i x y hx hy=>hz i x y (aq.mp hx).1 hx hy⟩
theorem Bo {H:Hp}:∀{zs:List V} {ds:List Dt},zs.length=ds.length->(∀(i:Nat) d,ds[i]?=some d->∃z,zs[i]?=some z/\Im H z d)->Ims H zs ds
 |[],[],_,_=> .nil
 |z::zs,[],h,_=>by cases h
 |[],d::ds,h,_=>by cases h
 |z::zs,d::ds,h,k=>by
  obtain⟨z',e,i⟩:=k 0 d rfl
  cases e
  exact .cons i (Bo (by simpa using h) fun i d hd=>k (i+ 1) d hd)
theorem Ay {H:Hp} {zs xs:List V} {l0:List Str} {ps:List Nat} (ib:Ims H xs (l0.map sD)) (lz:zs.length=xs.length) (hp:ps.length=l0.length) (h:∀(i:Nat) x y,xs[i]?=some x->(ps.map nI)[i]?=some y->∃t,zs[i]?=some (.ref t)/\H t=some (.tup [x,y])):Ims H zs (((l0.zip ps).map fun q=>(q.1,(q.2:Int))).map fdD):=by
 have lx:=ib.length
 rw[aB]at lx
 refine Bo (by rw[aB,aB,bN];lia) fun i d hd=>?_
 rw[aJ,aJ]at hd
 obtain⟨q,hq,rfl⟩:=cB.mp hd
 obtain⟨q',hq',rfl⟩:=cB.mp hq
 obtain⟨h1,h2⟩:=bL.mp hq'
 obtain⟨x,hx,ix⟩:=tY ib (show(l0.map sD)[i]?=some (sD q'.1) by rw[aJ,h1];rfl)
 cases kX ix
 obtain⟨t,e1,e2⟩:=h i _ _ hx (show(ps.map nI)[i]?=some (nI q'.2) by rw[aJ,h2];rfl)
 exact⟨_,e1,.tup e2 (.cons (.flat rfl) (.cons (.flat rfl) .nil))⟩
theorem uS (T:Txt K mg):FO P w base 2 T.d43 Gy:=by
 refine T.d43.F.rd p4 fun cdv A0 outer s H vs Q E hr h=>?_
 obtain⟨n,κ,ks,l,ps,N,rfl,i,ok,hl,hp,q⟩:=h
 refine⟨_,(eQ (gB (fA jv (eZ fh (cv 0) eR) fD)
   (eV (fu (fz (eN fD (eN (eZ fc (cv 1) eR) (eN (eZ fh (eZ fh (cv 0) eR) eR) eP))))))
   fF)
  (eQ (gB (fA jv (eZ fh (cv 0) eR) fD)
   (eV (fu (fz (eN fD (eN (gf gh rfl T.z_tuple ir (eN (AZ (g:=DB K 2 (rC (fK 0) (rC (fK 1) DA))) rfl (DV (x:="_law_word") (y:="_law_place") rfl fS fS rfl (by decide) rfl) (Cg rfl T.z_zip (eN (eZ fh (cv 0) eR) (eN (cv 1) eP))) (pgP rfl fS rfl rfl) (fun _ _ _ _ _=>(fz (eN (cv 0) (eN (cv 1) eP))))) eP)) eP)))))
   fF)
  (eQ (gB (fA jv (eZ fh (cv 0) eR) fD)
   (eQ (jj (j:=2) rfl (vA (x:="_law_k") ["_law_places","_law_node"] [("_law_places",1,s.heap.objs.size+ 2),("_law_node",0,s.heap.objs.size+ 1)]) (gS rfl T.z_range (eN (fq pL (fJ fR rfl T.z_len ja (eN (cv 1) eP)) eR) eP)) (fun _ _ _ _ _=>iB) (fun _ _ _ _ _=>(fz (eN (eZ fh (eZ fh (cv 2) eR) (fq pM eR (cv 0))) (eN (eZ fh (eZ fh (cv 2) eR) (fq gF (fq pM eR (cv 0)) eR)) (eN (eZ fc (cv 1) (fq gF (cv 0) eR)) eP))))) p4.nd rfl (.inl rfl))
   (eV (fu (fz (eN fD (eN (eZ fc (cv 1) eR) (eN (gf gh rfl T.z_tuple ir (eN (cv 2) eP)) eP)))))))
   fF)
  (eQ (gB (fA jv (eZ fh (cv 0) eR) fD)
   (eV (fu (fz (eN fD (eN (gf gh rfl T.z_tuple ir (eN (cv 1) eP)) eP)))))
   fF)
  (eV (fu (fq rS (fq rS (fz (eN (eZ fh (cv 0) eR) eP)) (eZ fh (cv 0) eR)) (gf gh rfl T.z_tuple ir (eN (cv 1) eP))))))))),?_⟩
 have sl:=sizeLine_eq
 obtain⟨a,b,c,xs,ys,rfl,ea,eb,ib,ec,ic⟩:=tX i
 have er:∀{j m:Nat},ps[j]?=some m->(ps.map nI)[j]?=some (.int (m:Int)):=fun h=>by rw[aJ,h];rfl
 obtain⟨k1,k2,k3,k4,k5,k6,k7⟩:=Gx ok
 by_cases e5:κ.s="get"
 ·obtain⟨w0,rfl⟩:=k5 e5
  have lk:ks.length=1:=ok
  obtain⟨x,rfl,ix⟩:=A8 ib
  cases kX ix
  match ps,(show ps.length=1 by lia)with
  |[p],_=>
   refine oN (i:=0) (x:="get") (s:="get") rfl ea fS ?_
   refine⟨_,hl,eX (eU (j:=0) rfl) ⟨_,ea,eX (eU (j:=1) rfl) ⟨_,eb,eX (eU (j:=0) rfl) ⟨sM,fun t1 h1=>?_⟩⟩⟩⟩
   exact q _ _ (eS h1 _) (ip h1 (.cons (.flat rfl) (.cons (.flat rfl) (.cons (.flat rfl) .nil))))
 refine oM (i:=0) (x:="get") (s:=κ.s) rfl ea (gA e5) ?_
 dsimp only[ju]
 by_cases e6:κ.s="rec"
 ·obtain⟨l0,rfl⟩:=k6 e6
  obtain⟨lk,lk2⟩:ks.length=l0.length/\l0.length<=10:=ok
  refine oN (i:=0) (x:="rec") (s:="rec") rfl ea fS ?_
  have lx:xs.length=l0.length:=by rw[ib.length];simp[wsD]
  refine⟨_,ea,eX (eU (j:=1) rfl) ⟨b,l,rfl,⟨_,SqT.of eb⟩,⟨_,SqL.of hl⟩,fun D hD=>?_⟩⟩
  refine zc eb hl hD (by lia) (by rw[aB];lia) fun H2 zs S2 ez lz hz=>?_
  refine⟨D,zs,rfl,.inl ⟨SqL.of ez,fun t1 h1=>⟨lQ,fun t2 h2=>?_⟩⟩⟩
  have S3:=eS h1 (.tup zs)
  have i2:=Ay (ib.mono (fC.tk S2)) lz (by lia) hz
  exact q _ _ ((S2.trans S3).trans (eS h2 _)) (ip h2 (.cons (.flat rfl) (.cons (ip h1 i2) .nil)))
 refine oM (i:=0) (x:="rec") (s:=κ.s) rfl ea (gA e6) ?_
 dsimp only[ju]
 by_cases e3:κ.s="case"
 ·obtain⟨l0,rfl⟩:=k3 e3
  obtain⟨lk,lk2⟩:ks.length=l0.length+ 1/\l0.length<=10:=ok
  refine oN (i:=0) (x:="case") (s:="case") rfl ea fS ?_
  match ps,(show ps.length=l0.length+ 1 by lia)with
  |p0::ps,lps=>
   have lps:ps.length=l0.length:=by simpa using lps
   have en:((((p0::ps).map nI).length:Nat):Int)-1=(l0.length:Int):=by rw[aB,ay,lps];lia
   refine⟨l,_,rfl,.inl (SqL.of hl),_,rfl,by rw[en];lia,by rw[en];lia,fun D hD=>?_⟩
   rw[en,dZ]
   refine kl l0.length (by lia) (fun zs H2=>Ims H2 zs (((l0.zip ps).map fun q:(Str×Str)×Nat=>(q.1.1,q.1.2,(q.2:Int))).map amD |>.take zs.length)) (fun _ _ _ h k=>h.mono k) hD rfl (fun k H2 _ h=>h) (fun H2 _=>cb _) .nil ?_ ?_
   ·rintro k H2 v H3 zs Z S hk ⟨rfl,rfl⟩ iz lz hZ
    have hj:l0[k]?=some l0[k]:=ba hk
    have hj2:ps[k]?=some (ps[k]'(by lia)):=ba (by lia)
    have ib2:=ib.mono (fC.tk S)
    obtain⟨x,ex,ix⟩:=tY ib2 (sr hj).1
    cases kX ix
    obtain⟨y,ey,iy⟩:=tY ib2 (sr hj).2
    cases kX iy
    have c1:2*(0+(k:Int))=((2*k:Nat):Int):=by lia
    have c2:2*(0+(k:Int))+ 1=((2*k+ 1:Nat):Int):=by lia
    have c3:0+(k:Int)+ 1=((k+ 1:Nat):Int):=by lia
    have ea2:=S _ _ ea
    have eb2:=S _ _ eb
    have hl2:=S _ _ hl
    have q1:atI xs (2*(0+(k:Int)))=some (.str l0[k].1):=by rw[c1];exact eU ex
    have q2:atI xs (2*(0+(k:Int))+ 1)=some (.str l0[k].2):=by rw[c2];exact eU ey
    have q3:atI ((p0::ps).map nI) (0+(k:Int)+ 1)=some (nI (ps[k]'(by lia))):=by rw[c3];exact eU (by rw[aJ];show Option.map nI ps[k]?=_;rw[hj2];rfl)
    refine⟨_,ea2,eX (eU (j:=1) rfl) ⟨.inl ⟨by decide,by decide⟩,_,eb2,eX q1 ⟨_,ea2,eX (eU (j:=1) rfl) ⟨.inl ⟨by decide,by decide⟩,_,eb2,eX q2 ⟨_,hl2,eX q3 ⟨sM,fun t1 h1=>?_⟩⟩⟩⟩⟩⟩
    refine hZ _ _ (eS h1 _) ?_
    rw[aN,aU,bM,aJ,aJ,lz]
    rw[lz]at iz
    have hzip:(l0.zip ps)[k]?=some (l0[k],ps[k]'(by lia)):=bL.mpr ⟨hj,hj2⟩
    rw[hzip]
    exact(iz.mono (fC.tk (eS h1 _))).app (.cons (ip h1 (.cons (.flat rfl) (.cons (.flat rfl) (.cons (.flat rfl) .nil)))) .nil)
   ·intro H2 zs S iz lz ez
    dsimp only[fK]
    rw[bO (by rw[aB,aB,bN];lia)]at iz
    refine⟨_,S _ _ hl,eX (eU (j:=0) rfl) ⟨D,zs,rfl,.inl ⟨SqL.of ez,fun t1 h1=>⟨sM,fun t2 h2=>?_⟩⟩⟩⟩
    exact q _ _ ((S.trans (eS h1 _)).trans (eS h2 _)) (ip h2 (.cons (.flat rfl) (.cons (.flat rfl) (.cons (ip h1 iz) .nil))))
 refine oM (i:=0) (x:="case") (s:=κ.s) rfl ea (gA e3) ?_
 dsimp only[ju]
 by_cases e7:κ.s="row"
 ·obtain⟨m,rfl⟩:=k7 e7
  refine oN (i:=0) (x:="row") (s:="row") rfl ea fS ?_
  refine⟨l,_,rfl,.inl ⟨SqL.of hl,fun t1 h1=>⟨lQ,fun t2 h2=>?_⟩⟩⟩
  have S1:=eS h1 (.tup (ps.map nI))
  exact q _ _ (S1.trans (eS h2 _)) (ip h2 (.cons (.flat rfl) (.cons (ip h1 (vO ps)) .nil)))
 refine oM (i:=0) (x:="row") (s:=κ.s) rfl ea (gA e7) ?_
 dsimp only[ju]
 refine⟨_,ea,eX (eU (j:=0) rfl) ⟨lY,fun t1 h1=>?_⟩⟩
 have S1:=eS h1 (.tup [.str κ.s])
 refine⟨_,S1 _ _ ea,eX (eU (j:=1) rfl) ?_⟩
 have lw:xs.length<=1:=by
  rw[ib.length]
  cases κ with
  |rcd=>exact absurd rfl e6
  |case=>exact absurd rfl e3
  |_=>simp[wsD]
 refine ph eO (S1 _ _ eb) (by show 1+xs.length<=_;lia) fun t2 H2 S2 e2=>?_
 refine⟨l,_,rfl,.inl ⟨SqL.of (S2 _ _ (S1 _ _ hl)),fun t3 h3=>?_⟩⟩
 have S3:=eS h3 (.tup (ps.map nI))
 have lps:ps.length<=3:=by
  rw[hp]
  cases κ with
  |rcd=>exact absurd rfl e6
  |case=>exact absurd rfl e3
  |row=>exact absurd rfl e7
  |op o m=>
   obtain⟨h1,h2⟩:ks.length=m/\(o,m)∈TM.Internal.ops:=ok
   simp only[TM.Internal.ops,aj,Prod.mk.injEq,bj,or_false]at h2
   lia
  |num=>have:ks.length=0:=ok;lia
  |name=>have:ks.length=0:=ok.1;lia
  |fn=>have:ks.length=1:=ok;lia
  |tag=>have:ks.length=1:=ok;lia
  |lt=>have:ks.length=2:=ok;lia
  |get=>have:ks.length=1:=ok;lia
 refine ph (S3 _ _ e2) eO (by rw[aN,aB];show 1+xs.length+_<=_;lia) fun t4 H4 S4 e4=>?_
 have S14:fC H H4:=S1.trans (S2.trans (S3.trans S4))
 refine q _ _ S14 (.tup e4 ?_)
 have ib4:=ib.mono (fC.tk S14)
 cases κ with
 |rcd=>exact absurd rfl e6
 |case=>exact absurd rfl e3
 |row=>exact absurd rfl e7
 |get=>exact absurd rfl e5
 |op o m=>
  cases ib4
  exact .cons (.flat rfl) (vO ps)
 |num n=>
  match ps,(show ps.length=0 from hp.trans ok)with
  |[],_=>exact .cons (.flat rfl) (by show Ims H4 (xs++[]) _;rw[aC];exact ib4)
 |name n=>
  match ps,(show ps.length=0 from hp.trans ok.1)with
  |[],_=>exact .cons (.flat rfl) (by show Ims H4 (xs++[]) _;rw[aC];exact ib4)
 |fn n=>
  match ps,(show ps.length=1 from hp.trans ok)with
  |[p],_=>exact .cons (.flat rfl) (ib4.app (.cons (.flat rfl) .nil))
 |tag n=>
  match ps,(show ps.length=1 from hp.trans ok)with
  |[p],_=>exact .cons (.flat rfl) (ib4.app (.cons (.flat rfl) .nil))
 |lt n=>
  match ps,(show ps.length=2 from hp.trans ok)with
  |[p,p2],_=>exact .cons (.flat rfl) (ib4.app (.cons (.flat rfl) (.cons (.flat rfl) .nil)))
open TM.Internal (Kn Tr gv szs)
def FR (r h:Addr) (H H':Hp):Prop:=∀a o,H a=some o->a≠r->a≠h->H' a=some o
theorem FR.refl {r h:Addr} {H:Hp}:FR r h H H:=fun _ _ e _ _=>e
theorem FR.trans {r h:Addr} {H H1 H2:Hp} (f:FR r h H H1) (g:FR r h H1 H2):FR r h H H2:=fun a o e n m=>g a o (f a o e n m) n m
theorem FR.same {r h:Addr} {H H':Hp} (S:fC H H'):FR r h H H':=fun a o e _ _=>S a o e
theorem G9 {r h:Addr} {H:Hp} {o:HO}:FR r h H (L2.Internal.upd H r o):=fun a u e n _=>by rw[eT n];exact e
theorem Ha {r h:Addr} {H:Hp} {o:HO}:FR r h H (L2.Internal.upd H h o):=fun a u e _ n=>by rw[eT n];exact e
theorem FR.tk {r h:Addr} {H H':Hp} {rs hs:List V} (F:FR r h H H') (e1:H r=some (.lst rs)) (e2:H h=some (.lst hs)):TK H H':=fun a xs e=>F a _ e (jm e e1 fun z=>nomatch z) (jm e e2 fun z=>nomatch z)
theorem FR.put {r h:Addr} {H0 H:Hp} (F:FR r h H0 H) {a:Addr} (z:H0 a=none) (o:HO):FR r h H0 (L2.Internal.upd H a o):=fun b u e n m=>by
 rw[eT (eY e z)]
 exact F b u e n m
theorem zd {K:PySem.W.Frag} {a:Addr} {xs:List V} {g:TG} {tb:TS} {D:nH} {σ:St} {H:Hp} (Pv:Nat->St->Hp->Prop) (h0:Pv 0 σ H) (hl:∀i σ H,i<=xs.length->Pv i σ H->SqT K H a xs)
  (hs:∀(i:Nat) (x:V) (σ:St) (H:Hp) (T:Addr),xs[i]?=some x->Pv i σ H->H T=none->g (.ref T) σ (L2.Internal.upd H T (.tup [.int (i:Int),x])) fun σ2 H2=>tb {D with nx:=Pv (i+ 1),ct:=Pv (i+ 1),bk:=D.nx} σ2 H2) (hd:∀σ H,Pv xs.length σ H->D.nx σ H):
  ∃W:Nat->Nat->St->Hp->Prop,(∃m,W 0 m σ H)/\∀i m σ H,W i m σ H->
   ((Ea K a).stop i H/\D.nx σ H)\/((Ea K a).go i H/\∃N:St->Hp->Prop,(∀σ' H',N σ' H'->∃m',m'<m/\W (i+ 1) m' σ' H')/\∀x H',(Ea K a).yld i H x H'->g x σ H' fun σ2 H2=>tb {D with nx:=N,ct:=N,bk:=D.nx} σ2 H2):=by
 refine⟨fun i m σ H=>Y3 (m=xs.length-i) (i<=xs.length) (Pv i σ H),⟨xs.length,by simp,cc _,h0⟩,?_⟩
 rintro i m σ H ⟨rfl,hi,p⟩
 have q:=hl i σ H hi p
 by_cases hlt:i<xs.length
 ·refine .inr ⟨⟨xs,xs[i],q,by simp[hlt]⟩,Pv (i+ 1),fun σ' H' p'=>⟨xs.length-(i+ 1),by lia,rfl,hlt,p'⟩,fun v H' y=>?_⟩
  obtain⟨T,x,rfl,hT,rfl,hx⟩:=y
  exact hs i x σ H T (hx xs q) p hT
 ·have e:i=xs.length:=by lia
  subst e
  exact .inl ⟨⟨xs,q,rfl⟩,hd σ H p⟩
def rD (c:Pc):Dt:=c.ρ.d
def hD' (c:Pc):Dt:=hoD (hoC c)
inductive XFl (f:Nat) (vs:List V) (H:Hp) (Q:VK):Prop
 |mk (n:V) (t:Tr) (s r h:Addr) (ss rs hs:List V) (sc:Sc) (p d:Nat) (N:Str->Prop) (e:vs=[n,.ref s,.ref r,.ref h]) (i:Im H n (ndD t)) (hf:t.nest<=f) (es:H s=some (.lst ss)) (is:Ims H ss (sc.map enD)) (er:H r=some (.lst rs)) (eh:H h=some (.lst hs)) (lr:rs.length=p) (lh:hs.length=p) (nrh:r≠h) (nsr:s≠r) (nsh:s≠h) (ok:okT t N) (lp:p+t.sz<=100000) (ls:ss.length+t.nest<=1000) (q:∀H' rs' hs',FR r h H H'->H' r=some (.lst (rs++rs'))->Ims H' rs' ((pcT t p sc d).map rD)->H' h=some (.lst (hs++hs'))->Ims H' hs' ((pcT t p sc d).map hD')->Q .non H')
def CM (f:Nat):Sp:=fun vs H Q _=>XFl f vs H Q
theorem Az (l:List Ex) (k:Nat):hdX (l.drop k)=l[k]?.getD none:=by
 unfold hdX
 rw[List.headD_eq_head?_getD,List.head?_drop]
theorem ze:∀{ts:List Tr} {k:Nat} {t:Tr},ts[k]?=some t->t.nest<=TM.Internal.nests ts
 |[],_,_,h=>by cases h
 |t::ts,0,_,h=>by cases h;rw[TM.Internal.nests];lia
 |t::ts,k+ 1,u,h=>by have:=ze (ts:=ts) (k:=k) h;rw[TM.Internal.nests];lia
theorem CN:∀{ts:List Tr} {k:Nat} {t:Tr},ts[k]?=some t->szs (ts.take k)+t.sz<=szs ts
 |[],_,_,h=>by cases h
 |t::ts,0,_,h=>by cases h;simp only[List.take_zero,szs];lia
 |t::ts,k+ 1,u,h=>by have:=CN (ts:=ts) (k:=k) h;simp only[bP,szs];lia
theorem zf:∀{ts:List Tr} {xs:List Ex} {N:Str->Prop} {k:Nat} {t:Tr},sg ts xs N->ts[k]?=some t->∃M,okT t M
 |[],_,_,_,_,_,h=>by cases h
 |t::ts,xs,N,0,_,o,h=>by cases h;exact⟨_,o.1⟩
 |t::ts,xs,N,k+ 1,u,o,h=>zf (ts:=ts) (k:=k) o.2 h
theorem Et {κ:Kn} {ps:List Nat} {sc:Sc} {e d v:Nat} (h:∀w,κ≠ .name w):hoC ⟨roK κ ps,sc,e,d,v⟩=none:=by
 cases κ with
 |name w=>exact absurd rfl (h w)
 |num=>rfl
 |row=>rfl
 |op=>rfl
 |rcd=>rfl
 |fn=>cases ps<;>rfl
 |tag=>cases ps<;>rfl
 |get=>cases ps<;>rfl
 |case=>cases ps<;>rfl
 |lt=>
  cases ps with
  |nil=>rfl
  |cons p ps=>cases ps<;>rfl
theorem AA {H:Hp} {κ:Kn} {ks:List Tr} {a s r h:Addr} {ss hs:List V} {sc:Sc} {p e d v:Nat} {ps:List Nat} {N:Str->Prop} {R:TS} {D:nH} {σ:St} (i:Im H (.ref a) (ndD (.mk κ ks))) (ok:okK κ ks.length N) (es:H s=some (.lst ss)) (is:Ims H ss (sc.map enD)) (eh:H h=some (.lst (hs++[.non]))) (lh:hs.length=p)
  (h0:σ[0]?=some (some (.ref a))) (h1:σ[1]?=some (some (.ref s))) (h3:σ[3]?=some (some (.ref h))) (h4:σ[4]?=some (some (.int (p:Int)))) (q:∀H' x,FR r h H H'->(r≠h->H' r=H r)->H' h=some (.lst (hs++[x]))->Im H' x (hD' ⟨roK κ ps,sc,e,d,v⟩)->R D σ H'):
  xl (ve (hdT 0 "name") (xx (qz Es [] E0 (jA (cV 1) (jA (tOp A4 (tOp A4 (cV 0) (tC (.int 1))) (tC (.int 0))) sP))) (GV (cV 3) (cV 4) DQ)) ju) R D σ H:=by
 obtain⟨a',b,c,xs,ys,e1,ea,eb,ib,ec,ic⟩:=tX i
 cases e1
 obtain⟨_,_,_,k4,_⟩:=Gx ok
 by_cases z:κ.s="name"
 ·obtain⟨w,rfl⟩:=k4 z
  obtain⟨x,rfl,ix⟩:=A8 ib
  cases kX ix
  refine oN (s:="name") h0 ea fS ?_
  show onV σ[1]? _
  rw[h1]
  show onV σ[0]? _
  rw[h0]
  refine⟨_,ea,eX (eU (j:=1) rfl) ⟨_,eb,eX (eU (j:=0) rfl) ⟨s,w,ss,sc,rfl,es,is,fun x ix=>?_⟩⟩⟩
  show onV σ[3]? _
  rw[h3]
  show onV σ[4]? _
  rw[h4]
  have ej:ixN (hs++[V.non]).length (p:Int)=some p:=by
   unfold ixN
   rw[fY (by lia),fY (by rw[aN,aU];lia)]
   rfl
  refine⟨h,_,_,p,rfl,rfl,eh,ej,?_⟩
  have et:(hs++[V.non]).set p x=hs++[x]:=by rw[bQ _ _ (by lia),lh,cg];rfl
  rw[et]
  exact q _ x Ha (fun n=>eT n) eO (ix.mono (ie eh).tk)
 ·refine oM (s:=κ.s) h0 ea (gA z) ?_
  refine q H .non FR.refl (fun _=>rfl) eh ?_
  unfold hD'
  rw[Et (fun w u=>z (by rw[u];rfl))]
  exact .flat rfl
theorem zg:∀ts:List Tr,ts.length<=szs ts
 |[]=>cb _
 |t::ts=>by have:=zg ts;have:=oO t;rw[ay,szs];lia
theorem su:∀{ts:List Tr} {k:Nat} {t:Tr},ts[k]?=some t->szs (ts.take (k+ 1))=szs (ts.take k)+t.sz
 |[],_,_,h=>by cases h
 |t::ts,0,_,h=>by cases h;simp only[List.take_zero,bP,szs];lia
 |t::ts,k+ 1,u,h=>by have:=su (ts:=ts) (k:=k) h;rw[bP,szs,this,bP,szs];lia
theorem CO (x:Ex) (p pp pw:Nat):(exL x p pp pw).length<=1:=by
 cases x with
 |none=>exact cc _
 |some z=>exact cb _
theorem sv (T:Txt K mg) (f:Nat) (gD44:FO P w base (f+ 2) T.d44 (CM f)):FO P w base (f+ 1+ 2) T.d44 (CM (f+ 1)):=by
 have gD42:=tZ (P:=P) (w:=w) (base:=base) T
 have gD41:=qN (P:=P) (w:=w) (base:=base) T
 have gD43:=uS (P:=P) (w:=w) (base:=base) T
 refine T.d44.F.ok iH (fun vs H Q E h=>?_) (fun cdv A0 outer s0 H vs Q E hr h=>?_)
 ·obtain⟨n,t,s,r,h,ss,rs,hs,sc,p,d,N,rfl,_⟩:=h
  rfl
 obtain⟨n,t,s,r,h,ss,rs,hs,sc,p,d,N,rfl,i,hf,es,is,er,eh,lr,lh,nrh,nsr,nsh,ok,lp,ls,q⟩:=h
 refine⟨_,(eQ (pS (i:=4) iH.nd (fJ fR rfl T.z_len ja (eN (cv 2) eP)))
  (eQ (fo (jV (lg dJ dM dN fZ (PE.mono (cv 2)) (eN (PE.mono xr) eP))))
  (eQ (fo (jV (lg dJ dM dN fZ (PE.mono (cv 3)) (eN (PE.mono xr) eP))))
  (eQ (gB (fA jv (eZ fh (cv 0) eR) fD)
   (eV (qT (pF T.d42 gD42 (hr.mono (by lia)) (eN (cv 1) (eN (eZ fh (eZ fh (cv 0) eR) eR) eP))) (qS (cv 3) (cv 4) lU)))
   fF)
  (eQ (pS (i:=5) iH.nd (fG eP))
  (eQ (jP PassesOwn.never rfl (z9 rfl T.z_enumerate (eN (eZ fh (cv 0) eR) eP)) (vf rfl (jO (pN (i:=6) iH.nd) (jO (pN (i:=7) iH.nd) rE)))
   (eQ (fo (jV (lg dJ dM dN fZ (PE.mono (cv 5)) (eN (PE.mono (fJ fR rfl T.z_len ja (eN (cv 2) eP))) eP))))
   (eV (fo (pF T.d44 gD44 (hr.mono (by lia)) (eN (cv 7) (eN (fq qZ (cv 1) (pF T.d41 gD41 (hr.mono (by lia)) (eN (cv 0) (eN (cv 6) (eN (cv 5) eP))))) (eN (cv 2) (eN (cv 3) eP)))))))))
  (eV (qT (pF T.d43 gD43 (hr.mono (by lia)) (eN (cv 0) (eN (cv 5) eP))) (qS (cv 2) (cv 4) lU))))))))),?_⟩
 have sl:=sizeLine_eq
 obtain⟨κ,ks⟩:=t
 have hsz:(Tr.mk κ ks).sz=1+szs ks:=by rw[Tr.sz]
 have hne:(Tr.mk κ ks).nest=1+TM.Internal.nests ks:=by rw[Tr.nest]
 rw[hne]at hf ls
 rw[hsz]at lp
 obtain⟨a,b,c,xs,ys,rfl,ea,eb,ib,ec,ic⟩:=tX i
 refine⟨r,_,rfl,.inl (SqL.of er),?_⟩
 dsimp only[fK]
 rw[lr]
 refine⟨⟨_,er⟩,rs,er,by lia,?_⟩
 have eh1:(L2.Internal.upd H r (.lst (rs++[.non]))) h=some (.lst hs):=by rw[eT nrh.symm];exact eh
 refine⟨⟨_,eh1⟩,hs,eh1,by lia,?_⟩
 have F1:FR r h H (L2.Internal.upd (L2.Internal.upd H r (.lst (rs++[.non]))) h (.lst (hs++[.non]))):=G9.trans Ha
 have er1:(L2.Internal.upd (L2.Internal.upd H r (.lst (rs++[.non]))) h (.lst (hs++[.non]))) r=some (.lst (rs++[.non])):=by rw[eT nrh];exact eO
 have eh2:(L2.Internal.upd (L2.Internal.upd H r (.lst (rs++[.non]))) h (.lst (hs++[.non]))) h=some (.lst (hs++[.non])):=eO
 generalize(L2.Internal.upd (L2.Internal.upd H r (.lst (rs++[.non]))) h (.lst (hs++[.non])))=H1 at F1 er1 eh2
 have k1:=F1.tk er eh
 have es1:=F1 _ _ es nsr nsh
 have is1:=is.mono k1
 dsimp only
 refine AA (r:=r) (ps:=gv ks (p+ 1)) (e:=p+(Tr.mk κ ks).sz) (d:=d) (v:=wT (.mk κ ks) (val sc)) (i.mono k1) ok.1 es1 is1 eh2 lh rfl rfl rfl rfl fun H2 x F2 fr2 eh3 ix=>?_
 have er2:H2 r=some (.lst (rs++[.non])):=(fr2 nrh).trans er1
 have k2:=F2.tk er1 eh2
 refine⟨mh,fun pl hpl=>?_⟩
 dsimp only[fK]
 have S3:=eS hpl (.lst [])
 have nr:pl≠r:=fun z=>by rw[z,er2]at hpl;cases hpl
 have nh:pl≠h:=fun z=>by rw[z,eh3]at hpl;cases hpl
 have F3:FR r h H (L2.Internal.upd H2 pl (.lst [])):=F1.trans (F2.trans (FR.same S3))
 have k3:=F3.tk er eh
 have ea3:=k3 _ _ ea
 have ec3:=k3 _ _ ec
 have hpl0:H pl=none:=by
  cases z:H pl with
  |none=>rfl
  |some o=>rw[(F1.trans F2) _ _ z nr nh]at hpl;cases hpl
 have ly:=ic.length
 rw[sq]at ly
 have k03:TK H2 (L2.Internal.upd H2 pl (.lst [])):=fC.tk S3
 refine⟨_,ea3,eX (eU (j:=2) rfl) ⟨c,rfl,⟨_,SqT.of ec3⟩,zd (xs:=ys) (fun k σ H4=>X8 fun(o6 o7:Option V) (dn:List Pc) (ps:List Nat) (pp pw:Nat) (rr hh:List V)=>Y12 (σ=[some (.ref a),some (.ref s),some (.ref r),some (.ref h),some (.int (p:Int)),some (.ref pl),o6,o7]) (FR r h H H4) (dn++y4 (ks.drop k) (p+ 1+dn.length) pp pw ((exN κ).drop k) sc d=y4 ks (p+ 1) 0 0 (exN κ) sc d) (ps++gv (ks.drop k) (p+ 1+dn.length)=gv ks (p+ 1)) (ps.length=k) ((∀j,j+ 1=k->ps[j]?=some pp)) (dn.length=szs (ks.take k)) (H4 pl=some (.lst (ps.map nI))) (H4 r=some (.lst (rs++(.non::rr)))) (Ims H4 rr (dn.map rD)) (H4 h=some (.lst (hs++(x::hh)))) (Ims H4 (x::hh) (hD' ⟨roK κ (gv ks (p+ 1)),sc,p+(Tr.mk κ ks).sz,d,wT (.mk κ ks) (val sc)⟩::dn.map hD'))) ?_ ?_ ?_ ?_⟩⟩
 ·exact⟨none,none,[],[],0,0,[],[],rfl,F3,rfl,rfl,rfl,fun j z=>by lia,rfl,eO,S3 _ _ er2,.nil,S3 _ _ eh3,.cons (ix.mono k03) .nil⟩
 ·rintro k σ H4 _ ⟨o6,o7,dn,ps,pp,pw,rr,hh,_,F4,_⟩
  exact SqT.of (F4.tk er eh _ _ ec)
 ·rintro k v σ H4 t4 hv ⟨o6,o7,dn,ps,pp,pw,rr,hh,rfl,F4,hdn,hps,lps,hpp,ldn,epl,er4,ir4,eh4,ih4⟩ h4
  obtain⟨dv,e1,iv⟩:=jx ic hv
  obtain⟨t,ht,rfl⟩:=y8 e1
  have hk:k<ks.length:=(aq.mp ht).1
  rw[tR ht]at hdn hps
  have S4:=eS h4 (.tup [.int (k:Int),v])
  refine⟨t4,_,rfl,SqT.of eO,rfl,_,_,rfl,_,_,rfl,rfl,?_⟩
  have epl4:=S4 _ _ epl
  have er5:=S4 _ _ er4
  have eh5:=S4 _ _ eh4
  have lrr:=ir4.length
  rw[aB]at lrr
  have ih5:=ih4.length
  rw[ay,ay,aB]at ih5
  have lsz:=CN ht
  have tp:=oO t
  have elen:(rs++(V.non::rr)).length=p+ 1+dn.length:=by rw[aN,ay];lia
  refine⟨⟨_,epl4⟩,r,_,rfl,.inl (SqL.of er5),_,epl4,by rw[aB];have:=zg ks;lia,?_⟩
  rw[elen]
  have F5:FR r h H (L2.Internal.upd (L2.Internal.upd H4 t4 (.tup [.int (k:Int),v])) pl (.lst (ps.map nI++[.int ((p+ 1+dn.length:Nat):Int)]))):=(F4.trans (FR.same S4)).put hpl0 _
  have epl5:(L2.Internal.upd (L2.Internal.upd H4 t4 (.tup [.int (k:Int),v])) pl (.lst (ps.map nI++[.int ((p+ 1+dn.length:Nat):Int)]))) pl=some (.lst ((ps++[p+ 1+dn.length]).map nI)):=by rw[eO,bC];rfl
  have er6:(L2.Internal.upd (L2.Internal.upd H4 t4 (.tup [.int (k:Int),v])) pl (.lst (ps.map nI++[.int ((p+ 1+dn.length:Nat):Int)]))) r=some (.lst (rs++(V.non::rr))):=by rw[eT nr.symm];exact er5
  have eh6:(L2.Internal.upd (L2.Internal.upd H4 t4 (.tup [.int (k:Int),v])) pl (.lst (ps.map nI++[.int ((p+ 1+dn.length:Nat):Int)]))) h=some (.lst (hs++(x::hh))):=by rw[eT nh.symm];exact eh5
  have k45:TK H4 (L2.Internal.upd (L2.Internal.upd H4 t4 (.tup [.int (k:Int),v])) pl (.lst (ps.map nI++[.int ((p+ 1+dn.length:Nat):Int)]))):=fun b ws e=>by rw[eT (jm (S4 _ _ e) epl4 fun z=>nomatch z)];exact S4 _ _ e
  generalize(L2.Internal.upd (L2.Internal.upd H4 t4 (.tup [.int (k:Int),v])) pl (.lst (ps.map nI++[.int ((p+ 1+dn.length:Nat):Int)])))=H5 at F5 epl5 er6 eh6 k45
  have k5:=F5.tk er eh
  have hpk:(ps++[p+ 1+dn.length])[k]?=some (p+ 1+dn.length):=by rw[aH (by lia),lps,cg];rfl
  refine⟨.ref a,κ,ks,k,pl,ps++[p+ 1+dn.length],p+ 1+dn.length,pp,pw,N,rfl,i.mono k5,hk,ok.1,epl5,hpk,fun j hj=>by rw[aI (by lia)];exact hpp j hj,fun H6 a6 xs6 S6 e6 n6 i6=>?_⟩
  have es6:=S6 _ _ (F5 _ _ es nsr nsh)
  have lx6:xs6.length<=1:=by rw[i6.length,aB];exact CO _ _ _ _
  refine⟨s,a6,ss,xs6,rfl,rfl,es6,e6,by lia,fun s7 h7=>?_⟩
  have S7:=eS h7 (.lst (ss++xs6))
  have S57:=S6.trans S7
  obtain⟨M,okt⟩:=zf ok.2 ht
  have nt:=ze ht
  have er7:=S57 _ _ er6
  have eh7:=S57 _ _ eh6
  have k57:TK H H6:=fun b ws e=>S6 _ _ (k5 _ _ e)
  have k7:TK H (L2.Internal.upd H6 s7 (.lst (ss++xs6))):=fun b ws e=>S57 _ _ (k5 _ _ e)
  have is7:Ims (L2.Internal.upd H6 s7 (.lst (ss++xs6))) (ss++xs6) ((sc++exL ((exN κ)[k]?.getD none) (p+ 1+dn.length) pp pw).map enD):=by
   rw[bC]
   exact(is.mono k7).app (i6.mono (fC.tk S7))
  have n1:s7≠r:=fun z=>by rw[z,S6 _ _ er6]at h7;cases h7
  have n2:s7≠h:=fun z=>by rw[z,S6 _ _ eh6]at h7;cases h7
  refine⟨v,t,s7,r,h,ss++xs6,_,_,sc++exL ((exN κ)[k]?.getD none) (p+ 1+dn.length) pp pw,p+ 1+dn.length,d,M,rfl,iv.mono k7,by lia,eO,is7,er7,eh7,elen,by rw[aN,ay];lia,nrh,n1,n2,okt,by lia,by rw[aN];lia,fun H8 rs' hs' F8 er8 ir8 eh8 ih8=>?_⟩
  have e9:exS sc (hdX ((exN κ).drop k)) (p+ 1+dn.length) pp pw=sc++exL ((exN κ)[k]?.getD none) (p+ 1+dn.length) pp pw:=by rw[CK,Az]
  have k78:=F8.tk er7 eh7
  have k48:TK H4 H8:=fun b ws e=>k78 _ _ (S57 _ _ (k45 _ _ e))
  rw[y4,e9,<-bJ,List.tail_drop]at hdn
  refine⟨_,_,dn++pcT t (p+ 1+dn.length) (sc++exL ((exN κ)[k]?.getD none) (p+ 1+dn.length) pp pw) d,ps++[p+ 1+dn.length],p+ 1+dn.length,wT t (upE (val sc) (hdX ((exN κ).drop k)) pw),rr++rs',hh++hs',rfl,F5.trans ((FR.same S57).trans F8),?_,?_,by rw[aN,lps];rfl,fun j hj=>by rw[show j=k by lia];exact hpk,by rw[aN,jK,su ht,ldn],?_,?_,?_,?_,?_⟩
  ·rw[aN,jK,<-ck]
   exact hdn
  ·rw[aN,jK,<-ck,bJ]
   exact hps
  ·exact F8 _ _ (S57 _ _ epl5) nr nh
  ·rw[er8,bJ];rfl
  ·rw[bC];exact(ir4.mono k48).app ir8
  ·rw[eh8,bJ];rfl
  ·rw[bC];exact(ih4.mono k48).app ih8
 ·rintro σ H4 ⟨o6,o7,dn,ps,pp,pw,rr,hh,rfl,F4,hdn,hps,lps,hpp,ldn,epl,er4,ir4,eh4,ih4⟩
  rw[ly,bH]at hdn hps
  rw[show y4 [] (p+ 1+dn.length) pp pw ((exN κ).drop ks.length) sc d=[] by rw[y4],aC]at hdn
  rw[show gv [] (p+ 1+dn.length)=[]from rfl,aC]at hps
  subst hdn hps
  have k4:=F4.tk er eh
  refine⟨.ref a,κ,ks,pl,gv ks (p+ 1),N,rfl,i.mono k4,ok.1,epl,TM.Internal.offs_len _ _,fun H5 v S5 iv=>?_⟩
  have er5:=S5 _ _ er4
  have ej:ixN (rs++(V.non::rr)).length (p:Int)=some p:=by
   unfold ixN
   rw[fY (by lia),fY (by rw[aN,ay];lia)]
   rfl
  refine⟨r,_,_,p,rfl,rfl,er5,ej,?_⟩
  have et:(rs++(V.non::rr)).set p v=rs++(v::rr):=by rw[bQ _ _ (by lia),lr,cg];rfl
  rw[et]
  have k6:TK H5 (L2.Internal.upd H5 r (.lst (rs++(v::rr)))):=(ie er5).tk
  refine q _ (v::rr) (x::hh) (F4.trans ((FR.same S5).trans G9)) eO ?_ (by rw[eT nrh.symm];exact S5 _ _ eh4) ?_
  ·rw[pcT]
   exact .cons (iv.mono k6) ((ir4.mono (fC.tk S5)).mono k6)
  ·rw[pcT]
   exact(ih4.mono (fC.tk S5)).mono k6
theorem oQ (T:Txt K mg):∀f:Nat,FO P w base (f+ 2) T.d44 (CM f)
 |0=>by
  refine T.d44.F.ok iH (fun vs H Q E h=>?_) (fun cdv A0 outer s0 H vs Q E hr h=>?_)
  ·obtain⟨n,t,s,r,h,ss,rs,hs,sc,p,d,N,rfl,_⟩:=h
   rfl
  ·obtain⟨n,⟨κ,ks⟩,s,r,h,ss,rs,hs,sc,p,d,N,rfl,i,hf,_⟩:=h
   rw[Tr.nest]at hf
   lia
 |f+ 1=>sv T f (oQ T f)
open TM.Internal (Kn Tr gv szs)
def wdE (wl:List Str) (d:Nat):Str:=wl.getD (3+d) ""
structure Bt (H H':Hp) (wl:List Str) (ts:List Tr) (b n r w h:Addr):Prop where
 sm:fC H H'
 eb:H' b=some (.lst [.ref n,.ref r,.ref w,.ref h])
 en:∃ns:List Str,H' n=some (.lst (ns.map V.str))/\ns.length=ts.length
 er:H' r=some (.lst ((gv ts 0).map nI))
 ew:∃xs,H' w=some (.lst xs)/\Ims H' xs ((pcD (wdE wl) ts 0 0 []).map rD)
 eh:∃xs,H' h=some (.lst xs)/\Ims H' xs ((pcD (wdE wl) ts 0 0 []).map hD')
 nw:∀a∈[b,n,r,w,h],H a=none
inductive XBu (vs:List V) (H:Hp) (Q:VK):Prop
 |mk (wa l:Addr) (wl:List Str) (xs:List V) (ts:List Tr) (e:vs=[.ref wa,.ref l]) (hw:H wa=some (.lst (wl.map V.str))) (lw:wl.length=16) (hl:H l=some (.lst xs)) (ix:Ims H xs (ts.map ndD)) (lt:ts.length<=12) (ok:∀t∈ts,(∃N,okT t N)/\t.nest<=40) (sz:szs ts<=10000) (q:∀H' b n r w h,Bt H H' wl ts b n r w h->Q (.ref b) H')
def Gz:Sp:=fun vs H Q _=>XBu vs H Q
theorem AB {H:Hp} {t1 t2:Addr} {w:Str} {d:Nat} {H1:Hp} (h1:H t1=none) (h2:(L2.Internal.upd H t1 (.tup [.str "def",.int (d:Int)])) t2=none):Im (L2.Internal.upd (L2.Internal.upd H t1 (.tup [.str "def",.int (d:Int)])) t2 (.tup [.str w,.ref t1])) (.ref t2) (.tup [sD w,hmD ("def",(d:Int))]):=ip h2 (.cons (.flat rfl) (.cons (ip h1 (.cons (.flat rfl) (.cons (.flat rfl) .nil))) .nil))
theorem sx (T:Txt K mg):FO P w base 43 T.d45 Gz:=by
 have gD44:=oQ (P:=P) (w:=w) (base:=base) T 40
 refine T.d45.F.ok gj (fun vs H Q E h=>?_) (fun cdv A0 outer s0 H vs Q E hr h=>?_)
 ·obtain⟨wa,l,wl,xs,ts,rfl,_⟩:=h
  rfl
 obtain⟨wa,l,wl,xs,ts,rfl,hw,lw,hl,ix,lt,ok,sz,q⟩:=h
 refine⟨_,(eQ (pS (i:=2) gj.nd (fG eP))
  (eQ (pS (i:=3) gj.nd (fG eP))
  (eQ (pS (i:=4) gj.nd (fG eP))
  (eQ (pS (i:=5) gj.nd (fG eP))
  (eQ (pS (i:=6) gj.nd (fG eP))
  (eQ (jP PassesOwn.never rfl (Ca rfl T.z_enumerate (eN (cv 1) eP)) (vf rfl (jO (pN (i:=7) gj.nd) (jO (pN (i:=8) gj.nd) rE)))
   (eQ (pS (i:=6) gj.nd (fq qZ (cv 6) (fG (eN (fz (eN (eZ fc (cv 0) (fq gF eR (cv 7))) (eN (fz (eN fD (eN (cv 7) eP))) eP))) eP))))
   (eQ (fo (jV (lg dJ dM dN fZ (PE.mono (cv 2)) (eN (PE.mono (eZ fc (cv 0) (fq gF eR (cv 7)))) eP))))
   (eQ (fo (jV (lg dJ dM dN fZ (PE.mono (cv 3)) (eN (PE.mono (fJ fR rfl T.z_len ja (eN (cv 4) eP))) eP))))
   (eV (fo (pF T.d44 gD44 (hr.mono (by lia)) (eN (cv 8) (eN (cv 6) (eN (cv 4) (eN (cv 5) eP)))))))))))
  (eV (fu (fG (eN (cv 2) (eN (cv 3) (eN (cv 4) (eN (cv 5) eP))))))))))))),?_⟩
 have sl:=sizeLine_eq
 refine⟨mh,fun n hn=>?_⟩
 dsimp only[fK]
 refine⟨mh,fun r hr'=>?_⟩
 dsimp only[fK]
 refine⟨mh,fun rw' hrw=>?_⟩
 dsimp only[fK]
 refine⟨mh,fun hm hhm=>?_⟩
 dsimp only[fK]
 refine⟨mh,fun sa hsa=>?_⟩
 dsimp only[fK]
 have S1:=eS hn (.lst [])
 have S2:=eS hr' (.lst [])
 have S3:=eS hrw (.lst [])
 have S4:=eS hhm (.lst [])
 have S5:=eS hsa (.lst [])
 have en0:=S5 _ _ (S4 _ _ (S3 _ _ (S2 _ _ (show(L2.Internal.upd H n (.lst [])) n=some (.lst [])from eO))))
 have er0:=S5 _ _ (S4 _ _ (S3 _ _ (show(L2.Internal.upd (L2.Internal.upd H n (.lst [])) r (.lst [])) r=some (.lst [])from eO)))
 have ew0:=S5 _ _ (S4 _ _ (show(L2.Internal.upd (L2.Internal.upd (L2.Internal.upd H n (.lst [])) r (.lst [])) rw' (.lst [])) rw'=some (.lst [])from eO))
 have eh0:=S5 _ _ (show(L2.Internal.upd (L2.Internal.upd (L2.Internal.upd (L2.Internal.upd H n (.lst [])) r (.lst [])) rw' (.lst [])) hm (.lst [])) hm=some (.lst [])from eO)
 have es0:(L2.Internal.upd (L2.Internal.upd (L2.Internal.upd (L2.Internal.upd (L2.Internal.upd H n (.lst [])) r (.lst [])) rw' (.lst [])) hm (.lst [])) sa (.lst [])) sa=some (.lst []):=eO
 have S0:=S1.trans (S2.trans (S3.trans (S4.trans S5)))
 have n0:∀a∈[n,r,rw',hm],H a=none:=fun a ha=>by
  simp only[aj,bj,or_false]at ha
  have nn:∀{H2:Hp} {a:Addr},fC H H2->H2 a=none->H a=none:=fun{H2 a} S h=>by cases z:H a with|none=>rfl|some u=>rw[S _ _ z]at h;cases h
  rcases ha with rfl|rfl|rfl|rfl
  ·exact hn
  ·exact nn S1 hr'
  ·exact nn (S1.trans S2) hrw
  ·exact nn (S1.trans (S2.trans S3)) hhm
 have d1:r≠n:=fun z=>by rw[z,show(L2.Internal.upd H n (.lst [])) n=some (.lst [])from eO]at hr';cases hr'
 have d2:rw'≠n:=fun z=>by rw[z,S2 _ _ (show(L2.Internal.upd H n (.lst [])) n=some (.lst [])from eO)]at hrw;cases hrw
 have d3:rw'≠r:=fun z=>by rw[z,show(L2.Internal.upd (L2.Internal.upd H n (.lst [])) r (.lst [])) r=some (.lst [])from eO]at hrw;cases hrw
 have d4:hm≠n:=fun z=>by rw[z,S3 _ _ (S2 _ _ (show(L2.Internal.upd H n (.lst [])) n=some (.lst [])from eO))]at hhm;cases hhm
 have d5:hm≠r:=fun z=>by rw[z,S3 _ _ (show(L2.Internal.upd (L2.Internal.upd H n (.lst [])) r (.lst [])) r=some (.lst [])from eO)]at hhm;cases hhm
 have d6:hm≠rw':=fun z=>by rw[z,show(L2.Internal.upd (L2.Internal.upd (L2.Internal.upd H n (.lst [])) r (.lst [])) rw' (.lst [])) rw'=some (.lst [])from eO]at hhm;cases hhm
 have ds:sa≠n/\sa≠r/\sa≠rw'/\sa≠hm:=by
  refine⟨fun z=>?_,fun z=>?_,fun z=>?_,fun z=>?_⟩
  ·rw[z,S4 _ _ (S3 _ _ (S2 _ _ (show(L2.Internal.upd H n (.lst [])) n=some (.lst [])from eO)))]at hsa;cases hsa
  ·rw[z,S4 _ _ (S3 _ _ (show(L2.Internal.upd (L2.Internal.upd H n (.lst [])) r (.lst [])) r=some (.lst [])from eO))]at hsa;cases hsa
  ·rw[z,S4 _ _ (show(L2.Internal.upd (L2.Internal.upd (L2.Internal.upd H n (.lst [])) r (.lst [])) rw' (.lst [])) rw'=some (.lst [])from eO)]at hsa;cases hsa
  ·rw[z,show(L2.Internal.upd (L2.Internal.upd (L2.Internal.upd (L2.Internal.upd H n (.lst [])) r (.lst [])) rw' (.lst [])) hm (.lst [])) hm=some (.lst [])from eO]at hsa;cases hsa
 clear hn hr' hrw hhm hsa S1 S2 S3 S4 S5
 generalize(L2.Internal.upd (L2.Internal.upd (L2.Internal.upd (L2.Internal.upd (L2.Internal.upd H n (.lst [])) r (.lst [])) rw' (.lst [])) hm (.lst [])) sa (.lst []))=H0 at*
 have lx:=ix.length
 rw[aB]at lx
 refine⟨l,rfl,⟨_,SqL.of (S0 _ _ hl)⟩,Ar (xs:=xs) (fun k σ H4=>X10 fun(o7 o8:Option V) (sa:Addr) (ss:List V) (sc:Sc) (dn:List Pc) (ps:List Nat) (ns:List Str) (rr hh:List V)=>Y17 (σ=[some (.ref wa),some (.ref l),some (.ref n),some (.ref r),some (.ref rw'),some (.ref hm),some (.ref sa),o7,o8]) (fC H H4) (dn++pcD (wdE wl) (ts.drop k) k dn.length sc=pcD (wdE wl) ts 0 0 []) (ps++gv (ts.drop k) dn.length=gv ts 0) (ps.length=k) (dn.length=szs (ts.take k)) (H4 sa=some (.lst ss)) (Ims H4 ss (sc.map enD)) (ss.length=k) ((sa≠n/\sa≠r/\sa≠rw'/\sa≠hm)) (H4 n=some (.lst (ns.map V.str))) (ns.length=k) (H4 r=some (.lst (ps.map nI))) (H4 rw'=some (.lst rr)) (Ims H4 rr (dn.map rD)) (H4 hm=some (.lst hh)) (Ims H4 hh (dn.map hD'))) ?_ ?_ ?_ ?_⟩
 ·exact⟨none,none,sa,[],[],[],[],[],[],[],rfl,S0,rfl,rfl,rfl,rfl,es0,.nil,rfl,ds,en0,rfl,er0,ew0,.nil,eh0,.nil⟩
 ·rintro k σ H4 _ ⟨o7,o8,sa,ss,sc,dn,ps,ns,rr,hh,_,S,_⟩
  exact SqL.of (S _ _ hl)
 ·rintro k v σ H4 t4 hv ⟨o7,o8,sa,ss,sc,dn,ps,ns,rr,hh,rfl,S,hdn,hps,lps,ldn,es,is,lss,⟨m1,m2,m3,m4⟩,en,lns,er,ew,iw,eh,ih⟩ h4
  obtain⟨dv,e1,iv⟩:=jx ix hv
  rw[aJ]at e1
  obtain⟨t,ht,rfl⟩:=cB.mp e1
  have hk:k<ts.length:=(aq.mp ht).1
  rw[tR ht]at hdn hps
  obtain⟨⟨N,okt⟩,nt⟩:=ok t (aM ht)
  have lsz:=CN ht
  have T4:=eS h4 (.tup [.int (k:Int),v])
  refine⟨t4,_,rfl,SqT.of eO,rfl,_,_,rfl,_,_,rfl,rfl,?_⟩
  have ek:(wl.map V.str)[3+k]?=some (.str (wdE wl k)):=by
   rw[aJ,ba (show 3+k<wl.length by lia)]
   show some (V.str _)=_
   unfold wdE
   rw[bp,ba (show 3+k<wl.length by lia)]
   rfl
  have c3:(3:Int)+(k:Int)=((3+k:Nat):Int):=by lia
  have ea:atI (wl.map V.str) ((3:Int)+(k:Int))=some (.str (wdE wl k)):=by rw[c3];exact eU ek
  have S4:=S.trans T4
  have hw4:=S4 _ _ hw
  refine⟨_,hw4,eX ea ⟨lQ,fun t1 h1=>⟨lQ,fun t2 h2=>⟨lY,fun l3 h3=>?_⟩⟩⟩⟩
  have T1:=eS h1 (.tup [.str "def",.int (k:Int)])
  have T2:=eS h2 (.tup [.str (wdE wl k),.ref t1])
  have T3:=eS h3 (.lst [.ref t2])
  have T13:=T4.trans (T1.trans (T2.trans T3))
  refine⟨sa,l3,ss,_,rfl,rfl,T13 _ _ es,eO,by rw[lss];show k+ 1<=_;lia,fun s5 h5=>?_⟩
  dsimp only[fK]
  have T5:=eS h5 (.lst (ss++[.ref t2]))
  have T45:=T13.trans T5
  have is5:Ims (L2.Internal.upd (L2.Internal.upd (L2.Internal.upd (L2.Internal.upd (L2.Internal.upd H4 t4 (.tup [.int (k:Int),v])) t1 (.tup [.str "def",.int (k:Int)])) t2 (.tup [.str (wdE wl k),.ref t1])) l3 (.lst [.ref t2])) s5 (.lst (ss++[.ref t2]))) (ss++[.ref t2]) ((sc++[dfE (wdE wl) k 0]).map enD):=by
   rw[bC]
   exact(is.mono (fC.tk T45)).app (.cons ((AB (H1:=H4) h1 h2).mono (fC.tk (T3.trans T5))) .nil)
  have es5:(L2.Internal.upd (L2.Internal.upd (L2.Internal.upd (L2.Internal.upd (L2.Internal.upd H4 t4 (.tup [.int (k:Int),v])) t1 (.tup [.str "def",.int (k:Int)])) t2 (.tup [.str (wdE wl k),.ref t1])) l3 (.lst [.ref t2])) s5 (.lst (ss++[.ref t2]))) s5=some (.lst (ss++[.ref t2])):=eO
  have nx:∀{a:Addr} {o:HO},H4 a=some o->s5≠a:=fun e z=>by rw[<-z]at e;rw[T13 _ _ e]at h5;cases h5
  have m1:=nx en
  have m2:=nx er
  have m3:=nx ew
  have m4:=nx eh
  generalize(L2.Internal.upd (L2.Internal.upd (L2.Internal.upd (L2.Internal.upd (L2.Internal.upd H4 t4 (.tup [.int (k:Int),v])) t1 (.tup [.str "def",.int (k:Int)])) t2 (.tup [.str (wdE wl k),.ref t1])) l3 (.lst [.ref t2])) s5 (.lst (ss++[.ref t2])))=H5 at T45 is5 es5
  have en5:=T45 _ _ en
  refine⟨⟨_,en5⟩,_,T45 _ _ (S _ _ hw),eX ea ⟨_,en5,by rw[aB];lia,?_⟩⟩
  have k6:TK H5 (L2.Internal.upd H5 n (.lst (ns.map V.str++[.str (wdE wl k)]))):=(ie en5).tk
  have er6:(L2.Internal.upd H5 n (.lst (ns.map V.str++[.str (wdE wl k)]))) r=some (.lst (ps.map nI)):=by rw[eT d1];exact T45 _ _ er
  have ew6:(L2.Internal.upd H5 n (.lst (ns.map V.str++[.str (wdE wl k)]))) rw'=some (.lst rr):=by rw[eT d2];exact T45 _ _ ew
  refine⟨⟨_,er6⟩,rw',_,rfl,.inl (SqL.of ew6),_,er6,by rw[aB];lia,?_⟩
  have lrr:=iw.length
  have lhh:=ih.length
  rw[aB]at lrr lhh
  rw[lrr]
  have k7:TK H5 (L2.Internal.upd (L2.Internal.upd H5 n (.lst (ns.map V.str++[.str (wdE wl k)]))) r (.lst (ps.map nI++[.int (dn.length:Int)]))):=fun a ws e=>(ie er6).tk _ _ (k6 _ _ e)
  have es7:(L2.Internal.upd (L2.Internal.upd H5 n (.lst (ns.map V.str++[.str (wdE wl k)]))) r (.lst (ps.map nI++[.int (dn.length:Int)]))) s5=some (.lst (ss++[.ref t2])):=by rw[eT m2,eT m1];exact es5
  have ew7:(L2.Internal.upd (L2.Internal.upd H5 n (.lst (ns.map V.str++[.str (wdE wl k)]))) r (.lst (ps.map nI++[.int (dn.length:Int)]))) rw'=some (.lst rr):=by rw[eT d3];exact ew6
  have eh7:(L2.Internal.upd (L2.Internal.upd H5 n (.lst (ns.map V.str++[.str (wdE wl k)]))) r (.lst (ps.map nI++[.int (dn.length:Int)]))) hm=some (.lst hh):=by rw[eT d5,eT d4];exact T45 _ _ eh
  have en7:(L2.Internal.upd (L2.Internal.upd H5 n (.lst (ns.map V.str++[.str (wdE wl k)]))) r (.lst (ps.map nI++[.int (dn.length:Int)]))) n=some (.lst ((ns++[wdE wl k]).map V.str)):=by rw[eT d1.symm,eO,bC];rfl
  have er7:(L2.Internal.upd (L2.Internal.upd H5 n (.lst (ns.map V.str++[.str (wdE wl k)]))) r (.lst (ps.map nI++[.int (dn.length:Int)]))) r=some (.lst ((ps++[dn.length]).map nI)):=by rw[eO,bC];rfl
  have S7:fC H (L2.Internal.upd (L2.Internal.upd H5 n (.lst (ns.map V.str++[.str (wdE wl k)]))) r (.lst (ps.map nI++[.int (dn.length:Int)]))):=fun a u e=>by
   rw[eT (eY e (n0 r (by simp))),eT (eY e (n0 n (by simp)))]
   exact T45 _ _ (S _ _ e)
  generalize(L2.Internal.upd (L2.Internal.upd H5 n (.lst (ns.map V.str++[.str (wdE wl k)]))) r (.lst (ps.map nI++[.int (dn.length:Int)])))=H7 at k7 es7 ew7 eh7 en7 er7 S7
  have k47:TK H4 H7:=fun a ws e=>k7 _ _ (T45 _ _ e)
  refine⟨v,t,s5,rw',hm,ss++[.ref t2],rr,hh,sc++[dfE (wdE wl) k 0],dn.length,k,N,rfl,iv.mono (fC.tk S7),nt,es7,is5.mono k7,ew7,eh7,lrr,lhh,d6.symm,m3,m4,okt,by lia,by rw[aN,lss];show k+ 1+_<=_;lia,fun H8 rs' hs' F8 er8 ir8 eh8 ih8=>?_⟩
  have k78:=F8.tk ew7 eh7
  have k48:TK H4 H8:=fun a ws e=>k78 _ _ (k47 _ _ e)
  have k58:TK H5 H8:=fun a ws e=>k78 _ _ (k7 _ _ e)
  rw[pcD,<-bJ]at hdn
  refine⟨_,_,s5,ss++[.ref t2],sc++[dfE (wdE wl) k (wT t (val (sc++[dfE (wdE wl) k 0])))],dn++pcT t dn.length (sc++[dfE (wdE wl) k 0]) k,ps++[dn.length],ns++[wdE wl k],rr++rs',hh++hs',rfl,fun a u e=>F8 _ _ (S7 _ _ e) (eY e (n0 rw' (by simp))) (eY e (n0 hm (by simp))),?_,?_,by rw[aN,lps];rfl,by rw[aN,jK,su ht,ldn],F8 _ _ es7 m3 m4,?_,by rw[aN,lss];rfl,⟨m1,m2,m3,m4⟩,F8 _ _ en7 d2.symm d4.symm,by rw[aN,lns];rfl,F8 _ _ er7 d3.symm d5.symm,er8,?_,eh8,?_⟩
  ·rw[aN,jK];exact hdn
  ·rw[aN,jK,bJ];exact hps
  ·have e0:(sc++[dfE (wdE wl) k (wT t (val (sc++[dfE (wdE wl) k 0])))]).map enD=(sc++[dfE (wdE wl) k 0]).map enD:=by rw[bC,bC];rfl
   rw[e0]
   exact is5.mono k58
  ·rw[bC];exact(iw.mono k48).app ir8
  ·rw[bC];exact(ih.mono k48).app ih8
 ·rintro σ H4 ⟨o7,o8,sa,ss,sc,dn,ps,ns,rr,hh,rfl,S,hdn,hps,lps,ldn,es,is,lss,ms,en,lns,er,ew,iw,eh,ih⟩
  rw[lx,bH]at hdn hps
  rw[show pcD (wdE wl) [] ts.length dn.length sc=[]from rfl,aC]at hdn
  rw[show gv [] dn.length=[]from rfl,aC]at hps
  subst hdn hps
  refine⟨xn,fun b hb=>?_⟩
  have Tb:=eS hb (.lst [.ref n,.ref r,.ref rw',.ref hm])
  have kb:=fC.tk Tb
  refine q _ b n r rw' hm ⟨S.trans Tb,eO,⟨ns,Tb _ _ en,lns.trans lx⟩,Tb _ _ er,⟨rr,Tb _ _ ew,iw.mono kb⟩,⟨hh,Tb _ _ eh,ih.mono kb⟩,fun a ha=>?_⟩
  rcases aj.mp ha with rfl|ha
  ·cases z:H a with
   |none=>rfl
   |some u=>rw[S _ _ z]at hb;cases hb
  ·exact n0 a ha
def t6:Sp:=fun vs H Q _=>∃c m:Int,vs=[.int c,.int m]/\0<=m/\m<=100/\∀x:Str,x.length<=100->Q (.str x) H
theorem sg36:("abcdefghijklmnopqrstuvwxyz0123456789":Str).cps.toList.length=36:=fS
theorem lP (c:Nat):(⟨#[c]⟩:Str).length=1:=rfl
theorem t8 (T:Txt K mg):FO P w base 1 T.d26 t6:=by
 refine T.d26.F.rd gK fun cdv A outer s H vs Q E hr h=>?_
 obtain⟨c,m,rfl,h0,h1,q⟩:=h
 refine⟨_,(eQ (pS (i:=2) gK.nd fD)
  (eQ (pS (i:=3) gK.nd fD)
  (eQ (jP PassesOwn.never rfl (gS rfl T.z_range (eN (pv 1) eP)) (pN (i:=4) gK.nd)
   (eQ (pS (i:=5) gK.nd eR)
   (eQ (gB (pA wk (pv 4) eR)
    (eV (pS (i:=5) gK.nd eR))
    fF)
   (eQ (pS (i:=3) gK.nd (fq lR (pv 3) (eZ xV (pv 2) (fq pq (pv 0) (pv 5)))))
   (eV (pS (i:=0) gK.nd (fq mi (pv 0) eR)))))))
  (eV (fu (pv 3)))))),?_⟩
 have sl:=sizeLine_eq
 refine⟨_,rfl,_,rfl,by lia,by lia,kY (fun i σ H2=>∃(y:Str) (c:Int) (o o2:Option V),σ=[some (.int c),some (.int m),some (.str "abcdefghijklmnopqrstuvwxyz0123456789"),some (.str y),o,o2]/\H2=H/\y.length<=i)
  ⟨"",c,none,none,rfl,rfl,cb _⟩ ?_ ?_⟩
 ·rintro i σ H2 hi ⟨y,c,o,o2,rfl,rfl,hy⟩
  have step:∀n:Int,(n=26\/n=36)->∃ch:Nat,atI ("abcdefghijklmnopqrstuvwxyz0123456789":Str).cps.toList (c%n)=some ch:=fun n hn=>by
   have hp:(0:Int)<n:=by lia
   have a0:=ee c (Int.ne_of_gt hp)
   have a1:=eg c hp
   obtain⟨ch,e,_⟩:=A2 ("abcdefghijklmnopqrstuvwxyz0123456789":Str).cps.toList (c%n) a0 (by rw[sg36];lia)
   exact⟨ch,e⟩
  refine⟨_,rfl,rfl,_,rfl,G2 (fun _=>?_) (fun _=>?_)⟩
  ·obtain⟨ch,e⟩:=step 26 (.inl rfl)
   refine⟨_,rfl,_,rfl,_,rfl,_,rfl,_,_,rfl,rfl,(by show(0:Int)<26;decide),_,_,_,rfl,rfl,sz fS,e,_,_,rfl,rfl,by rw[lP];lia,?_⟩
   refine⟨_,rfl,_,_,rfl,rfl,⟨by decide,by decide⟩,?_⟩
   exact⟨_,_,_,_,rfl,rfl,by rw[Str.length_append,lP];lia⟩
  ·obtain⟨ch,e⟩:=step 36 (.inr rfl)
   refine⟨_,rfl,_,rfl,_,rfl,_,rfl,_,_,rfl,rfl,(by show(0:Int)<36;decide),_,_,_,rfl,rfl,sz fS,e,_,_,rfl,rfl,by rw[lP];lia,?_⟩
   refine⟨_,rfl,_,_,rfl,rfl,⟨by decide,by decide⟩,?_⟩
   exact⟨_,_,_,_,rfl,rfl,by rw[Str.length_append,lP];lia⟩
 ·rintro σ H2 ⟨y,c,o,o2,rfl,rfl,hy⟩
  exact⟨_,rfl,q y (by lia)⟩
def sgn (k:Nat):Nat:=("abcdefghijklmnop":Str).cps.toList.getD k 0
def w1 (A B:Str) (k:Nat):Str:=A++⟨#[sgn k]⟩++B
def t7 (z:Int):Nat:=(atI ("t7":Str).cps.toList z).getD 0
def part (j:Nat):Int:=([8,4,2,1]:List Int).getD j 1
def bit (k j:Nat):Nat:=t7 ((0+(k:Int))/part j%2)
def w2 (x:Str) (k:Nat):Nat->Str
 |0=>x
 |j+ 1=>w2 x k j++⟨#[bit k j]⟩
theorem CQ {l:List Nat} {i:Nat} (h:i<l.length):atI l (0+(i:Int))=some (l.getD i 0):=by
 rw[eB,bp,ba h]
 exact eU (ba h)
theorem vP (a b:Str):(a++b).cps.toList=a.cps.toList++b.cps.toList:=Array.toList_append
theorem t9 {f:Nat->Str} (h:∀a,a<16->∀b,b<16->a≠b->f a≠f b):((aa 16).map f).Nodup:=by
 rw[List.Nodup,List.pairwise_map]
 refine List.Pairwise.imp_of_mem (fun{a b} ha hb hlt=>?_) List.pairwise_lt_range
 exact h a (ae.mp ha) b (ae.mp hb) (bZ hlt)
theorem Eu:∀a,a<16->∀b,b<16->a≠b->sgn a≠sgn b:=fS
theorem Ew:∀a,a<16->∀b,b<16->a≠b->[bit a 0,bit a 1,bit a 2,bit a 3]≠[bit b 0,bit b 1,bit b 2,bit b 3]:=fS
theorem AD (A B:Str):((aa 16).map (w1 A B)).Nodup:=t9 fun a ha b hb hn e=>by
 have h:=congrArg (fun z:Str=>z.cps.toList) e
 simp only[w1,vP]at h
 have h2:=bR (List.append_cancel_right h)
 injection h2 with h3 _
 exact Eu a ha b hb hn h3
theorem AE (x:Str):((aa 16).map fun k=>w2 x k 4).Nodup:=t9 fun a ha b hb hn e=>by
 have h:=congrArg (fun z:Str=>z.cps.toList) e
 simp only[w2,vP,bJ]at h
 have h2:=bR h
 exact Ew a ha b hb hn h2
theorem rq {f:Nat->Str} (i:Nat):(aa (i+ 1)).map f=(aa i).map f++[f i]:=by
 rw[bS,bC]
 rfl
def Wd (H:Hp) (l:Addr):Prop:=∃ws:List Str,H l=some (.lst (ws.map V.str))/\ws.length=16/\ws.Nodup
def sy:Sp:=fun vs H Q _=>∃c:Int,vs=[.int c]/\∀l H',fC H H'->H l=none->Wd H' l->Q (.ref l) H'
theorem sA (T:Txt K mg):FO P w base 2 T.d27 sy:=by
 have gD26:=t8 (P:=P) (w:=w) (base:=base) T
 refine T.d27.F.rd fW fun cdv A outer s H vs Q E hr h=>?_
 obtain⟨c,rfl,q⟩:=h
 refine⟨_,(eQ (pS (i:=0) fW.nd (fq pq (pv 0) (fq AN eR eR)))
  (eQ (pS (i:=1) fW.nd (fq vk (fq pq (pv 0) eR) eR))
  (eQ (pS (i:=2) fW.nd (fG eP))
  (eQ (gB (pA wk (fq pq (fq mi (pv 0) eR) eR) eR)
   (eQ (pS (i:=3) fW.nd (pF T.d26 gD26 hr.m (eN (fq mi (pv 0) eR) (eN (fq vk (pv 1) eR) eP))))
   (eQ (pS (i:=4) fW.nd (fq pq (fq mi (pv 0) eR) (fq vk (pv 1) eR)))
   (eQ (jP PassesOwn.never rfl (gS rfl T.z_range (eN eR eP)) (pN (i:=5) fW.nd)
    (eV (fo (lg dJ dM dN fZ (pv 2) (eN (fq lR (fq lR (kz AX (pv 3) nM (k9 (pv 4))) (eZ xV fD (pv 5))) (kz AX (pv 3) (k9 (pv 4)) nM)) eP)))))
   (eV (fu (pv 2))))))
   fF)
  (eQ (pS (i:=3) fW.nd (pF T.d26 gD26 hr.m (eN (fq mi (pv 0) eR) (eN (pv 1) eP))))
  (eQ (jP PassesOwn.never rfl (gS rfl T.z_range (eN eR eP)) (pN (i:=5) fW.nd)
   (eQ (pS (i:=6) fW.nd (pv 3))
   (eQ (jP PassesOwn.never rfl (iA (fG (eN eR (eN eR (eN eR (eN eR eP)))))) (pN (i:=7) fW.nd)
    (eV (pS (i:=6) fW.nd (fq lR (pv 6) (eZ xV fD (fq pq (fq mi (pv 5) (pv 7)) eR))))))
   (eV (fo (lg dJ dM dN fZ (pv 2) (eN (pv 6) eP)))))))
  (eV (fu (pv 2))))))))),?_⟩
 have sl:=sizeLine_eq
 refine⟨_,rfl,_,_,rfl,rfl,⟨by decide,by decide,by decide⟩,_,_,rfl,rfl,(by show(0:Int)<10^(24:Int).toNat;decide+kernel),?_⟩
 dsimp only
 generalize c%10^(24:Int).toNat=c
 refine⟨_,rfl,_,_,rfl,rfl,(by show(0:Int)<8;decide),_,_,rfl,rfl,?_⟩
 have s0:=ee c (show(8:Int)≠0 by decide)
 have s1:=eg c (show(0:Int)<8 by decide)
 refine⟨mh,fun l hl=>?_⟩
 have fin:∀(f:Nat->Str) (H2:Hp),fC H H2->H2 l=some (.lst (((aa 16).map f).map V.str))->((aa 16).map f).Nodup->Q (.ref l) H2:=fun f H2 S e hw=>q l H2 S hl ⟨_,e,by rw[aB,bT],hw⟩
 have S1:fC H (upd H l (.lst [])):=eS hl _
 refine⟨_,rfl,_,_,rfl,rfl,⟨by decide,by decide⟩,_,_,rfl,rfl,(by show(0:Int)<2;decide),rfl,_,rfl,G2 (fun _=>?_) (fun _=>?_)⟩
 ·refine⟨_,rfl,_,_,rfl,rfl,⟨by decide,by decide⟩,_,rfl,_,_,rfl,rfl,_,_,rfl,by lia,by lia,fun x hx=>?_⟩
  refine⟨_,rfl,_,_,rfl,rfl,⟨by decide,by decide⟩,_,rfl,_,_,rfl,rfl,_,_,rfl,rfl,(by show(0:Int)<c%8+ 1+ 4;lia),?_⟩
  dsimp only
  generalize c/16%(c%8+ 1+ 4)=at_
  refine⟨16,rfl,by decide,by decide,kY (fun i σ H2=>∃(o:Option V),σ=[some (.int c),some (.int (c%8+ 1)),some (.ref l),some (.str x),some (.int at_),o,none,none]/\fC H H2/\H2 l=some (.lst (((aa i).map (w1 (Txt.slice x none (some at_)) (Txt.slice x (some at_) none))).map V.str)))
   ⟨none,rfl,S1,eO⟩ ?_ ?_⟩
  ·rintro i σ H2 hi ⟨o,rfl,S,e⟩
   have hi16:i<16:=hi
   have e1:=CQ (l:=("abcdefghijklmnop":Str).cps.toList) (i:=i) (by rw[show("abcdefghijklmnop":Str).cps.toList.length=16 by decide+kernel];lia)
   have la:=Txt.slice_le x none (some at_)
   have lb:=Txt.slice_le x (some at_) none
   refine⟨_,rfl,.inl ⟨rfl,_,SqL.of e⟩,_,rfl,_,rfl,_,rfl,_,rfl,by lia,_,rfl,_,_,_,rfl,rfl,sz fS,e1,_,_,rfl,rfl,by rw[lP];lia,_,rfl,_,rfl,_,rfl,_,rfl,by lia,_,_,rfl,rfl,by rw[Str.length_append,lP];lia,l,_,_,rfl,rfl,e,by rw[aB,aB,bT];lia,?_⟩
   refine⟨_,rfl,pe S hl _,?_⟩
   rw[eO,rq,bC]
   rfl
  ·rintro σ H2 ⟨o,rfl,S,e⟩
   exact⟨_,rfl,fin _ H2 S e (AD _ _)⟩
 ·refine⟨_,rfl,_,_,rfl,rfl,⟨by decide,by decide⟩,_,rfl,_,_,rfl,by lia,by lia,fun x hx=>?_⟩
  refine⟨16,rfl,by decide,by decide,kY (fun i σ H2=>∃(o o2 o3:Option V),σ=[some (.int c),some (.int (c%8+ 1)),some (.ref l),some (.str x),none,o,o2,o3]/\fC H H2/\H2 l=some (.lst (((aa i).map fun k=>w2 x k 4).map V.str)))
   ⟨none,none,none,rfl,S1,eO⟩ ?_ ?_⟩
  ·rintro i σ H2 hi ⟨o,o2,o3,rfl,S,e⟩
   have hi16:i<16:=hi
   refine⟨_,rfl,xn,fun p hp=>⟨p,rfl,⟨_,SqL.of eO⟩,?_⟩⟩
   have S2:fC H (upd H2 p (.lst [V.int 8,V.int 4,V.int 2,V.int 1])):=S.trans (eS hp _)
   have nlp:l≠p:=eY e hp
   refine rF (xs:=[V.int 8,V.int 4,V.int 2,V.int 1]) (fun j σ H3=>∃(o3:Option V),σ=[some (.int c),some (.int (c%8+ 1)),some (.ref l),some (.str x),none,some (.int (0+(i:Int))),some (.str (w2 x i j)),o3]/\H3=upd H2 p (.lst [V.int 8,V.int 4,V.int 2,V.int 1])/\(w2 x i j).length<=100+j)
    ⟨o3,rfl,rfl,hx⟩ (fun j σ H3 _ ⟨o4,_,e3,_⟩=>by rw[e3];exact SqL.of eO) ?_ ?_
   ·rintro j v σ H3 hv ⟨o4,rfl,rfl,hy⟩
    have hj:j<4:=(aq.mp hv).1
    have hn:v= .int (part j)/\0<part j/\part j<1073741824:=by
     match j,hj,hv with
     |0,_,hv=>cases hv;exact⟨rfl,by decide,by decide⟩
     |1,_,hv=>cases hv;exact⟨rfl,by decide,by decide⟩
     |2,_,hv=>cases hv;exact⟨rfl,by decide,by decide⟩
     |3,_,hv=>cases hv;exact⟨rfl,by decide,by decide⟩
    obtain⟨rfl,n0,n1⟩:=hn
    obtain⟨ch,e1,_⟩:=A2 ("t7":Str).cps.toList ((0+(i:Int))/part j%2) (ee _ (by decide)) (by rw[show("t7":Str).cps.toList.length=2 by decide+kernel];exact eg _ (by decide))
    have ech:ch=bit i j:=by rw[bit,t7,e1];rfl
    subst ech
    refine⟨_,rfl,_,rfl,_,rfl,_,_,rfl,rfl,⟨n0,n1⟩,_,_,rfl,rfl,(by show(0:Int)<2;decide),_,_,_,rfl,rfl,sz fS,e1,_,_,rfl,rfl,by rw[lP];lia,?_⟩
    exact⟨_,rfl,rfl,by rw[w2,Str.length_append,lP];lia⟩
   ·rintro σ H3 ⟨o4,rfl,rfl,hy⟩
    have e4:(upd H2 p (.lst [V.int 8,V.int 4,V.int 2,V.int 1])) l=some (.lst (((aa i).map fun k=>w2 x k 4).map V.str)):=by rw[eT nlp];exact e
    refine⟨_,rfl,.inl ⟨rfl,_,SqL.of e4⟩,_,rfl,l,_,_,rfl,rfl,e4,by rw[aB,aB,bT];lia,?_⟩
    refine⟨_,_,_,rfl,pe S2 hl _,?_⟩
    rw[eO,rq,bC]
    rfl
  ·rintro σ H2 ⟨o,o2,o3,rfl,S,e⟩
   exact⟨_,rfl,fin _ H2 S e (AE x)⟩
def AF:Nat->Sp
 |0=>fun _ _ _ _=>False
 |n+ 1=>fun vs H Q _=>X3 fun(x y:V) (d:Dt)=>Y6 (vs=[x,y]) (Dta H x d) (Dta H y d) (jb d<=n) (okD d) (∀H',fC H H'->Q (.bl true) H')
theorem zh {K:PySem.W.Frag} {H:Hp} {a:Addr} {xs:List V} (h:H a=some (.tup xs)):Fw K (.ref a) H xs.length:= .inr ⟨xs,SqT.of h,rfl⟩
theorem zi {K:PySem.W.Frag} {H:Hp} {a:Addr} {xs:List V} (h:H a=some (.lst xs)):Fw K (.ref a) H xs.length:= .inl ⟨xs,SqL.of h,rfl⟩
theorem vQ (n:Nat):(aF n true).all id=true:=by
 rw[List.all_eq_true]
 intro b hb
 exact(List.mem_replicate.mp hb).2
theorem zj {J:It} {g:TG} {te:TE} {Q:VK} {τ:St} {H1:Hp} {D:Addr} (n:Nat) (hn:n<sizeLine) (hD:H1 D=none)
  (hgo:∀k H,fC H1 H->k<n->J.go k H) (hst:∀H,fC H1 H->J.stop n H)
  (step:∀(k:Nat) (H:Hp) (v:V) (H3:Hp) (R:St->V->Hp->Prop),fC H1 H->k<n->J.yld k H v H3->∀σ':St,σ'.length=τ.length->(∀(σ4:St) (H5:Hp),σ4.length=τ.length->fC H H5->R σ4 (.bl true) H5)->g v σ' H3 fun σ4 H4=>te σ4 H4 (R σ4))
  (hq:∀H',fC H1 H'->H' D=some (.lst ((aF n true).map V.bl))->Q (.ref D) H'):LcG J g te Q τ H1 D:=by
 refine⟨fun k m σ' H2=>m=n-k/\k<=n/\σ'.length=τ.length/\fC H1 H2/\H2 D=some (.lst ((aF k true).map V.bl)),⟨n,by simp,cc _,rfl,eS hD _,eO⟩,?_⟩
 rintro k m σ' H2 ⟨rfl,hk,hl,S,e⟩
 by_cases hlt:k<n
 ·refine .inr ⟨hgo k H2 S hlt,fun v H3 y=>step k H2 v H3 (fun(σ4:St) (x:V) (H5:Hp)=>∃xs,H5 D=some (.lst xs)/\xs.length<sizeLine/\∃m',m'<n-k/\m'=n-(k+ 1)/\k+ 1<=n/\σ4.length=τ.length/\fC H1 (upd H5 D (.lst (xs++[x])))/\(upd H5 D (.lst (xs++[x]))) D=some (.lst ((aF (k+ 1) true).map V.bl))) S hlt y σ' hl fun σ4 H5 h4 S5=>?_⟩
  refine⟨_,S5 D _ e,by rw[aB,aO];lia,n-(k+ 1),by lia,rfl,hlt,h4,pe (S.trans S5) hD _,?_⟩
  rw[eO,bU,bC]
  rfl
 ·have e1:k=n:=by lia
  subst e1
  exact .inl ⟨hst H2 S,hq H2 S e⟩
theorem nF (T:Txt K mg):∀n,FO P w base (n+ 1) T.d28 (AF n)
 |0=>T.d28.F.ok m9 (fun vs H Q E h=>h.elim) (fun cdv A outer s H vs Q E hr h=>h.elim)
 |n+ 1=>by
  have gD28:=nF (P:=P) (w:=w) (base:=base) T n
  refine T.d28.F.rd m9 fun cdv A outer s H vs Q E hr h=>?_
  obtain⟨x,y,d,rfl,hx,hy,hd,ho,q⟩:=h
  refine⟨_,(eQ (gB (m7 (fJ tm rfl T.z_isinstance f6 (eN (pv 1) (eN (fz (eN (kW rfl T.z_list jU) (eN (kW rfl T.z_tuple ir) eP))) eP))))
   (eQ (gB (PW.pt (zJ (xw (m7 (fJ tm rfl T.z_isinstance f6 (eN (pv 0) (eN (fz (eN (kW rfl T.z_list jU) (eN (kW rfl T.z_tuple ir) eP))) eP))))) (xu (pA BQ (fJ jQ rfl T.z_isinstance f6 (eN (pv 0) (eN (kW rfl T.z_list jU) eP))) (fJ jQ rfl T.z_isinstance f6 (eN (pv 1) (eN (kW rfl T.z_list jU) eP)))))))
    (eV (fu wb))
    fF)
   (eV (fu (vd (nL wk (fJ vn rfl T.z_len ja (eN (pv 0) eP)) (fJ vn rfl T.z_len ja (eN (pv 1) eP))) (sN (fJ (zW rfl) rfl T.z_all DR (eN (AZ (g:=DB K 2 (rC (fK 0) (rC (fK 1) DA))) rfl (DV (x:="_law_one") (y:="_law_other") rfl fS fS rfl (by decide) rfl) (PI.or (AY rfl T.z_zip (eN (pv 0) (eN (pv 1) eP))) (Cd rfl T.z_zip (eN (pv 0) (eN (pv 1) eP)))) (pgP rfl fS rfl rfl) (fun _ _ _ _ _=>(pF T.d28 gD28 (hr.mono (by lia)) (eN (pv 0) (eN (pv 1) eP))))) eP)))))))
   fF)
  (eQ (gB (m7 (fJ jQ rfl T.z_isinstance f6 (eN (pv 1) (eN (kW rfl T.z_str AW) eP))))
   (eV (fu (vd (fJ jQ rfl T.z_isinstance f6 (eN (pv 0) (eN (kW rfl T.z_str AW) eP))) (sN (nL wk (pv 0) (pv 1))))))
   fF)
  (eQ (gB (vc (xt (pv 1)))
   (eV (fu (Du (xt (pv 0)))))
   fF)
  (eV (fu (vd (fJ jQ rfl T.z_isinstance f6 (eN (pv 0) (eN (kW rfl T.z_int yb) eP))) (vd (Dz (fJ jQ rfl T.z_isinstance f6 (eN (pv 0) (eN (kW rfl T.z_bool B5) eP)))) (sN (nL wk (pv 0) (pv 1)))))))))),?_⟩
  have sl:=sizeLine_eq
  cases hy with
  |flat h=>
   cases hx
   cases x with
   |non=>
    refine⟨_,rfl,lQ,fun t ht=>⟨_,t,["list","tuple"],_,false,rfl,eO,.non,rfl,_,rfl,jo ?_⟩⟩
    refine⟨_,rfl,_,_,_,_,false,rfl,fun _ r=>r,.non,rfl,_,rfl,jo ?_⟩
    refine⟨_,rfl,_,rfl,?_⟩
    rw[gQ rfl]
    refine jL ⟨_,rfl,?_⟩
    dsimp only
    rw[gQ rfl]
    exact q _ (eS ht _)
   |int i=>
    refine⟨_,rfl,lQ,fun t ht=>⟨_,t,["list","tuple"],_,false,rfl,eO,.int i,rfl,_,rfl,jo ?_⟩⟩
    refine⟨_,rfl,_,_,_,_,false,rfl,fun _ r=>r,.int i,rfl,_,rfl,jo ?_⟩
    refine⟨_,rfl,_,rfl,?_⟩
    rw[gA (fun z=>nomatch z)]
    refine jo ⟨_,rfl,_,_,_,_,true,rfl,fun _ r=>r,.int i,rfl,_,rfl,jL ⟨_,rfl,_,_,_,_,false,rfl,fun _ r=>r,.int i,rfl,_,rfl,_,rfl,jL ⟨_,rfl,_,rfl,rfl,?_⟩⟩⟩
    dsimp only
    rw[gQ rfl]
    exact q _ (eS ht _)
   |str z=>
    refine⟨_,rfl,lQ,fun t ht=>⟨_,t,["list","tuple"],_,false,rfl,eO,.str z,rfl,_,rfl,jo ?_⟩⟩
    refine⟨_,rfl,_,_,_,_,true,rfl,fun _ r=>r,.str z,rfl,_,rfl,jL ?_⟩
    refine⟨_,rfl,_,_,_,_,true,rfl,fun _ r=>r,.str z,rfl,_,rfl,jL ⟨_,rfl,_,rfl,rfl,?_⟩⟩
    dsimp only
    rw[gQ rfl]
    exact q _ (eS ht _)
   |bl b=>cases h
   |byt b=>cases h
   |flt b=>cases h
   |ref a=>cases h
   |ty n=>cases h
  |@tup b ys ds hb hys=>
   cases hx with
   |@tup a xs _ ha hxs=>
   have lx:=hxs.length
   have ly:=hys.length
   have dd:fV ds+ 1<=n:=hd
   refine⟨_,rfl,lQ,fun t ht=>⟨_,t,["list","tuple"],_,true,rfl,eO,.tup (eS ht _ _ _ hb),rfl,_,rfl,jL ?_⟩⟩
   have S1:fC H (upd H t (.tup [V.ty "list",V.ty "tuple"])):=eS ht _
   generalize upd H t (.tup [V.ty "list",V.ty "tuple"])=H1 at S1⊢
   refine⟨_,rfl,lQ,fun t2 ht2=>⟨_,t2,["list","tuple"],_,true,rfl,eO,.tup (eS ht2 _ _ _ (S1 _ _ ha)),rfl,_,rfl,?_⟩⟩
   have S2:fC H (upd H1 t2 (.tup [V.ty "list",V.ty "tuple"])):=S1.trans (eS ht2 _)
   generalize upd H1 t2 (.tup [V.ty "list",V.ty "tuple"])=H2 at S2⊢
   refine jo ⟨_,rfl,_,_,_,_,false,rfl,fun _ r=>r,.tup (S2 _ _ ha),rfl,_,rfl,_,_,_,_,false,rfl,fun _ r=>r,.tup (S2 _ _ hb),rfl,rfl,_,rfl,jo ?_⟩
   refine⟨_,rfl,_,xs.length,rfl,zh (S2 _ _ ha),_,rfl,_,ys.length,rfl,zh (S2 _ _ hb),rfl,_,rfl,?_⟩
   rw[gQ (show V.int (xs.length:Int)=V.int (ys.length:Int) by rw[lx,ly])]
   cases n with
   |zero=>lia
   |succ m=>
   refine jL (.inr ⟨_,rfl,_,rfl,a,b,rfl,⟨_,SqT.of (S2 _ _ ha)⟩,⟨_,SqT.of (S2 _ _ hb)⟩,fun D hD=>?_⟩)
   refine zj xs.length (by have:=ho.1;lia) hD (fun k H3 S3 hk=>⟨xs,ys,xs[k],ys[k]'(by lia),SqT.of (S3 _ _ (S2 _ _ ha)),SqT.of (S3 _ _ (S2 _ _ hb)),ba hk,ba (by lia)⟩)
    (fun H3 S3=>⟨xs,ys,SqT.of (S3 _ _ (S2 _ _ ha)),SqT.of (S3 _ _ (S2 _ _ hb)),by lia⟩) ?_ ?_
   ·rintro k H3 v H4 R S3 hk ⟨p,x1,y1,rfl,hp,rfl,e1,e2⟩ σ' hl r
    obtain⟨u1,u2,rfl⟩:∃u1 u2,σ'=[u1,u2]:=by
     match σ',hl with
     |[u1,u2],_=>exact⟨u1,u2,rfl⟩
    have S4:fC H (upd H3 p (.tup [x1,y1])):=(S2.trans S3).trans (eS hp _)
    obtain⟨d1,f1,g1⟩:=hxs.get (e1 xs (SqT.of (S3 _ _ (S2 _ _ ha))))
    obtain⟨d2,f2,g2⟩:=hys.get (e2 ys (SqT.of (S3 _ _ (S2 _ _ hb))))
    have ed:d2=d1:=by rw[f1]at f2;exact(cx.inj f2).symm
    subst ed
    have dp:=BO.Internal.depDs_get f1
    refine⟨p,[x1,y1],rfl,SqT.of eO,rfl,x1,[y1],rfl,y1,[],rfl,rfl,_,rfl,_,rfl,x1,y1,d2,rfl,g1.same S4,g2.same S4,by lia,pd ho.2 f1,fun H5 S5=>?_⟩
    exact r _ _ rfl ((eS hp _).trans S5)
   ·intro H3 S3 hD3
    refine⟨D,aF xs.length true,rfl,SqL.of hD3,?_⟩
    rw[vQ]
    exact q _ (S2.trans S3)
  |@lst b ys ds hb hys=>
   cases hx with
   |@lst a xs _ ha hxs=>
   have lx:=hxs.length
   have ly:=hys.length
   have dd:fV ds+ 1<=n:=hd
   refine⟨_,rfl,lQ,fun t ht=>⟨_,t,["list","tuple"],_,true,rfl,eO,.lst (eS ht _ _ _ hb),rfl,_,rfl,jL ?_⟩⟩
   have S1:fC H (upd H t (.tup [V.ty "list",V.ty "tuple"])):=eS ht _
   generalize upd H t (.tup [V.ty "list",V.ty "tuple"])=H1 at S1⊢
   refine⟨_,rfl,lQ,fun t2 ht2=>⟨_,t2,["list","tuple"],_,true,rfl,eO,.lst (eS ht2 _ _ _ (S1 _ _ ha)),rfl,_,rfl,?_⟩⟩
   have S2:fC H (upd H1 t2 (.tup [V.ty "list",V.ty "tuple"])):=S1.trans (eS ht2 _)
   generalize upd H1 t2 (.tup [V.ty "list",V.ty "tuple"])=H2 at S2⊢
   refine jo ⟨_,rfl,_,_,_,_,true,rfl,fun _ r=>r,.lst (S2 _ _ ha),rfl,_,rfl,_,_,_,_,true,rfl,fun _ r=>r,.lst (S2 _ _ hb),rfl,rfl,_,rfl,jo ?_⟩
   refine⟨_,rfl,_,xs.length,rfl,zi (S2 _ _ ha),_,rfl,_,ys.length,rfl,zi (S2 _ _ hb),rfl,_,rfl,?_⟩
   rw[gQ (show V.int (xs.length:Int)=V.int (ys.length:Int) by rw[lx,ly])]
   cases n with
   |zero=>lia
   |succ m=>
   refine jL (.inl ⟨_,rfl,_,rfl,a,b,rfl,⟨_,SqL.of (S2 _ _ ha)⟩,⟨_,SqL.of (S2 _ _ hb)⟩,fun D hD=>?_⟩)
   refine zj xs.length (by have:=ho.1;lia) hD (fun k H3 S3 hk=>⟨xs,ys,xs[k],ys[k]'(by lia),SqL.of (S3 _ _ (S2 _ _ ha)),SqL.of (S3 _ _ (S2 _ _ hb)),ba hk,ba (by lia)⟩)
    (fun H3 S3=>⟨xs,ys,SqL.of (S3 _ _ (S2 _ _ ha)),SqL.of (S3 _ _ (S2 _ _ hb)),by lia⟩) ?_ ?_
   ·rintro k H3 v H4 R S3 hk ⟨p,x1,y1,rfl,hp,rfl,e1,e2⟩ σ' hl r
    obtain⟨u1,u2,rfl⟩:∃u1 u2,σ'=[u1,u2]:=by
     match σ',hl with
     |[u1,u2],_=>exact⟨u1,u2,rfl⟩
    have S4:fC H (upd H3 p (.tup [x1,y1])):=(S2.trans S3).trans (eS hp _)
    obtain⟨d1,f1,g1⟩:=hxs.get (e1 xs (SqL.of (S3 _ _ (S2 _ _ ha))))
    obtain⟨d2,f2,g2⟩:=hys.get (e2 ys (SqL.of (S3 _ _ (S2 _ _ hb))))
    have ed:d2=d1:=by rw[f1]at f2;exact(cx.inj f2).symm
    subst ed
    have dp:=BO.Internal.depDs_get f1
    refine⟨p,[x1,y1],rfl,SqT.of eO,rfl,x1,[y1],rfl,y1,[],rfl,rfl,_,rfl,_,rfl,x1,y1,d2,rfl,g1.same S4,g2.same S4,by lia,pd ho.2 f1,fun H5 S5=>?_⟩
    exact r _ _ rfl ((eS hp _).trans S5)
   ·intro H3 S3 hD3
    refine⟨D,aF xs.length true,rfl,SqL.of hD3,?_⟩
    rw[vQ]
    exact q _ (S2.trans S3)
open TM.Internal (Kn Tr gv szs)
structure It where
 t:Tr
 w:Nat
 c:Nat->Nat
 own:Bool
def vr (wl:List Str) (k:Nat):Str:=wl.getD k ""
def Ev (wl:List Str) (made:List Nat) (e:Str->Nat):Prop:=(∀d,d<made.length->e (wdE wl d)=made.getD d 0)/\e (wdE wl made.length)=0
def cw (c:Nat->Nat) (wl:List Str) (e:Str->Nat):Nat:=c 0*e (vr wl 0)+c 1*e (vr wl 1)+c 2*e (vr wl 2)
structure JI (wl:List Str) (made:List Nat) (I:It):Prop where
 w:∀e,Ev wl made e->wT I.t e=I.w+cw I.c wl e
 o:∀N:Str->Prop,(∀d,d<made.length->N (wdE wl d))->(I.own=true->N (wdE wl made.length))->(∀k,k<3->0<I.c k->N (vr wl k))->okT I.t N
 c:∀k,k<3->I.c k<=I.w
def knC:List It->List (Option Nat)->Nat->Nat
 |I::l,v::vs,k=>(if v=some k then 0 else I.c k)+knC l vs k
 |_,_,_=>0
def knW:List It->Nat
 |[]=>0
 |I::l=>I.w+knW l
def knO:List It->Bool
 |[]=>false
 |I::l=>I.own||knO l
def knI (κ:Kn) (its:List It) (vs:List (Option Nat)):It:=⟨.mk κ (its.map It.t),1+knW its,knC its vs,knO its⟩
def Mxs (wl:List Str):List Ex->List (Option Nat)->Prop
 |_,[]=>True
 |xs,none::vs=>hdX xs=none/\Mxs wl xs.tail vs
 |xs,some v::vs=>v<3/\(∃k:Str,k≠"let"/\hdX xs=some (vr wl v,k))/\Mxs wl xs.tail vs
section
variable {wl:List Str} {made:List Nat} (lw:wl.length=16) (nd:wl.Nodup) (lm:made.length<=12)
include lw nd
theorem CS {i j:Nat} (hi:i<16) (hj:j<16) (h:i≠j):wl.getD i ""≠wl.getD j "":=by
 rw[bp,bp,ba (by lia),ba (by lia)]
 intro e
 have k:=List.pairwise_iff_getElem.mp nd
 rcases Nat.lt_or_gt_of_ne h with z|z
 ·exact k i j (by lia) (by lia) z e
 ·exact k j i (by lia) (by lia) z e.symm
theorem GA {i j:Nat} (hi:i<3) (hj:j<3) (h:i≠j):vr wl i≠vr wl j:=CS lw nd (by lia) (by lia) h
include lm
theorem Ey {v d:Nat} (hv:v<3) (hd:d<=made.length):vr wl v≠wdE wl d:=CS lw nd (by lia) (by lia) (by lia)
theorem Ev.up {e:Str->Nat} (h:Ev wl made e) {v:Nat} (hv:v<3) (k:Str) (pw:Nat):Ev wl made (upE e (some (vr wl v,k)) pw):=by
 refine⟨fun d hd=>?_,?_⟩
 ·show(if vr wl v=wdE wl d then _ else _)=_
  rw[fN (Ey lw nd lm hv (by lia))]
  exact h.1 d hd
 ·show(if vr wl v=wdE wl made.length then _ else _)=_
  rw[fN (Ey lw nd lm hv (by lia))]
  exact h.2
omit lm in
theorem xg {e:Str->Nat} {v j:Nat} (hv:v<3) (hj:j<3) (k:Str) (pw:Nat):upE e (some (vr wl v,k)) pw (vr wl j)=if v=j then(if k="let" then pw else 0)else e (vr wl j):=by
 show(if vr wl v=vr wl j then _ else _)=_
 by_cases h:v=j
 ·rw[fY (by rw[h]),fY h]
 ·rw[fN (GA lw nd hv hj h),fN h]
theorem zk:∀{its:List It} {vs:List (Option Nat)} {xs:List Ex} {e:Str->Nat} {pw:Nat},its.length=vs.length->Mxs wl xs vs->(∀I∈its,JI wl made I)->Ev wl made e->wTs (its.map It.t) xs e pw=knW its+cw (knC its vs) wl e
 |[],[],xs,e,pw,_,_,_,_=>by rw[aS,kQ];simp[knW,knC,cw]
 |I::its,none::vs,xs,e,pw,hl,m,hJ,he=>by
  rw[aA,iY,zk (by simpa using hl) m.2 (fun J h=>hJ J (by simp[h])) he,m.1]
  have h1:=(hJ I (by simp)).w e he
  rw[show upE e none pw=e from rfl,h1]
  simp only[knW,knC,cw,Nat.add_mul,reduceCtorEq,if_false]
  lia
 |I::its,some v::vs,xs,e,pw,hl,⟨hv,⟨k,nk,hx⟩,m⟩,hJ,he=>by
  rw[aA,iY,zk (by simpa using hl) m (fun J h=>hJ J (by simp[h])) he,hx]
  have h1:=(hJ I (by simp)).w _ (he.up lw nd lm hv k pw)
  rw[h1]
  simp only[knW,knC,cw,Nat.add_mul,cx.injEq]
  rw[xg lw nd hv (by lia),xg lw nd hv (by lia),xg lw nd hv (by lia),fN nk]
  by_cases a0:v=0
  ·subst a0;simp;lia
  ·by_cases a1:v=1
   ·subst a1;simp;lia
   ·have a2:v=2:=by lia
    subst a2;simp;lia
 |[],_::_,_,_,_,h,_,_,_=>by cases h
 |_::_,[],_,_,_,h,_,_,_=>by cases h
omit lw nd lm in
theorem Bp {k:Nat} (hk:k<3):∀{its:List It} {vs:List (Option Nat)},(∀I∈its,JI wl made I)->knC its vs k<=knW its
 |[],vs,_=>by simp[knC]
 |I::its,[],_=>by simp[knC]
 |I::its,v::vs,hJ=>by
  have h1:=(hJ I (by simp)).c k hk
  have h2:=Bp hk (its:=its) (vs:=vs) fun J h=>hJ J (by simp[h])
  simp only[knC,knW]
  split<;>lia
omit lw nd lm in
theorem uU {N:Str->Prop} (hd:∀d,d<made.length->N (wdE wl d)):∀{its:List It} {vs:List (Option Nat)} {xs:List Ex},its.length=vs.length->Mxs wl xs vs->(∀I∈its,JI wl made I)->(knO its=true->N (wdE wl made.length))->(∀k,k<3->0<knC its vs k->N (vr wl k))->sg (its.map It.t) xs N
 |[],[],xs,_,_,_,_,_=>by unfold sg;exact trivial
 |I::its,none::vs,xs,hl,m,hJ,ho,hc=>by
  rw[aA]
  unfold sg
  rw[m.1]
  refine⟨(hJ I (by simp)).o N hd (fun z=>ho (by simp[knO,z])) (fun k hk z=>hc k hk (by simp only[knC,reduceCtorEq,if_false];lia)),uU hd (by simpa using hl) m.2 (fun J h=>hJ J (by simp[h])) (fun z=>ho (by simp[knO,z])) fun k hk z=>hc k hk (by simp only[knC];lia)⟩
 |I::its,some v::vs,xs,hl,⟨hv,⟨k,nk,hx⟩,m⟩,hJ,ho,hc=>by
  rw[aA]
  unfold sg
  rw[hx]
  refine⟨(hJ I (by simp)).o _ (fun d h=> .inr (hd d h)) (fun z=> .inr (ho (by simp[knO,z]))) (fun j hj z=>?_),uU hd (by simpa using hl) m (fun J h=>hJ J (by simp[h])) (fun z=>ho (by simp[knO,z])) fun k hk z=>hc k hk (by simp only[knC];lia)⟩
  by_cases e:v=j
  ·subst e;exact .inl rfl
  ·exact .inr (hc j hj (by simp only[knC,cx.injEq,e,if_false];lia))
 |[],_::_,_,h,_,_,_,_=>by cases h
 |_::_,[],_,h,_,_,_,_=>by cases h
theorem JI.knit {κ:Kn} {its:List It} {vs:List (Option Nat)} (hl:its.length=vs.length) (m:Mxs wl (exN κ) vs) (hJ:∀I∈its,JI wl made I) (nn:∀w,κ≠ .name w) (ok:∀N,okK κ its.length N):JI wl made (knI κ its vs):=by
 refine⟨fun e he=>?_,fun N hd ho hc=>?_,fun k hk=>?_⟩
 ·show wT (.mk κ (its.map It.t)) e=1+knW its+cw (knC its vs) wl e
  rw[tW,zk lw nd lm hl m hJ he]
  have e0:nmW κ e=0:=by
   cases κ with
   |name w=>exact absurd rfl (nn w)
   |_=>rfl
  lia
 ·show okT (.mk κ (its.map It.t)) N
  unfold okT
  exact⟨by rw[aB];exact ok N,uU hd hl m hJ ho hc⟩
 ·have:=Bp hk (vs:=vs) hJ
  show knC its vs k<=1+knW its
  lia
def ltI (wl:List Str) (v:Nat) (b y:It):It:=⟨.mk (.lt (vr wl v)) [b.t,y.t],1+knW [b,y]+y.c v*b.w,fun k=>knC [b,y] [none,some v] k+y.c v*b.c k,b.own||(y.own||false)⟩
theorem JI.let {v:Nat} {b y:It} (hv:v<3) (hb:JI wl made b) (hy:JI wl made y):JI wl made (ltI wl v b y):=by
 refine⟨fun e he=>?_,fun N hd ho hc=>?_,fun k hk=>?_⟩
 ·have h1:=hb.w e he
  have h2:=hy.w _ (he.up lw nd lm hv "let" (wT b.t e))
  show wT (.mk (.lt (vr wl v)) [b.t,y.t]) e=_
  rw[tW,iY,iY,kQ]
  change 1+ 0+(wT b.t e+(wT y.t (upE e (some (vr wl v,"let")) (wT b.t e))+ 0))=_
  rw[h2]
  show _=1+knW [b,y]+y.c v*b.w+cw (fun k=>knC [b,y] [none,some v] k+y.c v*b.c k) wl e
  simp only[knW,knC,cw,Nat.add_mul,cx.injEq,reduceCtorEq,if_false]
  rw[xg lw nd hv (by lia),xg lw nd hv (by lia),xg lw nd hv (by lia),fY rfl,h1]
  by_cases a0:v=0
  ·subst a0;simp[cw,Nat.mul_add,cu];lia
  ·by_cases a1:v=1
   ·subst a1;simp[cw,Nat.mul_add,cu];lia
   ·have a2:v=2:=by lia
    subst a2;simp[cw,Nat.mul_add,cu];lia
 ·show okT (.mk (.lt (vr wl v)) [b.t,y.t]) N
  unfold okT
  refine⟨rfl,?_⟩
  unfold sg sg sg
  refine⟨hb.o N hd (fun z=>ho (by simp[ltI,z])) (fun k hk z=>hc k hk (by simp only[ltI,knC,reduceCtorEq,if_false];lia)),hy.o _ (fun d h=> .inr (hd d h)) (fun z=> .inr (ho (by simp[ltI,z]))) (fun k hk z=>?_),trivial⟩
  by_cases e:v=k
  ·subst e;exact .inl rfl
  ·exact .inr (hc k hk (by simp only[ltI,knC,reduceCtorEq,if_false,cx.injEq,e];lia))
 ·have h1:=hb.c k hk
  have h2:=hy.c k hk
  have h3:=Nat.mul_le_mul_left (y.c v) h1
  simp only[ltI,knC,knW]
  split<;>split<;>lia
end
open TM.Internal (Kn Tr gv szs)
theorem CT {K:PySem.W.Frag} {a b:Addr} {xs ys:List V} {g:TG} {tb:TS} {D:nH} {σ:St} {H:Hp} (Pv:Nat->St->Hp->Prop) (h0:Pv 0 σ H) (hl:∀i σ H,i<=xs.length->Pv i σ H->SqL K H a xs/\SqL K H b ys) (hn:ys.length=xs.length)
  (hs:∀(i:Nat) (x y:V) (σ:St) (H:Hp) (T:Addr),xs[i]?=some x->ys[i]?=some y->Pv i σ H->H T=none->g (.ref T) σ (L2.Internal.upd H T (.tup [x,y])) fun σ2 H2=>tb {D with nx:=Pv (i+ 1),ct:=Pv (i+ 1),bk:=D.nx} σ2 H2) (hd:∀σ H,Pv xs.length σ H->D.nx σ H):
  ∃W:Nat->Nat->St->Hp->Prop,(∃m,W 0 m σ H)/\∀i m σ H,W i m σ H->
   ((Itz K a b).stop i H/\D.nx σ H)\/((Itz K a b).go i H/\∃N:St->Hp->Prop,(∀σ' H',N σ' H'->∃m',m'<m/\W (i+ 1) m' σ' H')/\∀x H',(Itz K a b).yld i H x H'->g x σ H' fun σ2 H2=>tb {D with nx:=N,ct:=N,bk:=D.nx} σ2 H2):=by
 refine⟨fun i m σ H=>Y3 (m=xs.length-i) (i<=xs.length) (Pv i σ H),⟨xs.length,by simp,cc _,h0⟩,?_⟩
 rintro i m σ H ⟨rfl,hi,p⟩
 obtain⟨q1,q2⟩:=hl i σ H hi p
 by_cases hlt:i<xs.length
 ·refine .inr ⟨⟨xs,ys,xs[i],ys[i]'(by lia),q1,q2,by simp[hlt],ba (by lia)⟩,Pv (i+ 1),fun σ' H' p'=>⟨xs.length-(i+ 1),by lia,rfl,hlt,p'⟩,fun v H' y=>?_⟩
  obtain⟨T,x,y,rfl,hT,rfl,hx,hy⟩:=y
  exact hs i x y σ H T (hx xs q1) (hy ys q2) p hT
 ·have e:i=xs.length:=by lia
  subst e
  exact .inl ⟨⟨xs,ys,q1,q2,by lia⟩,hd σ H p⟩
def itV (n:V) (I:It) (cs:Addr):List V:=[n,.int (I.t.nest:Int),.int (I.w:Int),.ref cs,.bl I.own,.int (I.t.sz:Int)]
def cV3 (c:Nat->Nat):List V:=[.int (c 0:Int),.int (c 1:Int),.int (c 2:Int)]
def ItA (H:Hp) (x:V) (I:It):Prop:=X3 fun a n cs=>Y4 (x= .ref a) (H a=some (.lst (itV n I cs))) (H cs=some (.lst (cV3 I.c))) (Im H n (ndD I.t))
theorem ItA.same {H H':Hp} {x:V} {I:It} (h:ItA H x I) (S:fC H H'):ItA H' x I:=by
 obtain⟨a,n,cs,rfl,e1,e2,i⟩:=h
 exact⟨a,n,cs,rfl,S _ _ e1,S _ _ e2,i.mono (fC.tk S)⟩
structure ItN (H H':Hp) (a cs:Addr) (n:V) (I:It):Prop where
 sm:fC H H'
 na:H a=none
 nc:H cs=none
 ne:a≠cs
 ea:H' a=some (.lst (itV n I cs))
 ec:H' cs=some (.lst (cV3 I.c))
 im:Im H' n (ndD I.t)
theorem ItN.it {H H':Hp} {a cs:Addr} {n:V} {I:It} (h:ItN H H' a cs n I):ItA H' (.ref a) I:=⟨a,n,cs,rfl,h.ea,h.ec,h.im⟩
def hZ:Option Nat->Int
 |none=> -1
 |some v=>(v:Int)
def hI (v:Option Nat):V:= .int (hZ v)
theorem at3 {c:Nat->Nat} {k:Nat} (h:k<3):atI (cV3 c) (0+(k:Int))=some (.int (c k:Int)):=by
 rw[eB]
 refine eU ?_
 match k,h with
 |0,_=>rfl
 |1,_=>rfl
 |2,_=>rfl
def cA (c:Nat->Nat) (v:Option Nat) (d:Nat->Nat) (k:Nat):Nat:=c k+(if v=some k then 0 else d k)
theorem GB (c d:Nat->Nat) (v:Option Nat) (k:Nat):(c k:Int)+(if(true ^^ decide (0+(k:Int)=hZ v))=true then 1 else 0)*(d k:Int)=(cA c v d k:Int):=by
 unfold cA
 cases v with
 |none=>
  rw[gA (by show ¬0+(k:Int)= -1;lia)]
  simp
 |some v=>
  by_cases h:v=k
  ·subst h
   rw[gQ (by show 0+(v:Int)=(v:Int);lia)]
   simp
  ·rw[gA (by show ¬0+(k:Int)=(v:Int);lia)]
   simp[h]
theorem Ez {i j n:Nat} {a b:Bool} {p:Addr} {xs:List V} {m:Int} {σ:St} {H:Hp} {Q:VK} (h1:σ[i]?=some (some (.bl a))) (h2:σ[j]?=some (some (.ref p))) (e:H p=some (.lst xs)) (hx:atI xs m=some (.bl b)) (q:Q (.bl (a||b)) H):Fe (cV i) (tOp z6 (cV j) (tC (.int m))) σ H Q:=by
 show onV σ[i]? _
 rw[h1]
 refine⟨a,rfl,?_⟩
 cases a with
 |true=>exact jL q
 |false=>
  refine jo ?_
  show onV σ[j]? _
  rw[h2]
  exact⟨_,e,eX hx q⟩
theorem EA {i j g:Nat} {a b:Bool} {p:Addr} {xs:List V} {m:Int} {σ:St} {H:Hp} {R:TS} {D:nH} (h1:σ[i]?=some (some (.bl a))) (h2:σ[j]?=some (some (.ref p))) (e:H p=some (.lst xs)) (hx:atI xs m=some (.bl b)) (q:R D (σ.set g (some (.bl (a||b)))) H):xl (xx (Fe (cV i) (tOp z6 (cV j) (tC (.int m)))) (fK g)) R D σ H:=Ez (n:=0) h1 h2 e hx q
inductive XLf (vs:List V) (H:Hp) (Q:VK):Prop
 |mk (n:V) (w:Nat) (κ:Kn) (e:vs=[n,.int (w:Int)]) (i:Im H n (ndD (.mk κ []))) (q:∀H' a cs,ItN H H' a cs n ⟨.mk κ [],w,fun _=>0,false⟩->Q (.ref a) H')
def GC:Sp:=fun vs H Q _=>XLf vs H Q
inductive XKn (vs:List V) (H:Hp) (Q:VK):Prop
 |mk (wt pl hl:Addr) (κ:Kn) (ws xs:List V) (its:List It) (ho:List (Option Nat)) (e:vs=[.str κ.s,.ref wt,.ref pl,.ref hl]) (ew:H wt=some (.tup ws)) (iw:Ims H ws (wsD κ)) (ep:H pl=some (.lst xs)) (ix:l6 (ItA H) xs its) (eh:H hl=some (.lst (ho.map hI))) (hl':ho.length=its.length) (ln:its.length<=1000) (q:∀H' a cs n,ItN H H' a cs n (knI κ its ho)->Q (.ref a) H')
def CU:Sp:=fun vs H Q _=>XKn vs H Q
theorem uV {α β:Type} {R:α->β->Prop}:∀{xs:List α} {ys:List β} {i:Nat} {x:α},l6 R xs ys->xs[i]?=some x->∃y,ys[i]?=some y/\R x y
 |_,_,0,_,.cons h _,e=>by cases e;exact⟨_,rfl,h⟩
 |_,_,i+ 1,_,.cons _ t,e=>uV (i:=i) t e
theorem jT (T:Txt K mg):FO P w base 1 T.d29 GC:=by
 refine T.d29.F.ok tE (fun vs H Q E h=>?_) (fun cdv A0 outer s0 H vs Q E hr h=>?_)
 ·obtain⟨n,w,κ,rfl,_⟩:=h
  rfl
 obtain⟨n,w',κ,rfl,i,q⟩:=h
 refine⟨_,(eV (fu (fG (eN (cv 0) (eN eR (eN (cv 1) (eN (fG (eN eR (eN eR (eN eR eP)))) (eN wb (eN eR eP))))))))),?_⟩
 refine⟨sM,fun cs hc=>⟨Fb,fun a ha=>?_⟩⟩
 have S1:=eS hc (.lst [.int 0,.int 0,.int 0])
 have S2:=eS ha (.lst [n,.int 1,.int (w':Int),.ref cs,.bl false,.int 1])
 have ne:a≠cs:=fun z=>by rw[z,eO]at ha;cases ha
 have sz:(Tr.mk κ []).sz=1:=by simp[Tr.sz,szs]
 have ns:(Tr.mk κ []).nest=1:=by simp[Tr.nest,TM.Internal.nests]
 refine q _ a cs ⟨S1.trans S2,?_,hc,ne,?_,S2 _ _ eO,i.mono (fC.tk (S1.trans S2))⟩
 ·cases z:H a with
  |none=>rfl
  |some u=>rw[S1 _ _ z]at ha;cases ha
 ·rw[eO]
  unfold itV
  rw[sz,ns]
  rfl
theorem jn (T:Txt K mg):FO P w base 2 T.d30 CU:=by
 refine T.d30.F.rd fX fun cdv A0 outer s H vs Q E hr h=>?_
 obtain⟨wt,pl,hl,κ,ws,xs,its,ho,rfl,ew,iw,ep,ix,eh,lh,ln,q⟩:=h
 refine⟨_,(eQ (pS (i:=4) fX.nd eR)
  (eQ (pS (i:=5) fX.nd eR)
  (eQ (pS (i:=6) fX.nd (fG (eN eR (eN eR (eN eR eP)))))
  (eQ (pS (i:=7) fX.nd wb)
  (eQ (pS (i:=8) fX.nd eR)
  (eQ (jP PassesOwn.never rfl (AY rfl T.z_zip (eN (cv 2) (eN (cv 3) eP))) (vf rfl (jO (pN (i:=9) fX.nd) (jO (pN (i:=10) fX.nd) rE)))
   (eQ (pS (i:=4) fX.nd (fJ (sO rfl) rfl T.z_max yj (eN (cv 4) (eN (eZ fc (cv 9) eR) eP))))
   (eQ (pS (i:=5) fX.nd (fq gF (cv 5) (eZ fc (cv 9) eR)))
   (eQ (pS (i:=6) fX.nd (rN rfl (vA (x:="_law_k") ["_law_var","_law_part","_law_many"] [("_law_var",10,s.heap.objs.size+ 3),("_law_part",9,s.heap.objs.size+ 2),("_law_many",6,s.heap.objs.size+ 1)]) (gS rfl T.z_range (eN eR eP)) (fun _ _ _ _ _=>iB) (fun _ _ _ _ _=>(fq gF (eZ fc (cv 3) (cv 0)) (fq pM (gf xG rfl T.z_int yb (eN (nL D4 (cv 0) (cv 1)) eP)) (eZ fc (eZ fc (cv 2) eR) (cv 0)))))))
   (eQ (pS (i:=7) fX.nd (Dy (cv 7) (sN (eZ fc (cv 9) eR))))
   (eV (pS (i:=8) fX.nd (fq gF (cv 8) (eZ fc (cv 9) eR)))))))))
  (eV (fu (fG (eN (fz (eN (cv 0) (eN (cv 1) (eN (gf gh rfl T.z_tuple ir (eN (rN rfl (DT (x:="_law_part") rfl fS fS rfl rfl) (iA (cv 2)) (fun _ _ _ _ _=>iB) (fun _ _ _ _ _=>(eZ fc (cv 0) eR))) eP)) eP)))) (eN (fq gF (cv 4) eR) (eN (cv 5) (eN (cv 6) (eN (cv 7) (eN (cv 8) eP))))))))))))))),?_⟩
 have sl:=sizeLine_eq
 dsimp only[fK]
 refine⟨sM,fun m hm=>?_⟩
 dsimp only[fK]
 have lx:=ix.length
 refine⟨pl,hl,rfl,⟨_,SqL.of (eS hm _ _ _ ep)⟩,⟨_,SqL.of (eS hm _ _ _ eh)⟩,CT (xs:=xs) (ys:=ho.map hI) (fun i σ H2=>X8 fun(o9 o10:Option V) (ne we pa:Nat) (ow:Bool) (mn:Addr) (c:Nat->Nat)=>Y9 (σ=[some (.str κ.s),some (.ref wt),some (.ref pl),some (.ref hl),some (.int (ne:Int)),some (.int (we:Int)),some (.ref mn),some (.bl ow),some (.int (pa:Int)),o9,o10]) (fC H H2) (H mn=none) (H2 mn=some (.lst (cV3 c))) (max ne (TM.Internal.nests ((its.drop i).map It.t))=TM.Internal.nests (its.map It.t)) (we+knW (its.drop i)=1+knW its) ((ow||knO (its.drop i))=knO its) (pa+szs ((its.drop i).map It.t)=1+szs (its.map It.t)) (∀k,k<3->c k+knC (its.drop i) (ho.drop i) k=knC its ho k)) ?_ ?_ ?_ ?_ ?_⟩
 ·exact⟨none,none,0,1,1,false,m,fun _=>0,rfl,eS hm _,hm,eO,by simp,rfl,by simp,rfl,fun k _=>by simp⟩
 ·rintro i σ H2 _ ⟨o9,o10,ne,we,pa,ow,mn,c,_,S,_⟩
  exact⟨SqL.of (S _ _ ep),SqL.of (S _ _ eh)⟩
 ·rw[aB,lh,lx]
 ·rintro i x y σ H2 t4 hx hy ⟨o9,o10,ne,we,pa,ow,mn,c,rfl,S,nm,em,h1,h2,h3,h4,h5⟩ ht4
  obtain⟨I,hI',a,n,cs,rfl,ea,ec,iN⟩:=uV ix hx
  rw[aJ]at hy
  obtain⟨v,hv,rfl⟩:=cB.mp hy
  rw[tR hI']at h1 h2 h3 h4
  have T4:=eS ht4 (.tup [.ref a,hI v])
  have S4:=S.trans T4
  refine⟨t4,_,rfl,SqT.of eO,rfl,_,_,rfl,_,_,rfl,rfl,?_⟩
  have ea4:=S4 _ _ ea
  have ec4:=S4 _ _ ec
  have em4:=T4 _ _ em
  have emx:(if((I.t.nest:Nat):Int)>(ne:Int)then((I.t.nest:Nat):Int)else(ne:Int))=((max ne I.t.nest:Nat):Int):=by split<;>lia
  refine⟨_,ea4,eX (eU (j:=1) rfl) ⟨_,_,rfl,?_⟩⟩
  dsimp only[fK]
  rw[emx]
  refine⟨_,ea4,eX (eU (j:=2) rfl) ?_⟩
  dsimp only[fK]
  refine⟨3,rfl,by decide,by decide,fun D hD=>?_⟩
  refine kl 3 (by lia) (fun zs H5=>zs=(cV3 (cA c v I.c)).take zs.length) (fun _ _ _ h _=>h) hD rfl (fun k _ _ h=>h) (fun _ _=>cb _) rfl ?_ ?_
  ·rintro k H5 x H6 zs Z S5 hk ⟨rfl,rfl⟩ hz lz kZ
   refine⟨_,S5 _ _ em4,eX (at3 hk) ?_⟩
   refine .inr ⟨_,rfl,?_⟩
   refine⟨_,S5 _ _ ea4,eX (eU (j:=3) rfl) ⟨_,S5 _ _ ec4,eX (at3 hk) ⟨.inl (by split<;>exact⟨by decide,by decide⟩),?_⟩⟩⟩
   refine kZ _ _ (fun _ _ e=>e) ?_
   dsimp only
   rw[GB,aN,aU,bM,lz]
   rw[lz]at hz
   have e3:(cV3 (cA c v I.c))[k]?=some (.int (cA c v I.c k:Int)):=by
    have:=at3 (c:=cA c v I.c) hk
    match k,hk with
    |0,_=>rfl
    |1,_=>rfl
    |2,_=>rfl
   rw[e3,<-hz]
   rfl
  ·intro H5 zs S5 hz lz ez
   dsimp only[fK]
   rw[lz]at hz
   have hz:zs=cV3 (cA c v I.c):=hz
   subst hz
   refine EA (i:=7) (j:=9) (a:=ow) (b:=I.own) rfl rfl (S5 _ _ ea4) (eU (j:=4) rfl) ?_
   refine⟨_,S5 _ _ ea4,eX (eU (j:=5) rfl) ?_⟩
   dsimp only[fK]
   have nD:H D=none:=by
    cases z:H D with
    |none=>rfl
    |some u=>rw[S4 _ _ z]at hD;cases hD
   have hv':=tR hv
   refine⟨_,_,max ne I.t.nest,we+I.w,pa+I.t.sz,ow||I.own,D,cA c v I.c,rfl,S4.trans S5,nD,ez,?_,?_,?_,?_,fun k hk=>?_⟩
   ·rw[aA,TM.Internal.nests]at h1;lia
   ·rw[knW]at h2;lia
   ·rw[knO,<-Bool.or_assoc]at h3;exact h3
   ·rw[aA,szs]at h4;lia
   ·have h6:=h5 k hk
    rw[tR hI',hv']at h6
    rw[knC]at h6
    unfold cA
    lia
 ·rintro σ H2 ⟨o9,o10,ne,we,pa,ow,mn,c,rfl,S,nm,em,h1,h2,h3,h4,h5⟩
  rw[lx,bH]at h1 h2 h3 h4
  have h5:∀k,k<3->c k=knC its ho k:=fun k hk=>by have:=h5 k hk;rw[lx,bH]at this;simpa[knC]using this
  dsimp only
  have epx:=S _ _ ep
  refine⟨pl,rfl,⟨_,SqL.of epx⟩,fun D hD=>?_⟩
  refine kl xs.length (by lia) (fun zs H5=>Ims H5 zs ((Ax (its.map It.t)).take zs.length)) (fun _ _ _ h k=>h.mono k) hD rfl (fun k H5 S5 h=>oG epx S5 h) (fun H5 S5=>oH epx S5) .nil ?_ ?_
  ·rintro k H5 v H6 zs Z S5 hk ⟨rfl,hv⟩ hz lz kZ
   have hv:=hv xs (SqL.of (S5 _ _ epx))
   obtain⟨I,hI',a,n,cs,rfl,ea,ec,iN⟩:=uV ix hv
   have S6:=S.trans S5
   refine⟨_,S6 _ _ ea,eX (eU (j:=0) rfl) ?_⟩
   refine kZ _ _ (fun _ _ e=>e) ?_
   rw[aN,aU,bM,lz]
   rw[lz]at hz
   have e3:(Ax (its.map It.t))[k]?=some (ndD I.t):=by
    have:∀{l:List It} {k:Nat},l[k]?=some I->(Ax (l.map It.t))[k]?=some (ndD I.t):=by
     intro l
     induction l with
     |nil=>intro k h;cases h
     |cons J l ih=>
      intro k h
      cases k with
      |zero=>cases h;rfl
      |succ k=>exact ih h
    exact this hI'
   rw[e3]
   exact hz.app (.cons (iN.mono (fC.tk S6)) .nil)
  ·intro H5 zs S5 hz lz ez
   rw[lz,bO (by rw[sq,aB];lia)]at hz
   refine⟨D,zs,rfl,.inl ⟨SqL.of ez,fun t1 ht1=>⟨sM,fun t2 ht2=>⟨Fb,fun a ha=>?_⟩⟩⟩⟩
   have U1:=eS ht1 (.tup zs)
   have U2:=eS ht2 (.tup [.str κ.s,.ref wt,.ref t1])
   have U3:=eS ha (.lst [.ref t2,.int ((ne:Int)+ 1),.int (we:Int),.ref mn,.bl ow,.int (pa:Int)])
   have U12:=U1.trans U2
   have S6:=S.trans (S5.trans U12)
   have em6:=(S5.trans U12) _ _ em
   have nea:a≠mn:=fun z=>by rw[z,em6]at ha;cases ha
   have iN:Im (L2.Internal.upd (L2.Internal.upd H5 t1 (.tup zs)) t2 (.tup [.str κ.s,.ref wt,.ref t1])) (.ref t2) (ndD (.mk κ (its.map It.t))):=by
    rw[ndD]
    exact ip ht2 (.cons (.flat rfl) (.cons (.tup ((S.trans (S5.trans U1)) _ _ ew) (iw.mono (fC.tk (S.trans (S5.trans U1))))) (.cons (ip ht1 hz) .nil)))
   refine q _ a mn (.ref t2) ⟨S6.trans U3,?_,nm,nea,?_,U3 _ _ ?_,iN.mono (fC.tk U3)⟩
   ·cases z:H a with
    |none=>rfl
    |some u=>rw[S6 _ _ z]at ha;cases ha
   ·rw[eO]
    have s1:((knI κ its ho).t.nest:Int)=(ne:Int)+ 1:=by
     show(((Tr.mk κ (its.map It.t)).nest:Nat):Int)=_
     rw[Tr.nest,<-h1]
     simp[TM.Internal.nests]
     lia
    have s2:((knI κ its ho).t.sz:Int)=(pa:Int):=by
     show(((Tr.mk κ (its.map It.t)).sz:Nat):Int)=_
     rw[Tr.sz,<-h4]
     simp[szs]
    have s3:(knI κ its ho).w=we:=by show 1+knW its=_;rw[<-h2];rfl
    have s4:(knI κ its ho).own=ow:=by show knO its=_;rw[<-h3];exact Bool.or_false _
    unfold itV
    rw[s1,s2,s3,s4]
   ·rw[em6]
    show some (HO.lst (cV3 c))=some (.lst (cV3 (knC its ho)))
    unfold cV3
    rw[h5 0 (by lia),h5 1 (by lia),h5 2 (by lia)]
open TM.Internal (Kn Tr gv szs)
def FS (st:Addr) (H H':Hp):Prop:=∀a o,H a=some o->a≠st->H' a=some o
theorem FS.trans {st:Addr} {H H1 H2:Hp} (f:FS st H H1) (g:FS st H1 H2):FS st H H2:=fun a o e n=>g a o (f a o e n) n
theorem FS.same {st:Addr} {H H':Hp} (S:fC H H'):FS st H H':=fun a o e _=>S a o e
def Stk (H:Hp) (st:Addr) (sn:Nat) (J:It->Prop):Prop:=∃xs,Y3 (H st=some (.lst xs)) (xs.length<=sn) (∀x∈xs,∃I,ItA H x I/\J I)
theorem Stk.tk {H H':Hp} {st:Addr} {sn:Nat} {J:It->Prop} (h:Stk H st sn J) (F:FS st H H'):TK H H':=fun a xs e=>by
 obtain⟨ys,e1,_⟩:=h
 exact F a _ e (jm e e1 fun z=>nomatch z)
theorem ItA.fs {H H':Hp} {st:Addr} {sn:Nat} {J:It->Prop} {x:V} {I:It} (h:ItA H x I) (k:Stk H st sn J) (F:FS st H H'):ItA H' x I:=by
 have tk:=k.tk F
 obtain⟨xs,es,_,al⟩:=k
 obtain⟨a,n,cs,rfl,e1,e2,i⟩:=h
 have no:∀z:Int,V.int z∉xs:=fun z m=>by
  obtain⟨_,⟨_,_,_,e,_⟩,_⟩:=al _ m
  cases e
 refine⟨a,n,cs,rfl,F _ _ e1 fun z=>?_,F _ _ e2 fun z=>?_,i.mono tk⟩
 ·rw[z,es]at e1
  cases cx.inj e1
  exact no (I.t.nest:Int) (by simp[itV])
 ·rw[z,es]at e2
  cases cx.inj e2
  exact no (I.c 0:Int) (by simp[cV3])
theorem Stk.same {H H':Hp} {st:Addr} {sn:Nat} {J:It->Prop} (k:Stk H st sn J) (S:fC H H'):Stk H' st sn J:=by
 obtain⟨xs,es,l,al⟩:=k
 exact⟨xs,S _ _ es,l,fun x hx=>let⟨I,h,j⟩:=al x hx;⟨I,h.same S,j⟩⟩
def nuI (n:Int):It:=⟨.mk (.num n) [],1,fun _=>0,false⟩
def naI (wl:List Str) (v:Nat):It:=⟨.mk (.name (vr wl v)) [],1,fun k=>if k=v then 1 else 0,false⟩
theorem Br {H:Hp} {t1 t2 t3:Addr} {n:Int} (h1:H t1=none) (h2:(L2.Internal.upd H t1 (.tup [.int n])) t2=none) (h3:(L2.Internal.upd (L2.Internal.upd H t1 (.tup [.int n])) t2 (.tup [])) t3=none):Im (L2.Internal.upd (L2.Internal.upd (L2.Internal.upd H t1 (.tup [.int n])) t2 (.tup [])) t3 (.tup [.str "num",.ref t1,.ref t2])) (.ref t3) (ndD (.mk (.num n) [])):=by
 rw[ndD]
 exact ip h3 (.cons (.flat rfl) (.cons ((ip h1 (.cons (.flat rfl) .nil)).mono (fC.tk (eS h2 _))) (.cons (ip h2 .nil) .nil)))
theorem uW {H:Hp} {t1 t2 t3:Addr} {n:Str} (h1:H t1=none) (h2:(L2.Internal.upd H t1 (.tup [.str n])) t2=none) (h3:(L2.Internal.upd (L2.Internal.upd H t1 (.tup [.str n])) t2 (.tup [])) t3=none):Im (L2.Internal.upd (L2.Internal.upd (L2.Internal.upd H t1 (.tup [.str n])) t2 (.tup [])) t3 (.tup [.str "name",.ref t1,.ref t2])) (.ref t3) (ndD (.mk (.name n) [])):=by
 rw[ndD]
 exact ip h3 (.cons (.flat rfl) (.cons ((ip h1 (.cons (.flat rfl) .nil)).mono (fC.tk (eS h2 _))) (.cons (ip h2 .nil) .nil)))
theorem xh {H:Hp} {t1 t2 t3:Addr} {a b c:HO} (h1:H t1=none) (h2:(L2.Internal.upd H t1 a) t2=none) (h3:(L2.Internal.upd (L2.Internal.upd H t1 a) t2 b) t3=none):fC H (L2.Internal.upd (L2.Internal.upd (L2.Internal.upd H t1 a) t2 b) t3 c):=(eS h1 _).trans ((eS h2 _).trans (eS h3 _))
inductive XPo (vs:List V) (H:Hp) (Q:VK):Prop
 |mk (st:Addr) (sn:Nat) (J:It->Prop) (e:vs=[.ref st]) (k:Stk H st sn J) (j:J (nuI 0)) (q:∀H' x I,FS st H H'->Stk H' st sn J->ItA H' x I->J I->Q x H')
def EB:Sp:=fun vs H Q _=>XPo vs H Q
inductive XNm (vs:List V) (H:Hp) (Q:VK):Prop
 |mk (n:Int) (e:vs=[.int n]) (q:∀H' x,fC H H'->ItA H' x (nuI (n%10^60))->Q x H')
def CV:Sp:=fun vs H Q _=>XNm vs H Q
inductive XNa (vs:List V) (H:Hp) (Q:VK):Prop
 |mk (wa:Addr) (wl:List Str) (v:Nat) (e:vs=[.ref wa,.int (v:Int)]) (hw:H wa=some (.lst (wl.map V.str))) (lw:wl.length=16) (hv:v<3) (q:∀H' x,fC H H'->ItA H' x (naI wl v)->Q x H')
def EC:Sp:=fun vs H Q _=>XNa vs H Q
inductive XMo (vs:List V) (H:Hp) (Q:VK):Prop
 |mk (x:V) (I:It) (k:Int) (e:vs=[x,.int k]) (i:ItA H x I) (q:∀v:Nat,v<3->Q (.int (v:Int)) H)
def GD:Sp:=fun vs H Q _=>XMo vs H Q
theorem qO {wl:List Str} (lw:wl.length=16) {k:Nat} (hk:k<16):(wl.map V.str)[k]?=some (.str (vr wl k)):=by
 rw[aJ,ba (by lia)]
 unfold vr
 rw[bp,ba (by lia)]
 rfl
theorem kj (T:Txt K mg):FO P w base 2 T.d32 CV:=by
 have gD29:=jT (P:=P) (w:=w) (base:=base) T
 refine T.d32.F.ok qC (fun vs H Q E h=>?_) (fun cdv A0 outer s0 H vs Q E hr h=>?_)
 ·obtain⟨n,rfl,_⟩:=h
  rfl
 obtain⟨n,rfl,q⟩:=h
 refine⟨_,(eV (fu (pF T.d29 gD29 (hr.mono (by lia)) (eN (fz (eN fD (eN (fz (eN (fq hX (cv 0) (fq yp eR eR)) eP)) (eN (fz eP) eP)))) (eN eR eP))))),?_⟩
 refine⟨⟨by decide,by decide,by decide⟩,(by show(0:Int)<10^(60:Int).toNat;decide+kernel),lY,fun t1 h1=>⟨mh,fun t2 h2=>⟨sM,fun t3 h3=>?_⟩⟩⟩
 refine⟨_,1,.num (n%10^60),rfl,Br h1 h2 h3,fun H' a cs N=>?_⟩
 exact q _ _ ((xh h1 h2 h3).trans N.sm) N.it
theorem kR (T:Txt K mg):FO P w base 2 T.d31 EB:=by
 have gD29:=jT (P:=P) (w:=w) (base:=base) T
 refine T.d31.F.ok uF (fun vs H Q E h=>?_) (fun cdv A0 outer s0 H vs Q E hr h=>?_)
 ·obtain⟨st,sn,J,rfl,_⟩:=h
  rfl
 obtain⟨st,sn,J,rfl,k,j,q⟩:=h
 refine⟨_,(eQ (gB (fA jv (fJ fR rfl T.z_len ja (eN (cv 0) eP)) eR)
   (eV (fu (pF T.d29 gD29 (hr.mono (by lia)) (eN (fz (eN fD (eN (fz (eN eR eP)) (eN (fz eP) eP)))) (eN eR eP)))))
   fF)
  (eV (fu (AU dJ dO dP AV (cv 0))))),?_⟩
 obtain⟨xs,es,ls,al⟩:=id k
 refine⟨st,_,rfl,.inl (SqL.of es),?_⟩
 show if(false ^^ decide ((xs.length:Int)=0))=true then _ else _
 by_cases z:xs.length=0
 ·rw[gQ (by lia)]
  refine jL ?_
  refine⟨lY,fun t1 h1=>⟨mh,fun t2 h2=>⟨sM,fun t3 h3=>?_⟩⟩⟩
  refine⟨_,1,.num 0,rfl,Br h1 h2 h3,fun H' a cs N=>?_⟩
  have S:=(xh h1 h2 h3).trans N.sm
  exact q _ _ (nuI 0) (FS.same S) (k.same S) N.it j
 ·rw[gA (by lia)]
  refine jo ?_
  have hy:xs[xs.length-1]?=some (xs[xs.length-1]'(by lia)):=ba (by lia)
  obtain⟨I,hI',hJ⟩:=al _ (aM hy)
  refine⟨.inl ⟨rfl,_,SqL.of es⟩,st,xs,_,rfl,rfl,es,hy,?_⟩
  have F:FS st H (L2.Internal.upd H st (.lst xs.dropLast)):=fun a o e n=>by rw[eT n];exact e
  exact q _ _ I F ⟨xs.dropLast,eO,by rw[aV];lia,fun x hx=>let⟨I',h,j⟩:=al x (List.dropLast_subset _ hx);⟨I',h.fs k F,j⟩⟩ (hI'.fs k F) hJ
theorem ub (T:Txt K mg):FO P w base 2 T.d33 EC:=by
 have gD29:=jT (P:=P) (w:=w) (base:=base) T
 refine T.d33.F.ok oK (fun vs H Q E h=>?_) (fun cdv A0 outer s0 H vs Q E hr h=>?_)
 ·obtain⟨wa,wl,v,rfl,_⟩:=h
  rfl
 obtain⟨wa,wl,v,rfl,hw,lw,hv,q⟩:=h
 refine⟨_,(eQ (pS (i:=2) oK.nd (pF T.d29 gD29 (hr.mono (by lia)) (eN (fz (eN fD (eN (fz (eN (eZ fc (cv 0) (cv 1)) eP)) (eN (fz eP) eP)))) (eN eR eP))))
  (eQ (qT eR (qS (eZ fc (cv 2) eR) (cv 1) lU))
  (eV (fu (cv 2))))),?_⟩
 refine⟨_,hw,eX (eU (qO lw (by lia))) ⟨lY,fun t1 h1=>⟨mh,fun t2 h2=>⟨sM,fun t3 h3=>?_⟩⟩⟩⟩
 refine⟨_,1,.name (vr wl v),rfl,uW h1 h2 h3,fun H' a cs N=>?_⟩
 dsimp only[fK]
 have S:=(xh h1 h2 h3).trans N.sm
 have nc:H cs=none:=by
  cases z:H cs with
  |none=>rfl
  |some u=>have:=N.nc;rw[xh h1 h2 h3 _ _ z]at this;cases this
 have ej:ixN (cV3 (fun _=>0)).length (v:Int)=some v:=by
  unfold ixN
  rw[fY (by lia),fY (by show(v:Int)<((3:Nat):Int);lia)]
  rfl
 refine⟨_,N.ea,eX (eU (j:=3) rfl) ⟨cs,_,_,v,rfl,rfl,N.ec,ej,?_⟩⟩
 have e3:(cV3 (fun _=>0)).set v (.int 1)=cV3 (fun k=>if k=v then 1 else 0):=by
  match v,hv with
  |0,_=>rfl
  |1,_=>rfl
  |2,_=>rfl
 have e3:(cV3 (It.c ⟨.mk (.name (vr wl v)) [],1,fun _=>0,false⟩)).set v (.int 1)=cV3 (naI wl v).c:=e3
 rw[e3]
 refine q _ _ (fun b o e=>by rw[eT (eY e nc)];exact S _ _ e) ⟨a,_,cs,rfl,by rw[eT N.ne];exact N.ea,eO,N.im.mono (ie N.ec).tk⟩
theorem uc (T:Txt K mg):FO P w base 2 T.d34 GD:=by
 refine T.d34.F.ok tF (fun vs H Q E h=>?_) (fun cdv A0 outer s0 H vs Q E hr h=>?_)
 ·obtain⟨x,I,k,rfl,_⟩:=h
  rfl
 obtain⟨x,I,k,rfl,i,q⟩:=h
 refine⟨_,(eQ (gB (fA jv (fq hX (cv 1) eR) eR)
   (eV (fu (fq hX (fq jB (cv 1) eR) eR)))
   fF)
  (eV (fu (lg dJ dI PySem.F.type_list_index (yv hr) (eZ fc (cv 0) eR) (eN (fJ (yt rfl) rfl T.z_max yj (eN (eZ fc (cv 0) eR) eP)) eP))))),?_⟩
 obtain⟨a,n,cs,rfl,e1,e2,iN⟩:=i
 refine⟨(by show(0:Int)<4;decide),?_⟩
 show if(false ^^ decide (k%4=0))=true then _ else _
 by_cases z:k%4=0
 ·rw[gQ z]
  refine jL ⟨⟨by decide,by decide⟩,(by show(0:Int)<3;decide),?_⟩
  have e:k/4%3=(((k/4%3).toNat:Nat):Int):=by lia
  show Q (.int (k/4%3)) H
  rw[e]
  exact q _ (by lia)
 ·rw[gA z]
  refine jo ?_
  refine⟨_,e1,eX (eU (j:=3) rfl) ⟨.inl ⟨rfl,_,SqL.of e2⟩,_,e1,eX (eU (j:=3) rfl) ⟨cs,[(I.c 0:Int),(I.c 1:Int),(I.c 2:Int)],rfl,SqL.of e2,by simp,fun n hn _=>?_⟩⟩⟩
  have go:∀j:Nat,j<3->([(I.c 0:Int),(I.c 1:Int),(I.c 2:Int)]:List Int)[j]?=some n->(∀m:Nat,m<j->([(I.c 0:Int),(I.c 1:Int),(I.c 2:Int)]:List Int)[m]?≠some n)->yu K (.ref cs) [.int n] H Q:=fun j hj h1 h2=>⟨cs,[(I.c 0:Int),(I.c 1:Int),(I.c 2:Int)],n,j,rfl,rfl,SqL.of e2,by simp,h1,h2,q j hj⟩
  by_cases a0:(I.c 0:Int)=n
  ·exact go 0 (by lia) (by rw[<-a0];rfl) (fun m h=>absurd h (cq _))
  by_cases a1:(I.c 1:Int)=n
  ·exact go 1 (by lia) (by rw[<-a1];rfl) (fun m h=>by
    have:m=0:=by lia
    subst this
    intro z
    exact a0 (cx.inj z))
  have a2:(I.c 2:Int)=n:=by
   simp only[aj,bj,or_false]at hn
   lia
  exact go 2 (by lia) (by rw[<-a2];rfl) (fun m h z=>by
   match m,h with
   |0,_=>exact a0 (cx.inj z)
   |1,_=>exact a1 (cx.inj z))
inductive XLt (vs:List V) (H:Hp) (Q:VK):Prop
 |mk (wa:Addr) (wl:List Str) (v:Nat) (x y:V) (b d:It) (e:vs=[.ref wa,.int (v:Int),x,y]) (hw:H wa=some (.lst (wl.map V.str))) (lw:wl.length=16) (hv:v<3) (ix:ItA H x b) (iy:ItA H y d) (hb:b.w<=1000) (hd:d.c v<=1000) (q:∀H' x,fC H H'->ItA H' x (ltI wl v b d)->Q x H')
def GF:Sp:=fun vs H Q _=>XLt vs H Q
theorem uX (T:Txt K mg):FO P w base 3 T.d37 GF:=by
 have gD30:=jn (P:=P) (w:=w) (base:=base) T
 refine T.d37.F.rd mL fun cdv A0 outer s H vs Q E hr h=>?_
 obtain⟨wa,wl,v,x,y,b,d,rfl,hw,lw,hv,ix,iy,hb,hd,q⟩:=h
 refine⟨_,(eQ (pS (i:=4) mL.nd (pF T.d30 gD30 (hr.mono (by lia)) (eN fD (eN (fz (eN (eZ fc (cv 0) (cv 1)) eP)) (eN (fG (eN (cv 2) (eN (cv 3) eP))) (eN (fG (eN (oR kT eR) (eN (cv 1) eP))) eP))))))
  (eQ (pS (i:=5) mL.nd (eZ fc (eZ fc (cv 3) eR) (cv 1)))
  (eQ (qT (fq gF (eZ fc (cv 4) eR) (fq pM (cv 5) (eZ fc (cv 2) eR))) (qS (cv 4) eR lU))
  (eQ (qT (rN rfl (vA (x:="_law_k") ["_law_times","_law_item","_law_bound"] [("_law_times",5,s.heap.objs.size+ 3),("_law_item",4,s.heap.objs.size+ 2),("_law_bound",2,s.heap.objs.size+ 1)]) (gS rfl T.z_range (eN eR eP)) (fun _ _ _ _ _=>iB) (fun _ _ _ _ _=>(fq gF (eZ fc (eZ fc (cv 2) eR) (cv 0)) (fq pM (cv 1) (eZ fc (eZ fc (cv 3) eR) (cv 0)))))) (qS (cv 4) eR lU))
  (eV (fu (cv 4))))))),?_⟩
 have sl:=sizeLine_eq
 refine⟨_,hw,eX (eU (qO lw (by lia))) ⟨lY,fun t1 h1=>⟨lQ,fun l2 h2=>?_⟩⟩⟩
 refine⟨1,rfl,lQ,fun l3 h3=>?_⟩
 have T1:=eS h1 (.tup [.str (vr wl v)])
 have T2:=eS h2 (.lst [x,y])
 have T3:=eS h3 (.lst [.int (-1),.int (v:Int)])
 have T13:=T1.trans (T2.trans T3)
 refine⟨t1,l2,l3,.lt (vr wl v),_,_,[b,d],[none,some v],rfl,(T2.trans T3) _ _ eO,.cons (.flat rfl) .nil,T3 _ _ eO,.cons (ix.same T13) (.cons (iy.same T13) .nil),eO,rfl,(by show 2<=1000;decide),fun H4 a cs n N=>?_⟩
 dsimp only[fK]
 have S4:=T13.trans N.sm
 obtain⟨a1,n1,c1,rfl,ea1,ec1,in1⟩:=ix
 obtain⟨a2,n2,c2,rfl,ea2,ec2,in2⟩:=iy
 have na:H a=none:=by
  cases z:H a with
  |none=>rfl
  |some u=>have:=N.na;rw[T13 _ _ z]at this;cases this
 have ea1':=S4 _ _ ea1
 have ec1':=S4 _ _ ec1
 have q3:=at3 (c:=d.c) hv
 rw[eB]at q3
 refine⟨_,S4 _ _ ea2,eX (eU (j:=3) rfl) ⟨_,S4 _ _ ec2,eX q3 ?_⟩⟩
 dsimp only[fK]
 refine⟨_,N.ea,eX (eU (j:=2) rfl) ⟨_,ea1',eX (eU (j:=2) rfl) ⟨.inl ⟨by lia,by lia⟩,?_⟩⟩⟩
 refine⟨a,_,2,2,rfl,rfl,N.ea,rfl,?_⟩
 have F5:∀{p:Addr} {o:HO},H p=some o->(L2.Internal.upd H4 a (.lst ((itV n (knI (.lt (vr wl v)) [b,d] [none,some v]) cs).set 2 (.int (((1+knW [b,d]:Nat):Int)+(d.c v:Int)*(b.w:Int)))))) p=some o:=fun e=>by rw[eT (eY e na)];exact S4 _ _ e
 have ea5:(L2.Internal.upd H4 a (.lst ((itV n (knI (.lt (vr wl v)) [b,d] [none,some v]) cs).set 2 (.int (((1+knW [b,d]:Nat):Int)+(d.c v:Int)*(b.w:Int)))))) a=some (.lst ((itV n (knI (.lt (vr wl v)) [b,d] [none,some v]) cs).set 2 (.int (((1+knW [b,d]:Nat):Int)+(d.c v:Int)*(b.w:Int))))):=eO
 have ec5:(L2.Internal.upd H4 a (.lst ((itV n (knI (.lt (vr wl v)) [b,d] [none,some v]) cs).set 2 (.int (((1+knW [b,d]:Nat):Int)+(d.c v:Int)*(b.w:Int)))))) cs=some (.lst (cV3 (knC [b,d] [none,some v]))):=by rw[eT N.ne.symm];exact N.ec
 have i5:=N.im.mono (ie (o:= .lst ((itV n (knI (.lt (vr wl v)) [b,d] [none,some v]) cs).set 2 (.int (((1+knW [b,d]:Nat):Int)+(d.c v:Int)*(b.w:Int))))) N.ea).tk
 show xl _ _ _ _ (L2.Internal.upd H4 a (.lst ((itV n (knI (.lt (vr wl v)) [b,d] [none,some v]) cs).set 2 (.int (((1+knW [b,d]:Nat):Int)+(d.c v:Int)*(b.w:Int))))))
 generalize(L2.Internal.upd H4 a (.lst ((itV n (knI (.lt (vr wl v)) [b,d] [none,some v]) cs).set 2 (.int (((1+knW [b,d]:Nat):Int)+(d.c v:Int)*(b.w:Int))))))=H5 at F5 ea5 ec5 i5
 refine⟨3,rfl,by decide,by decide,fun D hD=>?_⟩
 refine kl 3 (by lia) (fun zs H6=>zs=(cV3 (ltI wl v b d).c).take zs.length) (fun _ _ _ h _=>h) hD rfl (fun k _ _ h=>h) (fun _ _=>cb _) rfl ?_ ?_
 ·rintro k H6 x H7 zs Z S6 hk ⟨rfl,rfl⟩ hz lz kZ
  refine⟨_,S6 _ _ ea5,eX (eU (j:=3) rfl) ⟨_,S6 _ _ ec5,eX (at3 hk) ?_⟩⟩
  refine⟨_,S6 _ _ (F5 ea1),eX (eU (j:=3) rfl) ⟨_,S6 _ _ (F5 ec1),eX (at3 hk) ⟨.inl ⟨by lia,by lia⟩,?_⟩⟩⟩
  refine kZ _ _ (fun _ _ e=>e) ?_
  rw[aN,aU,bM,lz]
  rw[lz]at hz
  have e3:(cV3 (ltI wl v b d).c)[k]?=some (.int ((knC [b,d] [none,some v] k:Int)+(d.c v:Int)*(b.c k:Int))):=by
   match k,hk with
   |0,_=>rfl
   |1,_=>rfl
   |2,_=>rfl
  rw[e3,<-hz]
  rfl
 ·intro H6 zs S6 hz lz ez
  rw[lz]at hz
  have hz:zs=cV3 (ltI wl v b d).c:=hz
  subst hz
  have ea6:=S6 _ _ ea5
  refine⟨a,_,3,3,rfl,rfl,ea6,rfl,?_⟩
  have nea:D≠a:=fun z=>by rw[z,ea5]at hD;cases hD
  refine q _ _ (fun p o e=>by rw[eT (eY e na)];exact S6 _ _ (F5 e)) ⟨a,n,D,rfl,?_,by rw[eT nea];exact ez,(i5.mono (fC.tk S6)).mono (ie ea6).tk⟩
  rw[eO]
  rfl
open TM.Internal (Kn Tr gv szs)
def JS (wl:List Str) (made:List Nat) (I:It):Prop:=Y4 (JI wl made I) (I.w<=40) (I.t.nest<=16) (I.t.sz<=140)
theorem JI.num {wl:List Str} {made:List Nat} (n:Int):JI wl made (nuI n):=by
 refine⟨fun e _=>?_,fun N _ _ _=>?_,fun k _=>cc _⟩
 ·show wT (.mk (.num n) []) e=1+cw (fun _=>0) wl e
  rw[tW,kQ]
  simp[cw,nmW]
 ·show okT (.mk (.num n) []) N
  unfold okT sg
  exact⟨rfl,trivial⟩
theorem JS.num {wl:List Str} {made:List Nat} (n:Int):JS wl made (nuI n):=⟨JI.num n,by show 1<=40;decide,by show(Tr.mk (.num n) []).nest<=16;simp[Tr.nest,TM.Internal.nests],by show(Tr.mk (.num n) []).sz<=140;simp[Tr.sz,szs]⟩
theorem JI.name {wl:List Str} {made:List Nat} {v:Nat} (hv:v<3):JI wl made (naI wl v):=by
 refine⟨fun e _=>?_,fun N _ _ h=>?_,fun k _=>?_⟩
 ·show wT (.mk (.name (vr wl v)) []) e=1+cw (fun k=>if k=v then 1 else 0) wl e
  rw[tW,kQ]
  match v,hv with
  |0,_=>simp[cw,nmW]
  |1,_=>simp[cw,nmW]
  |2,_=>simp[cw,nmW]
 ·show okT (.mk (.name (vr wl v)) []) N
  unfold okT sg
  exact⟨⟨rfl,h v hv (by show 0<if v=v then 1 else 0;simp)⟩,trivial⟩
 ·show(if k=v then 1 else 0)<=1
  split<;>lia
def deI (wl:List Str) (made:List Nat) (d:Nat):It:=⟨.mk (.name (wdE wl d)) [],1+made.getD d 0,fun _=>0,false⟩
def owI (wl:List Str) (made:List Nat):It:=⟨.mk (.name (wdE wl made.length)) [],1,fun _=>0,true⟩
theorem JI.df {wl:List Str} {made:List Nat} {d:Nat} (hd:d<made.length):JI wl made (deI wl made d):=by
 refine⟨fun e he=>?_,fun N h _ _=>?_,fun k _=>cc _⟩
 ·show wT (.mk (.name (wdE wl d)) []) e=1+made.getD d 0+cw (fun _=>0) wl e
  rw[tW,kQ]
  simp only[nmW,cw]
  rw[he.1 d hd]
  lia
 ·show okT (.mk (.name (wdE wl d)) []) N
  unfold okT sg
  exact⟨⟨rfl,h d hd⟩,trivial⟩
theorem JI.ow {wl:List Str} {made:List Nat}:JI wl made (owI wl made):=by
 refine⟨fun e he=>?_,fun N _ h _=>?_,fun k _=>cc _⟩
 ·show wT (.mk (.name (wdE wl made.length)) []) e=1+cw (fun _=>0) wl e
  rw[tW,kQ]
  simp only[nmW,cw]
  rw[he.2]
  lia
 ·show okT (.mk (.name (wdE wl made.length)) []) N
  unfold okT sg
  exact⟨⟨rfl,h rfl⟩,trivial⟩
theorem zm {α β:Type} {R:α->β->Prop} {J:β->Prop}:∀{xs:List α},(∀x∈xs,∃y,R x y/\J y)->∃ys,l6 R xs ys/\∀y∈ys,J y
 |[],_=>⟨[],.nil,fun _ h=>by cases h⟩
 |x::xs,h=>by
  obtain⟨y,r,j⟩:=h x (by simp)
  obtain⟨ys,rs,js⟩:=zm (xs:=xs) fun z hz=>h z (ai _ hz)
  refine⟨y::ys,.cons r rs,fun z hz=>?_⟩
  rcases aj.mp hz with rfl|hz
  ·exact j
  ·exact js z hz
theorem CW {st D:Addr} {sn:Nat} {J:It->Prop} {n:Nat} {Q:VK} {H1:Hp} (hn:n<=50) (k0:Stk H1 st sn J) (j0:J (nuI 0)) (hD:H1 D=none) (hq:∀H' zs its,FS st H1 H'->Stk H' st sn J->H' D=some (.lst zs)->l6 (ItA H') zs its->its.length=n->(∀I∈its,J I)->Q (.ref D) H'):LcP (Itr 0 n) 0 ml (qz EB [] E0 (jA (cV 1) sP)) Q [none,some (.ref st)] H1 D:=by
 have sl:=sizeLine_eq
 have nst:D≠st:=fun z=>by obtain⟨xs,e,_⟩:=k0;rw[z,e]at hD;cases hD
 refine⟨fun k m σ' H=>Y4 (m=n-k) (k<=n) ((∃o,σ'=[o,some (.ref st)])) (∃zs,Y5 (zs.length=k) (H D=some (.lst zs)) (Stk H st sn J) (FS st H1 H) (∀x∈zs,∃I,ItA H x I/\J I)),⟨n,rfl,cc _,⟨none,rfl⟩,[],rfl,eO,k0.same (eS hD _),FS.same (eS hD _),fun _ h=>by cases h⟩,?_⟩
 rintro k m σ' H ⟨rfl,hk,⟨o,rfl⟩,zs,lz,eD,ks,F,al⟩
 by_cases lk:k<n
 ·refine .inr ⟨lk,?_⟩
  rintro v H3 ⟨rfl,rfl⟩
  dsimp only[ml]
  rw[fY rfl]
  refine⟨st,sn,J,rfl,ks,j0,fun H5 x I F5 k5 i5 jI=>?_⟩
  have e5:=F5 _ _ eD nst
  have al5:∀x∈zs,∃I,ItA H5 x I/\J I:=fun x hx=>let⟨I,a,b⟩:=al x hx;⟨I,a.fs ks F5,b⟩
  have kD:Stk H5 D 100 J:=⟨zs,e5,by lia,al5⟩
  have F6:FS D H5 (L2.Internal.upd H5 D (.lst (zs++[x]))):=fun a o e n=>by rw[eT n];exact e
  refine⟨zs,e5,by lia,n-(k+ 1),by lia,rfl,lk,⟨_,rfl⟩,zs++[x],by rw[aN,lz];rfl,eO,?_,fun a o e n=>?_,fun y hy=>?_⟩
  ·obtain⟨xs,es,ls,als⟩:=k5
   exact⟨xs,F6 _ _ es nst.symm,ls,fun y hy=>let⟨I,a,b⟩:=als y hy;⟨I,a.fs kD F6,b⟩⟩
  ·rw[eT (eY e hD)]
   exact F5 _ _ (F _ _ e n) n
  ·rcases ak.mp hy with hy|hy
   ·obtain⟨I',a,b⟩:=al5 y hy
    exact⟨I',a.fs kD F6,b⟩
   ·rw[aZ.mp hy]
    exact⟨I,i5.fs kD F6,jI⟩
 ·have e1:k=n:=by lia
  subst e1
  obtain⟨its,a2,js⟩:=zm al
  exact .inl ⟨cb _,hq H zs its F ks eD a2 (by rw[<-a2.length];exact lz) js⟩
inductive XWi (L:Int->Int->Prop) (vs:List V) (H:Hp) (Q:VK):Prop
 |mk (wa st:Addr) (sn:Nat) (wl:List Str) (made:List Nat) (op k:Int) (e:vs=[.ref wa,.ref st,.int op,.int k]) (ho:L op k) (hw:H wa=some (.lst (wl.map V.str))) (lw:wl.length=16) (nd:wl.Nodup) (lm:made.length<=12) (nws:wa≠st) (ks:Stk H st sn (JS wl made)) (q:∀H' x I,FS st H H'->Stk H' st sn (JS wl made)->ItA H' x I->JI wl made I->Q x H')
def ED (L:Int->Int->Prop):Sp:=fun vs H Q _=>XWi L vs H Q
def hs3:Nat->Str
 |0=>"get"
 |1=>"tag"
 |_=>"size"
def pk3 (a b c:Addr):Nat->Addr
 |0=>a
 |1=>b
 |_=>c
def hs5:Nat->Str
 |0=>"call"
 |1=>"join"
 |2=>"add"
 |3=>"sub"
 |_=>"less"
theorem qP {H:Hp} {Q:VK} {wt pl hl:Addr} {κ:Kn} {h:Str} {ws xs ys:List V} {its:List It} {ho:List (Option Nat)} (eh:h=κ.s) (ew:H wt=some (.tup ws)) (iw:Ims H ws (wsD κ)) (ep:H pl=some (.lst xs)) (ix:l6 (ItA H) xs its) (e4:H hl=some (.lst ys)) (ey:ys=ho.map hI) (l:ho.length=its.length) (ln:its.length<=1000) (q:∀H' x,fC H H'->ItA H' x (knI κ its ho)->Q x H'):CU [.str h,.ref wt,.ref pl,.ref hl] H Q E0:=
 ⟨wt,pl,hl,κ,ws,xs,its,ho,by rw[eh],ew,iw,ep,ix,by rw[e4,ey],l,ln,fun H' a cs n N=>q H' _ N.sm N.it⟩
theorem qQ (T:Txt K mg):FO P w base 3 T.d36 (ED fun op _=>op=0\/op=1\/op=2):=by
 have gD30:=jn (P:=P) (w:=w) (base:=base) T
 have gD31:=kR (P:=P) (w:=w) (base:=base) T
 refine T.d36.F.rd ig fun cdv A0 outer s H vs Q E hr h=>?_
 obtain⟨wa,st,sn,wl,made,op,k,rfl,ho,hw,lw,nd,lm,nws,ks,q⟩:=h
 refine⟨_,(eQ (pS (i:=4) ig.nd (pF T.d31 gD31 (hr.mono (by lia)) (eN (cv 1) eP)))
  (eQ (gB (fA jv (cv 2) eR)
   (eQ (pS (i:=5) ig.nd (eZ fc (fG (eN fD (eN fD (eN fD eP)))) (fq hX (cv 3) eR)))
   (eQ (pS (i:=6) ig.nd (eZ fc (fG (eN (fz (eN (eZ fc (cv 0) (fq hX (fq jB (cv 3) eR) eR)) eP)) (eN (fz (eN (eZ fc (cv 0) (fq hX (fq jB (cv 3) eR) eR)) eP)) (eN (fz eP) eP)))) (fq hX (cv 3) eR)))
   (eV (fu (pF T.d30 gD30 (hr.mono (by lia)) (eN (cv 5) (eN (cv 6) (eN (fG (eN (cv 4) eP)) (eN (fG (eN (oR kT eR) eP)) eP)))))))))
   fF)
  (eQ (gB (fA jv (cv 2) eR)
   (eQ (pS (i:=7) ig.nd (fG (eN (pF T.d31 gD31 (hr.mono (by lia)) (eN (cv 1) eP)) (eN (pF T.d31 gD31 (hr.mono (by lia)) (eN (cv 1) eP)) (eN (cv 4) eP)))))
   (eV (fu (pF T.d30 gD30 (hr.mono (by lia)) (eN fD (eN (fz eP) (eN (cv 7) (eN (fG (eN (oR kT eR) (eN (oR kT eR) (eN (oR kT eR) eP)))) eP))))))))
   fF)
  (eV (fu (pF T.d30 gD30 (hr.mono (by lia)) (eN (eZ fc (fG (eN fD (eN fD (eN fD (eN fD (eN fD eP)))))) (fq hX (cv 3) eR)) (eN (fz eP) (eN (fG (eN (pF T.d31 gD31 (hr.mono (by lia)) (eN (cv 1) eP)) (eN (cv 4) eP))) (eN (fG (eN (oR kT eR) (eN (oR kT eR) eP))) eP)))))))))),?_⟩
 have sl:=sizeLine_eq
 refine⟨st,sn,JS wl made,rfl,ks,JS.num 0,fun H1 x I F1 k1 i1 j1=>?_⟩
 dsimp only[fK]
 have hw1:=F1 _ _ hw nws
 by_cases e0:op=0
 ·refine rm (i:=2) (n:=op) rfl e0 ?_
  refine⟨sM,fun l1 h1=>?_⟩
  obtain⟨j,hj,ej⟩:∃j:Nat,j<3/\k%3=(j:Int):=⟨(k%3).toNat,by lia,by lia⟩
  obtain⟨i,hi,ei⟩:∃i:Nat,i<16/\k/3%16=(i:Int):=⟨(k/3%16).toNat,by lia,by lia⟩
  have qw:atI (wl.map V.str) (k/3%16)=some (.str (vr wl i)):=by rw[ei];exact eU (qO lw hi)
  have U1:=eS h1 (.lst [.str "get",.str "tag",.str "size"])
  have fin:∀(κ:Kn) (H2:Hp) (wt:Addr) (ws:List V),fC H1 H2->H2 wt=some (.tup ws)->Ims H2 ws (wsD κ)->exN κ=[]->(∀w,κ≠ .name w)->(∀N,okK κ 1 N)->∀(σ:St),σ[5]?=some (some (.str κ.s))->σ[6]?=some (some (.ref wt))->σ[4]?=some (some x)->Fh (qz CU [] E0 (jA (cV 5) (jA (cV 6) (jA (E5 (jA (cV 4) sP)) (jA (E5 (jA (tUn (rU fun i=>V.int (-i)) (tC (V.int 1))) sP)) sP))))) {nx:=fun x H'=>Q V.non H',rt:=Q} σ H2:=by
   intro κ H2 wt ws U ew iw ex nn ok σ s5 s6 s4
   show onV σ[5]? _
   rw[s5]
   show onV σ[6]? _
   rw[s6]
   show onV σ[4]? _
   rw[s4]
   refine⟨lY,fun l3 h3=>⟨1,rfl,lY,fun l4 h4=>?_⟩⟩
   have U3:=eS h3 (.lst [x])
   have U4:=eS h4 (.lst [.int (-1)])
   have U34:=U3.trans U4
   refine qP (κ:=κ) (its:=[I]) (ho:=[none]) rfl (U34 _ _ ew) (iw.mono (fC.tk U34)) (U4 _ _ eO) (.cons (i1.same (U.trans U34)) .nil) eO rfl rfl (by show 1<=1000;decide) fun H' x' S' i'=>?_
   have U':=U.trans (U34.trans S')
   exact q H' x' _ (F1.trans (FS.same U')) (k1.same U') i' (JI.knit lw nd lm rfl (by rw[ex];exact⟨rfl,trivial⟩) (fun J hJ=>by rw[aZ.mp hJ];exact j1.1) nn ok)
  have qh:atI [V.str "get",V.str "tag",V.str "size"] (k%3)=some (.str (hs3 j)):=by
   rw[ej]
   match j,hj with
   |0,_=>rfl
   |1,_=>rfl
   |2,_=>rfl
  refine⟨(by show(0:Int)<3;decide),_,eO,eX qh ?_⟩
  dsimp only[fK]
  have hw2:=U1 _ _ hw1
  refine⟨⟨by decide,by decide⟩,(by show(0:Int)<16;decide),_,hw2,eX qw ⟨lY,fun t1 g1=>?_⟩⟩
  have V1:=eS g1 (.tup [.str (vr wl i)])
  refine⟨⟨by decide,by decide⟩,(by show(0:Int)<16;decide),_,V1 _ _ hw2,eX qw ⟨lY,fun t2 g2=>⟨mh,fun t3 g3=>⟨sM,fun l2 g4=>?_⟩⟩⟩⟩
  have V2:=eS g2 (.tup [.str (vr wl i)])
  have V3:=eS g3 (.tup [])
  have V4:=eS g4 (.lst [.ref t1,.ref t2,.ref t3])
  have qp:atI [V.ref t1,V.ref t2,V.ref t3] (k%3)=some (.ref (pk3 t1 t2 t3 j)):=by
   rw[ej]
   match j,hj with
   |0,_=>rfl
   |1,_=>rfl
   |2,_=>rfl
  refine⟨(by show(0:Int)<3;decide),_,eO,eX qp ?_⟩
  dsimp only[fK]
  have UV:=U1.trans (V1.trans (V2.trans (V3.trans V4)))
  match j,hj with
  |0,_=>exact fin (.get (vr wl i)) _ t1 _ UV ((V2.trans (V3.trans V4)) _ _ eO) (.cons (.flat rfl) .nil) rfl (fun _ z=>nomatch z) (fun _=>rfl) _ rfl rfl rfl
  |1,_=>exact fin (.tag (vr wl i)) _ t2 _ UV ((V3.trans V4) _ _ eO) (.cons (.flat rfl) .nil) rfl (fun _ z=>nomatch z) (fun _=>rfl) _ rfl rfl rfl
  |2,_=>exact fin (.op "size" 1) _ t3 _ UV (V4 _ _ eO) .nil rfl (fun _ z=>nomatch z) (fun _=>⟨rfl,by simp[TM.Internal.ops]⟩) _ rfl rfl rfl
 refine rp (i:=2) (n:=op) rfl e0 ?_
 dsimp only[ju]
 by_cases e1:op=1
 ·refine rm (i:=2) (n:=op) rfl e1 ?_
  refine⟨st,sn,JS wl made,rfl,k1,JS.num 0,fun H2 x2 I2 F2 k2 i2 j2=>?_⟩
  refine⟨st,sn,JS wl made,rfl,k2,JS.num 0,fun H3 x3 I3 F3 k3 i3 j3=>?_⟩
  refine⟨sM,fun l3 h3=>?_⟩
  dsimp only[fK]
  refine⟨mh,fun t4 h4=>⟨1,rfl,1,rfl,1,rfl,sM,fun l5 h5=>?_⟩⟩
  have U3:=eS h3 (.lst [x2,x3,x])
  have U4:=eS h4 (.tup [])
  have U5:=eS h5 (.lst [.int (-1),.int (-1),.int (-1)])
  have U:=U3.trans (U4.trans U5)
  refine qP (κ:= .op "at" 3) (its:=[I2,I3,I]) (ho:=[none,none,none]) rfl (U5 _ _ eO) .nil ((U4.trans U5) _ _ eO) (.cons ((i2.fs k2 F3).same U) (.cons (i3.same U) (.cons (((i1.fs k1 F2).fs k2 F3).same U) .nil))) eO rfl rfl (by show 3<=1000;decide) fun H' x' S' i'=>?_
  have U':=U.trans S'
  exact q H' x' _ (F1.trans (F2.trans (F3.trans (FS.same U')))) (k3.same U') i' (JI.knit lw nd lm rfl ⟨rfl,rfl,rfl,trivial⟩ (fun J hJ=>by
   simp only[aj,bj,or_false]at hJ
   rcases hJ with rfl|rfl|rfl
   ·exact j2.1
   ·exact j3.1
   ·exact j1.1) (fun _ z=>nomatch z) (fun _=>⟨rfl,by simp[TM.Internal.ops]⟩))
 refine rp (i:=2) (n:=op) rfl e1 ?_
 dsimp only[ju]
 obtain⟨j,hj,ej⟩:∃j:Nat,j<5/\k%5=(j:Int):=⟨(k%5).toNat,by lia,by lia⟩
 have qh:atI [V.str "call",V.str "join",V.str "add",V.str "sub",V.str "less"] (k%5)=some (.str (hs5 j)):=by
  rw[ej]
  match j,hj with
  |0,_=>rfl
  |1,_=>rfl
  |2,_=>rfl
  |3,_=>rfl
  |4,_=>rfl
 have ho5:(hs5 j,2)∈TM.Internal.ops:=by
  match j,hj with
  |0,_=>simp[TM.Internal.ops,hs5]
  |1,_=>simp[TM.Internal.ops,hs5]
  |2,_=>simp[TM.Internal.ops,hs5]
  |3,_=>simp[TM.Internal.ops,hs5]
  |4,_=>simp[TM.Internal.ops,hs5]
 refine⟨E3,fun l1 h1=>⟨(by show(0:Int)<5;decide),_,eO,eX qh ⟨mh,fun t2 h2=>?_⟩⟩⟩
 have V1:=eS h1 (.lst [.str "call",.str "join",.str "add",.str "sub",.str "less"])
 have V2:=eS h2 (.tup [])
 have V:=V1.trans V2
 have k1':=k1.same V
 refine⟨st,sn,JS wl made,rfl,k1',JS.num 0,fun H2 x2 I2 F2 k2 i2 j2=>?_⟩
 refine⟨lQ,fun l3 h3=>⟨1,rfl,1,rfl,lQ,fun l5 h5=>?_⟩⟩
 have U3:=eS h3 (.lst [x2,x])
 have U5:=eS h5 (.lst [.int (-1),.int (-1)])
 have U:=U3.trans U5
 refine qP (κ:= .op (hs5 j) 2) (its:=[I2,I]) (ho:=[none,none]) rfl (U _ _ (k1'.tk F2 _ _ eO)) .nil (U5 _ _ eO) (.cons (i2.same U) (.cons (((i1.same V).fs k1' F2).same U) .nil)) eO rfl rfl (by show 2<=1000;decide) fun H' x' S' i'=>?_
 have U':=U.trans S'
 exact q H' x' _ (F1.trans ((FS.same V).trans (F2.trans (FS.same U')))) (k2.same U') i' (JI.knit lw nd lm rfl ⟨rfl,rfl,trivial⟩ (fun J hJ=>by
  simp only[aj,bj,or_false]at hJ
  rcases hJ with rfl|rfl
  ·exact j2.1
  ·exact j1.1) (fun _ z=>nomatch z) (fun _=>⟨rfl,ho5⟩))
open TM.Internal (Kn Tr gv szs)
theorem uY {wl:List Str}:∀n:Nat,Mxs wl [] (aF n none)
 |0=>trivial
 |n+ 1=>⟨rfl,uY n⟩
theorem zo {wl:List Str}:∀{l:List (Str×Str)} {vs:List Nat},(∀(i:Nat) a v,l[i]?=some a->vs[i]?=some v->v<3/\a.2=vr wl v)->l.length=vs.length->Mxs wl (l.map fun a=>some (a.2,("arm":Str))) (vs.map some)
 |[],[],_,_=>trivial
 |a::l,v::vs,h,e=>by
  obtain⟨h1,h2⟩:=h 0 a v rfl rfl
  exact⟨h1,⟨"arm",fS,by rw[<-h2];rfl⟩,zo (fun i a v ha hv=>h (i+ 1) a v ha hv) (by simpa using e)⟩
 |[],_::_,_,e=>by cases e
 |_::_,[],_,e=>by cases e
theorem EE {xs:List V} {n:Nat}:qA xs none (some (n:Int))=xs.take n:=by
 unfold qA
 rw[HT.Internal.sIx_none,HT.Internal.sIx_nat,List.drop_zero,Nat.sub_zero]
 by_cases h:n<=xs.length
 ·rw[Nat.min_eq_left h]
 ·rw[Nat.min_eq_right (by lia),bE,bO (by lia)]
theorem vR (n:Nat):(aF n (none:Option Nat)).map hI=aF n (.int (-1)):=by rw[List.map_replicate];rfl
theorem Bu {K:PySem.W.Frag} {l D:Addr} {xs:List V} {Q:VK} {H1:Hp} (el:H1 l=some (.lst xs)) (hD:H1 D=none) (hn:xs.length<=1000) (hq:∀H',fC H1 H'->H' D=some (.lst (aF xs.length (.int (-1))))->Q (.ref D) H'):LcP (Itl K l) 0 ml (tUn (rU fun i=>V.int (-i)) (tC (V.int 1))) Q [none] H1 D:=by
 have sl:=sizeLine_eq
 refine kl xs.length (by lia) (fun zs _=>zs=aF zs.length (.int (-1))) (fun _ _ _ h _=>h) hD rfl (fun k H5 S5 h=>oG el S5 h) (fun H5 S5=>oH el S5) rfl ?_ ?_
 ·rintro k H v H3 zs Z S hk ⟨rfl,_⟩ hz lz kZ
  refine⟨1,rfl,kZ _ _ (fun _ _ e=>e) ?_⟩
  rw[aN,aU,bU,<-hz]
 ·intro H' zs S hz lz ez
  rw[lz]at hz
  exact hq H' S (by rw[ez,hz])
abbrev Dj (a b:TE):TE:=tOp (cI (fun _ j=>0<j) fun i j=>V.int (i%j)) a b
abbrev tDv (a b:TE):TE:=tOp (cI Fq fun i j=>V.int (i/j)) a b
theorem AG {σ:St} {R:TS} {D:nH} {H:Hp} {op k:Int} (h2:σ[2]?=some (some (.int op))) (h3:σ[3]?=some (some (.int k))) (ho:op=0\/op=1\/op=2) (h:∀(n:Nat) (H':Hp),n<=8->(op=2->n<=5)->fC H H'->R D (σ.set 4 (some (.int (n:Int)))) H'):
  xl (xx (Dj (tDv (cV 3) (tC (.int 3))) (tC (.int 3))) (fK 4)) (xl (ve (cT (tOp (cEq false) (Dj (tDv (cV 3) (tC (.int 9))) (tC (.int 4))) (tC (.int 0)))) (xx (Dj (tDv (cV 3) (tC (.int 36))) (tOp z6 (E5 (jA (tC (.int 7)) (jA (tC (.int 9)) (jA (tC (.int 6)) sP)))) (cV 2))) (fK 4)) ju) R) D σ H:=by
 show onV σ[3]? _
 rw[h3]
 refine⟨⟨by decide,by decide⟩,(by show(0:Int)<3;decide),?_⟩
 have e1:k/3%3=(((k/3%3).toNat:Nat):Int):=by lia
 have s3:(σ.set 4 (some (.int (k/3%3))))[3]?=some (some (.int k)):=by rw[av (by decide)];exact h3
 have s2:(σ.set 4 (some (.int (k/3%3))))[2]?=some (some (.int op)):=by rw[av (by decide)];exact h2
 show onV (σ.set 4 (some (.int (k/3%3))))[3]? _
 rw[s3]
 refine⟨⟨by decide,by decide⟩,(by show(0:Int)<4;decide),?_⟩
 show if(false ^^ decide (k/9%4=0))=true then _ else _
 by_cases z:k/9%4=0
 ·rw[gQ z]
  refine jL ?_
  show onV (σ.set 4 (some (.int (k/3%3))))[3]? _
  rw[s3]
  refine⟨⟨by decide,by decide⟩,sM,fun l hl=>?_⟩
  show onV (σ.set 4 (some (.int (k/3%3))))[2]? _
  rw[s2]
  obtain⟨m,em,h0,h9,h5⟩:∃m:Int,atI [V.int 7,V.int 9,V.int 6] op=some (.int m)/\0<m/\m<=9/\(op=2->m<=6):=by
   rcases ho with rfl|rfl|rfl
   ·exact⟨7,rfl,by decide,by decide,fun z=>by cases z⟩
   ·exact⟨9,rfl,by decide,by decide,fun z=>by cases z⟩
   ·exact⟨6,rfl,by decide,by decide,fun _=>by decide⟩
  refine⟨_,eO,eX em ⟨h0,?_⟩⟩
  have c0:=ee (k/36) (show m≠0 by lia)
  have c1:=eg (k/36) h0
  have e2:k/36%m=(((k/36%m).toNat:Nat):Int):=by lia
  have h':=h (k/36%m).toNat _ (by lia) (fun y=>by have:=h5 y;lia) (eS hl (.lst [.int 7,.int 9,.int 6]))
  rw[<-e2]at h'
  show R D ((σ.set 4 (some (.int (k/3%3)))).set 4 (some (.int (k/36%m)))) _
  rw[bB]
  exact h'
 ·rw[gA z]
  refine jo ?_
  have h':=h (k/3%3).toNat H (by lia) (fun _=>by lia) (fun _ _ e=>e)
  rw[<-e1]at h'
  exact h'
theorem AH {wa D:Addr} {wl:List Str} {n:Nat} {k:Int} {Q:VK} {H1:Hp} (hw:H1 wa=some (.lst (wl.map V.str))) (lw:wl.length=16) (hD:H1 D=none) (hn:n<=50) (hq:∀(H':Hp) (cs:List Str),fC H1 H'->H' D=some (.lst (cs.map V.str))->cs.length=n->Q (.ref D) H'):LcP (Itr 0 n) 0 ml (tOp z6 (cV 1) (Dj (tOp (cI0 fun i j=>V.int (i+j)) (tDv (cV 2) (tC (V.int 189))) (tOp (cI DD fun i j=>V.int (i*j)) (tC (V.int 3)) (cV 0))) (tC (V.int 16)))) Q [none,some (.ref wa),some (.int k)] H1 D:=by
 have sl:=sizeLine_eq
 refine kl n (by lia) (fun zs _=>∃cs:List Str,zs=cs.map V.str) (fun _ _ _ h _=>h) hD rfl (fun j _ _ h=>h) (fun _ _=>cb _) ⟨[],rfl⟩ ?_ ?_
 ·rintro j H v H3 zs Z S hj ⟨rfl,rfl⟩ ⟨cs,rfl⟩ lz kZ
  obtain⟨i,hi,ei⟩:∃i:Nat,i<16/\(k/189+ 3*(0+(j:Int)))%16=(i:Int):=⟨((k/189+ 3*(0+(j:Int)))%16).toNat,by lia,by lia⟩
  refine⟨⟨by decide,by decide⟩,.inl ⟨by decide,by decide⟩,(by show(0:Int)<16;decide),_,S _ _ hw,eX (show atI _ ((k/189+ 3*(0+(j:Int)))%16)=some (.str (vr wl i)) by rw[ei];exact eU (qO lw hi)) ?_⟩
  exact kZ _ _ (fun _ _ e=>e) ⟨cs++[vr wl i],by rw[bC];rfl⟩
 ·rintro H' zs S ⟨cs,rfl⟩ lz ez
  exact hq H' cs S ez (by rw[aB]at lz;exact lz)
theorem CY {D:Addr} {n:Nat} {k:Int} {Q:VK} {H1:Hp} (hD:H1 D=none) (hn:n<=50) (hq:∀(H':Hp),fC H1 H'->H' D=some (.lst (((aa n).map fun j:Nat=>((k+(j:Int))%3).toNat).map fun v:Nat=> .int (v:Int)))->Q (.ref D) H'):LcP (Itr 0 n) 0 ml (Dj (tOp (cI0 fun i j=>V.int (i+j)) (cV 1) (cV 0)) (tC (V.int 3))) Q [none,some (.int k)] H1 D:=by
 have sl:=sizeLine_eq
 refine kl n (by lia) (fun zs _=>zs=((aa zs.length).map fun j:Nat=>((k+(j:Int))%3).toNat).map fun v:Nat=> .int (v:Int)) (fun _ _ _ h _=>h) hD rfl (fun j _ _ h=>h) (fun _ _=>cb _) rfl ?_ ?_
 ·rintro j H v H3 zs Z S hj ⟨rfl,rfl⟩ hz lz kZ
  refine⟨(by show(0:Int)<3;decide),kZ _ _ (fun _ _ e=>e) ?_⟩
  rw[aN,aU,bS,bC,bC,<-hz,lz]
  have e:(k+(0+(j:Int)))%3=((((k+(j:Int))%3).toNat:Nat):Int):=by rw[eB];lia
  show zs++[V.int ((k+(0+(j:Int)))%3)]=_
  rw[e]
  rfl
 ·intro H' zs S hz lz ez
  rw[lz]at hz
  exact hq H' S (by rw[ez,hz])
theorem sC {H:Hp}:∀l:List Str,Ims H (l.map V.str) (l.map sD)
 |[]=> .nil
 |x::l=> .cons (.flat rfl) (sC l)
theorem vS {H:Hp}:∀l:List (Str×Str),Ims H (l.flatMap fun a=>[V.str a.1,V.str a.2]) (l.flatMap fun a=>[sD a.1,sD a.2])
 |[]=> .nil
 |x::l=> .cons (.flat rfl) (.cons (.flat rfl) (vS l))
def lsA (wl cs:List Str) (k:Int) (i:Nat):List (Str×Str):=(aa i).map fun j:Nat=>(cs.getD j "",vr wl ((k+(j:Int))%3).toNat)
theorem sE {wl cs:List Str} {k:Int} {i:Nat}:(lsA wl cs k i).length=i:=by unfold lsA;rw[aB,bT]
theorem vT:∀l:List (Str×Str),(l.flatMap fun a=>[V.str a.1,V.str a.2]).length=2*l.length
 |[]=>rfl
 |x::l=>by have e:=ay (a:=x) (as:=l);rw[List.flatMap_cons,aN,vT l];show 2+ 2*l.length=_;lia
theorem ud (T:Txt K mg):FO P w base 3 T.d35 (ED fun op _=>op=0\/op=1\/op=2):=by
 have gD30:=jn (P:=P) (w:=w) (base:=base) T
 have gD31:=kR (P:=P) (w:=w) (base:=base) T
 refine T.d35.F.rd gD fun cdv A0 outer s H vs Q E hr h=>?_
 obtain⟨wa,st,sn,wl,made,op,k,rfl,ho,hw,lw,nd,lm,nws,ks,q⟩:=h
 refine⟨_,(eQ (pS (i:=4) gD.nd (fq hX (fq jB (cv 3) eR) eR))
  (eQ (gB (fA jv (fq hX (fq jB (cv 3) eR) eR) eR)
   (eV (pS (i:=4) gD.nd (fq hX (fq jB (cv 3) eR) (eZ fc (fG (eN eR (eN eR (eN eR eP)))) (cv 2)))))
   fF)
  (eQ (jj (j:=5) rfl (vA (x:="_law_k") ["_law_words_here","_law_arg"] [("_law_words_here",0,s.heap.objs.size+ 1),("_law_arg",3,s.heap.objs.size+ 3)]) (gS rfl T.z_range (eN (fq gF (cv 4) eR) eP)) (fun _ _ _ _ _=>iB) (fun _ _ _ _ _=>(eZ fc (cv 1) (fq hX (fq gF (fq jB (cv 2) eR) (fq pM eR (cv 0))) eR))) gD.nd rfl (.inl rfl))
  (eQ (jj (j:=6) rfl (vA (x:="_law_k") ["_law_stack"] [("_law_stack",1,s.heap.objs.size+ 2)]) (gS rfl T.z_range (eN (cv 4) eP)) (fun _ _ _ _ _=>iB) (fun _ _ _ _ _=>(pF T.d31 gD31 (hr.mono (by lia)) (eN (cv 1) eP))) gD.nd rfl (.inl rfl))
  (eQ (gB (fA jv (cv 2) eR)
   (eV (fu (pF T.d30 gD30 (hr.mono (by lia)) (eN fD (eN (gf gh rfl T.z_tuple ir (eN (kz rL (cv 5) nM (k9 (cv 4))) eP)) (eN (cv 6) (eN (rN rfl (DT (x:="_law_part") rfl fS fS rfl rfl) (iA (cv 6)) (fun _ _ _ _ _=>iB) (fun _ _ _ _ _=>(oR kT eR))) eP)))))))
   fF)
  (eQ (gB (fA jv (cv 2) eR)
   (eV (fu (pF T.d30 gD30 (hr.mono (by lia)) (eN fD (eN (fz eP) (eN (cv 6) (eN (rN rfl (DT (x:="_law_part") rfl fS fS rfl rfl) (iA (cv 6)) (fun _ _ _ _ _=>iB) (fun _ _ _ _ _=>(oR kT eR))) eP)))))))
   fF)
  (eQ (pS (i:=7) gD.nd (fz eP))
  (eQ (jP PassesOwn.never rfl (gS rfl T.z_range (eN (fq gF (cv 4) eR) eP)) (pN (i:=8) gD.nd)
   (eV (pS (i:=7) gD.nd (fq rS (cv 7) (fz (eN (eZ fc (cv 5) (cv 8)) (eN (eZ fc (cv 0) (fq hX (fq gF (cv 3) (cv 8)) eR)) eP)))))))
  (eQ (pS (i:=9) gD.nd (fq qZ (cv 6) (fG (eN (pF T.d31 gD31 (hr.mono (by lia)) (eN (cv 1) eP)) eP))))
  (eV (fu (pF T.d30 gD30 (hr.mono (by lia)) (eN fD (eN (cv 7) (eN (fq qZ (fG (eN (pF T.d31 gD31 (hr.mono (by lia)) (eN (cv 1) eP)) eP)) (cv 9)) (eN (fq qZ (fG (eN (oR kT eR) eP)) (rN rfl (vA (x:="_law_k") ["_law_arg"] [("_law_arg",3,s.heap.objs.size+ 3)]) (gS rfl T.z_range (eN (fq gF (cv 4) eR) eP)) (fun _ _ _ _ _=>iB) (fun _ _ _ _ _=>(fq hX (fq gF (cv 1) (cv 0)) eR)))) eP)))))))))))))))),?_⟩
 have sl:=sizeLine_eq
 refine AG rfl rfl ho fun n H0 hn h5 S0=>?_
 have en:(n:Int)+ 1=((n+ 1:Nat):Int):=by lia
 refine⟨_,rfl,by lia,by lia,fun D1 hD1=>?_⟩
 rw[show((n:Int)+ 1).toNat=n+ 1 by lia]
 refine AH (S0 _ _ hw) lw hD1 (by lia) fun H1 cs S1 e1 lc=>?_
 dsimp only[fK]
 have S01:=S0.trans S1
 refine⟨_,rfl,by lia,by lia,fun D2 hD2=>?_⟩
 rw[show((n:Int)).toNat=n by lia]
 refine CW (by lia) (ks.same S01) (JS.num 0) hD2 fun H2 zs its F2 k2 eD a2 li jI=>?_
 dsimp only[fK]
 have F02:FS st H H2:=(FS.same S01).trans F2
 have lz:zs.length=n:=by rw[a2.length];exact li
 have n1:D1≠st:=fun z=>by obtain⟨xs,e,_⟩:=ks;rw[z,S0 _ _ e]at hD1;cases hD1
 have e12:=F2 _ _ e1 n1
 by_cases e0:op=0
 ·refine rm (i:=2) (n:=op) rfl e0 ?_
  have ec:qA (cs.map V.str) none (some (n:Int))=(cs.take n).map V.str:=by rw[EE,List.map_take]
  refine⟨_,rfl,D1,_,rfl,SqL.of e12,fun l3 h3=>?_⟩
  rw[ec]
  refine⟨l3,_,rfl,.inl ⟨SqL.of eO,fun t4 h4=>?_⟩⟩
  have U3:=eS h3 (.lst ((cs.take n).map V.str))
  have U4:=eS h4 (.tup ((cs.take n).map V.str))
  have U34:=U3.trans U4
  refine⟨D2,rfl,⟨_,SqL.of (U34 _ _ eD)⟩,fun D3 hD3=>Bu (U34 _ _ eD) hD3 (by lia) fun H3 S3 e3=>?_⟩
  have U:=U34.trans S3
  have lt:(cs.take n).length=n:=by rw[aG];lia
  refine qP (κ:= .rcd (cs.take n)) (its:=its) (ho:=aF n none) rfl (S3 _ _ eO) (sC _) (U _ _ eD) (a2.imp fun _ _ h=>h.same U) e3 (by rw[vR,lz]) (by rw[aO,li]) (by lia) fun H' x' S' i'=>?_
  have U':=U.trans S'
  exact q H' x' _ (F02.trans (FS.same U')) (k2.same U') i' (JI.knit lw nd lm (by rw[aO,li]) (uY n) (fun I hI=>(jI I hI).1) (fun _ z=>nomatch z) (fun _=>⟨by rw[li,lt],by rw[lt];lia⟩))
 refine rp (i:=2) (n:=op) rfl e0 ?_
 dsimp only[ju]
 by_cases e1':op=1
 ·refine rm (i:=2) (n:=op) rfl e1' ?_
  refine⟨mh,fun t1 h1=>?_⟩
  have U1:=eS h1 (.tup [])
  refine⟨D2,rfl,⟨_,SqL.of (U1 _ _ eD)⟩,fun D3 hD3=>Bu (U1 _ _ eD) hD3 (by lia) fun H3 S3 e3=>?_⟩
  have U:=U1.trans S3
  refine qP (κ:= .row n) (its:=its) (ho:=aF n none) rfl (S3 _ _ eO) .nil (U _ _ eD) (a2.imp fun _ _ h=>h.same U) e3 (by rw[vR,lz]) (by rw[aO,li]) (by lia) fun H' x' S' i'=>?_
  have U':=U.trans S'
  exact q H' x' _ (F02.trans (FS.same U')) (k2.same U') i' (JI.knit lw nd lm (by rw[aO,li]) (uY n) (fun I hI=>(jI I hI).1) (fun _ z=>nomatch z) (fun _=>⟨li,by lia⟩))
 refine rp (i:=2) (n:=op) rfl e1' ?_
 dsimp only[ju]
 have op2:op=2:=by rcases ho with h|h|h;exact absurd h e0;exact absurd h e1';exact h
 have n5:=h5 op2
 refine⟨mh,fun t1 h1=>?_⟩
 dsimp only[fK]
 have U1:=eS h1 (.tup [])
 have hw2:=F02 _ _ hw nws
 refine⟨_,rfl,by lia,by lia,?_⟩
 rw[show((n:Int)+ 1).toNat=n+ 1 by lia]
 refine kY (fun i σ H3=>X2 fun(o8:Option V) (th:Addr)=>Y3 (σ=[some (.ref wa),some (.ref st),some (.int op),some (.int k),some (.int (n:Int)),some (.ref D1),some (.ref D2),some (.ref th),o8,none]) (fC H2 H3) (H3 th=some (.tup ((lsA wl cs k i).flatMap fun a=>[V.str a.1,V.str a.2])))) ⟨none,t1,rfl,U1,eO⟩ ?_ ?_
 ·rintro i σ H3 hi ⟨o8,th,rfl,S3,eth⟩
  dsimp only[fK]
  have q1:atI (cs.map V.str) (0+(i:Int))=some (.str (cs.getD i "")):=by
   rw[eB]
   refine eU ?_
   rw[aJ,bp,ba (show i<cs.length by lia)]
   rfl
  obtain⟨j,hj,ej⟩:∃j:Nat,j<3/\(k+(0+(i:Int)))%3=(j:Int):=⟨((k+(0+(i:Int)))%3).toNat,by lia,by lia⟩
  have q2:atI (wl.map V.str) ((k+(0+(i:Int)))%3)=some (.str (vr wl j)):=by rw[ej];exact eU (qO lw (by lia))
  have ej2:((k+(i:Int))%3).toNat=j:=by rw[eB]at ej;lia
  refine⟨_,S3 _ _ e12,eX q1 ⟨(by show(0:Int)<3;decide),_,S3 _ _ hw2,eX q2 ⟨lQ,fun t2 h2=>?_⟩⟩⟩
  have U2:=eS h2 (.tup [.str (cs.getD i ""),.str (vr wl j)])
  refine ph (U2 _ _ eth) eO (by rw[vT,sE];show 2*i+ 2<=_;lia) fun t4 H4 S4 e4=>?_
  dsimp only[fK]
  refine⟨_,t4,rfl,S3.trans (U2.trans S4),?_⟩
  rw[e4]
  unfold lsA
  rw[bS,bC,List.flatMap_append]
  simp[ej2]
 ·rintro σ H3 ⟨o8,th,rfl,S3,eth⟩
  dsimp only
  have k3:=k2.same S3
  have nD2:D2≠st:=fun z=>by obtain⟨ys,e',_⟩:=ks;rw[z,S01 _ _ e']at hD2;cases hD2
  have eD3:=S3 _ _ eD
  refine⟨st,sn,JS wl made,rfl,k3,JS.num 0,fun H4 x4 I4 F4 k4 i4 j4=>?_⟩
  refine⟨lY,fun l5 h5'=>?_⟩
  have U5:=eS h5' (.lst [x4])
  have eD5:=U5 _ _ (F4 _ _ eD3 nD2)
  refine⟨D2,l5,zs,[x4],rfl,rfl,eD5,eO,by show zs.length+ 1<=_;lia,fun D6 h6=>?_⟩
  dsimp only[fK]
  have U6:=eS h6 (.lst (zs++[x4]))
  have U56:=U5.trans U6
  have k6:=k4.same U56
  have n6:D6≠st:=fun z=>by obtain⟨xs,e,_⟩:=k4.same U5;rw[z,e]at h6;cases h6
  refine⟨st,sn,JS wl made,rfl,k6,JS.num 0,fun H7 x7 I7 F7 k7 i7 j7=>?_⟩
  refine⟨lY,fun l8 h8=>?_⟩
  have U8:=eS h8 (.lst [x7])
  refine⟨l8,D6,[x7],zs++[x4],rfl,rfl,eO,U8 _ _ (F7 _ _ eO n6),by rw[aN];show 1+(zs.length+ 1)<=_;lia,fun D9 h9=>?_⟩
  have U9:=eS h9 (.lst ([x7]++(zs++[x4])))
  refine⟨1,rfl,lY,fun l10 h10=>?_⟩
  have U10:=eS h10 (.lst [.int (-1)])
  refine⟨_,rfl,by lia,by lia,fun D11 hD11=>?_⟩
  rw[show((n:Int)+ 1).toNat=n+ 1 by lia]
  refine CY hD11 (by lia) fun H12 S12 e12'=>?_
  refine⟨l10,D11,_,_,rfl,rfl,S12 _ _ eO,e12',by rw[aB,aB,bT];show 1+(n+ 1)<=_;lia,fun D13 h13=>?_⟩
  have U13:=eS h13 (.lst ([.int (-1)]++((aa (n+ 1)).map fun j:Nat=>((k+(j:Int))%3).toNat).map fun v:Nat=> .int (v:Int)))
  have U7:=U8.trans (U9.trans (U10.trans (S12.trans U13)))
  have eth7:=U7 _ _ (k6.tk F7 _ _ (U56 _ _ (k3.tk F4 _ _ eth)))
  have a27:l6 (ItA _) zs its:=a2.imp fun _ _ h=>((((h.same S3).fs k3 F4).same U56).fs k6 F7).same U7
  refine qP (κ:= .case (lsA wl cs k (n+ 1))) (its:=I7::(its++[I4])) (ho:=none::((aa (n+ 1)).map fun j:Nat=>((k+(j:Int))%3).toNat).map some) rfl eth7 (vS _) ((U10.trans (S12.trans U13)) _ _ eO) (.cons (i7.same U7) (.snoc (((i4.same U56).fs k6 F7).same U7) a27)) eO ?_ ?_ ?_ fun H' x' S' i'=>?_
  ·show _=hI none::bh hI _
   rw[bg (f:=some) (g:=hI)]
   rfl
  ·rw[ay,aB,aB,bT,ay,aN,li]
   rfl
  ·rw[ay,aN,li]
   show n+ 1+ 1<=1000
   lia
  ·have U':=U7.trans S'
   refine q H' x' _ (F02.trans ((FS.same S3).trans (F4.trans ((FS.same U56).trans (F7.trans (FS.same U')))))) (k7.same U') i' (JI.knit lw nd lm ?_ ⟨rfl,zo (fun i a v ha hv=>?_) ?_⟩ (fun J hJ=>?_) (fun _ z=>nomatch z) (fun _=>⟨?_,?_⟩))
   ·simp only[ay,aB,bT,aN,li,List.length_nil]
   ·unfold lsA at ha
    rw[aJ]at ha hv
    obtain⟨j,hj,rfl⟩:=cB.mp ha
    rw[hj]at hv
    cases hv
    exact⟨by show((k+(j:Int))%3).toNat<3;lia,rfl⟩
   ·rw[sE,aB,bT]
   ·rcases aj.mp hJ with rfl|hJ
    ·exact j7.1
    ·rcases ak.mp hJ with hJ|hJ
     ·exact(jI J hJ).1
     ·rw[aZ.mp hJ];exact j4.1
   ·rw[ay,aN,li,sE]
    rfl
   ·rw[sE];lia
open TM.Internal (Kn Tr gv szs)
inductive XNe (vs:List V) (H:Hp) (Q:VK):Prop
 |mk (wa st ma:Addr) (sn:Nat) (wl:List Str) (made:List Nat) (op k:Int) (e:vs=[.ref wa,.ref st,.ref ma,.int op,.int k]) (h0:0<=op) (h1:op<22) (hw:H wa=some (.lst (wl.map V.str))) (hm:H ma=some (.lst (made.map nI))) (lw:wl.length=16) (nd:wl.Nodup) (lm:made.length<=12) (nws:wa≠st) (nms:ma≠st) (ks:Stk H st sn (JS wl made)) (q:∀H' x I,FS st H H'->Stk H' st sn (JS wl made)->ItA H' x I->JI wl made I->Q x H')
def GG:Sp:=fun vs H Q _=>XNe vs H Q
theorem xi {i:Nat} {n m:Int} {σ:St} {H:Hp} {T u:TS} {D:nH} (hσ:σ[i]?=some (some (.int n))) (h:if n<m then T D σ H else u D σ H):ve (cT (tOp (cI0 fun i j=> .bl (decide (i<j))) (cV i) (tC (.int m)))) T u D σ H:=by
 show onV σ[i]? _
 rw[hσ]
 show if decide (n<m)=true then _ else _
 by_cases e:n<m
 ·rw[gQ e];rw[fY e]at h;exact jL h
 ·rw[gA e];rw[fN e]at h;exact jo h
theorem uZ (T:Txt K mg):FO P w base 4 T.d38 GG:=by
 have gD30:=jn (P:=P) (w:=w) (base:=base) T
 have gD31:=kR (P:=P) (w:=w) (base:=base) T
 have gD29:=jT (P:=P) (w:=w) (base:=base) T
 have gD32:=kj (P:=P) (w:=w) (base:=base) T
 have gD33:=ub (P:=P) (w:=w) (base:=base) T
 have gD34:=uc (P:=P) (w:=w) (base:=base) T
 have gD37:=uX (P:=P) (w:=w) (base:=base) T
 have gD35:=ud (P:=P) (w:=w) (base:=base) T
 have gD36:=qQ (P:=P) (w:=w) (base:=base) T
 refine T.d38.F.rd jF fun cdv A0 outer s H vs Q E hr h=>?_
 obtain⟨wa,st,ma,sn,wl,made,op,k,rfl,h0,h1,hw,hm,lw,nd,lm,nws,nms,ks,q⟩:=h
 refine⟨_,(eQ (gB (fA lA (cv 3) eR)
   (eV (fu (pF T.d32 gD32 (hr.mono (by lia)) (eN (cv 4) eP))))
   fF)
  (eQ (gB (PW.pt (zJ (fA lA (cv 3) eR) (xu (PW.pt (oE (fA lA (cv 3) eR) (nJ (fA jv (fJ fR rfl T.z_len ja (eN (cv 2) eP)) eR)))))))
   (eV (fu (pF T.d33 gD33 (hr.mono (by lia)) (eN (cv 0) (eN (fq hX (cv 4) eR) eP)))))
   fF)
  (eQ (gB (fA lA (cv 3) eR)
   (eQ (pS (i:=5) jF.nd (fq hX (cv 4) (fJ fR rfl T.z_len ja (eN (cv 2) eP))))
   (eV (fu (pF T.d29 gD29 (hr.mono (by lia)) (eN (fz (eN fD (eN (fz (eN (eZ fc (cv 0) (fq gF eR (cv 5))) eP)) (eN (fz eP) eP)))) (eN (fq gF eR (eZ fc (cv 2) (cv 5))) eP))))))
   fF)
  (eQ (gB (fA jv (cv 3) eR)
   (eQ (pS (i:=6) jF.nd (pF T.d29 gD29 (hr.mono (by lia)) (eN (fz (eN fD (eN (fz (eN (eZ fc (cv 0) (fq gF eR (fJ fR rfl T.z_len ja (eN (cv 2) eP)))) eP)) (eN (fz eP) eP)))) (eN eR eP))))
   (eQ (qT wb (qS (cv 6) eR lU))
   (eV (fu (cv 6)))))
   fF)
  (eQ (gB (fA lA (cv 3) eR)
   (eQ (pS (i:=7) jF.nd (pF T.d31 gD31 (hr.mono (by lia)) (eN (cv 1) eP)))
   (eQ (pS (i:=8) jF.nd (pF T.d34 gD34 (hr.mono (by lia)) (eN (cv 7) (eN (cv 4) eP))))
   (eQ (gB (fA lA (cv 3) eR)
    (eV (fu (pF T.d30 gD30 (hr.mono (by lia)) (eN fD (eN (fz (eN (eZ fc (cv 0) (cv 8)) eP)) (eN (fG (eN (cv 7) eP)) (eN (fG (eN (cv 8) eP)) eP)))))))
    fF)
   (eV (fu (pF T.d37 gD37 (hr.mono (by lia)) (eN (cv 0) (eN (cv 8) (eN (pF T.d31 gD31 (hr.mono (by lia)) (eN (cv 1) eP)) (eN (cv 7) eP))))))))))
   fF)
  (eQ (gB (fA lA (cv 3) eR)
   (eV (fu (pF T.d35 gD35 (hr.mono (by lia)) (eN (cv 0) (eN (cv 1) (eN (fq pL (cv 3) eR) (eN (cv 4) eP)))))))
   fF)
  (eV (fu (pF T.d36 gD36 (hr.mono (by lia)) (eN (cv 0) (eN (cv 1) (eN (eZ fc (fG (eN eR (eN eR (eN eR (eN eR eP))))) (fq pL (cv 3) eR)) (eN (cv 4) eP))))))))))))),?_⟩
 have sl:=sizeLine_eq
 have sm:∀{H':Hp} {x:V} {I:It},fC H H'->ItA H' x I->JI wl made I->Q x H':=fun S i j=>q _ _ _ (FS.same S) (ks.same S) i j
 refine xi (i:=3) (n:=op) rfl ?_
 by_cases c1:op<2
 ·rw[fY c1]
  exact⟨k,rfl,fun H' x S i=>sm S i (JI.num _)⟩
 rw[fN c1]
 dsimp only[ju]
 have nam:∀(σ:St) (D:nH),D.rt=Q->σ[0]?=some (some (.ref wa))->σ[4]?=some (some (.int k))->Fh (qz EC [] E0 (jA (cV 0) (jA (Dj (cV 4) (tC (V.int 3))) sP))) D σ H:=by
  intro σ D eD s0 s4
  show onV σ[0]? _
  rw[s0]
  show onV σ[4]? _
  rw[s4]
  obtain⟨v,hv,ev⟩:∃v:Nat,v<3/\k%3=(v:Int):=⟨(k%3).toNat,by lia,by lia⟩
  refine⟨(by show(0:Int)<3;decide),wa,wl,v,by show[V.ref wa,V.int (k%3)]=_;rw[ev],hw,lw,hv,fun H' x S i=>?_⟩
  rw[eD]
  exact sm S i (JI.name hv)
 have lm':(((made.map nI).length:Nat):Int)=(made.length:Int):=by rw[aB]
 show if decide (op<6)=true then _ else _
 by_cases c2:op<6
 ·rw[gQ c2]
  exact jL (jL (nam _ _ rfl rfl rfl))
 rw[gA c2]
 refine jo ?_
 show if decide (op<8)=true then _ else _
 by_cases c3:op<8
 ·rw[gQ c3]
  refine jL ⟨ma,_,rfl,.inl (SqL.of hm),?_⟩
  show if(false ^^ decide ((((made.map nI).length:Nat):Int)=0))=true then _ else _
  rw[lm']
  by_cases c4:made.length=0
  ·rw[gQ (by lia)]
   exact jL (nam _ _ rfl rfl rfl)
  rw[gA (by lia)]
  refine jo ?_
  dsimp only[ju]
  refine xi (i:=3) (n:=op) rfl ?_
  rw[fY c3]
  refine⟨ma,_,rfl,.inl (SqL.of hm),?_⟩
  rw[lm']
  refine⟨(by lia),?_⟩
  dsimp only[fK]
  have c0:=ee k (show(made.length:Int)≠0 by lia)
  have c1':=eg k (show(0:Int)<(made.length:Int) by lia)
  obtain⟨d,hd,ed⟩:∃d:Nat,d<made.length/\k%(made.length:Int)=(d:Int):=⟨(k%(made.length:Int)).toNat,by lia,by lia⟩
  rw[ed]
  have q1:atI (wl.map V.str) (3+(d:Int))=some (.str (wdE wl d)):=by
   rw[show(3:Int)+(d:Int)=((3+d:Nat):Int) by lia]
   exact eU (qO lw (by lia))
  have q2:atI (made.map nI) (d:Int)=some (.int ((made.getD d 0:Nat):Int)):=by
   refine eU ?_
   rw[aJ,bp,ba hd]
   rfl
  refine⟨_,hw,eX q1 ⟨lY,fun t1 g1=>⟨mh,fun t2 g2=>⟨sM,fun t3 g3=>?_⟩⟩⟩⟩
  have S3:=xh (c:= .tup [.str "name",.ref t1,.ref t2]) g1 g2 g3
  refine⟨_,S3 _ _ hm,eX q2 ?_⟩
  refine⟨_,1+made.getD d 0,.name (wdE wl d),rfl,uW g1 g2 g3,fun H' a cs N=>?_⟩
  exact sm (S3.trans N.sm) N.it (JI.df hd)
 rw[gA c3]
 refine jo (jo ?_)
 dsimp only[ju]
 refine xi (i:=3) (n:=op) rfl ?_
 rw[fN c3]
 dsimp only[ju]
 by_cases c5:op=8
 ·refine rm (i:=3) (n:=op) rfl c5 ?_
  have q1:atI (wl.map V.str) (3+(((made.map nI).length:Nat):Int))=some (.str (wdE wl made.length)):=by
   rw[lm',show(3:Int)+(made.length:Int)=((3+made.length:Nat):Int) by lia]
   exact eU (qO lw (by lia))
  refine⟨ma,_,rfl,.inl (SqL.of hm),_,hw,eX q1 ⟨lY,fun t1 g1=>⟨mh,fun t2 g2=>⟨sM,fun t3 g3=>?_⟩⟩⟩⟩
  have S3:=xh (c:= .tup [.str "name",.ref t1,.ref t2]) g1 g2 g3
  refine⟨_,1,.name (wdE wl made.length),rfl,uW g1 g2 g3,fun H' a cs N=>?_⟩
  dsimp only[fK]
  have na:H a=none:=by
   cases z:H a with
   |none=>rfl
   |some u=>have:=N.na;rw[S3 _ _ z]at this;cases this
  refine⟨a,_,4,4,rfl,rfl,N.ea,rfl,?_⟩
  refine sm (I:=owI wl made) (fun b o e=>by rw[eT (eY e na)];exact(S3.trans N.sm) _ _ e) ⟨a,_,cs,rfl,eO,by rw[eT N.ne.symm];exact N.ec,N.im.mono (ie N.ea).tk⟩ JI.ow
 refine rp (i:=3) (n:=op) rfl c5 ?_
 dsimp only[ju]
 refine xi (i:=3) (n:=op) rfl ?_
 by_cases c6:op<15
 ·rw[fY c6]
  refine⟨st,sn,JS wl made,rfl,ks,JS.num 0,fun H1 x I F1 k1 i1 j1=>?_⟩
  dsimp only[fK]
  have hw1:=F1 _ _ hw nws
  refine⟨x,I,k,rfl,i1,fun v hv=>?_⟩
  dsimp only[fK]
  refine xi (i:=3) (n:=op) rfl ?_
  by_cases c7:op<11
  ·rw[fY c7]
   refine⟨_,hw1,eX (eU (qO lw (by lia))) ⟨lY,fun t1 g1=>⟨lY,fun l2 g2=>⟨lY,fun l3 g3=>?_⟩⟩⟩⟩
   have T1:=eS g1 (.tup [.str (vr wl v)])
   have T2:=eS g2 (.lst [x])
   have T3:=eS g3 (.lst [.int (v:Int)])
   have U:=T1.trans (T2.trans T3)
   refine qP (κ:= .fn (vr wl v)) (its:=[I]) (ho:=[some v]) rfl ((T2.trans T3) _ _ eO) (.cons (.flat rfl) .nil) (T3 _ _ eO) (.cons (i1.same U) .nil) eO rfl rfl (by show 1<=1000;decide) fun H' x' S' i'=>?_
   have U':=U.trans S'
   exact q H' x' _ (F1.trans (FS.same U')) (k1.same U') i' (JI.knit lw nd lm rfl ⟨hv,⟨"fn",fS,rfl⟩,trivial⟩ (fun J hJ=>by rw[aZ.mp hJ];exact j1.1) (fun _ z=>nomatch z) (fun _=>rfl))
  ·rw[fN c7]
   dsimp only[ju]
   refine⟨st,sn,JS wl made,rfl,k1,JS.num 0,fun H2 x2 I2 F2 k2 i2 j2=>?_⟩
   have cv:=j1.1.c v hv
   refine⟨wa,wl,v,x2,x,I2,I,rfl,F2 _ _ hw1 nws,lw,hv,i2,i1.fs k1 F2,by have:=j2.2;lia,by have:=j1.2;lia,fun H' x' S' i'=>?_⟩
   exact q H' x' _ (F1.trans (F2.trans (FS.same S'))) (k2.same S') i' (JI.let lw nd lm hv j2.1 j1.1)
 rw[fN c6]
 dsimp only[ju]
 refine xi (i:=3) (n:=op) rfl ?_
 by_cases c8:op<18
 ·rw[fY c8]
  exact⟨wa,st,sn,wl,made,op-15,k,rfl,by lia,hw,lw,nd,lm,nws,ks,q⟩
 rw[fN c8]
 dsimp only[ju]
 obtain⟨m,em,hm3⟩:∃m:Int,atI [V.int 0,V.int 1,V.int 2,V.int 2] (op-18)=some (.int m)/\(m=0\/m=1\/m=2):=by
  have c9:op=18\/op=19\/op=20\/op=21:=by lia
  rcases c9 with rfl|rfl|rfl|rfl
  ·exact⟨0,rfl,.inl rfl⟩
  ·exact⟨1,rfl,.inr (.inl rfl)⟩
  ·exact⟨2,rfl,.inr (.inr rfl)⟩
  ·exact⟨2,rfl,.inr (.inr rfl)⟩
 refine⟨xn,fun l1 g1=>⟨_,eO,eX em ?_⟩⟩
 have T1:=eS g1 (.lst [.int 0,.int 1,.int 2,.int 2])
 exact⟨wa,st,sn,wl,made,m,k,rfl,hm3,T1 _ _ hw,lw,nd,lm,nws,ks.same T1,fun H' x I F' k' i' j'=>q H' x I ((FS.same T1).trans F') k' i' j'⟩
open TM.Internal (Kn Tr gv szs)
inductive XEd (vs:List V) (H:Hp) (Q:VK):Prop
 |mk (wa:Addr) (wl:List Str) (made:List Nat) (x:V) (I:It) (k:Int) (e:vs=[.ref wa,x,.int k]) (hw:H wa=some (.lst (wl.map V.str))) (lw:wl.length=16) (nd:wl.Nodup) (lm:made.length<=12) (i:ItA H x I) (j:JI wl made I) (q:∀H' x' I',fC H H'->ItA H' x' I'->JI wl made I'->(∀k,k<3->I'.c k=0)->I'.w<=I.w+ 10->I'.t.nest<=I.t.nest+ 10->I'.t.sz<=I.t.sz+ 10->Q x' H')
def GH:Sp:=fun vs H Q _=>XEd vs H Q
theorem Bv {κ:Kn} {I:It} {ho:List (Option Nat)}:(knI κ [I] ho).w=1+I.w/\(knI κ [I] ho).t.nest=1+I.t.nest/\(knI κ [I] ho).t.sz=1+I.t.sz:=by
 refine⟨rfl,?_,?_⟩
 ·show(Tr.mk κ [I.t]).nest=_
  simp[Tr.nest,TM.Internal.nests]
 ·show(Tr.mk κ [I.t]).sz=_
  simp[Tr.sz,szs]
theorem EF {κ:Kn} {I J:It} {ho:List (Option Nat)} (h:J.t.nest<=1):(knI κ [I,J] ho).w=1+I.w+J.w/\(knI κ [I,J] ho).t.nest<=2+I.t.nest/\(knI κ [I,J] ho).t.sz=1+I.t.sz+J.t.sz:=by
 refine⟨by show 1+(I.w+(J.w+ 0))=_;lia,?_,?_⟩
 ·show(Tr.mk κ [I.t,J.t]).nest<=_
  simp[Tr.nest,TM.Internal.nests]
  lia
 ·show(Tr.mk κ [I.t,J.t]).sz=_
  simp[Tr.sz,szs]
  lia
theorem GI:∀{v:Nat},v<3->∃m:Int,atI [V.int 1,V.int 2,V.int 4] (0+(v:Int))=some (.int m)/\0<m/\m<1073741824
 |0,_=>⟨1,rfl,by decide,by decide⟩
 |1,_=>⟨2,rfl,by decide,by decide⟩
 |2,_=>⟨4,rfl,by decide,by decide⟩
theorem sF (T:Txt K mg):FO P w base 3 T.d39 GH:=by
 have gD30:=jn (P:=P) (w:=w) (base:=base) T
 have gD32:=kj (P:=P) (w:=w) (base:=base) T
 refine T.d39.F.rd iU fun cdv A0 outer s H vs Q E hr h=>?_
 obtain⟨wa,wl,made,x,I,k,rfl,hw,lw,nd,lm,i,j,q⟩:=h
 refine⟨_,(eQ (jP PassesOwn.never rfl (gS rfl T.z_range (eN eR eP)) (pN (i:=3) iU.nd)
   (eV (gB (fA wH (eZ fc (eZ fc (cv 1) eR) (cv 3)) eR)
    (eQ (pS (i:=1) iU.nd (pF T.d30 gD30 (hr.mono (by lia)) (eN fD (eN (fz (eN (eZ fc (cv 0) (cv 3)) eP)) (eN (fG (eN (cv 1) eP)) (eN (fG (eN (cv 3) eP)) eP))))))
    (eV (gB (fA jv (fq hX (fq jB (cv 2) (eZ fc (fG (eN eR (eN eR (eN eR eP)))) (cv 3))) eR) eR)
     (eV (pS (i:=1) iU.nd (pF T.d30 gD30 (hr.mono (by lia)) (eN fD (eN (fz eP) (eN (fG (eN (cv 1) (eN (pF T.d32 gD32 (hr.mono (by lia)) (eN (cv 2) eP)) eP))) (eN (fG (eN (oR kT eR) (eN (oR kT eR) eP))) eP)))))))
     fF)))
    fF)))
  (eQ (gB (m7 (eZ fc (cv 1) eR))
   (eV (pS (i:=1) iU.nd (pF T.d30 gD30 (hr.mono (by lia)) (eN fD (eN (fz (eN (eZ fc (cv 0) eR) eP)) (eN (fG (eN (cv 1) eP)) (eN (fG (eN eR eP)) eP)))))))
   fF)
  (eV (fu (cv 1))))),?_⟩
 have sl:=sizeLine_eq
 refine⟨3,rfl,by decide,by decide,?_⟩
 refine kY (fun v σ H1=>X3 fun(o3:Option V) (x':V) (I':It)=>Y8 (σ=[some (.ref wa),some x',some (.int k),o3]) (fC H H1) (ItA H1 x' I') (JI wl made I') ((∀k,k<v->I'.c k=0)) (I'.w<=I.w+ 3*v) (I'.t.nest<=I.t.nest+ 3*v) (I'.t.sz<=I.t.sz+ 3*v)) ⟨none,x,I,rfl,fun _ _ e=>e,i,j,fun k h=>absurd h (cq _),by lia,by lia,by lia⟩ ?_ ?_
 ·rintro v σ H1 hv ⟨o3,x',I',rfl,S1,i1,j1,z1,w1,n1,s1⟩
  have hv:v<3:=hv
  dsimp only[fK]
  obtain⟨a,n,cs,rfl,ea,ec,iN⟩:=id i1
  refine⟨_,ea,eX (eU (j:=3) rfl) ⟨_,ec,eX (at3 hv) ?_⟩⟩
  show if decide ((0:Int)<(I'.c v:Int))=true then _ else _
  by_cases c0:0<I'.c v
  ·rw[gQ (by lia)]
   refine jL ?_
   have q1:atI (wl.map V.str) (0+(v:Int))=some (.str (vr wl v)):=by rw[eB];exact eU (qO lw (by lia))
   refine⟨_,S1 _ _ hw,eX q1 ⟨lY,fun t1 g1=>⟨lY,fun l2 g2=>⟨lY,fun l3 g3=>?_⟩⟩⟩⟩
   have T1:=eS g1 (.tup [.str (vr wl v)])
   have T2:=eS g2 (.lst [.ref a])
   have T3:=eS g3 (.lst [.int (0+(v:Int))])
   have U:=T1.trans (T2.trans T3)
   refine qP (κ:= .fn (vr wl v)) (its:=[I']) (ho:=[some v]) rfl ((T2.trans T3) _ _ eO) (.cons (.flat rfl) .nil) (T3 _ _ eO) (.cons (i1.same U) .nil) eO (by rw[eB];rfl) rfl (by show 1<=1000;decide) fun H2 x2 S2 i2=>?_
   dsimp only[fK]
   have j2:JI wl made (knI (.fn (vr wl v)) [I'] [some v]):=JI.knit lw nd lm rfl ⟨hv,⟨"fn",fS,rfl⟩,trivial⟩ (fun J hJ=>by rw[aZ.mp hJ];exact j1) (fun _ z=>nomatch z) (fun _=>rfl)
   obtain⟨y1,y2,y3⟩:=Bv (κ:= .fn (vr wl v)) (I:=I') (ho:=[some v])
   have z2:∀k,k<v+ 1->(knI (.fn (vr wl v)) [I'] [some v]).c k=0:=fun k hk=>by
    show(if some v=some k then 0 else I'.c k)+ 0=0
    by_cases e:v=k
    ·rw[fY (by rw[e])]
    ·rw[fN (fun h=>e (cx.inj h)),z1 k (by lia)]
   have S12:=S1.trans (U.trans S2)
   obtain⟨m,em,hm0,hm1⟩:=GI hv
   refine⟨sM,fun l4 g4=>⟨_,eO,eX em ⟨⟨hm0,hm1⟩,(by show(0:Int)<2;decide),?_⟩⟩⟩
   have T4:=eS g4 (.lst [.int 1,.int 2,.int 4])
   show if(false ^^ decide (k/m%2=1))=true then _ else _
   by_cases c1:k/m%2=1
   ·rw[gQ c1]
    refine jL ?_
    refine⟨mh,fun t5 g5=>?_⟩
    have T5:=eS g5 (.tup [])
    refine⟨k,rfl,fun H6 x6 S6 i6=>?_⟩
    refine⟨lQ,fun l7 g7=>⟨1,rfl,1,rfl,lQ,fun l8 g8=>?_⟩⟩
    have T7:=eS g7 (.lst [x2,x6])
    have T8:=eS g8 (.lst [.int (-1),.int (-1)])
    have U7:=T7.trans T8
    have U2:=T4.trans (T5.trans (S6.trans U7))
    refine qP (κ:= .op "call" 2) (its:=[_,_]) (ho:=[none,none]) rfl ((S6.trans U7) _ _ eO) .nil (T8 _ _ eO) (.cons (i2.same U2) (.cons (i6.same U7) .nil)) eO rfl rfl (by show 2<=1000;decide) fun H9 x9 S9 i9=>?_
    dsimp only[fK]
    obtain⟨r1,r2,r3⟩:=EF (κ:= .op "call" 2) (I:=knI (.fn (vr wl v)) [I'] [some v]) (J:=nuI (k%10^60)) (ho:=[none,none]) (by simp[nuI,Tr.nest,TM.Internal.nests])
    have r4:(nuI (k%10^60)).w=1:=rfl
    have r5:(nuI (k%10^60)).t.sz=1:=by simp[nuI,Tr.sz,szs]
    refine⟨_,x9,_,rfl,S12.trans (U2.trans S9),i9,JI.knit lw nd lm rfl ⟨rfl,rfl,trivial⟩ (fun J hJ=>?_) (fun _ z=>nomatch z) (fun _=>⟨rfl,by simp[TM.Internal.ops]⟩),fun k hk=>?_,by lia,by lia,by lia⟩
    ·simp only[aj,bj,or_false]at hJ
     rcases hJ with rfl|rfl
     ·exact j2
     ·exact JI.num _
    ·show(if(none:Option Nat)=some k then 0 else(knI (.fn (vr wl v)) [I'] [some v]).c k)+((if(none:Option Nat)=some k then 0 else 0)+ 0)=0
     rw[fN (fun z=>nomatch z),fN (fun z=>nomatch z),z2 k hk]
   ·rw[gA c1]
    exact jo ⟨_,x2,_,rfl,S12.trans T4,i2.same T4,j2,z2,by lia,by lia,by lia⟩
  ·rw[gA (by lia)]
   refine jo ⟨_,_,I',rfl,S1,i1,j1,fun k hk=>?_,by lia,by lia,by lia⟩
   by_cases e:k=v
   ·rw[e];lia
   ·exact z1 k (by lia)
 ·rintro σ H1 ⟨o3,x',I',rfl,S1,i1,j1,z1,w1,n1,s1⟩
  dsimp only
  obtain⟨a,n,cs,rfl,ea,ec,iN⟩:=id i1
  refine⟨_,ea,eX (eU (j:=4) rfl) ⟨I'.own,rfl,?_⟩⟩
  cases eo:I'.own with
  |false=>exact jo (q _ _ I' S1 i1 j1 z1 (by lia) (by lia) (by lia))
  |true=>
   refine jL ?_
   refine⟨_,S1 _ _ hw,eX (show atI (wl.map V.str) ((0:Nat):Int)=some (.str (vr wl 0))from eU (qO lw (by decide))) ⟨lY,fun t1 g1=>⟨lY,fun l2 g2=>⟨lY,fun l3 g3=>?_⟩⟩⟩⟩
   have T1:=eS g1 (.tup [.str (vr wl 0)])
   have T2:=eS g2 (.lst [.ref a])
   have T3:=eS g3 (.lst [.int 0])
   have U:=T1.trans (T2.trans T3)
   refine qP (κ:= .fn (vr wl 0)) (its:=[I']) (ho:=[some 0]) rfl ((T2.trans T3) _ _ eO) (.cons (.flat rfl) .nil) (T3 _ _ eO) (.cons (i1.same U) .nil) eO rfl rfl (by show 1<=1000;decide) fun H2 x2 S2 i2=>?_
   obtain⟨y1,y2,y3⟩:=Bv (κ:= .fn (vr wl 0)) (I:=I') (ho:=[some 0])
   refine q _ _ _ (S1.trans (U.trans S2)) i2 (JI.knit lw nd lm rfl ⟨by decide,⟨"fn",fS,rfl⟩,trivial⟩ (fun J hJ=>by rw[aZ.mp hJ];exact j1) (fun _ z=>nomatch z) (fun _=>rfl)) (fun k hk=>?_) (by lia) (by lia) (by lia)
   show(if some 0=some k then 0 else I'.c k)+ 0=0
   split
   ·rfl
   ·rw[z1 k hk]
open TM.Internal (Kn Tr gv szs)
structure JD (wl:List Str) (md:List Nat) (t:Tr) (m:Nat):Prop where
 w:∀e,Ev wl md e->wT t e=m
 o:∀N:Str->Prop,(∀d,d<=md.length->N (wdE wl d))->okT t N
 b:m<=50
 n:t.nest<=30
 z:t.sz<=150
def JDs (wl:List Str) (ts:List Tr) (made:List Nat):Prop:=ts.length=made.length/\∀(d:Nat) t,ts[d]?=some t->JD wl (made.take d) t (made.getD d 0)
theorem JD.of {wl:List Str} {made:List Nat} {I:It} (j:JI wl made I) (z:∀k,k<3->I.c k=0) (h1:I.w<=50) (h2:I.t.nest<=30) (h3:I.t.sz<=150):JD wl made I.t I.w:=by
 refine⟨fun e he=>?_,fun N h=>?_,h1,h2,h3⟩
 ·rw[j.w e he]
  unfold cw
  rw[z 0 (by lia),z 1 (by lia),z 2 (by lia)]
  lia
 ·exact j.o N (fun d hd=>h d (by lia)) (fun _=>h _ (cb _)) (fun k hk u=>by rw[z k hk]at u;lia)
theorem JDs.snoc {wl:List Str} {ts:List Tr} {made:List Nat} {t:Tr} {w:Nat} (h:JDs wl ts made) (j:JD wl made t w):JDs wl (ts++[t]) (made++[w]):=by
 refine⟨by rw[aN,aN,h.1];rfl,fun d u hu=>?_⟩
 by_cases e:d<ts.length
 ·rw[aI e]at hu
  have:=h.2 d u hu
  rw[bV (by rw[<-h.1];lia),bp,aI (by rw[<-h.1];exact e),<-bp]
  exact this
 ·rw[aH (by lia)]at hu
  have ed:d-ts.length=0:=by
   have:=(aq.mp hu).1
   simpa using this
  rw[ed]at hu
  cases hu
  have e2:d=made.length:=by rw[<-h.1];lia
  subst e2
  rw[List.take_left',bp,aH (cb _),cg]
  ·exact j
  ·rfl
def scD (wl:List Str) (made:List Nat) (d:Nat):Sc:=(aa d).map fun j=>dfE (wdE wl) j (made.getD j 0)
theorem sG (wl:List Str) (made:List Nat) (d:Nat):scD wl made (d+ 1)=scD wl made d++[dfE (wdE wl) d (made.getD d 0)]:=by
 unfold scD
 rw[bS,bC]
 rfl
section
variable {wl:List Str} {made:List Nat} (lw:wl.length=16) (nd:wl.Nodup)
include lw nd
theorem CZ {i j:Nat} (hi:i<=12) (hj:j<=12) (h:i≠j):wdE wl i≠wdE wl j:=CS lw nd (by lia) (by lia) (by lia)
theorem zq {d j:Nat} (hd:d<=13) (hj:j<d):lkE (scD wl made d) (wdE wl j)=some (dfE (wdE wl) j (made.getD j 0)):=by
 induction d with
 |zero=>lia
 |succ d ih=>
  rw[sG,kP]
  by_cases e:d=j
  ·subst e;exact fY rfl
  ·rw[fN (show ¬(dfE (wdE wl) d (made.getD d 0)).w=wdE wl j from CZ lw nd (by lia) (by lia) e)]
   exact ih (by lia) (by lia)
theorem Bx {d:Nat} (hd:d<=12) (hm:d<=made.length):Ev wl (made.take d) (val (scD wl made d++[dfE (wdE wl) d 0])):=by
 have lt:(made.take d).length=d:=by rw[aG];lia
 refine⟨fun j hj=>?_,?_⟩
 ·rw[lt]at hj
  unfold val
  rw[kP,fN (show ¬(dfE (wdE wl) d 0).w=wdE wl j from CZ lw nd (by lia) (by lia) (show d≠j by lia)),zq lw nd (by lia) hj]
  show made.getD j 0=(made.take d).getD j 0
  rw[bp,bp,aK hj]
 ·rw[lt]
  unfold val
  rw[kP,fY (show(dfE (wdE wl) d 0).w=wdE wl d from rfl)]
  rfl
theorem EG {d j:Nat} (hd:d<=12) (hj:j<=d):Nm (scD wl made d++[dfE (wdE wl) d 0]) (wdE wl j):=by
 unfold Nm
 rw[kP]
 by_cases e:d=j
 ·rw[fY (by rw[<-e];rfl)];exact⟨_,rfl⟩
 ·rw[fN (show ¬(dfE (wdE wl) d 0).w=wdE wl j from CZ lw nd (by lia) (by lia) e),zq lw nd (by lia) (by lia)]
  exact⟨_,rfl⟩
theorem zt:∀{us:List Tr} {d:Nat},d+us.length<=12->d+us.length=made.length->(∀(k:Nat) t,us[k]?=some t->JD wl (made.take (d+k)) t (made.getD (d+k) 0))->E9 (wdE wl) us d (scD wl made d)
 |[],_,_,_,_=>trivial
 |t::us,d,hd,hm,h=>by
  have hl:(t::us).length=us.length+ 1:=rfl
  have j:JD wl (made.take d) t (made.getD d 0):=h 0 t rfl
  have lt:(made.take d).length=d:=by rw[aG];lia
  refine⟨j.o _ fun k hk=>EG lw nd (by lia) (by rw[lt]at hk;exact hk),?_⟩
  rw[j.w _ (Bx lw nd (by lia) (by lia)),<-sG]
  exact zt (d:=d+ 1) (by lia) (by lia) fun k t hk=>by
   have:=h (k+ 1) t hk
   rw[show d+ 1+k=d+(k+ 1) by lia]
   exact this
theorem zu:∀{us:List Tr} {d p j r:Nat} {G l1:List Pc},d+us.length<=12->d+us.length=made.length->(∀(k:Nat) t,us[k]?=some t->JD wl (made.take (d+k)) t (made.getD (d+k) 0))->G=l1++pcD (wdE wl) us d p (scD wl made d)->l1.length=p->(gv us p)[j]?=some r->∃c,G[r]?=some c/\c.wt=made.getD (d+j) 0
 |[],_,_,_,_,_,_,_,_,_,_,_,h=>by cases h
 |t::us,d,p,j,r,G,l1,hd,hm,h,e,hl,hr=>by
  have hl':(t::us).length=us.length+ 1:=rfl
  have jt:JD wl (made.take d) t (made.getD d 0):=h 0 t rfl
  have ew:=jt.w _ (Bx lw nd (show d<=12 by lia) (by lia))
  cases j with
  |zero=>
   cases hr
   have hp:Pl G t p (scD wl made d++[dfE (wdE wl) d 0]) d:=CG t (l2:=pcD (wdE wl) us (d+ 1) (p+t.sz) (scD wl made d++[dfE (wdE wl) d (wT t (val (scD wl made d++[dfE (wdE wl) d 0])))])) (by rw[e];rfl) hl
   obtain⟨ρ,g⟩:=hp.at
   exact⟨_,g,ew⟩
  |succ j=>
   have hr:(gv us (p+t.sz))[j]?=some r:=hr
   rw[pcD,ew,<-sG,<-bJ]at e
   obtain⟨c,g,w⟩:=zu (d:=d+ 1) (by lia) (by lia) (fun k t hk=>by
    have:=h (k+ 1) t hk
    rw[show d+ 1+k=d+(k+ 1) by lia]
    exact this) e (by rw[aN,hl,jK]) hr
   exact⟨c,g,by rw[w,show d+ 1+j=d+(j+ 1) by lia]⟩
end
theorem By:∀{ts:List Tr},(∀t∈ts,t.sz<=150)->szs ts<=150*ts.length
 |[],_=>cb _
 |t::ts,h=>by
  have h1:=h t (by simp)
  have h2:=By (ts:=ts) fun u hu=>h u (by simp[hu])
  rw[szs,ay]
  lia
inductive XDf (vs:List V) (H:Hp) (Q:VK):Prop
 |mk (wa cl:Addr) (wl:List Str) (cells:List Int) (e:vs=[.ref wa,.ref cl]) (hw:H wa=some (.lst (wl.map V.str))) (lw:wl.length=16) (nd:wl.Nodup) (hc:H cl=some (.lst (cells.map V.int))) (lc:cells.length<=63) (q:∀H' l xs ts made,fC H H'->H' l=some (.lst xs)->Ims H' xs (ts.map ndD)->ts≠[]->ts.length<=12->JDs wl ts made->Q (.ref l) H')
def GJ:Sp:=fun vs H Q _=>XDf vs H Q
theorem vU {α:Type}:∀{l:List α} {i:Nat} {v:α},l[i]?=some v->l.set i v=l
 |[],_,_,h=>by cases h
 |x::l,0,v,h=>by cases h;rfl
 |x::l,i+ 1,v,h=>by rw[List.set_cons_succ,vU (l:=l) (i:=i) h]
theorem Stk.le {H:Hp} {st:Addr} {n m:Nat} {J:It->Prop} (h:Stk H st n J) (l:n<=m):Stk H st m J:=by
 obtain⟨xs,e,z,al⟩:=h
 exact⟨xs,e,by lia,al⟩
theorem Stk.push {H:Hp} {st:Addr} {n:Nat} {J:It->Prop} {xs:List V} {x:V} {I:It} (h:Stk H st n J) (e:H st=some (.lst xs)) (i:ItA H x I) (j:J I):Stk (L2.Internal.upd H st (.lst (xs++[x]))) st (n+ 1) J:=by
 have F:FS st H (L2.Internal.upd H st (.lst (xs++[x]))):=fun a o e n=>by rw[eT n];exact e
 obtain⟨ys,e',z,al⟩:=id h
 rw[e]at e'
 cases e'
 refine⟨_,eO,by rw[aN,aU];lia,fun y hy=>?_⟩
 rcases ak.mp hy with hy|hy
 ·obtain⟨I',a,b⟩:=al y hy
  exact⟨I',a.fs h F,b⟩
 ·rw[aZ.mp hy]
  exact⟨I,i.fs h F,j⟩
theorem Dc {H:Hp} {ns:List V} {ts:List Tr} (h:Ims H ns (ts.map ndD)) {x:V} (hx:x∈ns):∃p,x= .ref p:=by
 obtain⟨i,hi⟩:=bD.mp hx
 obtain⟨d,hd,im⟩:=jx h hi
 rw[aJ]at hd
 obtain⟨⟨κ,ks⟩,_,rfl⟩:=cB.mp hd
 obtain⟨a,_,_,_,_,e,_⟩:=tX im
 exact⟨a,e⟩
theorem Dd {wl:List Str} {made:List Nat} {a:Addr} {I:It} {k:Int} {dn:Nat} {σ:St} {R:TS} {D:nH} {H:Hp} (i:ItA H (.ref a) I) (j:JI wl made I) (s8:σ[8]?=some (some (.ref a))) (s7:σ[7]?=some (some (.int k))) (s5:σ[5]?=some (some (.int (dn:Int)))) (h:∀H' x' I',fC H H'->ItA H' x' I'->JS wl made I'->R D (σ.set 8 (some x')) H'):
  xl (ve (tOr (cT (tOp (cI0 fun i j=>V.bl (decide (j<i))) (tOp z6 (cV 8) (tC (V.int 1))) (tC (V.int 16)))) (tOr (cT (tOp (cI0 fun i j=>V.bl (decide (j<i))) (tOp z6 (cV 8) (tC (V.int 2))) (tC (V.int 40)))) (cT (tOp (cI0 fun i j=>V.bl (decide (j<i))) (tOp (cI0 fun i j=>V.int (i+j)) (tOp z6 (cV 8) (tC (V.int 5))) (cV 5)) (tC (V.int 140)))))) (xx (qz CV [] E0 (jA (cV 7) sP)) (fK 8)) ju) R D σ H:=by
 obtain⟨a',n,cs,e',ea,ec,iN⟩:=id i
 cases e'
 have num:(xx (qz CV [] E0 (jA (cV 7) sP)) (fK 8)) {D with nx:=R D} σ H:=by
  show onV σ[7]? _
  rw[s7]
  exact⟨k,rfl,fun H' x S i=>h H' x _ S i (JS.num _)⟩
 show onV σ[8]? _
 rw[s8]
 refine⟨_,ea,eX (eU (j:=1) rfl) ?_⟩
 show if decide ((16:Int)<(I.t.nest:Int))=true then _ else _
 by_cases c1:(16:Int)<(I.t.nest:Int)
 ·rw[gQ c1]
  exact jL (jL num)
 rw[gA c1]
 refine jo ?_
 show onV σ[8]? _
 rw[s8]
 refine⟨_,ea,eX (eU (j:=2) rfl) ?_⟩
 show if decide ((40:Int)<(I.w:Int))=true then _ else _
 by_cases c2:(40:Int)<(I.w:Int)
 ·rw[gQ c2]
  exact jL (jL num)
 rw[gA c2]
 refine jo ?_
 show onV σ[8]? _
 rw[s8]
 refine⟨_,ea,eX (eU (j:=5) rfl) ?_⟩
 show onV σ[5]? _
 rw[s5]
 show if decide ((140:Int)<(I.t.sz:Int)+(dn:Int))=true then _ else _
 by_cases c3:(140:Int)<(I.t.sz:Int)+(dn:Int)
 ·rw[gQ c3]
  exact jL num
 rw[gA c3]
 refine jo ?_
 have:=h H (.ref a) I (fun _ _ e=>e) i ⟨j,by lia,by lia,by lia⟩
 rw[vU s8]at this
 exact this
theorem Stk.new {H:Hp} {st:Addr} {sn:Nat} {J:It->Prop} (h:H st=some (.lst [])):Stk H st sn J:=⟨[],h,cc _,fun _ m=>by cases m⟩
theorem qq (T:Txt K mg):FO P w base 5 T.d40 GJ:=by
 have gD38:=uZ (P:=P) (w:=w) (base:=base) T
 have gD31:=kR (P:=P) (w:=w) (base:=base) T
 have gD32:=kj (P:=P) (w:=w) (base:=base) T
 have gD39:=sF (P:=P) (w:=w) (base:=base) T
 refine T.d40.F.rd fQ fun cdv A0 outer s H vs Q E hr h=>?_
 obtain⟨wa,cl,wl,cells,rfl,hw,lw,nd,hc,lc,q⟩:=h
 refine⟨_,(eQ (pS (i:=2) fQ.nd (fG eP))
  (eQ (pS (i:=3) fQ.nd (fG eP))
  (eQ (pS (i:=4) fQ.nd (fG eP))
  (eQ (pS (i:=5) fQ.nd eR)
  (eQ (jP PassesOwn.never rfl (iA (cv 1)) (pN (i:=6) fQ.nd)
   (eQ (pS (i:=7) fQ.nd (fq hX (cv 6) (fq yp eR eR)))
   (eV (gB (fA lA (fq hX (cv 7) eR) eR)
    (eQ (pS (i:=8) fQ.nd (pF T.d38 gD38 (hr.mono (by lia)) (eN (cv 0) (eN (cv 2) (eN (cv 3) (eN (fq hX (cv 7) eR) (eN (fq jB (cv 7) eR) eP)))))))
    (eQ (gB (PW.pt (zJ (fA wH (eZ fc (cv 8) eR) eR) (zJ (fA wH (eZ fc (cv 8) eR) eR) (xu (fA wH (fq gF (eZ fc (cv 8) eR) (cv 5)) eR)))))
     (eV (pS (i:=8) fQ.nd (pF T.d32 gD32 (hr.mono (by lia)) (eN (cv 7) eP))))
     fF)
    (eV (fo (jV (lg dJ dM dN fZ (PE.mono (cv 2)) (eN (PE.mono (cv 8)) eP)))))))
    (eV (gB (PW.pt (oE (fA wH (fJ fR rfl T.z_len ja (eN (cv 2) eP)) eR) (oE (fA lA (fJ fR rfl T.z_len ja (eN (cv 4) eP)) eR) (nJ (fA uD (cv 5) eR)))))
     (eQ (pS (i:=9) fQ.nd (pF T.d39 gD39 (hr.mono (by lia)) (eN (cv 0) (eN (AU dJ dO dP AV (cv 2)) (eN (fq jB (cv 7) eR) eP)))))
     (eQ (fo (jV (lg dJ dM dN fZ (PE.mono (cv 4)) (eN (PE.mono (eZ fc (cv 9) eR)) eP))))
     (eQ (fo (jV (lg dJ dM dN fZ (PE.mono (cv 3)) (eN (PE.mono (eZ fc (cv 9) eR)) eP))))
     (eQ (pS (i:=5) fQ.nd (fq gF (cv 5) (eZ fc (cv 9) eR)))
     (eV (pS (i:=2) fQ.nd (fG eP)))))))
     fF))))))
  (eV (fu (fq qZ (cv 4) (fG (eN (eZ fc (pF T.d39 gD39 (hr.mono (by lia)) (eN (cv 0) (eN (pF T.d31 gD31 (hr.mono (by lia)) (eN (cv 2) eP)) (eN (fJ fR rfl T.z_len ja (eN (cv 1) eP)) eP)))) eR) eP)))))))))),?_⟩
 have sl:=sizeLine_eq
 refine⟨mh,fun st hst=>?_⟩
 dsimp only[fK]
 refine⟨mh,fun ma hma=>?_⟩
 dsimp only[fK]
 refine⟨mh,fun no hno=>?_⟩
 dsimp only[fK]
 have S1:=eS hst (.lst [])
 have S2:=eS hma (.lst [])
 have S3:=eS hno (.lst [])
 have S0:=S1.trans (S2.trans S3)
 have nn:∀{H2:Hp} {a:Addr},fC H H2->H2 a=none->H a=none:=fun{H2 a} S h=>by cases z:H a with|none=>rfl|some u=>rw[S _ _ z]at h;cases h
 have nma:=nn S1 hma
 have nno:=nn (S1.trans S2) hno
 have d1:ma≠st:=fun z=>by rw[z,eO]at hma;cases hma
 have d2:no≠st:=fun z=>by rw[z,S2 _ _ (show(L2.Internal.upd H st (.lst [])) st=_ from eO)]at hno;cases hno
 have d3:no≠ma:=fun z=>by rw[z,eO]at hno;cases hno
 refine⟨cl,rfl,⟨_,SqL.of (S0 _ _ hc)⟩,rF (xs:=cells.map V.int) (fun i σ H1=>∃(o6 o7 o8 o9:Option V) (st:Addr) (dn:Nat) (ns:List V) (ts:List Tr) (made:List Nat),σ=[some (.ref wa),some (.ref cl),some (.ref st),some (.ref ma),some (.ref no),some (.int (dn:Int)),o6,o7,o8,o9]/\fC H H1/\H st=none/\ma≠st/\no≠st/\Stk H1 st i (JS wl made)/\H1 ma=some (.lst (made.map nI))/\H1 no=some (.lst ns)/\Ims H1 ns (ts.map ndD)/\ts.length<=11/\JDs wl ts made) ?_ ?_ ?_ ?_⟩
 ·exact⟨none,none,none,none,st,0,[],[],[],rfl,S0,hst,d1,d2,Stk.new (S3 _ _ (S2 _ _ eO)),S3 _ _ eO,eO,.nil,by decide,rfl,fun d t h=>by cases h⟩
 ·rintro i σ H1 _ ⟨o6,o7,o8,o9,st,dn,ns,ts,made,_,S,_⟩
  exact SqL.of (S _ _ hc)
 ·rintro i v σ H1 hv ⟨o6,o7,o8,o9,st,dn,ns,ts,made,rfl,S,nst,m1,m2,ks,ema,eno,ino,lts,jd⟩
  rw[aJ]at hv
  obtain⟨c,hc',rfl⟩:=cB.mp hv
  have li:i<cells.length:=(aq.mp hc').1
  have lm:made.length<=11:=by rw[<-jd.1];exact lts
  have nws:wa≠st:=eY hw nst
  have hw1:=S _ _ hw
  dsimp only[fK]
  refine⟨⟨by decide,by decide,by decide⟩,(by show(0:Int)<10^(64:Int).toNat;decide+kernel),?_⟩
  dsimp only[fK]
  generalize c%10^(64:Int).toNat=k
  refine⟨(by show(0:Int)<24;decide),?_⟩
  show if decide (k%24<22)=true then _ else _
  by_cases c1:k%24<22
  ·rw[gQ c1]
   refine jL ?_
   refine⟨(by show(0:Int)<24;decide),⟨by decide,by decide⟩,?_⟩
   refine⟨wa,st,ma,i,wl,made,k%24,k/24,rfl,by lia,c1,hw1,ema,lw,nd,by lia,nws,m1,ks,fun H2 x I F2 k2 i2 j2=>?_⟩
   dsimp only[fK]
   obtain⟨a,n,cs,rfl,ea,ec,iN⟩:=id i2
   refine Dd i2 j2 rfl rfl rfl fun H3 x3 I3 S3 i3 j3=>?_
   have k3:=k2.same S3
   obtain⟨xs,es,ls,al⟩:=id k3
   refine⟨⟨_,es⟩,xs,es,by lia,?_⟩
   have F4:FS st H3 (L2.Internal.upd H3 st (.lst (xs++[x3]))):=fun a o e n=>by rw[eT n];exact e
   have F14:FS st H1 (L2.Internal.upd H3 st (.lst (xs++[x3]))):=F2.trans ((FS.same S3).trans F4)
   refine⟨_,_,_,_,st,dn,ns,ts,made,rfl,fun a o e=>F14 _ _ (S _ _ e) (eY e nst),nst,m1,m2,k3.push es i3 j3,F14 _ _ ema m1,F14 _ _ eno m2,ino.mono (ks.tk F14),lts,jd⟩
  ·rw[gA c1]
   refine jo ?_
   obtain⟨xs,es,ls,al⟩:=id ks
   have keep:∃(o6' o7' o8' o9':Option V) (st':Addr) (dn':Nat) (ns':List V) (ts':List Tr) (made':List Nat),[some (V.ref wa),some (V.ref cl),some (V.ref st),some (V.ref ma),some (V.ref no),some (V.int (dn:Int)),some (V.int c),some (V.int k),o8,o9]=[some (V.ref wa),some (V.ref cl),some (V.ref st'),some (V.ref ma),some (V.ref no),some (V.int (dn':Int)),o6',o7',o8',o9']/\fC H H1/\H st'=none/\ma≠st'/\no≠st'/\Stk H1 st' (i+ 1) (JS wl made')/\H1 ma=some (.lst (made'.map nI))/\H1 no=some (.lst ns')/\Ims H1 ns' (ts'.map ndD)/\ts'.length<=11/\JDs wl ts' made':=⟨_,_,_,_,st,dn,ns,ts,made,rfl,S,nst,m1,m2,ks.le (by lia),ema,eno,ino,lts,jd⟩
   refine⟨st,_,rfl,.inl (SqL.of es),?_⟩
   show if decide ((0:Int)<(xs.length:Int))=true then _ else _
   by_cases c2:0<xs.length
   ·rw[gQ (by lia)]
    refine jL ⟨no,_,rfl,.inl (SqL.of eno),?_⟩
    have lns:=ino.length
    rw[aB]at lns
    show if decide ((ns.length:Int)<11)=true then _ else _
    by_cases c3:ns.length<11
    ·rw[gQ (by lia)]
     refine jL ?_
     show if decide ((dn:Int)<=100)=true then _ else _
     by_cases c4:dn<=100
     ·rw[gQ (by lia)]
      refine jL ?_
      have hy:xs[xs.length-1]?=some (xs[xs.length-1]'(by lia)):=ba (by lia)
      obtain⟨I,hI',hJ⟩:=al _ (aM hy)
      refine⟨.inl ⟨rfl,_,SqL.of es⟩,st,xs,_,rfl,rfl,es,hy,?_⟩
      have F:FS st H1 (L2.Internal.upd H1 st (.lst xs.dropLast)):=fun a o e n=>by rw[eT n];exact e
      have tkF:=ks.tk F
      have hw2:=F _ _ hw1 nws
      have ema2:=F _ _ ema m1
      have eno2:=F _ _ eno m2
      have SH:fC H (L2.Internal.upd H1 st (.lst xs.dropLast)):=fun a o e=>F _ _ (S _ _ e) (eY e nst)
      have iI:=hI'.fs ks F
      refine⟨⟨by decide,by decide⟩,wa,wl,made,_,I,k/24,rfl,hw2,lw,nd,by lia,iI,hJ.1,fun H3 x3 I3 S3 i3 j3 z3 w3 n3 s3=>?_⟩
      dsimp only[fK]
      obtain⟨a,n,cs,rfl,ea,ec,iN⟩:=id i3
      have eno3:=S3 _ _ eno2
      refine⟨⟨_,eno3⟩,_,ea,eX (eU (j:=0) rfl) ⟨_,eno3,by lia,?_⟩⟩
      have na:a≠no:=fun z=>by
       rw[z,eno3]at ea
       cases cx.inj ea
       obtain⟨p,e⟩:=Dc ino (show V.int (I3.t.nest:Int)∈itV n I3 cs by simp[itV])
       cases e
      have ema3:=S3 _ _ ema2
      have nb:a≠ma:=fun z=>by
       rw[z,ema3]at ea
       have e:=cx.inj ea
       injection e with e
       have hm:V.ref cs∈made.map nI:=by rw[e];simp[itV]
       obtain⟨u,_,hu⟩:=bb.mp hm
       cases hu
      have ea4:(L2.Internal.upd H3 no (.lst (ns++[n]))) a=some (.lst (itV n I3 cs)):=by rw[eT na];exact ea
      have ema4:(L2.Internal.upd H3 no (.lst (ns++[n]))) ma=some (.lst (made.map nI)):=by rw[eT d3.symm];exact ema3
      refine⟨⟨_,ema4⟩,_,ea4,eX (eU (j:=2) rfl) ⟨_,ema4,by rw[aB];lia,?_⟩⟩
      have ea5:(L2.Internal.upd (L2.Internal.upd H3 no (.lst (ns++[n]))) ma (.lst (made.map nI++[.int (I3.w:Int)]))) a=some (.lst (itV n I3 cs)):=by rw[eT nb];exact ea4
      have ema5:(L2.Internal.upd (L2.Internal.upd H3 no (.lst (ns++[n]))) ma (.lst (made.map nI++[.int (I3.w:Int)]))) ma=some (.lst ((made++[I3.w]).map nI)):=by rw[eO,bC];rfl
      have eno5:(L2.Internal.upd (L2.Internal.upd H3 no (.lst (ns++[n]))) ma (.lst (made.map nI++[.int (I3.w:Int)]))) no=some (.lst (ns++[n])):=by rw[eT d3];exact eO
      have k35:TK H3 (L2.Internal.upd (L2.Internal.upd H3 no (.lst (ns++[n]))) ma (.lst (made.map nI++[.int (I3.w:Int)]))):=fun b ws e=>(ie ema4).tk _ _ ((ie eno3).tk _ _ e)
      have S5:fC H (L2.Internal.upd (L2.Internal.upd H3 no (.lst (ns++[n]))) ma (.lst (made.map nI++[.int (I3.w:Int)]))):=fun b o e=>by
       rw[eT (eY e nma),eT (eY e nno)]
       exact S3 _ _ (SH _ _ e)
      show xl _ _ _ _ (L2.Internal.upd (L2.Internal.upd H3 no (.lst (ns++[n]))) ma (.lst (made.map nI++[.int (I3.w:Int)])))
      generalize(L2.Internal.upd (L2.Internal.upd H3 no (.lst (ns++[n]))) ma (.lst (made.map nI++[.int (I3.w:Int)])))=H5 at ea5 ema5 eno5 k35 S5
      refine⟨_,ea5,eX (eU (j:=5) rfl) ?_⟩
      dsimp only[fK]
      refine⟨mh,fun st6 h6=>?_⟩
      dsimp only[fK]
      have S6:=eS h6 (.lst [])
      have n6:∀{b:Addr} {o:HO},H5 b=some o->b≠st6:=fun e z=>by rw[<-z,e]at h6;cases h6
      refine⟨_,_,_,_,st6,dn+I3.t.sz,ns++[n],ts++[I3.t],made++[I3.w],rfl,S5.trans S6,nn S5 h6,n6 ema5,n6 eno5,Stk.new eO,S6 _ _ ema5,S6 _ _ eno5,?_,by rw[aN,<-lns];show ns.length+ 1<=11;lia,jd.snoc (JD.of j3 z3 (by have:=hJ.2;lia) (by have:=hJ.3;lia) (by have:=hJ.4;lia))⟩
      rw[bC]
      exact((((ino.mono tkF).mono (fC.tk S3)).app (.cons iN .nil)).mono k35).mono (fC.tk S6)
     ·rw[gA (by lia)]
      exact jo keep
    ·rw[gA (by lia)]
     exact jo (jo keep)
   ·rw[gA (by lia)]
    exact jo (jo keep)
 ·rintro σ H1 ⟨o6,o7,o8,o9,st,dn,ns,ts,made,rfl,S,nst,m1,m2,ks,ema,eno,ino,lts,jd⟩
  dsimp only
  have nws:wa≠st:=eY hw nst
  have lm:made.length<=11:=by rw[<-jd.1];exact lts
  refine⟨st,_,JS wl made,rfl,ks,JS.num 0,fun H2 x2 I2 F2 k2 i2 j2=>?_⟩
  have S2':fC H H2:=fun a o e=>F2 _ _ (S _ _ e) (eY e nst)
  refine⟨cl,_,rfl,.inl (SqL.of (S2' _ _ hc)),?_⟩
  refine⟨wa,wl,made,x2,I2,_,rfl,S2' _ _ hw,lw,nd,by lia,i2,j2.1,fun H3 x3 I3 S3 i3 j3 z3 w3 n3 s3=>?_⟩
  obtain⟨a,n,cs,rfl,ea,ec,iN⟩:=id i3
  refine⟨_,ea,eX (eU (j:=0) rfl) ⟨lY,fun l4 h4=>?_⟩⟩
  have S4:=eS h4 (.lst [n])
  have eno4:=S4 _ _ (S3 _ _ (F2 _ _ eno m2))
  have lns:=ino.length
  rw[aB]at lns
  refine⟨no,l4,ns,[n],rfl,rfl,eno4,eO,by show ns.length+ 1<=_;lia,fun l5 h5=>?_⟩
  have S5:=eS h5 (.lst (ns++[n]))
  have S35:=S3.trans (S4.trans S5)
  refine q _ l5 (ns++[n]) (ts++[I3.t]) (made++[I3.w]) (S2'.trans S35) eO ?_ (by simp) (by rw[aN];show ts.length+ 1<=12;lia) (jd.snoc (JD.of j3 z3 (by have:=j2.2;lia) (by have:=j2.3;lia) (by have:=j2.4;lia)))
  rw[bC]
  exact(((ino.mono (ks.tk F2)).mono (fC.tk S35))).app (.cons (iN.mono (fC.tk (S4.trans S5))) .nil)
def apB (D E:Bd):Bd:=⟨D.pts++E.pts,D.mks++E.mks,D.uss++E.uss,D.fls++E.fls,D.root⟩
def rnB (g:Int->Int) (D:Bd):Bd:=⟨D.pts,D.mks.map (rnM g),D.uss.map (rnU g),D.fls.map (rnF g),D.root⟩
structure Sd (g:Int->Int) (D0 E0:Bd) (s t:Ls):Prop where
 d:∃D,s.D=apB D0 D/\t.D=apB E0 (rnB g D)
 n:∀j:Nat,g (s.n+j)=t.n+j
structure Sm (g:Int->Int) (D0 E0:Bd) (vi:Int->Int->Prop) (df:Int->Int) (p:Int) (s t:Ls):Prop where
 d:Sd g D0 E0 s t
 h:∀k,vi p k->t.held k=(s.held k).map g
 a:t.st (df p)=(s.st (df p)).map g
section
variable {g:Int->Int} {D0 E0:Bd} {s t:Ls}
theorem Sd.n0 (z:Sd g D0 E0 s t):t.n=g s.n:=by
 have:=z.n 0
 rw[show s.n+((0:Nat):Int)=s.n by lia]at this
 lia
theorem Sd.pt (z:Sd g D0 E0 s t) (x:Int):Sd g D0 E0 (s.pt x) (t.pt x):=by
 obtain⟨⟨D,e1,e2⟩,n⟩:=z
 refine⟨⟨⟨D.pts++[x],D.mks,D.uss,D.fls,D.root⟩,?_,?_⟩,fun j=>?_⟩
 ·unfold Ls.pt;rw[e1];simp only[apB,bJ]
 ·unfold Ls.pt;rw[e2];simp only[apB,rnB,bJ]
 ·rw[se,se]
  have:=n (j+ 1)
  rw[show s.n+ 1+(j:Int)=s.n+((j+ 1:Nat):Int) by lia]
  lia
theorem Sd.ma (z:Sd g D0 E0 s t) (m:Mkg):Sd g D0 E0 (s.mk' m) (t.mk' (rnM g m)):=by
 obtain⟨⟨D,e1,e2⟩,n⟩:=z
 refine⟨⟨⟨D.pts,D.mks++[m],D.uss,D.fls,D.root⟩,?_,?_⟩,n⟩
 ·unfold Ls.mk';rw[e1];simp only[apB,bJ]
 ·unfold Ls.mk';rw[e2];simp only[apB,rnB,bJ,bC,aA,aS]
theorem Sd.us (z:Sd g D0 E0 s t) (m:Us):Sd g D0 E0 (s.us m) (t.us (rnU g m)):=by
 obtain⟨⟨D,e1,e2⟩,n⟩:=z
 refine⟨⟨⟨D.pts,D.mks,D.uss++[m],D.fls,D.root⟩,?_,?_⟩,n⟩
 ·unfold Ls.us;rw[e1];simp only[apB,bJ]
 ·unfold Ls.us;rw[e2];simp only[apB,rnB,bJ,bC,aA,aS]
theorem Sd.fl (z:Sd g D0 E0 s t) (x y:Int):Sd g D0 E0 (s.fl x y) (t.fl (g x) (g y)):=by
 obtain⟨⟨D,e1,e2⟩,n⟩:=z
 refine⟨⟨⟨D.pts,D.mks,D.uss,D.fls++[(x,y)],D.root⟩,?_,?_⟩,n⟩
 ·unfold Ls.fl;rw[e1];simp only[apB,bJ]
 ·unfold Ls.fl;rw[e2];simp only[apB,rnB,rnF,bJ,bC,aA,aS]
end
section
variable {g:Int->Int} {D0 E0:Bd} {vi:Int->Int->Prop} {en df:Int->Int} {ρs:List Ro} {roots:List Nat} {ho:Nat->Option Hm}
theorem Bz (V:Vs vi en df ρs roots ho) {p c k:Int} {ρ:Ro} (hk:atZ ρs p=some ρ) (hc:c∈frk ρ) (h:vi c k):vi p k:=by
 rcases V.kid _ _ _ _ hk (oy hc) h with h|⟨_,h⟩
 ·exact h
 ·cases ρ with
  |fn=>cases hc
  |case a l=>rw[aZ.mp hc]at h;exact absurd h (V.sub _ _ _ hk)
  |_=>cases h
theorem vV (N:Nt en df ρs roots ho) {f:Nat} {p c:Int} {ρ:Ro} (hk:atZ ρs p=some ρ) (hc:c∈ku ρ) {s s':Ls} {q:Int} (hl:iE ρs roots ho f c s=some (q,s')):Rw en df p s s':=by
 obtain⟨z1,z2,z3,z4⟩:=N.kid _ _ _ hk hc
 have w:=vI N f _ _ _ _ hl
 exact⟨w.1.part N.n z1 z2 z3,fun d n=>by rw[<-z4];exact w.2 d n⟩
theorem zv (N:Nt en df ρs roots ho) {f:Nat} {p c v:Int} {ρ:Ro} (hk:atZ ρs p=some ρ) (hc:c∈bnd ρ) {s s':Ls} {q:Int} (hl:iE ρs roots ho f c ((s.pt p).hold c v)=some (q,s')):Rw en df p s s':=by
 obtain⟨z1,z2,z3,z4⟩:=N.kid _ _ _ hk (oz hc)
 exact(Rw.pt.trans (Rw.ho z1 (by lia))).trans (vV N hk (oz hc) hl)
theorem EH {f:Nat} {p:Int} {s s':Ls} {ρ:Ro} (hk:atZ ρs p=some ρ) (h:hV (iE ρs roots ho f) roots (ho p.toNat) p s.n (s.pt p) ρ=some s'):iE ρs roots ho (f+ 1) p s=some (s.n,s'):=by
 unfold iE
 rw[hk]
 dsimp only
 rw[h]
theorem Rw.st {p:Int} {s s':Ls} (w:Rw en df p s s'):s'.st (df p)=s.st (df p):=by
 by_cases e:s'.st (df p)=s.st (df p)
 ·exact e
 ·have:=w.2 _ e;lia
theorem Rw.vh (V:Vs vi en df ρs roots ho) {p k:Int} {s s':Ls} (w:Rw en df p s s') (h:vi p k):s'.held k=s.held k:=by
 obtain⟨_,z1,z2⟩:=V.enc _ _ h
 exact w.1.enc z1 z2
theorem Sm.step (V:Vs vi en df ρs roots ho) {p:Int} {s t s' t':Ls} (z:Sm g D0 E0 vi df p s t) (w:Rw en df p s s') (w':Rw en df p t t') (d:Sd g D0 E0 s' t'):Sm g D0 E0 vi df p s' t':=
 ⟨d,fun k h=>by rw[Rw.vh V w h,Rw.vh V w' h];exact z.h k h,by rw[Rw.st w,Rw.st w'];exact z.a⟩
theorem qr {L:Lf} {ho:Option Hm} {p own:Int} {s s':Ls} {w:Str} (h:hV L roots ho p own s (.name w)=some s'):∃h0 r s1,ho=some h0/\ia L roots h0 p s=some (r,s1)/\s'=s1.fl r own:=by
 unfold hV at h
 dsimp only at h
 cases ho with
 |none=>cases h
 |some h0=>
  dsimp only at h
  cases e2:ia L roots h0 p s with
  |none=>rw[e2]at h;cases h
  |some z=>obtain⟨r,s1⟩:=z;rw[e2]at h;cases h;exact⟨h0,r,s1,rfl,e2,rfl⟩
theorem EI (N:Nt en df ρs roots ho) (V:Vs vi en df ρs roots ho):∀(f f':Nat) (p q:Int) (s t s':Ls),f<=f'->Sm g D0 E0 vi df p s t->iE ρs roots ho f p s=some (q,s')->∃t',iE ρs roots ho f' p t=some (g q,t')/\Sd g D0 E0 s' t'
 |0,_,_,_,_,_,_,_,_,h=>by cases h
 |f+ 1,0,_,_,_,_,_,l,_,_=>by lia
 |f+ 1,f'+ 1,p,q,s,t,s',l,z,h=>by
  have IH:=fun p q s t s'=>EI N V f f' p q s t s' (by lia)
  obtain⟨ρ,hk,h1,rfl⟩:=lW h
  have zp:Sm g D0 E0 vi df p (s.pt p) (t.pt p):=⟨z.d.pt p,z.h,z.a⟩
  have key:∃t',hV (iE ρs roots ho f') roots (ho p.toNat) p t.n (t.pt p) ρ=some t'/\Sd g D0 E0 s' t':=by
   rw[z.d.n0]
   by_cases nn:∀w,ρ≠ .name w
   ·have G:Gn (γ:=Unit) g (fun _ s t=>Sm g D0 E0 vi df p s t) (fun _ _ _=>True) (iE ρs roots ho f) (iE ρs roots ho f') p ρ:=
     ⟨(fun r=>r.d.n0),
      (fun r=>⟨⟨r.d.pt p,r.h,r.a⟩,fun _ _=>trivial,trivial⟩),
      (fun r _ _=>⟨r.d.ma _,r.h,r.a⟩),
      (fun r _=>⟨r.d.us _,r.h,r.a⟩),
      (fun r _ _=>⟨r.d.fl _ _,r.h,r.a⟩),
      (fun{c s t k q s'} hc r e=>by
       have dk:=(N.kid _ _ _ hk (oy hc)).2.2.2
       obtain⟨t',e1,d1⟩:=IH k q s t s' ⟨r.d,fun x hx=>r.h x (Bz V hk hc hx),by rw[dk];exact r.a⟩ e
       exact⟨(),t',e1,r.step V (vV N hk (oy hc) e) (vV N hk (oy hc) e1) d1,fun _ _=>trivial,trivial⟩),
      (fun{c s t k q s'} hc r e=>by
       have dk:=(N.kid _ _ _ hk (oz hc)).2.2.2
       obtain⟨t',e1,d1⟩:=IH k q ((s.pt p).hold k s.n) ((t.pt p).hold k t.n) s' ⟨⟨(r.d.pt p).d,(r.d.pt p).n⟩,fun x hx=>by
        show put t.held k t.n x=(put s.held k s.n x).map g
        unfold put
        by_cases ex:x=k
        ·rw[fY ex,fY ex,r.d.n0];rfl
        ·rw[fN ex,fN ex]
         rcases V.kid _ _ _ _ hk (oz hc) hx with hx|hx
         ·exact r.h x hx
         ·exact absurd hx.1 ex,by rw[dk];exact r.a⟩ e
       exact⟨(),t',e1,r.step V (zv N hk hc e) (zv N hk hc e1) d1,fun _ _=>trivial,trivial,trivial⟩)⟩
    obtain⟨_,t',e1,r1,_⟩:=G.go (c:=()) nn zp trivial h1
    exact⟨t',e1,r1.d⟩
   ·obtain⟨w,rfl⟩:∃w,ρ= .name w:=Classical.byContradiction fun n=>nn fun w e=>n ⟨w,e⟩
    obtain⟨h0,r,s1,hh,hm,rfl⟩:=qr h1
    obtain⟨k,rfl,_⟩:=f9 hk
    have hh:ho k=some h0:=hh
    have key:∃t1,ia (iE ρs roots ho f') roots h0 k (t.pt k)=some (g r,t1)/\Sd g D0 E0 s1 t1:=by
     unfold ia at hm⊢
     by_cases e1:h0.1="let"
     ·rw[fY e1]at hm⊢
      exact IH _ _ _ _ _ ⟨zp.d,fun x hx=>zp.h x (V.lt _ _ _ hh e1 hx),by rw[(N.lt _ _ hh e1).2.2];exact zp.a⟩ hm
     rw[fN e1]at hm⊢
     by_cases e2:h0.1="def"
     ·rw[fY e2]at hm⊢
      by_cases e3:inF roots k h0.2=true
      ·rw[fY e3]at hm⊢
       obtain⟨v,hv,e5⟩:=cB.mp hm
       cases e5
       have:=zp.a
       rw[<-(V.inn _ _ hh e2).mp e3,hv]at this
       rw[this]
       exact⟨_,rfl,zp.d⟩
      ·rw[fN e3]at hm⊢
       obtain⟨r0,q0,s2,hd,h2,e5,e6⟩:=jS hm
       have n0:=zp.d.n0
       obtain⟨t2,a,b⟩:=IH (r0:Int) q0 (((s.pt k).pt r0).begin h0.2 (s.pt k).n) (((t.pt k).pt r0).begin h0.2 (t.pt k).n) s2 ⟨⟨(zp.d.pt r0).d,(zp.d.pt r0).n⟩,fun x hx=>absurd hx (V.root _ _ _ hd),by
        rw[V.dr _ _ hd,n0]
        show put t.st h0.2 (g (s.pt k).n) h0.2=(put s.st h0.2 (s.pt k).n h0.2).map g
        simp[put]⟩ h2
       refine⟨t2.fl (g q0) (t.pt k).n,?_,?_⟩
       ·unfold qv
        rw[hd]
        dsimp only
        rw[a,e5,<-n0]
       ·rw[e6,n0];exact b.fl _ _
     rw[fN e2]at hm⊢
     obtain⟨v,hv,e5⟩:=cB.mp hm
     cases e5
     rw[zp.h _ (V.held _ _ hh e1 e2),hv]
     exact⟨_,rfl,zp.d⟩
    obtain⟨t1,a,b⟩:=key
    refine⟨t1.fl (g r) (g s.n),?_,b.fl _ _⟩
    unfold hV
    rw[show((k:Int)).toNat=k from rfl,hh]
    dsimp only
    rw[a]
  obtain⟨t',e1,d1⟩:=key
  exact⟨t',by rw[<-z.d.n0];exact EH hk e1,d1⟩
end
theorem EJ (v:V):rnV (fun x=>x) v=v:=by cases v<;>rfl
mutual
theorem BA:∀d:Dt,rnD (fun x=>x) d=d
 | .flat v=>by rw[rnD,EJ]
 | .tup l=>by rw[rnD,zw]
 | .lst l=>by rw[rnD]
theorem zw:∀l:List Dt,kn (fun x=>x) l=l
 |[]=>by rw[kn]
 |d::l=>by rw[kn,BA,zw]
end
theorem EK (l:List (Str×Int)):rnP (fun x=>x) l=l:=List.map_id _
theorem zx (m:Mkg):rnM (fun x=>x) m=m:=by unfold rnM;rw[BA]
theorem zy (u:Us):rnU (fun x=>x) u=u:=by cases u<;>simp only[rnU,EK]
theorem EM (g h:Int->Int) (v:V):rnV g (rnV h v)=rnV (fun x=>g (h x)) v:=by cases v<;>rfl
mutual
theorem BB (g h:Int->Int):∀d:Dt,rnD g (rnD h d)=rnD (fun x=>g (h x)) d
 | .flat v=>by rw[rnD,rnD,rnD,EM]
 | .tup l=>by rw[rnD,rnD,rnD,zz]
 | .lst l=>by rw[rnD,rnD,rnD]
theorem zz (g h:Int->Int):∀l:List Dt,kn g (kn h l)=kn (fun x=>g (h x)) l
 |[]=>by rw[kn,kn,kn]
 |d::l=>by rw[kn,kn,kn,BB,zz]
end
theorem EN (g h:Int->Int) (l:List (Str×Int)):rnP g (rnP h l)=rnP (fun x=>g (h x)) l:=by simp[rnP,Function.comp_def]
theorem EO (g h:Int->Int) (D:Bd):rnB g (rnB h D)=rnB (fun x=>g (h x)) D:=by
 have m:∀m,rnM g (rnM h m)=rnM (fun x=>g (h x)) m:=fun m=>by simp only[rnM,BB]
 have u:∀m,rnU g (rnU h m)=rnU (fun x=>g (h x)) m:=fun m=>by cases m<;>simp only[rnU,EN]
 simp only[rnB,bg,Function.comp_def,m,u,rnF]
 rfl
theorem ER (D:Bd):rnB (fun x=>x) D=D:=by
 simp only[rnB,show(rnM fun x=>x)=fun m=>m from funext zx,show(rnU fun x=>x)=fun m=>m from funext zy,show(rnF fun x=>x)=fun m=>m from rfl,List.map_id']
structure An (D:Bd):Prop where
 m:∀m∈D.mks,0<=m.a/\m.a<(D.pts.length:Int)
 u:∀u∈D.uss,0<=uA u/\uA u<(D.pts.length:Int)
 f:∀x∈D.fls,(0<=x.1/\x.1<(D.pts.length:Int))/\0<=x.2/\x.2<(D.pts.length:Int)
theorem sH {α:Type} {P:α->Prop} {l:List α} {a:α} (h:∀x∈l,P x) (k:P a):∀x∈l++[a],P x:=fun x hx=>by
 rcases ak.mp hx with hx|hx
 ·exact h x hx
 ·rw[aZ.mp hx];exact k
section
variable {s:Ls}
theorem An.pt (z:An s.D) (p:Int):An (s.pt p).D:=by
 have e:(((s.pt p).D.pts).length:Int)=s.D.pts.length+ 1:=se s p
 exact⟨fun m h=>by have:=z.m m h;lia,fun m h=>by have:=z.u m h;lia,fun m h=>by have:=z.f m h;lia⟩
theorem An.ma (z:An s.D) {m:Mkg} (h:0<=m.a/\m.a<s.n):An (s.mk' m).D:=⟨sH z.m h,z.u,z.f⟩
theorem An.us (z:An s.D) {u:Us} (h:0<=uA u/\uA u<s.n):An (s.us u).D:=⟨z.m,sH z.u h,z.f⟩
theorem An.fl (z:An s.D) {x y:Int} (h:0<=x/\x<s.n) (k:0<=y/\y<s.n):An (s.fl x y).D:=⟨z.m,z.u,sH z.f ⟨h,k⟩⟩
end
theorem ES (u:Us):uA u∈inU u:=by cases u<;>simp[uA,inU]
structure Ah (ρs:List Ro) (s:Ls):Prop where
 d:An s.D
 pl:∀x∈s.D.pts,∃ρ,atZ ρs x=some ρ
 h:∀k v,s.held k=some v->0<=v/\v<s.n
 t:∀k v,s.st k=some v->0<=v/\v<s.n
theorem xj (s:Ls):0<=s.n:=Int.natCast_nonneg _
theorem Ah.pt {ρs:List Ro} {s:Ls} (z:Ah ρs s) (p:Int) (hp:∃ρ,atZ ρs p=some ρ):Ah ρs (s.pt p):=⟨z.d.pt p,sH z.pl hp,fun k v h=>by have:=z.h k v h;rw[se];lia,fun k v h=>by have:=z.t k v h;rw[se];lia⟩
theorem zA {h:Int->Option Int} {n k v x y:Int} (z:∀k v,h k=some v->0<=v/\v<n) (hv:0<=v/\v<n) (e:put h k v x=some y):0<=y/\y<n:=by
 unfold put at e
 split at e
 ·cases e;exact hv
 ·exact z _ _ e
theorem BC {ρs:List Ro} {roots:List Nat} {ho:Nat->Option Hm}:∀{f:Nat} {p:Int} {s:Ls} {r:Int×Ls},iE ρs roots ho f p s=some r->∃ρ,atZ ρs p=some ρ
 |0,_,_,_,h=>by cases h
 |f+ 1,_,_,(_,_),h=>let⟨ρ,hk,_⟩:=lW h;⟨ρ,hk⟩
theorem BD {ρs:List Ro} {roots:List Nat} {ho:Nat->Option Hm}:∀(f:Nat) (p q:Int) (s s':Ls),Ah ρs s->iE ρs roots ho f p s=some (q,s')->Ah ρs s'/\s.n<s'.n/\q=s.n
 |0,_,_,_,_,_,h=>by cases h
 |f+ 1,p,q,s,s',z,h=>by
  obtain⟨ρ,hk,h1,rfl⟩:=lW h
  have zp:=z.pt p ⟨_,hk⟩
  have IH:=BD (ρs:=ρs) (roots:=roots) (ho:=ho) f
  have n1:=se s p
  have n0:=xj s
  have key:Ah ρs s'/\(s.pt p).n<=s'.n:=by
   by_cases nn:∀w,ρ≠ .name w
   ·have G:Gn (γ:=Unit) (fun x=>x) (fun _ s t=>t=s/\Ah ρs s/\(s.pt p).n<=(s.pt p).n) (fun _ n x=>0<=x/\x<n) (iE ρs roots ho f) (iE ρs roots ho f) p ρ:=
     ⟨(fun r=>by rw[r.1]),
      (fun{c s t} r=>⟨⟨by rw[r.1],r.2.1.pt p ⟨_,hk⟩,d7 _⟩,fun x hx=>by lia,by have:=xj s;lia⟩),
      (fun r h _=>⟨by rw[r.1,zx],⟨r.2.1.d.ma h,r.2.1.pl,r.2.1.h,r.2.1.t⟩,d7 _⟩),
      (fun{c s t u} r h=>⟨by rw[r.1,zy],⟨r.2.1.d.us (h _ (ES u)),r.2.1.pl,r.2.1.h,r.2.1.t⟩,d7 _⟩),
      (fun r h k=>⟨by rw[r.1],⟨r.2.1.d.fl h k,r.2.1.pl,r.2.1.h,r.2.1.t⟩,d7 _⟩),
      (fun{c s t k q s'} hc r e=>by
       obtain⟨rfl,r2,_⟩:=r
       obtain⟨z1,l1,e1⟩:=IH k q _ s' r2 e
       have:=xj t
       exact⟨(),s',e,⟨rfl,z1,d7 _⟩,fun x hx=>by lia,by lia⟩),
      (fun{c s t k q s'} hc r e=>by
       obtain⟨rfl,r2,_⟩:=r
       have:=xj t
       have n2:=se t p
       have en:((t.pt p).hold k t.n).n=(t.pt p).n:=rfl
       have zp:=r2.pt p ⟨_,hk⟩
       obtain⟨z1,l1,e1⟩:=IH k q ((t.pt p).hold k t.n) s' ⟨zp.d,zp.pl,fun x y h=>zA (h:=t.held) (k:=k) (v:=t.n) (n:=(t.pt p).n) zp.h (by lia) h,zp.t⟩ e
       exact⟨(),s',e,⟨rfl,z1,d7 _⟩,fun x hx=>by lia,by lia,by lia⟩)⟩
    obtain⟨_,t',e1,r1,m1⟩:=G.go (c:=()) nn ⟨rfl,zp,d7 _⟩ (own:=s.n) ⟨by lia,by lia⟩ h1
    have:=m1 s.n ⟨by lia,by lia⟩
    exact⟨r1.2.1,by lia⟩
   ·obtain⟨w,rfl⟩:∃w,ρ= .name w:=Classical.byContradiction fun n=>nn fun w e=>n ⟨w,e⟩
    obtain⟨h0,r,s1,hh,hm,rfl⟩:=qr h1
    have key:Ah ρs s1/\(s.pt p).n<=s1.n/\0<=r/\r<s1.n:=by
     unfold ia at hm
     split at hm
     ·obtain⟨a,b,c⟩:=IH _ _ _ _ zp hm
      exact⟨a,by lia,by lia,by lia⟩
     split at hm
     ·split at hm
      ·obtain⟨v,hv,e5⟩:=cB.mp hm
       cases e5
       exact⟨zp,d7 _,zp.t _ _ hv⟩
      ·obtain⟨r0,q0,s2,hd,h2,rfl,rfl⟩:=jS hm
       have n2:=se (s.pt p) r0
       have zr:=zp.pt r0 (BC h2)
       have en:(((s.pt p).pt r0).begin h0.2 (s.pt p).n).n=((s.pt p).pt r0).n:=rfl
       obtain⟨a,b,c⟩:=IH _ _ (((s.pt p).pt r0).begin h0.2 (s.pt p).n) _ ⟨zr.d,zr.pl,zr.h,fun x y h=>zA (h:=(s.pt p).st) (k:=h0.2) (v:=(s.pt p).n) (n:=((s.pt p).pt r0).n) zr.t (by lia) h⟩ h2
       have e2:(s2.fl q0 (s.pt p).n).n=s2.n:=rfl
       exact⟨⟨a.d.fl (by lia) (by lia),a.pl,a.h,a.t⟩,by lia,by lia,by lia⟩
     ·obtain⟨v,hv,e5⟩:=cB.mp hm
      cases e5
      exact⟨zp,d7 _,zp.h _ _ hv⟩
    obtain⟨a,b,c,d⟩:=key
    have e2:(s1.fl r s.n).n=s1.n:=rfl
    exact⟨⟨a.d.fl ⟨c,d⟩ (by lia),a.pl,a.h,a.t⟩,by lia⟩
  exact⟨key.1,by lia,rfl⟩
theorem BE {ρs:List Ro} {roots:List Nat} {ho:Nat->Option Hm} {f:Nat} {d q:Int} {t':Ls} (h:qv (iE ρs roots ho f) roots d s00=some (q,t')):Ah ρs t'/\0<t'.D.pts.length:=by
 obtain⟨r1,q1,t2,hd',h2',rfl,rfl⟩:=jS h
 have e0:(s00.pt r1).n=s00.n+ 1:=se _ _
 have z0:s00.n=0:=rfl
 have ah:Ah ρs ((s00.pt r1).begin d s00.n):=⟨⟨(by intro m hm;cases hm),(by intro m hm;cases hm),(by intro m hm;cases hm)⟩,fun x hx=>by rw[aZ.mp (show x∈[(r1:Int)]from hx)];exact BC h2',(by intro k v hv;cases hv),fun k v hv=>zA (h:=s00.st) (k:=d) (v:=s00.n) (n:=(s00.pt r1).n) (by intro k v hv;cases hv) (by lia) hv⟩
 obtain⟨ah2,l2,eq⟩:=BD f _ _ _ _ ah h2'
 have en2:((s00.pt r1).begin d s00.n).n=(s00.pt r1).n:=rfl
 refine⟨⟨ah2.d.fl (by lia) (by lia),ah2.pl,ah2.h,ah2.t⟩,?_⟩
 have:0<t2.n:=by lia
 have:0<((t2.D.pts.length:Nat):Int):=this
 show 0<t2.D.pts.length
 lia
theorem AI {vi:Int->Int->Prop} {en df:Int->Int} {ρs:List Ro} {roots:List Nat} {ho:Nat->Option Hm} (N:Nt en df ρs roots ho) (V:Vs vi en df ρs roots ho) {f f':Nat} (l:f<=f') {d q q':Int} {s s' t':Ls} (h:qv (iE ρs roots ho f) roots d s=some (q,s')) (h':qv (iE ρs roots ho f') roots d s00=some (q',t')):s'.D=apB s.D (rnB (fun x=>x+s.n) t'.D)/\An t'.D/\0<t'.D.pts.length/\q=s.n:=by
 obtain⟨r0,q0,s2,hd,h2,rfl,rfl⟩:=jS h
 obtain⟨r1,q1,t2,hd',h2',rfl,rfl⟩:=jS h'
 rw[hd]at hd'
 cases hd'
 have e0:(s00.pt r0).n=s00.n+ 1:=se _ _
 have e1:(s.pt r0).n=s.n+ 1:=se _ _
 have z0:s00.n=0:=rfl
 have sm:Sm (fun x=>x-s.n) s.D s00.D vi df (r0:Int) ((s.pt r0).begin d s.n) ((s00.pt r0).begin d s00.n):=by
  refine⟨⟨⟨⟨[(r0:Int)],[],[],[],0⟩,?_,rfl⟩,fun j=>?_⟩,fun k hk=>absurd hk (V.root _ _ _ hd),?_⟩
  ·show Bd.mk _ _ _ _ _=_
   simp only[apB,aC]
  ·show(s.pt r0).n+(j:Int)-s.n=(s00.pt r0).n+j
   lia
  ·rw[V.dr _ _ hd]
   show put s00.st d s00.n d=(put s.st d s.n d).map _
   simp[put,z0]
 obtain⟨t3,h3,d3⟩:=EI N V f f' _ _ _ _ _ l sm h2
 rw[h2']at h3
 cases h3
 have d4:=d3.fl q0 s.n
 obtain⟨⟨D,a,b⟩,_⟩:=d4
 have en:s.n-s.n=s00.n:=by lia
 have b:(t2.fl (q0-s.n) s00.n).D=apB s00.D (rnB (fun x=>x-s.n) D):=by rw[<-en];exact b
 have rt:D.root=D.root:=rfl
 have eb:rnB (fun x=>x+s.n) (t2.fl (q0-s.n) s00.n).D=⟨D.pts,D.mks,D.uss,D.fls,0⟩:=by
  have e:=EO (fun x=>x+s.n) (fun x=>x-s.n) D
  rw[show(fun x:Int=>x-s.n+s.n)=fun x=>x from funext fun x=>by lia,ER]at e
  rw[b]
  have e':=congrArg (fun D:Bd=>Bd.mk D.pts D.mks D.uss D.fls 0) e
  exact e'
 obtain⟨ah,la⟩:=BE h'
 refine⟨?_,ah.d,la,rfl⟩
 rw[eb];exact a
structure Bk where
 lo:Int
 hi:Int
 d:Int
def inb (lo hi x:Int):Bool:=decide (lo<=x)&&decide (x<hi)
theorem ET {lo hi x:Int}:inb lo hi x=true↔lo<=x/\x<hi:=by simp[inb]
theorem oB {lo hi x:Int}:inb lo hi x=false↔¬(lo<=x/\x<hi):=by rw[<-ET];simp
structure Blk (D C:Bd) (lo hi:Int):Prop where
 p:∃l1 l2,D.pts=l1++(C.pts++l2)/\(l1.length:Int)=lo/\hi=lo+C.pts.length
 m:D.mks.filter (fun m=>inb lo hi m.a)=C.mks.map (rnM fun x=>x+lo)
 u:D.uss.filter (fun u=>inb lo hi (uA u))=C.uss.map (rnU fun x=>x+lo)
 f:D.fls.filter (fun x=>inb lo hi x.1&&inb lo hi x.2)=C.fls.map (rnF fun x=>x+lo)
 c:D.fls.filter (fun x=>inb lo hi x.1 !=inb lo hi x.2)=[(lo,lo-1)]
def Kw (Bs:List Bk) (n x:Int):Prop:=0<=x/\x<n/\∀b∈Bs,inb b.lo b.hi x=false
theorem ue {α:Type} {l:List α} {P:α->Bool} {a:α} (h:P a=false):(l++[a]).filter P=l.filter P:=by
 rw[bW,List.filter_cons_of_neg (by rw[h];decide),List.filter_nil,aC]
section
variable {s:Ls} {C:Bd} {lo hi:Int}
theorem Blk.pt (z:Blk s.D C lo hi) (p:Int):Blk (s.pt p).D C lo hi:=by
 obtain⟨⟨l1,l2,e,a,b⟩,m,u,f,c⟩:=z
 exact⟨⟨l1,l2++[p],by show s.D.pts++[p]=_;rw[e,bJ,bJ],a,b⟩,m,u,f,c⟩
theorem Blk.ma (z:Blk s.D C lo hi) {m:Mkg} (h:inb lo hi m.a=false):Blk (s.mk' m).D C lo hi:=⟨z.p,(ue (P:=fun m:Mkg=>inb lo hi m.a) h).trans z.m,z.u,z.f,z.c⟩
theorem Blk.us (z:Blk s.D C lo hi) {u:Us} (h:inb lo hi (uA u)=false):Blk (s.us u).D C lo hi:=⟨z.p,z.m,(ue (P:=fun u=>inb lo hi (uA u)) h).trans z.u,z.f,z.c⟩
theorem Blk.fl (z:Blk s.D C lo hi) {x y:Int} (h:inb lo hi x=false) (k:inb lo hi y=false):Blk (s.fl x y).D C lo hi:=⟨z.p,z.m,z.u,(ue (P:=fun x:Int×Int=>inb lo hi x.1&&inb lo hi x.2) (a:=(x,y)) (by dsimp only;rw[h];rfl)).trans z.f,(ue (P:=fun x:Int×Int=>inb lo hi x.1 !=inb lo hi x.2) (a:=(x,y)) (by dsimp only;rw[h,k];rfl)).trans z.c⟩
end
theorem u4 {α β:Type} {l:List α} {g:α->β} {P:β->Bool} (h:∀a∈l,P (g a)=true):(l.map g).filter P=l.map g:=
 List.filter_eq_self.mpr fun b hb=>by obtain⟨a,ha,rfl⟩:=bb.mp hb;exact h a ha
theorem kS {α:Type} {l:List α} {P:α->Bool} (h:∀a∈l,P a=false):l.filter P=[]:=
 List.filter_eq_nil_iff.mpr fun a ha=>by rw[h a ha];decide
theorem AJ (g:Int->Int) (u:Us):uA (rnU g u)=g (uA u):=by cases u<;>rfl
theorem Blk.app {D C E:Bd} {lo hi n:Int} (z:Blk D C lo hi) (h:hi<=n) (a:An E):Blk (apB D (rnB (fun x=>x+n) E)) C lo hi:=by
 obtain⟨⟨l1,l2,e,p1,p2⟩,m,u,f,c⟩:=z
 have no:∀x:Int,0<=x->inb lo hi (x+n)=false:=fun x hx=>oB.mpr fun⟨_,z⟩=>by lia
 refine⟨⟨l1,l2++E.pts,by show D.pts++E.pts=_;rw[e,bJ,bJ],p1,p2⟩,?_,?_,?_,?_⟩
 ·show(D.mks++E.mks.map _).filter _=_
  rw[bW,m,kS,aC]
  intro x hx
  obtain⟨y,hy,rfl⟩:=bb.mp hx
  exact no _ (a.m y hy).1
 ·show(D.uss++E.uss.map _).filter _=_
  rw[bW,u,kS,aC]
  intro x hx
  obtain⟨y,hy,rfl⟩:=bb.mp hx
  rw[AJ]
  exact no _ (a.u y hy).1
 ·show(D.fls++E.fls.map _).filter _=_
  rw[bW,f,kS,aC]
  intro x hx
  obtain⟨y,hy,rfl⟩:=bb.mp hx
  show(inb lo hi (y.1+n)&&_)=false
  rw[no _ (a.f y hy).1.1]
  rfl
 ·show(D.fls++E.fls.map _).filter _=_
  rw[bW,c,kS,aC]
  intro x hx
  obtain⟨y,hy,rfl⟩:=bb.mp hx
  show(inb lo hi (y.1+n)!=inb lo hi (y.2+n))=false
  rw[no _ (a.f y hy).1.1,no _ (a.f y hy).2.1]
  rfl
theorem Blk.new {D E:Bd} (a:An D) (b:An E) (h:0<D.pts.length) (h2:0<E.pts.length):Blk ⟨D.pts++E.pts,D.mks++E.mks.map (rnM fun x=>x+(D.pts.length:Int)),D.uss++E.uss.map (rnU fun x=>x+(D.pts.length:Int)),D.fls++E.fls.map (rnF fun x=>x+(D.pts.length:Int))++[((D.pts.length:Int),(D.pts.length:Int)-1)],D.root⟩ E D.pts.length (D.pts.length+E.pts.length):=by
 have no:∀x:Int,x<(D.pts.length:Int)->inb (D.pts.length:Int) ((D.pts.length:Int)+E.pts.length) x=false:=fun x hx=>oB.mpr fun⟨z,_⟩=>by lia
 have ye:∀x:Int,0<=x->x<(E.pts.length:Int)->inb (D.pts.length:Int) ((D.pts.length:Int)+E.pts.length) (x+D.pts.length)=true:=fun x h1 h2=>ET.mpr ⟨by lia,by lia⟩
 have y0:=ye 0 (by lia) (by lia)
 rw[eB]at y0
 have n0:=no ((D.pts.length:Int)-1) (by lia)
 refine⟨⟨D.pts,[],by rw[aC],rfl,rfl⟩,?_,?_,?_,?_⟩
 ·dsimp only
  rw[bW,kS fun x hx=>no _ (a.m x hx).2,bG]
  exact u4 fun x hx=>ye _ (b.m x hx).1 (b.m x hx).2
 ·dsimp only
  rw[bW,kS fun x hx=>no _ (a.u x hx).2,bG]
  exact u4 fun x hx=>by rw[AJ];exact ye _ (b.u x hx).1 (b.u x hx).2
 ·dsimp only
  rw[ue (by dsimp only;rw[n0,dU]),bW,kS (fun x hx=>by rw[no _ (a.f x hx).1.2];rfl),bG]
  exact u4 fun x hx=>by
   show(inb _ _ (x.1+_)&&inb _ _ (x.2+_))=true
   rw[ye _ (b.f x hx).1.1 (b.f x hx).1.2,ye _ (b.f x hx).2.1 (b.f x hx).2.2]
   rfl
 ·dsimp only
  rw[bW,bW,kS (fun x hx=>by rw[no _ (a.f x hx).1.2,no _ (a.f x hx).2.2];rfl),kS,bG,bG]
  ·rw[List.filter_cons_of_pos (by dsimp only;rw[y0,n0];rfl),List.filter_nil]
  ·intro x hx
   obtain⟨y,hy,rfl⟩:=bb.mp hx
   show(inb _ _ (y.1+_)!=inb _ _ (y.2+_))=false
   rw[ye _ (b.f y hy).1.1 (b.f y hy).1.2,ye _ (b.f y hy).2.1 (b.f y hy).2.2]
   rfl
structure Iv (fr:Int->Option Int) (Cb:Int->Bd) (Bs:List Bk) (s:Ls):Prop where
 an:An s.D
 o:1<=s.n
 b:∀b∈Bs,2<=b.lo/\b.hi<=s.n/\Blk s.D (Cb b.d) b.lo b.hi/\∃pl,atZ s.D.pts (b.lo-1)=some pl/\fr pl=some b.d
 k:∀k pl d,1<=k->(∀b∈Bs,inb b.lo b.hi k=false)->atZ s.D.pts k=some pl->fr pl=some d->∃b∈Bs,b.lo=k+ 1
 e:∀b∈Bs,∀b'∈Bs,inb b'.lo b'.hi b.hi=false
theorem sI {α:Type} {l m:List α} {k:Int} {a:α} (h:atZ l k=some a):atZ (l++m) k=some a:=by
 obtain⟨i,rfl,h'⟩:=f9 h
 show(l++m)[i]?=_
 rw[aI (aq.mp h').1,h']
theorem vW {α:Type} {l:List α} {x a:α} {k:Int} (h:atZ (l++[x]) k=some a):atZ l k=some a\/(k=(l.length:Int)/\a=x):=by
 obtain⟨i,rfl,h'⟩:=f9 h
 clear h
 have h:=h'
 by_cases e:i<l.length
 ·left
  rw[aI e]at h
  exact h
 ·right
  have:=(aq.mp h).1
  rw[aN,aU]at this
  have e2:i=l.length:=by lia
  subst e2
  rw[aH (cb _),cg]at h
  cases h
  exact⟨rfl,rfl⟩
section
variable {fr:Int->Option Int} {Cb:Int->Bd} {Bs:List Bk} {s:Ls}
theorem Iv.pt (z:Iv fr Cb Bs s) {p:Int} (h:fr p=none):Iv fr Cb Bs (s.pt p):=by
 refine⟨z.an.pt p,by rw[se];have:=z.o;lia,fun b hb=>?_,fun k pl d h1 h2 h3 h4=>?_,z.e⟩
 ·obtain⟨a1,a2,a3,pl,a4,a5⟩:=z.b b hb
  exact⟨a1,by rw[se];lia,a3.pt p,pl,sI a4,a5⟩
 ·rcases vW h3 with h3|⟨_,rfl⟩
  ·exact z.k k pl d h1 h2 h3 h4
  ·rw[h]at h4;cases h4
theorem Iv.ma (z:Iv fr Cb Bs s) {m:Mkg} (h:Kw Bs s.n m.a):Iv fr Cb Bs (s.mk' m):=
 ⟨z.an.ma ⟨h.1,h.2.1⟩,z.o,fun b hb=>let⟨a1,a2,a3,a4⟩:=z.b b hb;⟨a1,a2,a3.ma (h.2.2 b hb),a4⟩,z.k,z.e⟩
theorem Iv.us (z:Iv fr Cb Bs s) {u:Us} (h:Kw Bs s.n (uA u)):Iv fr Cb Bs (s.us u):=
 ⟨z.an.us ⟨h.1,h.2.1⟩,z.o,fun b hb=>let⟨a1,a2,a3,a4⟩:=z.b b hb;⟨a1,a2,a3.us (h.2.2 b hb),a4⟩,z.k,z.e⟩
theorem Iv.fl (z:Iv fr Cb Bs s) {x y:Int} (h:Kw Bs s.n x) (k:Kw Bs s.n y):Iv fr Cb Bs (s.fl x y):=
 ⟨z.an.fl ⟨h.1,h.2.1⟩ ⟨k.1,k.2.1⟩,z.o,fun b hb=>let⟨a1,a2,a3,a4⟩:=z.b b hb;⟨a1,a2,a3.fl (h.2.2 b hb) (k.2.2 b hb),a4⟩,z.k,z.e⟩
theorem Kw.mo {n n' x:Int} (h:Kw Bs n x) (l:n<=n'):Kw Bs n' x:=⟨h.1,by have:=h.2.1;lia,h.2.2⟩
theorem Iv.new (z:Iv fr Cb Bs s) {n:Int} (h:s.n<n):Kw Bs n s.n:=⟨xj s,h,fun b hb=>oB.mpr fun⟨_,w⟩=>by have:=(z.b b hb).2.1;lia⟩
theorem Iv.cp (z:Iv fr Cb Bs s) {p d:Int} {s1:Ls} (h:fr p=some d) (a:An (Cb d)) (hc:0<(Cb d).pts.length) (e:s1.D=apB (s.pt p).D (rnB (fun x=>x+(s.pt p).n) (Cb d))):∃b:Bk,Iv fr Cb (Bs++[b]) (s1.fl (s.pt p).n s.n)/\∀x,Kw Bs (s.pt p).n x->Kw (Bs++[b]) (s1.fl (s.pt p).n s.n).n x:=by
 have n1:=se s p
 have ap:=z.an.pt p
 have lp:((s.pt p).D.pts.length:Int)=(s.pt p).n:=rfl
 have n0:=xj s
 have eD:(s1.fl (s.pt p).n s.n).D=⟨(s.pt p).D.pts++(Cb d).pts,(s.pt p).D.mks++(Cb d).mks.map (rnM fun x=>x+(s.pt p).n),(s.pt p).D.uss++(Cb d).uss.map (rnU fun x=>x+(s.pt p).n),(s.pt p).D.fls++(Cb d).fls.map (rnF fun x=>x+(s.pt p).n)++[((s.pt p).n,(s.pt p).n-1)],(s.pt p).D.root⟩:=by
  unfold Ls.fl
  rw[e,show s.n=(s.pt p).n-1 by lia]
  simp only[apB,rnB]
 have bl:Blk (s1.fl (s.pt p).n s.n).D (Cb d) (s.pt p).n ((s.pt p).n+(Cb d).pts.length):=by
  rw[eD];exact Blk.new ap a (by lia) hc
 have nn:(s1.fl (s.pt p).n s.n).n=(s.pt p).n+(Cb d).pts.length:=by
  show((s1.fl (s.pt p).n s.n).D.pts.length:Int)=_
  rw[eD,aN]
  lia
 have ptE:(s1.fl (s.pt p).n s.n).D.pts=s.D.pts++[p]++(Cb d).pts:=by rw[eD];rfl
 have me:atZ (s.D.pts++[p]) s.n=some p:=by
  show(s.D.pts++[p])[s.D.pts.length]?=_
  rw[aH (cb _),cg]
  rfl
 have ob:∀b∈Bs,inb b.lo b.hi s.n=false:=fun b hb=>oB.mpr fun⟨_,w⟩=>by have:=(z.b b hb).2.1;lia
 refine⟨⟨(s.pt p).n,(s.pt p).n+(Cb d).pts.length,d⟩,⟨⟨?_,?_,?_⟩,by rw[nn];lia,fun b hb=>?_,fun k pl d' h1 h2 h3 h4=>?_,fun b hb b' hb'=>?_⟩,fun x hx=>⟨hx.1,by rw[nn];have:=hx.2.1;lia,fun b hb=>?_⟩⟩
 ·intro m hm
  have lz:((s1.fl (s.pt p).n s.n).D.pts.length:Int)=(s.pt p).n+(Cb d).pts.length:=nn
  rw[eD]at hm
  rw[lz]
  rcases ak.mp hm with hm|hm
  ·have:=ap.m m hm;lia
  ·obtain⟨y,hy,rfl⟩:=bb.mp hm
   have:=a.m y hy
   show 0<=y.a+_/\y.a+_<_
   lia
 ·intro m hm
  have lz:((s1.fl (s.pt p).n s.n).D.pts.length:Int)=(s.pt p).n+(Cb d).pts.length:=nn
  rw[eD]at hm
  rw[lz]
  rcases ak.mp hm with hm|hm
  ·have:=ap.u m hm;lia
  ·obtain⟨y,hy,rfl⟩:=bb.mp hm
   have:=a.u y hy
   rw[AJ]
   lia
 ·intro m hm
  have lz:((s1.fl (s.pt p).n s.n).D.pts.length:Int)=(s.pt p).n+(Cb d).pts.length:=nn
  rw[eD]at hm
  rw[lz]
  rcases ak.mp hm with hm|hm
  ·rcases ak.mp hm with hm|hm
   ·have:=ap.f m hm;lia
   ·obtain⟨y,hy,rfl⟩:=bb.mp hm
    have:=a.f y hy
    show(0<=y.1+_/\y.1+_<_)/\0<=y.2+_/\y.2+_<_
    lia
  ·rw[aZ.mp hm]
   show(0<=(s.pt p).n/\(s.pt p).n<_)/\0<=(s.pt p).n-1/\(s.pt p).n-1<_
   lia
 ·rcases ak.mp hb with hb|hb
  ·obtain⟨a1,a2,a3,pl,a4,a5⟩:=z.b b hb
   refine⟨a1,by rw[nn];lia,?_,pl,by rw[ptE];exact sI (sI a4),a5⟩
   have a6:Blk s1.D (Cb b.d) b.lo b.hi:=by rw[e];exact(a3.pt p).app (by lia) a
   exact a6.fl (oB.mpr fun⟨_,w⟩=>by lia) (ob b hb)
  ·rw[aZ.mp hb]
   exact⟨by show 2<=(s.pt p).n;have:=z.o;lia,by rw[nn];exact d7 _,bl,p,by rw[ptE];refine sI ?_;show atZ _ ((s.pt p).n-1)=_;rw[show(s.pt p).n-1=s.n by lia];exact me,h⟩
 ·have h2b:=h2 _ (aw _ (aZ.mpr rfl))
  have h2c:=oB.mp h2b
  dsimp only at h2c
  have hk:k<(s.pt p).n+(Cb d).pts.length:=by
   obtain⟨i,rfl,hi⟩:=f9 h3
   rw[<-nn]
   have:=(aq.mp hi).1
   show(i:Int)<(((s1.fl (s.pt p).n s.n).D.pts.length:Nat):Int)
   lia
  have hk2:k<(s.pt p).n:=by lia
  rw[ptE]at h3
  have h5:atZ (s.D.pts++[p]) k=some pl:=by
   obtain⟨i,rfl,hi⟩:=f9 h3
   have li:i<(s.D.pts++[p]).length:=by
    have:(i:Int)<(((s.D.pts++[p]).length:Nat):Int):=hk2
    lia
   rw[aI li]at hi
   exact hi
  rcases vW h5 with h5|⟨h5,_⟩
  ·obtain⟨b,hb,eb⟩:=z.k k pl d' h1 (fun b hb=>h2 b (ao _ hb)) h5 h4
   exact⟨b,ao _ hb,eb⟩
  ·refine⟨_,aw _ (aZ.mpr rfl),?_⟩
   show(s.pt p).n=k+ 1
   have:(s.D.pts.length:Int)=s.n:=rfl
   lia
 ·rcases ak.mp hb with hb|hb
  ·rcases ak.mp hb' with hb'|hb'
   ·exact z.e b hb b' hb'
   ·rw[aZ.mp hb']
    refine oB.mpr fun⟨w,_⟩=>?_
    have:=(z.b b hb).2.1
    dsimp only at w
    lia
  ·rw[aZ.mp hb]
   rcases ak.mp hb' with hb'|hb'
   ·refine oB.mpr fun⟨_,w⟩=>?_
    have:=(z.b b' hb').2.1
    dsimp only at w
    lia
   ·rw[aZ.mp hb']
    exact oB.mpr fun⟨_,w⟩=>by dsimp only at w;lia
 ·rcases ak.mp hb with hb|hb
  ·exact hx.2.2 b hb
  ·rw[aZ.mp hb]
   exact oB.mpr fun⟨w,_⟩=>by have:=hx.2.1;dsimp only at w;lia
end
structure Lv (vi:Int->Int->Prop) (df:Int->Int) (Bs:List Bk) (p:Int) (s:Ls):Prop where
 h:∀k v,vi p k->s.held k=some v->Kw Bs s.n v
 t:∀v,s.st (df p)=some v->Kw Bs s.n v
def frF (ho:Nat->Option Hm) (wh:Int) (p:Int):Option Int:=match ho p.toNat with
 |some h=>if h.1="def"/\h.2≠wh then some h.2 else none
 |none=>none
def cbF (ρs:List Ro) (roots:List Nat) (ho:Nat->Option Hm) (F:Nat) (d:Int):Bd:=match qv (iE ρs roots ho F) roots d s00 with
 |some (_,t)=>t.D
 |none=>⟨[],[],[],[],0⟩
section
variable {vi:Int->Int->Prop} {en df:Int->Int} {ρs:List Ro} {roots:List Nat} {ho:Nat->Option Hm}
theorem Lv.step (V:Vs vi en df ρs roots ho) {p:Int} {s s':Ls} {Bs Bs':List Bk} (z:Lv vi df Bs p s) (w:Rw en df p s s') (m:∀x,Kw Bs s.n x->Kw Bs' s'.n x):Lv vi df Bs' p s':=
 ⟨fun k v hk h=>m v (z.h k v hk (by rw[<-Rw.vh V w hk];exact h)),fun v h=>m v (z.t v (by rw[<-Rw.st w];exact h))⟩
theorem BF (N:Nt en df ρs roots ho) (V:Vs vi en df ρs roots ho) {F:Nat} {wh:Int} (hn:∀p ρ,atZ ρs p=some ρ->(∀w,ρ≠ .name w)->ho p.toNat=none) (hc:∀(k:Nat) h,ho k=some h->h.1="def"->∃q t',qv (iE ρs roots ho F) roots h.2 s00=some (q,t')):∀(f:Nat) (p q:Int) (s s':Ls) (Bs:List Bk),f<=F->df p=wh->Iv (frF ho wh) (cbF ρs roots ho F) Bs s->Lv vi df Bs p s->iE ρs roots ho f p s=some (q,s')->∃Bs',Iv (frF ho wh) (cbF ρs roots ho F) Bs' s'/\(∀x,Kw Bs s.n x->Kw Bs' s'.n x)/\Kw Bs' s'.n q
 |0,_,_,_,_,_,_,_,_,_,h=>by cases h
 |f+ 1,p,q,s,s',Bs,lf,hd,z,zl,h=>by
  have IH:=fun p q s s' Bs=>BF N V (wh:=wh) hn hc f p q s s' Bs (by lia)
  obtain⟨ρ,hk,h1,rfl⟩:=lW h
  have n1:=se s p
  by_cases nn:∀w,ρ≠ .name w
  ·have fp:frF ho wh p=none:=by unfold frF;rw[hn p ρ hk nn]
   have zp:=z.pt fp
   have lp:Lv vi df Bs p (s.pt p):=⟨fun k v a b=>(zl.h k v a b).mo (by lia),fun v a=>(zl.t v a).mo (by lia)⟩
   have G:Gn (γ:=List Bk) (fun x=>x) (fun Bs s t=>t=s/\Iv (frF ho wh) (cbF ρs roots ho F) Bs s/\Lv vi df Bs p s) Kw (iE ρs roots ho f) (iE ρs roots ho f) p ρ:=
    ⟨(fun r=>by rw[r.1]),
     (fun{c s t} r=>by
      have n1:=se s p
      exact⟨⟨by rw[r.1],r.2.1.pt fp,fun k v a b=>(r.2.2.h k v a b).mo (by lia),fun v a=>(r.2.2.t v a).mo (by lia)⟩,fun x hx=>hx.mo (by lia),r.2.1.new (by lia)⟩),
     (fun r h _=>⟨by rw[r.1,zx],r.2.1.ma h,r.2.2.h,r.2.2.t⟩),
     (fun{c s t u} r h=>⟨by rw[r.1,zy],r.2.1.us (h _ (ES u)),r.2.2.h,r.2.2.t⟩),
     (fun r h k=>⟨by rw[r.1],r.2.1.fl h k,r.2.2.h,r.2.2.t⟩),
     (fun{c s t k q s'} hc r e=>by
      obtain⟨rfl,r1,r2⟩:=r
      have dk:=(N.kid _ _ _ hk (oy hc)).2.2.2
      obtain⟨B',i1,m1,k1⟩:=IH k q _ s' c (by rw[dk];exact hd) r1 ⟨fun x v hx=>r2.h x v (Bz V hk hc hx),by rw[dk];exact r2.t⟩ e
      exact⟨B',s',e,⟨rfl,i1,r2.step V (vV N hk (oy hc) e) m1⟩,m1,k1⟩),
     (fun{c s t k q s'} hc r e=>by
      obtain⟨rfl,r1,r2⟩:=r
      have n1:=se t p
      have dk:=(N.kid _ _ _ hk (oz hc)).2.2.2
      have en:((t.pt p).hold k t.n).n=(t.pt p).n:=rfl
      have i0:=r1.pt fp
      have nw:=r1.new (n:=(t.pt p).n) (by lia)
      obtain⟨B',i1,m1,k1⟩:=IH k q ((t.pt p).hold k t.n) s' c (by rw[dk];exact hd) ⟨i0.an,i0.o,i0.b,i0.k,i0.e⟩ ⟨fun x v hx hv=>by
       have hv:put t.held k t.n x=some v:=hv
       unfold put at hv
       split at hv
       ·cases hv;exact nw
       ·rename_i ex
        rcases V.kid _ _ _ _ hk (oz hc) hx with hx|hx
        ·exact(r2.h x v hx hv).mo (by lia)
        ·exact absurd hx.1 ex,fun v hv=>(r2.t v (by rw[<-dk];exact hv)).mo (by lia)⟩ e
      have m2:∀x,Kw c t.n x->Kw B' s'.n x:=fun x hx=>m1 x (hx.mo (by lia))
      exact⟨B',s',e,⟨rfl,i1,r2.step V (zv N hk hc e) m2⟩,m2,k1,m1 _ nw⟩)⟩
   have nw:=z.new (n:=(s.pt p).n) (by lia)
   obtain⟨B',t',e1,r1,m1⟩:=G.go (c:=Bs) nn ⟨rfl,zp,lp⟩ (own:=s.n) nw h1
   rw[h1]at e1
   cases e1
   exact⟨B',r1.2.1,fun x hx=>m1 x (hx.mo (by lia)),m1 _ nw⟩
  ·obtain⟨w,rfl⟩:∃w,ρ= .name w:=Classical.byContradiction fun n=>nn fun w e=>n ⟨w,e⟩
   obtain⟨h0,r,s1,hh,hm,rfl⟩:=qr h1
   obtain⟨k,rfl,_⟩:=f9 hk
   have hh:ho k=some h0:=hh
   have fe:frF ho wh k=if h0.1="def"/\h0.2≠wh then some h0.2 else none:=by
    unfold frF
    rw[show((k:Int)).toNat=k from rfl,hh]
   by_cases e2:h0.1="def"/\h0.2≠wh
   ·have e1:h0.1≠"let":=by rw[e2.1];decide+kernel
    have e3:¬inF roots k h0.2=true:=fun e=>e2.2 (by rw[(V.inn _ _ hh e2.1).mp e,hd])
    unfold ia at hm
    rw[fN e1,fY e2.1,fN e3]at hm
    obtain⟨q',t',hq⟩:=hc _ _ hh e2.1
    have ec:cbF ρs roots ho F h0.2=t'.D:=by unfold cbF;rw[hq]
    obtain⟨c1,c2,c3,c4⟩:=AI N V (by lia) hm hq
    rw[<-ec]at c1 c2 c3
    rw[fY e2]at fe
    obtain⟨b,i1,m1⟩:=z.cp fe c2 c3 c1
    rw[c4]
    exact⟨Bs++[b],i1,fun x hx=>m1 x (hx.mo (by lia)),m1 _ (z.new (by lia))⟩
   ·rw[fN e2]at fe
    have zp:=z.pt fe
    have lp:Lv vi df Bs k (s.pt k):=⟨fun k v a b=>(zl.h k v a b).mo (by lia),fun v a=>(zl.t v a).mo (by lia)⟩
    have nw:=z.new (n:=(s.pt k).n) (by lia)
    have key:∃B',Iv (frF ho wh) (cbF ρs roots ho F) B' s1/\(∀x,Kw Bs (s.pt k).n x->Kw B' s1.n x)/\Kw B' s1.n r:=by
     unfold ia at hm
     by_cases e1:h0.1="let"
     ·rw[fY e1]at hm
      have dl:=(N.lt _ _ hh e1).2.2
      exact IH _ _ _ _ Bs (by rw[dl];exact hd) zp ⟨fun x v hx=>lp.h x v (V.lt _ _ _ hh e1 hx),by rw[dl];exact lp.t⟩ hm
     rw[fN e1]at hm
     by_cases e3:h0.1="def"
     ·have e4:h0.2=wh:=Classical.byContradiction fun n=>e2 ⟨e3,n⟩
      have e5:inF roots k h0.2=true:=(V.inn _ _ hh e3).mpr (by rw[e4,hd])
      rw[fY e3,fY e5]at hm
      obtain⟨v,hv,e6⟩:=cB.mp hm
      cases e6
      exact⟨Bs,zp,fun _ x=>x,lp.t _ (by rw[<-(V.inn _ _ hh e3).mp e5];exact hv)⟩
     ·rw[fN e3]at hm
      obtain⟨v,hv,e6⟩:=cB.mp hm
      cases e6
      exact⟨Bs,zp,fun _ x=>x,lp.h _ _ (V.held _ _ hh e1 e3) hv⟩
    obtain⟨B',i1,m1,k1⟩:=key
    exact⟨B',i1.fl k1 (m1 _ nw),fun x hx=>m1 x (hx.mo (by lia)),m1 _ nw⟩
theorem EU (N:Nt en df ρs roots ho) (V:Vs vi en df ρs roots ho) {F:Nat} {wh q:Int} {s':Ls} (hn:∀p ρ,atZ ρs p=some ρ->(∀w,ρ≠ .name w)->ho p.toNat=none) (hc:∀(k:Nat) h,ho k=some h->h.1="def"->∃q t',qv (iE ρs roots ho F) roots h.2 s00=some (q,t')) (h:qv (iE ρs roots ho F) roots wh s00=some (q,s')):∃Bs,Iv (frF ho wh) (cbF ρs roots ho F) Bs s':=by
 obtain⟨r0,q0,s2,hd,h2,rfl,rfl⟩:=jS h
 have n1:(s00.pt r0).n=1:=se _ _
 have z0:s00.n=0:=rfl
 have k0:Kw [] (s00.pt r0).n s00.n:=⟨by lia,by lia,fun b hb=>by cases hb⟩
 have i0:Iv (frF ho wh) (cbF ρs roots ho F) [] ((s00.pt r0).begin wh s00.n):=by
  refine⟨⟨(by intro m hm;cases hm),(by intro m hm;cases hm),(by intro m hm;cases hm)⟩,(by show 1<=(s00.pt r0).n;lia),(by intro b hb;cases hb),fun k pl d l _ h3 _=>?_,(by intro b hb;cases hb)⟩
  obtain⟨i,rfl,hi⟩:=f9 h3
  have:i<1:=(aq.mp hi).1
  lia
 obtain⟨Bs,i,m,k⟩:=BF N V hn hc F (r0:Int) q0 ((s00.pt r0).begin wh s00.n) s2 [] (cb _) (V.dr _ _ hd) i0 ⟨fun k v hk=>absurd hk (V.root _ _ _ hd),fun v hv=>by
  rw[V.dr _ _ hd]at hv
  have hv:put s00.st wh s00.n wh=some v:=hv
  rw[show put s00.st wh s00.n wh=some s00.n from fY rfl]at hv
  cases hv
  exact k0⟩ h2
 exact⟨Bs,i.fl k (m _ k0)⟩
end
def szB (D:Bd) (n:Nat):Prop:=Y4 (D.pts.length<=n) (D.mks.length<=n) (D.uss.length<=n) (D.fls.length<=n)
theorem kq {H:Hp} (n:Int):Im H (.int n) (.flat (.int n)):= .flat rfl
theorem vX {H:Hp} (s:Str):Im H (.str s) (.flat (.str s)):= .flat rfl
theorem ji {α:Type} {l:List α} {i:Nat} {a:α} (h:l[i]?=some a):l.take (i+ 1)=l.take i++[a]:=by
 rw[List.take_add_one,h]
 rfl
def bdW (D:Bd):Dt:= .lst [.lst (D.pts.map fun i=> .flat (.int i)),.lst (D.mks.map Mkg.d),.lst (D.uss.map Us.d),.lst (D.fls.map flD)]
inductive Tw (H:Hp) (v:V) (D:Bd):Prop
 |mk (b p0 p1 p2 p3:Addr) (mv uv fv:List V) (e:v= .ref b) (hb:H b=some (.lst [.ref p0,.ref p1,.ref p2,.ref p3])) (h0:H p0=some (.lst (D.pts.map V.int))) (h1:H p1=some (.lst mv)) (i1:Ims H mv (D.mks.map Mkg.d)) (h2:H p2=some (.lst uv)) (i2:Ims H uv (D.uss.map Us.d)) (h3:H p3=some (.lst fv)) (i3:Ims H fv (D.fls.map flD))
theorem Tw.same {H H':Hp} {v:V} {D:Bd} (S:fC H H'):Tw H v D->Tw H' v D
 |⟨b,p0,p1,p2,p3,mv,uv,fv,e,hb,h0,h1,i1,h2,i2,h3,i3⟩=>⟨b,p0,p1,p2,p3,mv,uv,fv,e,S _ _ hb,S _ _ h0,S _ _ h1,i1.mono (fC.tk S),S _ _ h2,i2.mono (fC.tk S),S _ _ h3,i3.mono (fC.tk S)⟩
theorem Tw.da {H:Hp} {v:V} {D:Bd}:Tw H v D->Dta H v (bdW D)
 |⟨b,p0,p1,p2,p3,mv,uv,fv,e,hb,h0,h1,i1,h2,i2,h3,i3⟩=>by
  rw[e]
  exact .lst hb (.cons (.lst h0 (tu _ _)) (.cons (.lst h1 i1.das) (.cons (.lst h2 i2.das) (.cons (.lst h3 i3.das) .nil))))
theorem Tw.dk {H:Hp} {v:V} {D:Bd} {a:Addr} {kvs o:List (Key×V)} (e:H a=some (.dK kvs)):Tw H v D->Tw (L2.Internal.upd H a (.dK o)) v D
 |⟨b,p0,p1,p2,p3,mv,uv,fv,ev,hb,h0,h1,i1,h2,i2,h3,i3⟩=>by
  have ne:∀{b:Addr} {u:HO},H b=some u->(∀l,u≠ .dK l)->(L2.Internal.upd H a (.dK o)) b=some u:=fun q n=>by rw[eT (jm q e (n _))];exact q
  have k:TK H (L2.Internal.upd H a (.dK o)):=fun b xs q=>ne q (fun _ z=>nomatch z)
  exact⟨b,p0,p1,p2,p3,mv,uv,fv,ev,ne hb (fun _ z=>nomatch z),ne h0 (fun _ z=>nomatch z),ne h1 (fun _ z=>nomatch z),i1.mono k,ne h2 (fun _ z=>nomatch z),i2.mono k,ne h3 (fun _ z=>nomatch z),i3.mono k⟩
structure Gd (D:Bd):Prop where
 m:∀m∈D.mks,jb m.f<=2/\okD m.f
 u:∀u∈D.uss,u.ok
 z:szB D 900
theorem Gd.of {c:Cs} {H:Hp} {A:Ad} {r:V} {D:Bd} (B:Bw c H A r D) (h:szB D 900):Gd D:=by
 obtain⟨b,e0,⟨mv,e1,h1⟩,⟨uv,e2,h2⟩,⟨fv,e3,h3⟩,nd⟩:=B
 exact⟨fun m hm=>let⟨x,_,_,_,_,_,_,d,o⟩:=h1.right m hm;⟨d,o⟩,fun u hu=>let⟨x,q⟩:=h2.right u hu;q.ok,h⟩
theorem Gd.good {D:Bd} (h:Gd D):jb (bdW D)<=6/\okD (bdW D):=by
 obtain⟨m1,m2,a0,a1,a2,a3⟩:=h
 have d0:fV (D.pts.map fun i=>Dt.flat (.int i))<=3:=gP fun x _=>cc _
 have d1:fV (D.mks.map Mkg.d)<=3:=gP fun m hm=>by
  have:=(m1 m hm).1
  simp[Mkg.d,jb,fV]
  lia
 have d2:fV (D.uss.map Us.d)<=3:=gP fun u _=>u.dep
 have d3:fV (D.fls.map flD)<=3:=gP fun p _=>by simp[flD,jb,fV]
 refine⟨?_,(by show 4<=100000;decide),⟨by rw[aB];lia,g9 fun _ _=>trivial⟩,⟨by rw[aB];lia,g9 fun m hm=>⟨by show 4<=100000;decide,trivial,(m1 m hm).2,trivial,trivial,trivial⟩⟩,⟨by rw[aB];lia,g9 fun u hu=>Us.okd (m2 u hu)⟩,⟨by rw[aB];lia,g9 fun p _=>⟨by show 2<=100000;decide,trivial,trivial,trivial⟩⟩,trivial⟩
 simp only[bdW,jb,fV]
 lia
mutual
theorem zB (g:Int->Int):∀d:Dt,jb (rnD g d)=jb d
 | .flat v=>by rw[rnD];rfl
 | .tup l=>by rw[rnD];show fV (kn g l)+ 1=fV l+ 1;rw[vY]
 | .lst l=>by rw[rnD]
theorem vY (g:Int->Int):∀l:List Dt,fV (kn g l)=fV l
 |[]=>by rw[kn]
 |d::l=>by rw[kn];show max (jb (rnD g d)) (fV (kn g l))=max (jb d) (fV l);rw[zB,vY]
end
theorem sJ (g:Int->Int):∀l:List Dt,(kn g l).length=l.length
 |[]=>by rw[kn]
 |d::l=>by rw[kn,ay,sJ,ay]
mutual
theorem BG (g:Int->Int):∀d:Dt,okD d->okD (rnD g d)
 | .flat v,_=>by rw[rnD];trivial
 | .tup l,h=>by rw[rnD];exact⟨by rw[sJ];exact h.1,zC g l h.2⟩
 | .lst l,h=>by rw[rnD];exact h
theorem zC (g:Int->Int):∀l:List Dt,tq l->tq (kn g l)
 |[],_=>by rw[kn];trivial
 |d::l,h=>by rw[kn];exact⟨BG g d h.1,zC g l h.2⟩
end
theorem Gd.rn {D:Bd} (h:Gd D) (g:Int->Int):Gd (rnB g D):=by
 obtain⟨m1,m2,a0,a1,a2,a3⟩:=h
 refine⟨fun m hm=>?_,fun u hu=>?_,a0,by show(D.mks.map _).length<=_;rw[aB];exact a1,by show(D.uss.map _).length<=_;rw[aB];exact a2,by show(D.fls.map _).length<=_;rw[aB];exact a3⟩
 ·obtain⟨y,hy,rfl⟩:=bb.mp hm
  exact⟨by show jb (rnD g y.f)<=2;rw[zB];exact(m1 y hy).1,BG g _ (m1 y hy).2⟩
 ·obtain⟨y,hy,rfl⟩:=bb.mp hu
  have:=m2 y hy
  cases y<;>first|trivial|(show(bh _ _).length<=10;rw[aB];exact this)
def De (c:Cs):Sp:=fun vs H Q _=>X4 fun(A:Ad) (r:V) (D:Bd) (n:Nat)=>Y5 (vs=[.ref A.b]) (Bw c H A r D) (szB D n) (n<=900) (∀v H',fC H H'->Tw H' v D->Q v H')
theorem uf (T:Txt K mg):FO P w base 2 T.d46 (De (cs T)):=by
 have gE52:=tN (P:=P) (w:=w) (base:=base) T
 have gE54:=qI (P:=P) (w:=w) (base:=base) T
 have gE56:=qe (P:=P) (w:=w) (base:=base) T
 have gE58:=qg (P:=P) (w:=w) (base:=base) T
 have gE60:=qj (P:=P) (w:=w) (base:=base) T
 have gE62:=qK (P:=P) (w:=w) (base:=base) T
 refine T.d46.F.rd lN fun cdv A0 outer s H vs Q E hr h=>?_
 obtain⟨A,r,D,n,rfl,B,sm,hn,q⟩:=h
 refine⟨_,(eQ (jj (j:=1) rfl (DT (x:="_law_one") rfl fS fS rfl rfl) (iA (fj T.c8.cl T.n8makes (cv 0))) (fun _ _ _ _ _=>iB) (fun _ _ _ _ _=>(e8 (lT (PE.mono (cv 0)) T.c1.cl T.e52.me gE52 hr.m T.e52.b .nil fH))) lN.nd rfl (.inl rfl))
  (eQ (jj (j:=2) rfl (DT (x:="_law_one") rfl fS fS rfl rfl) (iA (fj T.c8.cl T.n8uses (cv 0))) (fun _ _ _ _ _=>iB) (fun _ _ _ _ _=>(PE.or (e8 (lT (PE.mono (cv 0)) T.c3.cl T.e54.me gE54 hr.m T.e54.b .nil fH)) (PE.or (e8 (lT (PE.mono (cv 0)) T.c4.cl T.e56.me gE56 hr.m T.e56.b .nil fH)) (PE.or (e8 (lT (PE.mono (cv 0)) T.c5.cl T.e58.me gE58 hr.m T.e58.b .nil fH)) (PE.or (e8 (lT (PE.mono (cv 0)) T.c6.cl T.e60.me gE60 hr.m T.e60.b .nil fH)) (e8 (lT (PE.mono (cv 0)) T.c7.cl T.e62.me gE62 hr.m T.e62.b .nil fH))))))) lN.nd rfl (.inl rfl))
  (eV (fu (fG (eN (gf iG rfl T.z_list jU (eN (fj T.c8.cl T.n8points (cv 0)) eP)) (eN (cv 1) (eN (cv 2) (eN (gf iG rfl T.z_list jU (eN (fj T.c8.cl T.n8flows (cv 0)) eP)) eP))))))))),?_⟩
 have sl:=sizeLine_eq
 obtain⟨mv,em,am⟩:=B.e1
 obtain⟨uv,eu,au⟩:=B.e2
 have lm:=am.length
 have lu:=au.length
 have s1:=sm.2
 have s2:=sm.3
 refine⟨_,⟨_,_,B.b,vB _ _ _ _ _⟩,A.p1,rfl,⟨_,SqL.of em⟩,fun d hd=>?_⟩
 refine kl mv.length (by lia) (fun xs H=>Ims H xs ((D.mks.take xs.length).map Mkg.d)) (fun xs H H' h k=>h.mono k) hd rfl (fun k H S hk=>oG em S hk) (fun H S=>oH em S) .nil ?_ ?_
 ·rintro k H2 v H3 xs Z S2 hk ⟨rfl,hv⟩ I2 hl z
  obtain⟨m,hm,x,dx,f,rfl,ex,hf,_⟩:=am.get (hv _ (SqL.of (S2 _ _ em)))
  have ex2:=S2 _ _ ex
  refine⟨⟨_,_,ex2,wO _ _ _ _⟩,x,dx,_,_,_,_,rfl,ex2,fun t ht=>z _ _ (eS ht _) ?_⟩
  show Ims _ (xs++[V.ref t]) ((D.mks.take (xs++[V.ref t]).length).map Mkg.d)
  rw[aN,aU,ji (by rw[hl];exact hm),bC]
  exact(Ims.mono (fC.tk (eS ht _)) I2).app (.cons (yq ht (.cons (vX _) (.cons (hf.mono (fC.tk S2)) (.cons (kq _) (.cons (kq _) .nil))))) .nil)
 rintro H2 xs S2 I2 hl eD
 have I2':Ims H2 xs ((D.mks.take xs.length).map Mkg.d):=I2
 rw[hl,lm,bE]at I2'
 have B2:=B.same S2
 have eu2:=S2 _ _ eu
 refine⟨_,⟨_,_,B2.b,yH _ _ _ _ _⟩,A.p2,rfl,⟨_,SqL.of eu2⟩,fun d2 hd2=>?_⟩
 refine kl uv.length (by lia) (fun xs H=>Ims H xs ((D.uss.take xs.length).map Us.d)) (fun xs H H' h k=>h.mono k) hd2 rfl (fun k H S hk=>oG eu2 S hk) (fun H S=>oH eu2 S) .nil ?_ ?_
 ·rintro k H3 v H4 ys Z S3 hk ⟨rfl,hv⟩ I3 hl3 z
  obtain⟨u,hu,ua⟩:=au.get (hv _ (SqL.of (S3 _ _ eu2)))
  have S:=S2.trans S3
  have fin:∀{t:Addr} {ts:List V} {ds:List Dt},H4 t=none->Ims H4 ts ds->Us.d u= .tup ds->Z (.ref t) (L2.Internal.upd H4 t (.tup ts)):=fun{t ts ds} ht i e=>z _ _ (eS ht _) (by
   show Ims _ (ys++[V.ref t]) ((D.uss.take (ys++[V.ref t]).length).map Us.d)
   rw[aN,aU,ji (by rw[hl3];exact hu),bC]
   refine(Ims.mono (fC.tk (eS ht _)) I3).app (.cons ?_ .nil)
   rw[e]
   exact yq ht i)
  have h4:∀(s:Str) (a p sl:Int),Ims H4 [.str s,.int a,.int p,.int sl] (hdD s a p sl):=fun s a p sl=> .cons (vX _) (.cons (kq _) (.cons (kq _) (.cons (kq _) .nil)))
  cases u with
  |num a p sl=>
   obtain⟨x,dx,rfl,ex⟩:=ua
   have ex2:=S _ _ ex
   exact .inl ⟨⟨_,_,ex2,wN _ _ _⟩,x,dx,_,_,_,rfl,ex2,fun t ht=>fin ht (h4 "num" a p sl) rfl⟩
  |call a p sl y1 y2=>
   obtain⟨x,dx,rfl,ex⟩:=ua
   have ex2:=S _ _ ex
   exact .inr (.inl ⟨⟨_,_,ex2,uG _ _ _ _ _⟩,x,dx,_,_,_,_,_,rfl,ex2,fun t ht=>fin ht ((h4 "call" a p sl).app (.cons (kq y1) (.cons (kq y2) .nil))) rfl⟩)
  |take a p sl l=>
   obtain⟨x,dx,f,rfl,ex,hf,_⟩:=ua
   have ex2:=S _ _ ex
   exact .inr (.inr (.inl ⟨⟨_,_,ex2,tJ _ _ _ _⟩,x,dx,_,_,_,_,rfl,ex2,fun t ht=>fin ht ((h4 "take" a p sl).app (.cons (hf.mono (fC.tk S)) .nil)) rfl⟩))
  |case a p sl l=>
   obtain⟨x,dx,f,rfl,ex,hf,_⟩:=ua
   have ex2:=S _ _ ex
   exact .inr (.inr (.inr (.inl ⟨⟨_,_,ex2,tK _ _ _ _⟩,x,dx,_,_,_,_,rfl,ex2,fun t ht=>fin ht ((h4 "case" a p sl).app (.cons (hf.mono (fC.tk S)) .nil)) rfl⟩)))
  |row a p sl y1=>
   obtain⟨x,dx,rfl,ex⟩:=ua
   have ex2:=S _ _ ex
   exact .inr (.inr (.inr (.inr ⟨⟨_,_,ex2,tL _ _ _ _⟩,x,dx,_,_,_,_,rfl,ex2,fun t ht=>fin ht ((h4 "row" a p sl).app (.cons (kq y1) .nil)) rfl⟩)))
 rintro H3 ys S3 I3 hl3 eD2
 have I3':Ims H3 ys ((D.uss.take ys.length).map Us.d):=I3
 rw[hl3,lu,bE]at I3'
 have S:=S2.trans S3
 have B3:=B.same S
 refine⟨_,⟨_,_,B3.b,qb _ _ _ _ _⟩,A.p0,_,rfl,.inl (SqL.of B3.e0),fun l0 h0=>?_⟩
 have S4:=eS h0 (.lst (D.pts.map V.int))
 obtain⟨fv,ef,jf⟩:=B3.e3
 refine⟨_,⟨_,_,S4 _ _ B3.b,vC _ _ _ _ _⟩,A.p3,_,rfl,.inl (SqL.of (S4 _ _ ef)),fun l3 h3=>⟨xn,fun l hl=>?_⟩⟩
 have S5:=eS h3 (.lst fv)
 have S6:=eS hl (.lst [.ref l0,.ref d,.ref d2,.ref l3])
 have S46:=S4.trans (S5.trans S6)
 refine q _ _ (S.trans S46) ?_
 exact⟨l,l0,d,d2,l3,_,_,_,rfl,eO,(S5.trans S6) _ _ eO,(S3.trans S46) _ _ eD,I2'.mono (fC.tk (S3.trans S46)),S46 _ _ eD2,I3'.mono (fC.tk S46),S6 _ _ eO,jf.mono (fC.tk S46)⟩
def mv (b:Int):Int->Int:=fun x=>x+b
theorem vZ (g:Int->Int):∀l m:List Dt,kn g (l++m)=kn g l++kn g m
 |[],m=>by rw[kn];rfl
 |d::l,m=>by rw[aR,kn,vZ,kn];rfl
theorem sL (g:Int->Int) (d:Dt):kn g [d]=[rnD g d]:=by rw[kn,kn]
def v5:Nat->Sp
 |0=>fun _ _ _ _=>False
 |n+ 1=>fun vs H Q _=>X3 fun(x:V) (d:Dt) (b:Int)=>Y5 (vs=[x,.int b]) (Im H x d) (jb d<=n) (okD d) (∀y H',fC H H'->Im H' y (rnD (mv b) d)->Q y H')
theorem nG (T:Txt K mg):∀n,FO P w base (n+ 1) T.d47 (v5 n)
 |0=>T.d47.F.ok ng (fun vs H Q E h=>h.elim) (fun cdv A outer s H vs Q E hr h=>h.elim)
 |n+ 1=>by
  have gD47:=nG (P:=P) (w:=w) (base:=base) T n
  refine T.d47.F.rd ng fun cdv A outer s H vs Q E hr h=>?_
  obtain⟨x,d,b,rfl,hx,hd,ho,q⟩:=h
  refine⟨_,(eQ (gB (m7 (fJ jQ rfl T.z_isinstance f6 (eN (cv 0) (eN (kW rfl T.z_tuple ir) eP))))
   (eV (fu (gf gh rfl T.z_tuple ir (eN (rN rfl (vA (x:="_law_part") ["_law_by"] [("_law_by",1,s.heap.objs.size+ 1)]) (vj (cv 0)) (fun _ _ _ _ _=>iB) (fun _ _ _ _ _=>(pF T.d47 gD47 (hr.mono (by lia)) (eN (cv 0) (eN (cv 1) eP))))) eP))))
   fF)
  (eQ (gB (m7 (fJ jQ rfl T.z_isinstance f6 (eN (cv 0) (eN (kW rfl T.z_int yb) eP))))
   (eV (fu (fq gF (cv 0) (cv 1))))
   fF)
  (eV (fu (cv 0))))),?_⟩
  have sl:=sizeLine_eq
  cases hx with
  |flat h=>
   cases x with
   |non=>
    refine⟨_,_,_,_,false,rfl,fun _ r=>r,.non,rfl,_,rfl,jo ?_⟩
    refine⟨_,_,_,_,false,rfl,fun _ r=>r,.non,rfl,_,rfl,jo ?_⟩
    exact q _ _ (fun _ _ e=>e) (.flat rfl)
   |int i=>
    refine⟨_,_,_,_,false,rfl,fun _ r=>r,.int i,rfl,_,rfl,jo ?_⟩
    refine⟨_,_,_,_,true,rfl,fun _ r=>r,.int i,rfl,_,rfl,jL ?_⟩
    exact q _ _ (fun _ _ e=>e) (.flat rfl)
   |str z=>
    refine⟨_,_,_,_,false,rfl,fun _ r=>r,.str z,rfl,_,rfl,jo ?_⟩
    refine⟨_,_,_,_,false,rfl,fun _ r=>r,.str z,rfl,_,rfl,jo ?_⟩
    exact q _ _ (fun _ _ e=>e) (.flat rfl)
   |bl b=>cases h
   |byt b=>cases h
   |flt b=>cases h
   |ref a=>cases h
   |ty n=>cases h
  |@tup a xs ds ha hxs=>
   have lx:=hxs.length
   have dd:fV ds+ 1<=n:=hd
   cases n with
   |zero=>lia
   |succ m=>
   refine⟨_,_,_,_,true,rfl,fun _ r=>r,.tup ha,rfl,_,rfl,jL ?_⟩
   refine⟨a,rfl,⟨_,SqT.of ha⟩,fun D hD=>?_⟩
   refine kl xs.length (by have:=ho.1;lia) (fun zs H=>Ims H zs (kn (mv b) (ds.take zs.length))) (fun _ _ _ h k=>h.mono k) hD rfl (fun k H S hk=>DY ha S hk) (fun H S=>DZ ha S) .nil ?_ ?_
   ·rintro k H2 v H3 zs Z S2 hk ⟨rfl,hv⟩ I2 hl z
    obtain⟨d1,f1,g1⟩:=Ims.atK hxs (hv _ (SqT.of (S2 _ _ ha)))
    have dp:=BO.Internal.depDs_get f1
    refine⟨v,d1,b,rfl,g1.mono (fC.tk S2),by lia,pd ho.2 f1,fun y H5 S5 i5=>z y H5 S5 ?_⟩
    show Ims H5 (zs++[y]) (kn (mv b) (ds.take (zs++[y]).length))
    rw[aN,aU,ji (by rw[hl];exact f1),vZ,sL]
    exact(Ims.mono (fC.tk S5) I2).app (.cons i5 .nil)
   ·intro H2 zs S2 I2 hl eD
    have I2:Ims H2 zs (kn (mv b) (ds.take zs.length)):=I2
    rw[hl,lx,bE]at I2
    refine⟨D,_,rfl,.inl ⟨SqL.of eD,fun t ht=>?_⟩⟩
    exact q _ _ (S2.trans (eS ht _)) (ip ht I2)
theorem GK {X:Cx} {K:PySem.W.Frag} (h:X.K=K):SlR X (G8 K):=h▸Ce
theorem EV {X:Cx} {K:PySem.W.Frag} (h:X.K=K):OpR X (binaryOp .Add) (z8 K):=h▸rS
theorem BH {H:Hp} {v:V} {m:Mkg} (h:Im H v (Mkg.d m)):∃t f,v= .ref t/\H t=some (.tup [.str m.s,f,.int m.a,.int m.p])/\Im H f m.f:=by
 cases h with
 |tup h hs=>
  cases hs with
  |cons a hs=>cases hs with
   |cons b hs=>cases hs with
    |cons c hs=>cases hs with
     |cons d hs=>
      cases hs
      cases a;cases c;cases d
      exact⟨_,_,rfl,h,b⟩
def uT:Us->Str×Int×Int×List Dt
 | .num _ p s=>("num",p,s,[])
 | .call _ p s x y=>("call",p,s,[kD x,kD y])
 | .take _ p s l=>("take",p,s,[prD l])
 | .case _ p s l=>("case",p,s,[prD l])
 | .row _ p s x=>("row",p,s,[kD x])
theorem GL (u:Us):u.d= .tup (hdD (uT u).1 (uA u) (uT u).2.1 (uT u).2.2.1++(uT u).2.2.2):=by cases u<;>rfl
theorem GN (g:Int->Int) (u:Us):uT (rnU g u)=((uT u).1,(uT u).2.1,(uT u).2.2.1,kn g (uT u).2.2.2):=by
 cases u with
 |take a p s l=>show(_,_,_,[prD (rnP g l)])=_;rw[<-yW,<-sL];rfl
 |case a p s l=>show(_,_,_,[prD (rnP g l)])=_;rw[<-yW,<-sL];rfl
 |num=>show(_,_,_,[])=_;rfl
 |call=>show(_,_,_,[kD _,kD _])=_;rfl
 |row=>show(_,_,_,[kD _])=_;rfl
theorem BI {H:Hp} {v:V} {u:Us} (h:Im H v (Us.d u)):∃t ys,v= .ref t/\H t=some (.tup (.str (uT u).1:: .int (uA u):: .int (uT u).2.1:: .int (uT u).2.2.1::ys))/\Ims H ys (uT u).2.2.2:=by
 rw[GL]at h
 cases h with
 |tup h hs=>
  cases hs with
  |cons a hs=>cases hs with
   |cons b hs=>cases hs with
    |cons c hs=>cases hs with
     |cons d hs=>
      cases a;cases b;cases c;cases d
      exact⟨_,_,rfl,h,hs⟩
theorem BJ {H:Hp} {v:V} {x:Int×Int} (h:Im H v (flD x)):∃t,v= .ref t/\H t=some (.tup [.int x.1,.int x.2]):=by
 cases h with
 |tup h hs=>
  cases hs with
  |cons a hs=>cases hs with
   |cons b hs=>
    cases hs
    cases a;cases b
    exact⟨_,rfl,h⟩
theorem GO {u:Us} (h:u.ok):fV (uT u).2.2.2<=2/\tq (uT u).2.2.2/\(uT u).2.2.2.length<=2:=by
 have ok:=Us.okd h
 have dp:=u.dep
 rw[GL]at ok dp
 refine⟨?_,?_,?_⟩
 ·have:fV (hdD (uT u).1 (uA u) (uT u).2.1 (uT u).2.2.1++(uT u).2.2.2)+ 1<=3:=dp
  simp only[hdD,aR,bG,fV,jb]at this
  lia
 ·exact ok.2.2.2.2.2
 ·cases u<;>simp[uT]
theorem EW (a b c d:V) (ys:List V):qA (a::b::c::d::ys) (some 4) none=ys:=by
 unfold qA
 have h1:HT.Internal.sIx (a::b::c::d::ys).length 0 (some 4)=4:=by
  simp[HT.Internal.sIx]
 have h2:HT.Internal.sIx (a::b::c::d::ys).length (a::b::c::d::ys).length none=ys.length+ 4:=by
  simp[HT.Internal.sIx]
 rw[h1,h2]
 simp
theorem GP (g:Int->Int) (x:Int×Int):rnD g (flD x)=flD (rnF g x):=rfl
def xk:Sp:=fun vs H Q _=>X3 fun(x:V) (D:Bd) (b:Int)=>Y4 (vs=[x,.int b]) (Tw H x D) (Gd D) (∀y H',fC H H'->Tw H' y (rnB (mv b) D)->Q y H')
theorem qt (T:Txt K mg):FO P w base 10 T.d48 xk:=by
 have gD47:=nG (P:=P) (w:=w) (base:=base) T 8
 refine T.d48.F.rd jG fun cdv A0 outer s H vs Q E hr h=>?_
 obtain⟨x,D,b,rfl,⟨a,p0,p1,p2,p3,mv',uv,fv,rfl,hb,h0,h1,i1,h2,i2,h3,i3⟩,gd,q⟩:=h
 refine⟨_,(eQ (jj (j:=2) rfl (vA (x:="_law_one") ["_law_by"] [("_law_by",1,s.heap.objs.size+ 1)]) (iA (eZ fc (cv 0) eR)) (fun _ _ _ _ _=>iB) (fun _ _ _ _ _=>(fz (eN (eZ fh (cv 0) eR) (eN (pF T.d47 gD47 (hr.mono (by lia)) (eN (eZ fh (cv 0) eR) (eN (cv 1) eP))) (eN (fq gF (eZ fh (cv 0) eR) (cv 1)) (eN (eZ fh (cv 0) eR) eP)))))) jG.nd rfl (.inl rfl))
  (eQ (jj (j:=3) rfl (vA (x:="_law_one") ["_law_by"] [("_law_by",1,s.heap.objs.size+ 1)]) (iA (eZ fc (cv 0) eR)) (fun _ _ _ _ _=>iB) (fun _ _ _ _ _=>(fq (EV (K:=K) rfl) (fz (eN (eZ fh (cv 0) eR) (eN (fq gF (eZ fh (cv 0) eR) (cv 1)) (eN (eZ fh (cv 0) eR) (eN (eZ fh (cv 0) eR) eP))))) (pF T.d47 gD47 (hr.mono (by lia)) (eN (kz (GK (K:=K) rfl) (cv 0) (k9 eR) nM) (eN (cv 1) eP))))) jG.nd rfl (.inl rfl))
  (eV (fu (fG (eN (eZ fc (cv 0) eR) (eN (cv 2) (eN (cv 3) (eN (rN rfl (vA (x:="_law_one") ["_law_by"] [("_law_by",1,s.heap.objs.size+ 1)]) (iA (eZ fc (cv 0) eR)) (fun _ _ _ _ _=>iB) (fun _ _ _ _ _=>(pF T.d47 gD47 (hr.mono (by lia)) (eN (cv 0) (eN (cv 1) eP))))) eP))))))))),?_⟩
 have sl:=sizeLine_eq
 obtain⟨gm,gu,z0,z1,z2,z3⟩:=gd
 have l1:=i1.length
 have l2:=i2.length
 have l3:=i3.length
 rw[aB]at l1 l2 l3
 refine⟨_,hb,eX (eU (j:=1) rfl) ⟨p1,rfl,⟨_,SqL.of h1⟩,fun d1 hd1=>?_⟩⟩
 refine kl mv'.length (by lia) (fun zs H=>Ims H zs (((D.mks.take zs.length).map (rnM (mv b))).map Mkg.d)) (fun _ _ _ h k=>h.mono k) hd1 rfl (fun k H S hk=>oG h1 S hk) (fun H S=>oH h1 S) .nil ?_ ?_
 ·rintro k H2 v H3 zs Z S2 hk ⟨rfl,hv⟩ I2 hl z
  obtain⟨dm,e1,j1⟩:=Ims.atK i1 (hv _ (SqL.of (S2 _ _ h1)))
  rw[aJ]at e1
  obtain⟨m,hm,rfl⟩:=cB.mp e1
  have mm:=gm m (aM hm)
  obtain⟨t,f,rfl,et,jf⟩:=BH (j1.mono (fC.tk S2))
  refine⟨_,et,eX (eU (j:=0) rfl) ⟨_,et,eX (eU (j:=1) rfl) ⟨f,m.f,b,rfl,jf,b0 mm.1 (by decide),mm.2,fun y H4 S4 j4=>?_⟩⟩⟩
  have et4:=S4 _ _ et
  refine⟨_,et4,eX (eU (j:=2) rfl) ⟨_,et4,eX (eU (j:=3) rfl) ⟨xn,fun t2 ht2=>z _ _ (S4.trans (eS ht2 _)) ?_⟩⟩⟩
  show Ims _ (zs++[V.ref t2]) (((D.mks.take (zs++[V.ref t2]).length).map (rnM (mv b))).map Mkg.d)
  rw[aN,aU,ji (by rw[hl];exact hm),bC,bC]
  exact(Ims.mono (fC.tk (S4.trans (eS ht2 _))) I2).app (.cons (ip ht2 (.cons (vX _) (.cons j4 (.cons (kq _) (.cons (kq _) .nil))))) .nil)
 rintro H2 zs S2 I2 hl eD
 have I2:Ims H2 zs (((D.mks.take zs.length).map (rnM (mv b))).map Mkg.d):=I2
 rw[hl,l1,bE]at I2
 have h22:=S2 _ _ h2
 refine⟨_,S2 _ _ hb,eX (eU (j:=2) rfl) ⟨p2,rfl,⟨_,SqL.of h22⟩,fun d2 hd2=>?_⟩⟩
 refine kl uv.length (by lia) (fun zs H=>Ims H zs (((D.uss.take zs.length).map (rnU (mv b))).map Us.d)) (fun _ _ _ h k=>h.mono k) hd2 rfl (fun k H S hk=>oG h22 S hk) (fun H S=>oH h22 S) .nil ?_ ?_
 ·rintro k H3 v H4 ys Z S3 hk ⟨rfl,hv⟩ I3 hl3 z
  have S23:=S2.trans S3
  obtain⟨dm,e1,j1⟩:=Ims.atK i2 (hv _ (SqL.of (S23 _ _ h2)))
  rw[aJ]at e1
  obtain⟨u,hm,rfl⟩:=cB.mp e1
  obtain⟨o1,o2,o3⟩:=GO (gu u (aM hm))
  obtain⟨t,es,rfl,et,jf⟩:=BI (j1.mono (fC.tk S23))
  have le:=jf.length
  refine⟨_,et,eX (eU (j:=0) rfl) ⟨_,et,eX (eU (j:=1) rfl) ⟨_,et,eX (eU (j:=2) rfl) ⟨_,et,eX (eU (j:=3) rfl) ⟨xn,fun t2 ht2=>?_⟩⟩⟩⟩⟩
  have S4:=eS ht2 (.tup [.str (uT u).1,.int (uA u+b),.int (uT u).2.1,.int (uT u).2.2.1])
  have key:∀p H5,fC H4 H5->H5 t2=some (.tup [.str (uT u).1,.int (uA u+b),.int (uT u).2.1,.int (uT u).2.2.1])->H5 p=some (.tup es)->v5 8 [.ref p,.int b] H5 (fun y H6=>z8 K (.ref t2) y H6 Z) E0:=by
   intro p H5 S5 e2 ep
   refine⟨_,.tup (uT u).2.2.2,b,rfl,.tup ep (jf.mono (fC.tk S5)),by show fV _+ 1<=7;lia,⟨by lia,o2⟩,fun y H6 S6 j6=>?_⟩
   rw[rnD]at j6
   cases j6 with
   |@tup c ws _ ec jc=>
    have lc:=jc.length
    rw[sJ]at lc
    refine ph (S6 _ _ e2) ec (by show 4+ws.length<=_;lia) fun t3 H7 S7 e7=>z _ _ (S5.trans (S6.trans S7)) ?_
    show Ims _ (ys++[V.ref t3]) (((D.uss.take (ys++[V.ref t3]).length).map (rnU (mv b))).map Us.d)
    rw[aN,aU,ji (by rw[hl3];exact hm),bC,bC]
    refine(Ims.mono (fC.tk (S5.trans (S6.trans S7))) I3).app (.cons ?_ .nil)
    rw[GL,GN,AJ]
    exact .tup e7 (Ims.app (.cons (vX _) (.cons (kq _) (.cons (kq _) (.cons (kq _) .nil)))) (jc.mono (fC.tk S7)))
  refine⟨_,rfl,t,_,rfl,SqT.of (S4 _ _ et),fun hc=>?_,fun p hp=>?_⟩
  ·rw[EW]at hc
   exact absurd (congrArg List.length hc) (by simp only[ay];lia)
  ·rw[EW]
   exact key p _ (S4.trans (eS hp _)) (eS hp _ _ _ eO) eO
 rintro H3 ys S3 I3 hl3 eD2
 have I3:Ims H3 ys (((D.uss.take ys.length).map (rnU (mv b))).map Us.d):=I3
 rw[hl3,l2,bE]at I3
 have S23:=S2.trans S3
 have h33:=S23 _ _ h3
 refine⟨_,S23 _ _ hb,eX (eU (j:=0) rfl) ⟨_,S23 _ _ hb,eX (eU (j:=3) rfl) ⟨p3,rfl,⟨_,SqL.of h33⟩,fun d3 hd3=>?_⟩⟩⟩
 refine kl fv.length (by lia) (fun zs H=>Ims H zs (((D.fls.take zs.length).map (rnF (mv b))).map flD)) (fun _ _ _ h k=>h.mono k) hd3 rfl (fun k H S hk=>oG h33 S hk) (fun H S=>oH h33 S) .nil ?_ ?_
 ·rintro k H4 v H5 ws Z S4 hk ⟨rfl,hv⟩ I4 hl4 z
  have S24:=S23.trans S4
  obtain⟨dm,e1,j1⟩:=Ims.atK i3 (hv _ (SqL.of (S24 _ _ h3)))
  rw[aJ]at e1
  obtain⟨x,hm,rfl⟩:=cB.mp e1
  refine⟨v,flD x,b,rfl,j1.mono (fC.tk S24),by simp[flD,jb,fV],⟨by show 2<=100000;decide,trivial,trivial,trivial⟩,fun y H6 S6 j6=>z _ _ S6 ?_⟩
  show Ims _ (ws++[y]) (((D.fls.take (ws++[y]).length).map (rnF (mv b))).map flD)
  rw[aN,aU,ji (by rw[hl4];exact hm),bC,bC]
  rw[GP]at j6
  exact(Ims.mono (fC.tk S6) I4).app (.cons j6 .nil)
 rintro H4 ws S4 I4 hl4 eD3
 have I4:Ims H4 ws (((D.fls.take ws.length).map (rnF (mv b))).map flD):=I4
 rw[hl4,l3,bE]at I4
 refine⟨xn,fun l hl=>q _ _ ((S23.trans S4).trans (eS hl _)) ?_⟩
 have S5:=eS hl (.lst [.ref p0,.ref d1,.ref d2,.ref d3])
 exact⟨l,p0,d1,d2,d3,zs,ys,ws,rfl,eO,((S23.trans S4).trans S5) _ _ h0,(S3.trans (S4.trans S5)) _ _ eD,I2.mono (fC.tk (S3.trans (S4.trans S5))),(S4.trans S5) _ _ eD2,I3.mono (fC.tk (S4.trans S5)),S5 _ _ eD3,I4.mono (fC.tk S5)⟩
theorem v7 {K:PySem.W.Frag} {a D:Addr} {i:Nat} {tt:TT} {te:TE} {Q:VK} {τ:St} {H1:Hp} {α:Type} (f:α->Dt) (P:α->Bool) {l:List α} {xs:List V} (hx:H1 a=some (.lst xs)) (ix:Ims H1 xs (l.map f)) (hn:l.length<=900) (hD:H1 D=none) (hτ:τ.set i none=τ) (htt:∀v m H (R:Bool->Hp->Prop),Im H v (f m)->R (P m) H->tt (τ.set i (some v)) H R) (hte:∀v H (R:VK),R v H->te (τ.set i (some v)) H R) (hq:∀H' zs,fC H1 H'->H' D=some (.lst zs)->Ims H' zs ((l.filter P).map f)->Q (.ref D) H'):LcP (Itl K a) i tt te Q τ H1 D:=by
 have sl:=sizeLine_eq
 have lx:=ix.length
 rw[aB]at lx
 have sm:∀o,fC H1 (L2.Internal.upd H1 D o):=fun o=>eS hD o
 refine⟨fun k m σ' H2=>Y4 (m=xs.length-k) (k<=xs.length) ((∃o,σ'=τ.set i o)) (∃zs,Y3 (H2=L2.Internal.upd H1 D (.lst zs)) (zs.length<=k) (Ims H1 zs (((l.take k).filter P).map f))),⟨xs.length,by simp,cc _,⟨none,hτ.symm⟩,[],rfl,cb _,.nil⟩,?_⟩
 rintro k m σ' H2 ⟨rfl,hk,⟨o,rfl⟩,zs,rfl,lz,iz⟩
 by_cases hlt:k<xs.length
 ·refine .inr ⟨oG hx (sm _) hlt,fun v H3 y=>?_⟩
  obtain⟨rfl,hv⟩:=y
  have hv:=hv _ (SqL.of (sm _ _ _ hx))
  rw[bB]
  obtain⟨d,e1,j1⟩:=Ims.atK ix hv
  rw[aJ]at e1
  obtain⟨m,hm,rfl⟩:=cB.mp e1
  refine htt v m _ _ (j1.mono (fC.tk (sm _))) ?_
  have tk:(l.take (k+ 1)).filter P=(l.take k).filter P++(if P m then[m]else[]):=by
   rw[ji hm,bW]
   cases hp:P m<;>simp[hp]
  cases hp:P m with
  |true=>
   rw[fY rfl]
   refine hte v _ _ ⟨zs,eO,by lia,xs.length-(k+ 1),by lia,rfl,hlt,⟨some v,rfl⟩,zs++[v],gb,by rw[aN,aU];lia,?_⟩
   rw[tk,hp,fY rfl,bC]
   exact iz.app (.cons j1 .nil)
  |false=>
   rw[fN dQ]
   refine⟨xs.length-(k+ 1),by lia,rfl,hlt,⟨some v,rfl⟩,zs,rfl,by lia,?_⟩
   rw[tk,hp,fN dQ,aC]
   exact iz
 ·have e:k=l.length:=by lia
  rw[e,bE]at iz
  rw[show k=xs.length by lia]
  exact .inl ⟨oH hx (sm _),hq _ zs (sm _) eO (iz.mono (fC.tk (sm _)))⟩
theorem chT {t:Addr} {xs:List V} {k x lo hi:Int} {H:Hp} {Q:VK} (et:H t=some (.tup xs)) (ha:atI xs k=some (.int x)) (q:Q (.bl (inb lo hi x)) H):xF (cI0 fun i j=>V.bl (decide (i<=j))) (cI0 fun i j=>V.bl (decide (i<j))) (cV 1) (tOp A4 (cV 0) (tC (V.int k))) (cV 2) [some (.ref t),some (.int lo),some (.int hi)] H Q:=by
 refine⟨xs,et,eX ha ⟨_,rfl,?_⟩⟩
 unfold inb at q
 cases h:decide (lo<=x)with
 |false=>rw[h]at q;exact q
 |true=>rw[h]at q;exact q
theorem AK (l1 l l2:List Int) {lo hi:Int} (h1:(l1.length:Int)=lo) (h2:hi=lo+l.length):qA ((l1++(l++l2)).map V.int) (some lo) (some hi)=l.map V.int:=by
 subst h1 h2
 unfold qA
 have e1:HT.Internal.sIx ((l1++(l++l2)).map V.int).length 0 (some (l1.length:Int))=l1.length:=by
  simp[HT.Internal.sIx]
  lia
 have e2:HT.Internal.sIx ((l1++(l++l2)).map V.int).length ((l1++(l++l2)).map V.int).length (some ((l1.length:Int)+l.length))=l1.length+l.length:=by
  simp[HT.Internal.sIx]
  split<;>lia
 rw[e1,e2,bC,List.drop_append_of_le_length (by rw[aB];exact cb _),List.drop_eq_nil_of_le (by rw[aB];exact cb _),bG,bC,Nat.add_sub_cancel_left,bV (by rw[aB];exact cb _),bO (by rw[aB];exact cb _)]
def wiB (D:Bd) (pts:List Int) (lo hi:Int):Bd:=⟨pts,D.mks.filter (fun m=>inb lo hi m.a),D.uss.filter (fun u=>inb lo hi (uA u)),D.fls.filter (fun x=>inb lo hi x.1&&inb lo hi x.2),0⟩
def zD:Sp:=fun vs H Q _=>X7 fun(x:V) (D:Bd) (lo hi:Int) (l1 l l2:List Int)=>Y7 (vs=[x,.int lo,.int hi]) (Tw H x D) (szB D 900) (D.pts=l1++(l++l2)) ((l1.length:Int)=lo) (hi=lo+l.length) (∀y H',fC H H'->Tw H' y (wiB D l lo hi)->Q y H')
theorem qR (T:Txt K mg):FO P w base 1 T.d49 zD:=by
 refine T.d49.F.rd jl fun cdv A0 outer s H vs Q E hr h=>?_
 obtain⟨x,D,lo,hi,k1,k,k2,rfl,⟨a,p0,p1,p2,p3,mv',uv,fv,rfl,hb,h0,h1,i1,h2,i2,h3,i3⟩,⟨z0,z1,z2,z3⟩,ep,e1,e2,q⟩:=h
 refine⟨_,(eQ (jj (j:=3) rfl (vA (x:="_law_one") ["_law_low","_law_high"] [("_law_low",1,s.heap.objs.size+ 1),("_law_high",2,s.heap.objs.size+ 2)]) (iA (eZ fc (cv 0) eR)) (fun _ _ _ _ _=>(rM (oZ uD lA (cv 1) (eZ fh (cv 0) eR) (cv 2)))) (fun _ _ _ _ _=>(cv 0)) jl.nd rfl (.inl rfl))
  (eQ (jj (j:=4) rfl (vA (x:="_law_one") ["_law_low","_law_high"] [("_law_low",1,s.heap.objs.size+ 1),("_law_high",2,s.heap.objs.size+ 2)]) (iA (eZ fc (cv 0) eR)) (fun _ _ _ _ _=>(rM (oZ uD lA (cv 1) (eZ fh (cv 0) eR) (cv 2)))) (fun _ _ _ _ _=>(cv 0)) jl.nd rfl (.inl rfl))
  (eQ (jj (j:=5) rfl (vA (x:="_law_one") ["_law_low","_law_high"] [("_law_low",1,s.heap.objs.size+ 1),("_law_high",2,s.heap.objs.size+ 2)]) (iA (eZ fc (cv 0) eR)) (fun _ _ _ _ _=>(rM (PW.pt (oE (oZ uD lA (cv 1) (eZ fh (cv 0) eR) (cv 2)) (nJ (oZ uD lA (cv 1) (eZ fh (cv 0) eR) (cv 2))))))) (fun _ _ _ _ _=>(cv 0)) jl.nd rfl (.inl rfl))
  (eV (fu (fG (eN (kz rL (eZ fc (cv 0) eR) (k9 (cv 1)) (k9 (cv 2))) (eN (cv 3) (eN (cv 4) (eN (cv 5) eP)))))))))),?_⟩
 refine⟨_,hb,eX (eU (j:=1) rfl) ⟨p1,rfl,⟨_,SqL.of h1⟩,fun d1 hd1=>?_⟩⟩
 refine v7 Mkg.d (fun m=>inb lo hi m.a) h1 i1 z1 hd1 rfl ?_ (fun v H R r=>r) ?_
 ·intro v m H2 R j r
  obtain⟨t,f,rfl,et,jf⟩:=BH j
  exact chT (lo:=lo) (hi:=hi) et (eU (j:=2) rfl) ⟨_,rfl,r⟩
 intro H2 zs S2 eD I2
 have h22:=S2 _ _ h2
 refine⟨_,S2 _ _ hb,eX (eU (j:=2) rfl) ⟨p2,rfl,⟨_,SqL.of h22⟩,fun d2 hd2=>?_⟩⟩
 refine v7 Us.d (fun u=>inb lo hi (uA u)) h22 (i2.mono (fC.tk S2)) z2 hd2 rfl ?_ (fun v H R r=>r) ?_
 ·intro v u H3 R j r
  obtain⟨t,ys,rfl,et,jf⟩:=BI j
  exact chT (lo:=lo) (hi:=hi) et (eU (j:=1) rfl) ⟨_,rfl,r⟩
 intro H3 ys S3 eD2 I3
 have S23:=S2.trans S3
 have h33:=S23 _ _ h3
 refine⟨_,S23 _ _ hb,eX (eU (j:=3) rfl) ⟨p3,rfl,⟨_,SqL.of h33⟩,fun d3 hd3=>?_⟩⟩
 refine v7 flD (fun x=>inb lo hi x.1&&inb lo hi x.2) h33 (i3.mono (fC.tk S23)) z3 hd3 rfl ?_ (fun v H R r=>r) ?_
 ·intro v x H4 R j r
  obtain⟨t,rfl,et⟩:=BJ j
  refine chT (lo:=lo) (hi:=hi) (x:=x.1) et (eU (j:=0) rfl) ⟨_,rfl,?_⟩
  cases e:inb lo hi x.1 with
  |false=>rw[e]at r;exact r
  |true=>
   rw[e,Bool.true_and]at r
   exact chT (lo:=lo) (hi:=hi) (x:=x.2) et (eU (j:=1) rfl) ⟨_,rfl,r⟩
 intro H4 ws S4 eD3 I4
 have S24:=S23.trans S4
 refine⟨_,S24 _ _ hb,eX (eU (j:=0) rfl) ⟨_,rfl,_,rfl,p0,_,rfl,SqL.of (S24 _ _ h0),fun d0 hd0=>?_⟩⟩
 have S5:=eS hd0 (.lst (qA (D.pts.map V.int) (some lo) (some hi)))
 refine⟨xn,fun l hl=>q _ _ (S24.trans (S5.trans (eS hl _))) ?_⟩
 have S6:=eS hl (.lst [.ref d0,.ref d1,.ref d2,.ref d3])
 have S56:=S5.trans S6
 exact⟨l,d0,d1,d2,d3,zs,ys,ws,rfl,eO,S6 _ _ (by rw[eO,ep,AK k1 k k2 e1 e2];rfl),(S3.trans (S4.trans S56)) _ _ eD,I2.mono (fC.tk (S3.trans (S4.trans S56))),(S4.trans S56) _ _ eD2,I3.mono (fC.tk (S4.trans S56)),S56 _ _ eD3,I4.mono (fC.tk S56)⟩
def u5:Sp:=fun vs H Q _=>X4 fun(x:V) (D:Bd) (lo hi:Int)=>Y4 (vs=[x,.int lo,.int hi]) (Tw H x D) (szB D 900) (∀y H',fC H H'->Dta H' y (.lst ((D.fls.filter (fun x=>inb lo hi x.1 !=inb lo hi x.2)).map flD))->Q y H')
theorem oX (T:Txt K mg):FO P w base 1 T.d50 u5:=by
 refine T.d50.F.rd oS fun cdv A0 outer s H vs Q E hr h=>?_
 obtain⟨x,D,lo,hi,rfl,⟨a,p0,p1,p2,p3,mv',uv,fv,rfl,hb,h0,h1,i1,h2,i2,h3,i3⟩,⟨z0,z1,z2,z3⟩,q⟩:=h
 refine⟨_,(eV (fu (rN rfl (vA (x:="_law_one") ["_law_low","_law_high"] [("_law_low",1,s.heap.objs.size+ 1),("_law_high",2,s.heap.objs.size+ 2)]) (iA (eZ fc (cv 0) eR)) (fun _ _ _ _ _=>(rM (pA BQ (vm uD lA (cv 1) (eZ fh (cv 0) eR) (cv 2)) (vm uD lA (cv 1) (eZ fh (cv 0) eR) (cv 2))))) (fun _ _ _ _ _=>(cv 0))))),?_⟩
 refine⟨_,hb,eX (eU (j:=3) rfl) ⟨p3,rfl,⟨_,SqL.of h3⟩,fun d1 hd1=>?_⟩⟩
 refine v7 flD (fun x=>inb lo hi x.1 !=inb lo hi x.2) h3 i3 z3 hd1 rfl ?_ (fun v H R r=>r) ?_
 ·intro v x H2 R j r
  obtain⟨t,rfl,et⟩:=BJ j
  refine chT (lo:=lo) (hi:=hi) (x:=x.1) et (eU (j:=0) rfl) (chT (lo:=lo) (hi:=hi) (x:=x.2) et (eU (j:=1) rfl) ⟨rfl,_,rfl,?_⟩)
  have e:(!decide (V.bl (inb lo hi x.1)=V.bl (inb lo hi x.2)))=(inb lo hi x.1 !=inb lo hi x.2):=by
   cases inb lo hi x.1<;>cases inb lo hi x.2<;>decide
  rw[e]
  exact r
 intro H2 zs S2 eD I2
 exact q _ _ S2 (.lst eD I2.das)
open TM.Internal (Kn Tr gv szs)
theorem pj {f:Str} {v:V}:∀{fs:List (Str×V)} (ns:List Str),fs.map Prod.fst=ns->f∉ns->iZ f v fs=fs++[(f,v)]
 |[],_,_,_=>rfl
 |p::t,_,rfl,h=>by
  rw[aA,aj,not_or]at h
  have:¬p.1=f:=fun z=>h.1 z.symm
  simp only[iZ,fN this,aR]
  rw[pj _ rfl h.2]
def mX (C:Addr):Sp:=fun vs H Q _=>∃(x dx n r w:Addr),vs=[.ref x,.ref n,.ref r,.ref w]/\H x=some (.ins C dx [])/\Q .non (L2.Internal.upd H x (.ins C dx (fP n r w)))
theorem mY (T:Txt K mg):MO P w base mg 1 T.e72 (mX T.c10.a):=by
 refine T.e72.F.rd mP fun cdv A outer s H vs Q E hr h=>?_
 obtain⟨x,dx,n,r,w,rfl,hx,q⟩:=h
 refine⟨_,(eQ (kA T.c10.cl T.n10names (gE (PE.mono (cv 0)) (PE.mono (cv 1)) rfl))
  (eQ (kA T.c10.cl T.n10roots (gE (PE.mono (cv 0)) (PE.mono (cv 2)) rfl))
  (eV (kA T.c10.cl T.n10rows (gE (PE.mono (cv 0)) (PE.mono (cv 3)) rfl))))),?_⟩
 refine⟨dx,_,hx,(by show 0<1000;decide),dx,_,eO,(by show 1<1000;decide),dx,_,eO,?_,?_⟩
 ·rw[pj (f:=("roots":Str)) ["names"] rfl fS];show 2<1000;decide
 ·rw[gb,gb,pj (f:=("roots":Str)) ["names"] rfl fS,pj (f:=("rows":Str)) ["names","roots"] rfl fS]
  exact q
theorem EX {κ:Kn} {n:Nat} {N:Str->Prop} {ps:List Nat} (ok:okK κ n N) (hp:ps.length=n):(roK κ ps).few:=by
 cases κ with
 |rcd l=>
  obtain⟨h1,h2⟩:n=l.length/\l.length<=10:=ok
  show(bh _ (l.zip ps)).length<=10
  rw[aB,bN]
  lia
 |case l=>
  cases ps with
  |nil=>trivial
  |cons p ps=>
   obtain⟨h1,h2⟩:n=l.length+ 1/\l.length<=10:=ok
   show(bh _ (l.zip ps)).length<=10
   rw[aB,bN]
   lia
 |row m=>
  obtain⟨h1,h2⟩:n=m/\m<=1000:=ok
  show(bh _ ps).length<=1000
  rw[aB]
  lia
 |lt w=>
  cases ps with
  |nil=>trivial
  |cons p ps=>cases ps<;>trivial
 |num=>trivial
 |name=>trivial
 |op=>trivial
 |_=>cases ps<;>trivial
section
variable {G:List Pc} {roots:List Nat} {q:Nat}
theorem FtD.few (F:FtD G roots 0 0 q) (hq:q=G.length) (k:Nat) (ρ:Ro) (h:(G.map Pc.ρ)[k]?=some ρ):ρ.few:=by
 rw[aJ]at h
 obtain⟨c,hc,rfl⟩:=cB.mp h
 obtain⟨f,_⟩:=F.at hq hc
 obtain⟨⟨κ,ks⟩,pl,_,_,ok⟩:=f.t
 have p1:=pl.1
 rw[hc]at p1
 rw[cx.inj p1]
 exact EX ok.1 (TM.Internal.offs_len _ _)
theorem FtD.dom (F:FtD G roots 0 0 q) (hq:q=G.length) (k:Nat) (h:Hm) (e:hoG G k=some h) (hd:h.1="def"):∃d:Nat,h.2=(d:Int)/\d<roots.length:=by
 obtain⟨c,x,gc,hx,rfl,s,l,⟨r,hr,_⟩,_⟩:=F.en hq e
 rcases s with⟨z,_⟩|⟨_,j,ej,lj,_⟩|⟨z,_⟩
 ·exact absurd hd (ltn z).1
 ·exact⟨j,ej,by have:=(aq.mp hr).1;lia⟩
 ·rcases z with z|z
  ·exact absurd z (dfn hd).2.1
  ·exact absurd z (dfn hd).2.2
theorem EY {ts:List Tr} (er:roots=gv ts 0) (F:FtD G roots 0 0 q) (hq:q=G.length) {d r:Nat} {c:Pc} (hd:roots[d]?=some r) (hc:G[r]?=some c) (hw:c.wt<=50):∃s',qv (iE (G.map Pc.ρ) roots (hoG G) 50) roots (d:Int) s00=some (0,s')/\nS s'<=600:=by
 have hz:atZ roots (d:Int)=some r:=hd
 obtain⟨_,c',gc,ec,nb⟩:=F.r d r (cc _) hd
 rw[hc]at gc
 cases gc
 obtain⟨u,s1,h1,n1,_⟩:=Bn er F hq 50 r c ((s00.pt r).begin d s00.n) hc hw ⟨fun b hb=>absurd hb (nb b),s00.n,by rw[ec];exact fY rfl⟩
 refine⟨s1.fl u 0,?_,?_⟩
 ·unfold qv
  rw[hz]
  dsimp only
  rw[h1]
  rfl
 ·rw[uR]
  have n1:nS s1+ 2<=nS ((s00.pt r).begin d s00.n)+ 10*c.wt:=n1
  rw[Er,oA]at n1
  have e0:nS s00=0:=rfl
  lia
end
theorem GQ {G:List Pc} (p:Int) (ρ:Ro) (h:atZ (G.map Pc.ρ) p=some ρ) (nn:∀w,ρ≠ .name w):hoG G p.toNat=none:=by
 obtain⟨k,rfl,h'⟩:=f9 h
 rw[aJ]at h'
 obtain⟨c,hc,rfl⟩:=cB.mp h'
 show(G[k]?).bind hoC=none
 rw[hc]
 show hoC c=none
 unfold hoC
 split
 ·rename_i w hw;exact absurd hw (nn w)
 ·rfl
theorem Df {κ:Kn} {n:Nat} {N:Str->Prop} {ps:List Nat} (ok:okK κ n N) (hp:ps.length=n):jb (roK κ ps).d<=3/\okD (roK κ ps).d:=by
 have k1:∀l:List Int,fV (l.map kD)<=0/\tq (l.map kD):=fun l=>⟨gP fun _ _=>cb _,g9 fun _ _=>trivial⟩
 cases κ with
 |rcd l=>
  obtain⟨h1,h2⟩:n=l.length/\l.length<=10:=ok
  have a:fV (((l.zip ps).map fun q=>(q.1,(q.2:Int))).map fdD)<=1:=gP fun _ _=>by simp[fdD,sD,kD,jb,fV]
  have b:tq (((l.zip ps).map fun q=>(q.1,(q.2:Int))).map fdD):=g9 fun _ _=>⟨by show 2<=100000;decide,trivial,trivial,trivial⟩
  refine⟨?_,by show 2<=100000;decide,trivial,⟨by rw[aB,aB,bN];lia,b⟩,trivial⟩
  show max 0 (max (fV (((l.zip ps).map fun q=>(q.1,(q.2:Int))).map fdD)+ 1) 0)+ 1<=3
  lia
 |case l=>
  cases ps with
  |nil=>exact⟨by simp[roK,Ro.d,Ro.s,Ro.r,sD,kD,jb,fV],by show 2<=100000;decide,trivial,trivial,trivial⟩
  |cons p ps=>
   obtain⟨h1,h2⟩:n=l.length+ 1/\l.length<=10:=ok
   have a:fV (((l.zip ps).map fun q=>(q.1.1,q.1.2,(q.2:Int))).map amD)<=1:=gP fun _ _=>by simp[amD,sD,kD,jb,fV]
   have b:tq (((l.zip ps).map fun q=>(q.1.1,q.1.2,(q.2:Int))).map amD):=g9 fun _ _=>⟨by show 3<=100000;decide,trivial,trivial,trivial,trivial⟩
   refine⟨?_,by show 3<=100000;decide,trivial,trivial,⟨by rw[aB,aB,bN];lia,b⟩,trivial⟩
   show max 0 (max 0 (max (fV (((l.zip ps).map fun q=>(q.1.1,q.1.2,(q.2:Int))).map amD)+ 1) 0))+ 1<=3
   lia
 |row m=>
  obtain⟨h1,h2⟩:n=m/\m<=1000:=ok
  obtain⟨a,b⟩:=k1 (ps.map fun p:Nat=>(p:Int))
  refine⟨?_,by show 2<=100000;decide,trivial,⟨by rw[aB,aB];lia,b⟩,trivial⟩
  show max 0 (max (fV ((ps.map fun p:Nat=>(p:Int)).map kD)+ 1) 0)+ 1<=3
  lia
 |op s m=>
  obtain⟨h1,h2⟩:n=m/\(s,m)∈TM.Internal.ops:=ok
  have h3:m<=3:=by
   have:∀x∈TM.Internal.ops,x.2<=3:=fS
   exact this _ h2
  obtain⟨a,b⟩:=k1 (ps.map fun p:Nat=>(p:Int))
  refine⟨?_,by show((ps.map fun p:Nat=>(p:Int)).map kD).length+ 1<=100000;rw[aB,aB];lia,trivial,b⟩
  show max 0 (fV ((ps.map fun p:Nat=>(p:Int)).map kD))+ 1<=3
  lia
 |num=>exact⟨by simp[roK,Ro.d,Ro.s,Ro.r,sD,kD,jb,fV],by show 2<=100000;decide,trivial,trivial,trivial⟩
 |name=>exact⟨by simp[roK,Ro.d,Ro.s,Ro.r,sD,kD,jb,fV],by show 2<=100000;decide,trivial,trivial,trivial⟩
 |lt w=>
  rcases ps with _|⟨p,_|⟨p',ps⟩⟩
  ·exact⟨by simp[roK,Ro.d,Ro.s,Ro.r,sD,kD,jb,fV],by show 2<=100000;decide,trivial,trivial,trivial⟩
  ·exact⟨by simp[roK,Ro.d,Ro.s,Ro.r,sD,kD,jb,fV],by show 2<=100000;decide,trivial,trivial,trivial⟩
  ·exact⟨by simp[roK,Ro.d,Ro.s,Ro.r,sD,kD,jb,fV],by show 4<=100000;decide,trivial,trivial,trivial,trivial,trivial⟩
 |_=>
  cases ps with
  |nil=>exact⟨by simp[roK,Ro.d,Ro.s,Ro.r,sD,kD,jb,fV],by show 2<=100000;decide,trivial,trivial,trivial⟩
  |cons p ps=>exact⟨by simp[roK,Ro.d,Ro.s,Ro.r,sD,kD,jb,fV],by show 3<=100000;decide,trivial,trivial,trivial,trivial⟩
theorem FtD.good {G:List Pc} {roots:List Nat} {q:Nat} (F:FtD G roots 0 0 q) (hq:q=G.length) (k:Nat) (ρ:Ro) (h:(G.map Pc.ρ)[k]?=some ρ):jb ρ.d<=3/\okD ρ.d:=by
 rw[aJ]at h
 obtain⟨c,hc,rfl⟩:=cB.mp h
 obtain⟨f,_⟩:=F.at hq hc
 obtain⟨⟨κ,ks⟩,pl,_,_,ok⟩:=f.t
 have p1:=pl.1
 rw[hc]at p1
 rw[cx.inj p1]
 exact Df ok.1 (TM.Internal.offs_len _ _)
open TM.Internal (Kn Tr gv szs)
theorem EZ {H:Hp} {xs:List V} {G:List Pc} (h:Ims H xs (G.map rD)):Ims H xs ((G.map Pc.ρ).map Ro.d):=by
 rw[bg]
 exact h
theorem E1 {H:Hp} {hs:List V} {G:List Pc} (h:Ims H hs (G.map hD')) (k:Nat) (ρ:Ro) (e:(G.map Pc.ρ)[k]?=some ρ):∃y,hs[k]?=some y/\Im H y (hoD (hoG G k)):=by
 rw[aJ]at e
 obtain⟨c,hc,rfl⟩:=cB.mp e
 obtain⟨x,hx,ix⟩:=tY h (show(G.map hD')[k]?=some (hD' c) by rw[aJ,hc];rfl)
 refine⟨x,hx,?_⟩
 have:hoG G k=hoC c:=by unfold hoG;rw[hc];rfl
 rw[this]
 exact ix
theorem v8:gM [V.non] [Value.none]:= .cons (show gR V.non Value.none from rfl) .nil
theorem ug (ns:List Int) (lo hi:Option Int):∃ms:List Int,qA (ns.map V.int) lo hi=ms.map V.int/\ms.length<=ns.length:=by
 unfold qA
 rw[<-List.map_drop,<-List.map_take]
 refine⟨_,rfl,?_⟩
 rw[aG,aT]
 lia
theorem zE {c:TT} {tb u:TS} {D:nH} {σ:St} {H:Hp} (N:St->Hp->Prop) (k:∀σ' H',N σ' H'->u D σ' H') (w:∀Nx:St->Hp->Prop,(∀σ' H',N σ' H'->Nx σ' H')->vg c tb {D with nx:=Nx} σ H):xl (vg c tb) u D σ H:=w _ k
theorem Dg {t u:TS} {D:nH} {σ:St} {H:Hp} (N:St->Hp->Prop) (h:∀nx:St->Hp->Prop,(∀σ' H',N σ' H'->nx σ' H')->t {D with nx:=nx} σ H) (k:∀σ' H',N σ' H'->u D σ' H'):xl t u D σ H:=h _ k
def Dcp (Cb:Int->Bd) (H:Hp) (cd:Addr) (n:Nat):Prop:=∃kvs:List (Key×V),Y3 (H cd=some (.dK kvs)) (kvs.length<=n) (∀(d:Int) v,kr kvs (Sum.inl d)=some v->Tw H v (Cb d)/\Gd (Cb d))
theorem Dcp.mo {Cb:Int->Bd} {H:Hp} {cd:Addr} {n m:Nat} (l:n<=m):Dcp Cb H cd n->Dcp Cb H cd m
 |⟨kvs,e,l',h⟩=>⟨kvs,e,by lia,h⟩
theorem zF (c:Pc):jb (hD' c)<=1/\okD (hD' c):=by
 unfold hD' hoD
 split
 ·exact⟨cc _,trivial⟩
 ·exact⟨by simp[hmD,jb,fV],by show 2<=100000;decide,trivial,trivial,trivial⟩
theorem E2 {σ:St} {k:Int} {u:TS} {D:nH} {H:Hp} (h:σ[9]?=some (some (.int k))) (g:u D (σ.set 9 (some (.int (k+ 1)))) H):xl (xx (tOp (cI0 fun i j=>V.int (i+j)) (cV 9) (tC (V.int 1))) (fK 9)) u D σ H:=by
 show onV σ[9]? _
 rw[h]
 exact g
def fgn (wh:Int):Option Hm->Bool
 |some h=>decide (h.1="def")&&!decide (h.2=wh)
 |none=>false
theorem AL {σ:St} {y:V} {o:Option Hm} {wh:Int} {H:Hp} {R:Bool->Hp->Prop} (h10:σ[10]?=some (some y)) (h4:σ[4]?=some (some (.int wh))) (iy:Im H y (hoD o)) (r:R (fgn wh o) H):Dv (tB (Ds (cV 10))) (Dv (cT (tOp (cEq false) (tOp A4 (cV 10) (tC (V.int 0))) (tC (V.str "def")))) (cT (tOp (cEq true) (tOp A4 (cV 10) (tC (V.int 1))) (cV 4)))) σ H R:=by
 cases o with
 |none=>
  cases iy
  show onV σ[10]? _
  rw[h10]
  show ∃c,V.bl (!decide (V.non=V.non))= .bl c/\_
  rw[gQ rfl]
  exact⟨_,rfl,jo r⟩
 |some h=>
  cases iy with
  |@tup t ys _ et iy=>
  cases iy with
  |cons i1 iy=>cases iy with
   |cons i2 iy=>
   cases iy
   cases i1;cases i2
   show onV σ[10]? _
   rw[h10]
   show ∃c,V.bl (!decide (V.ref t=V.non))= .bl c/\_
   rw[gA (fun z=>nomatch z)]
   refine⟨_,rfl,jL ?_⟩
   show onV σ[10]? _
   rw[h10]
   refine⟨_,et,eX (eU (j:=0) rfl) ?_⟩
   show if xor false (decide (h.1="def"))=true then _ else _
   rw[dW]
   unfold fgn at r
   dsimp only at r
   cases e:decide (h.1="def")with
   |false=>rw[e]at r;exact jo r
   |true=>
    rw[e,Bool.true_and]at r
    refine jL ?_
    show onV σ[10]? _
    rw[h10]
    refine⟨_,et,eX (eU (j:=1) rfl) ?_⟩
    show onV σ[4]? _
    rw[h4]
    show R (xor true (decide (h.2=wh))) H
    rw[dX]
    exact r
theorem Dh {f:Addr} {fd:FuncData} (T:Txt K mg) (W:Lk P w T) (F:Fun K "law" "law" rY f fd):qu P w K mg base CX0 300 f fd ["_law_script"] (vz K):=by
 have gD27:=sA (P:=P) (w:=w) (base:=base) T
 have gD45:=sx (P:=P) (w:=w) (base:=base) T
 have gD40:=qq (P:=P) (w:=w) (base:=base) T
 have gE72:=mY (P:=P) (w:=w) (base:=base) T
 have gY7:=CD (P:=P) (w:=w) (base:=base) T W 50
 have gD46:=uf (P:=P) (w:=w) (base:=base) T
 have gD49:=qR (P:=P) (w:=w) (base:=base) T
 have gD50:=oX (P:=P) (w:=w) (base:=base) T
 have gD48:=qt (P:=P) (w:=w) (base:=base) T
 have gD28:=nF (P:=P) (w:=w) (base:=base) T 8
 refine F.rd jH fun cdv A0 outer s H vs Q E hr h=>?_
 obtain⟨a,ns,rfl,ha,ln,q⟩:=h
 have hu:=wC hr
 refine⟨_,(eQ (pS (i:=1) jH.nd (fq hX (fJ (yk rfl) rfl T.z_sum DS (eN (kz rL (cv 0) nM (k9 eR)) eP)) (fq yp eR eR)))
  (eQ (pS (i:=2) jH.nd (pF T.d27 gD27 hr.m (eN (cv 1) eP)))
  (eQ (pS (i:=3) jH.nd (pF T.d45 gD45 hr.m (eN (cv 2) (eN (pF T.d40 gD40 hr.m (eN (cv 2) (eN (kz rL (cv 0) (k9 eR) nM) eP))) eP))))
  (eQ (pS (i:=4) jH.nd (fJ (sO rfl) rfl T.z_max yj (eN eR (eN (fq pL (fq pL (fJ fR rfl T.z_len ja (eN (eZ fc (cv 3) eR) eP)) eR) (fq hX (fq jB (cv 1) eR) eR)) eP))))
  (eQ (pS (i:=5) jH.nd (je T.mk10 gE72 hr.m rfl T.c10.m T.e72.b .nil fH (eN (gf iG rfl T.z_list jU (eN (eZ fc (cv 3) eR) eP)) (eN (gf iG rfl T.z_list jU (eN (eZ fc (cv 3) eR) eP)) (eN (gf iG rfl T.z_list jU (eN (eZ fc (cv 3) eR) eP)) eP)))))
  (eQ (pS (i:=6) jH.nd (gf iG rfl T.z_list jU (eN (eZ fc (cv 3) eR) eP)))
  (eQ (pS (i:=7) jH.nd (pF T.d46 gD46 hr.m (eN (uu gY7 hr.m rfl T.y7.m T.y7.k T.y7.b v8 fH (eN (cv 5) (eN (cv 6) (eN (cv 4) eP)))) eP)))
  (eQ (pS (i:=8) jH.nd rJ)
  (eQ (pS (i:=9) jH.nd eR)
  (eQ (zK PassesOwn.never (fA lA (cv 9) (fJ fR rfl T.z_len ja (eN (eZ fc (cv 7) eR) eP)))
   (eQ (pS (i:=10) jH.nd (eZ fc (eZ fc (cv 3) eR) (eZ fc (eZ fc (cv 7) eR) (cv 9))))
   (eQ (pS (i:=9) jH.nd (fq gF (cv 9) eR))
   (eV (gB (PW.pt (oE (vc (BN (cv 10))) (oE (fA jv (eZ fh (cv 10) eR) fD) (nJ (fA D4 (eZ fh (cv 10) eR) (cv 4))))))
    (eQ (gB (vc (xS hu (eZ fh (cv 10) eR) (cv 8)) rfl)
     (eV (rH hu (cv 8) (eZ fh (cv 10) eR) (pF T.d46 gD46 hr.m (eN (uu gY7 hr.m rfl T.y7.m T.y7.k T.y7.b v8 fH (eN (cv 5) (eN (cv 6) (eN (eZ fh (cv 10) eR) eP)))) eP)) rfl))
     fF)
    (eQ (pS (i:=11) jH.nd (uz hu (cv 8) (eZ fh (cv 10) eR)))
    (eQ (pS (i:=12) jH.nd (fq gF (cv 9) (fJ fR rfl T.z_len ja (eN (eZ fc (cv 11) eR) eP))))
    (eQ (gB (xw (m7 (pF T.d28 gD28 hr.m (eN (pF T.d49 gD49 hr.m (eN (cv 7) (eN (cv 9) (eN (cv 12) eP)))) (eN (pF T.d48 gD48 hr.m (eN (cv 11) (eN (cv 9) eP))) eP)))))
     (eV (fu wb))
     fF)
    (eQ (gB (xw (m7 (pF T.d28 gD28 hr.m (eN (pF T.d50 gD50 hr.m (eN (cv 7) (eN (cv 9) (eN (cv 12) eP)))) (eN (fG (eN (fz (eN (cv 9) (eN (fq pL (cv 9) eR) eP))) eP)) eP)))))
     (eV (fu wb))
     fF)
    (eV (pS (i:=9) jH.nd (cv 12))))))))
    fF)))))
  (eV (fu (pF T.d28 gD28 hr.m (eN (fG (eN (fj T.c10.cl T.n10names (cv 5)) (eN (fj T.c10.cl T.n10roots (cv 5)) (eN (fj T.c10.cl T.n10rows (cv 5)) (eN (cv 6) eP))))) (eN (cv 3) eP))))))))))))))),?_⟩
 have sl:=sizeLine_eq
 obtain⟨m1,em1,lm1⟩:=ug ns none (some 1)
 obtain⟨m2,em2,lm2⟩:=ug ns (some 1) none
 refine⟨_,rfl,a,_,rfl,ha,fun l1 h1=>⟨l1,m1,rfl,SqL.of (by rw[eO,em1]),fun n0=>?_⟩⟩
 have S1:=eS h1 (.lst (qA (ns.map V.int) none (some 1)))
 refine⟨⟨by decide,by decide,fS⟩,(show(0:Int)<10^Int.toNat 30 by decide+kernel),?_⟩
 dsimp only[fK]
 generalize n0%10^Int.toNat 30=fi
 refine⟨fi,rfl,fun wa H2 S2 _ hw=>?_⟩
 dsimp only[fK]
 have S12:=S1.trans S2
 obtain⟨wl,hw,lw,nd⟩:=hw
 refine⟨_,rfl,a,_,rfl,S12.seq ha,fun l3 h3=>?_⟩
 have S3:=eS h3 (.lst (qA (ns.map V.int) (some 1) none))
 refine⟨wa,l3,wl,m2,rfl,S3 _ _ hw,lw,nd,by rw[eO,em2],by lia,fun H4 l4 xs ts made S4 e4 i4 ne4 lt4 jd=>?_⟩
 have hw4:=(S3.trans S4) _ _ hw
 have ltm:ts.length=made.length:=jd.1
 have jdt:∀t∈ts,∃d,JD wl (made.take d) t (made.getD d 0):=fun t ht=>by
  obtain⟨d,hd⟩:=bD.mp ht
  exact⟨d,jd.2 d t hd⟩
 have sz4:szs ts<=10000:=by
  have:=By (ts:=ts) fun t ht=>let⟨d,j⟩:=jdt t ht;j.z
  lia
 refine⟨wa,l4,wl,xs,ts,rfl,hw4,lw,e4,i4,lt4,fun t ht=>?_,sz4,fun H5 b n r w' h Bt=>?_⟩
 ·obtain⟨d,j⟩:=jdt t ht
  exact⟨⟨fun _=>True,j.o _ fun _ _=>trivial⟩,by have:=j.n;lia⟩
 dsimp only[fK]
 obtain⟨sm,eb,⟨nms,en,lnm⟩,er',⟨rs,ew,iw⟩,⟨hs,eh,ih⟩,nw⟩:=Bt
 have ft:=CI (zt lw nd (us:=ts) (d:=0) (made:=made) (by lia) (by lia) fun k t hk=>by rw[cm];exact jd.2 k t hk)
 have hq:szs ts=(pcD (wdE wl) ts 0 0 []).length:=y6.symm
 have few:=FtD.few ft hq
 have dom:=FtD.dom ft hq
 have iw':=EZ iw
 have dok:∀d:Nat,d<ts.length->∃s',qv (iE ((pcD (wdE wl) ts 0 0 []).map Pc.ρ) (gv ts 0) (hoG (pcD (wdE wl) ts 0 0 [])) 50) (gv ts 0) (d:Int) s00=some (0,s')/\nS s'<=600:=fun d hd=>by
  obtain⟨r,hr⟩:∃r,(gv ts 0)[d]?=some r:=⟨_,ba (by rw[TM.Internal.offs_len];exact hd)⟩
  obtain⟨c,hc,wc⟩:=zu lw nd (us:=ts) (d:=0) (p:=0) (made:=made) (G:=pcD (wdE wl) ts 0 0 []) (l1:=[]) (by lia) (by lia) (fun k t hk=>by rw[cm];exact jd.2 k t hk) rfl rfl hr
  refine EY rfl ft hq hr hc ?_
  rw[wc,cm]
  exact(jd.2 d _ (ba hd)).b
 have good:=FtD.good ft hq
 have N:=Gs (roots:=gv ts 0) rfl ft hq
 have Vv:=Gu (roots:=gv ts 0) rfl ft hq
 have roL:(gv ts 0).length=ts.length:=TM.Internal.offs_len _ _
 generalize pcD (wdE wl) ts 0 0 []=G at*
 refine⟨_,eb,eX (eU (j:=0) rfl) ⟨n,_,rfl,.inl (SqL.of en),?_⟩⟩
 refine⟨⟨by decide,by decide⟩,(show(0:Int)<3 by decide),_,_,rfl,?_⟩
 dsimp only[fK]
 obtain⟨wh,hwh,lwh⟩:∃wh:Nat,(if((nms.map V.str).length:Int)-1-fi/7%3>0 then((nms.map V.str).length:Int)-1-fi/7%3 else 0)=(wh:Int)/\wh<ts.length:=by
  have l0:0<ts.length:=List.length_pos_iff.mpr ne4
  rw[aB,lnm]
  by_cases c:(ts.length:Int)-1-fi/7%3>0
  ·rw[fY c];exact⟨((ts.length:Int)-1-fi/7%3).toNat,by lia,by lia⟩
  ·rw[fN c];exact⟨0,rfl,l0⟩
 rw[hwh]
 refine⟨_,eb,eX (eU (j:=0) rfl) ⟨n,_,rfl,.inl (SqL.of en),fun p1 g1=>?_⟩⟩
 have U1:=eS g1 (.lst (nms.map V.str))
 refine⟨_,U1 _ _ eb,eX (eU (j:=1) rfl) ⟨r,_,rfl,.inl (SqL.of (U1 _ _ er')),fun p2 g2=>?_⟩⟩
 have U2:=eS g2 (.lst ((gv ts 0).map nI))
 refine⟨_,U2 _ _ (U1 _ _ eb),eX (eU (j:=2) rfl) ⟨w',_,rfl,.inl (SqL.of (U2 _ _ (U1 _ _ ew))),fun p3 g3=>?_⟩⟩
 have U3:=eS g3 (.lst rs)
 refine fun x dx hx hdx nx=>⟨x,dx,p1,p2,p3,rfl,eO,rfl,?_⟩
 rw[gb]
 have U4:=iW (o:= .ins T.c10.a dx (fP p1 p2 p3)) hx hdx
 dsimp only[fK]
 have U14:=U1.trans (U2.trans (U3.trans U4))
 refine⟨_,U14 _ _ eb,eX (eU (j:=3) rfl) ⟨h,_,rfl,.inl (SqL.of (U14 _ _ eh)),fun p5 g5=>?_⟩⟩
 have U5:=eS g5 (.lst hs)
 dsimp only[fK]
 have U15:=U14.trans U5
 have Cq0:Cq T.c10.a _ x p5 nms (gv ts 0) (G.map Pc.ρ) (hoG G):=⟨⟨p1,p2,p3,dx,rs,U5 _ _ eO,(U2.trans (U3.trans (U4.trans U5))) _ _ eO,(U3.trans (U4.trans U5)) _ _ eO,(U4.trans U5) _ _ eO,iw'.mono (fC.tk U15)⟩,⟨hs,eO,fun k ρ e=>E1 (ih.mono (fC.tk U15)) k ρ e⟩,few,dom⟩
 have hx6:_=some (HO.ins T.c10.a dx (fP p1 p2 p3)):=U5 _ _ (eO (H:=(L2.Internal.upd (L2.Internal.upd (L2.Internal.upd (L2.Internal.upd H5 p1 (.lst (nms.map V.str))) p2 (.lst ((gv ts 0).map nI))) p3 (.lst rs)) dx (.own x))) (a:=x))
 have h16:=(U2.trans (U3.trans (U4.trans U5))) _ _ (eO (H:=H5) (a:=p1) (o:= .lst (nms.map V.str)))
 have h26:=(U3.trans (U4.trans U5)) _ _ (eO (a:=p2) (o:= .lst ((gv ts 0).map nI)))
 have h36:=(U4.trans U5) _ _ (eO (a:=p3) (o:= .lst rs))
 have h56:=eO (H:=(L2.Internal.upd (L2.Internal.upd (L2.Internal.upd (L2.Internal.upd (L2.Internal.upd H5 p1 (.lst (nms.map V.str))) p2 (.lst ((gv ts 0).map nI))) p3 (.lst rs)) dx (.own x)) x (.ins T.c10.a dx (fP p1 p2 p3)))) (a:=p5) (o:= .lst hs)
 have eb6:=U15 _ _ eb
 have en6:=U15 _ _ en
 have er6:=U15 _ _ er'
 have ew6:=U15 _ _ ew
 have eh6:=U15 _ _ eh
 have iw6:=iw'.mono (fC.tk U15)
 have ih6:=ih.mono (fC.tk U15)
 generalize(L2.Internal.upd (L2.Internal.upd (L2.Internal.upd (L2.Internal.upd (L2.Internal.upd (L2.Internal.upd H5 p1 (.lst (nms.map V.str))) p2 (.lst ((gv ts 0).map nI))) p3 (.lst rs)) dx (.own x)) x (.ins T.c10.a dx (fP p1 p2 p3))) p5 (.lst hs))=H6 at Cq0 hx6 h16 h26 h36 h56 eb6 en6 er6 ew6 eh6 iw6 ih6⊢
 obtain⟨s',hF,nS'⟩:=dok wh lwh
 have zs:Sz 1000000 s':=by unfold nS at nS';exact⟨by lia,by lia,by lia,by lia⟩
 have zb:szB s'.D 900:=by unfold nS at nS';exact⟨by lia,by lia,by lia,by lia⟩
 refine⟨x,p5,wh,0,s',nms,gv ts 0,G.map Pc.ρ,hoG G,rfl,Cq0,hF,zs,fun B H7 S7 fB B7=>?_⟩
 refine⟨B,.int 0,s'.D,900,rfl,B7,zb,by decide,fun tv H8 S8 tw=>?_⟩
 dsimp only[fK]
 refine fun cd hcd=>?_
 dsimp only[fK]
 have hc:∀(k:Nat) h,hoG G k=some h->h.1="def"->∃q t',qv (iE (G.map Pc.ρ) (gv ts 0) (hoG G) 50) (gv ts 0) h.2 s00=some (q,t'):=fun k h e e1=>by
  obtain⟨d,e2,e3⟩:=dom k h e e1
  obtain⟨sd,e4,_⟩:=dok d (by lia)
  exact⟨0,sd,by rw[e2];exact e4⟩
 obtain⟨Bs,iv⟩:=EU N Vv GQ hc hF
 obtain⟨ah,l0⟩:=BE hF
 generalize hcb:cbF (G.map Pc.ρ) (gv ts 0) (hoG G) 50=Cb at iv
 have eb8:=(S7.trans S8) _ _ eb6
 have eh8:=(S7.trans S8) _ _ eh6
 have ih8:=ih6.mono (fC.tk (S7.trans S8))
 have S68:=S7.trans S8
 have zl:=zb.1
 show xl (vg _ _) _ _ [some (.ref a),some (.int fi),some (.ref wa),some (.ref b),some (.int wh),some (.ref x),some (.ref p5),some tv,some (.ref cd),some (.int 1),none,none,none] _
 refine zE (fun σ H'=>X4 fun(k:Int) (o10 o11 o12:Option V)=>σ=[some (.ref a),some (.int fi),some (.ref wa),some (.ref b),some (.int wh),some (.ref x),some (.ref p5),some tv,some (.ref cd),some (.int k),o10,o11,o12]/\fC H8 H') ?_ ?_
 ·rintro σ H9 ⟨k,o10,o11,o12,rfl,S9⟩
  have S69:=S68.trans S9
  refine⟨_,⟨_,_,S69 _ _ hx6,Am _ _ _⟩,_,⟨_,_,S69 _ _ hx6,pf _ _ _⟩,_,⟨_,_,S69 _ _ hx6,yP _ _ _⟩,xn,fun l hl=>?_⟩
  have S10:=eS hl (.lst [.ref p1,.ref p2,.ref p3,.ref p5])
  have S610:=S69.trans S10
  have dn:∀H',qB H' (nms.map V.str) (nms.map sD):=fun H'=>(sC nms).das
  have dr:∀H',qB H' ((gv ts 0).map nI) (((gv ts 0).map fun p:Nat=>(p:Int)).map kD):=fun H'=>(vO (gv ts 0)).das
  refine⟨.ref l,.ref b,.lst [.lst (nms.map sD),.lst (((gv ts 0).map fun p:Nat=>(p:Int)).map kD),.lst ((G.map Pc.ρ).map Ro.d),.lst (G.map hD')],rfl,.lst eO (.cons (.lst (S610 _ _ h16) (dn _)) (.cons (.lst (S610 _ _ h26) (dr _)) (.cons (.lst (S610 _ _ h36) (iw6.mono (fC.tk S610)).das) (.cons (.lst (S610 _ _ h56) (ih6.mono (fC.tk S610)).das) .nil)))),.lst (S610 _ _ eb6) (.cons (.lst (S610 _ _ en6) (dn _)) (.cons (.lst (S610 _ _ er6) (dr _)) (.cons (.lst (S610 _ _ ew6) (iw6.mono (fC.tk S610)).das) (.cons (.lst (S610 _ _ eh6) (ih6.mono (fC.tk S610)).das) .nil)))),?_,?_,fun H' _=>q H'⟩
  ·have d0:fV (nms.map sD)<=3:=gP fun _ _=>cc _
   have d1:fV (((gv ts 0).map fun p:Nat=>(p:Int)).map kD)<=3:=gP fun _ _=>cc _
   have d2:fV ((G.map Pc.ρ).map Ro.d)<=3:=gP fun ρ hρ=>by
    obtain⟨k,hk⟩:=bD.mp hρ
    exact(good k ρ hk).1
   have d3:fV (G.map hD')<=3:=gP fun c _=>b0 (zF c).1 (by decide)
   simp only[jb,fV]
   lia
  ·have lG:G.length<=10000:=by lia
   refine⟨by show 4<=100000;decide,⟨by rw[aB];lia,g9 fun _ _=>trivial⟩,⟨by rw[aB,aB];lia,g9 fun _ _=>trivial⟩,⟨by rw[aB,aB];lia,g9 fun ρ hρ=>?_⟩,⟨by rw[aB];lia,g9 fun c _=>(zF c).2⟩,trivial⟩
   obtain⟨k,hk⟩:=bD.mp hρ
   exact(good k ρ hk).2
 ·intro Nx hNx
  refine⟨fun m σ H'=>X4 fun(k:Nat) (o10 o11 o12:Option V)=>Y7 (σ=[some (.ref a),some (.int fi),some (.ref wa),some (.ref b),some (.int wh),some (.ref x),some (.ref p5),some tv,some (.ref cd),some (.int k),o10,o11,o12]) (m=s'.D.pts.length-k) (1<=k) (k<=s'.D.pts.length) ((∀b∈Bs,inb b.lo b.hi k=false)) (fC H8 H') (Dcp Cb H' cd k),⟨_,1,none,none,none,rfl,rfl,cb _,l0,?_,eS hcd _,[],eO,cc _,fun _ _ e=>by cases e⟩,?_⟩
  ·intro b' hb'
   refine oB.mpr fun⟨z,_⟩=>?_
   have z:b'.lo<=(1:Int):=z
   have:=(iv.b b' hb').1
   lia
  rintro m σ H9 ⟨k,o10,o11,o12,rfl,rfl,k1,k2,kf,S9,dc⟩
  have tw9:=tw.same S9
  obtain⟨tb,p0,p1',p2',p3',mv',uv,fv,rfl,hb9,h09,_,_,_,_,_,_⟩:=tw9
  refine⟨_,hb9,eX (eU (j:=0) rfl) ⟨p0,_,rfl,.inl (SqL.of h09),?_⟩⟩
  rw[aB]
  show if decide ((k:Int)<(s'.D.pts.length:Int))=true then _ else _
  by_cases hk:k<s'.D.pts.length
  rotate_left
  ·rw[gA (by lia)]
   exact jo (hNx _ _ ⟨k,o10,o11,o12,rfl,S9⟩)
  rw[gQ (by lia)]
  refine jL ⟨fun σ' H'=>X4 fun(k':Nat) (o10 o11 o12:Option V)=>Y6 (σ'=[some (.ref a),some (.int fi),some (.ref wa),some (.ref b),some (.int wh),some (.ref x),some (.ref p5),some (.ref tb),some (.ref cd),some (.int k'),o10,o11,o12]) (k<k') (k'<=s'.D.pts.length) ((∀b∈Bs,inb b.lo b.hi k'=false)) (fC H8 H') (Dcp Cb H' cd k'),?_,?_⟩
  ·rintro σ' H' ⟨k',o10,o11,o12,rfl,z1,z2,z3,z4,z5⟩
   exact⟨s'.D.pts.length-k',by lia,k',o10,o11,o12,rfl,rfl,by lia,z2,z3,z4,z5⟩
  obtain⟨pl,hpl⟩:∃pl,s'.D.pts[k]?=some pl:=⟨_,ba hk⟩
  obtain⟨ρ,hρ⟩:=ah.pl pl (aM hpl)
  obtain⟨pn,rfl,hρ'⟩:=f9 hρ
  obtain⟨y,hy,iy8⟩:=E1 ih8 pn ρ hρ'
  have iy:=iy8.mono (fC.tk S9)
  have eb9:=S9 _ _ eb8
  have eh9:=S9 _ _ eh8
  refine⟨_,eb9,eX (eU (j:=3) rfl) ⟨_,hb9,eX (eU (j:=0) rfl) ⟨_,h09,eX (eU (j:=k) (show(s'.D.pts.map V.int)[k]?=some (.int (pn:Int)) by rw[aJ,hpl];rfl)) ⟨hs,eh9,eX (eU (j:=pn) hy) ?_⟩⟩⟩⟩
  dsimp only[fK]
  refine E2 (k:=k) rfl ?_
  show ve _ _ _ _ [some (.ref a),some (.int fi),some (.ref wa),some (.ref b),some (.int wh),some (.ref x),some (.ref p5),some (.ref tb),some (.ref cd),some (.int ((k:Int)+ 1)),some y,o11,o12] H9
  refine AL rfl rfl iy ?_
  have hat:atZ s'.D.pts (k:Int)=some (pn:Int):=hpl
  have frE:frF (hoG G) wh (pn:Int)=match hoG G pn with|some h=>if h.1="def"/\h.2≠wh then some h.2 else none|none=>none:=rfl
  by_cases hfr:∃h,hoG G pn=some h/\h.1="def"/\h.2≠wh
  rotate_left
  ·have e0:fgn wh (hoG G pn)=false:=by
    cases e:hoG G pn with
    |none=>rfl
    |some h=>
     by_cases e1:h.1="def"
     ·by_cases e2:h.2=wh
      ·simp[fgn,e2]
      ·exact absurd ⟨h,e,e1,e2⟩ hfr
     ·simp[fgn,e1]
   have f0:frF (hoG G) wh (pn:Int)=none:=by
    rw[frE]
    cases e:hoG G pn with
    |none=>rfl
    |some h=>exact fN fun z=>hfr ⟨h,e,z⟩
   rw[e0]
   refine jo ⟨k+ 1,some y,o11,o12,by rw[eC];rfl,by lia,by lia,fun b' hb'=>?_,S9,Dcp.mo (by lia) dc⟩
   refine oB.mpr fun⟨z1,z2⟩=>?_
   obtain⟨_,_,_,pl',q1,q2⟩:=iv.b b' hb'
   have z3:=oB.mp (kf b' hb')
   have z4:b'.lo-1=(k:Int):=by lia
   rw[z4,hat]at q1
   cases q1
   rw[f0]at q2
   cases q2
  ·obtain⟨hm,em,e1,e2⟩:=hfr
   rw[em]at iy8⊢
   have e0:fgn wh (some hm)=true:=by
    simp[fgn,e1,e2]
   rw[e0]
   refine jL ?_
   obtain⟨dn,ed,ld⟩:=dom pn hm em e1
   have ld:dn<ts.length:=by lia
   obtain⟨ht,rfl,et8⟩:∃t,y= .ref t/\H8 t=some (.tup [.str hm.1,.int (dn:Int)]):=by
    rw[<-ed]
    cases iy8 with
    |@tup t ys _ et iy=>
    cases iy with
    |cons i1 iy=>cases iy with
     |cons i2 iy=>
     cases iy
     cases i1;cases i2
     exact⟨t,rfl,et⟩
   obtain⟨sd,hFd,nSd⟩:=dok dn ld
   have ecb:Cb (dn:Int)=sd.D:=by rw[<-hcb];unfold cbF;rw[hFd]
   have zsd:Sz 1000000 sd:=by unfold nS at nSd;exact⟨by lia,by lia,by lia,by lia⟩
   have zbd:szB sd.D 900:=by unfold nS at nSd;exact⟨by lia,by lia,by lia,by lia⟩
   have f1:frF (hoG G) wh (pn:Int)=some (dn:Int):=by
    rw[frE,em,<-ed]
    exact fY ⟨e1,e2⟩
   obtain⟨bk,hbk,ebk⟩:=iv.k k pn dn (by lia) kf hat f1
   obtain⟨_,bhi,blk,pl',q1,q2⟩:=iv.b bk hbk
   have edb:bk.d=(dn:Int):=by
    rw[ebk,show(k:Int)+ 1-1=k by lia,hat]at q1
    cases q1
    rw[f1]at q2
    exact(cx.inj q2).symm
   rw[edb,ebk]at blk
   obtain⟨⟨l1,l2,ep,el1,ehi⟩,bm,bu,bf,bc⟩:=blk
   obtain⟨kvs,ecd,lkv,hkv⟩:=dc
   refine Dg (fun σ' H'=>Y3 (σ'=[some (.ref a),some (.int fi),some (.ref wa),some (.ref b),some (.int wh),some (.ref x),some (.ref p5),some (.ref tb),some (.ref cd),some (.int ((k:Int)+ 1)),some (.ref ht),o11,o12]) (fC H8 H') (X2 fun kvs v=>Y4 (H' cd=some (.dK kvs)) (kvs.length<=k+ 1) ((∀(d:Int) v,kr kvs (Sum.inl d)=some v->Tw H' v (Cb d)/\Gd (Cb d))) (kr kvs (Sum.inl (dn:Int))=some v))) ?_ ?_
   ·intro nx hnx
    have et9:=S9 _ _ et8
    refine⟨_,et9,eX (eU (j:=1) rfl) ⟨cd,_,rfl,sY.k (k:=(Sum.inl (dn:Int):Key)) ecd,_,rfl,?_⟩⟩
    cases ev:kr kvs (Sum.inl (dn:Int))with
    |some v=>exact jo (hnx _ _ ⟨rfl,S9,kvs,v,ecd,by lia,hkv,ev⟩)
    |none=>
     refine jL ?_
     refine⟨_,et9,eX (eU (j:=1) rfl) ⟨x,p5,dn,0,sd,nms,gv ts 0,G.map Pc.ρ,hoG G,rfl,?_,hFd,zsd,fun B' H10 S10 fB' B10=>?_⟩⟩
     ·obtain⟨⟨a1,a2,a3,a4,a5,pr⟩,⟨hs',e1,e2⟩,e3,e4⟩:=Cq0
      have S69:=S68.trans S9
      exact⟨⟨a1,a2,a3,a4,a5,pr.same S69⟩,⟨hs',S69 _ _ e1,fun k ρ hk=>let⟨y,u,v⟩:=e2 k ρ hk;⟨y,u,v.mono (fC.tk S69)⟩⟩,e3,e4⟩
     refine⟨B',.int 0,sd.D,900,rfl,B10,zbd,by decide,fun v H11 S11 twv=>?_⟩
     have S911:=S10.trans S11
     have ecd11:=S911 _ _ ecd
     refine⟨_,S911 _ _ et9,eX (eU (j:=1) rfl) ⟨cd,_,rfl,xN.k (k:=(Sum.inl (dn:Int):Key)) ecd11 (by lia),hnx _ _ ⟨rfl,pe (S9.trans S911) hcd _,_,v,eO,b0 (ky _ _ _) (by lia),fun d v' hv'=>?_,by rw[rG,fY rfl]⟩⟩⟩
     rw[rG]at hv'
     by_cases z:(Sum.inl d:Key)=Sum.inl (dn:Int)
     ·rw[fY z]at hv'
      cases hv'
      rw[Sum.inl.inj z,ecb]
      exact⟨Tw.dk ecd11 twv,Gd.of B10 zbd⟩
     ·rw[fN z]at hv'
      obtain⟨t1,g1⟩:=hkv d v' hv'
      exact⟨Tw.dk ecd11 (t1.same S911),g1⟩
   rintro σ' H10 ⟨rfl,S10,kvs,v,ecd,lkv,hkv,ev⟩
   obtain⟨twv,gdv⟩:=hkv _ _ ev
   have dg:=sY.k (k:=(Sum.inl (dn:Int):Key)) ecd
   rw[ev]at dg
   refine⟨_,S10 _ _ et8,eX (eU (j:=1) rfl) ⟨cd,v,rfl,dg,?_⟩⟩
   dsimp only[fK]
   have twv':=twv
   obtain⟨vb,c0,c1,c2,c3,_,_,_,rfl,hvb,hc0,_,_,_,_,_,_⟩:=twv'
   refine⟨_,hvb,eX (eU (j:=0) rfl) ⟨c0,_,rfl,.inl (SqL.of hc0),?_⟩⟩
   rw[aB]
   dsimp only[fK]
   rw[ehi]at bm bu bf bc bhi
   have ebd:bdW (wiB s'.D (Cb dn).pts ((k:Int)+ 1) ((k:Int)+ 1+(Cb dn).pts.length))=bdW (rnB (mv ((k:Int)+ 1)) (Cb dn)):=by
    simp only[bdW,wiB,bm,bu,bf]
    rfl
   obtain⟨gd1,gd2⟩:=(gdv.rn (mv ((k:Int)+ 1))).good
   refine⟨.ref tb,s'.D,(k:Int)+ 1,(k:Int)+ 1+(Cb dn).pts.length,l1,(Cb dn).pts,l2,rfl,tw.same S10,zb,ep,el1,rfl,fun y1 H11 S11 t1=>?_⟩
   refine⟨.ref vb,Cb dn,(k:Int)+ 1,rfl,twv.same S11,gdv,fun y2 H12 S12 t2=>?_⟩
   refine⟨y1,y2,bdW (rnB (mv ((k:Int)+ 1)) (Cb dn)),rfl,(by rw[<-ebd];exact(t1.same S12).da),t2.da,b0 gd1 (by decide),gd2,fun H13 S13=>⟨true,rfl,jo ?_⟩⟩
   have S1013:=S11.trans (S12.trans S13)
   refine⟨.ref tb,s'.D,(k:Int)+ 1,(k:Int)+ 1+(Cb dn).pts.length,rfl,(tw.same S10).same S1013,zb,fun y3 H14 S14 d3=>?_⟩
   rw[bc]at d3
   refine⟨lQ,fun t5 ht5=>⟨lY,fun l5 hl5=>?_⟩⟩
   have S15:=eS ht5 (.tup [.int ((k:Int)+ 1),.int ((k:Int)+ 1-1)])
   have S16:=eS hl5 (.lst [.ref t5])
   refine⟨y3,.ref l5,.lst [flD ((k:Int)+ 1,(k:Int)+ 1-1)],rfl,d3.same (S15.trans S16),.lst eO (.cons (.tup (S16 _ _ eO) (.cons (.flat rfl) (.cons (.flat rfl) .nil))) .nil),by simp[flD,jb,fV],⟨by show 1<=100000;decide,⟨by show 2<=100000;decide,trivial,trivial,trivial⟩,trivial⟩,fun H17 S17=>⟨true,rfl,jo ?_⟩⟩
   have S1017:=S1013.trans (S14.trans (S15.trans (S16.trans S17)))
   have hb':(k:Int)+ 1+((Cb dn).pts.length:Int)<=(s'.D.pts.length:Int):=bhi
   refine⟨k+ 1+(Cb dn).pts.length,_,_,_,by rw[eC,eC];rfl,by lia,by lia,fun b' hb'=>?_,S10.trans S1017,kvs,S1017 _ _ ecd,by lia,fun d v' hv'=>⟨(hkv d v' hv').1.same S1017,(hkv d v' hv').2⟩⟩
   have:=iv.e bk hbk b' hb'
   rw[ehi]at this
   rw[eC,eC]
   exact this
theorem jr {l:List (Str×Tok×Addr)}:(l.map (·.1)).Nodup->∀x∈l,kr (l.map fun p=>((Sum.inr p.1:Key),V.ref p.2.2)) (Sum.inr x.1)=some (.ref x.2.2):=by
 induction l with
 |nil=>exact fun _ x hx=>nomatch hx
 |cons y r ih=>
  intro hn x hx
  rw[aA,aD]at hn
  unfold kr
  rw[aA,aP]
  rcases aj.mp hx with e|hm
  ·subst e
   rw[gQ rfl]
   rfl
  ·have ne:¬(Sum.inr y.1:Key)=Sum.inr x.1:=fun z=>hn.1 (by rw[Sum.inr.inj z];exact bI hm)
   rw[gA ne]
   exact ih hn.2 x hm
def GR {P:Program} {w:World} {K:PySem.W.Frag} {mg:Str->Option Value} (T:Txt K mg) {a:Addr} {n:Nat} {t_num t_name t_fn t_call t_let t_rec t_get t_tag t_case t_row t_at t_join t_size t_add t_sub t_less:Tok} (m:mg "LAYERS"=some (.ref a)) (ha:(a==sysModules)=false) (hl:K.lookup a=some ⟨.type "dict",none,.dict #[⟨PyData.keyHash w.params "num",.str "num" t_num,.ref T.d8.a⟩,⟨PyData.keyHash w.params "name",.str "name" t_name,.ref T.d9.a⟩,⟨PyData.keyHash w.params "fn",.str "fn" t_fn,.ref T.d12.a⟩,⟨PyData.keyHash w.params "call",.str "call" t_call,.ref T.d13.a⟩,⟨PyData.keyHash w.params "let",.str "let" t_let,.ref T.d14.a⟩,⟨PyData.keyHash w.params "rec",.str "rec" t_rec,.ref T.d15.a⟩,⟨PyData.keyHash w.params "get",.str "get" t_get,.ref T.d16.a⟩,⟨PyData.keyHash w.params "tag",.str "tag" t_tag,.ref T.d17.a⟩,⟨PyData.keyHash w.params "case",.str "case" t_case,.ref T.d18.a⟩,⟨PyData.keyHash w.params "row",.str "row" t_row,.ref T.d19.a⟩,⟨PyData.keyHash w.params "at",.str "at" t_at,.ref T.d20.a⟩,⟨PyData.keyHash w.params "join",.str "join" t_join,.ref T.d21.a⟩,⟨PyData.keyHash w.params "size",.str "size" t_size,.ref T.d22.a⟩,⟨PyData.keyHash w.params "add",.str "add" t_add,.ref T.d23.a⟩,⟨PyData.keyHash w.params "sub",.str "sub" t_sub,.ref T.d23.a⟩,⟨PyData.keyHash w.params "less",.str "less" t_less,.ref T.d24.a⟩] n,#[]⟩):Lk P w T where
 a:=a
 m:=m
 kvs:=([("num",t_num,T.d8.a),("name",t_name,T.d9.a),("fn",t_fn,T.d12.a),("call",t_call,T.d13.a),("let",t_let,T.d14.a),("rec",t_rec,T.d15.a),("get",t_get,T.d16.a),("tag",t_tag,T.d17.a),("case",t_case,T.d18.a),("row",t_row,T.d19.a),("at",t_at,T.d20.a),("join",t_join,T.d21.a),("size",t_size,T.d22.a),("add",t_add,T.d23.a),("sub",t_sub,T.d23.a),("less",t_less,T.d24.a)]:List (Str×Tok×Addr)).map fun p=>((Sum.inr p.1:Key),V.ref p.2.2)
 kd:=zX ha hl rfl (by show(["num","name","fn","call","let","rec","get","tag","case","row","at","join","size","add","sub","less"]:List Str).Nodup;decide+kernel)
 yes:=fun ρ hu=>by
  have hn:(([("num",t_num,T.d8.a),("name",t_name,T.d9.a),("fn",t_fn,T.d12.a),("call",t_call,T.d13.a),("let",t_let,T.d14.a),("rec",t_rec,T.d15.a),("get",t_get,T.d16.a),("tag",t_tag,T.d17.a),("case",t_case,T.d18.a),("row",t_row,T.d19.a),("at",t_at,T.d20.a),("join",t_join,T.d21.a),("size",t_size,T.d22.a),("add",t_add,T.d23.a),("sub",t_sub,T.d23.a),("less",t_less,T.d24.a)]:List (Str×Tok×Addr)).map (·.1)).Nodup:=by show(["num","name","fn","call","let","rec","get","tag","case","row","at","join","size","add","sub","less"]:List Str).Nodup;decide+kernel
  cases ρ with
  |num _=>exact⟨_,jr hn ("num",t_num,T.d8.a) (aM (i:=0) rfl),fun f=>⟨_,.num,_,rfl⟩⟩
  |name _=>exact⟨_,jr hn ("name",t_name,T.d9.a) (aM (i:=1) rfl),fun f=>⟨_,.name,_,rfl⟩⟩
  |fn _ _=>exact⟨_,jr hn ("fn",t_fn,T.d12.a) (aM (i:=2) rfl),fun f=>⟨_,.fn,_,_,rfl⟩⟩
  |tag _ _=>exact⟨_,jr hn ("tag",t_tag,T.d17.a) (aM (i:=7) rfl),fun f=>⟨_,.tag,_,_,rfl⟩⟩
  |lt _ _ _=>exact⟨_,jr hn ("let",t_let,T.d14.a) (aM (i:=4) rfl),fun f=>⟨_,.lt,_,_,_,rfl⟩⟩
  |get _ _=>exact⟨_,jr hn ("get",t_get,T.d16.a) (aM (i:=6) rfl),fun f=>⟨_,.get,_,_,rfl⟩⟩
  |rcd _=>exact⟨_,jr hn ("rec",t_rec,T.d15.a) (aM (i:=5) rfl),fun f=>⟨_,.rcd,_,rfl⟩⟩
  |case _ _=>exact⟨_,jr hn ("case",t_case,T.d18.a) (aM (i:=8) rfl),fun f=>⟨_,.case,_,_,rfl⟩⟩
  |row _=>exact⟨_,jr hn ("row",t_row,T.d19.a) (aM (i:=9) rfl),fun f=>⟨_,.row,_,rfl⟩⟩
  |op o ks=>
   rcases hu with rfl|rfl|rfl|rfl|rfl|rfl|rfl
   ·exact⟨_,jr hn ("call",t_call,T.d13.a) (aM (i:=3) rfl),fun f=>⟨_,.call,_,rfl⟩⟩
   ·exact⟨_,jr hn ("at",t_at,T.d20.a) (aM (i:=10) rfl),fun f=>⟨_,.ix,_,rfl⟩⟩
   ·exact⟨_,jr hn ("join",t_join,T.d21.a) (aM (i:=11) rfl),fun f=>⟨_,.join,_,rfl⟩⟩
   ·exact⟨_,jr hn ("size",t_size,T.d22.a) (aM (i:=12) rfl),fun f=>⟨_,.size,_,rfl⟩⟩
   ·exact⟨_,jr hn ("add",t_add,T.d23.a) (aM (i:=13) rfl),fun f=>⟨_,.sum,_,_,rfl,.inl rfl⟩⟩
   ·exact⟨_,jr hn ("sub",t_sub,T.d23.a) (aM (i:=14) rfl),fun f=>⟨_,.sum,_,_,rfl,.inr rfl⟩⟩
   ·exact⟨_,jr hn ("less",t_less,T.d24.a) (aM (i:=15) rfl),fun f=>⟨_,.less,_,rfl⟩⟩
end K23.Internal
namespace PySem.W.Fast
def tw31772237840153286:=0
def tw7917967740545485011:=0
def tw16917224385229916316:=0
def tw6253196108426473247:=0
def tw1047890457254382094:=0
def tw1514129838373582605:=0
def tw1683801114513706023:=0
def tw1741981570544091476:=0
def tw1911931208331545589:=0
def tw663610203535822403:=0
def tw8259082203925798730:=0
def tw8312124347627570454:=0
def tw5972564507786253180:=0
def tw10424120446211907104:=0
def tw13269517660616865197:=0
def tw3033915208524688123:=0
def tw11861977725938618898:=0
def tw16610868296793769343:=0
def tw13125292472344278832:=0
def tw2724948210959635707:=0
def tw6775657086937196568:=0
def tw4115707821570923696:=0
def tw12528105767622727845:=0
def tw5693157959936460492:=0
def tw495167897273511157:=0
def tw9568967755486716372:=0
def tw16143274667795173308:=0
def tw2591647204795010562:=0
def tw17374589507595521260:=0
def tw11614723975071140724:=0
def tw7553148660992949812:=0
def tw3298914748419384605:=0
def tw3201037258139410098:=0
def tw7089019380119489437:=0
def tw16345614452782761109:=0
def tw9254130123807732330:=0
def tw5513159691324375124:=0
def tw2425736326648056104:=0
def tw9785296050580682332:=0
def tw5900215685125493800:=0
def tw9328187336874467694:=0
def tw14786275859325792294:=0
def tw8951730348502943602:=0
def tw1470664755634453606:=0
def tw10926955854282495767:=0
def tw9881345864412605550:=0
def tw913697578355730536:=0
def tw8427209954275664825:=0
def tw7391569962485268630:=0
def tw11437092780495811105:=0
def tw238117312786353440:=0
def tw13558996725474522511:=0
def tw17340893056651402543:=0
def tw4590185208402273308:=0
def tw12743847573698144183:=0
def tw11684875158656872825:=0
def tw15115830455995360539:=0
def tw11039482756110598499:=0
def tw5733435979739929968:=0
def tw14877243621668897894:=0
def tw16395662837728507362:=0
def tw10566640548687358119:=0
def tw14752268830270978967:=0
def tw3783637581010569891:=0
def tw6067690649825091677:=0
def tw17120062522507765745:=0
def tw11350713023363620196:=0
def tw12102084095742145688:=0
def tw359367299856630801:=0
def tw15792909116161286077:=0
def tw126839950012455266:=0
def tw9133789870803436885:=0
def tw116277597114286722:=0
def tw12819179961964577829:=0
def tw4855668007603717855:=0
def tw18344623492248983882:=0
def tw16294273944692821989:=0
def tw10779311192116068230:=0
def tw8149785313028182083:=0
def tw11177050949545282614:=0
def tw10754886263948873291:=0
def tw2863667833716433465:=0
def tw1375721023891607257:=0
def tw14531401083255184485:=0
def tw7736612404863485476:=0
def tw9730721067515735477:=0
def tw15536306310050889339:=0
def tw9255474313306296582:=0
def tw13550428449950746817:=0
def tw7760548580843543053:=0
def tw7601447005123930517:=0
def tw2797876627484778195:=0
def tw5431692730284028240:=0
def tw18023065044604007983:=0
def tw11376928623330708047:=0
def tw14089633496753429490:=0
def tw8620108475989097585:=0
def tw14935458076444931340:=0
def tw11107143438319635217:=0
def tw15343827625242735168:=0
def tw8405722673457325532:=0
def tw5481006559246479311:=0
def tw17936090189582804077:=0
def tw12773009868181826458:=0
def tw7412171562332761060:=0
def tw11989099688649428834:=0
def tw14169544402844604743:=0
def tw5950750181324600703:=0
def tw1929004911007909546:=0
def tw14296764283407583424:=0
def tw5477548737414615580:=0
def tw625165169862059829:=0
def tw14425578513619583443:=0
def tw5530244166889309401:=0
def tw11911616228372889423:=0
def tw10317248098756338640:=0
def tw11435196107120149707:=0
def tw2130087723740382506:=0
def tw12372322598808125137:=0
def tw15285743046585907711:=0
def tw3224793606210800095:=0
def tw17678320929952320233:=0
def tw12989494582204198324:=0
def tw7022182340252534593:=0
def tw14806221137423408121:=0
def tw2109341364726135300:=0
def tw9210908304824932655:=0
def tw9548397250641685563:=0
def tw8234670857612747642:=0
def tw9960063588021186674:=0
def tw15102364901186866005:=0
def tw8716227510199864857:=0
def tw17423439263714167306:=0
def tw13033763733939602405:=0
def tw17591112096965786351:=0
def tw6246638330152195941:=0
def tw11568715337582693229:=0
def tw15343916578276981984:=0
def tw18171388454249749336:=0
def tw10249281738833661569:=0
def tw2585933951643279293:=0
def tw2515839563052775094:=0
def tw3441913653737543246:=0
def tw16945002764655459844:=0
def tw13702544425250412015:=0
def tw12321206963497474614:=0
def tw1652770159597920666:=0
def tw10645642079782636413:=0
def tw13498966062374370528:=0
def tw3473383724313409464:=0
def tw2379026218859569509:=0
def tw10700798670437841990:=0
def tw7558708490553767705:=0
def tw9267878220355901931:=0
def tw11454528735335512531:=0
def tw12762909233953112441:=0
def tw829685122608613729:=0
def tw2986778427251321707:=0
def tw5589690965958484663:=0
def tw589608433446794416:=0
def tw13070043545916924010:=0
def tw7335232926681555660:=0
def tw3164276290058904358:=0
def tw1848900012711797179:=0
def tw6304214092877388114:=0
def tw10089030509298632515:=0
def tw10805832699973610089:=0
def tw5142315601450795035:=0
def tw17249625438544295852:=0
def tw14018904552288096331:=0
def tw10905151962220734359:=0
def tw6932727221180322580:=0
def tw12113288163696747823:=0
def tw15399153973328630624:=0
def tw16209277658280718228:=0
def tw8285008916427305407:=0
def tw15548153611611047536:=0
def tw3898837301512285388:=0
def tw11478023140534820375:=0
def tw3261152896467442015:=0
def tw11368352990245684021:=0
def tw342204182923027277:=0
def tw6000574707420437036:=0
def tw5087190893242317723:=0
def tw14016851841210734032:=0
def tw2094474653269766553:=0
def tw7460059312576051118:=0
def tw17983943703809345861:=0
def tw15952024567596091742:=0
def tw12903192241330608695:=0
def tw9653927428086364064:=0
def tw273734137461737108:=0
def tw11077084003190338701:=0
def tw2045937070864905972:=0
def tw17613956150056137410:=0
def tw7089506347716809040:=0
def tw3740397099883018782:=0
def tw3384124108027060193:=0
def tw9914432319955948647:=0
def tw18100377771059633920:=0
def tw12952799436825252620:=0
def tw15614966291322034792:=0
def tw5278533475457444868:=0
def tw2949167179223591020:=0
def tw13258917452432074600:=0
def tw1243960113774944748:=0
def tw2824294920839785957:=0
def tw14021217967739262207:=0
def tw15163515483586523690:=0
def tw9672093931767798239:=0
def tw1790162361013195753:=0
def tw12815113542679664724:=0
def tw11605099692669294095:=0
def tw487722177483132108:=0
def tw17275890250288754833:=0
def tw6504234326940819758:=0
def tw12566225581088984576:=0
def tw15942082708885311495:=0
def tw9520307461630902841:=0
def tw8565672797920523976:=0
def tw16898303617683364336:=0
def tw1008259158821843065:=0
def tw2193567217630365168:=0
def tw14668294305945913823:=0
def tw8738382467853189695:=0
def tw1009429368301461760:=0
def tw9326302490544690471:=0
def tw17937525374863523534:=0
def tw3201839275918953399:=0
def tw14508940386431226590:=0
def tw5279971658531519538:=0
def tw17990837918490903910:=0
def tw17292015487846097186:=0
def tw4746717843461669378:=0
def tw10153599648557829283:=0
def tw1563122815474183326:=0
def tw2975147287462265245:=0
def tw10685397244224173400:=0
def tw2025913184173170802:=0
def tw16466606458233832126:=0
def tw2947405188816678159:=0
def tw4578219992170184881:=0
def tw17900070817991286270:=0
def tw966748511540567957:=0
end PySem.W.Fast
namespace K23.Internal
open PySem L2.Internal
theorem all_mk {l:PySem.W.OpenLaw} {w:World} {K:PySem.W.Frag} {h:Heap} {mg:Str->Option Value} {fa fL:Addr} (X:K.In h) (G:h.Ns mainGlobals mg) (hfa:mg "law"=some (.ref fa))
  {pW:Addr} {nW:Nat} {tW0 tW1 tW2 tW3 tW4 tW5 tW6 tW7 tW8 tW9 tW10 tW11 tW12 tW13 tW14 tW15:Tok} {fW0 fW1 fW2 fW3 fW4 fW5 fW6 fW7 fW8 fW9 fW10 fW11 fW12 fW13 fW14:Addr}
  {fU C1 C2 C3 C4 C5 C6 C7 C8 C9 C10:Addr} {odL anL:Option Addr} {slL:Array (Option Value)} {ocL kVL dcL pmL cdL ctL:Value}
  (a1:Fm K "stands_in" mr)
  (a2:Fm K "pasted" rV)
  (a3:Fm K "new_points" lB)
  (a4:Fm K "parts_made" lC)
  (a5:Fm K "use_made" nO)
  (a6:Fm K "with_points" kB)
  (a7:Dm K "laid" yC)
  (a8:Fm K "lay_num" pP)
  (a9:Fm K "lay_name" nP)
  (a10:Fm K "meant_point" kC)
  (a11:Fm K "definition_point" iP)
  (a12:Fm K "lay_fn" rW)
  (a13:Fm K "lay_call" nQ)
  (a14:Fm K "lay_let" pQ)
  (a15:Fm K "lay_rec" pR)
  (a16:Fm K "lay_get" pT)
  (a17:Fm K "lay_tag" pU)
  (a18:Fm K "lay_case" nR)
  (a19:Fm K "lay_row" pV)
  (a20:Fm K "lay_at" rX)
  (a21:Fm K "lay_join" nT)
  (a22:Fm K "lay_size" nU)
  (a23:Fm K "lay_sum" pX)
  (a24:Fm K "lay_less" nV)
  (a25:Fm K "lay_numbers" kE)
  (a26:Fm K "_law_stem" mw)
  (a27:Fm K "_law_words" lD)
  (a28:Fm K "_law_alike" lE)
  (a29:Fm K "_law_leaf" mx)
  (a30:Fm K "_law_knit" my)
  (a31:Fm K "_law_pop" nX)
  (a32:Fm K "_law_number" kF)
  (a33:Fm K "_law_name" mz)
  (a34:Fm K "_law_most" mB)
  (a35:Fm K "_law_wide" mC)
  (a36:Fm K "_law_narrow" kG)
  (a37:Fm K "_law_let" nY)
  (a38:Fm K "_law_new" nZ)
  (a39:Fm K "_law_ended" lF)
  (a40:Fm K "_law_defined" jW)
  (a41:Fm K "_law_scoped" kH)
  (a42:Fm K "_law_home" mD)
  (a43:Fm K "_law_row" n8)
  (a44:Fm K "_law_flat" mE)
  (a45:Fm K "_law_built" lH)
  (a46:Fm K "_law_told" mF)
  (a47:Fm K "_law_moved" lI)
  (a48:Fm K "_law_shifted" jX)
  (a49:Fm K "_law_within" kI)
  (a50:Fm K "_law_crossing" jC)
  (c1:Cm K "Make" C1)
  (n1shape:cH K (.ref C1) "shape"=some none)
  (n1parts:cH K (.ref C1) "parts"=some none)
  (n1at:cH K (.ref C1) "at"=some none)
  (n1place:cH K (.ref C1) "place"=some none)
  (e51:Mm K C1 "__init__" "Make.__init__" jD)
  (e52:Mm K C1 "told" "Make.told" mG)
  (c2:Cm K "Use" C2)
  (n2at:cH K (.ref C2) "at"=some none)
  (n2place:cH K (.ref C2) "place"=some none)
  (n2slot:cH K (.ref C2) "slot"=some none)
  (e53:Mm K C2 "__init__" "Use.__init__" jk)
  (cg53:cQ K (.ref C2) "__getattribute__"=some (some (.builtin "type.__getattribute__")))
  (cr53:PySem.W.readsIn K C2 (.type "type")=true)
  (i53:cH K (.ref C2) "__init__"=some (some (.ref fU)))
  (cf53:PySem.W.findCls K (.ref C2) (.type "type") "__init__"=some (.val (.ref fU)))
  (c3:Cm K "NumUse" C3)
  (n3at:cH K (.ref C3) "at"=some none)
  (n3place:cH K (.ref C3) "place"=some none)
  (n3slot:cH K (.ref C3) "slot"=some none)
  (e54:Mm K C3 "told" "NumUse.told" kJ)
  (ii3:cH K (.ref C3) "__init__"=some (some (.ref fU)))
  (c4:Cm K "CallUse" C4)
  (n4arg:cH K (.ref C4) "arg"=some none)
  (n4out:cH K (.ref C4) "out"=some none)
  (n4at:cH K (.ref C4) "at"=some none)
  (n4place:cH K (.ref C4) "place"=some none)
  (n4slot:cH K (.ref C4) "slot"=some none)
  (e55:Mm K C4 "__init__" "CallUse.__init__" iQ)
  (e56:Mm K C4 "told" "CallUse.told" jY)
  (c5:Cm K "TakeUse" C5)
  (n5fields:cH K (.ref C5) "fields"=some none)
  (n5at:cH K (.ref C5) "at"=some none)
  (n5place:cH K (.ref C5) "place"=some none)
  (n5slot:cH K (.ref C5) "slot"=some none)
  (e57:Mm K C5 "__init__" "TakeUse.__init__" iR)
  (e58:Mm K C5 "told" "TakeUse.told" jZ)
  (c6:Cm K "CaseUse" C6)
  (n6arms:cH K (.ref C6) "arms"=some none)
  (n6at:cH K (.ref C6) "at"=some none)
  (n6place:cH K (.ref C6) "place"=some none)
  (n6slot:cH K (.ref C6) "slot"=some none)
  (e59:Mm K C6 "__init__" "CaseUse.__init__" iS)
  (e60:Mm K C6 "told" "CaseUse.told" ka)
  (c7:Cm K "RowUse" C7)
  (n7out:cH K (.ref C7) "out"=some none)
  (n7at:cH K (.ref C7) "at"=some none)
  (n7place:cH K (.ref C7) "place"=some none)
  (n7slot:cH K (.ref C7) "slot"=some none)
  (e61:Mm K C7 "__init__" "RowUse.__init__" jg)
  (e62:Mm K C7 "told" "RowUse.told" kK)
  (c8:Cm K "Board" C8)
  (n8points:cH K (.ref C8) "points"=some none)
  (n8makes:cH K (.ref C8) "makes"=some none)
  (n8uses:cH K (.ref C8) "uses"=some none)
  (n8flows:cH K (.ref C8) "flows"=some none)
  (n8root:cH K (.ref C8) "root"=some none)
  (e63:Mm K C8 "__init__" "Board.__init__" jq)
  (e64:Mm K C8 "point" "Board.point" kM)
  (e65:Mm K C8 "make" "Board.make" lJ)
  (e66:Mm K C8 "use" "Board.use" mH)
  (e67:Mm K C8 "flow" "Board.flow" lK)
  (e68:Mm K C8 "rooted" "Board.rooted" ke)
  (c9:Cm K "Laying" C9)
  (n9program:cH K (.ref C9) "program"=some none)
  (n9homes:cH K (.ref C9) "homes"=some none)
  (n9papers:cH K (.ref C9) "papers"=some none)
  (n9board:cH K (.ref C9) "board"=some none)
  (n9held:cH K (.ref C9) "held"=some none)
  (n9starts:cH K (.ref C9) "starts"=some none)
  (e69:Mm K C9 "__init__" "Laying.__init__" jh)
  (e70:Mm K C9 "lay_definition" "Laying.lay_definition" gN)
  (e71:Mm K C9 "lay" "Laying.lay" lM)
  (c10:Cm K "Program" C10)
  (n10names:cH K (.ref C10) "names"=some none)
  (n10roots:cH K (.ref C10) "roots"=some none)
  (n10rows:cH K (.ref C10) "rows"=some none)
  (e72:Mm K C10 "__init__" "Program.__init__" iT)
  (z_all:dB K mainGlobals "all"=some none)
  (z_bool:dB K mainGlobals "bool"=some none)
  (z_enumerate:dB K mainGlobals "enumerate"=some none)
  (z_int:dB K mainGlobals "int"=some none)
  (z_isinstance:dB K mainGlobals "isinstance"=some none)
  (z_len:dB K mainGlobals "len"=some none)
  (z_list:dB K mainGlobals "list"=some none)
  (z_max:dB K mainGlobals "max"=some none)
  (z_range:dB K mainGlobals "range"=some none)
  (z_str:dB K mainGlobals "str"=some none)
  (z_sum:dB K mainGlobals "sum"=some none)
  (z_tuple:dB K mainGlobals "tuple"=some none)
  (z_zip:dB K mainGlobals "zip"=some none)
  (w0:dB K mainGlobals "lay_num"=some (some (.ref fW0)))
  (w1:dB K mainGlobals "lay_name"=some (some (.ref fW1)))
  (w2:dB K mainGlobals "lay_fn"=some (some (.ref fW2)))
  (w3:dB K mainGlobals "lay_call"=some (some (.ref fW3)))
  (w4:dB K mainGlobals "lay_let"=some (some (.ref fW4)))
  (w5:dB K mainGlobals "lay_rec"=some (some (.ref fW5)))
  (w6:dB K mainGlobals "lay_get"=some (some (.ref fW6)))
  (w7:dB K mainGlobals "lay_tag"=some (some (.ref fW7)))
  (w8:dB K mainGlobals "lay_case"=some (some (.ref fW8)))
  (w9:dB K mainGlobals "lay_row"=some (some (.ref fW9)))
  (w10:dB K mainGlobals "lay_at"=some (some (.ref fW10)))
  (w11:dB K mainGlobals "lay_join"=some (some (.ref fW11)))
  (w12:dB K mainGlobals "lay_size"=some (some (.ref fW12)))
  (w13:dB K mainGlobals "lay_sum"=some (some (.ref fW13)))
  (w14:dB K mainGlobals "lay_less"=some (some (.ref fW14)))
  (gW:dB K mainGlobals "LAYERS"=some (some (.ref pW)))
  (sW:(pW==sysModules)=false)
  (hW:K.lookup pW=some ⟨.type "dict",none,.dict #[⟨PyData.keyHash w.params "num",.str "num" tW0,.ref fW0⟩,⟨PyData.keyHash w.params "name",.str "name" tW1,.ref fW1⟩,⟨PyData.keyHash w.params "fn",.str "fn" tW2,.ref fW2⟩,⟨PyData.keyHash w.params "call",.str "call" tW3,.ref fW3⟩,⟨PyData.keyHash w.params "let",.str "let" tW4,.ref fW4⟩,⟨PyData.keyHash w.params "rec",.str "rec" tW5,.ref fW5⟩,⟨PyData.keyHash w.params "get",.str "get" tW6,.ref fW6⟩,⟨PyData.keyHash w.params "tag",.str "tag" tW7,.ref fW7⟩,⟨PyData.keyHash w.params "case",.str "case" tW8,.ref fW8⟩,⟨PyData.keyHash w.params "row",.str "row" tW9,.ref fW9⟩,⟨PyData.keyHash w.params "at",.str "at" tW10,.ref fW10⟩,⟨PyData.keyHash w.params "join",.str "join" tW11,.ref fW11⟩,⟨PyData.keyHash w.params "size",.str "size" tW12,.ref fW12⟩,⟨PyData.keyHash w.params "add",.str "add" tW13,.ref fW13⟩,⟨PyData.keyHash w.params "sub",.str "sub" tW14,.ref fW13⟩,⟨PyData.keyHash w.params "less",.str "less" tW15,.ref fW14⟩] nW,#[]⟩)
  (aL:dB K mainGlobals "law"=some (some (.ref fL))) (lL:K.lookup fL=some ⟨ocL,odL,.func (dw "law" "law" (iO rY) (gT rY) (eW rY) .none kVL dcL pmL anL cdL ctL),slL⟩) (cL:dy K cdL "law"=true) (kL:cR K (.ref fL)=true):
  ∃fd:FuncData,(∀(s:Shared) (v:Value),BindsTo s fd ⟨[v],[]⟩ [("_law_script",v)])/\∀base:Heap,K.In base->base.Ns mainGlobals mg->qu l.prog w K mg base CX0 300 fa fd ["_law_script"] (vz K):=by
 have e:=hfa.symm.trans (dC X G aL)
 cases e
 have x53:Mx K C2 "__init__" "Use.__init__" jk ["self","at","place","slot"]:=e53.x
 have T:Txt K mg:=⟨a1.x X G,a2.x X G,a3.x X G,a4.x X G,a5.x X G,a6.x X G,Classical.choice (by obtain⟨a,l,c,k,t⟩:=a7;exact⟨⟨_,_,yB l c k t,(yB l c k t).binds (ps:=["program","homes","which","papers"]) (fun _ _ _ _ _ _ _ us hl=>match us,hl with|[_,_,_],_=>⟨_,rfl,rfl⟩),dC X G a,k⟩⟩),a8.x X G,a9.x X G,a10.x X G,a11.x X G,a12.x X G,a13.x X G,a14.x X G,a15.x X G,a16.x X G,a17.x X G,a18.x X G,a19.x X G,a20.x X G,a21.x X G,a22.x X G,a23.x X G,a24.x X G,a25.x X G,a26.x X G,a27.x X G,a28.x X G,a29.x X G,a30.x X G,a31.x X G,a32.x X G,a33.x X G,a34.x X G,a35.x X G,a36.x X G,a37.x X G,a38.x X G,a39.x X G,a40.x X G,a41.x X G,a42.x X G,a43.x X G,a44.x X G,a45.x X G,a46.x X G,a47.x X G,a48.x X G,a49.x X G,a50.x X G,c1.x X G,n1shape,n1parts,n1at,n1place,e51.x,c1.k e51.x,e52.x,c2.x X G,n2at,n2place,n2slot,x53,⟨cg53,⟨_,cr53,sf i53 x53.me.at_▸cf53⟩,x53.me.kp⟩,c2.k x53,c3.x X G,n3at,n3place,n3slot,e54.x,⟨c3.ms,sf i53 x53.me.at_▸ii3,x53.me.fn,c3.kc⟩,c4.x X G,n4arg,n4out,n4at,n4place,n4slot,e55.x,c4.k e55.x,e56.x,c5.x X G,n5fields,n5at,n5place,n5slot,e57.x,c5.k e57.x,e58.x,c6.x X G,n6arms,n6at,n6place,n6slot,e59.x,c6.k e59.x,e60.x,c7.x X G,n7out,n7at,n7place,n7slot,e61.x,c7.k e61.x,e62.x,c8.x X G,n8points,n8makes,n8uses,n8flows,n8root,e63.x,c8.k e63.x,e64.x,e65.x,e66.x,e67.x,e68.x,c9.x X G,n9program,n9homes,n9papers,n9board,n9held,n9starts,e69.x,c9.k e69.x,e70.x,e71.x,c10.x X G,n10names,n10roots,n10rows,e72.x,c10.k e72.x,dD X G z_all,dD X G z_bool,dD X G z_enumerate,dD X G z_int,dD X G z_isinstance,dD X G z_len,dD X G z_list,dD X G z_max,dD X G z_range,dD X G z_str,dD X G z_sum,dD X G z_tuple,dD X G z_zip⟩
 have z:=(dC X G w0).symm.trans T.d8.m
 cases z
 have z:=(dC X G w1).symm.trans T.d9.m
 cases z
 have z:=(dC X G w2).symm.trans T.d12.m
 cases z
 have z:=(dC X G w3).symm.trans T.d13.m
 cases z
 have z:=(dC X G w4).symm.trans T.d14.m
 cases z
 have z:=(dC X G w5).symm.trans T.d15.m
 cases z
 have z:=(dC X G w6).symm.trans T.d16.m
 cases z
 have z:=(dC X G w7).symm.trans T.d17.m
 cases z
 have z:=(dC X G w8).symm.trans T.d18.m
 cases z
 have z:=(dC X G w9).symm.trans T.d19.m
 cases z
 have z:=(dC X G w10).symm.trans T.d20.m
 cases z
 have z:=(dC X G w11).symm.trans T.d21.m
 cases z
 have z:=(dC X G w12).symm.trans T.d22.m
 cases z
 have z:=(dC X G w13).symm.trans T.d23.m
 cases z
 have z:=(dC X G w14).symm.trans T.d24.m
 cases z
 exact⟨dw "law" "law" (iO rY) (gT rY) (eW rY) .none kVL dcL pmL anL cdL ctL,fun s v=> .of_eq rfl,fun base _ _=>Dh T (GR T (dC X G gW) sW hW) (tj (st:=rY) lL cL kL)⟩
theorem walk {l:PySem.W.OpenLaw} {q:Program} {loose:List Str} {XP:(Str->Option Value)->Heap->Prop} {YP:World->Heap->Prop} {d:DefRec} {K:Params->PySem.W.Frag} (hn:l.most=some 63) (hdf:d.params.defaults=[])
  (hY:∀(w:World) (h:Heap),YP w h->(K w.params).In h)
  (F:∀(w:World) (mg:Str->Option Value) (fa:Addr) (h:Heap),(K w.params).In h->h.Ns mainGlobals mg->mg d.name=some (.ref fa)->
   ∃fd:FuncData,(∀(s:Shared) (u:Value),BindsTo s fd ⟨[u],[]⟩ [("_law_script",u)])/\∀base:Heap,(K w.params).In base->base.Ns mainGlobals mg->qu l.prog w (K w.params) mg base CX0 300 fa fd ["_law_script"] (vz (K w.params))):
  PySem.W.WalkO q loose XP YP l.row.toRowW d [] (fun f vs=>PySem.call f vs):=
 L2.Internal.walk_of (n:=63) (k:=300) (x:="_law_script") (CX:=fun _=>CX0) (sp:=fun w=>vz (K w.params)) hn (by decide) hdf ⟨rfl,by decide,by decide⟩ hY F (fun _ _ a ns hl _ hS=>⟨a,ns,rfl,hS,hl,fun _=>rfl⟩) fun _ _ _ _ _ z=>z
end K23.Internal
open PySem PySem.W PyProof.Rows
set_option maxRecDepth 100000 in
set_option maxHeartbeats 0 in
theorem PySem.Challenge.cw_flowkinds_k23_a_definition_laid_anew_holds : PySem.Challenge.rw_flowkinds_k23_a_definition_laid_anew.Holds := by
 w_on; o_law; k_head; (case hw => w_witness2)
 k_fill
 refine K23.Internal.walk (l := PySem.Challenge.rw_flowkinds_k23_a_definition_laid_anew) rfl rfl (fun w h Y => PySem.W.kIn_of Y) ?F
 case F =>
  intro w mg fa h KX G hmg
  apply K23.Internal.all_mk KX G hmg
  all_goals first | (apply K23.Internal.Dm.mk <;> k_is) | (apply K23.Internal.Fm.mk <;> k_is) | (apply K23.Internal.Mm.mk <;> k_is) | (apply K23.Internal.Cm.mk <;> k_is) | k_is | rfl
