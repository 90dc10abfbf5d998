import PyProof.Rows.All
import Wide.All
import OpenK.AllK
import Wide.FinOn
import Lean
import PyProof.EqAt
import PyProof.EqKinds
import PyProof.TupleCall
import PyProof.NeKinds
import PySem.Challenge.RW_flowkinds_k27_every_laying
set_option Elab.async false
set_option linter.all false
set_option maxRecDepth 100000
set_option maxHeartbeats 4000000
set_option genInjectivity false
set_option genSizeOf false
set_option bootstrap.genMatcherCode false
set_option compiler.extract_closed false
theorem fJ {c:Prop} {h:Decidable c} (hnc:¬c) {α:Sort u} {t e:α}:(ite c t e)=e:=if_neg hnc
theorem fY {c:Prop} {h:Decidable c} (hc:c) {α:Sort u} {t e:α}:(ite c t e)=t:=if_pos hc
theorem gM {p:Prop} [Decidable p] (h:p):decide p=true:=decide_eq_true h
theorem gk {p:Prop} [Decidable p] (h:¬p):decide p=false:=decide_eq_false h
theorem fo {p:Prop} (h:p:=by decide+kernel):p:=h
theorem ki:0<=PySem.sizeLine:=by decide
theorem kO:1<=PySem.sizeLine:=by decide
theorem jO:2<=PySem.sizeLine:=by decide
theorem sU:3<=PySem.sizeLine:=by decide
theorem qB:4<=PySem.sizeLine:=by decide
theorem AE:5<=PySem.sizeLine:=by decide
theorem EO:6<=PySem.sizeLine:=by decide
open List renaming all_cons→aT,any_cons→aP,append_assoc→bE,append_cancel_left→bN,append_nil→aB,cons_append→aQ,drop_length→bC,filterMap_cons→af,find?_cons→aO,forIn_cons→bq,forIn_nil→br,forall_mem_cons→bB,getD_eq_getElem?_getD→bj,getElem?_append_left→aH,getElem?_append_right→aG,getElem?_cons_succ→bg,getElem?_drop→bF,getElem?_eq_getElem→aZ,getElem?_eq_none_iff→bu,getElem?_eq_some_iff→ao,getElem?_map→aI,getElem?_set_ne→ar,getElem?_set_self→aq,getElem?_take_of_lt→aJ,getElem?_toArray→bt,getElem?_zip_eq_some→bG,length_append→aM,length_cons→ax,length_drop→aS,length_dropLast→aV,length_map→aA,length_range→bP,length_replicate→aN,length_singleton→aU,length_take→aF,length_zip→bJ,lookup→ay,lookup_cons→aW,map→bc,map_append→bz,map_cons→az,map_map→bb,map_nil→aR,mem_append→aj,mem_append_left→ak,mem_append_right→av,mem_cons→ai,mem_cons_of_mem→ah,mem_cons_self→ag,mem_iff_getElem?→bA,mem_map→ba,mem_map_of_mem→bD,mem_of_getElem?→aK,mem_range→ae,mem_singleton→aY,nodup_cons→aC,not_mem_nil→bf,of_mem_zip→aD,range→aa,range_succ→bO,range_succ_eq_map→aX,replicate→aE,replicate_succ'→bQ,set_append_right→bM,set_set→bw,size_toArray→aw,take_length→bI,take_of_length_le→bK,take_succ→bH,take_succ_cons→bL,zipIdx_cons→bo,zipIdx_nil→bp
open Nat renaming add_assoc→b6,le_add_right→bZ,le_of_lt→bV,le_refl→bX,le_trans→bU,lt_irrefl→bS,lt_of_lt_of_le→bR,mul_assoc→cc,ne_of_gt→bW,ne_of_lt→bT,not_lt_zero→cb,sub_self→b0,zero_add→b9,zero_le→bY
open Option renaming isSome_iff_exists→cg,map_eq_some_iff→cm,map_some→ck,some→cf
open PySem.W renaming callWith_K→cW,callWith_K0→cY,cellsFrom_some→cZ,codeIn→dh,emptyDict→cH,findIn→cB,fnOf→dg,hasDictIn→cz,instObj→cq,isFn→cD,keepIn→cK,kia_one→cN,kia_tup→di,kitOne→cM,kitx_bool→cP,kitx_dict→cU,kitx_float→cQ,kitx_list→cR,kitx_none→cO,kitx_tuple→cS,lookIn→cx,makesIn→cG,methodCall_KW→cX,methodObj→cu,mg_none_of→du,mg_of→dq,nsIn→dj,plainGet→cy,plainGet_of→cC,plainOver→cE,specialIn→cJ,takerIn→cF
open PySem.F renaming args_tuple_add_2→dB,entry_tuple_add→dA,plainAttrs_list→dD,slot_dict_getitem→dw,slot_list_append→dE,slot_list_index→dC,slot_list_pop→dG,slot_tuple_add→dy,type_list_append→dF,type_list_pop→dH
open Bool renaming and_eq_true→dM,eq_iff_iff→dI,false_ne_true→dJ,false_xor→dO,or_false→dN,true_xor→dP
open Array renaming length_toList→dQ
open Int renaming emod_lt_of_pos→dU,emod_nonneg→dS,toNat_natCast→dR,zero_add→dW
open PySem.Heap renaming get?_push_of_some→dZ,get?_push_size→dY,get?_update_other→eg,get?_update_self→ee,lt_size→dX,size_push→d7
open PyProof.Rows renaming callWith_type1→eB,slot_tuple_getitem→eC
noncomputable section
namespace L2.Internal
theorem auR (h:True=True:=by rfl):True:=trivial
theorem auD (h:True:=by decide):True:=trivial
theorem auI (h:True->True=True:=by intro _;rfl):True:=trivial
theorem auL (h:True=True\/True:=by first|exact .inl rfl|exact .inr rfl|assumption):True:=trivial
open PySem PySem.Spec PyProof.Rows
abbrev Key:=Sum Int Str
def wb:Key->Value->Bool
 | .inl k,v=>Value.isInt k v
 | .inr x,v=>Value.isStrOf x v
def keyH (w:World):Key->Int
 | .inl k=>hashInt k
 | .inr x=>hashStr w x
theorem gK:∀{k:Key} {v:Value},wb k v=true->(∃i t,k=Sum.inl i/\v=Value.int i t)\/(∃x t,k=Sum.inr x/\v=Value.str x t)
 | .inl i,v,h=>by
  obtain⟨t,e⟩:=Value.isInt_shape (k:=i) (v:=v) h
  exact .inl ⟨i,t,rfl,e⟩
 | .inr x,v,h=>by
  obtain⟨t,e⟩:=Value.isStrOf_shape (x:=x) (v:=v) h
  exact .inr ⟨x,t,rfl,e⟩
theorem xo (i:Int) (t:Tok):wb (.inl i) (.int i t)=true:=by simp[wb,Value.isInt]
theorem pk (x:Str) (t:Tok):wb (.inr x) (.str x t)=true:=by simp[wb,Value.isStrOf]
theorem Dh (a b:Int):decide ((Sum.inl a:Key)=Sum.inl b)=(a==b):=by
 by_cases e:a=b
 ·subst e;simp
 ·have h:¬(Sum.inl a:Key)=Sum.inl b:=fun q=>e (Sum.inl.inj q)
  rw[gk h]
  exact(beq_eq_false_iff_ne.mpr e).symm
theorem Di (a b:Str):decide ((Sum.inr a:Key)=Sum.inr b)=decide (a=b):=by
 by_cases e:a=b
 ·subst e;simp
 ·have h:¬(Sum.inr a:Key)=Sum.inr b:=fun q=>e (Sum.inr.inj q)
  rw[gk h,gk e]
theorem Dj (a:Int) (b:Str):decide ((Sum.inl a:Key)=Sum.inr b)=false:=gk (fun q=>nomatch q)
theorem Dk (a:Str) (b:Int):decide ((Sum.inr a:Key)=Sum.inl b)=false:=gk (fun q=>nomatch q)
def iH (prog:Program) (w:World):PySem.KeyKind prog w Key where
 is:=wb
 hash:=keyH w
 inj:=fun v a b ha hb=>by
  rcases gK ha with⟨i,t,rfl,rfl⟩|⟨x,t,rfl,rfl⟩
  ·rcases gK hb with⟨j,u,rfl,e⟩|⟨y,u,rfl,e⟩
   ·injection e with e1 _;rw[e1]
   ·exact nomatch e
  ·rcases gK hb with⟨j,u,rfl,e⟩|⟨y,u,rfl,e⟩
   ·exact nomatch e
   ·injection e with e1 _;rw[e1]
 byValue:=fun k v h=>by
  rcases gK h with⟨i,t,rfl,rfl⟩|⟨x,t,rfl,rfl⟩<;>rfl
 pyHash:=fun hv h=>by
  rcases gK hv with⟨i,t,rfl,rfl⟩|⟨x,t,rfl,rfl⟩
  ·exact wpAny_pyHash_int h
  ·exact wpAny_pyHash_str h
 eqBool:=fun hu hv h=>by
  rcases gK hu with⟨i,t,rfl,rfl⟩|⟨x,t,rfl,rfl⟩
  ·rcases gK hv with⟨j,u,rfl,rfl⟩|⟨y,u,rfl,rfl⟩
   ·rw[Dh]at h;exact wpAny_eqBool_int h
   ·rw[Dj]at h;exact SeqAt.EqAt.int_str i t y u _ _ _ _ h
  ·rcases gK hv with⟨j,u,rfl,rfl⟩|⟨y,u,rfl,rfl⟩
   ·rw[Dk]at h;exact SeqAt.EqAt.str_int x t j u _ _ _ _ h
   ·rw[Di]at h;exact wpAny_eqBool_str h
 «strs»:=fun k x t v h=>by
  rcases gK h with⟨i,u,rfl,e⟩|⟨y,u,rfl,e⟩
  ·exact nomatch e
  ·injection e with e1 _
   subst e1
   cases v<;>rfl
theorem uB (prog:Program) (w:World) (i:Int) (t:Tok):(iH prog w).is (.inl i) (.int i t)=true:=xo i t
theorem uC (prog:Program) (w:World) (x:Str) (t:Tok):(iH prog w).is (.inr x) (.str x t)=true:=pk x t
end L2.Internal
namespace L2.Internal
open PySem PySem.Spec PyProof.Rows
set_option genInjectivity true in
inductive V where
 |non|bl (b:Bool)|int (i:Int)|str (x:Str)|byt (b:Array UInt8)|flt (b:UInt64)|ref (a:Addr)|ty (n:String)
 deriving DecidableEq
def gN:V->Value->Prop
 | .non,u=>u=Value.none
 | .bl b,u=>u=Value.bool b
 | .int i,u=>∃t,u=Value.int i t
 | .str x,u=>∃t,u=Value.str x t
 | .byt b,u=>∃t,u=Value.bytes b t
 | .flt b,u=>∃t,u=Value.float b t
 | .ref a,u=>u=Value.ref a
 | .ty n,u=>u=Value.type n
abbrev gG:List V->List Value->Prop:=Paired gN
theorem gG.length {xs:List V} {us:List Value} (r:gG xs us):xs.length=us.length:=Paired.length r
theorem gG.get:∀{xs:List V} {us:List Value} {i:Nat} {x:V},gG xs us->xs[i]?=some x->∃u,us[i]?=some u/\gN x u
 |_,_,_,_,.nil,e=>by simp at e
 |_,_,0,_,.cons r _,e=>by simp at e;subst e;exact⟨_,rfl,r⟩
 |_,_,i+ 1,x,.cons _ t,e=>by
  obtain⟨u,h1,h2⟩:=gG.get (i:=i) (x:=x) t (by simpa using e)
  exact⟨u,by simpa using h1,h2⟩
theorem gG.set {x:V} {u:Value} (r:gN x u):∀{xs:List V} {us:List Value} (i:Nat),gG xs us->gG (xs.set i x) (us.set i u)
 |_,_,_,.nil=> .nil
 |_,_,0,.cons _ t=> .cons r t
 |_,_,i+ 1,.cons q t=> .cons q (gG.set r i t)
theorem gG.append:∀{xs ys:List V} {us ws:List Value},gG xs us->gG ys ws->gG (xs++ys) (us++ws)
 |_,_,_,_,.nil,s=>s
 |_,_,_,_,.cons r t,s=> .cons r (gG.append t s)
theorem gG.take:∀{xs:List V} {us:List Value} (n:Nat),gG xs us->gG (xs.take n) (us.take n)
 |_,_,0,_=> .nil
 |_,_,_+ 1,.nil=> .nil
 |_,_,n+ 1,.cons r t=> .cons r (gG.take n t)
theorem gG.drop:∀{xs:List V} {us:List Value} (n:Nat),gG xs us->gG (xs.drop n) (us.drop n)
 |_,_,0,r=>r
 |_,_,_+ 1,.nil=> .nil
 |_,_,n+ 1,.cons _ t=>gG.drop n t
def rJ:Option V->Option Value->Prop
 |some v,some u=>gN v u
 |none,none=>True
 |_,_=>False
def KV {κ:Type}:List (κ×V)->List (κ×Value)->Prop:=Paired fun(p:κ×V) (q:κ×Value)=>p.1=q.1/\gN p.2 q.2
def kV:Key->V
 | .inl i=> .int i
 | .inr x=> .str x
inductive HO where
 |lst (xs:List V)
 |tup (xs:List V)
 |dK (kvs:List (Key×V))|dT (kvs:List (List Key×V))
 |set (S:Int->Bool) (n:Nat)
 |ins (C dx:Addr) (fs:List (Str×V))
 |own (x:Addr)
 |xd (fs:List (Str×V))
 |met (f x:Addr)
 |rng (lo hi:Int)
 |frz (o:Obj) (u:HO)
 |tbl (ps:Array Value)
 |ext (φ:Heap->Prop)
abbrev Hp:=Addr->Option HO
def uw (h:Heap) (a:Addr) (items:Array Value):Prop:=∃o,h.get? a=some o/\o.cls= .type "tuple"/\∃n,o.data= .seq items n/\o.dict=none
theorem uw.tup {h:Heap} {a:Addr} {items:Array Value}:uw h a items->IsTup h a items
 |⟨o,h1,h2,n,h3,_⟩=>⟨o,h1,h2,n,h3⟩
theorem uw.lt {h:Heap} {a:Addr} {items:Array Value} (p:uw h a items):a<h.objs.size:=by
 obtain⟨o,e,_⟩:=p
 exact dX e
theorem uw.new (h:Heap) (items:Array Value):uw (h.push {cls:= .type "tuple",data:= .seq items}) h.objs.size items:=⟨_,dY _ rfl,rfl,_,rfl,rfl⟩
def upd (H:Hp) (a:Addr) (o:HO):Hp:=fun b=>if b=a then some o else H b
theorem eG {H:Hp} {a:Addr} {o:HO}:upd H a o a=some o:=by unfold upd;rw[fY rfl]
theorem eN {H:Hp} {a b:Addr} {o:HO} (h:b≠a):upd H a o b=H b:=by unfold upd;rw[fJ h]
theorem f7 {H:Hp} {a:Addr} {o u:HO}:upd (upd H a o) a u=upd H a u:=by
 funext b;unfold upd;split<;>rfl
theorem jh {H:Hp} {a b:Addr} {o u:HO} (h:H a=some o) (h':H b=some u) (d:o≠u):a≠b:=by
 intro e;subst e;rw[h]at h';exact d (cf.inj h')
theorem eT {H:Hp} {a b:Addr} {o:HO} (h:H a=some o) (h':H b=none):a≠b:=by
 intro e;subst e;rw[h]at h';cases h'
section
variable (P:Program) (w:World)
def hG (H:Hp) (h:Heap) (a:Addr):HO->Prop
 | .lst xs=>xs.length<=sizeLine/\∃(its:List Value) (n:Nat),gG xs its/\h.get? a=some {cls:= .type "list",data:= .seq its.toArray n}
 | .tup xs=>xs.length<=sizeLine/\∃its:List Value,gG xs its/\uw h a its.toArray
 | .dK kvs=>kvs.length<=sizeLine/\(a==sysModules)=false/\∃vs,KV kvs vs/\h.DictOf (iH P w) a vs
 | .dT kvs=>kvs.length<=sizeLine/\(a==sysModules)=false/\∃xs:List (List Key×Addr×Value),
   Paired (fun(p:List Key×V) (q:List Key×Addr×Value)=>p.1=q.1/\H q.2.1=some (.tup (p.1.map kV))/\gN p.2 q.2.2) kvs xs/\
   ∃o es ep,h.get? a=some o/\o.ExactDict/\o.data= .dict es ep/\es.toList=xs.map (entryOfKey (tupleKind (iH P w)))/\(xs.map (·.1)).Nodup
 | .set S n=>h.SetOf (intKind P w) a S n
 | .ins C dx fs=>H dx=some (.own a)/\fs.length<=1000/\dx≠a/\h.get? a=some (cq C dx)/\
   ∃mA,h.Ns1 dx mA/\(∀f,rJ (fs.lookup f) (mA f))/\PySem.Within mA (fs.map (·.1))
 | .own _=>∃o,h.get? a=some o
 | .xd fs=>∃mA,h.Ns1 a mA/\∀f,rJ (fs.lookup f) (mA f)
 | .rng lo hi=>∃t u v,h.get? a=some {cls:= .type "range",data:= .fields #[.int lo t,.int hi u,.int 1 v]}
 | .frz o u=>h.get? a=some o/\hG H h a u
 | .tbl ps=>h.get? a=some {cls:= .none,data:= .fields ps}
 | .met f x=>h.get? a=some (cu (.ref f) (.ref x))
 | .ext φ=>φ h/\(∃o,h.get? a=some o)/\∀h1 h2:Heap,φ h1->(∀o,h1.get? a=some o->h2.get? a=some o)->φ h2
def HOk (H:Hp) (h:Heap):Prop:=∀a o,H a=some o->hG P w H h a o
end
section
variable {P:Program} {w:World} {H H':Hp} {h h':Heap} {a:Addr} {o:HO}
theorem hG.lt (x:hG P w H h a o):a<h.objs.size:=by
 cases o with
 |lst xs=>obtain⟨_,_,_,_,e⟩:=x;exact dX e
 |tup xs=>obtain⟨_,_,_,p⟩:=x;exact p.lt
 |dK kvs=>obtain⟨_,_,_,_,o,_,_,e,_⟩:=x;exact dX e
 |dT kvs=>obtain⟨_,_,_,_,o,_,_,e,_⟩:=x;exact dX e
 |set S n=>obtain⟨o,_,_,_,e,_⟩:=x;exact dX e
 |ins C dx fs=>obtain⟨_,_,_,e,_⟩:=x;exact dX e
 |own y=>obtain⟨_,e⟩:=x;exact dX e
 |xd fs=>obtain⟨_,⟨_,_,_,e,_⟩,_⟩:=x;exact dX e
 |rng lo hi=>obtain⟨_,_,_,e⟩:=x;exact dX e
 |frz ob u=>obtain⟨e,_⟩:=x;exact dX e
 |tbl ps=>exact dX (show h.get? a=some _ from x)
 |met f y=>exact dX (show h.get? a=some _ from x)
 |ext φ=>obtain⟨_,⟨_,e⟩,_⟩:=x;exact dX e
theorem Paired.mapP {α β:Type} {F G:α->β->Prop}:∀{l₁:List α} {l₂:List β},Paired F l₁ l₂->(∀a b,F a b->G a b)->Paired G l₁ l₂
 |_,_,.nil,_=> .nil
 |_,_,.cons r t,f=> .cons (f _ _ r) (Paired.mapP t f)
theorem hG.stay (x:hG P w H h a o) (k:∀b u,(b=a\/H b=some (.own a))->h.get? b=some u->h'.get? b=some u)
  (ho:∀b,H b=some (.own a)->H' b=some (.own a)) (ht:∀b xs,H b=some (.tup xs)->H' b=some (.tup xs)):hG P w H' h' a o:=by
 induction o with
 |lst xs=>obtain⟨z,its,n,r,e⟩:=x;exact⟨z,its,n,r,k _ _ (.inl rfl) e⟩
 |tup xs=>obtain⟨z,its,r,ob,e,c⟩:=x;exact⟨z,its,r,ob,k _ _ (.inl rfl) e,c⟩
 |dK kvs=>obtain⟨z,y,vs,r,ob,es,ep,e,c⟩:=x;exact⟨z,y,vs,r,ob,es,ep,k _ _ (.inl rfl) e,c⟩
 |dT kvs=>
  obtain⟨z,y,xs,r,ob,es,ep,e,c⟩:=x
  exact⟨z,y,xs,Paired.mapP r fun p q z=>⟨z.1,ht _ _ z.2.1,z.2.2⟩,ob,es,ep,k _ _ (.inl rfl) e,c⟩
 |set S n=>obtain⟨ob,es,ep,t,e,c⟩:=x;exact⟨ob,es,ep,t,k _ _ (.inl rfl) e,c⟩
 |ins C dx fs=>
  obtain⟨d,z,ne,e,mA,⟨od,es,ep,e2,c⟩,r⟩:=x
  exact⟨ho _ d,z,ne,k _ _ (.inl rfl) e,mA,⟨od,es,ep,k _ _ (.inr d) e2,c⟩,r⟩
 |own y=>obtain⟨ob,e⟩:=x;exact⟨ob,k _ _ (.inl rfl) e⟩
 |xd fs=>obtain⟨mA,⟨od,es,ep,e,c⟩,r⟩:=x;exact⟨mA,⟨od,es,ep,k _ _ (.inl rfl) e,c⟩,r⟩
 |rng lo hi=>obtain⟨t,u,v,e⟩:=x;exact⟨t,u,v,k _ _ (.inl rfl) e⟩
 |frz ob u ih=>obtain⟨e,q⟩:=x;exact⟨k _ _ (.inl rfl) e,ih q⟩
 |tbl ps=>
  have e:h.get? a=some {cls:= .none,data:= .fields ps}:=x
  show h'.get? a=some {cls:= .none,data:= .fields ps}
  exact k a _ (.inl rfl) e
 |met f y=>
  have e:h.get? a=some (cu (.ref f) (.ref y)):=x
  show h'.get? a=some (cu (.ref f) (.ref y))
  exact k a _ (.inl rfl) e
 |ext φ=>obtain⟨p,⟨o,e⟩,st⟩:=x;exact⟨st _ _ p fun o q=>k _ _ (.inl rfl) q,⟨o,k _ _ (.inl rfl) e⟩,st⟩
theorem HOk.lt (x:HOk P w H h) (e:H a=some o):a<h.objs.size:=(x a o e).lt
theorem HOk.fresh (x:HOk P w H h) (e:h.objs.size<=a):H a=none:=by
 cases q:H a with
 |none=>rfl
 |some u=>exact absurd (bR (x.lt q) e) (bS _)
theorem HOk.kept (x:HOk P w H h) (k:∀b u,h.get? b=some u->h'.get? b=some u):HOk P w H h':=fun a o e=>
 (x a o e).stay (fun b u _ q=>k b u q) (fun _ q=>q) fun _ _ q=>q
theorem HOk.laid (x:HOk P w H h) (k:∀b u,h.get? b=some u->h'.get? b=some u) (hp:h.objs.size<=a) (new:hG P w (upd H a o) h' a o):HOk P w (upd H a o) h':=fun b u e=>by
 have hn:=x.fresh hp
 by_cases hb:b=a
 ·subst hb;rw[eG]at e;cases e;exact new
 ·rw[eN hb]at e
  exact(x b u e).stay (fun c v _ q=>k c v q) (fun c q=>by rw[eN (eT q hn)];exact q) fun c xs q=>by rw[eN (eT q hn)];exact q
end
def Rd (H:Hp) (a:Addr) (u:HO):Prop:=H a=some u\/∃o,H a=some (.frz o u)
theorem Rd.ok {P:Program} {w:World} {H:Hp} {h:Heap} {a:Addr} {u:HO} (r:Rd H a u) (x:HOk P w H h):hG P w H h a u:=by
 rcases r with r|⟨o,r⟩
 ·exact x a u r
 ·obtain⟨_,q⟩:=x a _ r
  exact q
def Mut:Option HO->Prop
 |some (.lst _)=>True
 |some (.dK _)=>True
 |some (.dT _)=>True
 |some (.set _ _)=>True
 |some (.ins _ _ _)=>True
 |some (.ext _)=>True
 |_=>False
section
variable {P:Program} {w:World} {H:Hp} {h h':Heap} {x e:Addr} {o':HO}
theorem HOk.write (ok:HOk P w H h) (mu:Mut (H x)) (he:e=x\/H e=some (.own x)) (k:∀b u,b≠e->h.get? b=some u->h'.get? b=some u) (heo:∃u,h'.get? e=some u)
  (new:hG P w (upd H x o') h' x o'):HOk P w (upd H x o') h':=fun b u q=>by
 have nown:∀c y,H c=some (.own y)->c≠x:=fun c y r z=>by subst z;rw[r]at mu;exact mu
 have ntup:∀c xs,H c=some (.tup xs)->c≠x:=fun c xs r z=>by subst z;rw[r]at mu;exact mu
 by_cases hb:b=x
 ·subst hb;rw[eG]at q;cases q;exact new
 ·rw[eN hb]at q
  by_cases hbe:b=e
  ·have q':H b=some (.own x):=by
    rcases he with z|z
    ·exact absurd (hbe.trans z) hb
    ·rw[hbe];exact z
   rw[q]at q';cases q'
   obtain⟨v,hv⟩:=heo
   exact⟨v,by rw[hbe];exact hv⟩
  ·refine(ok b u q).stay (fun c v hc r=>k c v ?_ r) (fun c r=>by rw[eN (nown c b r)];exact r) fun c xs r=>by rw[eN (ntup c xs r)];exact r
   rcases hc with rfl|hc
   ·exact hbe
   ·rintro rfl
    rcases he with z|z
    ·exact nown c b hc z
    ·rw[hc]at z;cases z;exact hb rfl
end
structure Un (fs ex:List Addr) (H H':Hp) (h h':Heap):Prop where
 keep:∀b o,h.get? b=some o->H b=none->b∉fs->b∉ex->h'.get? b=some o
 slot:∀b o,h.get? b=some o->H b=none->b∈fs->b∉ex->∃sl,h'.get? b=some {o with slots:=sl}
 free:∀b o,h.get? b=some o->H b=none->b∉ex->H' b=none
 there:∀b o,h.get? b=some o->b∉ex->∃o',h'.get? b=some o'
 tups:∀b xs,H b=some (.tup xs)->H' b=some (.tup xs)
 frzs:∀b o u,H b=some (.frz o u)->H' b=some (.frz o u)
 tbls:∀b ps,H b=some (.tbl ps)->∃more,H' b=some (.tbl (ps++more))
section
variable {fs fs' ex ex':List Addr} {H H1 H2:Hp} {h h1 h2 h':Heap} {a x e:Addr} {o:HO}
theorem Un.any (u:Un fs ex H H1 h h1) {b:Addr} {ob:Obj} (q:h.get? b=some ob) (n:H b=none) (hx:b∉ex):∃sl,h1.get? b=some {ob with slots:=sl}:=by
 by_cases hb:b∈fs
 ·exact u.slot b ob q n hb hx
 ·exact⟨ob.slots,u.keep b ob q n hb hx⟩
theorem Un.trans (a:Un fs ex H H1 h h1) (b:Un fs ex H1 H2 h1 h2):Un fs ex H H2 h h2 where
 keep:=fun c ob q n hc hx=>b.keep c ob (a.keep c ob q n hc hx) (a.free c ob q n hx) hc hx
 slot:=fun c ob q n hc hx=>by
  obtain⟨sl,e1⟩:=a.slot c ob q n hc hx
  obtain⟨sl',e2⟩:=b.slot c _ e1 (a.free c ob q n hx) hc hx
  exact⟨sl',e2⟩
 free:=fun c ob q n hx=>by
  obtain⟨o',e1⟩:=a.there c ob q hx
  exact b.free c o' e1 (a.free c ob q n hx) hx
 there:=fun c ob q hx=>by
  obtain⟨o',e1⟩:=a.there c ob q hx
  exact b.there c o' e1 hx
 tups:=fun c xs q=>b.tups c xs (a.tups c xs q)
 frzs:=fun c ob xs q=>b.frzs c ob xs (a.frzs c ob xs q)
 tbls:=fun c ps q=>by
  obtain⟨m1,e1⟩:=a.tbls c ps q
  obtain⟨m2,e2⟩:=b.tbls c _ e1
  exact⟨m1++m2,by rw[e2,Array.append_assoc]⟩
theorem Un.kept (k:∀b u,h.get? b=some u->h'.get? b=some u):Un fs ex H H h h':=
 ⟨fun b ob q _ _ _=>k b ob q,fun b ob q _ _ _=>⟨ob.slots,k b ob q⟩,fun _ _ _ n _=>n,fun b ob q _=>⟨ob,k b ob q⟩,fun _ _ q=>q,fun _ _ _ q=>q,fun _ ps q=>⟨#[],by rw[q];simp⟩⟩
theorem Un.refl:Un fs ex H H h h:=Un.kept fun _ _ q=>q
theorem Un.laid (k:∀b u,h.get? b=some u->h'.get? b=some u) (hp:h.objs.size<=a) (hn:H a=none):Un fs ex H (upd H a o) h h' where
 keep:=fun b u q _ _ _=>k b u q
 slot:=fun b u q _ _ _=>⟨u.slots,k b u q⟩
 free:=fun b u q n _=>by rw[eN (bT (bR (dX q) hp))];exact n
 there:=fun b u q _=>⟨u,k b u q⟩
 tups:=fun b xs q=>by rw[eN (eT q hn)];exact q
 frzs:=fun b u xs q=>by rw[eN (eT q hn)];exact q
 tbls:=fun b ps q=>⟨#[],by rw[eN (eT q hn),q];simp⟩
theorem Un.write (mu:Mut (H x)) (he:e=x\/H e=some (.own x)) (k:∀b u,b≠e->h.get? b=some u->h'.get? b=some u) (heo:∃u,h'.get? e=some u):Un fs ex H (upd H x o) h h':=by
 have hx:∀b,H b=none->b≠x:=fun b n z=>by subst z;rw[n]at mu;exact mu
 have hb:∀b,H b=none->b≠e:=fun b n z=>by
  subst z
  rcases he with r|r
  ·exact hx b n r
  ·rw[n]at r;cases r
 have hm:∀b u,H b=some u->¬Mut (some u)->b≠x:=fun b u q nm z=>by subst z;rw[q]at mu;exact nm mu
 refine⟨fun b u q n _ _=>k b u (hb b n) q,fun b u q n _ _=>⟨u.slots,k b u (hb b n) q⟩,fun b u q n _=>by rw[eN (hx b n)];exact n,fun b u q _=>?_,
  fun b xs q=>by rw[eN (hm b _ q fun z=>z)];exact q,fun b u xs q=>by rw[eN (hm b _ q fun z=>z)];exact q,fun b ps q=>⟨#[],by rw[eN (hm b _ q fun z=>z),q];simp⟩⟩
 by_cases hbe:b=e
 ·subst hbe;exact heo
 ·exact⟨u,k b u hbe q⟩
end
def trk (h:Heap) (H:Hp):List Addr:=(aa h.objs.size).filter fun a=>(H a).isSome
def zG (h:Heap) (H:Hp):Heap:=PySem.W.hideAll h (trk h H)
theorem xp (h:Heap) (H:Hp):(zG h H).objs.size=h.objs.size:=PySem.W.hideAll_size _ _
theorem zH {h:Heap} {H:Hp} {b:Addr} {o:Obj} (e:h.get? b=some o) (n:H b=none):(zG h H).get? b=some o:=
 PySem.W.hideAll_get _ e fun hm=>by
  have q:(H b).isSome=true:=(List.mem_filter.mp hm).2
  rw[n]at q;simp at q
theorem BC {h:Heap} {H:Hp} {b:Addr} {o:Obj} (e:(zG h H).get? b=some o):h.get? b=some o/\H b=none:=by
 have e':h.get? b=some o:=PySem.W.of_hideAll (trk h H) e
 refine⟨e',?_⟩
 cases q:H b with
 |none=>rfl
 |some x=>
  have hm:b∈trk h H:=List.mem_filter.mpr ⟨ae.mpr (dX e'),by simp[q]⟩
  have z:(zG h H).get? b=none:=PySem.W.hideAll_none (trk h H) hm
  rw[z]at e;cases e
structure Mod (K:PySem.W.Frag) (mg:Str->Option Value) (base:Heap):Prop where
 kin:K.In base
 glob:base.Ns mainGlobals mg
 blt:∃mb,base.Ns builtinsNs mb/\∀x:Str,x≠"__name__"->mb x=bootBuiltins x
 nolimit:base.NoLimit
structure Cx where
 prog:Program
 w:World
 K:PySem.W.Frag
 mg:Str->Option Value
 base:Heap
 A:Around
 N:List Str
 s₀:Shared
 H₀:Hp
 env:Env
 outer:List Env
 stack:List Env
 ex:List Addr
 fn:Str->Bool
 calm:Bool
 pn:List (Addr×Obj)
 xe:Value->Shared->Prop
def frs (l:List Env):List Addr:=l.filterMap (·.frame)
abbrev Cx.fs (X:Cx):List Addr:=frs X.outer
def Vis (sc:Scope) (x:Str):Prop:=sc.names.lookup x=some .local\/sc.names.lookup x=some .cell\/sc.names.lookup x=some .free
def Loc (sc:Scope) (x:Str):Prop:=sc.names.lookup x=some .local\/sc.names.lookup x=some .cell
def Look (env:Env) (h:Heap) (m:Str->Option Value) (x:Str) (u:Value):Prop:=
 (env.kindOf x=some .local/\m x=some u)\/((env.kindOf x=some .cell\/env.kindOf x=some .free)/\∃c,env.cells.lookup x=some c/\h.IsCell c (some u))
structure Cx.Ok (X:Cx):Prop where
 mod:Mod X.K X.mg X.base
 kind:X.env.scope.kind= .function
 glob:X.env.globals=mainGlobals
 blt:X.env.builtins=builtinsNs
 above:X.s₀.heap.objs.size<=X.env.locals
 inj:∀x y c,X.env.cells.lookup x=some c->X.env.cells.lookup y=some c->x=y
 has:∀x,(X.env.kindOf x=some .cell\/X.env.kindOf x=some .free)->∃c,X.env.cells.lookup x=some c
 cab:∀x c,X.fn x=true->X.env.cells.lookup x=some c->X.s₀.heap.objs.size<=c
 hd:X.calm=true->X.A.handled=none
 frames:X.A.frames=some X.stack
 stk:X.stack=X.outer\/(X.stack=X.env::X.outer/\X.env.frame=some X.env.locals)
 exf:∀b∈X.ex,b≠X.env.locals/\∀x c,X.env.cells.lookup x=some c->c≠b
 bs:∀b o,X.base.get? b=some o->X.s₀.heap.get? b=some o/\X.H₀ b=none
 bsz:X.base.objs.size<=X.s₀.heap.objs.size
 noex:∀b o,X.base.get? b=some o->b∉X.ex
 exfs:∀b∈X.ex,b∉X.fs
 funs:X.s₀.heap.FunFrames X.base X.outer
 frf:∀b∈X.fs,X.H₀ b=none
structure Inv (X:Cx) (pz:List (Addr×Obj)) (σ:List (Option V)) (H:Hp) (s:Shared):Prop where
 ok:X.Ok
 os:s.os=X.s₀.os
 bare:AllBare s.gens
 base:Un X.fs X.ex X.H₀ H X.s₀.heap s.heap
 loc:∃m,s.heap.Ns X.env.locals m/\∀(i:Nat) (x:Str) (v:V),X.N[i]?=some x->σ[i]?=some (some v)->Vis X.env.scope x->∃u,gN v u/\Look X.env s.heap m x u
 cell:∀x c,X.env.cells.lookup x=some c->∃v,s.heap.IsCell c v
 free:H X.env.locals=none
 freeC:∀x c,X.env.cells.lookup x=some c->H c=none
 pin:∀p∈X.pn++pz,s.heap.get? p.1=some p.2/\H p.1=none/\p.1≠X.env.locals/\p.1∉X.fs/\∀v,p.2.data≠ .cell v
 hok:HOk X.prog X.w H s.heap
 len:σ.length=X.N.length
section
variable {X:Cx} {pz:List (Addr×Obj)} {σ:List (Option V)} {H H':Hp} {s:Shared} {h':Heap}
theorem Cx.Ok.nofr (ok:X.Ok) {b:Addr} {o:Obj} (e:X.base.get? b=some o):b∉X.fs:=fun hb=>by
 have:=(ok.funs.mem hb).1
 rw[e]at this;cases this
theorem Inv.bs (I:Inv X pz σ H s):∀b o,X.base.get? b=some o->s.heap.get? b=some o/\H b=none:=fun b o e=>
 ⟨I.base.keep b o (I.ok.bs b o e).1 (I.ok.bs b o e).2 (I.ok.nofr e) (I.ok.noex b o e),I.base.free b o (I.ok.bs b o e).1 (I.ok.bs b o e).2 (I.ok.noex b o e)⟩
theorem Inv.bk (I:Inv X pz σ H s):∀b o,X.base.get? b=some o->s.heap.get? b=some o:=fun b o e=>(I.bs b o e).1
theorem Inv.mod (I:Inv X pz σ H s):Mod X.K X.mg X.base:=I.ok.mod
theorem Inv.kIn (I:Inv X pz σ H s):X.K.In s.heap:=I.ok.mod.kin.keeps I.bk
theorem Inv.lt (I:Inv X pz σ H s):X.env.locals<s.heap.objs.size:=let⟨_,hn,_⟩:=I.loc;hn.lt
theorem Inv.sz (I:Inv X pz σ H s):X.s₀.heap.objs.size<=s.heap.objs.size:=bU I.ok.above (bV I.lt)
theorem Inv.nofs (I:Inv X pz σ H s) {a:Addr} (h:s.heap.objs.size<=a):a∉X.fs:=fun hb=>by
 obtain⟨_,o,ho,_⟩:=I.ok.funs.mem hb
 exact absurd (bR (dX ho) (bU I.sz h)) (bS _)
theorem Inv.cne (I:Inv X pz σ H s):∀x c,X.env.cells.lookup x=some c->c≠X.env.locals:=fun x c e z=>by
 obtain⟨v,o,ho,hd⟩:=I.cell x c e
 obtain⟨m,⟨o',es,ep,ho',hd',_⟩,_⟩:=I.loc
 rw[z,ho']at ho;cases ho;rw[hd']at hd;cases hd
theorem Inv.funs (I:Inv X pz σ H s):s.heap.FunFrames X.base X.outer:=by
 have all:∀(l:List Env),(∀b∈frs l,b∈X.fs)->X.s₀.heap.FunFrames X.base l->s.heap.FunFrames X.base l:=by
  intro l
  induction l with
  |nil=>intro _ _;trivial
  |cons env r ih=>
   intro hs hl
   obtain⟨hk,⟨L,o,hf,hn,ho,hd⟩,hr⟩:=hl
   have hL:L∈X.fs:=hs L (by unfold frs;rw[af,hf];exact ag)
   obtain⟨sl,e⟩:=I.base.slot L o ho (I.ok.frf L hL) hL fun z=>I.ok.exfs L z hL
   exact⟨hk,⟨L,_,hf,hn,e,hd⟩,ih (fun b hb=>hs b (by unfold frs;rw[af,hf];exact ah _ hb)) hr⟩
 exact all X.outer (fun _ hb=>hb) I.ok.funs
theorem Inv.stack (I:Inv X pz σ H s):s.heap.FunFrames X.base X.stack:=by
 rcases I.ok.stk with e|⟨e,hf⟩
 ·rw[e];exact I.funs
 ·rw[e]
  obtain⟨m,hn,_⟩:=I.loc
  refine .cons (by rw[I.ok.kind];decide) hf hn ?_ I.funs
  exact Heap.get?_none_of_le (bU I.ok.bsz I.ok.above)
theorem Inv.stkSub (I:Inv X pz σ H s):∀b∈frs X.stack,b∈X.env.locals::X.fs:=fun b hb=>by
 rcases I.ok.stk with e|⟨e,hf⟩
 ·rw[e]at hb;exact ah _ hb
 ·rw[e]at hb
  unfold frs at hb
  rw[af,hf]at hb
  exact hb
theorem Inv.stkFree (I:Inv X pz σ H s):∀b∈frs X.stack,H b=none:=fun b hb=>by
 rcases ai.mp (I.stkSub b hb)with e|hb
 ·rw[e];exact I.free
 ·obtain⟨_,o,ho,_⟩:=I.ok.funs.mem hb
  exact I.base.free b o ho (I.ok.frf b hb) fun z=>I.ok.exfs b z hb
theorem Inv.step {g':Array GenState} {t':Nat} {d':Drawn} {ch:List Addr} (I:Inv X pz σ H s)
  (hch:∀b∈ch,(b∈X.ex\/X.s₀.heap.objs.size<=b)/\b≠X.env.locals/\(∀x c,X.env.cells.lookup x=some c->c≠b)/\∀p∈X.pn++pz,p.1≠b)
  (keep:∀b o,b≠X.env.locals->b∉X.fs->b∉ch->s.heap.get? b=some o->H b=none->h'.get? b=some o)
  (slot:∀b o,b≠X.env.locals->b∈X.fs->b∉ch->s.heap.get? b=some o->H b=none->∃sl,h'.get? b=some {o with slots:=sl}) (free:∀b o,b∉ch->s.heap.get? b=some o->H b=none->H' b=none)
  (there:∀b o,b∉ch->s.heap.get? b=some o->∃o',h'.get? b=some o')
  (tups:∀b xs,H b=some (.tup xs)->H' b=some (.tup xs)) (frzs:∀b o u,H b=some (.frz o u)->H' b=some (.frz o u)) (tbls:∀b ps,H b=some (.tbl ps)->∃more,H' b=some (.tbl (ps++more)))
  (ns:∀m,s.heap.Ns X.env.locals m->h'.Ns X.env.locals m) (hok:HOk X.prog X.w H' h') (hg:AllBare g'):
  Inv X pz σ H' {s with heap:=h',gens:=g',drawn:=d',toks:=t'}:=by
 have neL:∀b o,X.s₀.heap.get? b=some o->b≠X.env.locals:=fun b o e=>bT (bR (dX e) I.ok.above)
 have neC:∀b o,X.s₀.heap.get? b=some o->b∉X.ex->b∉ch:=fun b o e hx hb=>by
  rcases(hch b hb).1 with z|z
  ·exact hx z
  ·exact absurd (bR (dX e) z) (bS _)
 have cellK:∀x c,X.env.cells.lookup x=some c->∀v,s.heap.IsCell c v->h'.IsCell c v:=fun x c e v ⟨o,ho,hd⟩=>by
  have nch:c∉ch:=fun z=>(hch c z).2.2.1 x c e rfl
  by_cases hc:c∈X.fs
  ·obtain⟨sl,q⟩:=slot c o (I.cne x c e) hc nch ho (I.freeC x c e)
   exact⟨_,q,hd⟩
  ·exact⟨o,keep c o (I.cne x c e) hc nch ho (I.freeC x c e),hd⟩
 refine⟨I.ok,I.os,hg,⟨fun b o e n hb hx=>?_,fun b o e n hb hx=>?_,fun b o e n hx=>?_,fun b o e hx=>?_,fun b xs e=>tups b xs (I.base.tups b xs e),fun b o xs e=>frzs b o xs (I.base.frzs b o xs e),fun b ps e=>?_⟩,?_,fun x c e=>?_,?_,fun x c e=>?_,fun p hp=>?_,hok,I.len⟩
 ·exact keep b o (neL b o e) hb (neC b o e hx) (I.base.keep b o e n hb hx) (I.base.free b o e n hx)
 ·obtain⟨sl,e1⟩:=I.base.slot b o e n hb hx
  obtain⟨sl',e2⟩:=slot b _ (neL b o e) hb (neC b o e hx) e1 (I.base.free b o e n hx)
  exact⟨sl',e2⟩
 ·obtain⟨o',e1⟩:=I.base.there b o e hx
  exact free b o' (neC b o e hx) e1 (I.base.free b o e n hx)
 ·obtain⟨o',e1⟩:=I.base.there b o e hx
  exact there b o' (neC b o e hx) e1
 ·obtain⟨m1,e1⟩:=I.base.tbls b ps e
  obtain⟨m2,e2⟩:=tbls b _ e1
  exact⟨m1++m2,by rw[e2,Array.append_assoc]⟩
 ·obtain⟨m,hn,hl⟩:=I.loc
  refine⟨m,ns m hn,fun i x v e1 e2 e3=>?_⟩
  obtain⟨u,r,l⟩:=hl i x v e1 e2 e3
  refine⟨u,r,?_⟩
  rcases l with l|⟨k,c,e,z⟩
  ·exact .inl l
  ·exact .inr ⟨k,c,e,cellK x c e _ z⟩
 ·obtain⟨v,z⟩:=I.cell x c e
  exact⟨v,cellK x c e v z⟩
 ·obtain⟨m,⟨o,_,_,ho,_⟩,_⟩:=I.loc
  exact free _ o (fun z=>(hch _ z).2.1 rfl) ho I.free
 ·obtain⟨v,o,ho,hd⟩:=I.cell x c e
  exact free c o (fun z=>(hch c z).2.2.1 x c e rfl) ho (I.freeC x c e)
 ·obtain⟨e,n,ne,nf,d⟩:=I.pin p hp
  have nch:p.1∉ch:=fun z=>(hch p.1 z).2.2.2 p hp rfl
  exact⟨keep p.1 p.2 ne nf nch e n,free p.1 p.2 nch e n,ne,nf,d⟩
theorem Inv.un {t':Nat} (I:Inv X pz σ H s) (u:Un X.fs [] H H' s.heap h') (hok:HOk X.prog X.w H' h'):Inv X pz σ H' {s with heap:=h',toks:=t'}:=by
 obtain⟨m,⟨o,es,ep,ho,r⟩,_⟩:=id I.loc
 obtain⟨sl,hL⟩:=u.any ho I.free (by simp)
 exact I.step (g':=s.gens) (d':=s.drawn) (ch:=[]) (fun _ z=>nomatch z) (fun b o _ hb _ e n=>u.keep b o e n hb (by simp)) (fun b o _ hb _ e n=>u.slot b o e n hb (by simp)) (fun b o _ e n=>u.free b o e n (by simp)) (fun b o _ e=>u.there b o e (by simp)) u.tups u.frzs u.tbls (fun m' hm=>by
  obtain⟨o',es',ep',ho',r'⟩:=hm
  rw[ho]at ho';cases ho'
  exact⟨_,es',ep',hL,r'⟩) hok I.bare
theorem Inv.call {g':Array GenState} {t':Nat} {d':Drawn} {ch:List Addr} (I:Inv X pz σ H s) (u:Un (frs X.stack) ch H H' s.heap h') (hok:HOk X.prog X.w H' h') (hg:AllBare g')
  (hch:∀b∈ch,(b∈X.ex\/X.s₀.heap.objs.size<=b)/\b≠X.env.locals/\(∀x c,X.env.cells.lookup x=some c->c≠b)/\∀p∈X.pn++pz,p.1≠b):
  Inv X pz σ H' {s with heap:=h',gens:=g',drawn:=d',toks:=t'}:=by
 obtain⟨m,⟨o,es,ep,ho,r⟩,_⟩:=id I.loc
 obtain⟨sl,hL⟩:=u.any ho I.free fun z=>(hch _ z).2.1 rfl
 exact I.step (ch:=ch) hch (fun b o hL hb hc e n=>u.keep b o e n (fun z=>(ai.mp (I.stkSub b z)).elim hL hb) hc) (fun b o _ _ hc e n=>u.any e n hc) (fun b o hc e n=>u.free b o e n hc) (fun b o hc e=>u.there b o e hc) u.tups u.frzs u.tbls (fun m' hm=>by
  obtain⟨o',es',ep',ho',r'⟩:=hm
  rw[ho]at ho';cases ho'
  exact⟨_,es',ep',hL,r'⟩) hok hg
theorem Inv.turned {t':Nat} {it:Addr} (I:Inv X pz σ H s) (k:∀b o,b≠it->s.heap.get? b=some o->h'.get? b=some o) (hn:H it=none) (hL:it≠X.env.locals)
  (h1:it∈X.ex\/X.s₀.heap.objs.size<=it) (h2:∀x c,X.env.cells.lookup x=some c->c≠it) (h3:∀p∈X.pn++pz,p.1≠it):Inv X pz σ H {s with heap:=h',toks:=t'}:=by
 have nit:∀b u,H b=some u->b≠it:=fun b u e z=>by rw[z,hn]at e;cases e
 refine I.step (g':=s.gens) (d':=s.drawn) (ch:=[it]) (fun b hb=>?_) (fun b o _ _ hc e _=>k b o (fun z=>hc (by simp[z])) e) (fun b o _ _ hc e _=>⟨o.slots,k b o (fun z=>hc (by simp[z])) e⟩) (fun _ _ _ _ n=>n)
  (fun b o hc e=>⟨o,k b o (fun z=>hc (by simp[z])) e⟩) (fun _ _ e=>e) (fun _ _ _ e=>e) (fun b ps e=>⟨#[],by rw[e];simp⟩) (fun m hm=>?_) (fun b u e=>?_) I.bare
 ·have e:b=it:=by simpa using hb
  subst e
  exact⟨h1,hL,h2,h3⟩
 ·obtain⟨o,es,ep,ho,r⟩:=hm
  exact⟨o,es,ep,k _ o (Ne.symm hL) ho,r⟩
 ·refine(I.hok b u e).stay (fun c v hc q=>k c v ?_ q) (fun _ q=>q) fun _ _ q=>q
  rcases hc with z|z
  ·rw[z];exact nit b u e
  ·exact nit c _ z
theorem Inv.tok (I:Inv X pz σ H s) (t:Nat):Inv X pz σ H {s with toks:=t}:=I.un (h':=s.heap) (t':=t) Un.refl I.hok
theorem Inv.kept {t':Nat} (I:Inv X pz σ H s) (k:∀b u,s.heap.get? b=some u->h'.get? b=some u):Inv X pz σ H {s with heap:=h',toks:=t'}:=I.un (Un.kept k) (I.hok.kept k)
theorem Inv.laid {a:Addr} {o:HO} {t':Nat} (I:Inv X pz σ H s) (k:∀b u,s.heap.get? b=some u->h'.get? b=some u) (hp:s.heap.objs.size<=a) (new:hG X.prog X.w (upd H a o) h' a o):
  Inv X pz σ (upd H a o) {s with heap:=h',toks:=t'}:=I.un (Un.laid k hp (I.hok.fresh hp)) (I.hok.laid k hp new)
theorem Inv.write {x e:Addr} {o:HO} {t':Nat} (I:Inv X pz σ H s) (mu:Mut (H x)) (he:e=x\/H e=some (.own x)) (k:∀b u,b≠e->s.heap.get? b=some u->h'.get? b=some u) (heo:∃u,h'.get? e=some u)
  (new:hG X.prog X.w (upd H x o) h' x o):Inv X pz σ (upd H x o) {s with heap:=h',toks:=t'}:=I.un (Un.write mu he k heo) (I.hok.write mu he k heo new)
theorem Inv.pins_of {pins':List (Addr×Obj)} (I:Inv X pz σ H s) (h:∀p∈pins',s.heap.get? p.1=some p.2/\H p.1=none/\p.1≠X.env.locals/\p.1∉X.fs/\∀v,p.2.data≠ .cell v):Inv X pins' σ H s:=
 ⟨I.ok,I.os,I.bare,I.base,I.loc,I.cell,I.free,I.freeC,fun p hp=>(aj.mp hp).elim (fun z=>I.pin p (ak _ z)) (h p),I.hok,I.len⟩
theorem vj {N:List Str} (hN:N.Nodup) {i j:Nat} {x:Str} (a:N[i]?=some x) (b:N[j]?=some x):i=j:=by
 obtain⟨h1,e1⟩:=ao.mp a
 obtain⟨h2,e2⟩:=ao.mp b
 exact(List.getElem_inj hN).mp (e1.trans e2.symm)
theorem xq {M:Model} {A:Around} {E:Value->Shared->Prop} {i:Nat} {x:Str} {v:V} {u:Value} {Q:Unit->Shared->Prop} (I:Inv X pz σ H s) (hN:X.N.Nodup) (hi:X.N[i]?=some x) (hx:Loc X.env.scope x) (r:gN v u)
  (h:∀s',Inv X pz (σ.set i (some v)) H s'->(∃a,Heap.SameBut a s.heap s'.heap/\(a=X.env.locals\/X.env.cells.lookup x=some a))->Q () s') (hf:autoParam (X.fn x=true\/X.env.scope.names.lookup x=some .local) L2.Internal.auL._auto_1):wpAny M A (storeName X.env x u) Q E s:=by
 obtain⟨m,hn,hl⟩:=id I.loc
 have hcls:(X.env.scope.kind== .class||(X.env.scope.kind== .module&&X.env.locals !=X.env.globals))=false:=by rw[I.ok.kind];rfl
 have hiσ:i<σ.length:=by rw[I.len];exact(ao.mp hi).1
 have cne:=I.cne
 have tracked:∀{a:Addr} {h':Heap},(∃o,s.heap.get? a=some o/\H a=none)->Heap.SameBut a s.heap h'->HOk X.prog X.w H h':=fun{a h'} ha hs b ob e=>by
  obtain⟨_,_,hfree⟩:=ha
  refine(I.hok b ob e).stay (fun c w' hc q=>(hs.2 c ?_).trans q) (fun _ q=>q) fun _ _ q=>q
  rintro rfl
  rcases hc with rfl|hc
  ·rw[hfree]at e;cases e
  ·rw[hfree]at hc;cases hc
 rcases hx with hk|hk
 ·refine wpAny_storeName_local hk hn (fun h' hn' hs=>?_) hcls
  obtain⟨oL,_,_,hoL,_⟩:=id hn
  refine h _ ⟨I.ok,I.os,I.bare,⟨fun b o e n hb hx=>?_,fun b o e n hb hx=>?_,I.base.free,fun b o e hx=>?_,I.base.tups,I.base.frzs,I.base.tbls⟩,⟨_,hn',fun j y v' e1 e2 e3=>?_⟩,fun y c e=>?_,I.free,I.freeC,fun p hp=>?_,tracked ⟨oL,hoL,I.free⟩ hs,by simpa using I.len⟩ ⟨_,hs,.inl rfl⟩
  ·exact(hs.2 b (bT (bR (dX e) I.ok.above))).trans (I.base.keep b o e n hb hx)
  ·obtain⟨sl,e1⟩:=I.base.slot b o e n hb hx
   exact⟨sl,(hs.2 b (bT (bR (dX e) I.ok.above))).trans e1⟩
  ·obtain⟨o',e1⟩:=I.base.there b o e hx
   exact⟨o',(hs.2 b (bT (bR (dX e) I.ok.above))).trans e1⟩
  ·by_cases hj:j=i
   ·subst hj
    rw[hi]at e1;cases e1
    rw[aq hiσ]at e2
    cases e2
    exact⟨u,r,.inl ⟨hk,by simp⟩⟩
   ·rw[ar (Ne.symm hj)]at e2
    obtain⟨u',r',q⟩:=hl j y v' e1 e2 e3
    refine⟨u',r',?_⟩
    rcases q with⟨k,e⟩|⟨k,c,e,z⟩
    ·refine .inl ⟨k,?_⟩
     have:y≠x:=fun e=>hj (vj hN e1 (e▸hi))
     simp[this,e]
    ·exact .inr ⟨k,c,e,z.sameBut hs (cne y c e)⟩
  ·obtain⟨w',z⟩:=I.cell y c e
   exact⟨w',z.sameBut hs (cne y c e)⟩
  ·obtain⟨e,n,ne,nf,d⟩:=I.pin p hp
   exact⟨(hs.2 p.1 ne).trans e,n,ne,nf,d⟩
 ·have hfn:X.fn x=true:=by
   rcases hf with z|z
   ·exact z
   ·rw[z]at hk;cases hk
  obtain⟨c,hc⟩:=I.ok.has x (.inl hk)
  obtain⟨w',z⟩:=I.cell x c hc
  refine wpAny_storeName_cell I.ok.kind hk hc z (fun h' hc' hs=>?_)
  obtain⟨oc,hoc,hocd⟩:=id z
  refine h {s with heap:=h'} ⟨I.ok,I.os,I.bare,⟨fun b o e n hb hx=>?_,fun b o e n hb hx=>?_,I.base.free,fun b o e hx=>?_,I.base.tups,I.base.frzs,I.base.tbls⟩,⟨m,hn.sameBut hs (Ne.symm (cne x c hc)),fun j y v' e1 e2 e3=>?_⟩,fun y c' e=>?_,I.free,I.freeC,fun p hp=>?_,tracked ⟨oc,hoc,I.freeC x c hc⟩ hs,by simpa using I.len⟩ ⟨c,hs,.inr hc⟩
  ·exact(hs.2 b (bT (bR (dX e) (I.ok.cab x c hfn hc)))).trans (I.base.keep b o e n hb hx)
  ·obtain⟨sl,e1⟩:=I.base.slot b o e n hb hx
   exact⟨sl,(hs.2 b (bT (bR (dX e) (I.ok.cab x c hfn hc)))).trans e1⟩
  ·obtain⟨o',e1⟩:=I.base.there b o e hx
   exact⟨o',(hs.2 b (bT (bR (dX e) (I.ok.cab x c hfn hc)))).trans e1⟩
  ·by_cases hj:j=i
   ·subst hj
    rw[hi]at e1;cases e1
    rw[aq hiσ]at e2
    cases e2
    exact⟨u,r,.inr ⟨.inl hk,c,hc,hc'⟩⟩
   ·rw[ar (Ne.symm hj)]at e2
    obtain⟨u',r',q⟩:=hl j y v' e1 e2 e3
    refine⟨u',r',?_⟩
    rcases q with q|⟨k,c',e,z'⟩
    ·exact .inl q
    ·refine .inr ⟨k,c',e,z'.sameBut hs ?_⟩
     rintro rfl
     exact hj (vj hN e1 (I.ok.inj _ _ _ e hc▸hi))
  ·by_cases hcc:c'=c
   ·subst hcc;exact⟨_,hc'⟩
   ·obtain⟨w2,z2⟩:=I.cell y c' e
    exact⟨w2,z2.sameBut hs hcc⟩
  ·obtain⟨e,n,ne,nf,d⟩:=I.pin p hp
   refine⟨(hs.2 p.1 ?_).trans e,n,ne,nf,d⟩
   intro q
   rw[q,hoc]at e
   have q':oc=p.2:=cf.inj e
   exact d w' (by rw[<-q'];exact hocd)
theorem pe {M:Model} {A:Around} {E:Value->Shared->Prop} {i:Nat} {x:Str} {v:V} {u:Value} {Q:Unit->Shared->Prop} (I:Inv X pz σ H s) (hN:X.N.Nodup) (hi:X.N[i]?=some x) (hx:Loc X.env.scope x) (r:gN v u)
  (h:∀s',Inv X pz (σ.set i (some v)) H s'->Q () s') (hf:autoParam (X.fn x=true\/X.env.scope.names.lookup x=some .local) L2.Internal.auL._auto_1):wpAny M A (storeName X.env x u) Q E s:=
 xq I hN hi hx r (fun s' I' _=>h s' I') hf
theorem Inv.call' {s':Shared} {ch:List Addr} (I:Inv X pz σ H s) (ho:s'.os=s.os) (u:Un (frs X.stack) ch H H' s.heap s'.heap) (hok:HOk X.prog X.w H' s'.heap) (hg:AllBare s'.gens)
  (hch:∀b∈ch,(b∈X.ex\/X.s₀.heap.objs.size<=b)/\b≠X.env.locals/\(∀x c,X.env.cells.lookup x=some c->c≠b)/\∀p∈X.pn++pz,p.1≠b):Inv X pz σ H' s':=by
 obtain⟨h',g',d',t',o'⟩:=s'
 have e:o'=s.os:=ho
 subst e
 exact I.call (g':=g') (t':=t') (d':=d') u hok hg hch
end
abbrev XK:=Value->Option Addr->Hp->Prop
abbrev St:=List (Option V)
abbrev VK:=V->Hp->Prop
abbrev TE:=St->Hp->VK->Prop
abbrev TT:=St->Hp->(Bool->Hp->Prop)->Prop
abbrev TA:=St->Hp->(List V->Hp->Prop)->Prop
structure mh where
 nx:St->Hp->Prop
 rt:VK
 bk:St->Hp->Prop:=fun _ _=>False
 ct:St->Hp->Prop:=fun _ _=>False
abbrev TS:=mh->St->Hp->Prop
def EP (X:Cx) (pz:List (Addr×Obj)) (σ:St) (Q:VK) (u:Value) (s':Shared):Prop:=∃v H',Inv X pz σ H' s'/\gN v u/\Q v H'
def TP (X:Cx) (pz:List (Addr×Obj)) (σ:St) (Q:Bool->Hp->Prop) (b:Bool) (s':Shared):Prop:=∃H',Inv X pz σ H' s'/\Q b H'
def AP (X:Cx) (pz:List (Addr×Obj)) (σ:St) (Q:List V->Hp->Prop) (us:List Value) (s':Shared):Prop:=∃vs H',Inv X pz σ H' s'/\gG vs us/\Q vs H'
def SP (X:Cx) (pz:List (Addr×Obj)) (D:mh) (f:Flow) (s':Shared):Prop:=
 match f with
 | .next=>∃σ' H',Inv X pz σ' H' s'/\D.nx σ' H'
 | .brk=>∃σ' H',Inv X pz σ' H' s'/\D.bk σ' H'
 | .cont=>∃σ' H',Inv X pz σ' H' s'/\D.ct σ' H'
 | .ret u=>∃v σ' H',Inv X pz σ' H' s'/\gN v u/\D.rt v H'
def PE (X:Cx) (e:Expr) (t:TE):Prop:=
 ∀(pz:List (Addr×Obj)) (s:Shared) (σ:St) (H:Hp) (Q:VK),Inv X pz σ H s->t σ H Q->wpAny (model X.prog X.w) X.A (eval e X.env) (EP X pz σ Q) X.xe s
def PT (X:Cx) (e:Expr) (t:TT):Prop:=
 ∀(pz:List (Addr×Obj)) (s:Shared) (σ:St) (H:Hp) (Q:Bool->Hp->Prop),Inv X pz σ H s->t σ H Q->wpAny (model X.prog X.w) X.A (isTrue e X.env (eval e X.env)) (TP X pz σ Q) X.xe s
def PW (X:Cx) (e:Expr) (t:TT):Prop:=
 ∀(whole:Sem Value) (pz:List (Addr×Obj)) (s:Shared) (σ:St) (H:Hp) (Q:Bool->Hp->Prop),Inv X pz σ H s->t σ H Q->wpAny (model X.prog X.w) X.A (isTrue e X.env whole) (TP X pz σ Q) X.xe s
theorem PW.pt {X:Cx} {e:Expr} {t:TT} (h:PW X e t):PT X e t:=h _
def PA (X:Cx) (es:List Expr) (t:TA):Prop:=
 ∀(pos:Pos) (pz:List (Addr×Obj)) (s:Shared) (σ:St) (H:Hp) (Q:List V->Hp->Prop),Inv X pz σ H s->t σ H Q->wpAny (model X.prog X.w) X.A (spliced (backTo pos (starEach es X.env))) (AP X pz σ Q) X.xe s
def PS (X:Cx) (st:Stmt) (t:TS):Prop:=
 ∀(pz:List (Addr×Obj)) (s:Shared) (σ:St) (H:Hp) (D:mh),Inv X pz σ H s->t D σ H->wpAny (model X.prog X.w) X.A (exec st X.env) (SP X pz D) X.xe s
def PSs (X:Cx) (st:List Stmt) (t:TS):Prop:=
 ∀(pz:List (Addr×Obj)) (s:Shared) (σ:St) (H:Hp) (D:mh),Inv X pz σ H s->t D σ H->wpAny (model X.prog X.w) X.A (execs st X.env) (SP X pz D) X.xe s
theorem thn {α:Type} {t:Sem α} {Q Q':α->Shared->Prop} {M:Model} {A:Around} {E:Value->Shared->Prop} {s:Shared} (h:wpAny M A t Q E s) (hQ:∀a s,Q a s->Q' a s):wpAny M A t Q' E s:=wpAny_mono h hQ fun _ _ x=>x
section
variable {X:Cx}
def Gx (i:Nat):TE:=fun σ H Q=>∃v,σ[i]?=some (some v)/\Q v H
def tC (v:V):TE:=fun _ H Q=>Q v H
theorem Dl {i:Nat} {x:Str} {pos:Pos} (hN:X.N[i]?=some x) (hv:Vis X.env.scope x) (hd:autoParam ((x==("__debug__":Str))=false) L2.Internal.auD._auto_1) (hcd:autoParam ((x==("__classdict__":Str))=false) L2.Internal.auD._auto_1):PE X (.Name x pos) (Gx i):=by
 intro pz s σ H Q I h
 obtain⟨v,e,h⟩:=h
 obtain⟨m,hn,hl⟩:=I.loc
 obtain⟨u,r,l⟩:=hl i x v hN e hv
 have fin:EP X pz σ Q u s:=⟨v,H,I,r,h⟩
 rcases l with⟨hk,hm⟩|⟨hk,c,hc,hcell⟩
 ·exact wpAny_Name (wpAny_loadName_local I.ok.kind hk hn hm fin) hd
 ·rcases hk with hk|hk
  ·exact wpAny_Name (wpAny_loadName_cell I.ok.kind hk hc hcell fin) hd
  ·exact wpAny_Name (wpAny_loadName_free I.ok.kind hk hc hcell fin hcd) hd
theorem eK {i j pos}:PE X (.Constant (.int i) j pos) (tC (.int i)):=fun _ _ _ H _ I h=>wpAny_Constant_int ⟨.int i,H,I.tok _,⟨_,rfl⟩,h⟩
theorem xr {b j pos}:PE X (.Constant (.bool b) j pos) (tC (.bl b)):=fun _ _ _ H _ I h=>Constant_bool ⟨.bl b,H,I,rfl,h⟩
theorem xt {j pos}:PE X (.Constant .none j pos) (tC .non):=fun _ _ _ H _ I h=>Constant_none ⟨.non,H,I,rfl,h⟩
theorem eZ {x j pos}:PE X (.Constant (.str x) j pos) (tC (.str x)):=fun _ _ _ H _ I h=>Calls.Constant_str ⟨.str x,H,I.tok _,⟨_,rfl⟩,h⟩
def Gl (X:Cx) (x:Str):Prop:=X.env.kindOf x=some .globalImplicit
theorem rK {E:Value->Shared->Prop} {pz:List (Addr×Obj)} {s:Shared} {σ:St} {H:Hp} {x:Str} {u:Value} {pos:Pos} {Q:Value->Shared->Prop} (I:Inv X pz σ H s) (hg:Gl X x) (hm:X.mg x=some u) (h:Q u s)
  (hd:autoParam ((x==("__debug__":Str))=false) L2.Internal.auD._auto_1):wpAny (model X.prog X.w) X.A (eval (.Name x pos) X.env) Q E s:=
 Calls.Name_function_global I.ok.kind hg (Calls.loadGlobal_global (by rw[I.ok.glob];exact I.mod.glob.keeps I.bk) hm h) hd
theorem lU {E:Value->Shared->Prop} {pz:List (Addr×Obj)} {s:Shared} {σ:St} {H:Hp} {x:Str} {u:Value} {pos:Pos} {Q:Value->Shared->Prop} (I:Inv X pz σ H s) (hg:Gl X x) (hm:X.mg x=none) (hv:bootBuiltins x=some u) (h:Q u s)
  (hn:autoParam (x≠"__name__") L2.Internal.auD._auto_1) (hd:autoParam ((x==("__debug__":Str))=false) L2.Internal.auD._auto_1):wpAny (model X.prog X.w) X.A (eval (.Name x pos) X.env) Q E s:=by
 obtain⟨mb,h1,h2⟩:=I.mod.blt
 exact Calls.Name_function_global I.ok.kind hg (Calls.loadGlobal_builtin (by rw[I.ok.glob];exact I.mod.glob.keeps I.bk) hm (by rw[I.ok.blt];exact h1.keeps I.bk) ((h2 x hn).trans hv) h) hd
theorem BD {x:Str} {v:V} {u:Value} {pos:Pos} (hg:Gl X x) (hm:X.mg x=some u) (r:gN v u) (hd:autoParam ((x==("__debug__":Str))=false) L2.Internal.auD._auto_1):PE X (.Name x pos) (tC v):=
 fun _ _ _ H _ I h=>rK I hg hm ⟨v,H,I,r,h⟩ hd
theorem BE {x:Str} {v:V} {u:Value} {pos:Pos} (hg:Gl X x) (hm:X.mg x=none) (hv:bootBuiltins x=some u) (r:gN v u) (hn:autoParam (x≠"__name__") L2.Internal.auD._auto_1) (hd:autoParam ((x==("__debug__":Str))=false) L2.Internal.auD._auto_1):PE X (.Name x pos) (tC v):=
 fun _ _ _ H _ I h=>lU I hg hm hv ⟨v,H,I,r,h⟩ hn hd
variable {a b:Expr} {ta tb:TE} {pos:Pos}
def PC (X:Cx) (op:CmpOp) (a b:Expr) (t:TE):Prop:=
 ∀(pz:List (Addr×Obj)) (s:Shared) (σ:St) (H:Hp) (Q:VK),Inv X pz σ H s->t σ H Q->
  wpAny (model X.prog X.w) X.A (eval a X.env) (fun v s₁=>wpAny (model X.prog X.w) X.A (eval b X.env) (fun u s₂=>wpAny (model X.prog X.w) X.A (compareOp op v u) (EP X pz σ Q) X.xe s₂) X.xe s₁) X.xe s
theorem vk (b:Expr) {op:CmpOp} (h:op≠ .In) (h2:op≠ .NotIn):behindInMarks op b=false:=by
 have e1:(op==CmpOp.In)=false:=by cases op<;>first|rfl|exact absurd rfl h
 have e2:(op==CmpOp.NotIn)=false:=by cases op<;>first|rfl|exact absurd rfl h2
 cases b<;>simp[behindInMarks,e1,e2]
def tIsN (ta:TE):TE:=fun σ H Q=>ta σ H fun x H1=>Q (.bl (decide (x= .non))) H1
theorem gN.none_iff {x:V} {v:Value} (r:gN x v):(v==Value.none)=decide (x= .non):=by
 cases x with
 |non=>cases r;rfl
 |bl _=>cases r;rfl
 |int _=>obtain⟨t,rfl⟩:=r;rfl
 |str _=>obtain⟨t,rfl⟩:=r;rfl
 |byt _=>obtain⟨t,rfl⟩:=r;rfl
 |flt _=>obtain⟨t,rfl⟩:=r;rfl
 |ref _=>cases r;rfl
 |ty _=>cases r;rfl
theorem xu {j pos'} (ha:PE X a ta):PC X .Is a (.Constant .none j pos') (tIsN ta):=by
 intro pz s σ H Q I h
 refine thn (ha pz s σ H _ I h) fun v s1 ⟨x,H1,I1,r1,q1⟩=>?_
 exact Constant_none (is_none_gen ⟨.bl _,H1,I1,by rw[r1.none_iff];rfl,q1⟩)
def tB (t:TE):TT:=fun σ H Q=>t σ H fun x H1=>∃c,x= .bl c/\Q c H1
theorem Dn {op:CmpOp} {t:TE} (h:PC X op a b t) (h1:behindInMarks op b=false:=by first|exact vk _ (by decide) (by decide)|rfl):PE X (.Compare a [op] [b] pos) t:=fun pz s σ H Q I hw=>wpAny_Compare1 (h pz s σ H Q I hw) h1
theorem AF {op:CmpOp} {t:TE} (h:PC X op a b t) (h1:behindInMarks op b=false:=by first|exact vk _ (by decide) (by decide)|rfl):PT X (.Compare a [op] [b] pos) (tB t):=by
 intro pz s σ H Q I hw
 refine wpAny_isTrue_Compare1 (thn (h pz s σ H _ I hw) fun v s1 h1=>thn h1 fun u s2 h2=>thn h2 fun c s3 ⟨x,H1,I1,r1,q1⟩=>?_) h1
 obtain⟨d,rfl,q⟩:=q1
 cases r1
 exact wpAny_truthy_bool ⟨H1,I1,q⟩
theorem oF {e:Expr} {t:TE} (h:PE X e t) (he:autoParam (∀whole,isTrue e X.env whole=(do let v<-whole;standAt e.pos;holding [v] (truthy v))) L2.Internal.auI._auto_1):PT X e (tB t):=by
 intro pz s σ H Q I hw
 refine isTrue_plain (thn (h pz s σ H _ I hw) fun v s1 ⟨x,H1,I1,r1,q1⟩=>?_) (he _)
 obtain⟨d,rfl,q⟩:=q1
 cases r1
 exact wpAny_truthy_bool ⟨H1,I1,q⟩
variable {tA tB':TT} {rest:List Expr}
def EU (t u:TT):TT:=fun σ H Q=>t σ H fun c H1=>if c=true then u σ H1 Q else Q false H1
def tOr (t u:TT):TT:=fun σ H Q=>t σ H fun c H1=>if c=true then Q true H1 else u σ H1 Q
def tNot (t:TT):TT:=fun σ H Q=>t σ H fun c H1=>Q (!c) H1
theorem rL (ha:PT X a tA):PW X (.BoolOp .And [a] pos) tA:=by
 intro wh pz s σ H Q I h
 refine isTrue_and (thn (ha pz s σ H Q I h) fun c s1 e=>?_)
 cases c with
 |true=>exact isTrue_and_nil e
 |false=>exact e
theorem vm (ha:PT X a tA):PW X (.BoolOp .Or [a] pos) tA:=by
 intro wh pz s σ H Q I h
 refine isTrue_or (thn (ha pz s σ H Q I h) fun c s1 e=>?_)
 cases c with
 |false=>exact isTrue_or_nil e
 |true=>exact e
theorem sV (ha:PT X a tA) (hb:PW X (.BoolOp .And (b::rest) pos) tB'):PW X (.BoolOp .And (a::b::rest) pos) (EU tA tB'):=by
 intro wh pz s σ H Q I h
 refine isTrue_and (thn (ha pz s σ H _ I h) fun c s1 ⟨H1,I1,q1⟩=>?_)
 cases c with
 |true=>exact hb wh pz s1 σ H1 Q I1 q1
 |false=>exact⟨H1,I1,q1⟩
theorem xw (ha:PT X a tA) (hb:PW X (.BoolOp .Or (b::rest) pos) tB'):PW X (.BoolOp .Or (a::b::rest) pos) (tOr tA tB'):=by
 intro wh pz s σ H Q I h
 refine isTrue_or (thn (ha pz s σ H _ I h) fun c s1 ⟨H1,I1,q1⟩=>?_)
 cases c with
 |true=>exact⟨H1,I1,q1⟩
 |false=>exact hb wh pz s1 σ H1 Q I1 q1
theorem xx (ha:PT X a tA):PT X (.UnaryOp .Not a pos) (tNot tA):=by
 intro pz s σ H Q I h
 exact isTrue_not (ha pz s σ H (fun c H1=>Q (!c) H1) I h)
def EV (ta tb:TE):TE:=fun σ H Q=>ta σ H fun x H1=>∃c,x= .bl c/\if c=true then tb σ H1 Q else Q (.bl false) H1
def EW (ta tb:TE):TE:=fun σ H Q=>ta σ H fun x H1=>∃c,x= .bl c/\if c=true then Q (.bl true) H1 else tb σ H1 Q
def EX (ta:TE):TE:=fun σ H Q=>ta σ H fun x H1=>∃c,x= .bl c/\Q (.bl (!c)) H1
theorem sX {op} {t:TE} (h:PE X a t):PE X (.BoolOp op [a] pos) t:=fun pz s σ H Q I hw=>BoolOp_one (h pz s σ H Q I hw)
theorem vn (ha:PE X a ta) (hb:PE X (.BoolOp .And (b::rest) pos) tb):PE X (.BoolOp .And (a::b::rest) pos) (EV ta tb):=by
 intro pz s σ H Q I h
 refine BoolOp_and (thn (ha pz s σ H _ I h) fun v s1 ⟨x,H1,I1,r1,q1⟩=>?_)
 obtain⟨c,rfl,q1⟩:=q1
 cases r1
 refine wpAny_truthy_bool ?_
 cases c with
 |true=>exact hb pz s1 σ H1 Q I1 q1
 |false=>exact⟨.bl false,H1,I1,rfl,q1⟩
theorem Dp (ha:PE X a ta) (hb:PE X (.BoolOp .Or (b::rest) pos) tb):PE X (.BoolOp .Or (a::b::rest) pos) (EW ta tb):=by
 intro pz s σ H Q I h
 refine BoolOp_or (thn (ha pz s σ H _ I h) fun v s1 ⟨x,H1,I1,r1,q1⟩=>?_)
 obtain⟨c,rfl,q1⟩:=q1
 cases r1
 refine wpAny_truthy_bool ?_
 cases c with
 |false=>exact hb pz s1 σ H1 Q I1 q1
 |true=>exact⟨.bl true,H1,I1,rfl,q1⟩
theorem Dr (ha:PE X a ta):PE X (.UnaryOp .Not a pos) (EX ta):=by
 intro pz s σ H Q I h
 refine UnaryOp_ (thn (ha pz s σ H _ I h) fun v s1 ⟨x,H1,I1,r1,q1⟩=>?_)
 obtain⟨c,rfl,q1⟩:=q1
 cases r1
 exact not_of (wpAny_truthy_bool ⟨.bl (!c),H1,I1,rfl,q1⟩)
end
def SqL (K:PySem.W.Frag) (H:Hp) (a:Addr) (xs:List V):Prop:=
 Rd H a (.lst xs)\/
  ∃(o:Obj) (its:Array Value) (n:Nat),K.lookup a=some o/\o.cls= .type "list"/\o.dict=none/\o.data= .seq its n/\its.size<=sizeLine/\gG xs its.toList
def SqT (K:PySem.W.Frag) (H:Hp) (a:Addr) (xs:List V):Prop:=
 Rd H a (.tup xs)\/
  ∃(o:Obj) (its:Array Value) (n:Nat),K.lookup a=some o/\o.cls= .type "tuple"/\o.data= .seq its n/\its.size<=sizeLine/\gG xs its.toList
def absV:Value->Option V
 | .none=>some .non
 | .bool b=>some (.bl b)
 | .int i _=>some (.int i)
 | .str x _=>some (.str x)
 | .bytes b _=>some (.byt b)
 | .float b _=>some (.flt b)
 | .ref a=>some (.ref a)
 | .type n=>some (.ty n)
 |_=>none
theorem gN.abs {x:V} {u:Value} (r:gN x u):absV u=some x:=by
 cases x with
 |non=>cases r;rfl
 |bl _=>cases r;rfl
 |int _=>obtain⟨t,rfl⟩:=r;rfl
 |str _=>obtain⟨t,rfl⟩:=r;rfl
 |byt _=>obtain⟨t,rfl⟩:=r;rfl
 |flt _=>obtain⟨t,rfl⟩:=r;rfl
 |ref _=>cases r;rfl
 |ty _=>cases r;rfl
theorem gN.inj {x y:V} {u:Value} (r:gN x u) (q:gN y u):x=y:=cf.inj (r.abs.symm.trans q.abs)
theorem gG.inj:∀{xs ys:List V} {us:List Value},gG xs us->gG ys us->xs=ys
 |_,_,_,.nil,.nil=>rfl
 |_,_,_,.cons r t,.cons r' t'=>by rw[r.inj r',gG.inj t t']
section
variable {X:Cx} {pz:List (Addr×Obj)} {σ:St} {H:Hp} {s:Shared} {a:Addr} {xs ys:List V}
theorem SqL.of {K:PySem.W.Frag} (h:H a=some (.lst xs)):SqL K H a xs:= .inl (.inl h)
theorem SqT.of {K:PySem.W.Frag} (h:H a=some (.tup xs)):SqT K H a xs:= .inl (.inl h)
theorem Inv.list (I:Inv X pz σ H s) (h:SqL X.K H a xs):∃its:List Value,gG xs its/\PlainL s.heap a its.toArray/\xs.length<=sizeLine:=by
 rcases h with h|⟨o,its,n,hk,hc,hd,hs,hz,r⟩
 ·obtain⟨z,its,n,r,e⟩:=h.ok I.hok
  exact⟨its,r,⟨_,n,e,rfl,rfl,rfl⟩,z⟩
 ·refine⟨its.toList,r,⟨o,n,I.kIn a o hk,hc,hd,by simpa using hs⟩,?_⟩
  have e:=r.length
  simp only[dQ]at e
  lia
theorem Inv.tuple (I:Inv X pz σ H s) (h:SqT X.K H a xs):∃its:List Value,gG xs its/\IsTup s.heap a its.toArray/\xs.length<=sizeLine:=by
 rcases h with h|⟨o,its,n,hk,hc,hs,hz,r⟩
 ·obtain⟨z,its,r,p⟩:=h.ok I.hok
  exact⟨its,r,p.tup,z⟩
 ·refine⟨its.toList,r,⟨o,I.kIn a o hk,hc,n,by simpa using hs⟩,?_⟩
  have e:=r.length
  simp only[dQ]at e
  lia
theorem Inv.list_inj (I:Inv X pz σ H s) (h:SqL X.K H a xs) (h':SqL X.K H a ys):xs=ys:=by
 obtain⟨its,r,⟨o,n,e,_,_,d⟩,_⟩:=I.list h
 obtain⟨its',r',⟨o',n',e',_,_,d'⟩,_⟩:=I.list h'
 rw[e]at e';cases e'
 rw[d]at d'
 injection d' with d1 _
 have:its=its':=by simpa using congrArg Array.toList d1
 subst this
 exact r.inj r'
theorem Inv.tuple_inj (I:Inv X pz σ H s) (h:SqT X.K H a xs) (h':SqT X.K H a ys):xs=ys:=by
 obtain⟨its,r,⟨o,e,_,n,d⟩,_⟩:=I.tuple h
 obtain⟨its',r',⟨o',e',_,n',d'⟩,_⟩:=I.tuple h'
 rw[e]at e';cases e'
 rw[d]at d'
 injection d' with d1 _
 have:its=its':=by simpa using congrArg Array.toList d1
 subst this
 exact r.inj r'
end
abbrev Cx.wish (X:Cx) (E:Value->Shared->Prop):Cx:={X with xe:=E}
abbrev Cx.nox (X:Cx):Cx:=X.wish fun _ _=>False
theorem Cx.Ok.wish {X:Cx} (ok:X.Ok) (E:Value->Shared->Prop):(X.wish E).Ok:=
 ⟨ok.mod,ok.kind,ok.glob,ok.blt,ok.above,ok.inj,ok.has,ok.cab,ok.hd,ok.frames,ok.stk,ok.exf,ok.bs,ok.bsz,ok.noex,ok.exfs,ok.funs,ok.frf⟩
theorem Cx.Ok.unwish {X:Cx} {E:Value->Shared->Prop} (ok:(X.wish E).Ok):X.Ok:=
 ⟨ok.mod,ok.kind,ok.glob,ok.blt,ok.above,ok.inj,ok.has,ok.cab,ok.hd,ok.frames,ok.stk,ok.exf,ok.bs,ok.bsz,ok.noex,ok.exfs,ok.funs,ok.frf⟩
section
variable {X:Cx} {pz:List (Addr×Obj)} {σ:St} {H:Hp} {s:Shared} {E:Value->Shared->Prop}
theorem Inv.wish (I:Inv X pz σ H s) (E:Value->Shared->Prop):Inv (X.wish E) pz σ H s:=⟨I.ok.wish E,I.os,I.bare,I.base,I.loc,I.cell,I.free,I.freeC,I.pin,I.hok,I.len⟩
theorem Inv.unwish (I:Inv (X.wish E) pz σ H s):Inv X pz σ H s:=⟨I.ok.unwish,I.os,I.bare,I.base,I.loc,I.cell,I.free,I.freeC,I.pin,I.hok,I.len⟩
theorem SP.unwish {D:mh} {f:Flow} {s':Shared} (h:SP (X.wish E) pz D f s'):SP X pz D f s':=by
 cases f with
 |next=>obtain⟨σ',H',I,q⟩:=h;exact⟨σ',H',I.unwish,q⟩
 |brk=>obtain⟨σ',H',I,q⟩:=h;exact⟨σ',H',I.unwish,q⟩
 |cont=>obtain⟨σ',H',I,q⟩:=h;exact⟨σ',H',I.unwish,q⟩
 |ret u=>obtain⟨v,σ',H',I,r,q⟩:=h;exact⟨v,σ',H',I.unwish,r,q⟩
theorem PE.nox {e:Expr} {t:TE} (h:PE X.nox e t):PE X e t:=fun pz s σ H Q I hw=>
 wpAny_mono (h pz s σ H Q (I.wish _) hw) (fun _ _ ⟨v,H',I',r,q⟩=>⟨v,H',I'.unwish,r,q⟩) fun _ _ z=>False.elim z
theorem PT.nox {e:Expr} {t:TT} (h:PT X.nox e t):PT X e t:=fun pz s σ H Q I hw=>
 wpAny_mono (h pz s σ H Q (I.wish _) hw) (fun _ _ ⟨H',I',q⟩=>⟨H',I'.unwish,q⟩) fun _ _ z=>False.elim z
theorem PSs.nox {st:List Stmt} {t:TS} (h:PSs X.nox st t):PSs X st t:=fun pz s σ H D I hw=>
 wpAny_mono (h pz s σ H D (I.wish _) hw) (fun _ _ q=>q.unwish) fun _ _ z=>False.elim z
end
section
variable {X:Cx} {st:Stmt} {rest:List Stmt} {t u:TS} {e:Expr} {te:TE} {pos:Pos}
def ji:TS:=fun D σ H=>D.nx σ H
def zI (t u:TS):TS:=fun D σ H=>t {D with nx:=u D} σ H
theorem fF:PSs X [] ji:=fun _ _ σ H _ I h=>wpAny_execs_nil ⟨σ,H,I,h⟩
theorem eJ (h1:PS X st t) (h2:PSs X rest u):PSs X (st::rest) (zI t u):=by
 intro pz s σ H D I h
 refine wpAny_execs_cons (thn (h1 pz s σ H {D with nx:=u D} I h) fun f s1 q=>?_)
 cases f with
 |next=>
  obtain⟨σ',H',I',q⟩:=q
  exact h2 pz s1 σ' H' D I' q
 |ret v=>exact q
 |brk=>exact q
 |cont=>exact q
theorem eO (h1:PS X st t):PSs X [st] t:=by
 intro pz s σ H D I h
 refine wpAny_execs_cons (thn (h1 pz s σ H D I h) fun f s1 q=>?_)
 cases f with
 |next=>exact wpAny_execs_nil q
 |ret v=>exact q
 |brk=>exact q
 |cont=>exact q
theorem Inv.quiet {pz:List (Addr×Obj)} {σ:St} {H:Hp} {s:Shared} (I:Inv X pz σ H s):interactive X.env=false:=by simp[interactive,I.ok.kind]
def Ds (te:TE):TS:=fun D σ H=>te σ H fun _ H1=>D.nx σ H1
theorem eW (he:PE X e te) (hs:autoParam (swapsWith e none pos.line X.env=pure false) L2.Internal.auR._auto_1):PS X (.Expr e pos) (Ds te):=by
 intro pz s σ H D I h
 exact wpAny_Expr_any (thn (he pz s σ H _ I h) fun v s1 ⟨x,H1,I1,r1,q1⟩=>⟨σ,H1,I1,q1⟩) I.quiet hs
def EY (te:TE):TS:=fun D σ H=>te σ H D.rt
theorem fm (he:PE X e te):PS X (.Return (some e) pos) (EY te):=by
 intro pz s σ H D I h
 exact wpAny_Return_some (thn (he pz s σ H _ I h) fun v s1 ⟨x,H1,I1,r1,q1⟩=>⟨x,σ,H1,I1,r1,q1⟩)
def rM (c:TT) (t u:TS):TS:=fun D σ H=>c σ H fun b H1=>if b=true then t D σ H1 else u D σ H1
theorem fV {c:Expr} {a b:List Stmt} {tc:TT} (hc:PT X c tc) (ha:PSs X a t) (hb:PSs X b u):PS X (.If c a b pos) (rM tc t u):=by
 intro pz s σ H D I h
 refine wpAny_If (thn (hc pz s σ H _ I h) fun d s1 ⟨H1,I1,q1⟩=>?_)
 cases d with
 |true=>exact ha pz s1 σ H1 D I1 q1
 |false=>exact hb pz s1 σ H1 D I1 q1
end
abbrev TG:=V->St->Hp->(St->Hp->Prop)->Prop
abbrev TGs:=List V->St->Hp->(St->Hp->Prop)->Prop
def PG (X:Cx) (target:Expr) (t:TG):Prop:=
 ∀(pz:List (Addr×Obj)) (s:Shared) (σ:St) (H:Hp) (v:V) (u:Value) (Q:St->Hp->Prop),Inv X pz σ H s->gN v u->t v σ H Q->
  wpAny (model X.prog X.w) X.A (assign target X.env u) (fun _ s'=>∃σ' H',Inv X pz σ' H' s'/\Q σ' H') X.xe s
def PGs (X:Cx) (ts:List Expr) (t:TGs):Prop:=
 ∀(pz:List (Addr×Obj)) (s:Shared) (σ:St) (H:Hp) (vs:List V) (us:List Value) (Q:St->Hp->Prop),Inv X pz σ H s->gG vs us->t vs σ H Q->
  wpAny (model X.prog X.w) X.A (assignInOrder ((assignEach ts X.env).map (·.2)) us) (fun _ s'=>∃σ' H',Inv X pz σ' H' s'/\Q σ' H') X.xe s
abbrev EZ:=V->V->V->Hp->(Hp->Prop)->Prop
def Gy (X:Cx) (t:EZ):Prop:=
 ∀(pz:List (Addr×Obj)) (s:Shared) (σ:St) (H:Hp) (o i v:V) (ov iv u:Value) (Q:Hp->Prop),Inv X pz σ H s->gN o ov->gN i iv->gN v u->t o i v H Q->
  wpAny (model X.prog X.w) X.A (setItem ov iv u) (fun _ s'=>∃H',Inv X pz σ H' s'/\Q H') X.xe s
section
variable {X:Cx} {pos:Pos}
def fu (i:Nat):TG:=fun v σ H Q=>Q (σ.set i (some v)) H
theorem uD {i:Nat} {x:Str} (hN:X.N.Nodup) (hi:X.N[i]?=some x) (hx:Loc X.env.scope x) (hf:autoParam (X.fn x=true\/X.env.scope.names.lookup x=some .local) L2.Internal.auL._auto_1):PG X (.Name x pos) (fu i):=by
 intro pz s σ H v u Q I r h
 exact wpAny_assign_Name (pe I hN hi hx r (fun s' I'=>⟨_,H,I',h⟩) hf)
def Dc:TGs:=fun vs σ H Q=>vs=[]/\Q σ H
def pq (t:TG) (u:TGs):TGs:=fun vs σ H Q=>∃v r,vs=v::r/\t v σ H fun σ' H'=>u r σ' H' Q
theorem pA:PGs X [] Dc:=by
 intro pz s σ H vs us Q I r h
 obtain⟨e,h⟩:=h
 subst e
 cases r
 exact assignInOrder_nil ⟨σ,H,I,h⟩
theorem jm {e:Expr} {es:List Expr} {t:TG} {u:TGs} (h1:PG X e t) (h2:PGs X es u)
  (hs:autoParam ((assignEach (e::es) X.env).map (·.2)=assign e X.env::(assignEach es X.env).map (·.2)) L2.Internal.auR._auto_1):PGs X (e::es) (pq t u):=by
 intro pz s σ H vs us Q I r h
 obtain⟨v,vr,e1,h⟩:=h
 subst e1
 cases r with
 |cons r rr=>
  rw[hs]
  refine assignInOrder_cons (thn (h1 pz s σ H _ _ _ I r h) fun _ s1 ⟨σ1,H1,I1,q1⟩=>?_)
  exact h2 pz s1 σ1 H1 _ _ Q I1 rr q1
def Dd (K:PySem.W.Frag) (n:Nat) (t:TGs):TG:=fun v σ H Q=>∃a xs,v= .ref a/\SqT K H a xs/\xs.length=n/\t xs σ H Q
theorem sY {es:List Expr} {k:Nat} {t:TGs} {n:Nat} (hc:X.calm=true) (h:PGs X es t)
  (hn:autoParam ((assignEach es X.env).length=n) L2.Internal.auR._auto_1) (hst:autoParam ((assignEach es X.env).findIdx? (·.1)=none) L2.Internal.auR._auto_1):PG X (.Tuple es k pos) (Dd X.K n t):=by
 intro pz s σ H v u Q I r hw
 obtain⟨a,xs,e1,hq,hl,hw⟩:=hw
 subst e1
 cases r
 obtain⟨its,rv,ht,hz⟩:=I.tuple hq
 refine assign_Tuple_tuple (I.ok.hd hc) ht (by simp[hn,<-hl,rv.length]) hst fun h' hx=>?_
 have I1:Inv X pz σ H {s with heap:=h'}:=I.kept (t':=s.toks) fun b o e=>hx b o (bT (dX e)) e
 exact h pz _ σ H xs _ Q I1 (by simpa using rv) hw
def Gz (to ti:TE) (t:EZ):TG:=fun v σ H Q=>to σ H fun o H1=>ti σ H1 fun i H2=>t o i v H2 fun H3=>Q σ H3
theorem qV {o i:Expr} {to ti:TE} {t:EZ} (ho:PE X o to) (hi:PE X i ti) (hs:Gy X t)
  (ha:∀v,assign (.Subscript o i pos) X.env v=(do
   let ov<-holding [v] (eval o X.env)
   let iv<-holding [v,ov] (eval i X.env)
   standAt pos
   holding [v,ov,iv] (setItem ov iv v)
   release [v,ov,iv] []):=by intro _;rfl):PG X (.Subscript o i pos) (Gz to ti t):=by
 intro pz s σ H v u Q I r h
 rw[ha]
 refine wpAny_bind (wpAny_holding (thn (ho pz s σ H _ I h) fun ov s1 ⟨x,H1,I1,r1,q1⟩=>?_))
 refine wpAny_bind (wpAny_holding (thn (hi pz s1 σ H1 _ I1 q1) fun iv s2 ⟨y,H2,I2,r2,q2⟩=>?_))
 refine wpAny_bind (wpAny_standAt (wpAny_bind (wpAny_holding (thn (hs pz s2 σ H2 x y v ov iv u _ I2 r1 r2 r q2) fun _ s3 ⟨H3,I3,q3⟩=>?_))))
 exact wpAny_release ⟨σ,H3,I3,q3⟩
def zB (te:TE) (g:TG):TS:=fun D σ H=>te σ H fun x H1=>g x σ H1 D.nx
theorem qW {tg e:Expr} {te:TE} {g:TG} (he:PE X e te) (hg:PG X tg g) (hs:autoParam (swapsWithSole [tg] e pos.line X.env=pure false) L2.Internal.auR._auto_1) (hw:autoParam (swappedStores [tg] e X.env=pure none) L2.Internal.auR._auto_1)
  (h1:autoParam ((assignEach [tg] X.env).map (·.2)=[assign tg X.env]) L2.Internal.auR._auto_1):PS X (.Assign [tg] e pos) (zB te g):=by
 intro pz s σ H D I h
 refine wpAny_Assign_stores (thn (he pz s σ H _ I h) fun v s1 ⟨x,H1,I1,r1,q1⟩=>?_) hs hw
 rw[h1]
 exact thn (hg pz s1 σ H1 x v _ I1 r1 q1) fun _ s2 q=>q
theorem Du {i:Nat} {x:Str} {e:Expr} {te:TE} {pos':Pos} (hN:X.N.Nodup) (hi:X.N[i]?=some x) (hx:Loc X.env.scope x) (he:PE X e te) (hs:autoParam (swapsWith e (some (.Name x pos')) pos.line X.env=pure false) L2.Internal.auR._auto_1) (hf:autoParam (X.fn x=true\/X.env.scope.names.lookup x=some .local) L2.Internal.auL._auto_1):
  PS X (.Assign [.Name x pos'] e pos) (zB te (fu i)):=by
 intro pz s σ H D I h
 refine wpAny_Assign_Name (thn (he pz s σ H _ I h) fun v s1 ⟨y,H1,I1,r1,q1⟩=>?_) hs
 exact pe I1 hN hi hx r1 (fun s2 I2=>⟨_,H1,I2,q1⟩) hf
end
section
variable {X:Cx} {pos:Pos}
end
structure It where
 go:Nat->Hp->Prop
 yld:Nat->Hp->V->Hp->Prop
 stop:Nat->Hp->Prop
def uF (X:Cx) (pz:List (Addr×Obj)) (H:Hp) (b:Addr):Prop:=
 H b=none/\b≠X.env.locals/\b∉X.fs/\(b∈X.ex\/X.s₀.heap.objs.size<=b)/\(∀x c,X.env.cells.lookup x=some c->c≠b)/\∀p∈X.pn++pz,p.1≠b
theorem Inv.fpOk {X:Cx} {pz:List (Addr×Obj)} {σ:St} {H H':Hp} {s:Shared} {b:Addr} (I:Inv X pz σ H s) (hb:s.heap.objs.size<=b) (hn:H' b=none):uF X pz H' b:=by
 refine⟨hn,bW (bR I.lt hb),I.nofs hb,.inr (bU I.sz hb),fun x c e z=>?_,fun p hp z=>?_⟩
 ·obtain⟨v,q⟩:=I.cell x c e
  exact absurd (bR q.lt (by rw[z];exact hb)) (bS _)
 ·exact absurd (bR (dX (I.pin p hp).1) (by rw[z];exact hb)) (bS _)
structure zJ (P:Program) (w:World) (K:PySem.W.Frag) (tg:Expr) (J:It) (fp:List Addr) (it:Addr) (tn:Nat->Heap->Prop):Prop where
 mem:it∈fp
 obj:∀i h,tn i h->∀b∈fp,∃o,h.get? b=some o/\∀v,o.data≠ .cell v
 keep:∀i h h',tn i h->(∀b∈fp,∀o,h.get? b=some o->h'.get? b=some o)->tn i h'
 item:∀(X:Cx),X.prog=P->X.w=w->X.K=K->X.calm=true->∀(i:Nat) (pz:List (Addr×Obj)) (s:Shared) (σ:St) (H:Hp) (E:Value->Shared->Prop),Inv X pz σ H s->(∀b∈fp,uF X pz H b)->tn i s.heap->J.go i H->
  wpAny (model P w) X.A (pyNext (.ref it)) (fun r s1=>∃u,r=some u/\
   wpAny (model P w) X.A (letOwnedTupleGo tg (.ref it) u) (fun _ s2=>∃x H',Inv X pz σ H' s2/\gN x u/\J.yld i H x H'/\tn (i+ 1) s2.heap/\∀b∈fp,H' b=none) E s1) E s
 done:∀(X:Cx),X.prog=P->X.w=w->X.K=K->X.calm=true->∀(i:Nat) (pz:List (Addr×Obj)) (s:Shared) (σ:St) (H:Hp) (E:Value->Shared->Prop),Inv X pz σ H s->(∀b∈fp,uF X pz H b)->tn i s.heap->J.stop i H->
  wpAny (model P w) X.A (pyNext (.ref it)) (fun r s1=>r=none/\Inv X pz σ H s1) E s
 self:∀(A:Around) (i:Nat) (s:Shared) (Q:Value->Shared->Prop) (E:Value->Shared->Prop),tn i s.heap->Q (.ref it) s->wpAny (model P w) A (pyIter (.ref it)) Q E s
abbrev TI:=St->Hp->(It->Hp->Prop)->Prop
def PIE (X:Cx) (pz:List (Addr×Obj)) (σ:St) (tg:Expr) (R:It->Hp->Prop) (itv:Value) (s2:Shared):Prop:=
 ∃(it:Addr) (fp:List Addr) (tn:Nat->Heap->Prop) (J:It) (H':Hp),itv= .ref it/\Inv X pz σ H' s2/\zJ X.prog X.w X.K tg J fp it tn/\tn 0 s2.heap/\(∀b∈fp,uF X pz H' b)/\R J H'
def PI (X:Cx) (tg iter:Expr) (wi:TI):Prop:=
 ∀(pz:List (Addr×Obj)) (s:Shared) (σ:St) (H:Hp) (R:It->Hp->Prop),Inv X pz σ H s->wi σ H R->
  wpAny (model X.prog X.w) X.A (eval iter X.env) (fun v s1=>wpAny (model X.prog X.w) X.A (pyIter v) (PIE X pz σ tg R) X.xe s1) X.xe s
theorem BF {M : Model} {A : Around} {E : Value -> Shared -> Prop} {s : Shared} {tg : Expr} {it : Addr} {u : Value} {o : Obj} {n : String} {vs : Array Value} {Q : Unit -> Shared -> Prop} (ho : s.heap.get? it = some o) (hc : o.cls = .type n) (hd : o.data = .fields vs)
  (hn : ["enumerate", "zip", "dict_itemiterator", "dict_reverseitemiterator", "odict_iterator", "itertools.zip_longest", "itertools.pairwise"].contains n = false) (hQ : Q () s) : wpAny M A (letOwnedTupleGo tg (.ref it) u) Q E s := by
 unfold letOwnedTupleGo
 cases tg <;> first
  | exact wpAny_pure hQ
  | (cases u <;> first
    | exact wpAny_pure hQ
    | (refine wpAny_bind (wpAny_load ho ?_)
       rw [hc, hd]
       show wpAny M A (if (["enumerate", "zip", "dict_itemiterator", "dict_reverseitemiterator", "odict_iterator", "itertools.zip_longest", "itertools.pairwise"].contains n && vs[0]? == some (rawInt _)) = true then _ else _) Q E s
       rw [fJ (by intro h; rw [hn, Bool.false_and] at h; cases h)]
       exact wpAny_pure hQ))
def Itl (K:PySem.W.Frag) (a:Addr):It:=
 ⟨fun i H=>∃xs x,SqL K H a xs/\xs[i]?=some x,fun i H x H'=>H'=H/\∀xs,SqL K H a xs->xs[i]?=some x,fun i H=>∃xs,SqL K H a xs/\xs.length<=i⟩
def Itt (K:PySem.W.Frag) (a:Addr):It:=
 ⟨fun i H=>∃xs x,SqT K H a xs/\xs[i]?=some x,fun i H x H'=>H'=H/\∀xs,SqT K H a xs->xs[i]?=some x,fun i H=>∃xs,SqT K H a xs/\xs.length<=i⟩
def Itr (lo:Int) (n:Nat):It:=⟨fun i _=>i<n,fun i H x H'=>H'=H/\x= .int (lo+i),fun i _=>n<=i⟩
theorem xy {P:Program} {w:World} {K:PySem.W.Frag} {tg:Expr} (a it:Addr):zJ P w K tg (Itl K a) [it] it (fun i h=>h.IsListIter it a i) where
 mem:=by simp
 obj:=fun i h st b hb=>by
  have e:b=it:=by simpa using hb
  subst e
  obtain⟨o,e,c,d⟩:=st
  exact⟨o,e,fun v z=>by rw[d]at z;cases z⟩
 keep:=fun i h h' st k=>st.at fun o e=>k it (by simp) o e
 item:=by
  intro X hP hw hK hc i pz s σ H E I hf st hg
  subst hP hw hK
  obtain⟨xs,x,hq,hx⟩:=hg
  obtain⟨its,rv,p,hz⟩:=I.list hq
  obtain⟨u,hu,ru⟩:=rv.get hx
  obtain⟨f0,f1,f2,f3,f4,f5⟩:=hf it (by simp)
  refine wpAny_pyNext_list_item st p.isList (x:=u) (by simpa using hu) fun h' st' sb=>?_
  have I1:Inv X pz σ H {s with heap:=h'}:=I.turned (t':=s.toks) (fun b o hb e=>(sb.2 b hb).trans e) f0 f1 f3 f4 f5
  obtain⟨o,e,c,d⟩:=id st'
  exact⟨u,rfl,BF (s:={s with heap:=h'}) e c d (by decide) ⟨x,H,I1,ru,⟨rfl,fun ys hy=>by rw[I.list_inj hy hq];exact hx⟩,st',fun b hb=>(hf b hb).1⟩⟩
 done:=by
  intro X hP hw hK hc i pz s σ H E I hf st hg
  subst hP hw hK
  obtain⟨xs,hq,hx⟩:=hg
  obtain⟨its,rv,p,hz⟩:=I.list hq
  obtain⟨f0,f1,f2,f3,f4,f5⟩:=hf it (by simp)
  have hl:=rv.length
  exact wpAny_pyNext_list_end (I.ok.hd hc) st p.isList (by simp;lia) fun h' eb=>⟨rfl,I.turned (t':=s.toks) (fun b o hb e=>eb b o hb e) f0 f1 f3 f4 f5⟩
 self:=fun _ _ _ _ _ st h=>wpAny_pyIter_listiter st h
theorem wg {P:Program} {w:World} {K:PySem.W.Frag} {tg:Expr} (a it:Addr):zJ P w K tg (Itt K a) [it] it (fun i h=>h.IsTupleIter it a i) where
 mem:=by simp
 obj:=fun i h st b hb=>by
  have e:b=it:=by simpa using hb
  subst e
  obtain⟨o,e,c,d⟩:=st
  exact⟨o,e,fun v z=>by rw[d]at z;cases z⟩
 keep:=fun i h h' st k=>st.at fun o e=>k it (by simp) o e
 item:=by
  intro X hP hw hK hc i pz s σ H E I hf st hg
  subst hP hw hK
  obtain⟨xs,x,hq,hx⟩:=hg
  obtain⟨its,rv,p,hz⟩:=I.tuple hq
  obtain⟨u,hu,ru⟩:=rv.get hx
  obtain⟨f0,f1,f2,f3,f4,f5⟩:=hf it (by simp)
  refine wpAny_pyNext_tuple_item st (show s.heap.IsTuple a its.toArray from p) (x:=u) (by simpa using hu) fun h' st' sb=>?_
  have I1:Inv X pz σ H {s with heap:=h'}:=I.turned (t':=s.toks) (fun b o hb e=>(sb.2 b hb).trans e) f0 f1 f3 f4 f5
  obtain⟨o,e,c,d⟩:=id st'
  exact⟨u,rfl,BF (s:={s with heap:=h'}) e c d (by decide) ⟨x,H,I1,ru,⟨rfl,fun ys hy=>by rw[I.tuple_inj hy hq];exact hx⟩,st',fun b hb=>(hf b hb).1⟩⟩
 done:=by
  intro X hP hw hK hc i pz s σ H E I hf st hg
  subst hP hw hK
  obtain⟨xs,hq,hx⟩:=hg
  obtain⟨its,rv,p,hz⟩:=I.tuple hq
  obtain⟨f0,f1,f2,f3,f4,f5⟩:=hf it (by simp)
  have hl:=rv.length
  exact wpAny_pyNext_tuple_end (I.ok.hd hc) st (show s.heap.IsTuple a its.toArray from p) (by simp;lia) fun h' eb=>⟨rfl,I.turned (t':=s.toks) (fun b o hb e=>eb b o hb e) f0 f1 f3 f4 f5⟩
 self:=fun _ _ _ _ _ st h=>wpAny_pyIter_tupleiter st h
theorem wj {P:Program} {w:World} {K:PySem.W.Frag} {tg:Expr} (it:Addr) (lo:Int) (n:Nat):zJ P w K tg (Itr lo n) [it] it (fun i h=>IsRangeIter h it (lo+(i:Nat)*1) ((n:Int)-(i:Nat)) 1) where
 mem:=by simp
 obj:=fun i h st b hb=>by
  have e:b=it:=by simpa using hb
  subst e
  exact⟨_,st,fun v z=>by
   have z':Data.fields _=Data.cell v:=z
   cases z'⟩
 keep:=fun i h h' st k=>k it (by simp) _ st
 item:=by
  intro X hP hw hK hc i pz s σ H E I hf st hg
  subst hP hw hK
  obtain⟨f0,f1,f2,f3,f4,f5⟩:=hf it (by simp)
  have W:=Walks.range (prog:=X.prog) (w:=X.w) (I.ok.hd hc) it lo 1 n
  refine W.item i s _ _ hg st fun v h' tk hv st' kk=>?_
  obtain⟨t,rfl⟩:=hv
  have I1:Inv X pz σ H {s with heap:=h',toks:=tk}:=I.turned (fun b o hb e=>kk b o (by simpa using hb) e) f0 f1 f3 f4 f5
  refine⟨_,rfl,BF (s:={s with heap:=h',toks:=tk}) (n:="range_iterator") st' rfl rfl (by decide) ⟨.int (lo+i),H,I1,⟨t,?_⟩,⟨rfl,rfl⟩,st',fun b hb=>(hf b hb).1⟩⟩
  rw[Int.mul_one]
 done:=by
  intro X hP hw hK hc i pz s σ H E I hf st hg
  subst hP hw hK
  obtain⟨f0,f1,f2,f3,f4,f5⟩:=hf it (by simp)
  exact wpAny_pyNext_range_end (I.ok.hd hc) st (by have:n<=i:=hg;lia) fun h' eb=>⟨rfl,I.turned (t':=s.toks) (fun b o hb e=>eb b o hb e) f0 f1 f3 f4 f5⟩
 self:=fun _ _ _ _ _ st h=>wpAny_pyIter_rangeiter st h
section
variable {X:Cx} {tg:Expr}
def E1 (K:PySem.W.Frag) (tl:TE):TI:=fun σ H R=>tl σ H fun x H1=>∃a,x= .ref a/\(∃xs,SqL K H1 a xs)/\R (Itl K a) H1
def iTup (K:PySem.W.Frag) (tl:TE):TI:=fun σ H R=>tl σ H fun x H1=>∃a,x= .ref a/\(∃xs,SqT K H1 a xs)/\R (Itt K a) H1
theorem kP {l:Expr} {tl:TE} (hl:PE X l tl):PI X tg l (E1 X.K tl):=by
 intro pz s σ H R I h
 refine thn (hl pz s σ H _ I h) fun v s1 ⟨x,H1,I1,r1,q1⟩=>?_
 obtain⟨a,e,⟨xs,hq⟩,q⟩:=q1
 subst e
 cases r1
 obtain⟨its,rv,p,hz⟩:=I1.list hq
 refine wpAny_pyIter_list p.isList ?_
 refine⟨s1.heap.objs.size,[s1.heap.objs.size],_,_,H1,rfl,I1.kept (t':=s1.toks) fun b o e=>dZ _ e,xy a _,⟨_,dY _ rfl,rfl,rfl⟩,fun b hb=>?_,q⟩
 have e:b=s1.heap.objs.size:=by simpa using hb
 subst e
 exact I1.fpOk (bX _) (I1.hok.fresh (bX _))
theorem pB {l:Expr} {tl:TE} (hl:PE X l tl):PI X tg l (iTup X.K tl):=by
 intro pz s σ H R I h
 refine thn (hl pz s σ H _ I h) fun v s1 ⟨x,H1,I1,r1,q1⟩=>?_
 obtain⟨a,e,⟨xs,hq⟩,q⟩:=q1
 subst e
 cases r1
 obtain⟨its,rv,p,hz⟩:=I1.tuple hq
 refine wpAny_pyIter_tuple (show s1.heap.IsTuple a its.toArray from p) ?_
 refine⟨s1.heap.objs.size,[s1.heap.objs.size],_,_,H1,rfl,I1.kept (t':=s1.toks) fun b o e=>dZ _ e,wg a _,⟨_,dY _ rfl,rfl,rfl⟩,fun b hb=>?_,q⟩
 have e:b=s1.heap.objs.size:=by simpa using hb
 subst e
 exact I1.fpOk (bX _) (I1.hok.fresh (bX _))
theorem vo {pz:List (Addr×Obj)} {σ:St} {H:Hp} {s:Shared} {R:It->Hp->Prop} {E:Value->Shared->Prop} {lo hi:Int} {t u v:Tok} {tk:Nat} (I:Inv X pz σ H s) (h1: -(2^62)<=lo) (h2:lo<2^62) (h3: -(2^62)<=hi) (h4:hi<2^62)
  (q:R (Itr lo (hi-lo).toNat) H):wpAny (model X.prog X.w) X.A (pyIter (.ref s.heap.objs.size)) (PIE X pz σ tg R) E {s with heap:=s.heap.push {cls:= .type "range",data:= .fields #[.int lo t,.int hi u,.int 1 v]},toks:=tk}:=by
 refine wpAny_pyIter_range (IsRange.new ..) (small_one h1 h2 h3 h4) ?_
 have I1:Inv X pz σ H {s with heap:=s.heap.push {cls:= .type "range",data:= .fields #[.int lo t,.int hi u,.int 1 v]},toks:=tk}:=I.kept fun b o e=>dZ _ e
 refine⟨(s.heap.push {cls:= .type "range",data:= .fields #[.int lo t,.int hi u,.int 1 v]}).objs.size,[(s.heap.push {cls:= .type "range",data:= .fields #[.int lo t,.int hi u,.int 1 v]}).objs.size],_,_,H,rfl,
  I1.kept (t':=tk) fun b o e=>dZ _ e,wj _ lo (hi-lo).toNat,?_,fun b hb=>?_,q⟩
 ·have e1:lo+((0:Nat):Int)*1=lo:=by simp
  have e2:(((hi-lo).toNat:Nat):Int)-((0:Nat):Int)=Builtin.Range.rangeSize lo hi 1:=by rw[rangeSize_one];split<;>lia
  show IsRangeIter _ _ (lo+((0:Nat):Int)*1) ((((hi-lo).toNat:Nat):Int)-((0:Nat):Int)) 1
  rw[e1,e2]
  exact dY _ rfl
 ·have e:b=(s.heap.push {cls:= .type "range",data:= .fields #[.int lo t,.int hi u,.int 1 v]}).objs.size:=by simpa using hb
  subst e
  exact I1.fpOk (bX _) (I1.hok.fresh (bX _))
def E2 (ta:TA):TI:=fun σ H R=>ta σ H fun vs H1=>∃j:Int,vs=[.int j]/\-(2^62)<=j/\j<2^62/\R (Itr 0 j.toNat) H1
def E3 (ta:TA):TI:=fun σ H R=>ta σ H fun vs H1=>∃i j:Int,vs=[.int i,.int j]/\(-(2^62)<=i/\i<2^62/\-(2^62)<=j/\j<2^62)/\R (Itr i (j-i).toNat) H1
theorem gS {a:Expr} {ta:TA} {p pos:Pos} (hg:Gl X "range") (hm:X.mg "range"=none) (ha:PA X [a] ta) (hs:autoParam (starEach [a] X.env=[(false,eval a X.env)]) L2.Internal.auR._auto_1):PI X tg (.Call (.Name "range" p) [a] [] pos) (E2 ta):=by
 intro pz s σ H R I h
 refine Call_ (lU I hg hm boot_range (eB (thn (ha pos pz s σ H _ I h) fun us s1 ⟨vs,H1,I1,r1,q1⟩=>?_) hs rfl))
 obtain⟨j,e,q1,q2,q⟩:=q1
 subst e
 cases r1 with
 |cons r rr=>
  cases rr
  obtain⟨t,rfl⟩:=r
  exact call_range_1 (vo I1 (by lia) (by lia) q1 q2 (by simpa using q))
theorem xA {a b:Expr} {ta:TA} {p pos:Pos} (hg:Gl X "range") (hm:X.mg "range"=none) (ha:PA X [a,b] ta) (hs:autoParam (starEach [a,b] X.env=[(false,eval a X.env),(false,eval b X.env)]) L2.Internal.auR._auto_1) (hs2:autoParam (starEach [b] X.env=[(false,eval b X.env)]) L2.Internal.auR._auto_1):
  PI X tg (.Call (.Name "range" p) [a,b] [] pos) (E3 ta):=by
 intro pz s σ H R I h
 refine Call_ (lU I hg hm boot_range (eB (thn (ha pos pz s σ H _ I h) fun us s1 ⟨vs,H1,I1,r1,q1⟩=>?_) (by rw[hs,hs2]) (by rw[hs2];rfl)))
 obtain⟨i,j,e,⟨q1,q2,q3,q4⟩,q⟩:=q1
 subst e
 cases r1 with
 |cons r rr=>
  cases rr with
  |cons r' rr=>
   cases rr
   obtain⟨t,rfl⟩:=r
   obtain⟨t',rfl⟩:=r'
   exact call_range_2 (vo I1 q1 q2 q3 q4 q)
def tFor (wi:TI) (g:TG) (tb:TS):TS:=fun D σ H=>wi σ H fun J H1=>∃W:Nat->Nat->St->Hp->Prop,(∃m,W 0 m σ H1)/\∀i m σ H,W i m σ H->
 (J.stop i H/\D.nx σ H)\/(J.go i H/\∃N:St->Hp->Prop,(∀σ' H',N σ' H'->∃m',m'<m/\W (i+ 1) m' σ' H')/\∀x H',J.yld i H x H'->g x σ H' fun σ2 H2=>tb {D with nx:=N,ct:=N,bk:=D.nx} σ2 H2)
def qX (fp:List Addr) (h:Heap):List (Addr×Obj):=fp.filterMap fun b=>(h.get? b).map fun o=>(b,o)
theorem jA {fp:List Addr} {h:Heap} {b:Addr} {o:Obj} (hb:b∈fp) (e:h.get? b=some o):(b,o)∈qX fp h:=List.mem_filterMap.mpr ⟨b,hb,by rw[e];rfl⟩
theorem xB {fp:List Addr} {h:Heap} {p:Addr×Obj} (hp:p∈qX fp h):p.1∈fp/\h.get? p.1=some p.2:=by
 obtain⟨b,hb,e⟩:=List.mem_filterMap.mp hp
 cases q:h.get? b with
 |none=>rw[q]at e;cases e
 |some o=>
  rw[q]at e
  have e':(b,o)=p:=cf.inj e
  subst e'
  exact⟨hb,q⟩
theorem Inv.pinned {pz:List (Addr×Obj)} {σ:St} {H:Hp} {s:Shared} {fp:List Addr} (I:Inv X pz σ H s) (hf:∀b∈fp,uF X pz H b) (ho:∀b∈fp,∃o,s.heap.get? b=some o/\∀v,o.data≠ .cell v):Inv X (pz++qX fp s.heap) σ H s:=
 I.pins_of fun p hp=>(aj.mp hp).elim (fun z=>I.pin p (av _ z)) fun z=>by
  obtain⟨hb,e⟩:=xB z
  obtain⟨f0,f1,f2,_⟩:=hf p.1 hb
  obtain⟨o,e',d⟩:=ho p.1 hb
  rw[e]at e';cases e'
  exact⟨e,f0,f1,f2,d⟩
theorem Inv.unpinned {pz pl:List (Addr×Obj)} {σ:St} {H:Hp} {s:Shared} (I:Inv X (pz++pl) σ H s):Inv X pz σ H s:=I.pins_of fun p hp=>I.pin p (av _ (ak _ hp))
theorem jb {iter:Expr} {body:List Stmt} {wi:TI} {g:TG} {tb:TS} {pos:Pos} (hp:PassesOwn (model X.prog X.w) X.A X.env X.xe) (hc:X.calm=true) (hi:PI X tg iter wi) (hg:PG X tg g) (hb:PSs X body tb)
  (hs:autoParam (∀x,foldedSetIterable iter X.env x=pure x) L2.Internal.auI._auto_1):PS X (.For tg iter body [] pos) (tFor wi g tb):=by
 intro pz s σ H D I h
 refine wpAny_For (thn (hi pz s σ H _ I h) fun v s1 h1=>thn h1 fun itv s2 h2=>?_) hs
 obtain⟨it,fp,tn,J,H2,e,I2,T,st2,f2,W,⟨m0,w0⟩,turn⟩:=h2
 subst e
 have stat:∀{H':Hp},(∀b∈fp,H' b=none)->∀b∈fp,uF X pz H' b:=fun hn b hb=>⟨hn b hb,(f2 b hb).2⟩
 refine codeAny_forLoop_any (fun n s'=>∃i σ' H',Inv X pz σ' H' s'/\tn i s'.heap/\(∀b∈fp,H' b=none)/\W i n σ' H') ?_ m0 ⟨0,σ,H2,I2,st2,fun b hb=>(f2 b hb).1,w0⟩
 rintro n s3 ⟨i,σ3,H3,I3,st3,fr3,w3⟩
 rcases turn i n σ3 H3 w3 with⟨stop,qn⟩|⟨go,N,hN,step⟩
 ·refine wpAny_passesOwn hp (thn (T.done X rfl rfl rfl hc i pz s3 σ3 H3 X.xe I3 (stat fr3) st3 stop) fun r s4 ⟨hr,I4⟩=>?_)
  subst hr
  exact wpAny_execs_nil ⟨σ3,H3,I4,qn⟩
 ·refine wpAny_passesOwn hp (thn (T.item X rfl rfl rfl hc i pz s3 σ3 H3 X.xe I3 (stat fr3) st3 go) fun r s4 ⟨u,hr,h4⟩=>?_)
  subst hr
  refine wpAny_passesOwn hp (thn h4 fun _ s5 ⟨x,H5,I5,r5,y5,st5,fr5⟩=>?_)
  have I5':=I5.pinned (stat fr5) (T.obj _ _ st5)
  refine wpAny_passesOwn hp (thn (hg _ s5 σ3 H5 x u _ I5' r5 (step x H5 y5)) fun _ s6 ⟨σ6,H6,I6,q6⟩=>?_)
  refine wpAny_passesOwn hp (thn (hb _ s6 σ6 H6 _ I6 q6) fun f s7 q7=>?_)
  have again:∀{σ7:St} {H7:Hp},Inv X (pz++qX fp s5.heap) σ7 H7 s7->N σ7 H7->∃m,m<n/\∃i σ' H',Inv X pz σ' H' s7/\tn i s7.heap/\(∀b∈fp,H' b=none)/\W i m σ' H':=fun{σ7 H7} I7 n7=>by
   obtain⟨m',hm,w7⟩:=hN σ7 H7 n7
   refine⟨m',hm,i+ 1,σ7,H7,I7.unpinned,T.keep _ _ _ st5 fun b hb o e=>(I7.pin (b,o) (av _ (av _ (jA hb e)))).1,fun b hb=>?_,w7⟩
   obtain⟨o,e,d⟩:=T.obj _ _ st5 b hb
   exact(I7.pin (b,o) (av _ (av _ (jA hb e)))).2.1
  cases f with
  |next=>obtain⟨σ7,H7,I7,n7⟩:=q7;exact again I7 n7
  |cont=>obtain⟨σ7,H7,I7,n7⟩:=q7;exact again I7 n7
  |brk=>obtain⟨σ7,H7,I7,q7⟩:=q7;exact⟨σ7,H7,I7.unpinned,q7⟩
  |ret v=>obtain⟨x7,σ7,H7,I7,r7,q7⟩:=q7;exact⟨x7,σ7,H7,I7.unpinned,r7,q7⟩
end
theorem rN {K:PySem.W.Frag} {a:Addr} {xs:List V} {g:TG} {tb:TS} {D:mh} {σ:St} {H:Hp} (Pv:Nat->St->Hp->Prop) (h0:Pv 0 σ H) (hl:∀i σ H,i<=xs.length->Pv i σ H->SqL K H a xs)
  (hs:∀i x σ H,xs[i]?=some x->Pv i σ H->g x σ H fun σ2 H2=>tb {D with nx:=Pv (i+ 1),ct:=Pv (i+ 1),bk:=D.nx} σ2 H2) (hd:∀σ H,Pv xs.length σ H->D.nx σ H):
  ∃W:Nat->Nat->St->Hp->Prop,(∃m,W 0 m σ H)/\∀i m σ H,W i m σ H->
   ((Itl K a).stop i H/\D.nx σ H)\/((Itl K a).go i H/\∃N:St->Hp->Prop,(∀σ' H',N σ' H'->∃m',m'<m/\W (i+ 1) m' σ' H')/\∀x H',(Itl K a).yld i H x H'->g x σ H' fun σ2 H2=>tb {D with nx:=N,ct:=N,bk:=D.nx} σ2 H2):=by
 refine⟨fun i m σ H=>m=xs.length-i/\i<=xs.length/\Pv i σ H,⟨xs.length,by simp,bY _,h0⟩,?_⟩
 rintro i m σ H ⟨rfl,hi,p⟩
 have q:=hl i σ H hi p
 by_cases hlt:i<xs.length
 ·refine .inr ⟨⟨xs,xs[i],q,by simp[hlt]⟩,Pv (i+ 1),fun σ' H' p'=>⟨xs.length-(i+ 1),by lia,rfl,hlt,p'⟩,fun x H' y=>?_⟩
  obtain⟨e,y⟩:=y
  subst e
  exact hs i x σ _ (y xs q) p
 ·have e:i=xs.length:=by lia
  subst e
  exact .inl ⟨⟨xs,q,bX _⟩,hd σ H p⟩
theorem pD {K:PySem.W.Frag} {a:Addr} {xs:List V} {g:TG} {tb:TS} {D:mh} {σ:St} {H:Hp} (Pv:Nat->St->Hp->Prop) (h0:Pv 0 σ H) (hl:∀i σ H,i<=xs.length->Pv i σ H->SqT K H a xs)
  (hs:∀i x σ H,xs[i]?=some x->Pv i σ H->g x σ H fun σ2 H2=>tb {D with nx:=Pv (i+ 1),ct:=Pv (i+ 1),bk:=D.nx} σ2 H2) (hd:∀σ H,Pv xs.length σ H->D.nx σ H):
  ∃W:Nat->Nat->St->Hp->Prop,(∃m,W 0 m σ H)/\∀i m σ H,W i m σ H->
   ((Itt K a).stop i H/\D.nx σ H)\/((Itt K a).go i H/\∃N:St->Hp->Prop,(∀σ' H',N σ' H'->∃m',m'<m/\W (i+ 1) m' σ' H')/\∀x H',(Itt K a).yld i H x H'->g x σ H' fun σ2 H2=>tb {D with nx:=N,ct:=N,bk:=D.nx} σ2 H2):=by
 refine⟨fun i m σ H=>m=xs.length-i/\i<=xs.length/\Pv i σ H,⟨xs.length,by simp,bY _,h0⟩,?_⟩
 rintro i m σ H ⟨rfl,hi,p⟩
 have q:=hl i σ H hi p
 by_cases hlt:i<xs.length
 ·refine .inr ⟨⟨xs,xs[i],q,by simp[hlt]⟩,Pv (i+ 1),fun σ' H' p'=>⟨xs.length-(i+ 1),by lia,rfl,hlt,p'⟩,fun x H' y=>?_⟩
  obtain⟨e,y⟩:=y
  subst e
  exact hs i x σ _ (y xs q) p
 ·have e:i=xs.length:=by lia
  subst e
  exact .inl ⟨⟨xs,q,bX _⟩,hd σ H p⟩
theorem kl {lo:Int} {n:Nat} {g:TG} {tb:TS} {D:mh} {σ:St} {H:Hp} (Pv:Nat->St->Hp->Prop) (h0:Pv 0 σ H)
  (hs:∀i σ H,i<n->Pv i σ H->g (.int (lo+i)) σ H fun σ2 H2=>tb {D with nx:=Pv (i+ 1),ct:=Pv (i+ 1),bk:=D.nx} σ2 H2) (hd:∀σ H,Pv n σ H->D.nx σ H):
  ∃W:Nat->Nat->St->Hp->Prop,(∃m,W 0 m σ H)/\∀i m σ H,W i m σ H->
   ((Itr lo n).stop i H/\D.nx σ H)\/((Itr lo n).go i H/\∃N:St->Hp->Prop,(∀σ' H',N σ' H'->∃m',m'<m/\W (i+ 1) m' σ' H')/\∀x H',(Itr lo n).yld i H x H'->g x σ H' fun σ2 H2=>tb {D with nx:=N,ct:=N,bk:=D.nx} σ2 H2):=by
 refine⟨fun i m σ H=>m=n-i/\i<=n/\Pv i σ H,⟨n,by simp,bY _,h0⟩,?_⟩
 rintro i m σ H ⟨rfl,hi,p⟩
 by_cases hlt:i<n
 ·refine .inr ⟨hlt,Pv (i+ 1),fun σ' H' p'=>⟨n-(i+ 1),by lia,rfl,hlt,p'⟩,fun x H' y=>?_⟩
  obtain⟨e,y⟩:=y
  subst e y
  exact hs i σ _ hlt p
 ·have e:i=n:=by lia
  subst e
  exact .inl ⟨bX _,hd σ H p⟩
abbrev R2:=V->V->Hp->VK->Prop
def OpR (X:Cx) (f:Value->Value->Sem Value) (r:R2):Prop:=
 ∀(pz:List (Addr×Obj)) (s:Shared) (σ:St) (H:Hp) (x y:V) (v u:Value) (Q:VK),Inv X pz σ H s->gN x v->gN y u->r x y H Q->
  wpAny (model X.prog X.w) X.A (f v u) (EP X pz σ Q) X.xe s
def UnR (X:Cx) (f:Value->Sem Value) (r:V->Hp->VK->Prop):Prop:=
 ∀(pz:List (Addr×Obj)) (s:Shared) (σ:St) (H:Hp) (x:V) (v:Value) (Q:VK),Inv X pz σ H s->gN x v->r x H Q->
  wpAny (model X.prog X.w) X.A (f v) (EP X pz σ Q) X.xe s
def m7 (X:Cx) (f:Value) (r:List V->Hp->VK->Prop):Prop:=
 ∀(pz:List (Addr×Obj)) (s:Shared) (σ:St) (H:Hp) (xs:List V) (us:List Value) (Q:VK),Inv X pz σ H s->gG xs us->r xs H Q->
  wpAny (model X.prog X.w) X.A (call f us) (EP X pz σ Q) X.xe s
def tOp (r:R2) (ta tb:TE):TE:=fun σ H Q=>ta σ H fun x H1=>tb σ H1 fun y H2=>r x y H2 Q
def tUn (r:V->Hp->VK->Prop) (ta:TE):TE:=fun σ H Q=>ta σ H fun x H1=>r x H1 Q
def rI (C:Int->Int->Prop) (g:Int->Int->V):R2:=fun x y H Q=>∃i j,x= .int i/\y= .int j/\C i j/\Q (g i j) H
def rI0 (g:Int->Int->V):R2:=fun x y H Q=>∃i j,x= .int i/\y= .int j/\Q (g i j) H
def rU (g:Int->V):V->Hp->VK->Prop:=fun x H Q=>∃i,x= .int i/\Q (g i) H
section
variable {X:Cx} {a b c:Expr} {ta tb tc:TE} {pos:Pos}
theorem E4 (ha:PE X a ta) (hb:PE X b tb) {pz:List (Addr×Obj)} {s:Shared} {σ:St} {H:Hp} {R:V->V->Hp->Prop} (I:Inv X pz σ H s)
  (h:ta σ H fun x H1=>tb σ H1 fun y H2=>R x y H2) {Q:Value->Shared->Prop} {f:Value->Value->Sem Value}
  (hf:∀v u s2 x y H2,Inv X pz σ H2 s2->gN x v->gN y u->R x y H2->wpAny (model X.prog X.w) X.A (f v u) Q X.xe s2):
  wpAny (model X.prog X.w) X.A (eval a X.env) (fun v s₁=>wpAny (model X.prog X.w) X.A (eval b X.env) (fun u s₂=>wpAny (model X.prog X.w) X.A (f v u) Q X.xe s₂) X.xe s₁) X.xe s:=by
 refine thn (ha pz s σ H _ I h) fun v s1 ⟨x,H1,I1,r1,q1⟩=>?_
 refine thn (hb pz s1 σ H1 _ I1 q1) fun u s2 ⟨y,H2,I2,r2,q2⟩=>?_
 exact hf v u s2 x y H2 I2 r1 r2 q2
theorem fC {op:Operator} {r:R2} (ho:OpR X (binaryOp op) r) (ha:PE X a ta) (hb:PE X b tb):PE X (.BinOp a op b pos) (tOp r ta tb):=by
 intro pz s σ H Q I h
 exact wpAny_BinOp (E4 ha hb I h fun v u s2 x y H2 I2 rx ry q=>ho pz s2 σ H2 x y v u Q I2 rx ry q)
theorem kM {op:UnaryOp} {r:V->Hp->VK->Prop} (ho:UnR X (unaryOp op) r) (ha:PE X a ta):PE X (.UnaryOp op a pos) (tUn r ta):=by
 intro pz s σ H Q I h
 exact UnaryOp_ (thn (ha pz s σ H _ I h) fun v s1 ⟨x,H1,I1,r1,q1⟩=>ho pz s1 σ H1 x v Q I1 r1 q1)
theorem opI {f:Value->Value->Sem Value} {C:Int->Int->Prop} {g:Int->Int->Int}
  (rule:∀(i j:Int) (t u:Tok) (s:Shared) (Q:Value->Shared->Prop) (E:Value->Shared->Prop),C i j->Q (.int (g i j) s.toks) {s with toks:=s.toks+ 1}->wpAny (model X.prog X.w) X.A (f (.int i t) (.int j u)) Q E s):
  OpR X f (rI C fun i j=> .int (g i j)):=by
 intro pz s σ H x y v u Q I rx ry h
 obtain⟨i,j,rfl,rfl,hc,q⟩:=h
 obtain⟨t,rfl⟩:=rx
 obtain⟨t',rfl⟩:=ry
 exact rule i j t t' s _ _ hc ⟨.int (g i j),H,I.tok _,⟨_,rfl⟩,q⟩
theorem GA {f:Value->Value->Sem Value} {g:Int->Int->Int}
  (rule:∀(i j:Int) (t u:Tok) (s:Shared) (Q:Value->Shared->Prop) (E:Value->Shared->Prop),Q (.int (g i j) s.toks) {s with toks:=s.toks+ 1}->wpAny (model X.prog X.w) X.A (f (.int i t) (.int j u)) Q E s):
  OpR X f (rI0 fun i j=> .int (g i j)):=by
 intro pz s σ H x y v u Q I rx ry h
 obtain⟨i,j,rfl,rfl,q⟩:=h
 obtain⟨t,rfl⟩:=rx
 obtain⟨t',rfl⟩:=ry
 exact rule i j t t' s _ _ ⟨.int (g i j),H,I.tok _,⟨_,rfl⟩,q⟩
theorem E5 {f:Value->Value->Sem Value} {g:Int->Int->Bool}
  (rule:∀(i j:Int) (t u:Tok) (s:Shared) (Q:Value->Shared->Prop) (E:Value->Shared->Prop),Q (.bool (g i j)) s->wpAny (model X.prog X.w) X.A (f (.int i t) (.int j u)) Q E s):
  OpR X f (rI0 fun i j=> .bl (g i j)):=by
 intro pz s σ H x y v u Q I rx ry h
 obtain⟨i,j,rfl,rfl,q⟩:=h
 obtain⟨t,rfl⟩:=rx
 obtain⟨t',rfl⟩:=ry
 exact rule i j t t' s _ _ ⟨.bl (g i j),H,I,rfl,q⟩
def E6 (i j:Int):Prop:=0<j/\j<1073741824
def GB (i j:Int):Prop:=0<=j/\j<=1000000/\i.natAbs<2^64
def Dv (i j:Int):Prop:=(-(2^64)<i/\i<2^64)\/(-(2^64)<j/\j<2^64)
theorem Dv.ok {i j:Int} (h:Dv i j):IntMulOk i j:=by
 rcases h with⟨h1,h2⟩|⟨h1,h2⟩
 ·exact .of_left (intBits_le_64 h1 h2)
 ·exact .of_right (intBits_le_64 h1 h2)
theorem vp:OpR X (binaryOp .Add) (rI0 fun i j=> .int (i+j)):=GA fun _ _ _ _ _ _ _ q=>add_int q
theorem AG:OpR X (binaryOp .Sub) (rI0 fun i j=> .int (i-j)):=GA fun _ _ _ _ _ _ _ q=>sub_int q
theorem Dy:OpR X (binaryOp .Mult) (rI Dv fun i j=> .int (i*j)):=opI fun _ _ _ _ _ _ _ hc q=>mul_int q hc.ok
theorem mi:OpR X (binaryOp .FloorDiv) (rI E6 fun i j=> .int (i/j)):=opI fun i j _ _ _ _ _ hc q=>by
 have h1:(0:Int)<j:=hc.1
 have h2:j<1073741824:=hc.2
 exact floordiv_int (by lia) (by rw[Int.fdiv_eq_ediv_of_nonneg i (by lia)];exact q) (.inl (PyProof.noPylong_small (by lia)))
theorem pE:OpR X (binaryOp .Mod) (rI (fun _ j=>0<j) fun i j=> .int (i%j)):=opI fun i j _ _ _ _ _ hc q=>by
 have h1:(0:Int)<j:=hc
 exact mod_int' (by lia) (by rw[Int.fmod_eq_emod_of_nonneg i (by lia)];exact q)
theorem AH:OpR X (binaryOp .Pow) (rI GB fun i j=> .int (i^j.toNat)):=opI fun _ _ _ _ _ _ _ hc q=>pow_int_small hc.1 hc.2.1 hc.2.2 q
theorem unI {f:Value->Sem Value} {g:Int->Int}
  (rule:∀(i:Int) (t:Tok) (s:Shared) (Q:Value->Shared->Prop) (E:Value->Shared->Prop),Q (.int (g i) s.toks) {s with toks:=s.toks+ 1}->wpAny (model X.prog X.w) X.A (f (.int i t)) Q E s):
  UnR X f (rU fun i=> .int (g i)):=by
 intro pz s σ H x v Q I rx h
 obtain⟨i,rfl,q⟩:=h
 obtain⟨t,rfl⟩:=rx
 exact rule i t s _ _ ⟨.int (g i),H,I.tok _,⟨_,rfl⟩,q⟩
theorem jc:UnR X (unaryOp .USub) (rU fun i=> .int (-i)):=unI fun _ _ _ _ _ q=>neg_int q
end
def GC:V->V->Bool
 | .non,.non=>true| .non,.int _=>true| .int _,.non=>true| .non,.bl _=>true| .bl _,.non=>true| .non,.str _=>true| .str _,.non=>true
 | .int _,.int _=>true| .bl _,.bl _=>true| .str _,.str _=>true| .byt _,.byt _=>true
 | .int _,.str _=>true| .str _,.int _=>true| .bl _,.str _=>true| .str _,.bl _=>true
 |_,_=>false
def rEq:R2:=fun x y H Q=>GC x y=true/\Q (.bl (decide (x=y))) H
def rNe:R2:=fun x y H Q=>GC x y=true/\Q (.bl (!decide (x=y))) H
theorem xC {i j:Int}:decide (V.int i=V.int j)=(i==j):=by
 rw[dI]
 simp
theorem AI {i j:Bool}:decide (V.bl i=V.bl j)=(i==j):=by
 rw[dI]
 simp
theorem xD {i j:Str}:decide (V.str i=V.str j)=(i==j):=by
 rw[dI]
 simp
theorem xE {i j:Array UInt8}:decide (V.byt i=V.byt j)=(i.toList==j.toList):=by
 rw[dI]
 cases i
 cases j
 simp
section
variable {X:Cx} {a b c:Expr} {ta tb tc:TE} {pos:Pos}
theorem gm {pz:List (Addr×Obj)} {σ:St} {H:Hp} {s:Shared} {Q:VK} {k k':Bool} (I:Inv X pz σ H s) (q:Q (.bl k) H) (e:k=k'):EP X pz σ Q (.bool k') s:=by
 subst e
 exact⟨.bl k,H,I,rfl,q⟩
theorem wk:OpR X (compareOp .Eq) rEq:=by
 intro pz s σ H x y v u Q I rx ry h
 obtain⟨hs,q⟩:=h
 cases x with
 |non=>
  cases rx
  cases y with
  |non=>cases ry;exact PySem.EqNone.eq_none_none (gm I q (by simp))
  |bl j=>cases ry;exact PySem.EqNone.eq_none_bool (gm I q (by simp))
  |int j=>obtain⟨t',rfl⟩:=ry;exact PySem.EqNone.eq_none_int (gm I q (by simp))
  |str j=>obtain⟨t',rfl⟩:=ry;exact PySem.EqNone.eq_none_str (gm I q (by simp))
  |_=>exact absurd (show false=true from hs) dJ
 |bl i=>
  cases rx
  cases y with
  |non=>cases ry;exact PySem.EqNone.eq_bool_none (gm I q (by simp))
  |bl j=>cases ry;exact eq_bool (gm I q AI)
  |str j=>obtain⟨t',rfl⟩:=ry;exact PySem.EqMixed.eq_bool_str (gm I q (by simp))
  |_=>exact absurd (show false=true from hs) dJ
 |int i=>
  obtain⟨t,rfl⟩:=rx
  cases y with
  |non=>cases ry;exact PySem.EqNone.eq_int_none (gm I q (by simp))
  |int j=>obtain⟨t',rfl⟩:=ry;exact eq_int (gm I q xC)
  |str j=>obtain⟨t',rfl⟩:=ry;exact PySem.EqMixed.eq_int_str (gm I q (by simp))
  |_=>exact absurd (show false=true from hs) dJ
 |str i=>
  obtain⟨t,rfl⟩:=rx
  cases y with
  |non=>cases ry;exact PySem.EqNone.eq_str_none (gm I q (by simp))
  |bl j=>cases ry;exact PySem.EqMixed.eq_str_bool (gm I q (by simp))
  |int j=>obtain⟨t',rfl⟩:=ry;exact PySem.EqMixed.eq_str_int (gm I q (by simp))
  |str j=>obtain⟨t',rfl⟩:=ry;exact eq_str (gm I q xD)
  |_=>exact absurd (show false=true from hs) dJ
 |byt i=>
  obtain⟨t,rfl⟩:=rx
  cases y with
  |byt j=>obtain⟨t',rfl⟩:=ry;exact PySem.W.eq_bytes (gm I q xE)
  |_=>exact absurd (show false=true from hs) dJ
 |_=>cases y<;>exact absurd (show false=true from hs) dJ
theorem Dz:OpR X (compareOp .NotEq) rNe:=by
 intro pz s σ H x y v u Q I rx ry h
 obtain⟨hs,q⟩:=h
 cases x with
 |non=>
  cases rx
  cases y with
  |non=>cases ry;exact PySem.EqNone.ne_none_none (gm I q (by simp))
  |bl j=>cases ry;exact PySem.EqNone.ne_none_bool (gm I q (by simp))
  |int j=>obtain⟨t',rfl⟩:=ry;exact PySem.EqNone.ne_none_int (gm I q (by simp))
  |str j=>obtain⟨t',rfl⟩:=ry;exact PySem.EqNone.ne_none_str (gm I q (by simp))
  |_=>exact absurd (show false=true from hs) dJ
 |bl i=>
  cases rx
  cases y with
  |non=>cases ry;exact PySem.EqNone.ne_bool_none (gm I q (by simp))
  |bl j=>cases ry;exact ne_bool (gm I q (congrArg not AI))
  |str j=>obtain⟨t',rfl⟩:=ry;exact PySem.EqMixed.ne_bool_str (gm I q (by simp))
  |_=>exact absurd (show false=true from hs) dJ
 |int i=>
  obtain⟨t,rfl⟩:=rx
  cases y with
  |non=>cases ry;exact PySem.EqNone.ne_int_none (gm I q (by simp))
  |int j=>obtain⟨t',rfl⟩:=ry;exact ne_int (gm I q (congrArg not xC))
  |str j=>obtain⟨t',rfl⟩:=ry;exact PySem.EqMixed.ne_int_str (gm I q (by simp))
  |_=>exact absurd (show false=true from hs) dJ
 |str i=>
  obtain⟨t,rfl⟩:=rx
  cases y with
  |non=>cases ry;exact PySem.EqNone.ne_str_none (gm I q (by simp))
  |bl j=>cases ry;exact PySem.EqMixed.ne_str_bool (gm I q (by simp))
  |int j=>obtain⟨t',rfl⟩:=ry;exact PySem.EqMixed.ne_str_int (gm I q (by simp))
  |str j=>obtain⟨t',rfl⟩:=ry;exact ne_str (gm I q (congrArg not xD))
  |_=>exact absurd (show false=true from hs) dJ
 |byt i=>
  obtain⟨t,rfl⟩:=rx
  cases y with
  |byt j=>obtain⟨t',rfl⟩:=ry;exact PySem.W.ne_bytes (gm I q (congrArg not xE))
  |_=>exact absurd (show false=true from hs) dJ
 |_=>cases y<;>exact absurd (show false=true from hs) dJ
theorem E7:OpR X (compareOp .Lt) (rI0 fun i j=> .bl (decide (i<j))):=E5 fun _ _ _ _ _ _ _ q=>lt_int q
theorem E8:OpR X (compareOp .LtE) (rI0 fun i j=> .bl (decide (i<=j))):=E5 fun _ _ _ _ _ _ _ q=>le_int q
theorem E9:OpR X (compareOp .Gt) (rI0 fun i j=> .bl (decide (j<i))):=E5 fun _ _ _ _ _ _ _ q=>gt_int q
theorem xF (b:Expr) {op:CmpOp} (h:autoParam (op≠ .In) L2.Internal.auD._auto_1) (h2:autoParam (op≠ .NotIn) L2.Internal.auD._auto_1):behindInMarks op b=false:=by
 have e1:(op==CmpOp.In)=false:=by cases op<;>first|rfl|exact absurd rfl h
 have e2:(op==CmpOp.NotIn)=false:=by cases op<;>first|rfl|exact absurd rfl h2
 cases b<;>simp[behindInMarks,e1,e2]
theorem nL {op:CmpOp} {r:R2} (ho:OpR X (compareOp op) r) (ha:PE X a ta) (hb:PE X b tb) (hm:behindInMarks op b=false:=by exact xF _):PE X (.Compare a [op] [b] pos) (tOp r ta tb):=by
 intro pz s σ H Q I h
 exact wpAny_Compare1 (E4 ha hb I h fun v u s2 x y H2 I2 rx ry q=>ho pz s2 σ H2 x y v u Q I2 rx ry q) hm
def Fb (t:TE):TT:=fun σ H Q=>t σ H fun x H'=>∃k,x= .bl k/\Q k H'
theorem rO {op:CmpOp} {r:R2} (ho:OpR X (compareOp op) r) (ha:PE X a ta) (hb:PE X b tb) (hm:behindInMarks op b=false:=by exact xF _):PT X (.Compare a [op] [b] pos) (Fb (tOp r ta tb)):=by
 intro pz s σ H Q I h
 refine wpAny_isTrue_Compare1 (thn (ha pz s σ H _ I h) fun v s1 ⟨x,H1,I1,r1,q1⟩=>thn (hb pz s1 σ H1 _ I1 q1) fun u s2 ⟨y,H2,I2,r2,q2⟩=>
  thn (ho pz s2 σ H2 x y v u _ I2 r1 r2 q2) fun c s3 ⟨z,H3,I3,r3,k,e,q3⟩=>?_) hm
 subst e
 cases r3
 exact wpAny_truthy_bool ⟨H3,I3,q3⟩
theorem qY:(sizeLine:Nat)<2^63:=by rw[sizeLine_eq];decide
theorem lJ:OpR X (binaryOp .Add) (fun x y H Q=>∃i j,x= .str i/\y= .str j/\i.length+j.length<=sizeLine/\Q (.str (i++j)) H):=by
 intro pz s σ H x y v u Q I rx ry h
 obtain⟨i,j,rfl,rfl,hz,q⟩:=h
 obtain⟨t,rfl⟩:=rx
 obtain⟨t',rfl⟩:=ry
 exact add_str (fun t' tk=>⟨.str (i++j),H,I.tok _,⟨_,rfl⟩,q⟩) hz
theorem oP {x:V} {us:List Value} (r:gG [x] us):∃u,us=[u]/\gN x u:=by
 cases r with
 |cons r1 r2=>cases r2;exact⟨_,rfl,r1⟩
theorem wm {x y:V} {us:List Value} (r:gG [x,y] us):∃u w',us=[u,w']/\gN x u/\gN y w':=by
 cases r with
 |cons r1 r2=>
  cases r2 with
  |cons r3 r4=>cases r4;exact⟨_,_,rfl,r1,r3⟩
theorem sZ (hc:X.calm=true):m7 X (.builtin "max") (fun xs H Q=>∃i j,xs=[.int i,.int j]/\Q (.int (if j>i then j else i)) H):=by
 intro pz s σ H xs us Q I r h
 obtain⟨i,j,rfl,q⟩:=h
 obtain⟨u,w',rfl,⟨t,rfl⟩,⟨t',rfl⟩⟩:=wm r
 refine max_two_ints (I.ok.hd hc) fun h' tk k=>⟨_,H,I.kept k,?_,q⟩
 by_cases hj:j>i
 ·rw[fY hj,fY hj];exact⟨_,rfl⟩
 ·rw[fJ hj,fJ hj];exact⟨_,rfl⟩
theorem xG:m7 X (.type "int") (fun xs H Q=>(∃i,xs=[.int i]/\Q (.int i) H)\/∃k,xs=[.bl k]/\Q (.int (if k then 1 else 0)) H):=by
 intro pz s σ H xs us Q I r h
 rcases h with⟨i,rfl,q⟩|⟨k,rfl,q⟩
 ·obtain⟨u,rfl,t,rfl⟩:=oP r
  exact call_int_int ⟨.int i,H,I,⟨_,rfl⟩,q⟩
 ·obtain⟨u,rfl,r1⟩:=oP r
  cases r1
  exact call_int_bool ⟨.int (if k then 1 else 0),H,I.tok _,⟨_,rfl⟩,q⟩
def Fc (K:PySem.W.Frag) (x:V) (H:Hp) (n:Nat):Prop:=
 match x with
 | .str y=>y.length<=sizeLine/\n=y.length
 | .byt y=>y.size<=sizeLine/\n=y.size
 | .ref p=>(∃xs,SqL K H p xs/\n=xs.length)\/∃xs,SqT K H p xs/\n=xs.length
 |_=>False
theorem vq:m7 X (.builtin "len") (fun xs H Q=>∃x n,xs=[x]/\Fc X.K x H n/\Q (.int n) H):=by
 intro pz s σ H xs us Q I r h
 obtain⟨x,n,rfl,e,q⟩:=h
 obtain⟨u,rfl,rx⟩:=oP r
 have hl:=qY
 have hs:sizeLine=16777216:=sizeLine_eq
 cases x with
 |str y=>
  obtain⟨t,rfl⟩:=rx
  obtain⟨hy,e'⟩:y.length<=sizeLine/\n=y.length:=e
  subst e'
  exact len_str (by lia) ⟨.int _,H,I.tok _,⟨_,rfl⟩,q⟩
 |byt y=>
  obtain⟨t,rfl⟩:=rx
  obtain⟨hy,e'⟩:y.size<=sizeLine/\n=y.size:=e
  subst e'
  exact PySem.W.len_bytes (by lia) ⟨.int _,H,I.tok _,⟨_,rfl⟩,q⟩
 |ref p=>
  cases rx
  have e':(∃xs,SqL X.K H p xs/\n=xs.length)\/∃xs,SqT X.K H p xs/\n=xs.length:=e
  rcases e' with⟨xs,hx,e'⟩|⟨xs,hx,e'⟩
  ·subst e'
   obtain⟨its,r',pl,hz⟩:=I.list hx
   have hlen:=r'.length
   exact Calls.call_len_list pl.isList (by simp only[aw];lia) ⟨.int xs.length,H,I.tok _,⟨_,by simp only[aw];rw[hlen]⟩,q⟩
  ·subst e'
   obtain⟨its,r',pl,hz⟩:=I.tuple hx
   have hlen:=r'.length
   exact len_tuple pl (by simp only[aw];lia) ⟨.int xs.length,H,I.tok _,⟨_,by simp only[aw];rw[hlen]⟩,q⟩
 |_=>exact(show False from e).elim
end
structure BG (h:Heap) (x dx C:Addr) (mA:Str->Option Value):Prop where
 obj:h.get? x=some (cq C dx)
 ns:h.Ns1 dx mA
 ne:dx≠x
theorem xH {h:Heap} {dx:Addr} {mA:Str->Option Value} (n:h.Ns1 dx mA):∃od,h.get? dx=some od/\∀name,cx name od=some (mA name):=by
 obtain⟨o,es,ep,ho,hd,hk,_,hm⟩:=n
 refine⟨o,ho,fun name=>?_⟩
 have e:=hm name
 unfold nsFind findBy at e
 rw[<-Array.find?_toList]at e
 unfold cx
 rw[hd]
 dsimp only
 split
 ·rename_i y q
  rw[q]at e
  exact congrArg some e
 ·rename_i q
  rw[q]at e
  have a:es.toList.any (·.refKey)=false:=by
   rw[List.any_eq_false]
   intro y hy
   obtain⟨z,t,hkey⟩:=hk y (Array.mem_toList_iff.mp hy)
   simp[DictEntry.refKey,hkey]
  have a':¬es.toList.any (·.refKey)=true:=by rw[a];exact dJ
  rw[fJ a']
  exact congrArg some e
theorem BG.look {h:Heap} {x dx C:Addr} {mA:Str->Option Value} (I:BG h x dx C mA):∃od,PySem.W.InstAt h x (cq C dx) C (some od)/\∀name,cx name od=some (mA name):=
 let⟨od,ho,hl⟩:=xH I.ns
 ⟨od,⟨I.obj,rfl,rfl,ho⟩,hl⟩
section
variable {prog:Program} {w:World} {A:Around} {E:Value->Shared->Prop} {s:Shared} {K:PySem.W.Frag} {x dx C f:Addr} {mA:Str->Option Value} {name:Str} {v:Value}
theorem BH {expr:Bool} {Q:Value->Shared->Prop} (X:K.In s.heap) (I:BG s.heap x dx C mA) (hg:cy K C name=true) (hh:cz K C=true)
  (ha:cB K (.ref C) name=some none) (hv:mA name=some v) (hv':PySem.W.handedIn v=true) (h:Q v {s with toks:=s.toks+ 1}):
  wpAny (model prog w) A (getAttr (.ref x) name expr) Q E s:=by
 obtain⟨od,J,hl⟩:=I.look
 exact PySem.W.get_value X J (cC hg).1 (PySem.W.findObj_own hh ha rfl (by rw[hl,hv])) hv' h
theorem zK {pl:Sem Bool} {Q:Value×List Value->Shared->Prop} (X:K.In s.heap) (I:BG s.heap x dx C mA) (hg:cy K C name=true)
  (hf:cB K (.ref C) name=some (some (.ref f))) (ht:cD K (.ref f)=true) (hv:mA name=none) (h:Q (.ref f,[.ref x]) s):
  wpAny (model prog w) A (getMethod (.ref x) name pl) Q E s:=by
 obtain⟨od,J,hl⟩:=I.look
 exact PySem.W.method_fn X J (cC hg).1 (cC hg).2 hf (beq_iff_eq.mp ht) (by show(cx name od).map (·.isSome)=some false;rw[hl,hv];rfl) h
theorem BI {ns:List Str} {Q:Unit->Shared->Prop} (X:K.In s.heap) (I:BG s.heap x dx C mA)
  (hs:cB K (.ref C) "__setattr__"=some (some (.builtin "object.__setattr__"))) (hp:cE K C=true) (ht:cF K C name=some none) (hh:cz K C=true)
  (hw:PySem.Within mA ns) (hsz:ns.length<=sizeLine)
  (h:∀h',BG h' x dx C (fun y=>if y=name then some v else mA y)->Heap.SameBut dx s.heap h'->Q () {s with heap:=h',toks:=s.toks+ 2}):
  wpAny (model prog w) A (setAttr (.ref x) name v) Q E s:=by
 obtain⟨od,J,hl⟩:=I.look
 refine PySem.W.set_plain X J hs (PySem.W.osa_open (s:={s with toks:=s.toks+ 1}) (r:=none) X J hp ht fun b=>?_)
 obtain⟨cd,hc,hd'⟩:=PySem.W.any_some hh
 have hx:s.heap.get? x=some ⟨.ref C,some dx,.plain,#[]⟩:=I.obj
 refine wpAny_bind (wpAny_pure (wpAny_bind (wpAny_bind (wpAny_loadPart hx (wpAny_bind (PySem.W.Looks.here (s:={s with toks:=s.toks+ 1}) (PySem.W.looks_clsIn X hc) ?_))))))
 rw[hd']
 refine wpAny_pure (a:=some dx) (wpAny_bind (wpAny_pure (wpAny_bind ?_)))
 refine wpAny_nsSet1 (s:={s with toks:=s.toks+ 1}) I.ns fun h' hn2 hs2=>?_
 obtain⟨oD,esD,epD,hoD,hdD,hcD⟩:=hn2.count (PySem.Within.cons name v hw)
 refine wpAny_bind (wpAny_lookBehind hoD (by rw[hdD];exact pastItsLine_dict (bU hcD (by rw[ax];lia))) ?_)
 exact wpAny_pure (h _ ⟨(hs2.2 _ (Ne.symm I.ne)).trans I.obj,hn2,I.ne⟩ hs2)
theorem zL {R:Result->Shared->Prop} {vs:List Value} {kw:List (Str×Value)} (X:K.In s.heap) (hm:cG K C=true)
  (hi:cB K (.ref C) "__init__"=some (some (.ref f))) (hf:PySem.W.typeIn K (.ref f)=some (.type "function"))
  (h:codeAny (model prog w) (A.under (.builtin "type.__call__" ⟨.ref C::vs,kw⟩)) (.call (.ref f) ⟨.ref (s.heap.objs.size+ 1)::vs,kw⟩) (PySem.W.InitBack (s.heap.objs.size+ 1) R)
   {s with heap:=(s.heap.push cH).push (cq C s.heap.objs.size)}):
  codeAny (model prog w) A (.call (.ref C) ⟨vs,kw⟩) R s:=by
 obtain⟨hh,g,d,t,os⟩:=s
 exact PySem.W.make_core (PySem.W.makes_of X hm) (PySem.W.looks_findIn X hi) (fun self=>PySem.W.bind_fn X self hf) (.inl rfl) h
end
def ja (f:Str) (v:V):List (Str×V)->List (Str×V)
 |[]=>[(f,v)]
 |(g,x)::r=>if g=f then(g,v)::r else(g,x)::ja f v r
theorem pG (f g:Str) (v:V):∀fs:List (Str×V),(ja f v fs).lookup g=if g=f then some v else fs.lookup g
 |[]=>by
  show ay g [(f,v)]=_
  by_cases h:g=f
  ·have hb:(g==f)=true:=beq_iff_eq.mpr h
   simp only[ay,hb,fY h]
  ·have hb:(g==f)=false:=beq_eq_false_iff_ne.mpr h
   simp only[ay,hb,fJ h]
 |(k,x)::r=>by
  have ih:=pG f g v r
  rw[show ja f v ((k,x)::r)=(if k=f then(k,v)::r else(k,x)::ja f v r)from rfl]
  by_cases hk:k=f
  ·rw[fY hk]
   by_cases h:g=k
   ·have hb:(g==k)=true:=beq_iff_eq.mpr h
    simp only[ay,hb,fY (h.trans hk)]
   ·have hb:(g==k)=false:=beq_eq_false_iff_ne.mpr h
    simp only[ay,hb,fJ (fun e:g=f=>h (e.trans hk.symm))]
  ·rw[fJ hk]
   by_cases h:g=k
   ·have hb:(g==k)=true:=beq_iff_eq.mpr h
    simp only[ay,hb,fJ (fun e:g=f=>hk (h.symm.trans e))]
   ·have hb:(g==k)=false:=beq_eq_false_iff_ne.mpr h
    simp only[ay,hb]
    exact ih
theorem pH (f:Str) (v:V):∀fs:List (Str×V),f∈(ja f v fs).map (·.1)/\∀g,g∈fs.map (·.1)->g∈(ja f v fs).map (·.1)
 |[]=>⟨by simp[ja],fun g h=>by simp at h⟩
 |(k,x)::r=>by
  obtain⟨i1,i2⟩:=pH f v r
  rw[show ja f v ((k,x)::r)=(if k=f then(k,v)::r else(k,x)::ja f v r)from rfl]
  by_cases hk:k=f
  ·rw[fY hk]
   subst hk
   exact⟨by simp,fun g h=>by simpa using h⟩
  ·rw[fJ hk]
   refine⟨?_,fun g h=>?_⟩
   ·rw[az]
    exact ah _ i1
   ·rw[az]at h⊢
    rcases ai.mp h with e|e
    ·exact ai.mpr (.inl e)
    ·exact ah _ (i2 g e)
theorem mj (f:Str) (v:V):∀fs:List (Str×V),(ja f v fs).length<=fs.length+ 1
 |[]=>by simp[ja]
 |(k,x)::r=>by
  have ih:=mj f v r
  rw[show ja f v ((k,x)::r)=(if k=f then(k,v)::r else(k,x)::ja f v r)from rfl]
  by_cases hk:k=f
  ·rw[fY hk,ax,ax];lia
  ·rw[fJ hk,ax,ax];lia
theorem rJ.some_of {v:V} {o:Option Value} (r:rJ (some v) o):∃u,o=some u/\gN v u:=by
 cases o with
 |none=>exact(show False from r).elim
 |some u=>exact⟨u,rfl,r⟩
theorem rJ.none_of {o:Option Value} (r:rJ none o):o=none:=by
 cases o with
 |none=>rfl
 |some u=>exact(show False from r).elim
theorem xI {v:V} {u:Value} (r:gN v u):PySem.W.handedIn u=true:=by
 cases v with
 |non=>cases(show u=Value.none from r);rfl
 |bl b=>cases(show u=Value.bool b from r);rfl
 |int i=>obtain⟨t,e⟩:=(show ∃t,u=Value.int i t from r);cases e;rfl
 |str x=>obtain⟨t,e⟩:=(show ∃t,u=Value.str x t from r);cases e;rfl
 |byt b=>obtain⟨t,e⟩:=(show ∃t,u=Value.bytes b t from r);cases e;rfl
 |flt b=>obtain⟨t,e⟩:=(show ∃t,u=Value.float b t from r);cases e;rfl
 |ref a=>cases(show u=Value.ref a from r);rfl
 |ty n=>cases(show u=Value.type n from r);rfl
section
variable {P:Program} {w:World} {H H':Hp} {h h':Heap} {a C dx:Addr} {fs fs':List (Str×V)}
theorem pI (hok:HOk P w H h) (e:H a=some (.ins C dx fs)):∃mA,BG h a dx C mA/\(∀f,rJ (fs.lookup f) (mA f))/\PySem.Within mA (fs.map (·.1))/\fs.length<=1000/\H dx=some (.own a):=by
 obtain⟨d,z,ne,ob,mA,n,r,q⟩:=(show hG P w H h a (.ins C dx fs)from hok a _ e)
 exact⟨mA,⟨ob,n,ne⟩,r,q,z,d⟩
end
structure Cls (K:PySem.W.Frag) (C:Addr):Prop where
 pg:cy K C Str.empty=true
 hd:cz K C=true
 po:cE K C=true
 sa:cB K (.ref C) "__setattr__"=some (some (.builtin "object.__setattr__"))
theorem Cls.get {K:PySem.W.Frag} {C:Addr} (c:Cls K C) (f:Str):cy K C f=true:=c.pg
def fK (K:PySem.W.Frag) (C:Addr) (f:Str):Prop:=cB K (.ref C) f=some none
theorem fK.taker {K:PySem.W.Frag} {C:Addr} {f:Str} (n:fK K C f):cF K C f=some none:=by
 unfold cF
 rw[show cB K (.ref C) f=some none from n]
 rfl
structure Con (K:PySem.W.Frag) (C:Addr) (f:Str) (v:V) (u:Value):Prop where
 at_:cB K (.ref C) f=some (some u)
 rel:gN v u
 get:cJ K u "__get__"=some none
 cp:PySem.W.copiedNames.contains f=false
structure ER (K:PySem.W.Frag) (C:Addr) (m:Str) (f:Addr):Prop where
 at_:cB K (.ref C) m=some (some (.ref f))
 fn:cD K (.ref f)=true
 kp:cK K (.ref f)=true
section
variable {X:Cx} {pz:List (Addr×Obj)} {σ:St} {H:Hp} {s:Shared} {a C dx:Addr} {fs:List (Str×V)} {f:Str} {v:V} {A:Around} {E:Value->Shared->Prop}
theorem wo {b:Bool} {Q:Value->Shared->Prop} (I:Inv X pz σ H s) (e:H a=some (.ins C dx fs)) (c:Cls X.K C) (n:fK X.K C f) (l:fs.lookup f=some v)
  (h:∀u s',Inv X pz σ H s'->gN v u->Q u s'):wpAny (model X.prog X.w) A (getAttr (.ref a) f b) Q E s:=by
 obtain⟨mA,O,r,_,_,_⟩:=pI I.hok e
 obtain⟨u,hu,ru⟩:=rJ.some_of (v:=v) (o:=mA f) (by rw[<-l];exact r f)
 exact BH I.kIn O (c.get f) c.hd n hu (xI ru) (h u _ (I.tok _) ru)
theorem qZ {m:Str} {g:Addr} {pl:Sem Bool} {Q:Value×List Value->Shared->Prop} (I:Inv X pz σ H s) (e:H a=some (.ins C dx fs)) (c:Cls X.K C) (k:ER X.K C m g) (l:fs.lookup m=none)
  (h:Q (.ref g,[.ref a]) s):wpAny (model X.prog X.w) A (getMethod (.ref a) m pl) Q E s:=by
 obtain⟨mA,O,r,_,_,_⟩:=pI I.hok e
 have hn:mA m=none:=rJ.none_of (by rw[<-l];exact r m)
 exact zK I.kIn O (c.get m) k.at_ k.fn hn h
theorem wq {y:V} {u:Value} {Q:Unit->Shared->Prop} (I:Inv X pz σ H s) (e:H a=some (.ins C dx fs)) (c:Cls X.K C) (n:fK X.K C f) (hl:fs.length<1000) (ry:gN y u)
  (h:∀s',Inv X pz σ (upd H a (.ins C dx (ja f y fs))) s'->Q () s'):wpAny (model X.prog X.w) A (setAttr (.ref a) f u) Q E s:=by
 obtain⟨mA,O,r,wi,_,ho⟩:=pI I.hok e
 have hz:(fs.map (·.1)).length<=sizeLine:=by rw[aA,sizeLine_eq];lia
 refine BI I.kIn O c.sa c.po n.taker c.hd wi hz fun h' O' sb=>h _ ?_
 have hd:∃o,h'.get? dx=some o:=let⟨o,_,_,e',_⟩:=O'.ns;⟨o,e'⟩
 refine I.write (x:=a) (e:=dx) (by rw[e];exact True.intro) (.inr ho) (fun b q hb z=>(sb.2 b hb).trans z) hd ?_
 refine⟨by rw[eN O.ne];exact ho,?_,O.ne,O'.obj,_,O'.ns,fun g=>?_,fun g hg=>?_⟩
 ·have:=mj f y fs;lia
 ·show rJ ((ja f y fs).lookup g) (if g=f then some u else mA g)
  rw[pG]
  by_cases q:g=f
  ·rw[fY q,fY q];exact ry
  ·rw[fJ q,fJ q];exact r g
 ·by_cases q:g=f
  ·rw[q];exact(pH f y fs).1
  ·refine(pH f y fs).2 g (wi g fun z=>hg ?_)
   show(if g=f then some u else mA g)=none
   rw[fJ q];exact z
theorem Inv.made (I:Inv X pz σ H s):Inv X pz σ (upd (upd H s.heap.objs.size (.own (s.heap.objs.size+ 1))) (s.heap.objs.size+ 1) (.ins C s.heap.objs.size []))
  {s with heap:=(s.heap.push cH).push (cq C s.heap.objs.size)}:=by
 have e1:(s.heap.push cH).get? s.heap.objs.size=some cH:=dY s.heap rfl
 have e2:((s.heap.push cH).push (cq C s.heap.objs.size)).get? (s.heap.objs.size+ 1)=some (cq C s.heap.objs.size):=by
  have:=dY (s.heap.push cH) (o:=cq C s.heap.objs.size) rfl
  rwa[d7]at this
 have e3:(s.heap.push cH).Ns s.heap.objs.size (fun _=>none):=⟨cH,#[],_,e1,rfl,(fun e he=>absurd he (by simp)),fun _=>rfl⟩
 have I1:=I.laid (a:=s.heap.objs.size) (o:= .own (s.heap.objs.size+ 1)) (h':=s.heap.push cH) (t':=s.toks) (fun b u q=>dZ _ q) (bX _) ⟨_,e1⟩
 refine I1.laid (a:=s.heap.objs.size+ 1) (o:= .ins C s.heap.objs.size []) (t':=s.toks) (fun b u q=>dZ _ q) (Nat.le_of_eq (d7 _ _)) ?_
 have ne:s.heap.objs.size≠s.heap.objs.size+ 1:=bT (Nat.lt_succ_self _)
 refine⟨by rw[eN ne,eG],bY _,ne,e2,fun _=>none,(Heap.Ns1.of_empty e3).at fun o q=>dZ _ q,fun _=>True.intro,fun y hy=>absurd rfl hy⟩
theorem BJ {prog:Program} {w:World} {env:Env} {e:Expr} {f:Str} {pos:Pos} {s:Shared} {Q:Value->Shared->Prop} (hb:attributeBase e f env (eval e env)=eval e env)
  (h:wpAny (model prog w) A (eval e env) (fun o s₁=>wpAny (model prog w) A (getAttr o f true) Q E s₁) E s):wpAny (model prog w) A (eval (.Attribute e f pos) env) Q E s:=
 Attribute_any_ h (by rw[arm_eval_Attribute,hb])
end
def tFld (K:PySem.W.Frag) (ta:TE) (f:Str):TE:=fun σ H Q=>ta σ H fun x H1=>∃a C dx fs v,x= .ref a/\H1 a=some (.ins C dx fs)/\Cls K C/\fK K C f/\fs.lookup f=some v/\Q v H1
def GD (K:PySem.W.Frag) (ta tv:TE) (f:Str):TS:=fun D σ H=>tv σ H fun y H1=>ta σ H1 fun x H2=>∃a C dx fs,x= .ref a/\H2 a=some (.ins C dx fs)/\Cls K C/\fK K C f/\fs.length<1000/\
 D.nx σ (upd H2 a (.ins C dx (ja f y fs)))
section
variable {X:Cx} {o e value:Expr} {f:Str} {pos pos' tpos:Pos} {ta tv:TE}
theorem gq (he:PE X e ta) (hb:attributeBase e f X.env (eval e X.env)=eval e X.env):PE X (.Attribute e f pos) (tFld X.K ta f):=by
 intro pz s σ H Q I h
 refine BJ hb (thn (he pz s σ H _ I h) fun u s1 ⟨x,H1,I1,rx,a,C,dx,fs,v,ex,ea,c,n,l,q⟩=>?_)
 subst ex
 obtain rfl:u=Value.ref a:=rx
 exact wo I1 ea c n l fun u' s2 I2 ru=>⟨v,H1,I2,ru,q⟩
theorem gC (ha:PE X o ta) (hv:PE X value tv) (hs:swapsWith value (some (.Attribute o f pos')) pos.line X.env=pure false):PS X (.Assign [.Attribute o f pos'] value pos) (GD X.K ta tv f):=by
 intro pz s σ H D I h
 refine plainObj_wpAny_Assign_Attribute (thn (hv pz s σ H _ I h) fun u s1 ⟨y,H1,I1,ry,q⟩=>thn (ha pz s1 σ H1 _ I1 q) fun ov s2 ⟨x,H2,I2,rx,a,C,dx,fs,ex,ea,c,n,l,q2⟩=>?_) hs
 subst ex
 obtain rfl:ov=Value.ref a:=rx
 exact wq I2 ea c n l ry fun s3 I3=>⟨σ,_,I3,q2⟩
end
section
variable {X:Cx} {pz:List (Addr×Obj)} {σ:St} {H:Hp} {s:Shared} {A:Around} {E:Value->Shared->Prop} {Q:Value->Shared->Prop} {c:Value} {b:Bool}
inductive uz (K:PySem.W.Frag) (H:Hp):V->Value->Prop where
 |non:uz K H .non (.type "NoneType")
 |bl (x:Bool):uz K H (.bl x) (.type "bool")
 |int (i:Int):uz K H (.int i) (.type "int")
 |str (x:Str):uz K H (.str x) (.type "str")
 |flt (x:UInt64):uz K H (.flt x) (.type "float")
 |lst {a:Addr} {xs:List V} (e:H a=some (.lst xs)):uz K H (.ref a) (.type "list")
 |frz {a:Addr} {o:Obj} {xs:List V} (e:H a=some (.frz o (.lst xs))):uz K H (.ref a) (.type "list")
 |tup {a:Addr} {xs:List V} (e:H a=some (.tup xs)):uz K H (.ref a) (.type "tuple")
 |dK {a:Addr} {kvs:List (Key×V)} (e:H a=some (.dK kvs)):uz K H (.ref a) (.type "dict")
 |dT {a:Addr} {kvs:List (List Key×V)} (e:H a=some (.dT kvs)):uz K H (.ref a) (.type "dict")
 |ins {a C dx:Addr} {fs:List (Str×V)} (e:H a=some (.ins C dx fs)) (cl:Cls K C) (ha:cB K (.ref C) "__class__"=some (some (.builtin "object.__class__")))
   (hn:cJ K (.builtin "object.__class__") "__get__"=some (some (.builtin "getset_descriptor.__get__"))) (htk:PySem.W.takesIn K (.builtin "object.__class__")=some true)
   (hm:PySem.W.mroIn K C (.type "object")=some true):uz K H (.ref a) (.ref C)
theorem xJ {x:V} {u t:Value} (I:Inv X pz σ H s) (rx:gN x u) (ty:uz X.K H x t) (e:cM X.K t c=some b) (h:∀tk,Q (.bool b) {s with toks:=tk}):
  wpAny (model X.prog X.w) A (call (.builtin "isinstance") [u,c]) Q E s:=by
 cases ty with
 |non=>cases(show u=Value.none from rx);exact cN cO I.kIn True.intro e (fun z=>nomatch z) h
 |bl y=>cases(show u=Value.bool y from rx);exact cN cP I.kIn True.intro e (fun z=>nomatch z) h
 |int i=>obtain⟨t,q⟩:=(show ∃t,u=Value.int i t from rx);cases q;exact cN PySem.W.kitx_int I.kIn True.intro e (fun z=>nomatch z) h
 |str y=>obtain⟨t,q⟩:=(show ∃t,u=Value.str y t from rx);cases q;exact cN PySem.W.kitx_str I.kIn True.intro e (fun z=>nomatch z) h
 |flt y=>obtain⟨t,q⟩:=(show ∃t,u=Value.float y t from rx);cases q;exact cN cQ I.kIn True.intro e (fun z=>nomatch z) h
 |@lst a xs ea=>
  cases(show u=Value.ref a from rx)
  obtain⟨_,_,n,_,h1⟩:=(show hG X.prog X.w H s.heap a (.lst xs)from I.hok a _ ea)
  exact cN cR I.kIn ⟨_,h1,rfl⟩ e (fun z=>nomatch z) h
 |@frz a ob xs ea=>
  cases(show u=Value.ref a from rx)
  obtain⟨_,_,_,n,_,h1⟩:=(show hG X.prog X.w H s.heap a (.frz ob (.lst xs))from I.hok a _ ea)
  exact cN cR I.kIn ⟨_,h1,rfl⟩ e (fun z=>nomatch z) h
 |@tup a xs ea=>
  cases(show u=Value.ref a from rx)
  obtain⟨_,_,_,p⟩:=(show hG X.prog X.w H s.heap a (.tup xs)from I.hok a _ ea)
  obtain⟨o,h1,h2,_⟩:=p
  exact cN cS I.kIn ⟨o,h1,h2⟩ e (fun z=>nomatch z) h
 |@dK a kvs ea=>
  cases(show u=Value.ref a from rx)
  obtain⟨_,_,vs,_,p⟩:=(show hG X.prog X.w H s.heap a (.dK kvs)from I.hok a _ ea)
  obtain⟨o,es,ep,h1,h2,_⟩:=p
  exact cN cU I.kIn ⟨o,h1,h2.1⟩ e (fun z=>nomatch z) h
 |@dT a kvs ea=>
  cases(show u=Value.ref a from rx)
  obtain⟨_,_,xs,_,o,es,ep,h1,h2,_⟩:=(show hG X.prog X.w H s.heap a (.dT kvs)from I.hok a _ ea)
  exact cN cU I.kIn ⟨o,h1,h2.1⟩ e (fun z=>nomatch z) h
 |@ins a C dx fs ea cl ha hn htk hm=>
  cases(show u=Value.ref a from rx)
  obtain⟨mA,O,_⟩:=pI I.hok ea
  obtain⟨od,J,_⟩:=O.look
  exact cN (PySem.W.kitx_own (cl.get _) cl.hd ha hn htk hm) I.kIn J e (fun z=>nomatch z) h
end
structure kQ (k:Nat) (A:Around):Prop where
 hd:A.handled=none
 dp:A.depth+ 2*k+ 5<recursionLimit
 un:A.units+ 16*k+ 200<cLine
theorem kQ.mono {j k:Nat} {A:Around} (r:kQ k A) (h:j<=k):kQ j A:=⟨r.hd,by have:=r.dp;lia,by have:=r.un;lia⟩
theorem kQ.m {j k:Nat} {A:Around} (r:kQ k A) (h:autoParam (j<=k) L2.Internal.auD._auto_1):kQ j A:=r.mono h
theorem kQ.deeper {k:Nat} {A:Around} (r:kQ (k+ 1) A) (env:Env):kQ k (A.deeper env):=
 ⟨r.hd,by have:=r.dp;show A.depth+ 1+ 2*k+ 5<_;lia,by have:=r.un;show A.units+ 3+ 16*k+ 200<_;lia⟩
theorem wu {A:Around} {C:Addr} {us:List Value} {kw:List (Str×Value)}:(A.under (.builtin "type.__call__" ⟨.ref C::us,kw⟩)).depth=A.depth+ 1:=by
 first|rfl|simp[Around.under,Code.weight,Code.isCreation,Code.isGuard,Code.isCaller,Code.frames,Code.isFrame,guardIds]
theorem wx {A:Around} {C:Addr} {us:List Value} {kw:List (Str×Value)}:(A.under (.builtin "type.__call__" ⟨.ref C::us,kw⟩)).units=A.units+ 1:=by
 first|rfl|simp[Around.under,Code.cUnits,Code.frames,Code.isFrame]
theorem kQ.make {k:Nat} {A:Around} (r:kQ (k+ 1) A) (C:Addr) (us:List Value) (kw:List (Str×Value)):kQ k (A.under (.builtin "type.__call__" ⟨.ref C::us,kw⟩)):=
 ⟨r.hd,by have:=r.dp;rw[wu];lia,by have:=r.un;rw[wx];lia⟩
theorem kQ.depth {k:Nat} {A:Around} (r:kQ k A):A.depth<recursionLimit:=by have:=r.dp;lia
theorem kQ.units {k:Nat} {A:Around} (r:kQ k A):A.units+ 64<cLine:=by have:=r.un;lia
def sS:TA:=fun _ H Q=>Q [] H
def jw (ta:TE) (tr:TA):TA:=fun σ H Q=>ta σ H fun x H1=>tr σ H1 fun xs H2=>Q (x::xs) H2
section
variable {X:Cx} {e:Expr} {es:List Expr} {te:TE} {t:TA} {pos:Pos}
theorem eF:PA X [] sS:=fun _ _ _ _ H Q I h=>Calls.spliced_nil ⟨[],H,I,.nil,h⟩
theorem eE (ha:PE X e te) (hr:PA X es t) (hs:autoParam (starEach (e::es) X.env=(false,eval e X.env)::starEach es X.env) L2.Internal.auR._auto_1):PA X (e::es) (jw te t):=by
 intro pos pz s σ H Q I h
 rw[hs]
 show wpAny _ _ (spliced ((false,eval e X.env)::backTo pos (starEach es X.env))) _ _ s
 refine Calls.spliced_cons (thn (ha pz s σ H _ I h) fun u s1 ⟨x,H1,I1,r1,q1⟩=>?_)
 exact thn (hr pos pz s1 σ H1 _ I1 q1) fun us s2 ⟨xs,H2,I2,r2,q2⟩=>⟨x::xs,H2,I2,.cons r1 r2,q2⟩
def GF (t:TA):TE:=fun σ H Q=>t σ H fun xs H1=>xs.length<=sizeLine/\∀p,H1 p=none->Q (.ref p) (upd H1 p (.tup xs))
def AJ (t:TA):TE:=fun σ H Q=>t σ H fun xs H1=>xs.length<=sizeLine/\∀p,H1 p=none->Q (.ref p) (upd H1 p (.lst xs))
theorem fe {x1} (h:PA X es t):PE X (.Tuple es x1 pos) (GF t):=by
 intro pz s σ H Q I hq
 refine wpAny_Tuple_spliced (thn (h pos pz s σ H _ I hq) fun us s1 ⟨xs,H1,I1,r,z,q⟩=>⟨by rw[<-r.length];exact z,?_⟩)
 have hf:H1 s1.heap.objs.size=none:=I1.hok.fresh (bX _)
 refine⟨.ref s1.heap.objs.size,upd H1 s1.heap.objs.size (.tup xs),I1.laid (t':=s1.toks) (fun b u e=>dZ _ e) (bX _) ?_,rfl,q _ hf⟩
 exact⟨z,us,r,⟨_,dY _ rfl,rfl,_,rfl,rfl⟩⟩
theorem fq (h:PA X es t):PE X (.List es pos) (AJ t):=by
 intro pz s σ H Q I hq
 refine wpAny_List_spliced (thn (h pos pz s σ H _ I hq) fun us s1 ⟨xs,H1,I1,r,z,q⟩=>⟨by rw[<-r.length];exact z,?_⟩)
 have hf:H1 s1.heap.objs.size=none:=I1.hok.fresh (bX _)
 refine⟨.ref s1.heap.objs.size,upd H1 s1.heap.objs.size (.lst xs),I1.laid (t':=s1.toks) (fun b u e=>dZ _ e) (bX _) ?_,rfl,q _ hf⟩
 exact⟨z,us,0,r,dY _ rfl⟩
end
abbrev Sp:=List V->Hp->VK->XK->Prop
abbrev CXT:=List Env->Hp->Shared->XK->Value->Shared->Prop
structure BK (P:Program) (w:World) (K:PySem.W.Frag) (mg:Str->Option Value) (base:Heap) (A:Around) (outer:List Env) (s:Shared) (H:Hp):Prop where
 frames:A.frames=some outer
 mod:Mod K mg base
 bs:∀b o,base.get? b=some o->s.heap.get? b=some o/\H b=none
 bsz:base.objs.size<=s.heap.objs.size
 funs:s.heap.FunFrames base outer
 frf:∀b∈frs outer,H b=none
 hok:HOk P w H s.heap
 bare:AllBare s.gens
def CE (outer:List Env) (P:Program) (w:World) (H:Hp) (s:Shared) (Q:VK) (u:Value) (s':Shared):Prop:=
 ∃v H',s'.os=s.os/\AllBare s'.gens/\Un (frs outer) [] H H' s.heap s'.heap/\HOk P w H' s'.heap/\gN v u/\Q v H'
def CR (CX:CXT) (outer:List Env) (P:Program) (w:World) (H:Hp) (s:Shared) (Q:VK) (E:XK) (r:Result) (s':Shared):Prop:=
 match r with
 | .ok (.ret u)=>CE outer P w H s Q u s'
 | .ok _=>False
 | .error e=>CX outer H s E e s'
structure qA (P:Program) (w:World) (K:PySem.W.Frag) (mg:Str->Option Value) (base:Heap) (CX:CXT) (k:Nat) (f:Addr) (fd:FuncData) (ps:List Str) (sp:Sp):Prop where
 len:∀vs H Q E,sp vs H Q E->vs.length=ps.length
 run:∀(A:Around) (outer:List Env) (s:Shared) (H:Hp) (args:Args) (us:List Value) (vs:List V) (Q:VK) (E:XK),kQ k A->BK P w K mg base A outer s H->BindsTo s fd args (ps.zip us)->gG vs us->sp vs H Q E->
  codeAny (model P w) A (.call (.ref f) args) (CR CX outer P w H s Q E) s
theorem BK.make {P:Program} {w:World} {K:PySem.W.Frag} {mg:Str->Option Value} {base:Heap} {A:Around} {outer:List Env} {s:Shared} {H:Hp} (e:BK P w K mg base A outer s H) (C:Addr) (us:List Value) (kw:List (Str×Value)):
  BK P w K mg base (A.under (.builtin "type.__call__" ⟨.ref C::us,kw⟩)) outer s H:=⟨by first|exact e.frames|(simpa[Around.under,Code.envs,Code.isFrame,pushEnvs]using e.frames),e.mod,e.bs,e.bsz,e.funs,e.frf,e.hok,e.bare⟩
section
variable {X:Cx} {pz:List (Addr×Obj)} {σ:St} {H:Hp} {s s':Shared}
theorem Inv.env0 (I:Inv X pz σ H s):BK X.prog X.w X.K X.mg X.base X.A X.stack s H:=
 ⟨I.ok.frames,I.ok.mod,I.bs,bU I.ok.bsz I.sz,I.stack,I.stkFree,I.hok,I.bare⟩
theorem Inv.after {Q:VK} {u:Value} (I:Inv X pz σ H s) (h:CE X.stack X.prog X.w H s Q u s'):EP X pz σ Q u s':=by
 obtain⟨v,H',os,bare,un,hok,r,q⟩:=h
 obtain⟨hh,g,d,t,os'⟩:=s'
 obtain rfl:os'=s.os:=os
 exact⟨v,H',I.call (h':=hh) (g':=g) (d':=d) (t':=t) (ch:=[]) un hok bare (fun b z=>absurd z (by simp)),r,q⟩
end
def qC (sp:Sp) (dvs:List V) (E:XK) (t:TA):TE:=fun σ H Q=>t σ H fun vs H1=>sp (vs++dvs) H1 Q E
def BL (C:Addr) (m:Str) (sp:Sp) (dvs:List V) (E:XK) (ta:TE) (t:TA):TE:=fun σ H Q=>ta σ H fun x H1=>∃a dx fs,x= .ref a/\H1 a=some (.ins C dx fs)/\fs.lookup m=none/\
 t σ H1 fun vs H2=>sp (x::(vs++dvs)) H2 Q E
def DA (C:Addr) (sp:Sp) (dvs:List V) (E:XK) (t:TA):TE:=fun σ H Q=>t σ H fun vs H1=>∀x dx,H1 x=none->H1 dx=none->dx≠x->
 sp (.ref x::(vs++dvs)) (upd (upd H1 dx (.own x)) x (.ins C dx [])) (fun v H2=>v= .non/\Q (.ref x) H2) E
def lR (K:PySem.W.Frag) (fd:FuncData) (ps:List Str) (ds:List Value):Prop:=
 ∀(s:Shared) (us:List Value),K.In s.heap->(us++ds).length=ps.length->BindsTo s fd ⟨us,[]⟩ (ps.zip (us++ds))
theorem lR.all {K:PySem.W.Frag} {fd:FuncData} {ps:List Str} (h:∀us:List Value,us.length=ps.length->bindArgs fd ⟨us,[]⟩=pure (ps.zip us)):lR K fd ps []:=fun s us _ hl=>by
 rw[aB]at hl⊢
 exact .of_eq (h us hl)
def lW (CX:CXT) (X:Cx) (E:XK):Prop:=∀(pz:List (Addr×Obj)) (σ:St) (H:Hp) (s:Shared) (e:Value) (s':Shared),Inv X pz σ H s->CX X.stack H s E e s'->X.xe e s'
section
variable {X:Cx} {CX:CXT} {k:Nat} {f C:Addr} {fd:FuncData} {ps:List Str} {sp:Sp} {dvs:List V} {ds:List Value} {E:XK} {x m:Str} {p pos apos:Pos} {e o:Expr} {es:List Expr} {ta:TE} {t:TA}
theorem tf {pz:List (Addr×Obj)} {σ:St} {H:Hp} {s:Shared} {Q:VK} {us:List Value} {vs:List V} (F:qA X.prog X.w X.K X.mg X.base CX k f fd ps sp) (hr:kQ k X.A) (hb:lR X.K fd ps ds) (hd:gG dvs ds) (hx:lW CX X E)
  (I:Inv X pz σ H s) (r:gG vs us) (h:sp (vs++dvs) H Q E):wpAny (model X.prog X.w) X.A (call (.ref f) us) (EP X pz σ Q) X.xe s:=by
 have r2:gG (vs++dvs) (us++ds):=r.append hd
 have hl:(us++ds).length=ps.length:=by rw[<-r2.length];exact F.len _ _ _ _ h
 refine wpAny_call (codeAny_mono (F.run X.A X.stack s H ⟨us,[]⟩ (us++ds) (vs++dvs) Q E hr I.env0 (hb s us I.kIn hl) r2 h) fun r s' hq=>?_)
 cases r with
 |error e=>exact hx pz σ H s e s' I hq
 |ok fl=>
  cases fl with
  |ret u=>exact I.after hq
  |next=>exact False.elim hq
  |brk=>exact False.elim hq
  |cont=>exact False.elim hq
theorem xK (F:qA X.prog X.w X.K X.mg X.base CX k f fd ps sp) (hr:kQ k X.A) (hg:Gl X x) (hm:X.mg x=some (.ref f)) (hk:cK X.K (.ref f)=true) (hb:lR X.K fd ps ds) (hd:gG dvs ds) (hx:lW CX X E)
  (ha:PA X (e::es) t) (hdb:autoParam ((x==("__debug__":Str))=false) L2.Internal.auD._auto_1) (he:autoParam (starEach (e::es) X.env=(false,eval e X.env)::starEach es X.env) L2.Internal.auR._auto_1) (hpl:autoParam ((backTo pos (starEach es X.env)).any (·.1)=false) L2.Internal.auR._auto_1):
  PE X (.Call (.Name x p) (e::es) [] pos) (qC sp dvs E t):=by
 intro pz s σ H Q I h
 refine wpAny_Call_Name_kw (rK I hg hm ?_ hdb)
 refine cW (h₀:=X.base) I.ok.mod.kin hk (thn (ha pos pz s σ H _ I h) fun us s1 ⟨vs,H1,I1,r,q⟩=>⟨I1.kIn,?_⟩) he hpl
 exact tf F hr hb hd hx I1 r q
theorem fi {pl:Sem Bool} (he:PE X o ta) (c:Cls X.K C) (hm:ER X.K C m f) (F:qA X.prog X.w X.K X.mg X.base CX k f fd ps sp) (hr:kQ k X.A) (hb:lR X.K fd ps ds) (hd:gG dvs ds) (hx:lW CX X E) (ha:PA X (e::es) t)
  (hst:autoParam (starEach (e::es) X.env=(false,eval e X.env)::starEach es X.env) L2.Internal.auR._auto_1) (hpl:autoParam ((backTo pos (starEach es X.env)).any (·.1)=false) L2.Internal.auR._auto_1)
  (ht:eval (.Call (.Attribute o m apos) (e::es) [] pos) X.env=(do
   let ov<-eval o X.env
   standAt apos.atName
   let(f,first)<-holding [ov] (getMethod ov m pl)
   callWith pos f first (backTo pos (starEach (e::es) X.env)) (backToKw pos (keywordEach [] X.env))):=by rfl):
  PE X (.Call (.Attribute o m apos) (e::es) [] pos) (BL C m sp dvs E ta t):=by
 intro pz s σ H Q I h
 refine cX (pl:=pl) (thn (he pz s σ H _ I h) fun u s1 ⟨x,H1,I1,rx,a,dx,fs,ex,ea,l,q⟩=>?_) ht
 subst ex
 obtain rfl:u=Value.ref a:=rx
 refine qZ I1 ea c hm l ?_
 refine cW (first:=[.ref a]) (h₀:=X.base) I.ok.mod.kin hm.kp (thn (ha pos pz s1 σ H1 _ I1 q) fun us s2 ⟨vs,H2,I2,r,q2⟩=>⟨I2.kIn,?_⟩) hst hpl
 exact tf (us:= .ref a::us) (vs:= .ref a::vs) F hr hb hd hx I2 (.cons rfl r) q2
theorem lK {pl:Sem Bool} (he:PE X o ta) (c:Cls X.K C) (hm:ER X.K C m f) (F:qA X.prog X.w X.K X.mg X.base CX k f fd ps sp) (hr:kQ k X.A) (hb:lR X.K fd ps ds) (hd:gG dvs ds) (hx:lW CX X E)
  (ht:eval (.Call (.Attribute o m apos) [] [] pos) X.env=(do
   let ov<-eval o X.env
   standAt apos.atName
   let(f,first)<-holding [ov] (getMethod ov m pl)
   callWith pos f first (backTo pos (starEach [] X.env)) (backToKw pos (keywordEach [] X.env))):=by rfl):
  PE X (.Call (.Attribute o m apos) [] [] pos) (BL C m sp dvs E ta sS):=by
 intro pz s σ H Q I h
 refine cX (pl:=pl) (thn (he pz s σ H _ I h) fun u s1 ⟨x,H1,I1,rx,a,dx,fs,ex,ea,l,q⟩=>?_) ht
 subst ex
 obtain rfl:u=Value.ref a:=rx
 refine qZ I1 ea c hm l ?_
 exact cY (first:=[.ref a]) I1.kIn hm.kp (tf (us:=[.ref a]) (vs:=[.ref a]) F hr hb hd hx I1 (.cons rfl .nil) q)
structure Mk (K:PySem.W.Frag) (C f:Addr):Prop where
 makes:cG K C=true
 init:cB K (.ref C) "__init__"=some (some (.ref f))
 fn:cD K (.ref f)=true
 kp:cK K (.ref C)=true
theorem vt {pz:List (Addr×Obj)} {σ:St} {H:Hp} {s:Shared} {Q:VK} {us:List Value} {vs:List V} (M:Mk X.K C f) (F:qA X.prog X.w X.K X.mg X.base CX k f fd ps sp) (hr:kQ (k+ 1) X.A) (hb:lR X.K fd ps ds) (hd:gG dvs ds)
  (hx:lW CX X E) (I:Inv X pz σ H s) (r:gG vs us)
  (h:∀x dx,H x=none->H dx=none->dx≠x->sp (.ref x::(vs++dvs)) (upd (upd H dx (.own x)) x (.ins C dx [])) (fun v H2=>v= .non/\Q (.ref x) H2) E):
  wpAny (model X.prog X.w) X.A (call (.ref C) us) (EP X pz σ Q) X.xe s:=by
 have hq:=h (s.heap.objs.size+ 1) s.heap.objs.size (I.hok.fresh (Nat.le_succ _)) (I.hok.fresh (bX _)) (bT (Nat.lt_succ_self _))
 have I2:=Inv.made (C:=C) I
 have r2:gG (V.ref (s.heap.objs.size+ 1)::(vs++dvs)) (Value.ref (s.heap.objs.size+ 1)::(us++ds)):= .cons rfl (r.append hd)
 have hl:(Value.ref (s.heap.objs.size+ 1)::us++ds).length=ps.length:=by
  have e:=r2.length
  rw[F.len _ _ _ _ hq]at e
  exact e.symm
 refine wpAny_call (zL (f:=f) I.kIn M.makes M.init (beq_iff_eq.mp M.fn) (codeAny_mono (F.run _ X.stack _ _ ⟨Value.ref (s.heap.objs.size+ 1)::us,[]⟩ (Value.ref (s.heap.objs.size+ 1)::(us++ds)) _ _ E (hr.make C us [])
  (I2.env0.make C us []) (hb _ (Value.ref (s.heap.objs.size+ 1)::us) I2.kIn hl) r2 hq) fun r s' hq'=>?_))
 cases r with
 |error e=>exact hx pz σ _ _ e s' I2 hq'
 |ok fl=>
  cases fl with
  |ret u=>
   obtain⟨v,H',I3,rv,ev,q3⟩:=I2.after hq'
   subst ev
   exact⟨rv,⟨V.ref (s.heap.objs.size+ 1),H',I3,rfl,q3⟩⟩
  |next=>exact False.elim hq'
  |brk=>exact False.elim hq'
  |cont=>exact False.elim hq'
theorem jj (M:Mk X.K C f) (F:qA X.prog X.w X.K X.mg X.base CX k f fd ps sp) (hr:kQ (k+ 1) X.A) (hg:Gl X x) (hm:X.mg x=some (.ref C)) (hb:lR X.K fd ps ds) (hd:gG dvs ds) (hx:lW CX X E)
  (ha:PA X (e::es) t) (hdb:autoParam ((x==("__debug__":Str))=false) L2.Internal.auD._auto_1) (he:autoParam (starEach (e::es) X.env=(false,eval e X.env)::starEach es X.env) L2.Internal.auR._auto_1) (hpl:autoParam ((backTo pos (starEach es X.env)).any (·.1)=false) L2.Internal.auR._auto_1):
  PE X (.Call (.Name x p) (e::es) [] pos) (DA C sp dvs E t):=by
 intro pz s σ H Q I h
 refine wpAny_Call_Name_kw (rK I hg hm ?_ hdb)
 refine cW (h₀:=X.base) I.ok.mod.kin M.kp (thn (ha pos pz s σ H _ I h) fun us s1 ⟨vs,H1,I1,r,q⟩=>⟨I1.kIn,?_⟩) he hpl
 exact vt M F hr hb hd hx I1 r q
theorem zM (M:Mk X.K C f) (F:qA X.prog X.w X.K X.mg X.base CX k f fd ps sp) (hr:kQ (k+ 1) X.A) (hg:Gl X x) (hm:X.mg x=some (.ref C)) (hb:lR X.K fd ps ds) (hd:gG dvs ds) (hx:lW CX X E)
  (hdb:autoParam ((x==("__debug__":Str))=false) L2.Internal.auD._auto_1):PE X (.Call (.Name x p) [] [] pos) (DA C sp dvs E sS):=by
 intro pz s σ H Q I h
 refine wpAny_Call_Name_kw (rK I hg hm ?_ hdb)
 exact cY I.kIn M.kp (vt (us:=[]) M F hr hb hd hx I .nil h)
end
section
variable {X:Cx} {CX:CXT} {k:Nat} {f C:Addr} {fd:FuncData} {ps ks:List Str} {sp:Sp} {E:XK} {x m:Str} {p pos apos kpos:Pos} {e o:Expr} {es:List Expr} {kws:List Keyword} {te ta:TE} {t tk:TA} {nm:Option Str}
structure GG (K:PySem.W.Frag) (fd:FuncData) (ps ks:List Str) (g:List Value->List Value->List Value) (gV:List V->List V->List V):Prop where
 to:∀(s:Shared) (us ws:List Value),K.In s.heap->(g us ws).length=ps.length->BindsTo s fd ⟨us,ks.zip ws⟩ (ps.zip (g us ws))
 rel:∀{vs:List V} {us:List Value} {zs:List V} {ws:List Value},gG vs us->gG zs ws->gG (gV vs zs) (g us ws)
variable {g:List Value->List Value->List Value} {gV:List V->List V->List V}
end
structure eX (N P:List Str) (sc:Scope):Prop where
 kind:sc.kind= .function
 co:sc.isCoroutine=false
 gen:sc.isGenerator=false
 nd:N.Nodup
 pre:N.take P.length=P
 par:∀x∈P,sc.names.lookup x=some .local\/sc.names.lookup x=some .cell
 nofree:∀y∈sc.names,y.2≠ .free
theorem tj {kindOf:Str->Option NameKind} {x:Str}:∀{binds:List (Str×Value)} {m:Str->Option Value},(∀v,(x,v)∉binds)->bindL kindOf binds m x=m x
 |[],_,_=>rfl
 |(n,v)::r,m,h=>by
  unfold bindL
  rw[tj fun w hw=>h w (ah _ hw)]
  split
  ·have:x≠n:=by rintro rfl;exact h v ag
   simp[this]
  ·rfl
theorem tm {kindOf:Str->Option NameKind} {x:Str}:∀{binds:List (Str×Value)} {m:Str->Option Value},(∀v,(x,v)∉binds)->bindC kindOf binds m x=m x
 |[],_,_=>rfl
 |(n,v)::r,m,h=>by
  unfold bindC
  rw[tm fun w hw=>h w (ah _ hw)]
  split
  ·rfl
  ·have:x≠n:=by rintro rfl;exact h v ag
   simp[this]
theorem tq {kindOf:Str->Option NameKind} {x:Str} {v:Value}:∀{P:List Str} {vs:List Value} {i:Nat} {m:Str->Option Value},P.Nodup->P[i]?=some x->vs[i]?=some v->kindOf x=some .local->
  bindL kindOf (P.zip vs) m x=some v
 |[],_,_,_,_,h,_,_=>by simp at h
 |_::_,[],_,_,_,_,h,_=>by simp at h
 |p::P,w::vs,0,m,nd,h1,h2,hk=>by
  simp at h1 h2;subst h1;subst h2
  show bindL kindOf ((p,w)::P.zip vs) m p=_
  unfold bindL
  rw[tj fun v hv=>(aC.mp nd).1 (aD hv).1,fY hk]
  simp
 |p::P,w::vs,i+ 1,m,nd,h1,h2,hk=>by
  show bindL kindOf ((p,w)::P.zip vs) m x=_
  unfold bindL
  exact tq (i:=i) (aC.mp nd).2 (by simpa using h1) (by simpa using h2) hk
theorem tu {kindOf:Str->Option NameKind} {x:Str} {v:Value}:∀{P:List Str} {vs:List Value} {i:Nat} {m:Str->Option Value},P.Nodup->P[i]?=some x->vs[i]?=some v->kindOf x≠some .local->
  bindC kindOf (P.zip vs) m x=some v
 |[],_,_,_,_,h,_,_=>by simp at h
 |_::_,[],_,_,_,_,h,_=>by simp at h
 |p::P,w::vs,0,m,nd,h1,h2,hk=>by
  simp at h1 h2;subst h1;subst h2
  show bindC kindOf ((p,w)::P.zip vs) m p=_
  unfold bindC
  rw[tm fun v hv=>(aC.mp nd).1 (aD hv).1,fJ hk]
  simp
 |p::P,w::vs,i+ 1,m,nd,h1,h2,hk=>by
  show bindC kindOf ((p,w)::P.zip vs) m x=_
  unfold bindC
  exact tu (i:=i) (aC.mp nd).2 (by simpa using h1) (by simpa using h2) hk
def start (N:List Str) (vs:List V):St:=vs.map some++aE (N.length-vs.length) none
def AK (CX:CXT) (P:Program) (w:World) (K:PySem.W.Frag) (mg:Str->Option Value) (base:Heap) (N:List Str) (qual:Str) (scope:Scope) (f:Addr) (cd:Value) (A:Around) (outer:List Env) (s:Shared) (H:Hp) (E:XK):Cx where
 prog:=P
 w:=w
 K:=K
 mg:=mg
 base:=base
 A:=A.deeper (envOfC qual scope s.heap.objs.size f cd)
 N:=N
 s₀:=s
 H₀:=H
 env:=envOfC qual scope s.heap.objs.size f cd
 outer:=outer
 stack:=envOfC qual scope s.heap.objs.size f cd::outer
 ex:=[]
 calm:=true
 fn:=fun _=>true
 pn:=[]
 xe:=fun e s'=>wpAny (model P w) (A.deeper (envOfC qual scope s.heap.objs.size f cd)) (leaving (envOfC qual scope s.heap.objs.size f cd) e) (fun _ s''=>CX outer H s E e s'') (fun e' s''=>CX outer H s E e' s'') s'
theorem vv {sc:Scope} {n:Nat} {x:Str} (h:sc.names.lookup x=some .cell):∃c,(cellsFrom n sc.names []).lookup x=some c:=by
 have q:=cZ sc.names n [] (.inl h)
 exact cg.mp q
theorem xM {CX:CXT} {P:Program} {w:World} {K:PySem.W.Frag} {mg:Str->Option Value} {base:Heap} {N ps:List Str} {qual:Str} {scope:Scope} {f:Addr} {cd:Value} {A:Around} {outer:List Env} {s s1:Shared} {H:Hp} {E:XK} {us:List Value} {vs:List V}
  (S:eX N ps scope) (hd:A.handled=none) (e0:BK P w K mg base A outer s H) (hl:vs.length=ps.length) (r:gG vs us)
  (x:InCallC s s.heap.objs.size (bindL (envOfC qual scope s.heap.objs.size f cd).kindOf (ps.zip us) fun _=>none) (cellsFrom (s.heap.objs.size+ 1) scope.names []) (bindC (envOfC qual scope s.heap.objs.size f cd).kindOf (ps.zip us) fun _=>none) s1):
  Inv (AK CX P w K mg base N qual scope f cd A outer s H E) [] (start N vs) H s1:=by
 have hpl:ps.length<=N.length:=by have:=congrArg List.length S.pre;rw[aF]at this;lia
 obtain⟨h1,tk,rfl,hk⟩:=x.done
 have noA:∀b:Addr,b∉(AK CX P w K mg base N qual scope f cd A outer s H E).ex:=fun b z=>absurd (show b∈([]:List Addr)from z) (by simp)
 refine⟨⟨e0.mod,S.kind,rfl,rfl,bX _,fun y z c h1 h2=>?_,fun y hy=>?_,fun y c _ h=>?_,fun _=>hd,Around.frames_deeper e0.frames,.inr ⟨rfl,rfl⟩,fun b z=>absurd z (noA b),e0.bs,e0.bsz,fun b _ _=>noA b,fun b z=>absurd z (noA b),e0.funs,e0.frf⟩,
  rfl,e0.bare,Un.kept hk,⟨_,x.toInCall.ns,fun i y v h1 h2 h3=>?_⟩,fun y c h=>⟨_,x.cell y c h⟩,e0.hok.fresh (bX _),fun y c h=>?_,fun p hp=>absurd (show p∈([]:List (Addr×Obj))from hp) (by simp),e0.hok.kept hk,?_⟩
 ·exact name_of_addr x.apart (PySem.mem_of_lookup h1) (PySem.mem_of_lookup h2)
 ·have hy:scope.names.lookup y=some .cell\/scope.names.lookup y=some .free:=hy
  rcases hy with hy|hy
  ·exact vv hy
  ·exact absurd rfl (S.nofree _ (PySem.mem_of_lookup hy))
 ·exact bV (x.above y c (PySem.mem_of_lookup h))
 ·have hi:i<vs.length:=by
   unfold start at h2
   by_cases hi:i<vs.length
   ·exact hi
   ·rw[aG (by simpa using hi)]at h2
    rw[List.getElem?_replicate]at h2
    split at h2<;>cases h2
  have ha:vs[i]?=some v:=by
   unfold start at h2
   rw[aH (by simpa using hi),aI]at h2
   cases e:vs[i]? with
   |none=>rw[e]at h2;cases h2
   |some a=>rw[e]at h2;cases h2;rfl
  obtain⟨u,hu,rv⟩:=r.get ha
  have hp:ps[i]?=some y:=by
   rw[<-S.pre,aJ (by lia)];exact h1
  have ndP:ps.Nodup:=by rw[<-S.pre];exact S.nd.sublist (List.take_sublist _ _)
  refine⟨u,rv,?_⟩
  rcases S.par y (aK hp)with k|k
  ·exact .inl ⟨k,tq ndP hp hu k⟩
  ·obtain⟨c,e⟩:=vv (n:=s.heap.objs.size+ 1) k
   refine .inr ⟨.inl k,c,e,?_⟩
   have q:=x.cell y c e
   rw[tu ndP hp hu (by show scope.names.lookup y≠_;rw[k];decide)]at q
   exact q
 ·exact e0.hok.fresh (bV (x.above y c (PySem.mem_of_lookup h)))
 ·unfold start
  show _=N.length
  rw[aM,aA,aN]
  lia
theorem DB {CX:CXT} {P:Program} {w:World} {K:PySem.W.Frag} {mg:Str->Option Value} {base:Heap} {k:Nat} {f:Addr} {name qual:Str} {params:Arguments} {body:List Stmt} {scope:Scope} {dV kV doc pm cdv ct oc:Value} {an od:Option Addr}
  {osl:Array (Option Value)} {N ps:List Str} {sp:Sp} (lk:K.lookup f=some ⟨oc,od,.func (dg name qual params body scope dV kV doc pm an cdv ct),osl⟩) (hcd:dh K cdv qual=true) (S:eX N ps scope)
  (len:∀vs H Q E,sp vs H Q E->vs.length=ps.length)
  (hbody:∀(A:Around) (outer:List Env) (s:Shared) (H:Hp) (vs:List V) (Q:VK) (E:XK),kQ k (A.deeper (envOfC qual scope s.heap.objs.size f cdv))->sp vs H Q E->
   ∃t,PSs (AK CX P w K mg base N qual scope f cdv A outer s H E) body t/\t {nx:=fun _ H'=>Q .non H',rt:=Q} (start N vs) H):
  qA P w K mg base CX (k+ 1) f (dg name qual params body scope dV kV doc pm an cdv ct) ps sp:=by
 refine⟨len,fun A outer s H args us vs Q E hr e0 hb r hsp=>?_⟩
 have hl:=len _ _ _ _ hsp
 have KX:K.In s.heap:=e0.mod.kin.keeps fun b o e=>(e0.bs b o e).1
 have lim:s.heap.NoLimit:=e0.mod.nolimit.keeps fun b o e=>(e0.bs b o e).1
 have hkind:∀y∈ps.zip us,scope.names.lookup y.1=some .local\/(scope.names.lookup y.1=some .cell/\((cellsFrom (s.heap.objs.size+ 1) scope.names []).lookup y.1).isSome=true):=fun⟨n,v⟩ hy=>by
  rcases S.par n (aD hy).1 with q|q
  ·exact .inl q
  ·exact .inr ⟨q,cZ _ _ _ (.inl q)⟩
 refine codeAny_call_function hr.depth (KX _ _ lk) rfl S.co S.gen rfl (PySem.W.codeRec_of KX hcd) (hb _ _ _ _ ?_)
 refine wpAny_newFunctionEnv_cells S.kind hkind fun env he s1 x=>?_
 subst he
 refine⟨lim.keeps x.toInCall.keep,codeAny_func ?_⟩
 obtain⟨t,ht,hq⟩:=hbody A outer s H vs Q E (hr.deeper _) hsp
 have I:Inv (AK CX P w K mg base N qual scope f cdv A outer s H E) [] (start N vs) H s1:=xM S hr.hd e0 hl r x
 refine wpAny_mono (ht [] s1 (start N vs) H _ I hq) (fun fl s' hs=>?_) fun e s' hs=>hs
 have fin:∀{σ':St} {H':Hp} {v:V} {u:Value},Inv (AK CX P w K mg base N qual scope f cdv A outer s H E) [] σ' H' s'->gN v u->Q v H'->CE outer P w H s Q u s':=
  fun{σ' H' v u} J rv q=>⟨v,H',J.os,J.bare,J.base,J.hok,rv,q⟩
 cases fl with
 |ret u=>
  obtain⟨v,σ',H',J,rv,q⟩:=hs
  exact fin J rv q
 |next=>
  obtain⟨σ',H',J,q⟩:=hs
  exact fin (v:=V.non) (u:=Value.none) J rfl q
 |brk=>
  obtain⟨_,_,_,q⟩:=hs
  exact False.elim q
 |cont=>
  obtain⟨_,_,_,q⟩:=hs
  exact False.elim q
section
variable {X:Cx} {x:Str} {p pos:Pos} {e:Expr} {es:List Expr} {t:TA} {id T:String} {r:List V->Hp->VK->Prop}
def tCB (r:List V->Hp->VK->Prop) (t:TA):TE:=fun σ H Q=>t σ H fun vs H1=>r vs H1 Q
theorem fD (hc:m7 X (.builtin id) r) (hg:Gl X x) (hm:X.mg x=none) (hv:bootBuiltins x=some (.builtin id)) (ha:PA X (e::es) t) (hn:autoParam (x≠"__name__") L2.Internal.auD._auto_1) (hdb:autoParam ((x==("__debug__":Str))=false) L2.Internal.auD._auto_1)
  (he:autoParam (starEach (e::es) X.env=(false,eval e X.env)::starEach es X.env) L2.Internal.auR._auto_1) (hpl:autoParam ((backTo pos (starEach es X.env)).any (·.1)=false) L2.Internal.auR._auto_1):PE X (.Call (.Name x p) (e::es) [] pos) (tCB r t):=by
 intro pz s σ H Q I h
 refine wpAny_Call_Name_kw (lU I hg hm hv ?_ hn hdb)
 exact PyProof.Rows.callWith_builtin1 (thn (ha pos pz s σ H _ I h) fun us s1 ⟨vs,H1,I1,r1,q1⟩=>hc pz s1 σ H1 vs us Q I1 r1 q1) he hpl
theorem fW (hc:m7 X (.type T) r) (hg:Gl X x) (hm:X.mg x=none) (hv:bootBuiltins x=some (.type T)) (ha:PA X (e::es) t) (hn:autoParam (x≠"__name__") L2.Internal.auD._auto_1) (hdb:autoParam ((x==("__debug__":Str))=false) L2.Internal.auD._auto_1)
  (he:autoParam (starEach (e::es) X.env=(false,eval e X.env)::starEach es X.env) L2.Internal.auR._auto_1) (hpl:autoParam ((backTo pos (starEach es X.env)).any (·.1)=false) L2.Internal.auR._auto_1):PE X (.Call (.Name x p) (e::es) [] pos) (tCB r t):=by
 intro pz s σ H Q I h
 refine wpAny_Call_Name_kw (lU I hg hm hv ?_ hn hdb)
 exact eB (thn (ha pos pz s σ H _ I h) fun us s1 ⟨vs,H1,I1,r1,q1⟩=>hc pz s1 σ H1 vs us Q I1 r1 q1) he hpl
end
section
variable {κ:Type} [DecidableEq κ]
def kN (kvs:List (κ×V)) (k:κ):Option V:=(kvs.find? fun kv=>decide (kv.1=k)).map (·.2)
def vw (kvs:List (κ×V)) (k:κ) (v:V):List (κ×V):=
 if(kvs.any fun kv=>decide (kv.1=k))=true then kvs.map (fun kv=>if kv.1=k then(kv.1,v)else kv)else kvs++[(k,v)]
theorem iJ {p:κ×V} {r:List (κ×V)} {k:κ} (e:p.1=k):kN (p::r) k=some p.2:=by simp[kN,aO,e]
theorem iK {p:κ×V} {r:List (κ×V)} {k:κ} (e:¬p.1=k):kN (p::r) k=kN r k:=by simp[kN,aO,e]
theorem pf (k:κ):∀kvs:List (κ×V),(kvs.any fun kv=>decide (kv.1=k))=(kN kvs k).isSome
 |[]=>rfl
 |p::r=>by
  rw[aP]
  by_cases e:p.1=k
  ·simp only[iJ e,gM e,Bool.true_or,Option.isSome_some]
  ·rw[iK e,gk e,Bool.false_or];exact pf k r
theorem vx (k j:κ) (y:V):∀kvs:List (κ×V),kN (kvs.map fun kv=>if kv.1=k then(kv.1,y)else kv) j=(kN kvs j).map fun x=>if j=k then y else x
 |[]=>rfl
 |p::r=>by
  have ih:=vx k j y r
  rw[az]
  by_cases h:p.1=k
  ·rw[fY h]
   by_cases e:p.1=j
   ·rw[iJ (p:=(p.1,y)) e,iJ e,ck,fY (e.symm.trans h)]
   ·rw[iK (p:=(p.1,y)) e,iK e,ih]
  ·rw[fJ h]
   by_cases e:p.1=j
   ·rw[iJ (p:=p) e,iJ e,ck,fJ (fun z=>h (e.trans z))]
   ·rw[iK (p:=p) e,iK e,ih]
theorem tw (k j:κ) (y:V):∀kvs:List (κ×V),kN kvs k=none->kN (kvs++[(k,y)]) j=if j=k then some y else kN kvs j
 |[],_=>by
  by_cases e:k=j
  ·rw[fY e.symm];exact iJ (p:=(k,y)) e
  ·rw[fJ (fun z=>e z.symm)];exact iK (p:=(k,y)) e
 |p::r,hn=>by
  rw[aQ]
  have hk:¬p.1=k:=fun z=>by rw[iJ z]at hn;cases hn
  rw[iK hk]at hn
  have ih:=tw k j y r hn
  by_cases e:p.1=j
  ·rw[iJ e,iJ e,fJ (fun z=>hk (e.trans z))]
  ·rw[iK e,iK e,ih]
theorem zN (kvs:List (κ×V)) (k j:κ) (y:V):kN (vw kvs k y) j=if j=k then some y else kN kvs j:=by
 unfold vw
 by_cases a:(kvs.any fun kv=>decide (kv.1=k))=true
 ·rw[fY a,vx]
  rw[pf]at a
  by_cases e:j=k
  ·obtain⟨x,hx⟩:=cg.mp a
   rw[fY e,e,hx,ck,fY rfl]
  ·rw[fJ e]
   cases kN kvs j with
   |none=>rfl
   |some x=>rw[ck,fJ e]
 ·rw[fJ a]
  refine tw k j y kvs ?_
  rw[pf]at a
  cases q:kN kvs k with
  |none=>rfl
  |some x=>rw[q]at a;exact(a rfl).elim
theorem ml (kvs:List (κ×V)) (k:κ) (v:V):(vw kvs k v).length<=kvs.length+ 1:=by
 unfold vw
 split
 ·rw[aA];lia
 ·rw[aM,ax,List.length_nil];lia
theorem rJ.isSome_eq {o:Option V} {u:Option Value} (r:rJ o u):o.isSome=u.isSome:=by
 cases o with
 |none=>cases u with
  |none=>rfl
  |some _=>exact(show False from r).elim
 |some _=>cases u with
  |none=>exact(show False from r).elim
  |some _=>rfl
theorem rJ.getD {o:Option V} {u:Option Value} {d:V} {d':Value} (r:rJ o u) (rd:gN d d'):gN (o.getD d) (u.getD d'):=by
 cases o with
 |none=>cases u with
  |none=>exact rd
  |some _=>exact(show False from r).elim
 |some _=>cases u with
  |none=>exact(show False from r).elim
  |some _=>exact r
theorem KV.val {kvs:List (κ×V)} {vs:List (κ×Value)} (r:KV kvs vs) (k:κ):rJ (kN kvs k) (valueAt vs k):=by
 unfold KV at r
 induction r with
 |nil=>exact True.intro
 |@cons p q ps qs h t ih=>
  obtain⟨h1,h2⟩:=h
  by_cases e:p.1=k
  ·have e':q.1=k:=h1.symm.trans e
   have b:valueAt (q::qs) k=some q.2:=by simp[valueAt,aO,e']
   rw[iJ e,b];exact h2
  ·have e':¬q.1=k:=fun z=>e (h1.trans z)
   have b:valueAt (q::qs) k=valueAt qs k:=by simp[valueAt,aO,e']
   rw[iK e,b];exact ih
theorem KV.any {kvs:List (κ×V)} {vs:List (κ×Value)} (r:KV kvs vs) (k:κ):(kvs.any fun kv=>decide (kv.1=k))=vs.any fun kv=>decide (kv.1=k):=by
 unfold KV at r
 induction r with
 |nil=>rfl
 |cons h t ih=>rw[aP,aP,ih,h.1]
theorem KV.repl {kvs:List (κ×V)} {vs:List (κ×Value)} (r:KV kvs vs) (k:κ) {y:V} {u:Value} (ry:gN y u):
  KV (kvs.map fun kv=>if kv.1=k then(kv.1,y)else kv) (vs.map fun kv=>if kv.1=k then(kv.1,u)else kv):=by
 unfold KV at r⊢
 induction r with
 |nil=>exact .nil
 |@cons p q ps qs h t ih=>
  rw[az,az]
  refine .cons ?_ ih
  obtain⟨h1,h2⟩:=h
  by_cases e:p.1=k
  ·rw[fY e,fY (h1.symm.trans e)];exact⟨h1,ry⟩
  ·rw[fJ e,fJ (fun z=>e (h1.trans z))];exact⟨h1,h2⟩
theorem KV.put {kvs:List (κ×V)} {vs:List (κ×Value)} (r:KV kvs vs) (k:κ) {y:V} {u:Value} (ry:gN y u):KV (vw kvs k y) (stored vs k u):=by
 unfold vw stored
 rw[r.any k]
 by_cases e:(vs.any fun kv=>decide (kv.1=k))=true
 ·rw[fY e,fY e];exact r.repl k ry
 ·rw[fJ e,fJ e];exact Paired.snoc r ⟨rfl,ry⟩
theorem KV.length {kvs:List (κ×V)} {vs:List (κ×Value)} (r:KV kvs vs):kvs.length=vs.length:=Paired.length r
end
theorem zO {P:Program} {w:World} {k:Key} {u:Value} (r:gN (kV k) u):(iH P w).is k u=true:=by
 cases k with
 |inl i=>obtain⟨t,e⟩:=(show ∃t,u=Value.int i t from r);subst e;exact uB P w i t
 |inr x=>obtain⟨t,e⟩:=(show ∃t,u=Value.str x t from r);subst e;exact uC P w x t
theorem tD {P:Program} {w:World}:∀{ks:List Key} {us:List Value},gG (ks.map kV) us->ItemsAre (iH P w) ks us
 |[],_,r=>by rw[aR]at r;cases r;exact .nil
 |k::ks,_,r=>by
  rw[az]at r
  cases r with
  |cons h t=>exact .cons (zO h) (tD t)
abbrev KT (H:Hp):List (List Key×V)->List (List Key×Addr×Value)->Prop:=Paired fun p q=>p.1=q.1/\H q.2.1=some (.tup (p.1.map kV))/\gN p.2 q.2.2
theorem KT.val {H:Hp} {kvs:List (List Key×V)} {xs:List (List Key×Addr×Value)} (r:KT H kvs xs) (k:List Key):rJ (kN kvs k) ((atKey xs k).map (·.2)):=by
 induction r with
 |nil=>exact True.intro
 |@cons p q ps qs h t ih=>
  obtain⟨h1,_,h2⟩:=h
  by_cases e:p.1=k
  ·have e':q.1=k:=h1.symm.trans e
   have b:atKey (q::qs) k=some q.2:=by simp[atKey,aO,e']
   rw[iJ e,b];exact h2
  ·have e':¬q.1=k:=fun z=>e (h1.trans z)
   have b:atKey (q::qs) k=atKey qs k:=by simp[atKey,aO,e']
   rw[iK e,b];exact ih
theorem KT.repl {H:Hp} {kvs:List (List Key×V)} {xs:List (List Key×Addr×Value)} (r:KT H kvs xs) (k:List Key) {y:V} {u:Value} (ry:gN y u):
  KT H (kvs.map fun kv=>if kv.1=k then(kv.1,y)else kv) (xs.map (putAt k u)):=by
 induction r with
 |nil=>exact .nil
 |@cons p q ps qs h t ih=>
  rw[az,az]
  refine .cons ?_ ih
  obtain⟨h1,h2,h3⟩:=h
  unfold putAt
  by_cases e:p.1=k
  ·rw[fY e,fY (h1.symm.trans e)];exact⟨h1,h2,ry⟩
  ·rw[fJ e,fJ (fun z=>e (h1.trans z))];exact⟨h1,h2,h3⟩
theorem KT.put {H:Hp} {kvs:List (List Key×V)} {xs:List (List Key×Addr×Value)} (r:KT H kvs xs) (k:List Key) {b:Addr} {y:V} {u:Value} (hb:H b=some (.tup (k.map kV))) (ry:gN y u):
  KT H (vw kvs k y) (storedH xs k b u):=by
 have e:(kvs.any fun kv=>decide (kv.1=k))=(atKey xs k).isSome:=by
  rw[pf,(r.val k).isSome_eq,Option.isSome_map]
 unfold vw storedH
 rw[e]
 by_cases q:(atKey xs k).isSome=true
 ·rw[fY q,fY q];exact r.repl k ry
 ·rw[fJ q,fJ q];exact Paired.snoc r ⟨rfl,hb,ry⟩
theorem KT.keeps {H H':Hp} {kvs:List (List Key×V)} {xs:List (List Key×Addr×Value)} (r:KT H kvs xs) (ht:∀b ys,H b=some (.tup ys)->H' b=some (.tup ys)):KT H' kvs xs:=
 Paired.mapP r fun _ _ z=>⟨z.1,ht _ _ z.2.1,z.2.2⟩
section
variable {P:Program} {w:World} {H:Hp} {h:Heap} {a:Addr}
theorem DC {u:HO} (ok:HOk P w H h) (e:Rd H a u):hG P w H h a u:=e.ok ok
theorem BM {kvs:List (Key×V)} (ok:HOk P w H h) (e:Rd H a (.dK kvs)):kvs.length<=sizeLine/\(a==sysModules)=false/\∃vs,KV kvs vs/\h.DictOf (iH P w) a vs:=
 show hG P w H h a (.dK kvs)from DC ok e
theorem DD {kvs:List (Key×V)} (ok:HOk P w H h) (e:H a=some (.dK kvs)):kvs.length<=sizeLine/\(a==sysModules)=false/\∃vs,KV kvs vs/\h.DictOf (iH P w) a vs:=BM ok (.inl e)
theorem xN {ks:List Key} (ok:HOk P w H h) (e:H a=some (.tup (ks.map kV))):(tupleKind (iH P w)).is h ks a:=by
 obtain⟨_,its,r,o,h1,h2,n,h3,_⟩:=(show hG P w H h a (.tup (ks.map kV))from ok a _ e)
 exact⟨o,its.toArray,n,h1,h2,h3,by simpa using tD r⟩
theorem BN {kvs:List (List Key×V)} (ok:HOk P w H h) (e:Rd H a (.dT kvs)):kvs.length<=sizeLine/\(a==sysModules)=false/\
  ∃xs,KT H kvs xs/\h.DictOfH (tupleKind (iH P w)) a xs:=by
 obtain⟨z,y,xs,r,o,es,ep,h1,h2,h3,h4,h5⟩:=(show hG P w H h a (.dT kvs)from DC ok e)
 refine⟨z,y,xs,r,o,es,ep,h1,h2,h3,h4,fun x hx=>?_,h5⟩
 have all:∀{l:List (List Key×V)} {m:List (List Key×Addr×Value)},KT H l m->∀x∈m,(tupleKind (iH P w)).is h x.1 x.2.1:=by
  intro l m q
  induction q with
  |nil=>intro x hx;exact nomatch hx
  |@cons p q ps qs hq t ih=>
   intro x hx
   rcases ai.mp hx with e|hx
   ·subst e
    exact xN ok (by rw[<-hq.1];exact hq.2.1)
   ·exact ih x hx
 exact all r x hx
theorem Fe {kvs:List (List Key×V)} (ok:HOk P w H h) (e:H a=some (.dT kvs)):kvs.length<=sizeLine/\(a==sysModules)=false/\
  ∃xs,KT H kvs xs/\h.DictOfH (tupleKind (iH P w)) a xs:=BN ok (.inl e)
end
def wy (H:Hp) (a:Addr) (y:V) (r:Option V):Prop:=
 (∃kvs k,Rd H a (.dK kvs)/\y=kV k/\r=kN kvs k)\/∃kvs k b,Rd H a (.dT kvs)/\y= .ref b/\H b=some (.tup (k.map kV))/\r=kN kvs k
def xO (H:Hp) (a:Addr) (y v:V) (H':Hp):Prop:=
 (∃kvs k,H a=some (.dK kvs)/\y=kV k/\kvs.length<sizeLine/\H'=upd H a (.dK (vw kvs k v)))\/
 ∃kvs k b,H a=some (.dT kvs)/\y= .ref b/\H b=some (.tup (k.map kV))/\kvs.length<sizeLine/\H'=upd H a (.dT (vw kvs k v))
theorem wy.k {H:Hp} {a:Addr} {kvs:List (Key×V)} {k:Key} (e:H a=some (.dK kvs)):wy H a (kV k) (kN kvs k):= .inl ⟨kvs,k,.inl e,rfl,rfl⟩
theorem wy.t {H:Hp} {a b:Addr} {kvs:List (List Key×V)} {k:List Key} (e:H a=some (.dT kvs)) (eb:H b=some (.tup (k.map kV))):wy H a (.ref b) (kN kvs k):= .inr ⟨kvs,k,b,.inl e,rfl,eb,rfl⟩
theorem xO.k {H:Hp} {a:Addr} {kvs:List (Key×V)} {k:Key} {v:V} (e:H a=some (.dK kvs)) (hl:kvs.length<sizeLine):xO H a (kV k) v (upd H a (.dK (vw kvs k v))):= .inl ⟨kvs,k,e,rfl,hl,rfl⟩
theorem xO.t {H:Hp} {a b:Addr} {kvs:List (List Key×V)} {k:List Key} {v:V} (e:H a=some (.dT kvs)) (eb:H b=some (.tup (k.map kV))) (hl:kvs.length<sizeLine):
  xO H a (.ref b) v (upd H a (.dT (vw kvs k v))):= .inr ⟨kvs,k,b,e,rfl,eb,hl,rfl⟩
section
variable {X:Cx} {pz:List (Addr×Obj)} {σ:St} {H:Hp} {s:Shared} {a:Addr} {y v:V} {u r:Value} {o:Option V} {A:Around} {E:Value->Shared->Prop}
theorem Inv.big (I:Inv X pz σ H s):sysModules<s.heap.objs.size:=by
 have h:mainGlobals<s.heap.objs.size:=(I.mod.glob.keeps I.bk).lt
 exact Nat.lt_trans (by decide) h
theorem xP {Q:Value->Shared->Prop} (hu:A.units+ 1<cLine) (I:Inv X pz σ H s) (g:wy H a y (some v)) (ry:gN y u) (h:∀w' s',Inv X pz σ H s'->gN v w'->Q w' s'):
  wpAny (model X.prog X.w) A (getItem (.ref a) u) Q E s:=by
 rcases g with⟨kvs,k,e,ey,l⟩|⟨kvs,k,b,e,ey,eb,l⟩
 ·subst ey
  obtain⟨z,hd,vs,rel,dd⟩:=BM I.hok e
  obtain⟨w',hw,rw'⟩:=rJ.some_of (v:=v) (o:=valueAt vs k) (by rw[l];exact rel.val k)
  exact wpAny_getItem_of (zO ry) dd.mapOf hw (h w' _ (I.tok _) rw')
 ·subst ey
  cases(show u=Value.ref b from ry)
  obtain⟨z,hd,xs,rel,dd⟩:=BN I.hok e
  obtain⟨w',hw,rw'⟩:=rJ.some_of (v:=v) (o:=(atKey xs k).map (·.2)) (by rw[l];exact rel.val k)
  obtain⟨p,hp,hp2⟩:=cm.mp hw
  refine wpAny_getItem_heap (tupleKind_room_in1 hu) (xN I.hok eb) dd hp ?_
  rw[hp2]
  exact h w' _ (I.tok _) rw'
theorem xQ {h':Heap} {t':Nat} {ob:HO} (I:Inv X pz σ H s) (mu:Mut (H a)) (hs:Heap.SameBut a s.heap h') (he:∃q,h'.get? a=some q) (new:hG X.prog X.w (upd H a ob) h' a ob):
  Inv X pz σ (upd H a ob) {s with heap:=h',toks:=t'}:=
 I.write (x:=a) (e:=a) mu (.inl rfl) (fun b q hb z=>(hs.2 b hb).trans z) he new
theorem AL {P:Program} {w:World} {H':Hp} {h':Heap} {kvs:List (Key×V)} {vs:List (Key×Value)} (z:kvs.length<=sizeLine) (hd:(a==sysModules)=false) (rel:KV kvs vs) (dd:h'.DictOf (iH P w) a vs):
  hG P w H' h' a (.dK kvs):=⟨z,hd,vs,rel,dd⟩
theorem xR {H':Hp} {Q:Unit->Shared->Prop} (hu:A.units+ 1<cLine) (I:Inv X pz σ H s) (g:xO H a y v H') (ry:gN y u) (rv:gN v r) (h:∀s',Inv X pz σ H' s'->Q () s'):
  wpAny (model X.prog X.w) A (setItem (.ref a) u r) Q E s:=by
 rcases g with⟨kvs,k,e,ey,l,eH⟩|⟨kvs,k,b,e,ey,eb,l,eH⟩
 ·subst ey eH
  obtain⟨z,hd,vs,rel,dd⟩:=DD I.hok e
  have hz:vs.length<=sizeLine:=by rw[<-rel.length];exact z
  have hl:(vw kvs k v).length<=sizeLine:=by have:=ml kvs k v;lia
  refine wpAny_setItem_pairs (hsz:=hz) (zO ry) dd fun h' dd' hs=>h _ ?_
  have he:∃q,h'.get? a=some q:=let⟨q,_,_,hq,_⟩:=dd';⟨q,hq⟩
  exact xQ I (by rw[e];exact True.intro) hs he (AL hl hd (rel.put k rv) dd')
 ·subst ey eH
  cases(show u=Value.ref b from ry)
  obtain⟨z,hd,xs,rel,dd⟩:=Fe I.hok e
  have hz:xs.length<=sizeLine:=by rw[<-Paired.length rel];exact z
  have hl:(vw kvs k v).length<=sizeLine:=by have:=ml kvs k v;lia
  refine wpAny_setItem_heap (hsz:=hz) (tupleKind_room_in1 hu) (xN I.hok eb) dd fun h' dd' hs=>h _ ?_
  obtain⟨q,es,ep,hq,h2,h3,h4,_,h5⟩:=dd'
  refine xQ I (by rw[e];exact True.intro) hs ⟨q,hq⟩ ⟨hl,hd,_,(rel.put k eb rv).keeps fun c ys ec=>?_,q,es,ep,hq,h2,h3,h4,h5⟩
  rw[eN (jh ec e (fun z=>nomatch z))]
  exact ec
end
section
variable {X:Cx} {pz:List (Addr×Obj)} {σ:St} {H:Hp} {s:Shared} {a:Addr} {kvs:List (Key×V)} {k:Key} {u:Value} {A:Around} {E:Value->Shared->Prop}
end
def Ff (i:Expr):Prop:=∀ov iv,subscripted i false ov iv=operate [ov,iv] (getItem ov iv)
theorem xS {prog:Program} {w:World} {A:Around} {E:Value->Shared->Prop} {s:Shared} {env:Env} {value slice:Expr} {pos:Pos} {T id:String} {Q:Value->Shared->Prop}
  (hl:typeLookup (.type T) "__getitem__"=pure (some (.builtin id))) (hs:Ff slice)
  (h:wpAny (model prog w) A (eval value env) (fun o s₁=>wpAny (model prog w) A (eval slice env) (fun i s₂=>s₂.TypeIs o T/\wpAny (model prog w) A (getItem o i) Q E s₂) E s₁) E s):
  wpAny (model prog w) A (eval (.Subscript value slice pos) env) Q E s:=by
 refine Subscript_ (wpAny_mono h (fun o s₁ h₁=>wpAny_mono h₁ (fun i s₂ h₂=>?_) fun _ _ x=>x) fun _ _ x=>x)
 obtain⟨hT,h₂⟩:=h₂
 unfold subscriptTail
 refine wpAny_bind ?_
 rw[getitemInPython_of_ne hT.not_modules]
 refine wpAny_bind (wpAny_specialOf hT hl ?_)
 have fin:wpAny (model prog w) A (subscripted slice false o i) (fun r s₃=>wpAny (model prog w) A (letTemporaryGo value o r >>= fun _=>pure r) Q E s₃) E s₂:=by
  rw[hs o i]
  exact wpAny_operating (wpAny_mono h₂ (fun r s₃ h₃=>wpAny_bind (wpAny_letTemporaryGo (wpAny_pure h₃))) fun _ _ x=>x)
 first
  |exact wpAny_pure (wpAny_bind fin)
  |exact wpAny_bind (wpAny_pure (wpAny_bind fin))
  |exact wpAny_bind fin
theorem uG {X:Cx} {pz:List (Addr×Obj)} {σ:St} {H:Hp} {s:Shared} {a:Addr} {y:V} {o:Option V} (I:Inv X pz σ H s) (g:wy H a y o):s.TypeIs (.ref a) "dict":=by
 rcases g with⟨kvs,k,e,_,_⟩|⟨kvs,k,b,e,_,_,_⟩
 ·obtain⟨_,_,vs,_,dd⟩:=BM I.hok e
  exact dd.typeIs
 ·obtain⟨_,_,xs,_,dd⟩:=BN I.hok e
  exact dd.typeIs
def Fg (td ty:TE):TE:=fun σ H Q=>td σ H fun x H1=>ty σ H1 fun y H2=>∃a v,x= .ref a/\wy H2 a y (some v)/\Q v H2
def Fh (td ty tv:TE):TS:=fun D σ H=>tv σ H fun v H1=>td σ H1 fun x H2=>ty σ H2 fun y H3=>∃a H4,x= .ref a/\xO H3 a y v H4/\D.nx σ H4
section
variable {X:Cx} {o i e value:Expr} {pos pos' tpos:Pos} {td ty tv:TE}
theorem kn (hu:X.A.units+ 1<cLine) (ho:PE X o td) (hi:PE X i ty) (hs:Ff i:=by exact fun _ _=>rfl):PE X (.Subscript o i pos) (Fg td ty):=by
 intro pz s σ H Q I h
 refine xS dw.lookup hs (thn (ho pz s σ H _ I h) fun u s1 ⟨x,H1,I1,rx,q1⟩=>thn (hi pz s1 σ H1 _ I1 q1) fun iv s2 ⟨y,H2,I2,ry,a,v,ex,g,q2⟩=>?_)
 subst ex
 obtain rfl:u=Value.ref a:=rx
 exact⟨uG I2 g,xP hu I2 g ry fun w' s3 I3 rw'=>⟨v,H2,I3,rw',q2⟩⟩
theorem mq (hu:X.A.units+ 1<cLine) (ho:PE X o td) (hi:PE X i ty) (hv:PE X value tv) (hs:swapsWith value (some (.Subscript o i pos')) pos.line X.env=pure false):
  PS X (.Assign [.Subscript o i pos'] value pos) (Fh td ty tv):=by
 intro pz s σ H D I h
 refine wpAny_Assign_Subscript (thn (hv pz s σ H _ I h) fun r s1 ⟨v,H1,I1,rv,q1⟩=>thn (ho pz s1 σ H1 _ I1 q1) fun u s2 ⟨x,H2,I2,rx,q2⟩=>thn (hi pz s2 σ H2 _ I2 q2) fun iv s3 ⟨y,H3,I3,ry,a,H4,ex,g,q3⟩=>?_) hs
 subst ex
 obtain rfl:u=Value.ref a:=rx
 exact xR hu I3 g ry rv fun s4 I4=>⟨σ,H4,I4,q3⟩
end
theorem zP {P:Program} {w:World} {H:Hp} (h:Heap) (hb:sysModules<h.objs.size):hG P w H (h.push {cls:= .type "dict",data:= .dict #[]}) h.objs.size (.dK []):=
 ⟨bY _,beq_eq_false_iff_ne.mpr (Ne.symm (bT hb)),[],.nil,Heap.DictOf.new h⟩
def DE:TE:=fun _ H Q=>∀p,H p=none->Q (.ref p) (upd H p (.dK []))
section
variable {X:Cx} {pos:Pos}
theorem rP:PE X (.Dict [] [] pos) DE:=fun pz s σ H Q I h=>
 wpAny_Dict_empty ⟨.ref s.heap.objs.size,_,I.laid (a:=s.heap.objs.size) (o:= .dK []) (t':=s.toks) (fun _ _ q=>dZ _ q) (bX _) (zP s.heap I.big),rfl,h _ (I.hok.fresh (bX _))⟩
end
structure M1 (X:Cx) (o:Expr) (m:Str) (apos:Pos) (e:Expr) (cpos:Pos):Prop where
 base:attributeBase o m X.env (eval o X.env)=eval o X.env
 few:((backTo cpos (starEach [e] X.env)).all (fun x=>!x.1)&&(backToKw cpos (keywordEach [] X.env)).all (fun x=>x.1.isSome)
  &&decide (([e]:List Expr).length+([]:List Keyword).length+(if([]:List Keyword).isEmpty then 0 else 1)<30))=true
 line:(apos.endLine==cpos.line)=true
 trees:backTo cpos (starEach [e] X.env)=[(false,eval e X.env)]
structure M2 (X:Cx) (o:Expr) (m:Str) (apos:Pos) (e f:Expr) (cpos:Pos):Prop where
 base:attributeBase o m X.env (eval o X.env)=eval o X.env
 few:((backTo cpos (starEach [e,f] X.env)).all (fun x=>!x.1)&&(backToKw cpos (keywordEach [] X.env)).all (fun x=>x.1.isSome)
  &&decide (([e,f]:List Expr).length+([]:List Keyword).length+(if([]:List Keyword).isEmpty then 0 else 1)<30))=true
 line:(apos.endLine==cpos.line)=true
 trees:backTo cpos (starEach [e,f] X.env)=[(false,eval e X.env),(false,eval f X.env)]
section
variable {X:Cx} {pz:List (Addr×Obj)} {σ:St} {H:Hp} {s:Shared} {a:Addr} {y d:V} {u r:Value} {o:Option V} {A:Around} {E:Value->Shared->Prop}
end
section
variable {X:Cx} {o e f:Expr} {apos cpos:Pos} {td ty tx:TE}
end
section
variable {X:Cx} {pz:List (Addr×Obj)} {σ:St} {H:Hp} {s:Shared} {a:Addr} {kvs:List (Key×V)} {A:Around} {E:Value->Shared->Prop}
end
section
variable {X:Cx} {pz:List (Addr×Obj)} {σ:St} {H:Hp} {s:Shared} {a:Addr} {y:V} {u:Value} {A:Around} {E:Value->Shared->Prop}
end
end L2.Internal
namespace HT.Internal
open PySem PyProof.Rows
section
open PySem.SeqAt
open PySem.AutoSeq1 (wpAny_loadPart')
open PySem.MeetsSeq PySem.MeetsSeq2 PySem.MeetsSeq3
end
section
variable {prog:Program} {w:World} {A:Around} {E:Value->Shared->Prop} {s:Shared}
theorem cat_tup {t b:Addr} {vs ws:List Value} {Q:Value->Shared->Prop} (ht:IsTup s.heap t vs.toArray) (hb:IsTup s.heap b ws.toArray) (hv:vs≠[])
  (h1:ws=[]->Q (.ref t) s) (h2:ws≠[]->Q (.ref s.heap.objs.size) {s with heap:=s.heap.push {cls:= .type "tuple",data:= .seq (vs++ws).toArray}})
  (hsz:vs.length+ws.length<=sizeLine):wpAny (model prog w) A (binaryOp .Add (.ref t) (.ref b)) Q E s:=by
 obtain⟨⟨cls,dd,data,sl⟩,ho,hc,n,hd⟩:=id ht
 obtain⟨⟨cls2,dd2,data2,sl2⟩,ho2,hc2,n2,hd2⟩:=id hb
 simp only at hc hd hc2 hd2
 subst hc hd hc2 hd2
 have e:vs.toArray++ws.toArray=(vs++ws).toArray:=by simp
 by_cases hw:ws=[]
 ·exact concat_meets ⟨_,ho,rfl⟩ ⟨_,ho2,rfl⟩ noFill_tuple_add seq_tuple_add dy dA (dB _ _)
   (tuple_addW1 t b vs.toArray ws.toArray n n2 dd dd2 sl sl2 (by simpa using hv) (by simp[hw])) ⟨ho,ho2,h1 hw⟩
 ·refine concat_meets ⟨_,ho,rfl⟩ ⟨_,ho2,rfl⟩ noFill_tuple_add seq_tuple_add dy dA (dB _ _)
   (tuple_addW2 t b vs.toArray ws.toArray n n2 dd dd2 sl sl2 (by simpa using hv) (by simpa using hw) (by rw[aw,aw];exact hsz)) ⟨ho,ho2,?_⟩
  rw[e]
  exact h2 hw
def sIx (n d:Nat):Option Int->Nat
 |none=>d
 |some v=>if v<0 then(v+(n:Int)).toNat else min v.toNat n
theorem sIx_none (n d:Nat):sIx n d none=d:=rfl
theorem sIx_nat (n d k:Nat):sIx n d (some (k:Int))=min k n:=by
 show(if(k:Int)<0 then((k:Int)+(n:Int)).toNat else min (k:Int).toNat n)=min k n
 rw[fJ (by lia),dR]
theorem DF (n d:Nat) (hd:d<=n) (o:Option Int):sIx n d o<=n:=by
 cases o with
 |none=>exact hd
 |some v=>
  show(if v<0 then(v+(n:Int)).toNat else min v.toNat n)<=n
  by_cases hv:v<0
  ·rw[fY hv];lia
  ·rw[fJ hv];exact Nat.min_le_right _ _
theorem xT (v:Int) (n d:Nat):(if v<0 then max (v+(n:Int)) 0 else min v (n:Int))=((sIx n d (some v):Nat):Int):=by
 show(if v<0 then max (v+(n:Int)) 0 else min v (n:Int))=(((if v<0 then(v+(n:Int)).toNat else min v.toNat n):Nat):Int)
 by_cases hv:v<0
 ·simp only[fY hv];lia
 ·simp only[fJ hv];lia
theorem wz (lo hi:Option Int) (n:Nat):Builtin.Slice.sliceAdjust lo hi 1 (n:Int)=(((sIx n 0 lo:Nat):Int),((sIx n n hi:Nat):Int)):=by
 have h1:¬((1:Int)<0):=by lia
 unfold Builtin.Slice.sliceAdjust
 simp only[h1,if_false]
 refine Prod.ext ?_ ?_
 ·cases lo with
  |none=>rfl
  |some v=>exact xT v n 0
 ·cases hi with
  |none=>rfl
  |some v=>exact xT v n n
theorem wA (i j:Nat):Builtin.Slice.slicePlaces (i:Int) (j:Int) 1=j-i:=by
 unfold Builtin.Slice.slicePlaces
 have h1:(1:Int)>0:=by lia
 simp only[h1,if_true,Int.ediv_one]
 split<;>lia
theorem rf {v:Value} {o:Option Int} {Q:Option Int->Shared->Prop} (p:IsPart v o) (h:Q o s):wpAny (model prog w) A (Builtin.Slice.slicePartIndex v) Q E s:=by
 cases p with
 |none=>exact slicePart_none h
 |int i t=>exact slicePart_int h
theorem oQ {sl:Addr} {vl vu:Value} {lo hi:Option Int} {n:Nat} {Q:Int×Int×Nat->Shared->Prop} (hs:s.heap.IsSliceOf sl vl vu .none) (pl:IsPart vl lo) (pu:IsPart vu hi)
  (h:Q (((sIx n 0 lo:Nat):Int),1,sIx n n hi-sIx n 0 lo) s):wpAny (model prog w) A (Builtin.Slice.sliceApplied (.ref sl) (pure (n:Int))) Q E s:=by
 obtain⟨os,hos,hcs,hds⟩:=id hs
 unfold Builtin.Slice.sliceApplied Builtin.Slice.sliceFields
 refine wpAny_bind (wpAny_bind (wpAny_field hos hds (x:=vl) rfl (wpAny_bind (wpAny_field hos hds (x:=vu) rfl (wpAny_bind (wpAny_field hos hds (x:= .none) rfl (wpAny_pure ?_)))))))
 refine wpAny_bind (slicePart_none ?_)
 show wpAny _ _ (if((1:Int)==0)=true then _ else _) _ _ s
 rw[fJ (by decide)]
 refine wpAny_bind (rf pl (wpAny_bind (rf pu (wpAny_bind (wpAny_pure ?_)))))
 show wpAny _ _ (match Builtin.Slice.sliceAdjust lo hi 1 (n:Int)with|(lo,hi)=>pure (lo,(1:Int),Builtin.Slice.slicePlaces lo hi 1)) _ _ s
 rw[wz lo hi n]
 show wpAny _ _ (pure (((sIx n 0 lo:Nat):Int),(1:Int),Builtin.Slice.slicePlaces ((sIx n 0 lo:Nat):Int) ((sIx n n hi:Nat):Int) 1)) _ _ s
 rw[wA]
 exact wpAny_pure h
theorem zQ (xs:Array Value) (i k:Nat):((aa k).filterMap fun(m:Nat)=>xs[((i:Int)+(m:Int)*1).toNat]?).toArray=((xs.toList.drop i).take k).toArray:=by
 have e:(fun(m:Nat)=>xs[((i:Int)+(m:Int)*1).toNat]?)=fun m=>xs[i+m]?:=by
  funext m
  have:((i:Int)+(m:Int)*1).toNat=i+m:=by lia
  rw[this]
 rw[e]
 have:=pick_run xs i k
 rw[List.filterMap_map]at this
 have e2:((fun x=>xs[x]?)∘fun x=>i+x)=fun m=>xs[i+m]?:=rfl
 rw[e2]at this
 rw[this]
theorem getItem_tuple_cut {t sl:Addr} {items:Array Value} {vl vu:Value} {lo hi:Option Int} {Q:Value->Shared->Prop} (ht:IsTup s.heap t items) (hs:s.heap.IsSliceOf sl vl vu .none) (pl:IsPart vl lo) (pu:IsPart vu hi)
  (hw:¬(sIx items.size 0 lo=0/\sIx items.size items.size hi=items.size))
  (h:Q (.ref s.heap.objs.size) {s with heap:=s.heap.push {cls:= .type "tuple",data:= .seq ((items.toList.drop (sIx items.size 0 lo)).take (sIx items.size items.size hi-sIx items.size 0 lo)).toArray}})
  (hsz:items.size<=sizeLine):wpAny (model prog w) A (getItem (.ref t) (.ref sl)) Q E s:=by
 have htake:sizeOk (.seq ((items.toList.drop (sIx items.size 0 lo)).take (sIx items.size items.size hi-sIx items.size 0 lo)).toArray):=by
  show((items.toList.drop (sIx items.size 0 lo)).take (sIx items.size items.size hi-sIx items.size 0 lo)).toArray.size<=sizeLine
  rw[aw,aF,aS,dQ]
  lia
 have hj:sIx items.size items.size hi<=items.size:=DF _ _ (bX _) hi
 obtain⟨os,hos,hcs,hds⟩:=id hs
 have hTs:s.TypeIs (.ref sl) "slice":=⟨os,hos,hcs⟩
 unfold getItem
 try with_reducible refine wpAny_holding ?_
 first|refine wpAny_bind (wpAny_pure ?_)|skip
 refine wpAny_bind (wpAny_sequenceKey ht.typeIs (by decide) ?_)
 refine wpAny_bind (wpAny_callSpecial?_slot (name:=Str.ofString "__getitem__") ht.typeIs eC
  (wpAny_call_entry eC ht.typeIs entry_tuple_getitem ?_ (args_tuple_getitem _ _)))
 show wpAny _ _ (Builtin.Tuple.tupleItemsOf (.ref t) >>= _) _ _ s
 refine wpAny_bind (tupleItemsOf_ ht ?_)
 refine wpAny_bind (wpAny_typeOf hTs ?_)
 rw[fY (by decide)]
 refine wpAny_bind (oQ hs pl pu ?_)
 have hno:¬((((sIx items.size 0 lo:Nat):Int)==0&&(1:Int)==1&&(sIx items.size items.size hi-sIx items.size 0 lo)==items.size)=true):=by
  intro q
  rw[dM,dM]at q
  have q1:((sIx items.size 0 lo:Nat):Int)=0:=eq_of_beq q.1.1
  have q2:sIx items.size items.size hi-sIx items.size 0 lo=items.size:=eq_of_beq q.2
  exact hw ⟨by lia,by lia⟩
 show wpAny _ _ (if(((sIx items.size 0 lo:Nat):Int)==0&&(1:Int)==1&&(sIx items.size items.size hi-sIx items.size 0 lo)==items.size)=true then _ else _) _ _ s
 rw[fJ hno,zQ]
 first
  |exact wpAny_bind (m:=Builtin.Tuple.tupleExact _) (wpAny_newObj_type (wpAny_pure ⟨_,rfl,wpAny_pure h⟩) htake)
  |exact wpAny_bind (m:=Builtin.Tuple.tupleExact _) (wpAny_newObj_type (wpAny_bind (wpAny_pure (wpAny_pure ⟨_,rfl,wpAny_pure h⟩))) htake)
  |exact wpAny_bind (wpAny_bind (m:=Builtin.Tuple.tupleExact _) (wpAny_newObj_type (wpAny_pure (wpAny_pure ⟨_,rfl,wpAny_pure h⟩)) htake))
  |exact wpAny_bind (wpAny_bind (m:=Builtin.Tuple.tupleExact _) (wpAny_newObj_type (wpAny_pure ⟨_,rfl,wpAny_pure h⟩) htake))
end
end HT.Internal
namespace L2.Internal
open PySem PySem.Spec PyProof.Rows
abbrev TO:=St->Hp->(Option Int->Hp->Prop)->Prop
def PO (X:Cx) (e:Option Expr) (t:TO):Prop:=
 ∀(pz:List (Addr×Obj)) (s:Shared) (σ:St) (H:Hp) (Q:Option Int->Hp->Prop),Inv X pz σ H s->t σ H Q->
  wpAny (model X.prog X.w) X.A (evalPart e X.env) (fun u s'=>∃o H',Inv X pz σ H' s'/\IsPart u o/\Q o H') X.xe s
def BP:TO:=fun _ H Q=>Q none H
def Fi (t:TE):TO:=fun σ H Q=>t σ H fun x H1=>∃i,x= .int i/\Q (some i) H1
theorem rg {ns:List Int}:∀{us:List Value},gG (ns.map V.int) us->IntsAre us ns:=by
 induction ns with
 |nil=>intro us r;rw[aR]at r;cases r;exact .nil
 |cons n ns ih=>
  intro us r
  rw[az]at r
  cases r with
  |cons r1 r2=>
   obtain⟨t,e⟩:=r1
   subst e
   exact .cons n t (ih r2)
section
variable {X:Cx} {e:Expr} {te:TE} {lo hi:Option Expr} {tl th:TO} {pos p2:Pos}
theorem nM:PO X none BP:=by
 intro pz s σ H Q I h
 rw[evalPart_none]
 exact wpAny_pure ⟨none,H,I,.none,h⟩
theorem nN (h:PE X e te):PO X (some e) (Fi te):=by
 intro pz s σ H Q I hw
 rw[evalPart_some]
 refine thn (h pz s σ H _ I hw) fun u s1 ⟨x,H1,I1,r1,q1⟩=>?_
 obtain⟨i,rfl,q⟩:=q1
 obtain⟨t,rfl⟩:=r1
 exact⟨some i,H1,I1,.int i t,q⟩
def SlR (X:Cx) (r:V->Option Int->Option Int->Hp->VK->Prop):Prop:=
 ∀(pz:List (Addr×Obj)) (s:Shared) (σ:St) (H:Hp) (x:V) (v vl vu:Value) (lo hi:Option Int) (sl:Addr) (Q:VK),Inv X pz σ H s->gN x v->s.heap.IsSliceOf sl vl vu .none->IsPart vl lo->IsPart vu hi->r x lo hi H Q->
  ∃T id,typeLookup (.type T) "__getitem__"=pure (some (.builtin id))/\s.TypeIs v T/\wpAny (model X.prog X.w) X.A (getItem v (.ref sl)) (EP X pz σ Q) X.xe s
def tSl (r:V->Option Int->Option Int->Hp->VK->Prop) (te:TE) (tl th:TO):TE:=fun σ H Q=>te σ H fun x H1=>tl σ H1 fun l H2=>th σ H2 fun u H3=>r x l u H3 Q
theorem lM {r:V->Option Int->Option Int->Hp->VK->Prop} (hr:SlR X r) (he:PE X e te) (hl:PO X lo tl) (hu:PO X hi th):PE X (.Subscript e (.Slice lo hi none p2) pos) (tSl r te tl th):=by
 intro pz s σ H Q I h
 refine Subscript_ (thn (he pz s σ H _ I h) fun v s1 ⟨x,H1,I1,r1,q1⟩=>?_)
 refine wpAny_Slice (thn (hl pz s1 σ H1 _ I1 q1) fun vl s2 ⟨l,H2,I2,pl,q2⟩=>thn (hu pz s2 σ H2 _ I2 q2) fun vu s3 ⟨u,H3,I3,pu,q3⟩=>?_)
 rw[evalPart_none]
 refine wpAny_pure ?_
 have I4:Inv X pz σ H3 {s3 with heap:=s3.heap.push {cls:= .type "slice",data:= .fields #[vl,vu,.none]}}:=I3.kept (t':=s3.toks) fun b ob q=>dZ _ q
 obtain⟨T,id,hT,ht,hg⟩:=hr pz {s3 with heap:=s3.heap.push {cls:= .type "slice",data:= .fields #[vl,vu,.none]}} σ H3 x v vl vu l u s3.heap.objs.size Q I4 r1 (Heap.IsSliceOf.new ..) pl pu q3
 show wpAny (model X.prog X.w) X.A (subscriptTail e (.Slice lo hi none p2) v (.ref s3.heap.objs.size)) (EP X pz σ Q) X.xe {s3 with heap:=s3.heap.push {cls:= .type "slice",data:= .fields #[vl,vu,.none]}}
 exact tail_any (ops:=[.ref s3.heap.objs.size,v]) ht hT hg (by with_unfolding_all rfl)
def uH (xs:List V) (lo hi:Option Int):List V:=(xs.drop (HT.Internal.sIx xs.length 0 lo)).take (HT.Internal.sIx xs.length xs.length hi-HT.Internal.sIx xs.length 0 lo)
theorem pJ (xs:List V) (lo hi:Option Int):(uH xs lo hi).length<=xs.length:=by
 unfold uH
 rw[aF,aS]
 lia
def rSlT (K:PySem.W.Frag):V->Option Int->Option Int->Hp->VK->Prop:=fun x lo hi H Q=>∃a xs,x= .ref a/\SqT K H a xs/\
 ¬(HT.Internal.sIx xs.length 0 lo=0/\HT.Internal.sIx xs.length xs.length hi=xs.length)/\∀p,H p=none->Q (.ref p) (upd H p (.tup (uH xs lo hi)))
theorem DG:SlR X (rSlT X.K):=by
 intro pz s σ H x v vl vu lo hi sl Q I rx hs pl pu h
 obtain⟨a,xs,rfl,hx,hw,q⟩:=h
 cases rx
 obtain⟨its,r,ht,hz⟩:=I.tuple hx
 have hlen:its.toArray.size=xs.length:=by rw[aw];exact r.length.symm
 refine⟨"tuple",_,eC.lookup,ht.typeIs,?_⟩
 refine HT.Internal.getItem_tuple_cut ht hs pl pu (by rw[hlen];exact hw) ?_ (by rw[hlen];exact hz)
 rw[hlen]
 refine⟨.ref s.heap.objs.size,_,I.laid (t':=s.toks) (o:= .tup (uH xs lo hi)) (fun b ob q=>dZ _ q) (bX _) ?_,rfl,q _ (I.hok.fresh (bX _))⟩
 exact⟨bU (pJ xs lo hi) hz,_,(r.drop (HT.Internal.sIx xs.length 0 lo)).take (HT.Internal.sIx xs.length xs.length hi-HT.Internal.sIx xs.length 0 lo),uw.new _ _⟩
theorem gG.nil_iff {xs:List V} {us:List Value} (r:gG xs us):us=[]↔xs=[]:=by
 cases r with
 |nil=>simp
 |cons _ _=>simp
end
def ixN (n:Nat) (i:Int):Option Nat:=if 0<=i then(if i<n then some i.toNat else none)else if-(n:Int)<=i then some (i+n).toNat else none
def atI {α:Type} (xs:List α) (i:Int):Option α:=(ixN xs.length i).bind fun j=>xs[j]?
theorem xU {n:Nat} {i:Int} {j:Nat} (h:ixN n i=some j):seqIndex? i n=some j/\j<n/\-(n:Int)<=i/\i<n:=by
 unfold ixN at h
 by_cases h0:0<=i
 ·rw[fY h0]at h
  by_cases h1:i<n
  ·rw[fY h1]at h
   have e:i.toNat=j:=cf.inj h
   exact⟨by rw[seqIndex_of h0 h1,e],by lia,by lia,h1⟩
  ·rw[fJ h1]at h;cases h
 ·rw[fJ h0]at h
  by_cases h1: -(n:Int)<=i
  ·rw[fY h1]at h
   have e:(i+n).toNat=j:=cf.inj h
   exact⟨by rw[seqIndex_neg (by lia) h1,e],by lia,h1,by lia⟩
  ·rw[fJ h1]at h;cases h
theorem uJ {α:Type} {xs:List α} {i:Int} {v:α} (h:atI xs i=some v):∃j,seqIndex? i xs.length=some j/\xs[j]?=some v/\j<xs.length/\-(xs.length:Int)<=i/\i<xs.length:=by
 unfold atI at h
 cases e:ixN xs.length i with
 |none=>rw[e]at h;cases h
 |some j=>
  rw[e]at h
  obtain⟨h1,h2,h3,h4⟩:=xU e
  exact⟨j,h1,h,h2,h3,h4⟩
theorem eM {α:Type} {xs:List α} {j:Nat} {v:α} (h:xs[j]?=some v):atI xs (j:Int)=some v:=by
 have hj:j<xs.length:=(ao.mp h).1
 have e:ixN xs.length (j:Int)=some j:=by
  unfold ixN
  rw[fY (by lia),fY (by lia)];simp
 unfold atI;rw[e];exact h
def BQ (b:Expr):Prop:=∀o i,subscripted b false o i=operate [o,i] (getItem o i)
def IxR (X:Cx) (r:R2):Prop:=
 ∀(value slice:Expr) (pz:List (Addr×Obj)) (s:Shared) (σ:St) (H:Hp) (x y:V) (v u:Value) (Q:VK),Inv X pz σ H s->gN x v->gN y u->r x y H Q->
  subscripted slice false v u=operate [v,u] (getItem v u)->wpAny (model X.prog X.w) X.A (subscriptTail value slice v u) (EP X pz σ Q) X.xe s
def MtR (X:Cx) (id:String) (r:V->List V->Hp->VK->Prop):Prop:=
 ∀(pz:List (Addr×Obj)) (s:Shared) (σ:St) (H:Hp) (x:V) (xs:List V) (v:Value) (us:List Value) (Q:VK),Inv X pz σ H s->gN x v->gG xs us->r x xs H Q->
  wpAny (model X.prog X.w) X.A (call (.builtin id) (v::us)) (EP X pz σ Q) X.xe s
section
variable {X:Cx} {a b:Expr} {ta tb:TE} {pos:Pos}
theorem eU {r:R2} (hr:IxR X r) (ha:PE X a ta) (hb:PE X b tb) (hs:BQ b:=by exact fun _ _=>rfl):PE X (.Subscript a b pos) (tOp r ta tb):=by
 intro pz s σ H Q I h
 exact Subscript_ (E4 ha hb I h fun v u s2 x y H2 I2 rx ry q=>hr a b pz s2 σ H2 x y v u Q I2 rx ry q (hs _ _))
def rIxL (K:PySem.W.Frag):R2:=fun x y H Q=>∃p xs i v,x= .ref p/\y= .int i/\SqL K H p xs/\atI xs i=some v/\Q v H
def rIxT (K:PySem.W.Frag):R2:=fun x y H Q=>∃p xs i v,x= .ref p/\y= .int i/\SqT K H p xs/\atI xs i=some v/\Q v H
def rIxS:R2:=fun x y H Q=>∃z i c,x= .str z/\y= .int i/\z.length<=sizeLine/\atI z.cps.toList i=some c/\Q (.str ⟨#[c]⟩) H
theorem BR:IxR X (rIxL X.K):=by
 intro value slice pz s σ H x y v u Q I rx ry h hs
 obtain⟨p,xs,i,z,rfl,rfl,hq,he,q⟩:=h
 cases rx
 obtain⟨t,rfl⟩:=ry
 obtain⟨its,r,pl,hz⟩:=I.list hq
 obtain⟨j,h1,h2,h3,h4,h5⟩:=uJ he
 obtain⟨w,ew,rw'⟩:=r.get h2
 have hl:=r.length
 have hn:=qY
 have fin:EP X pz σ Q w s:=⟨z,H,I,rw',q⟩
 by_cases h0:0<=i
 ·have hj:i.toNat=j:=by
   rw[seqIndex_of h0 h5]at h1
   exact cf.inj h1
  exact item_listR pl.isList h0 (by lia) (by rw[hj];simpa using ew) fin hs
 ·have hj:(i+(its.toArray.size:Int)).toNat=j:=by
   rw[seqIndex_neg (by lia) h4]at h1
   rw[aw,<-hl]
   exact cf.inj h1
  exact subscriptTail_builtinR (x:=w) pl.isList.typeIs slot_list_getitem.lookup
   (wpAny_getItem_list_neg (Q:=fun r s'=>r=w/\EP X pz σ Q r s') pl.isList (by lia) (by rw[aw]<;>lia) (by lia) (by rw[hj];simpa using ew) ⟨rfl,fin⟩) hs
theorem DH:IxR X (rIxT X.K):=by
 intro value slice pz s σ H x y v u Q I rx ry h hs
 obtain⟨p,xs,i,z,rfl,rfl,hq,he,q⟩:=h
 cases rx
 obtain⟨t,rfl⟩:=ry
 obtain⟨its,r,pl,hz⟩:=I.tuple hq
 obtain⟨j,h1,h2,h3,h4,h5⟩:=uJ he
 obtain⟨w,ew,rw'⟩:=r.get h2
 have hl:=r.length
 have hn:=qY
 have fin:EP X pz σ Q w s:=⟨z,H,I,rw',q⟩
 exact subscriptTail_builtinR (x:=w) pl.typeIs slot_tuple_getitem.lookup
  (getItem_tuple (j:=j) (Q:=fun r s'=>r=w/\EP X pz σ Q r s') pl (by lia) (by lia) (by rw[aw,<-hl];exact h1) (by simpa using ew) ⟨rfl,fin⟩) hs
theorem xV:IxR X rIxS:=by
 intro value slice pz s σ H x y v u Q I rx ry h hs
 obtain⟨z,i,c,rfl,rfl,hz,he,q⟩:=h
 obtain⟨t,rfl⟩:=rx
 obtain⟨t',rfl⟩:=ry
 obtain⟨j,h1,h2,h3,h4,h5⟩:=uJ he
 have hl:z.cps.toList.length=z.length:=by simp[Str.length]
 rw[hl]at h1 h4 h5
 have hn:=qY
 exact tail_any (typeIs_str s z t) slot_str_getitem.lookup (getItem_str (c:=c) (by
  have e1:decide (i< -(2^63:Int))=false:=gk (by lia)
  have e2:decide (i≥2^63)=false:=gk (by lia)
  rw[e1,e2,dN]) (by rw[h1];simpa using h2) ⟨.str ⟨#[c]⟩,H,I.tok _,⟨_,rfl⟩,q⟩) hs
theorem wB (its:List Value) (n j:Nat) (u:Value):Obj.mapSeq (·.setIfInBounds j u) {cls:= .type "list",data:= .seq its.toArray n}={cls:= .type "list",data:= .seq (its.set j u).toArray n}:=by
 simp[Obj.mapSeq]
theorem Inv.lst {pz:List (Addr×Obj)} {σ:St} {H:Hp} {s:Shared} {p:Addr} {xs:List V} (I:Inv X pz σ H s) (h:H p=some (.lst xs)):
  ∃(its:List Value) (n:Nat),gG xs its/\s.heap.get? p=some {cls:= .type "list",data:= .seq its.toArray n}/\xs.length<=sizeLine:=by
 obtain⟨z,its,n,r,e⟩:=I.hok p _ h
 exact⟨its,n,r,e,z⟩
theorem Inv.lstUpd {pz:List (Addr×Obj)} {σ:St} {H:Hp} {s:Shared} {p:Addr} {xs ys:List V} {its its':List Value} {n n':Nat} {f:Obj->Obj} (I:Inv X pz σ H s) (h:H p=some (.lst xs))
  (ho:s.heap.get? p=some {cls:= .type "list",data:= .seq its.toArray n}) (hf:f {cls:= .type "list",data:= .seq its.toArray n}={cls:= .type "list",data:= .seq its'.toArray n'}) (r:gG ys its') (hz:ys.length<=sizeLine) (t:Nat):
  Inv X pz σ (upd H p (.lst ys)) {s with heap:=s.heap.update p f,toks:=t}:=by
 have e:(s.heap.update p f).get? p=some {cls:= .type "list",data:= .seq its'.toArray n'}:=by
  rw[ee f ho (by rw[hf]<;>rfl),hf]
 refine I.write (x:=p) (e:=p) (by rw[h];trivial) (.inl rfl) (fun b u hb q=>(eg _ _ (Ne.symm hb)).trans q) ⟨_,e⟩ ?_
 exact⟨hz,its',n',r,e⟩
def DI:V->V->V->Hp->(Hp->Prop)->Prop:=fun o i v H Q=>∃p xs k j,o= .ref p/\i= .int k/\H p=some (.lst xs)/\ixN xs.length k=some j/\Q (upd H p (.lst (xs.set j v)))
theorem lN:Gy X DI:=by
 intro pz s σ H o i v ov iv u Q I ro ri rv h
 obtain⟨p,xs,k,j,rfl,rfl,hp,hj,q⟩:=h
 cases ro
 obtain⟨t,rfl⟩:=ri
 obtain⟨its,n,r,ho,hz⟩:=I.lst hp
 obtain⟨h1,h2,h3,h4⟩:=xU hj
 have hl:=r.length
 have hn:=qY
 have I':Inv X pz σ (upd H p (.lst (xs.set j v))) {s with heap:=s.heap.update p (Obj.mapSeq (·.setIfInBounds j u))}:=
  I.lstUpd hp ho (wB its n j u) (r.set rv j) (by rw[List.length_set];exact hz) s.toks
 by_cases h0:0<=k
 ·have hk:k.toNat=j:=by
   rw[seqIndex_of h0 h4]at h1
   exact cf.inj h1
  exact PySem.W.ki_setAt ho h0 (by lia) (by rw[aw,<-hl];exact h4) (by rw[hk];exact⟨_,I',q⟩)
 ·have hk:(k+(its.toArray.size:Int)).toNat=j:=by
   rw[seqIndex_neg (by lia) h3]at h1
   rw[aw,<-hl]
   exact cf.inj h1
  exact PySem.W.ki_setBack ho (by lia) (by rw[aw,<-hl];exact h3) (by lia) (by rw[hk];exact⟨_,I',q⟩)
theorem tF (lo hi:Option Int) (n:Nat):(sliceBounds lo hi none n).1=((HT.Internal.sIx n 0 lo:Nat):Int)/\(sliceBounds lo hi none n).2.1=((HT.Internal.sIx n n hi:Nat):Int)/\(sliceBounds lo hi none n).2.2=1:=by
 refine⟨?_,?_,rfl⟩
 ·cases lo with
  |none=>simp[sliceBounds,HT.Internal.sIx]
  |some i=>
   simp only[sliceBounds,HT.Internal.sIx,Option.getD_none,show(1:Int)>0 by decide,if_true]
   by_cases h:i<0
   ·simp only[h,if_true]<;>lia
   ·simp only[h,if_false]<;>lia
 ·cases hi with
  |none=>simp[sliceBounds,HT.Internal.sIx]
  |some i=>
   simp only[sliceBounds,HT.Internal.sIx,Option.getD_none,show(1:Int)>0 by decide,if_true]
   by_cases h:i<0
   ·simp only[h,if_true]<;>lia
   ·simp only[h,if_false]<;>lia
theorem rQ (its:List Value) (lo hi:Option Int):slicePick its.toArray lo hi none=((its.drop (HT.Internal.sIx its.length 0 lo)).take (HT.Internal.sIx its.length its.length hi-HT.Internal.sIx its.length 0 lo)).toArray:=by
 obtain⟨h1,h2,h3⟩:=tF lo hi its.toArray.size
 unfold slicePick
 rw[h1,h2,h3]
 simp only[sliceRange_one,pick_run,aw]<;>rfl
def rSlL (K:PySem.W.Frag):V->Option Int->Option Int->Hp->VK->Prop:=fun x lo hi H Q=>∃a xs,x= .ref a/\SqL K H a xs/\∀p,H p=none->Q (.ref p) (upd H p (.lst (uH xs lo hi)))
theorem uL:SlR X (rSlL X.K):=by
 intro pz s σ H x v vl vu lo hi sl Q I rx hs pl pu h
 obtain⟨a,xs,rfl,hx,q⟩:=h
 cases rx
 obtain⟨its,r,ht,hz⟩:=I.list hx
 have hlen:=r.length
 refine⟨"list",_,slot_list_getitem.lookup,ht.isList.typeIs,?_⟩
 refine wpAny_getItem_list_slice ht.isList hs pl pu .none (by simp) ?_ (by rw[aw]<;>lia)
 rw[rQ,<-hlen]
 refine⟨.ref s.heap.objs.size,_,I.laid (t':=s.toks) (o:= .lst (uH xs lo hi)) (fun b ob q=>dZ _ q) (bX _) ?_,rfl,q _ (I.hok.fresh (bX _))⟩
 exact⟨bU (pJ xs lo hi) hz,_,0,(r.drop (HT.Internal.sIx xs.length 0 lo)).take (HT.Internal.sIx xs.length xs.length hi-HT.Internal.sIx xs.length 0 lo),dY _ rfl⟩
def oR:V->Bool
 | .non=>true
 | .bl _=>true
 | .int _=>true
 | .str _=>true
 |_=>false
def eqV:V->V->Bool
 | .non,.non=>true
 | .bl a,.bl b=>a==b
 | .bl a,.int b=>(if a then 1 else 0)==b
 | .int a,.bl b=>a==(if b then 1 else 0)
 | .int a,.int b=>a==b
 | .str a,.str b=>a==b
 |_,_=>false
theorem xW {A:Around} {s:Shared} {y x:V} {u v:Value} (ry:gN y u) (rx:gN x v) (fy:oR y=true) (fx:oR x=true):SeqAt.EqAt A s u v (eqV y x):=by
 cases y with
 |non=>
  cases ry
  cases x with
  |non=>cases rx;exact SeqAt.EqAt.same _
  |bl b=>cases rx;exact SeqAt.EqAt.none_bool b
  |int b=>obtain⟨t,rfl⟩:=rx;exact SeqAt.EqAt.none_int b t
  |str b=>obtain⟨t,rfl⟩:=rx;exact SeqAt.EqAt.none_str b t
  |_=>exact absurd (show false=true from fx) dJ
 |bl a=>
  cases ry
  cases x with
  |non=>cases rx;exact SeqAt.EqAt.bool_none a
  |bl b=>cases rx;exact SeqAt.EqAt.bool_bool a b
  |int b=>obtain⟨t,rfl⟩:=rx;exact SeqAt.EqAt.bool_int a b t
  |str b=>obtain⟨t,rfl⟩:=rx;exact SeqAt.EqAt.bool_str a b t
  |_=>exact absurd (show false=true from fx) dJ
 |int a=>
  obtain⟨t',rfl⟩:=ry
  cases x with
  |non=>cases rx;exact SeqAt.EqAt.int_none a t'
  |bl b=>cases rx;exact SeqAt.EqAt.int_bool a t' b
  |int b=>obtain⟨t,rfl⟩:=rx;exact SeqAt.EqAt.int_int a t' b t
  |str b=>obtain⟨t,rfl⟩:=rx;exact SeqAt.EqAt.int_str a t' b t
  |_=>exact absurd (show false=true from fx) dJ
 |str a=>
  obtain⟨t',rfl⟩:=ry
  cases x with
  |non=>cases rx;exact SeqAt.EqAt.str_none a t'
  |bl b=>cases rx;exact SeqAt.EqAt.str_bool a t' b
  |int b=>obtain⟨t,rfl⟩:=rx;exact SeqAt.EqAt.str_int a t' b t
  |str b=>obtain⟨t,rfl⟩:=rx;exact SeqAt.EqAt.str_str a t' b t
  |_=>exact absurd (show false=true from fx) dJ
 |_=>exact absurd (show false=true from fy) dJ
def eqU (x:V) (u:Value):Bool:=match u with
 | .none=>eqV .non x
 | .bool b=>eqV (.bl b) x
 | .int i _=>eqV (.int i) x
 | .str z _=>eqV (.str z) x
 |_=>false
theorem AM {x y:V} {u:Value} (r:gN y u) (f:oR y=true):eqU x u=eqV y x:=by
 cases y with
 |non=>cases r;rfl
 |bl b=>cases r;rfl
 |int i=>obtain⟨t,rfl⟩:=r;rfl
 |str z=>obtain⟨t,rfl⟩:=r;rfl
 |_=>exact absurd (show false=true from f) dJ
theorem uM {x:V}:∀{xs:List V} {us:List Value},gG xs us->xs.all oR=true->us.any (eqU x)=xs.any fun y=>eqV y x
 |_,_,.nil,_=>rfl
 |y::xs,u::us,.cons r t,f=>by
  rw[aT,dM]at f
  rw[aP,aP,AM r f.1,uM t f.2]
theorem rR {A:Around} {s:Shared} {x:V} {v:Value} (rx:gN x v) (fx:oR x=true):∀{xs:List V} {us:List Value},gG xs us->xs.all oR=true->∀u∈us,SeqAt.EqAt A s u v (eqU x u)
 |_,_,.nil,_=>fun u hu=>by cases hu
 |y::xs,u::us,.cons r t,f=>fun u' hu=>by
  rw[aT,dM]at f
  rcases ai.mp hu with rfl|hu
  ·rw[AM r f.1];exact xW r rx f.1 fx
  ·exact rR rx fx t f.2 u' hu
def inV (x:V) (xs:List V):Bool:=xs.any fun y=>eqV y x
def rIn (K:PySem.W.Frag) (neg:Bool):R2:=fun x y H Q=>∃p xs,y= .ref p/\(SqL K H p xs\/SqT K H p xs)/\oR x=true/\xs.all oR=true/\Q (.bl (if neg then !inV x xs else inV x xs)) H
theorem m8:OpR X (compareOp .In) (rIn X.K false):=by
 intro pz s σ H x y v u Q I rx ry h
 obtain⟨p,xs,rfl,hq,fx,fs,q⟩:=h
 cases ry
 rcases hq with hq|hq
 ·obtain⟨its,r,pl,hz⟩:=I.list hq
  refine SeqAt.in_listAt (eqU x) pl.isList (fun w hw=>rR rx fx r fs w (by simpa using hw)) ⟨.bl _,H,I,rfl,?_⟩
  rw[show its.toArray.any (eqU x)=its.any (eqU x) by simp,uM r fs]
  exact q
 ·obtain⟨its,r,pl,hz⟩:=I.tuple hq
  refine SeqAt.in_tupleAt (eqU x) pl (fun w hw=>rR rx fx r fs w (by simpa using hw)) ⟨.bl _,H,I,rfl,?_⟩
  rw[show its.toArray.any (eqU x)=its.any (eqU x) by simp,uM r fs]
  exact q
theorem fz:m7 X (.builtin "len") (fun xs H Q=>∃p ys,xs=[.ref p]/\(SqL X.K H p ys\/SqT X.K H p ys)/\Q (.int ys.length) H):=by
 intro pz s σ H xs us Q I r h
 obtain⟨p,ys,rfl,hq,q⟩:=h
 obtain⟨u,rfl,rx⟩:=oP r
 cases rx
 have hn:=qY
 rcases hq with hq|hq
 ·obtain⟨its,r',pl,hz⟩:=I.list hq
  have hlen:=r'.length
  exact Calls.call_len_list pl.isList (by simp only[aw]<;>lia) ⟨.int ys.length,H,I.tok _,⟨s.toks+ 1,by rw[aw,hlen]⟩,q⟩
 ·obtain⟨its,r',pl,hz⟩:=I.tuple hq
  have hlen:=r'.length
  exact len_tuple pl (by simp only[aw]<;>lia) ⟨.int ys.length,H,I.tok _,⟨s.toks+ 1,by rw[aw,hlen]⟩,q⟩
theorem iA:m7 X (.type "list") (fun xs H Q=>∃p ys,xs=[.ref p]/\(SqL X.K H p ys\/SqT X.K H p ys)/\∀l,H l=none->Q (.ref l) (upd H l (.lst ys))):=by
 intro pz s σ H xs us Q I r h
 obtain⟨p,ys,rfl,hq,q⟩:=h
 obtain⟨u,rfl,rx⟩:=oP r
 cases rx
 have fin:∀(its:List Value),gG ys its->ys.length<=sizeLine->∀(h':Heap) (c':Nat),(∀b o',s.heap.get? b=some o'->h'.get? b=some o')->
   h'.get? s.heap.objs.size=some {cls:= .type "list",dict:=none,data:= .seq its.toArray c',slots:=#[]}->EP X pz σ Q (.ref s.heap.objs.size) {s with heap:=h'}:=fun its r' hz h' c' kp e=>
  ⟨.ref s.heap.objs.size,_,I.laid (t':=s.toks) kp (bX _) (show hG X.prog X.w _ h' _ (.lst ys)from⟨hz,its,c',r',e⟩),rfl,q _ (I.hok.fresh (bX _))⟩
 rcases hq with hq|hq
 ·obtain⟨its,r',pl,hz⟩:=I.list hq
  have hlen:=r'.length
  obtain⟨o,ho,hc,n,hd⟩:=pl.isList
  exact call_list_seq p (.inl rfl) ho hc hd (fun h' c' kp e=>fin its r' hz h' c' kp e) (by simp only[aw]<;>lia)
 ·obtain⟨its,r',pl,hz⟩:=I.tuple hq
  have hlen:=r'.length
  obtain⟨o,ho,hc,n,hd⟩:=pl
  exact call_list_seq p (.inr rfl) ho hc hd (fun h' c' kp e=>fin its r' hz h' c' kp e) (by simp only[aw]<;>lia)
theorem f9:m7 X (.type "tuple") (fun xs H Q=>∃p ys,xs=[.ref p]/\((SqL X.K H p ys/\∀l,H l=none->Q (.ref l) (upd H l (.tup ys)))\/(SqT X.K H p ys/\Q (.ref p) H))):=by
 intro pz s σ H xs us Q I r h
 obtain⟨p,ys,rfl,h⟩:=h
 obtain⟨u,rfl,rx⟩:=oP r
 cases rx
 rcases h with⟨hq,q⟩|⟨hq,q⟩
 ·obtain⟨its,r',pl,hz⟩:=I.list hq
  have hlen:=r'.length
  refine call_tuple_list pl.isList (fun h' kp=>?_) (by simp only[aw]<;>lia)
  have I1:Inv X pz σ H {s with heap:=h'}:=I.kept (t':=s.toks) kp
  have I2:Inv X pz σ (upd H h'.objs.size (.tup ys)) {s with heap:=h'.push {cls:= .type "tuple",data:= .seq its.toArray}}:=
   I1.laid (t':=s.toks) (fun b o e=>dZ _ e) (bX _) (show hG X.prog X.w _ _ _ (.tup ys)from⟨hz,its,r',uw.new _ _⟩)
  exact⟨.ref h'.objs.size,_,I2,rfl,q _ (I1.hok.fresh (bX _))⟩
 ·obtain⟨its,r',pl,hz⟩:=I.tuple hq
  exact call_tuple_same pl ⟨.ref p,H,I,rfl,q⟩
def tyV (K:PySem.W.Frag) (T:String) (x:V) (H:Hp):Prop:=match x with
 | .str _=>T="str"
 | .int _=>T="int"
 | .ref p=>(T="list"/\∃xs,SqL K H p xs)\/(T="tuple"/\∃o,K.lookup p=some o/\o.cls= .type "tuple"/\o.dict=none)\/
   (T="dict"/\((∃kvs,H p=some (.dK kvs))\/∃kvs,H p=some (.dT kvs)))\/(T="set"/\∃S n,H p=some (.set S n))
 |_=>False
theorem AN {pz:List (Addr×Obj)} {σ:St} {H:Hp} {s:Shared} {T:String} {x:V} {v:Value} (I:Inv X pz σ H s) (r:gN x v) (ty:tyV X.K T x H):
  s.TypeIs v T/\∀a,v= .ref a->∃ob,s.heap.get? a=some ob/\ob.dict=none:=by
 cases x with
 |str z=>
  obtain⟨t,rfl⟩:=r
  cases(show T="str" from ty)
  exact⟨typeIs_str s z t,fun _ e=>nomatch e⟩
 |int i=>
  obtain⟨t,rfl⟩:=r
  cases(show T="int" from ty)
  exact⟨typeIs_int s i t,fun _ e=>nomatch e⟩
 |ref p=>
  cases r
  rcases ty with⟨rfl,xs,hq⟩|⟨rfl,o,hk,hc,hd⟩|⟨rfl,hk⟩|⟨rfl,S,n,hk⟩
  ·obtain⟨its,_,pl,_⟩:=I.list hq
   refine⟨pl.isList.typeIs,fun a e=>?_⟩
   cases e
   obtain⟨o,n,e,c,hd,_⟩:=pl
   exact⟨o,e,hd⟩
  ·refine⟨⟨o,I.kIn p o hk,hc⟩,fun a e=>?_⟩
   cases e
   exact⟨o,I.kIn _ o hk,hd⟩
  ·have z:∃o,s.heap.get? p=some o/\o.ExactDict:=by
    rcases hk with⟨kvs,hk⟩|⟨kvs,hk⟩
    ·obtain⟨_,_,_,_,o,_,_,e,ex,_⟩:=I.hok p _ hk
     exact⟨o,e,ex⟩
    ·obtain⟨_,_,_,_,o,_,_,e,ex,_⟩:=I.hok p _ hk
     exact⟨o,e,ex⟩
   obtain⟨o,e,ex⟩:=z
   refine⟨⟨o,e,ex.1⟩,fun a e2=>?_⟩
   cases e2
   exact⟨o,e,ex.2.1⟩
  ·obtain⟨o,_,_,_,e,ex,_⟩:=I.hok p _ hk
   refine⟨⟨o,e,ex.1⟩,fun a e2=>?_⟩
   cases e2
   exact⟨o,e,ex.2.1⟩
 |_=>exact False.elim ty
def tBM0 (K:PySem.W.Frag) (T:String) (r:V->List V->Hp->VK->Prop) (to:TE):TE:=fun σ H Q=>to σ H fun x H1=>tyV K T x H1/\r x [] H1 Q
def tBM (K:PySem.W.Frag) (T:String) (r:V->List V->Hp->VK->Prop) (to:TE) (t:TA):TE:=fun σ H Q=>to σ H fun x H1=>tyV K T x H1/\t σ H1 fun xs H2=>r x xs H2 Q
variable {o e:Expr} {es:List Expr} {to:TE} {t:TA} {name:Str} {apos cpos:Pos} {T id:String} {r:V->List V->Hp->VK->Prop}
theorem AO (pa:PlainAttrs T) (slot:Slot T name id) (hty:typeOf (.builtin id)=pure (.type "method_descriptor")) (hm:MtR X id r) (ho:PE X o to)
  (hbase:autoParam (attributeBase o name X.env (eval o X.env)=eval o X.env) L2.Internal.auR._auto_1) (hline:autoParam ((apos.endLine==cpos.line)=true) L2.Internal.auR._auto_1):PE X (.Call (.Attribute o name apos) [] [] cpos) (tBM0 X.K T r to):=by
 intro pz s σ H Q I h
 refine wpAny_Call_method0_late hbase hline (thn (ho pz s σ H _ I h) fun v s1 ⟨x,H1,I1,r1,ty,q1⟩=>?_)
 obtain⟨h1,h2⟩:=AN I1 r1 ty
 exact⟨T,id,pa,slot,hty,h1,h2,Calls.callWith_builtin rfl (PySem.evalArgs_none (hm pz s1 σ H1 x [] v [] Q I1 r1 .nil q1))⟩
theorem gu (pa:PlainAttrs T) (slot:Slot T name id) (hty:typeOf (.builtin id)=pure (.type "method_descriptor")) (hm:MtR X id r) (ho:PE X o to) (ha:PA X (e::es) t)
  (hbase:autoParam (attributeBase o name X.env (eval o X.env)=eval o X.env) L2.Internal.auR._auto_1)
  (hfew:((backTo cpos (starEach (e::es) X.env)).all (fun x=>!x.1)&&(backToKw cpos (keywordEach [] X.env)).all (fun x=>x.1.isSome)
   &&decide ((e::es).length+([]:List Keyword).length+(if([]:List Keyword).isEmpty then 0 else 1)<30))=true:=by rfl)
  (hline:autoParam ((apos.endLine==cpos.line)=true) L2.Internal.auR._auto_1) (hs:autoParam (starEach (e::es) X.env=(false,eval e X.env)::starEach es X.env) L2.Internal.auR._auto_1) (hplain:autoParam ((backTo cpos (starEach es X.env)).any (·.1)=false) L2.Internal.auR._auto_1):
  PE X (.Call (.Attribute o name apos) (e::es) [] cpos) (tBM X.K T r to t):=by
 intro pz s σ H Q I h
 refine wpAny_Call_method_late hbase hfew hline rfl (thn (ho pz s σ H _ I h) fun v s1 ⟨x,H1,I1,r1,ty,q1⟩=>?_)
 obtain⟨h1,h2⟩:=AN I1 r1 ty
 refine⟨T,id,pa,slot,hty,h1,h2,?_⟩
 have hA:=ha cpos pz s1 σ H1 _ I1 q1
 rw[hs]at hA⊢
 refine Calls.callWith_builtin (by show(false||(backTo cpos (starEach es X.env)).any (·.1))=false;rw[hplain]<;>rfl) (Calls.evalArgs_plain ?_)
 exact thn hA fun us s2 ⟨vs,H2,I2,r2,q2⟩=>hm pz s2 σ H2 x vs v us Q I2 r1 r2 q2
end
def MtM (X:Cx) (id:String) (r:V->List V->Hp->VK->Prop):Prop:=
 ∀(pz:List (Addr×Obj)) (s:Shared) (σ:St) (H:Hp) (x:V) (xs:List V) (v:Value) (us:List Value) (Q:VK),Inv X pz σ H s->gN x v->gG xs us->r x xs H Q->
  wpAny (model X.prog X.w) X.A (call (.builtin id) (v::us)) (EP X pz σ Q) X.xe s
theorem gG.one:∀{x:V} {us:List Value},gG [x] us->∃u,us=[u]/\gN x u
 |_,_,.cons r .nil=>⟨_,rfl,r⟩
theorem gG.zero:∀{us:List Value},gG [] us->us=[]
 |_,.nil=>rfl
theorem gG.dropLast {xs:List V} {us:List Value} (h:gG xs us):gG xs.dropLast us.dropLast:=by
 induction h with
 |nil=>exact .nil
 |cons r t ih=>
  cases t with
  |nil=>exact .nil
  |cons q t'=>exact .cons r ih
theorem wC {α:Type} (l:List α):l.eraseIdx (l.length-1)=l.dropLast:=by
 induction l with
 |nil=>rfl
 |cons a r ih=>
  cases r with
  |nil=>rfl
  |cons b r=>
   have e:(a::b::r).length-1=((b::r).length-1)+ 1:=by
    have h1:(a::b::r).length=r.length+ 2:=rfl
    have h2:(b::r).length=r.length+ 1:=rfl
    lia
   rw[e,List.eraseIdx_cons_succ,ih]
   all_goals rfl
section
variable {X:Cx} {pz:List (Addr×Obj)} {σ:St} {H:Hp} {s:Shared} {l b:Addr} {xs ys zs:List V}
theorem Inv.lset {its its':List Value} {n:Nat} {f:Array Value->Array Value} {t':Nat} (I:Inv X pz σ H s) (hH:H l=some (.lst xs))
  (e:s.heap.get? l=some {cls:= .type "list",data:= .seq its.toArray n}) (hf:f its.toArray=its'.toArray) (hv:gG ys its') (hz:ys.length<=sizeLine):
  Inv X pz σ (upd H l (.lst ys)) {s with heap:=s.heap.update l (Obj.mapSeq f),toks:=t'}:=by
 have q:=PySem.IsL.update e f
 rw[hf]at q
 refine I.write (x:=l) (e:=l) (by rw[hH];exact trivial) (.inl rfl) (fun b' u hb hu=>(eg s.heap (Obj.mapSeq f) (Ne.symm hb)).trans hu) ⟨_,q⟩ ?_
 exact⟨hz,its',_,hv,q⟩
theorem Inv.lnew {its:List Value} {t':Nat} (I:Inv X pz σ H s) (hv:gG ys its) (hz:ys.length<=sizeLine):
  Inv X pz σ (upd H s.heap.objs.size (.lst ys)) {s with heap:=s.heap.push {cls:= .type "list",data:= .seq its.toArray},toks:=t'}:=
 I.laid (fun _ _ q=>dZ _ q) (bX _) ⟨hz,its,0,hv,dY _ rfl⟩
theorem Inv.fresh (I:Inv X pz σ H s):H s.heap.objs.size=none:=I.hok.fresh (bX _)
theorem Inv.lstM (I:Inv X pz σ H s) (hH:H l=some (.lst xs)):xs.length<=sizeLine/\∃(its:List Value) (n:Nat),gG xs its/\xs.length=its.length/\s.heap.get? l=some {cls:= .type "list",data:= .seq its.toArray n}:=by
 obtain⟨z,its,n,r,e⟩:=I.hok l _ hH
 exact⟨z,its,n,r,r.length,e⟩
end
section
variable {X:Cx}
def xX:V->List V->Hp->VK->Prop:=fun x vs H Q=>∃l xs y,x= .ref l/\vs=[y]/\H l=some (.lst xs)/\xs.length<sizeLine/\Q .non (upd H l (.lst (xs++[y])))
theorem fh:MtM X "list.append" xX:=by
 intro pz s σ H x vs v us Q I rx rv h
 obtain⟨l,xs,y,rfl,rfl,hH,hz,q⟩:=h
 cases rx
 obtain⟨u,rfl,ru⟩:=rv.one
 obtain⟨z,its,n,r,hl,e⟩:=I.lstM hH
 refine call_meets F.slot_list_append ⟨_,e,rfl⟩ F.entry_list_append (F.args_list_append_2 _ _) (PySem.list_append l its.toArray n u (by rw[aw];lia)) ⟨e,?_⟩
 refine⟨.non,_,I.lset (its':=its++[u]) hH e (by simp) (r.append (.cons ru .nil)) ?_,rfl,q⟩
 rw[aM,aU]
 lia
def rPop:V->List V->Hp->VK->Prop:=fun x vs H Q=>∃l xs y,x= .ref l/\vs=[]/\H l=some (.lst xs)/\xs[xs.length-1]?=some y/\Q y (upd H l (.lst xs.dropLast))
theorem AQ:MtM X "list.pop" rPop:=by
 intro pz s σ H x vs v us Q I rx rv h
 obtain⟨l,xs,y,rfl,rfl,hH,hy,q⟩:=h
 cases rx
 have hus:=rv.zero
 subst hus
 obtain⟨z,its,n,r,hl,e⟩:=I.lstM hH
 obtain⟨u,hu,ru⟩:=r.get hy
 have hy':its.toArray[its.toArray.size-1]?=some u:=by
  show its.toArray[its.length-1]?=some u
  rw[<-Array.getElem?_toList,<-hl]
  exact hu
 refine call_meets F.slot_list_pop ⟨_,e,rfl⟩ F.entry_list_pop (F.args_list_pop_1 _) (MeetsSeq.list_pop_last l its.toArray n u hy' (by rw[aw];lia)) ⟨e,?_⟩
 refine⟨y,_,I.lset (its':=its.dropLast) hH e ?_ r.dropLast ?_,ru,q⟩
 ·show its.toArray.eraseIdxIfInBounds (its.toArray.size-1)=its.dropLast.toArray
  rw[aw,List.eraseIdxIfInBounds_toArray,wC]
 ·rw[aV]
  lia
def rCat:R2:=fun x y H Q=>∃l b xs zs,x= .ref l/\y= .ref b/\H l=some (.lst xs)/\H b=some (.lst zs)/\xs.length+zs.length<=sizeLine/\∀p,H p=none->Q (.ref p) (upd H p (.lst (xs++zs)))
theorem rh:OpR X (binaryOp .Add) rCat:=by
 intro pz s σ H x y v u Q I rx ry h
 obtain⟨l,b,xs,zs,rfl,rfl,hH,hB,hz,q⟩:=h
 cases rx
 cases ry
 obtain⟨z,its,n,r,hl,e⟩:=I.lstM hH
 obtain⟨z2,its2,n2,r2,hl2,e2⟩:=I.lstM hB
 refine PySem.P.add_list e e2 ?_ (by rw[aw,aw];lia)
 have ea:its.toArray++its2.toArray=(its++its2).toArray:=by simp
 rw[ea]
 exact⟨.ref _,_,I.lnew (t':=s.toks) (r.append r2) (by rw[aM];lia),rfl,q _ I.fresh⟩
end
section
variable {prog:Program} {w:World} {A:Around} {E:Value->Shared->Prop} {s:Shared}
set_option maxRecDepth 100000 in
end
section
variable {X:Cx}
end
end L2.Internal
namespace Att.Internal
open PySem PySem.W PySem.Calls PyProof.Rows
theorem pK {P:Params} {h:Heap}:∀(ns:List Int) (vs:List Value),WellAll P h vs (ns.map WData.int)->IntsAre vs ns:=by
 intro ns
 induction ns with
 |nil=>
  intro vs w
  rw[aR]at w
  cases w
  exact .nil
 |cons n ns ih=>
  intro vs w
  rw[az]at w
  cases w with
  |cons a b=>
   cases a
   exact .cons _ _ (ih _ b)
theorem xY {l:OpenLaw} {n:Nat} (hn:l.most=some n) {P:Params} {h:Heap} {args:List WData} {vals:List Value}
  (hpre:l.row.toRowW.claim.pre args=true) (hwl:WellAll P h vals args):
  ∃a vs ns,vals=[Value.ref a]/\args=[WData.list (ns.map WData.int)]/\h.get? a=some {cls:= .type "list",data:= .seq vs.toArray}/\IntsAre vs ns/\ns.length<=n:=by
 have hsh:WShape.hasAll [] args [.list .int]=true:=(pre_splitW hpre).1
 have hc:l.pre.holds [] {args:=args}=true:=(pre_splitW hpre).2
 obtain⟨d,r,rfl,h1,h2⟩:=hasAllW_cons hsh
 obtain rfl:=hasAllW_nil h2
 obtain⟨xs,rfl,h3⟩:=hasW_list h1
 obtain⟨ns,rfl⟩:=items_int h3
 have hlen:ns.length<=n:=by
  unfold OpenLaw.pre at hc
  have h4:(WTm.not (.lt (.lit (.int (n:Int))) (.len (.arg 0)))).holds [] {args:=[.list (ns.map .int)]}=true:=by
   have h4:=(holds_andW hc).1
   rw[hn]at h4
   exact h4
  have h5:=condW_of h4 (w_not (w_lt w_lit (w_len_list (w_arg rfl))))
  rw[aA]at h5
  refine Nat.le_of_not_lt fun q=>?_
  have q':(n:Int)<((ns.length:Nat):Int):=by lia
  first
   |(rw[gM q']at h5;exact absurd h5 (by decide))
   |(simp at h5;lia)
 cases hwl with
 |cons w1 w2=>
  cases w2
  cases w1 with
  |list ho hall=>exact⟨_,_,ns,rfl,rfl,ho,pK ns _ hall,hlen⟩
theorem xZ (l:OpenLaw) (args:List WData):l.row.toRowW.claim.post args (.bool true) args=true:=
 postW_of (r:=l.row.toRowW) (X:=(true==true))
  (show WShape.has [] (.bool true) .bool=true by first|rfl|decide|simp[WShape.has,WShape.arms,WShape.armsAll])
  (show(WTm.eq .res (.lit (.bool true))).value [] {args:=args,res:=some (.bool true),after:=args}=some (.bool (true==true))from w_eq_bool (w_res rfl) w_lit) rfl
theorem attach_call {l:OpenLaw} {n:Nat} {q:Program} {loose:List Str} {XP:(Str->Option Value)->Heap->Prop} {YP:World->Heap->Prop} {d:DefRec}
  (hn:l.most=some n) (hdf:d.params.defaults=[])
  (call:∀(w:World) (s₀ s₁:Shared) (mg mb:Str->Option Value) (fa:Addr) (o:Obj) (pm cd doc:Value) (a:Addr) (vs:List Value) (ns:List Int),
   Ground q loose [] XP w s₀ mg mb s₁.heap->YP w s₁.heap->
   s₁.heap.get? fa=some o->o.data= .func (docDef d.name d.params d.body d.scope pm cd doc)->s₁.heap.CodeRec cd d.name->mg d.name=some (.ref fa)->
   s₁.heap.get? a=some {cls:= .type "list",data:= .seq vs.toArray}->IntsAre vs ns->ns.length<=n->s₁.gens=#[]->
   codeAny (model l.prog w) callerA (.call (.ref fa) ⟨[.ref a],[]⟩) (fun r s'=>r= .ok (.ret (.bool true))/\OldK s₁.heap s'.heap/\s'.os=s₁.os/\AllBare s'.gens) s₁):
  WalkO q loose XP YP l.row.toRowW d [] (fun f vs=>PySem.call f vs):=by
 intro w s₀ s₁ mg mb G Y fa o pm cd doc dV kV ho hd hcd hD hmg hg args vals as hpre hlay hrd hwl hlo
 obtain rfl:dV= .none:=Dflts.none hD hdf
 obtain rfl:kV= .none:=Dflts.noKw hD
 obtain⟨a,vs,ns,rfl,rfl,hobj,hints,hlen⟩:=xY hn hpre hwl
 refine enter_call (codeAny_mono (call w s₀ s₁ mg mb fa o pm cd doc a vs ns G Y ho (fd_plain hd) hcd hmg hobj hints hlen hg) fun r s' hq=>?_)
 obtain⟨rfl,h2,h3,h4⟩:=hq
 exact⟨.inl ⟨.bool true,.bool true,[],rfl,fun _=>rfl,.bool true,xZ l _,fun _=>⟨List.Pairwise.nil,fun _ hm=>(nomatch hm)⟩⟩,h2,h3,h4⟩
section
variable {prog:Program} {w:World} {A:Around} {E:Value->Shared->Prop} {s:Shared} {K:Frag}
end
end Att.Internal
namespace L2.Internal
open PySem PySem.Spec PyProof.Rows
theorem tG:∀{vs:List Value} {ns:List Int},IntsAre vs ns->gG (ns.map V.int) vs
 |_,_,.nil=> .nil
 |_,_,.cons n t h=> .cons ⟨t,rfl⟩ (tG h)
def Fj (H:Hp):Prop:=∀b,H b=none\/∃o xs,H b=some (.frz o (.lst xs))
theorem zR {P:Program} {w:World} {K:PySem.W.Frag} {mg mb:Str->Option Value} {CX:CXT} {k:Nat} {fa a:Addr} {fd:FuncData} {x:Str} {sp:Sp} {s₁:Shared} {vs:List Value} {ns:List Int}
  (KX:K.In s₁.heap) (hns:s₁.heap.Ns mainGlobals mg) (hb:s₁.heap.Ns builtinsNs mb) (hbb:∀x:Str,x≠"__name__"->mb x=bootBuiltins x) (hlim:s₁.heap.NoLimit) (hg:s₁.gens=#[])
  (ha:s₁.heap.get? a=some {cls:= .type "list",data:= .seq vs.toArray}) (hi:IntsAre vs ns) (hl:ns.length<=sizeLine) (hr:kQ k callerA)
  (F:∀base:Heap,K.In base->base.Ns mainGlobals mg->qA P w K mg base CX k fa fd [x] sp) (hbind:∀(s:Shared) (u:Value),BindsTo s fd ⟨[u],[]⟩ [(x,u)])
  (hsp:∀H:Hp,Fj H->SqL K H a (ns.map V.int)->sp [.ref a] H (fun v _=>v= .bl true) fun _ _ _=>False)
  (hCX:∀H e s',CX [] H s₁ (fun _ _ _=>False) e s'->False):
  codeAny (model P w) callerA (.call (.ref fa) ⟨[.ref a],[]⟩) (fun r s'=>r= .ok (.ret (.bool true))/\OldK s₁.heap s'.heap/\s'.os=s₁.os/\AllBare s'.gens) s₁:=by
 have rv:=tG hi
 have lenV:=hi.length
 have core:∀H:Hp,Fj H->SqL K H a (ns.map V.int)->HOk P w H s₁.heap->(∀b,H b≠none->b=a)->(H a≠none->K.lookup a=none)->
   codeAny (model P w) callerA (.call (.ref fa) ⟨[.ref a],[]⟩) (fun r s'=>r= .ok (.ret (.bool true))/\OldK s₁.heap s'.heap/\s'.os=s₁.os/\AllBare s'.gens) s₁:=by
  intro H hO hS hok hA hK
  have base_of:∀{b:Addr} {o:Obj},s₁.heap.get? b=some o->H b=none->(zG s₁.heap H).get? b=some o:=fun e n=>zH e n
  have noA:∀{b:Addr} {o:Obj} {es:Array DictEntry} {ep:Nat},s₁.heap.get? b=some o->o.data= .dict es ep->H b=none:=fun{b o es ep} e d=>by
   cases q:H b with
   |none=>rfl
   |some u=>
    have e':b=a:=hA b (by rw[q];simp)
    subst e'
    rw[ha]at e;cases e
    have d':Data.seq vs.toArray _=Data.dict es ep:=d
    cases d'
  have nsK:∀{b:Addr} {m:Str->Option Value},s₁.heap.Ns b m->(zG s₁.heap H).Ns b m:=fun{b m} ⟨o,es,ep,e,d,r⟩=>⟨o,es,ep,base_of e (noA e d),d,r⟩
  have hKb:K.In (zG s₁.heap H):=fun b o e=>base_of (KX b o e) (by
   cases q:H b with
   |none=>rfl
   |some u=>
    have e':b=a:=hA b (by rw[q];simp)
    subst e'
    rw[hK (by rw[q];simp)]at e;cases e)
  have hM:Mod K mg (zG s₁.heap H):=⟨hKb,nsK hns,⟨mb,nsK hb,hbb⟩,let⟨mc,h1,h2⟩:=hlim;⟨mc,nsK h1,h2⟩⟩
  have e0:BK P w K mg (zG s₁.heap H) callerA [] s₁ H:=⟨rfl,hM,fun b o e=>BC e,Nat.le_of_eq (xp _ _),trivial,fun b hb=>absurd (show b∈([]:List Addr)from hb) (by simp),hok,.of_eq hg⟩
  refine codeAny_mono ((F _ hKb (nsK hns)).run callerA [] s₁ H ⟨[.ref a],[]⟩ [.ref a] [.ref a] _ _ hr e0 (hbind s₁ (.ref a)) (.cons rfl .nil) (hsp H hO hS)) fun r s' h=>?_
  cases r with
  |error e=>exact(hCX H e s' h).elim
  |ok fl=>
   cases fl with
   |next=>exact False.elim h
   |brk=>exact False.elim h
   |cont=>exact False.elim h
   |ret u=>
    obtain⟨v,H',os,bare,un,hok',r',q⟩:=h
    have q':v= .bl true:=q
    subst q'
    obtain rfl:u=Value.bool true:=r'
    refine⟨rfl,OldK.of_keep fun b o e=>?_,os,bare⟩
    cases q:H b with
    |none=>exact un.keep b o e q (by intro z;exact absurd (show b∈([]:List Addr)from z) (by simp)) (by simp)
    |some u=>
     rcases hO b with z|⟨ob,xs,z⟩
     ·rw[q]at z;cases z
     ·have z2:=un.frzs b ob _ z
      obtain⟨e1,_⟩:=hok b _ z
      obtain⟨e2,_⟩:=hok' b _ z2
      rw[e]at e1;cases e1
      exact e2
 cases hk:K.lookup a with
 |some o=>
  have e:=KX a o hk
  rw[ha]at e
  cases e
  refine core (fun _=>none) (fun _=> .inl rfl) (.inr ⟨_,vs.toArray,_,hk,rfl,rfl,rfl,by rw[aw,lenV];exact hl,by simpa using rv⟩) (fun b u z=>by have z':(none:Option HO)=some u:=z;cases z') (fun b z=>absurd rfl z) fun z=>absurd rfl z
 |none=>
  refine core (fun b=>if b=a then some (.frz {cls:= .type "list",data:= .seq vs.toArray} (.lst (ns.map V.int)))else none) (fun b=>?_) (.inl (.inr ⟨{cls:= .type "list",data:= .seq vs.toArray},fY rfl⟩)) (fun b u z=>?_) (fun b z=>?_) fun _=>hk
  ·by_cases hb:b=a
   ·exact .inr ⟨_,_,fY hb⟩
   ·exact .inl (fJ hb)
  ·by_cases hb:b=a
   ·have z':=(fY hb).symm.trans z
    cases z'
    subst hb
    exact⟨ha,by rw[aA];exact hl,vs,_,rv,ha⟩
   ·have z':=(fJ hb).symm.trans z
    cases z'
  ·by_cases hb:b=a
   ·exact hb
   ·exact absurd (fJ hb) z
theorem walk_of {l:PySem.W.OpenLaw} {n k:Nat} {q:Program} {loose:List Str} {XP:(Str->Option Value)->Heap->Prop} {YP:World->Heap->Prop} {d:DefRec} {K:Params->PySem.W.Frag} {CX:World->CXT} {sp:World->Sp} {x:Str}
  (hn:l.most=some n) (hn2:n<=sizeLine) (hdf:d.params.defaults=[]) (hr:kQ k callerA)
  (hY:∀(w:World) (h:Heap),YP w h->(K w.params).In h)
  (F:∀(w:World) (mg:Str->Option Value) (fa:Addr) (h:Heap),(K w.params).In h->h.Ns mainGlobals mg->mg d.name=some (.ref fa)->
   ∃fd:FuncData,(∀(s:Shared) (u:Value),BindsTo s fd ⟨[u],[]⟩ [(x,u)])/\
    ∀base:Heap,(K w.params).In base->base.Ns mainGlobals mg->qA l.prog w (K w.params) mg base (CX w) k fa fd [x] (sp w))
  (hsp:∀(w:World) (H:Hp) (a:Addr) (ns:List Int),ns.length<=n->Fj H->SqL (K w.params) H a (ns.map V.int)->sp w [.ref a] H (fun v _=>v= .bl true) fun _ _ _=>False)
  (hCX:∀(w:World) (H:Hp) (s:Shared) (e:Value) (s':Shared),CX w [] H s (fun _ _ _=>False) e s'->False):
  PySem.W.WalkO q loose XP YP l.row.toRowW d [] (fun f vs=>PySem.call f vs):=by
 refine Att.Internal.attach_call hn hdf fun w s₀ s₁ mg mb fa o pm cd doc a vs ns G Y ho hd hcd hmg hobj hints hlen hg=>?_
 have KX:=hY w _ Y
 obtain⟨fd,hb,hF⟩:=F w mg fa _ KX G.T.g hmg
 exact zR KX G.T.g G.T.b G.T.builtins G.T.nolimit hg hobj hints (bU hlen hn2) hr hF hb (fun H hO hS=>hsp w H a ns hlen hO hS) fun H e s'=>hCX w H s₁ e s'
def gv (s:Stmt) (j:Nat):Stmt:=match s with
 | .ClassDef _ _ _ body _ _ _ _ _ _ _=>body.getD j (.Pass ⟨0,0,0,0⟩)
 |_=> .Pass ⟨0,0,0,0⟩
def iL (s:Stmt):Arguments:=match s with
 | .FunctionDef _ a _ _ _ _ _ _ _ _=>a
 |_=>{posonlyargs:=[],args:=[],vararg:=none,kwonlyargs:=[],kw_defaults:=[],kwarg:=none,defaults:=[]}
def gT (s:Stmt):List Stmt:=match s with
 | .FunctionDef _ _ b _ _ _ _ _ _ _=>b
 |_=>[]
def eQ (s:Stmt):Scope:=match s with
 | .FunctionDef _ _ _ _ _ _ sc _ _ _=>sc
 |_=>{kind:= .function,names:=[],isGenerator:=false,isCoroutine:=false}
abbrev CX0:CXT:=fun _ _ _ _ _ _=>False
abbrev E0:XK:=fun _ _ _=>False
theorem fH {X:Cx}:lW CX0 X E0:=fun _ _ _ _ _ _ _ h=>h.elim
structure Fun (K:PySem.W.Frag) (x qual:Str) (st:Stmt) (f:Addr) (fd:FuncData):Prop where
 ex:∃(oc:Value) (od:Option Addr) (kV doc pm:Value) (an:Option Addr) (cdv ct:Value) (osl:Array (Option Value)),
  fd=dg x qual (iL st) (gT st) (eQ st) .none kV doc pm an cdv ct/\K.lookup f=some ⟨oc,od,.func fd,osl⟩/\dh K cdv qual=true
 kp:cK K (.ref f)=true
section
variable {P:Program} {w:World} {K:PySem.W.Frag} {mg:Str->Option Value} {base:Heap}
theorem Fun.ok {x qual:Str} {st:Stmt} {f:Addr} {fd:FuncData} {N ps:List Str} {k:Nat} {sp:Sp} (F:Fun K x qual st f fd) (S:eX N ps (eQ st)) (len:∀vs H Q E,sp vs H Q E->vs.length=ps.length)
  (hbody:∀(cdv:Value) (A:Around) (outer:List Env) (s:Shared) (H:Hp) (vs:List V) (Q:VK) (E:XK),kQ k (A.deeper (envOfC qual (eQ st) s.heap.objs.size f cdv))->sp vs H Q E->
   ∃t,PSs (AK CX0 P w K mg base N qual (eQ st) f cdv A outer s H E).nox (gT st) t/\t {nx:=fun _ H'=>Q .non H',rt:=Q} (start N vs) H):qA P w K mg base CX0 (k+ 1) f fd ps sp:=by
 obtain⟨oc,od,kV,doc,pm,an,cdv,ct,osl,rfl,lk,hcd⟩:=F.ex
 refine DB lk hcd S len fun A outer s H vs Q E hr hsp=>?_
 obtain⟨t,h,q⟩:=hbody cdv A outer s H vs Q E hr hsp
 exact⟨t,h.nox,q⟩
theorem Fun.binds {x qual:Str} {st:Stmt} {f:Addr} {fd:FuncData} {ps:List Str} (F:Fun K x qual st f fd)
  (h:∀(kV doc pm:Value) (an:Option Addr) (cdv ct:Value) (us:List Value),us.length=ps.length->bindArgs (dg x qual (iL st) (gT st) (eQ st) .none kV doc pm an cdv ct) ⟨us,[]⟩=pure (ps.zip us)):lR K fd ps []:=by
 obtain⟨oc,od,kV,doc,pm,an,cdv,ct,osl,rfl,lk,hcd⟩:=F.ex
 exact .all (h kV doc pm an cdv ct)
theorem tH {x qual:Str} {st:Stmt} {f:Addr} {oc:Value} {od an:Option Addr} {osl:Array (Option Value)} {kV doc pm cdv ct:Value} (l:K.lookup f=some ⟨oc,od,.func (dg x qual (iL st) (gT st) (eQ st) .none kV doc pm an cdv ct),osl⟩)
  (c:dh K cdv qual=true) (k:cK K (.ref f)=true):Fun K x qual st f (dg x qual (iL st) (gT st) (eQ st) .none kV doc pm an cdv ct):=⟨⟨oc,od,kV,doc,pm,an,cdv,ct,osl,rfl,l,c⟩,k⟩
end
theorem qD {A:Around} {k:Nat} (hr:kQ k A):A.units+ 1<cLine:=Nat.lt_of_le_of_lt (Nat.add_le_add_left (by decide:1<=64) _) hr.units
section
variable {X:Cx}
theorem pv (i:Nat) {x:Str} {pos:Pos} (hN:autoParam (X.N[i]?=some x) L2.Internal.auR._auto_1) (hv:Vis X.env.scope x:=by first|exact Or.inl rfl|exact Or.inr (.inl rfl)|exact Or.inr (.inr rfl)) (hd:autoParam ((x==("__debug__":Str))=false) L2.Internal.auD._auto_1)
  (hcd:autoParam ((x==("__classdict__":Str))=false) L2.Internal.auD._auto_1):PE X (.Name x pos) (Gx i):=Dl hN hv hd hcd
end
theorem jP {A B:Prop} (h:B):if false=true then A else B:=by
 rw[fJ dJ]
 exact h
theorem kj {A B:Prop} (h:A):if true=true then A else B:=by
 rw[fY rfl]
 exact h
theorem GH {c A B:Prop} [Decidable c] (h1:c->A) (h2:¬c->B):if c then A else B:=by
 by_cases h:c
 ·rw[fY h]
  exact h1 h
 ·rw[fJ h]
  exact h2 h
def fG (H H':Hp):Prop:=∀b o,H b=some o->H' b=some o
theorem fG.trans {H H1 H2:Hp} (a:fG H H1) (b:fG H1 H2):fG H H2:=fun c o h=>b c o (a c o h)
theorem fG.free {H H':Hp} (e:fG H H') {l:Addr} (h:H' l=Option.none):H l=Option.none:=by
 cases q:H l with
 |none=>rfl
 |some o=>
  rw[e l o q]at h
  cases h
theorem fG.seq {K:PySem.W.Frag} {H H':Hp} {a:Addr} {xs:List V} (e:fG H H') (h:SqL K H a xs):SqL K H' a xs:=by
 rcases h with(h|⟨o,h⟩)|h
 ·exact .inl (.inl (e _ _ h))
 ·exact .inl (.inr ⟨o,e _ _ h⟩)
 ·exact .inr h
section
variable {X:Cx}
end
section
variable {κ:Type} [DecidableEq κ]
end
section
variable {X:Cx}
theorem ya {x:Str} {a:Addr} {pos:Pos} (hg:Gl X x) (hm:X.mg x=some (.ref a)) (hd:autoParam ((x==("__debug__":Str))=false) L2.Internal.auD._auto_1):PE X (.Name x pos) (tC (.ref a)):=BD hg hm (show gN (.ref a) _ from rfl) hd
theorem kR {x:Str} {n:String} {pos:Pos} (hg:Gl X x) (hm:X.mg x=none) (hv:bootBuiltins x=some (.type n)) (hn:autoParam (x≠"__name__") L2.Internal.auD._auto_1) (hd:autoParam ((x==("__debug__":Str))=false) L2.Internal.auD._auto_1):PE X (.Name x pos) (tC (.ty n)):=BE hg hm hv (show gN (.ty n) _ from rfl) hn hd
end
theorem gU:bootBuiltins "len"=some (.builtin "len"):=fo
theorem AR:bootBuiltins "all"=some (.builtin "all"):=fo
theorem DJ:bootBuiltins "sum"=some (.builtin "sum"):=fo
theorem gb:bootBuiltins "isinstance"=some (.builtin "isinstance"):=fo
theorem yb:bootBuiltins "int"=some (.type "int"):=fo
theorem AS:bootBuiltins "str"=some (.type "str"):=fo
theorem BS:bootBuiltins "bool"=some (.type "bool"):=fo
theorem jT:bootBuiltins "list"=some (.type "list"):=fo
theorem iM:bootBuiltins "tuple"=some (.type "tuple"):=fo
theorem uN:bootBuiltins "dict"=some (.type "dict"):=fo
section
variable {X:Cx} {tg:Expr}
end
def blk (X:Cx) (N:List Str) (scope:Scope) (cl:List (Str×Addr)) (C:Addr) (s₀:Shared) (H₀:Hp) (ex:List Addr) (pz:List (Addr×Obj)):Cx:=
 {X with N:=N,s₀:=s₀,H₀:=H₀,env:=compEnvC scope cl C X.env,outer:=X.stack,stack:=X.stack,ex:=ex,fn:=fun _=>false,pn:=X.pn++pz,xe:=fun _ _=>False}
def PTs (X:Cx) (cs:List Expr) (t:TT):Prop:=
 ∀(pz:List (Addr×Obj)) (s:Shared) (σ:St) (H:Hp) (Q:Bool->Hp->Prop),Inv X pz σ H s->t σ H Q->
  wpAny (model X.prog X.w) X.A (forIn cs true fun c r=>if r=true then do let ok<-isTrue c X.env (eval c X.env);pure (ForInStep.yield ok)else pure (ForInStep.yield r)) (TP X pz σ Q) X.xe s
def kS:TT:=fun _ H Q=>Q true H
theorem jr {X:Cx}:PTs X [] kS:=fun pz s σ H Q I h=>wpAny_pure ⟨H,I,h⟩
theorem BU {X:Cx} {c:Expr} {t:TT} (h:PT X c t):PTs X [c] t:=fun pz s σ H Q I hw=>wpAny_tests_one (h pz s σ H Q I hw)
structure pL (X:Cx) (N:List Str) (scope:Scope) (cl:List (Str×Addr)) (f:St->St) (i:Nat) (x:Str):Prop where
 kind:scope.kind= .function
 cell:∀y∈scope.names,y.2≠ .cell
 names:∀y∈scope.names,y.2= .local->scope.names.lookup y.1=some .local
 clos:closureFor scope X.env=pure cl
 lk:∀y c,cl.lookup y=some c->X.env.cells.lookup y=some c
 has:∀y,((relabel scope X.env).names.lookup y=some .cell\/(relabel scope X.env).names.lookup y=some .free)->∃c,cl.lookup y=some c
 nd:N.Nodup
 ix:N[i]?=some x
 loc:scope.names.lookup x=some .local
 len:∀σ,σ.length=X.N.length->(f σ).length=N.length
 val:∀(σ:St) (k:Nat) (y:Str) (v:V),N[k]?=some y->(f σ)[k]?=some (some v)->∃j:Nat,X.N[j]?=some y/\σ[j]?=some (some v)/\X.env.scope.names.lookup y=some .cell/\(relabel scope X.env).names.lookup y=some .cell
theorem yc {X:Cx} {N:List Str} {scope:Scope} {cl:List (Str×Addr)} {f:St->St} {i:Nat} {x:Str} (B:pL X N scope cl f i x) {pz:List (Addr×Obj)} {σ:St} {H:Hp} {s:Shared} {h₁:Heap} {tk:Nat} {m:Str->Option Value} {ex:List Addr}
  (I:Inv X pz σ H s) (hex:∀b∈ex,uF X pz H b/\b<s.heap.objs.size) (keep:∀b o,s.heap.get? b=some o->h₁.get? b=some o) (hn:h₁.Ns s.heap.objs.size m):
  Inv (blk X N scope cl s.heap.objs.size s H ex pz) [] (f σ) H {s with heap:=h₁,toks:=tk}:=by
 have nst:∀b,b≠X.env.locals->b∉X.fs->b∉frs X.stack:=fun b h1 h2 hb=>(ai.mp (I.stkSub b hb)).elim h1 h2
 have ltC:∀y c,X.env.cells.lookup y=some c->c<s.heap.objs.size:=fun y c e=>by
  obtain⟨v,o,ho,_⟩:=I.cell y c e
  exact dX ho
 refine⟨⟨I.ok.mod,B.kind,I.ok.glob,I.ok.blt,bX _,fun y z c h1 h2=>I.ok.inj y z c (B.lk y c h1) (B.lk z c h2),fun y hy=>B.has y hy,fun y c h=>(nomatch h),I.ok.hd,I.ok.frames,.inl rfl,fun b hb=>?_,I.bs,bU I.ok.bsz I.sz,fun b o e hb=>?_,fun b hb=>?_,I.stack,I.stkFree⟩,
  rfl,I.bare,Un.kept keep,⟨m,hn,fun k y v e1 e2 e3=>?_⟩,fun y c e=>?_,I.hok.fresh (bX _),fun y c e=>I.freeC y c (B.lk y c e),fun p hp=>?_,I.hok.kept keep,B.len σ I.len⟩
 ·obtain⟨⟨_,_,_,_,hc,_⟩,lt⟩:=hex b hb
  exact⟨bT lt,fun y c e=>hc y c (B.lk y c e)⟩
 ·obtain⟨⟨_,_,_,h4,_,_⟩,_⟩:=hex b hb
  rcases h4 with z|z
  ·exact I.ok.noex b o e z
  ·exact absurd (bR (dX (I.ok.bs b o e).1) z) (bS _)
 ·obtain⟨⟨_,h2,h3,_,_,_⟩,_⟩:=hex b hb
  exact nst b h2 h3
 ·obtain⟨j,h1,h2,h3,h4⟩:=B.val σ k y v e1 e2
  obtain⟨m',_,hl⟩:=I.loc
  obtain⟨u,r,l⟩:=hl j y v h1 h2 (.inr (.inl h3))
  refine⟨u,r,?_⟩
  rcases l with⟨hk,_⟩|⟨_,c,hc,z⟩
  ·have hk':X.env.scope.names.lookup y=some .local:=hk
   rw[h3]at hk'
   cases hk'
  ·obtain⟨c',hc'⟩:=B.has y (.inl h4)
   have e:c'=c:=cf.inj ((B.lk y c' hc').symm.trans hc)
   subst e
   obtain⟨o,ho,hd⟩:=z
   exact .inr ⟨.inl h4,c',hc',o,keep _ o ho,hd⟩
 ·obtain⟨v,o,ho,hd⟩:=I.cell y c (B.lk y c e)
  exact⟨v,o,keep _ o ho,hd⟩
 ·rw[aB]at hp
  obtain⟨e,n,ne,nf,d⟩:=I.pin p hp
  exact⟨keep _ _ e,n,bT (dX e),nst _ ne nf,d⟩
theorem fZ {env:Env}:∀{names:List (Str×NameKind)} {x:Str} {k:NameKind},
  (names.map fun(n,k)=>if(k==NameKind.free&&env.scope.kind== .function&&env.kindOf n==some .cell)then(n,NameKind.cell)else(n,k)).lookup x=some k->
  ∃k0,names.lookup x=some k0/\(k=k0\/(k0= .free/\k= .cell))
 |[],_,_,h=>by simp at h
 |(n,k0)::r,x,k,h=>by
  have ih:=@fZ env r x k
  have h:ay x ((if(k0==NameKind.free&&env.scope.kind== .function&&env.kindOf n==some .cell)=true then(n,NameKind.cell)else(n,k0))::(r.map fun(n,k)=>if(k==NameKind.free&&env.scope.kind== .function&&env.kindOf n==some .cell)then(n,NameKind.cell)else(n,k)))=some k:=h
  cases hx:x==n with
  |true=>
   by_cases hc:(k0==NameKind.free&&env.scope.kind== .function&&env.kindOf n==some .cell)=true
   ·rw[fY hc]at h
    simp only[aW,hx]at h⊢
    have hf:k0= .free:=by
     have hc':=hc
     simp only[dM]at hc'
     exact eq_of_beq hc'.1.1
    exact⟨k0,rfl,.inr ⟨hf,(cf.inj h).symm⟩⟩
   ·rw[fJ hc]at h
    simp only[aW,hx]at h⊢
    exact⟨k0,rfl,.inl (cf.inj h).symm⟩
  |false=>
   have h2:(r.map fun(n,k)=>if(k==NameKind.free&&env.scope.kind== .function&&env.kindOf n==some .cell)then(n,NameKind.cell)else(n,k)).lookup x=some k:=by
    by_cases hc:(k0==NameKind.free&&env.scope.kind== .function&&env.kindOf n==some .cell)=true
    ·rw[fY hc]at h;simp only[aW,hx]at h;exact h
    ·rw[fJ hc]at h;simp only[aW,hx]at h;exact h
   obtain⟨k1,e1,e2⟩:=ih h2
   exact⟨k1,by simp only[aW,hx];exact e1,e2⟩
theorem iq {env:Env} (hk:env.scope.kind= .function):∀{names:List (Str×NameKind)} {x:Str},env.scope.names.lookup x=some .cell->names.lookup x=some .free->
  (names.map fun(n,k)=>if(k==NameKind.free&&env.scope.kind== .function&&env.kindOf n==some .cell)then(n,NameKind.cell)else(n,k)).lookup x=some .cell
 |[],_,_,h=>by simp at h
 |(n,k0)::r,x,hc,h=>by
  have ih:=@iq env hk r x hc
  show ay x ((if(k0==NameKind.free&&env.scope.kind== .function&&env.kindOf n==some .cell)=true then(n,NameKind.cell)else(n,k0))::_)=_
  cases hx:x==n with
  |true=>
   simp only[aW,hx]at h
   cases h
   have e:x=n:=eq_of_beq hx
   have hc':env.kindOf n=some .cell:=by rw[<-e];exact hc
   simp[aW,hx,hk,hc']
  |false=>
   simp only[aW,hx]at h
   by_cases hq:(k0==NameKind.free&&env.scope.kind== .function&&env.kindOf n==some .cell)=true
   ·rw[fY hq];simp only[aW,hx];exact ih h
   ·rw[fJ hq];simp only[aW,hx];exact ih h
theorem DM {X:Cx} {scope:Scope} {x:Str} (hk:scope.kind= .function) (hn:∀p∈scope.names,p.2≠ .cell/\p.2≠ .free) (hl:∀y∈scope.names,y.2= .local->scope.names.lookup y.1=some .local)
  (hx:scope.names.lookup x=some .local) (hc:closureFor scope X.env=pure []):pL X [x] scope [] (fun _=>[none]) 0 x where
 kind:=hk
 cell:=fun y hy=>(hn y hy).1
 names:=hl
 clos:=hc
 lk:=fun y c h=>by simp at h
 has:=fun y h=>by
  rcases h with h|h
  ·obtain⟨k0,e,z⟩:=fZ h
   have m:=hn _ (PySem.mem_of_lookup e)
   rcases z with z|⟨z,_⟩
   ·exact absurd z.symm m.1
   ·exact absurd z m.2
  ·obtain⟨k0,e,z⟩:=fZ h
   have m:=hn _ (PySem.mem_of_lookup e)
   rcases z with z|⟨z,_⟩
   ·exact absurd z.symm m.2
   ·exact absurd z m.2
 nd:=by simp
 ix:=rfl
 loc:=hx
 len:=fun _ _=>rfl
 val:=fun σ k y v h1 h2=>by
  cases k with
  |zero=>simp at h2
  |succ k=>simp at h2
def LcP (J:It) (i:Nat) (tt:TT) (te:TE) (Q:VK) (τ:St) (H1:Hp) (D:Addr):Prop:=
 ∃W:Nat->Nat->St->Hp->Prop,(∃m,W 0 m τ (upd H1 D (.lst [])))/\∀k m σ' H2,W k m σ' H2->
  (J.stop k H2/\Q (.ref D) H2)\/(J.go k H2/\∀v H3,J.yld k H2 v H3->tt (σ'.set i (some v)) H3 fun ok H4=>if ok=true
   then te (σ'.set i (some v)) H4 fun y H5=>∃xs,H5 D=some (.lst xs)/\xs.length<sizeLine/\∃m',m'<m/\W (k+ 1) m' (σ'.set i (some v)) (upd H5 D (.lst (xs++[y])))
   else ∃m',m'<m/\W (k+ 1) m' (σ'.set i (some v)) H4)
def tLC (wi:TI) (f:St->St) (i:Nat) (tt:TT) (te:TE):TE:=fun σ H Q=>wi σ H fun J H1=>∀D,H1 D=none->LcP J i tt te Q (f σ) H1 D
theorem yd {X:Cx} {elt iter:Expr} {x:Str} {px:Pos} {ifs:List Expr} {scope:Scope} {pos pos':Pos} {N:List Str} {cl:List (Str×Addr)} {f:St->St} {i:Nat} {wi:TI} {tt:TT} {te:TE} {use:Option (Value->Sem Unit)} {Qp:Value->Shared->Prop}
  {pz:List (Addr×Obj)} {s:Shared} {σ:St} {H:Hp} {Q:VK}
  (hc:X.calm=true) (B:pL X N scope cl f i x) (hi:PI X (.Name x px) iter wi)
  (htt:∀C s₀ H₀ ex pz,PTs (blk X N scope cl C s₀ H₀ ex pz) ifs tt) (hte:∀C s₀ H₀ ex pz,PE (blk X N scope cl C s₀ H₀ ex pz) elt te)
  (hs:∀x,foldedSetIterable iter X.env x=pure x) (I:Inv X pz σ H s) (h:tLC wi f i tt te σ H Q)
  (fin:∀(fl:Flow) (s3 s6:Shared) (H3 H5:Hp) (d:Addr) (m:Str->Option Value),Inv X pz σ H3 s3->Inv X pz σ H5 s6->H5 s3.heap.objs.size=none->s6.heap.Ns s3.heap.objs.size m->Q (.ref d) H5->
   compPost (model X.prog X.w) X.A X.xe use Qp (.ref d) s3.heap.objs.size (.ok fl) s6):
  wpAny (model X.prog X.w) X.A (comprehension (.ListComp elt [⟨.Name x px,iter,ifs,0⟩] scope pos) scope X.env pos' (newList []) false (eval iter X.env) use) Qp X.xe s:=by
 refine wpAny_comprehension_free (use:=use) rfl hs B.clos B.kind B.names (thn (hi pz s σ H _ I h) fun xv s1 h1=>thn h1 fun itv s2 h2=>?_)
 obtain⟨it,fp,tn,J,H2,rfl,I2,T,st2,f2,q⟩:=h2
 have hD:H2 s2.heap.objs.size=none:=I2.fresh
 obtain⟨W,⟨m0,w0⟩,turn⟩:=q _ hD
 refine wpAny_newObj_type (wpAny_newFunctionEnv B.cell (by intro y hy;simp at hy) (fun h₁ hns₁ hsb₁=>?_) B.kind)
 have I3:Inv X pz σ (upd H2 s2.heap.objs.size (.lst [])) {s2 with heap:=s2.heap.push {cls:= .type "list",data:= .seq ([]:List Value).toArray}}:=I2.lnew (its:=[]) (ys:=[]) (t':=s2.toks) .nil (bY _)
 have lt2:∀b∈fp,b<s2.heap.objs.size:=fun b hb=>by
  obtain⟨o,ho,_⟩:=T.obj _ _ st2 b hb
  exact dX ho
 have fp3:∀b∈fp,uF X pz (upd H2 s2.heap.objs.size (.lst [])) b:=fun b hb=>by
  refine⟨?_,(f2 b hb).2⟩
  rw[eN (bT (lt2 b hb))]
  exact(f2 b hb).1
 generalize hs3:({s2 with heap:=s2.heap.push {cls:= .type "list",data:= .seq ([]:List Value).toArray}}:Shared)=s3 at I3 hns₁ hsb₁⊢
 have eh:s2.heap.push {cls:= .type "list",data:= .seq ([]:List Value).toArray}=s3.heap:=by rw[<-hs3]
 have lt3:∀b∈fp,b<s3.heap.objs.size:=fun b hb=>by
  rw[<-eh,d7]
  exact Nat.lt_succ_of_lt (lt2 b hb)
 have old:∀b o,s3.heap.get? b=some o->h₁.get? b=some o:=fun b o e=>hsb₁.extBut b o (bT (dX e)) (dZ _ e)
 have I4:=yc (tk:=s3.toks+([]:List (Str×Value)).length) B I3 (ex:=fp) (fun b hb=>⟨fp3 b hb,lt3 b hb⟩) old hns₁
 have st4:tn 0 h₁:=T.keep _ _ _ st2 fun b _ o e=>old b o (by rw[<-eh];exact dZ _ e)
 have fpB:∀{H':Hp},(∀b∈fp,H' b=none)->∀b∈fp,uF (blk X N scope cl s3.heap.objs.size s3 (upd H2 s2.heap.objs.size (.lst [])) fp pz) [] H' b:=fun{H'} hn b hb=>by
  obtain⟨_,g2,g3,g4,g5,g6⟩:=f2 b hb
  refine⟨hn b hb,bT (lt3 b hb),fun z=>(ai.mp (I3.stkSub b z)).elim g2 g3,.inl hb,fun y c e=>g5 y c (B.lk y c e),fun p hp=>?_⟩
  rw[aB]at hp
  exact g6 p hp
 have loop:∀s4:Shared,s4={s3 with heap:=h₁,toks:=s3.toks+([]:List (Str×Value)).length}->
   codeAny (model X.prog X.w) X.A (.compLoop (.ListComp elt [⟨.Name x px,iter,ifs,0⟩] scope pos) 0 (.ref it) (.ref s2.heap.objs.size) (compEnvC scope cl s3.heap.objs.size X.env))
    (compPost (model X.prog X.w) X.A X.xe use Qp (.ref s2.heap.objs.size) s3.heap.objs.size) s4:=by
  rintro s4 rfl
  refine codeAny_compLoop_tests (I:=fun n s'=>∃k σ' H',Inv (blk X N scope cl s3.heap.objs.size s3 (upd H2 s2.heap.objs.size (.lst [])) fp pz) [] σ' H' s'/\tn k s'.heap/\(∀b∈fp,H' b=none)/\W k n σ' H') ?_ m0
   ⟨0,f σ,_,I4,st4,fun b hb=>(fp3 b hb).1,w0⟩
  rintro n s5 ⟨k,σ5,H5,I5,st5,fr5,w5⟩
  rcases turn k n σ5 H5 w5 with⟨stop,qn⟩|⟨go,step⟩
  ·refine wpAny_mono (T.done (blk X N scope cl s3.heap.objs.size s3 (upd H2 s2.heap.objs.size (.lst [])) fp pz) rfl rfl rfl hc k [] s5 σ5 H5 _ I5 (fpB fr5) st5 stop) (fun r s6 h6=>?_) fun _ _ z=>z
   obtain⟨hr,I6⟩:=h6
   subst hr
   obtain⟨m6,hn6,_⟩:=id I6.loc
   have I7:Inv X pz σ H5 s6:=I3.call' (s':=s6) (ch:=fp) I6.os I6.base I6.hok I6.bare fun b hb=>by
    obtain⟨_,g2,g3,g4,g5,g6⟩:=f2 b hb
    exact⟨g4,g2,g5,g6⟩
   exact fin _ s3 s6 _ H5 _ m6 I3 I7 I6.free hn6 qn
  ·refine wpAny_mono (T.item (blk X N scope cl s3.heap.objs.size s3 (upd H2 s2.heap.objs.size (.lst [])) fp pz) rfl rfl rfl hc k [] s5 σ5 H5 _ I5 (fpB fr5) st5 go) (fun r s6 h6=>?_) fun _ _ z=>z
   obtain⟨u,hr,h6⟩:=h6
   subst hr
   show wpAny _ _ (pure () >>= fun _=>assign (.Name x px) (compEnvC scope cl s3.heap.objs.size X.env) u) _ _ s6
   refine wpAny_bind (wpAny_mono (show wpAny _ _ (pure ()) _ _ s6 from h6) (fun _ s7 h7=>?_) fun _ _ z=>z)
   obtain⟨v,H7,I7,r7,y7,st7,fr7⟩:=h7
   have I7':=I7.pinned (fpB fr7) (T.obj _ _ st7)
   refine wpAny_assign_Name (pe (X:=blk X N scope cl s3.heap.objs.size s3 (upd H2 s2.heap.objs.size (.lst [])) fp pz) I7' B.nd B.ix (.inl (lookup_relabel_local B.loc)) r7 (fun s8 I8=>?_) (.inr (lookup_relabel_local B.loc)))
   have back:∀{σ9:St} {H9:Hp} {s9:Shared},Inv (blk X N scope cl s3.heap.objs.size s3 (upd H2 s2.heap.objs.size (.lst [])) fp pz) ([]++qX fp s7.heap) σ9 H9 s9->(∃m',m'<n/\W (k+ 1) m' σ9 H9)->
     ∃m',m'<n/\∃k σ' H',Inv (blk X N scope cl s3.heap.objs.size s3 (upd H2 s2.heap.objs.size (.lst [])) fp pz) [] σ' H' s9/\tn k s9.heap/\(∀b∈fp,H' b=none)/\W k m' σ' H':=fun{σ9 H9 s9} I9 q9=>by
    obtain⟨m',hm,w9⟩:=q9
    refine⟨m',hm,k+ 1,σ9,H9,I9.unpinned,T.keep _ _ _ st7 fun b hb o e=>(I9.pin (b,o) (av _ (av _ (jA hb e)))).1,fun b hb=>?_,w9⟩
    obtain⟨o,e,d⟩:=T.obj _ _ st7 b hb
    exact(I9.pin (b,o) (av _ (av _ (jA hb e)))).2.1
   refine wpAny_mono (htt _ _ _ _ _ _ s8 _ H7 _ I8 (step v H7 y7)) (fun ok s9 h9=>?_) fun _ _ z=>False.elim z
   obtain⟨H9,I9,q9⟩:=h9
   cases ok with
   |false=>
    rw[fJ dJ]
    rw[fJ dJ]at q9
    exact back I9 q9
   |true=>
    rw[fY rfl]
    rw[fY rfl]at q9
    refine wpAny_mono (hte _ _ _ _ _ _ s9 _ H9 _ I9 q9) (fun y s10 h10=>?_) fun _ _ z=>False.elim z
    obtain⟨v10,H10,I10,r10,xs,hx10,hz,q10⟩:=h10
    refine wpAny_mono (fh (X:=blk X N scope cl s3.heap.objs.size s3 (upd H2 s2.heap.objs.size (.lst [])) fp pz) _ s10 _ H10 (.ref s2.heap.objs.size) [v10] _ [y] (fun _ H11=>H11=upd H10 s2.heap.objs.size (.lst (xs++[v10]))) I10 rfl (.cons r10 .nil) ⟨_,xs,v10,rfl,rfl,hx10,hz,rfl⟩) (fun _ s11 h11=>?_) fun _ _ z=>False.elim z
    obtain⟨_,H11,I11,_,e11⟩:=h11
    subst e11
    exact back I11 q10
 exact codeAny_compStart_list (loop _ rfl) (T.self _ 0 _ _ _ st4 (loop _ rfl))
theorem uO {X:Cx} {elt iter:Expr} {x:Str} {px:Pos} {ifs:List Expr} {scope:Scope} {pos:Pos} {N:List Str} {cl:List (Str×Addr)} {f:St->St} {i:Nat} {wi:TI} {tt:TT} {te:TE}
  (hc:X.calm=true) (B:pL X N scope cl f i x) (hi:PI X (.Name x px) iter wi)
  (htt:∀C s₀ H₀ ex pz,PTs (blk X N scope cl C s₀ H₀ ex pz) ifs tt) (hte:∀C s₀ H₀ ex pz,PE (blk X N scope cl C s₀ H₀ ex pz) elt te)
  (hs:autoParam (∀x,foldedSetIterable iter X.env x=pure x) L2.Internal.auI._auto_1):PE X (.ListComp elt [⟨.Name x px,iter,ifs,0⟩] scope pos) (tLC wi f i tt te):=by
 intro pz s σ H Q I h
 rw[eval_ListComp]
 refine yd hc B hi htt hte hs I h fun fl s3 s6 H3 H5 d m I3 I7 fr hn qn=>?_
 refine⟨m,hn,fun h' sb=>⟨.ref d,H5,?_,rfl,qn⟩⟩
 exact Inv.turned (h':=h') (t':=s6.toks) (it:=s3.heap.objs.size) I7 (fun b o hb e=>(sb.2 b hb).trans e) fr (bW I3.lt) (.inr I3.sz) (fun z c e q=>by
  obtain⟨v,q2⟩:=I3.cell z c e
  exact absurd (q▸q2.lt) (bS _)) fun p hp q=>absurd (q▸dX (I3.pin p hp).1) (bS _)
section
variable {X:Cx}
theorem zS {bs:List Bool}:∀{us:List Value},gG (bs.map V.bl) us->us=bs.map Value.bool:=by
 induction bs with
 |nil=>intro us r;rw[aR]at r;cases r;rfl
 |cons n ns ih=>
  intro us r
  rw[az]at r
  cases r with
  |cons r1 r2=>
   cases(show _=Value.bool n from r1)
   rw[ih r2]
   rfl
theorem wD (bs:List Bool):((aa bs.length).all fun i=>(bs[i]?).getD true)=bs.all id:=by
 induction bs with
 |nil=>rfl
 |cons b r ih=>
  rw[ax,aX,aT,List.all_map,aT,<-ih]
  rfl
theorem wF {h h':Heap} {o:Obj} (hk:∀b x,b∉[h.objs.size]->(h.push o).get? b=some x->h'.get? b=some x):∀b x,h.get? b=some x->h'.get? b=some x:=
 fun b x e=>hk b x (fun hm=>by rw[aY.mp hm]at e;exact bS _ (dX e)) (dZ _ e)
theorem vy (hc:X.calm=true):m7 X (.builtin "all") (fun xs H Q=>∃(a:Addr) (bs:List Bool),xs=[.ref a]/\SqL X.K H a (bs.map V.bl)/\Q (.bl (bs.all id)) H):=by
 intro pz s σ H xs us Q I r h
 obtain⟨a,bs,rfl,ha,q⟩:=h
 obtain⟨u,rfl,ru⟩:=oP r
 cases ru
 obtain⟨its,rv,pl,hz⟩:=I.list ha
 have ei:=zS rv
 subst ei
 have hl:s.heap.IsList a (bs.map Value.bool).toArray:=pl.isList
 have hlt:a<s.heap.objs.size:=by obtain⟨_,e,_⟩:=hl;exact dX e
 refine call_all_walk (wpAny_pyIter_list hl ?_)
 refine⟨s.heap.objs.size,[s.heap.objs.size,a],[s.heap.objs.size],(bs.map Value.bool).toArray.size,_,_,fun i=>(bs[i]?).getD true,rfl,Walks.list (A:=X.A.in1) (I.ok.hd hc) _ a (bT hlt) (bs.map Value.bool).toArray,
  ⟨⟨_,dY _ rfl,rfl,rfl⟩,hl.push _⟩,fun i v s' Q' E' hP hQ=>?_,fun h' tk hk=>?_⟩
 ·have hv:(bs.map Value.bool)[i]?=some v:=by simpa using hP
  rw[aI]at hv
  cases e:bs[i]? with
  |none=>rw[e]at hv;cases hv
  |some b=>
   rw[e]at hv
   have e2:v=Value.bool b:=(cf.inj hv).symm
   subst e2
   simp only[e,Option.getD_some]at hQ
   exact wpAny_truthy_bool hQ
 ·have e:((aa (bs.map Value.bool).toArray.size).all fun i=>(bs[i]?).getD true)=bs.all id:=by
   rw[aw,aA];exact wD bs
  rw[e]
  exact⟨.bl (bs.all id),H,I.kept (wF hk),rfl,q⟩
def rSlS:V->Option Int->Option Int->Hp->VK->Prop:=fun x lo hi H Q=>∃z,x= .str z/\z.length<=sizeLine/\Q (.str (Txt.slice z lo hi)) H
theorem AU:SlR X rSlS:=by
 intro pz s σ H x v vl vu lo hi sl Q I rx hs pl pu h
 obtain⟨z,rfl,hz,q⟩:=h
 obtain⟨t,rfl⟩:=rx
 refine⟨"str",_,F.slot_str_getitem.lookup,typeIs_str _ _ _,?_⟩
 have fin:∀t' k,EP X pz σ Q (.str (Txt.slice z lo hi) t') {s with toks:=k}:=fun t' k=>⟨.str _,H,I.tok k,⟨t',rfl⟩,q⟩
 cases pl with
 |none=>
  cases pu with
  |none=>exact wpAny_getItem_str_slice (l:=none) (u:=none) (st:=none) hs rfl (post_val_or_str ⟨bU (Txt.slice_le z _ _) hz,fun t' k=>fin t' k⟩)
  |int j u=>exact wpAny_getItem_str_slice (l:=none) (u:=some (j,u)) (st:=none) hs rfl (post_val_or_str ⟨bU (Txt.slice_le z _ _) hz,fun t' k=>fin t' k⟩)
 |int i u'=>
  cases pu with
  |none=>exact wpAny_getItem_str_slice (l:=some (i,u')) (u:=none) (st:=none) hs rfl (post_val_or_str ⟨bU (Txt.slice_le z _ _) hz,fun t' k=>fin t' k⟩)
  |int j u=>exact wpAny_getItem_str_slice (l:=some (i,u')) (u:=some (j,u)) (st:=none) hs rfl (post_val_or_str ⟨bU (Txt.slice_le z _ _) hz,fun t' k=>fin t' k⟩)
theorem ko:m7 X (.builtin "isinstance") (fun xs H Q=>∃x v c t b,xs=[x,v]/\(∀u,gN v u->u=c)/\uz X.K H x t/\cM X.K t c=some b/\Q (.bl b) H):=by
 intro pz s σ H xs us Q I r h
 obtain⟨x,v,c,t,b,rfl,hc,ht,hk,q⟩:=h
 obtain⟨u,u',rfl,ru,ru'⟩:=wm r
 cases hc u' ru'
 exact xJ I ru ht hk fun tk=>⟨.bl b,H,I.tok tk,rfl,q⟩
end
section
variable {X:Cx}
open Builtin Builtin.Str in
def PE1 (X:Cx) (e:Expr) (t:TE):Prop:=
 ∀(pz:List (Addr×Obj)) (s:Shared) (σ:St) (H:Hp) (Q:VK),Inv X pz σ H s->1<=s.toks->t σ H Q->wpAny (model X.prog X.w) X.A (eval e X.env) (fun u s'=>1<=s'.toks/\EP X pz σ Q u s') X.xe s
theorem PE.one {e:Expr} {t:TE} (h:PE X e t):PE1 X e t:=fun pz s σ H Q I ht hw=>wpAny_mono (wpAny_toks_of ht (h pz s σ H Q I hw)) (fun _ _ z=>z) fun _ _ z=>z.2
def Fn (X:Cx) (st:List Stmt) (t:TS):Prop:=
 ∀(pz:List (Addr×Obj)) (s:Shared) (σ:St) (H:Hp) (D:mh),Inv X pz σ H s->1<=s.toks->t D σ H->wpAny (model X.prog X.w) X.A (execs st X.env) (SP X pz D) X.xe s
theorem Fn.nox {st:List Stmt} {t:TS} (h:Fn X.nox st t):Fn X st t:=fun pz s σ H D I ht hw=>
 wpAny_mono (h pz s σ H D (I.wish _) ht hw) (fun _ _ q=>q.unwish) fun _ _ z=>False.elim z
end
section
variable {X:Cx} {st:Stmt} {rest:List Stmt} {t u:TS}
end
section
variable {P:Program} {w:World} {H H':Hp} {h h':Heap} {a:Addr} {o:HO}
end
structure Fl (P:Program) (w:World) (outer:List Env) (H:Hp) (s:Shared) (B:Heap) (H':Hp) (s':Shared):Prop where
 os:s'.os=s.os
 bare:AllBare s'.gens
 un:Un (frs outer) [] H H' s.heap s'.heap
 hok:HOk P w H' s'.heap
 stay:B.StaysIn s'.heap
 trk:∀b u,H' b=some u->∃o,B.get? b=some o
 old:∀b o,s.heap.get? b=some o->b∉frs outer->∃o',B.get? b=some o'
section
variable {X:Cx} {pz:List (Addr×Obj)} {σ:St} {H H':Hp} {s s':Shared} {B h:Heap}
theorem Inv.track {ea:Addr} {o:HO} (I:Inv X pz σ H s) (hn:H ea=none) (h0:X.s₀.heap.get? ea=none) (hL:ea≠X.env.locals) (hC:∀x c,X.env.cells.lookup x=some c->c≠ea) (hP:∀p∈X.pn++pz,p.1≠ea)
  (new:hG X.prog X.w (upd H ea o) s.heap ea o):Inv X pz σ (upd H ea o) s:=by
 have ne:∀b u,H b=some u->b≠ea:=fun b u e z=>by rw[z,hn]at e;cases e
 refine⟨I.ok,I.os,I.bare,⟨I.base.keep,I.base.slot,fun b ob e n hx=>?_,I.base.there,fun b xs e=>?_,fun b ob u e=>?_,fun b ps e=>?_⟩,I.loc,I.cell,?_,fun x c e=>?_,fun p hp=>?_,fun b u e=>?_,I.len⟩
 ·rw[eN (fun z=>by rw[z,h0]at e;cases e)]
  exact I.base.free b ob e n hx
 ·have e1:=I.base.tups b xs e
  rw[eN (ne b _ e1)]
  exact e1
 ·have e1:=I.base.frzs b ob u e
  rw[eN (ne b _ e1)]
  exact e1
 ·obtain⟨more,e1⟩:=I.base.tbls b ps e
  exact⟨more,by rw[eN (ne b _ e1)];exact e1⟩
 ·rw[eN (Ne.symm hL)]
  exact I.free
 ·rw[eN (hC x c e)]
  exact I.freeC x c e
 ·obtain⟨e,n,n2,nf,d⟩:=I.pin p hp
  exact⟨e,by rw[eN (hP p hp)];exact n,n2,nf,d⟩
 ·by_cases hb:b=ea
  ·subst hb
   rw[eG]at e
   cases e
   exact new
  ·rw[eN hb]at e
   exact(I.hok b u e).stay (fun _ _ _ q=>q) (fun c z=>by rw[eN (ne c _ z)];exact z) fun c xs z=>by rw[eN (ne c _ z)];exact z
end
section
variable {P:Program} {w:World} {K:PySem.W.Frag} {mg:Str->Option Value} {base:Heap} {N:List Str} {qual:Str} {scope:Scope} {f:Addr} {cd:Value} {A:Around} {outer:List Env} {s₀:Shared} {H₀:Hp} {E:XK}
end
def VEbm:List Value:=[.type "ValueError",.type "Exception",.type "BaseException",.type "object"]
section
variable {X:Cx} {C:Addr} {E:XK} {x:Str} {np cpos pos:Pos} {e:Expr} {es:List Expr} {t:TA}
end
section
variable {P:Program} {w:World} {K:PySem.W.Frag} {mg:Str->Option Value} {base:Heap}
end
section
variable {X:Cx} {pz:List (Addr×Obj)} {σ:St} {H:Hp} {s:Shared}
end
section
variable {X:Cx} {CX:CXT} {k:Nat} {f Y:Addr} {fd:FuncData} {ps:List Str} {sp:Sp} {dvs:List V} {ds:List Value} {E:XK} {x y n:Str} {p pos pos' py hpos tpos:Pos} {e:Expr} {es:List Expr} {t:TA} {b₀:Stmt} {body:List Stmt} {tb:TS} {i:Nat}
end
section
variable {X:Cx} {e:Expr} {es:List Expr} {te:TE} {pos:Pos}
end
section
variable {X:Cx}
end
inductive Dt where
 |flat (v:V)
 |tup (l:List Dt)
 |lst (l:List Dt)
mutual
inductive At (K:PySem.W.Frag) (H:Hp):V->Dt->Prop where
 |flat {v:V} (h:oR v=true):At K H v (.flat v)
 |tup {a:Addr} {xs:List V} {ds:List Dt} (h:SqT K H a xs) (hs:Ats K H xs ds):At K H (.ref a) (.tup ds)
 |lst {a:Addr} {xs:List V} {ds:List Dt} (h:SqL K H a xs) (hs:Ats K H xs ds):At K H (.ref a) (.lst ds)
inductive Ats (K:PySem.W.Frag) (H:Hp):List V->List Dt->Prop where
 |nil:Ats K H [] []
 |cons {x:V} {d:Dt} {xs:List V} {ds:List Dt} (h:At K H x d) (hs:Ats K H xs ds):Ats K H (x::xs) (d::ds)
end
mutual
def eqD:Dt->Dt->Bool
 | .flat a,.flat b=>eqV a b
 | .tup l,.tup m=>wG l m
 | .lst l,.lst m=>wG l m
 |_,_=>false
def wG:List Dt->List Dt->Bool
 |[],[]=>true
 |x::xs,y::ys=>eqD x y&&wG xs ys
 |_,_=>false
end
mutual
def lX:Dt->Nat
 | .flat _=>0
 | .tup l=>iF l+ 1
 | .lst l=>iF l+ 1
def iF:List Dt->Nat
 |[]=>0
 |x::xs=>max (lX x) (iF xs)
end
theorem Ats.length {K:PySem.W.Frag} {H:Hp}:∀{xs:List V} {ds:List Dt},Ats K H xs ds->xs.length=ds.length
 |_,_,.nil=>rfl
 |_,_,.cons _ t=>by rw[ax,ax,Ats.length t]
theorem Ats.get {K:PySem.W.Frag} {H:Hp}:∀{xs:List V} {ds:List Dt} {j:Nat} {x:V},Ats K H xs ds->xs[j]?=some x->∃d,ds[j]?=some d/\At K H x d
 |_,_,0,_,.cons h _,e=>⟨_,rfl,by cases e;exact h⟩
 |_,_,j+ 1,_,.cons _ t,e=>Ats.get (j:=j) t e
 |_,_,_,_,.nil,e=>by simp at e
theorem vz:∀(l m:List Dt),l.length≠m.length->wG l m=false
 |[],[],h=>absurd rfl h
 |x::xs,y::ys,h=>by
  rw[wG,vz xs ys (fun e=>h (by rw[ax,ax,e])),Bool.and_false]
 |[],y::ys,_=>by rw[wG];all_goals simp
 |x::xs,[],_=>by rw[wG];all_goals simp
def ye (l m:List Dt) (j:Nat):Bool:=match l[j]?,m[j]? with
 |some a,some b=>eqD a b
 |_,_=>false
theorem rj:∀(l m:List Dt),l.length=m.length->((aa l.length).all fun j=>ye l m j)=wG l m
 |[],[],_=>by rw[wG];rfl
 |x::xs,y::ys,h=>by
  have ih:=rj xs ys (by simpa using h)
  rw[ax,aX,aT,List.all_map,wG,<-ih]
  rfl
 |[],_::_,h=>by simp at h
 |_::_,[],h=>by simp at h
theorem depDs_get:∀{l:List Dt} {j:Nat} {a:Dt},l[j]?=some a->lX a<=iF l
 |x::xs,0,a,e=>by cases e;rw[iF];exact Nat.le_max_left ..
 |x::xs,j+ 1,a,e=>by rw[iF];exact bU (depDs_get (j:=j) e) (Nat.le_max_right ..)
 |[],_,_,e=>by simp at e
theorem yf {v:V} (h:oR v=true):eqV v v=true:=by
 cases v with
 |non=>rfl
 |bl b=>show(b==b)=true;simp
 |int i=>show(i==i)=true;simp
 |str x=>show(x==x)=true;simp
 |_=>exact absurd h dJ
section
variable {X:Cx} {pz:List (Addr×Obj)} {σ:St} {H:Hp} {s:Shared}
def Els (K:PySem.W.Frag) (H:Hp) (A:Around) (s:Shared) (ds es:List Dt):Prop:=
 ∀(j:Nat) (d1 d2:Dt) (x y:V) (u v:Value),ds[j]?=some d1->es[j]?=some d2->gN x u->gN y v->At K H x d1->At K H y d2->SeqAt.EqAt A s u v (eqD d1 d2)
theorem els {A:Around} {xs ys:List V} {its its2:List Value} {ds es:List Dt} (r:gG xs its) (r2:gG ys its2) (hs:Ats X.K H xs ds) (hs':Ats X.K H ys es) (EL:Els X.K H A s ds es):
  ∀j (h1:j<its.toArray.size) (h2:j<its2.toArray.size),SeqAt.EqAt A s its.toArray[j] its2.toArray[j] (ye ds es j):=fun j h1 h2=>by
 have l1:=r.length
 have l2:=r2.length
 have h1':j<xs.length:=by simp only[aw]at h1;lia
 have h2':j<ys.length:=by simp only[aw]at h2;lia
 obtain⟨w1,e1,q1⟩:=r.get (aZ h1')
 obtain⟨w2,e2,q2⟩:=r2.get (aZ h2')
 obtain⟨d1,f1,p1⟩:=hs.get (aZ h1')
 obtain⟨d2,f2,p2⟩:=hs'.get (aZ h2')
 have g1:its.toArray[j]=w1:=by simpa using(ao.mp e1).2
 have g2:its2.toArray[j]=w2:=by simpa using(ao.mp e2).2
 have ed:ye ds es j=eqD d1 d2:=by unfold ye;rw[f1,f2]
 rw[g1,g2,ed]
 exact EL j d1 d2 _ _ _ _ f1 f2 q1 q2 p1 p2
theorem BV {ds es:List Dt} {n m:Nat} (h1:n=ds.length) (h2:m=es.length):((aa (min n m)).all (ye ds es)&&n==m)=eqD (.tup ds) (.tup es):=by
 subst h1 h2
 rw[eqD]
 by_cases hl:ds.length=es.length
 ·rw[<-rj ds es hl,<-hl,Nat.min_self]
  simp
 ·rw[vz ds es hl,beq_eq_false_iff_ne.mpr hl,Bool.and_false]
theorem DN {A:Around} {a b:Addr} {xs ys:List V} {ds es:List Dt} (I:Inv X pz σ H s) (h:SqT X.K H a xs) (hs:Ats X.K H xs ds) (h':SqT X.K H b ys) (hs':Ats X.K H ys es) (hu:A.units<cLine) (EL:Els X.K H A.in1 s ds es):
  SeqAt.RcAt A s (.ref a) (.ref b) (eqD (.tup ds) (.tup es))/\SeqAt.RcNeAt A s (.ref a) (.ref b) (!eqD (.tup ds) (.tup es)):=by
 obtain⟨its,r,pl,_⟩:=I.tuple h
 obtain⟨its2,r2,pl2,_⟩:=I.tuple h'
 have e:=els r r2 hs hs' EL
 have l1:its.toArray.size=ds.length:=by rw[aw,<-r.length,hs.length]
 have l2:its2.toArray.size=es.length:=by rw[aw,<-r2.length,hs'.length]
 have k1:=SeqAt.RcAt.tuples (A:=A) (s:=s) pl pl2 hu e
 have k2:=SeqAt.RcNeAt.tuples (A:=A) (s:=s) pl pl2 hu e
 rw[BV l1 l2]at k1 k2
 exact⟨k1,k2⟩
end
section
variable {X:Cx}
end
def BW (P:Program) (w:World) (K:PySem.W.Frag) (a:Addr) (kvs:List (Key×V)):Prop:=(a==sysModules)=false/\∃vs,KV kvs vs/\∀h:Heap,K.In h->h.DictOf (iH P w) a vs
theorem zT {P:Program} {w:World} {K:PySem.W.Frag} {a:Addr} {es:Array DictEntry} {n:Nat} {l:List (Str×Tok×Addr)} (ha:(a==sysModules)=false) (hl:K.lookup a=some ⟨.type "dict",none,.dict es n,#[]⟩)
  (he:es.toList=l.map fun p=>⟨PyData.keyHash w.params p.1,.str p.1 p.2.1,.ref p.2.2⟩) (hn:(l.map (·.1)).Nodup):BW P w K a (l.map fun p=>(Sum.inr p.1,V.ref p.2.2)):=by
 refine⟨ha,l.map fun p=>(Sum.inr p.1,Value.ref p.2.2),?_,fun h hk=>?_⟩
 ·clear he hn
  induction l with
  |nil=>exact .nil
  |cons p r ih=>exact .cons ⟨rfl,rfl⟩ ih
 ·refine⟨_,es,n,hk _ _ hl,⟨rfl,rfl,rfl⟩,rfl,fun e hm=>?_,?_,?_⟩
  ·have hm':e∈es.toList:=by simpa using hm
   rw[he]at hm'
   obtain⟨p,_,rfl⟩:=ba.mp hm'
   exact⟨Sum.inr p.1,pk p.1 p.2.1,rfl⟩
  ·rw[he]
   clear he hn
   induction l with
   |nil=>exact .nil
   |cons p r ih=>exact .cons (pk p.1 p.2.1) rfl ih
  ·rw[bb]
   have e:(bc ((fun(x:Key×Value)=>x.1)∘fun(p:Str×Tok×Addr)=>((Sum.inr p.1:Key),Value.ref p.2.2)) l)=(l.map (·.1)).map (Sum.inr:Str->Key):=by
    rw[bb]
    rfl
   rw[e]
   exact List.Pairwise.map _ (fun a b h z=>h (Sum.inr.inj z)) hn
def Fo (a:Addr) (kvs:List (Key×V)) (td ty:TE):TE:=fun σ H Q=>td σ H fun x H1=>ty σ H1 fun y H2=>∃k v,x= .ref a/\y=kV k/\kN kvs k=some v/\Q v H2
section
variable {X:Cx} {o i:Expr} {pos:Pos} {td ty:TE} {a:Addr} {kvs:List (Key×V)}
theorem BX (d:BW X.prog X.w X.K a kvs) (ho:PE X o td) (hi:PE X i ty) (hs:Ff i:=by exact fun _ _=>rfl):PE X (.Subscript o i pos) (Fo a kvs td ty):=by
 intro pz s σ H Q I h
 refine xS dw.lookup hs (thn (ho pz s σ H _ I h) fun u s1 ⟨x,H1,I1,rx,q1⟩=>thn (hi pz s1 σ H1 _ I1 q1) fun iv s2 ⟨y,H2,I2,ry,k,v,ex,ey,hv,q2⟩=>?_)
 subst ex ey
 obtain rfl:u=Value.ref a:=rx
 obtain⟨_,vs,rel,dd⟩:=d
 obtain⟨w',hw,rw'⟩:=rJ.some_of (v:=v) (o:=valueAt vs k) (by rw[<-hv];exact rel.val k)
 exact⟨(dd _ I2.kIn).typeIs,wpAny_getItem_of (zO ry) (dd _ I2.kIn).mapOf hw ⟨v,H2,I2.tok _,rw',q2⟩⟩
end
section
variable {X:Cx}
end
section
variable {X:Cx} {k:Nat} {f Y:Addr} {fd:FuncData} {ps:List Str} {sp:Sp} {dvs:List V} {ds:List Value} {x y n:Str} {p pos pos' py hpos tpos pn:Pos} {e:Expr} {es:List Expr} {t:TA} {b₀:Stmt} {body:List Stmt} {tb:TS} {i:Nat}
end
end L2.Internal
namespace L2.Internal
end L2.Internal
namespace L2.Internal
open PySem PySem.Spec PyProof.Rows
section
variable {X:Cx} {pz:List (Addr×Obj)} {σ:St} {H:Hp} {s:Shared} {h':Heap}
theorem Inv.turnedL {t':Nat} {ch:List Addr} (I:Inv X pz σ H s) (k:∀b o,b∉ch->s.heap.get? b=some o->h'.get? b=some o) (hf:∀b∈ch,uF X pz H b):Inv X pz σ H {s with heap:=h',toks:=t'}:=by
 have nit:∀b u,H b=some u->b∉ch:=fun b u e z=>by
  have q:=(hf b z).1
  rw[q]at e;cases e
 refine I.step (g':=s.gens) (d':=s.drawn) (ch:=ch) (fun b hb=>?_) (fun b o _ _ hc e _=>k b o hc e) (fun b o _ _ hc e _=>⟨o.slots,k b o hc e⟩) (fun _ _ _ _ n=>n)
  (fun b o hc e=>⟨o,k b o hc e⟩) (fun _ _ e=>e) (fun _ _ _ e=>e) (fun b ps e=>⟨#[],by rw[e];simp⟩) (fun m hm=>?_) (fun b u e=>?_) I.bare
 ·obtain⟨_,f1,_,f3,f4,f5⟩:=hf b hb
  exact⟨f3,f1,f4,f5⟩
 ·obtain⟨o,es,ep,ho,r⟩:=hm
  exact⟨o,es,ep,k _ o (fun z=>(hf _ z).2.1 rfl) ho,r⟩
 ·refine(I.hok b u e).stay (fun c v hc q=>k c v ?_ q) (fun _ q=>q) fun _ _ q=>q
  rcases hc with z|z
  ·rw[z];exact nit b u e
  ·exact nit c _ z
theorem Inv.pairNew {T:Addr} {h:Heap} {tk:Nat} {ux uy:Value} {x y:V} (I:Inv X pz σ H s) (hT:s.heap.objs.size<=T) (J:Inv X pz σ H {s with heap:=h,toks:=tk}) (ht:uw h T #[ux,uy]) (rx:gN x ux) (ry:gN y uy):
  H T=none/\Inv X pz σ (upd H T (.tup [x,y])) {s with heap:=h,toks:=tk}:=by
 have f:=I.fpOk (H':=H) hT (I.hok.fresh hT)
 refine⟨f.1,J.track f.1 ?_ f.2.1 f.2.2.2.2.1 f.2.2.2.2.2 ⟨by show 2<=sizeLine;decide,[ux,uy],.cons rx (.cons ry .nil),ht⟩⟩
 cases q:X.s₀.heap.get? T with
 |none=>rfl
 |some o=>exact absurd (bR (dX q) (bU I.sz hT)) (bS _)
end
def Itz (K:PySem.W.Frag) (a b:Addr):It:=
 ⟨fun i H=>∃xs ys x y,SqL K H a xs/\SqL K H b ys/\xs[i]?=some x/\ys[i]?=some y,
   fun i H v H'=>∃T x y,v= .ref T/\H T=none/\H'=upd H T (.tup [x,y])/\(∀xs,SqL K H a xs->xs[i]?=some x)/\∀ys,SqL K H b ys->ys[i]?=some y,
   fun i H=>∃xs ys,SqL K H a xs/\SqL K H b ys/\i=min xs.length ys.length⟩
def ZSt (z TI TO i1 i2 a b:Addr) (i:Nat) (h:Heap):Prop:=IsZip h z TI TO .none/\IsPair h TI (.ref i1) (.ref i2)/\(∃u v,IsPair h TO u v)/\h.IsListIter i1 a i/\h.IsListIter i2 b i
theorem zU {P:Program} {w:World} {K:PySem.W.Frag} {es:List Expr} {kk:Nat} {tp:Pos} {a b z TI TO i1 i2:Addr} (D:ZipApart z TI TO i1 i2 a b):zJ P w K (.Tuple es kk tp) (Itz K a b) [z,TI,TO,i1,i2] z (ZSt z TI TO i1 i2 a b) where
 mem:=by simp
 obj:=fun i h st c hc=>by
  obtain⟨g1,g2,⟨u,v,g3⟩,⟨o4,g4,_,d4⟩,⟨o5,g5,_,d5⟩⟩:=st
  simp only[ai,bf,or_false]at hc
  rcases hc with e|e|e|e|e<;>subst e
  ·exact⟨_,g1,fun v q=>nomatch q⟩
  ·exact⟨_,g2,fun v q=>nomatch q⟩
  ·exact⟨_,g3,fun v q=>nomatch q⟩
  ·exact⟨_,g4,fun v q=>by rw[d4]at q;cases q⟩
  ·exact⟨_,g5,fun v q=>by rw[d5]at q;cases q⟩
 keep:=fun i h h' st k=>by
  obtain⟨g1,g2,⟨u,v,g3⟩,g4,g5⟩:=st
  exact⟨k z (by simp) _ g1,k TI (by simp) _ g2,⟨u,v,k TO (by simp) _ g3⟩,g4.at fun o e=>k i1 (by simp) o e,g5.at fun o e=>k i2 (by simp) o e⟩
 item:=by
  intro X hP hw hK hc i pz s σ H E I hf st hg
  subst hP hw hK
  obtain⟨xs,ys,x,y,qx,qy,ex,ey⟩:=hg
  obtain⟨i1s,r1,p1,z1⟩:=I.list qx
  obtain⟨i2s,r2,p2,z2⟩:=I.list qy
  obtain⟨g1,g2,g3,g4,g5⟩:=st
  obtain⟨u3,v3,g3'⟩:=g3
  obtain⟨ux,hux,rr1⟩:=r1.get ex
  obtain⟨uy,huy,rr2⟩:=r2.get ey
  have hw:∀c∈[z,TO,i1,i2],uF X pz H c:=fun c hc=>hf c (by simp only[ai,bf,or_false]at hc⊢;rcases hc with h|h|h|h<;>simp[h])
  refine wpAny_pyNext_zip_item D g1 g2 g3' g4 g5 p1.isList p2.isList (x:=ux) (y:=uy) (by simpa using hux) (by simpa using huy) fun h1 a1 a2 a3 a4 a5 a6 hk=>?_
  have kk1:∀c o,c∉[z,TO,i1,i2]->s.heap.get? c=some o->h1.get? c=some o:=fun c o hc e=>hk c o (fun q=>hc (by simp[q])) (fun q=>hc (by simp[q])) (fun q=>hc (by simp[q])) (fun q=>hc (by simp[q])) e
  have J1:Inv X pz σ H {s with heap:=h1,toks:=s.toks}:=I.turnedL kk1 hw
  refine⟨.ref s.heap.objs.size,rfl,wpAny_letOwnedTupleGo_zip a1 fun h2 a1' sb=>?_⟩
  have J2:Inv X pz σ H {s with heap:=h2,toks:=s.toks}:=Inv.turnedL (s:={s with heap:=h1,toks:=s.toks}) (h':=h2) (t':=s.toks) (ch:=[z]) J1 (fun c o hc e=>sb.extBut _ _ (fun q=>hc (by simp[q])) e) fun c hc=>hf c (by simp only[ai,bf,or_false]at hc⊢;simp[hc])
  have zlt:z<s.heap.objs.size:=dX g1
  have ht2:uw h2 s.heap.objs.size #[ux,uy]:=⟨_,sb.extBut _ _ (bW zlt) a5,rfl,_,rfl,rfl⟩
  obtain⟨fT,J3⟩:=I.pairNew (bX _) J2 ht2 rr1 rr2
  refine⟨.ref s.heap.objs.size,_,J3,rfl,⟨_,x,y,rfl,fT,rfl,fun l hl=>by rw[I.list_inj hl qx];exact ex,fun l hl=>by rw[I.list_inj hl qy];exact ey⟩,
   ⟨a1',sb.extBut _ _ D.TIz (hk _ _ D.TIz D.TITO D.TIi1 D.TIi2 g2),⟨_,_,sb.extBut _ _ D.TOz a2⟩,a3.extBut sb.extBut D.i1z,a4.extBut sb.extBut D.i2z⟩,fun c hc=>?_⟩
  rw[eN (fun q=>?_)]
  ·exact(hf c hc).1
  ·have lt:c<s.heap.objs.size:=by
    obtain⟨o4,e4,_⟩:=g4
    obtain⟨o5,e5,_⟩:=g5
    simp only[ai,bf,or_false]at hc
    rcases hc with e|e|e|e|e<;>subst e
    ·exact dX g1
    ·exact dX g2
    ·exact dX g3'
    ·exact dX e4
    ·exact dX e5
   exact absurd lt (by rw[q];exact bS _)
 done:=by
  intro X hP hw hK hc i pz s σ H E I hf st hg
  subst hP hw hK
  obtain⟨xs,ys,qx,qy,ei⟩:=hg
  obtain⟨i1s,r1,p1,z1⟩:=I.list qx
  obtain⟨i2s,r2,p2,z2⟩:=I.list qy
  obtain⟨g1,g2,g3,g4,g5⟩:=st
  have W:=WalksT.zip2 (prog:=X.prog) (w:=X.w) (I.ok.hd hc) z TI TO i1 i2 a b D i1s.toArray i2s.toArray
  have l1:=r1.length
  have l2:=r2.length
  have e:i=min i1s.toArray.size i2s.toArray.size:=by simp only[aw];lia
  subst e
  exact W.done s _ _ ⟨g1,g2,g3,g4,g5,p1.isList,p2.isList⟩ fun h1 tk hk=>⟨rfl,I.turnedL hk fun c hc=>hf c (by simp only[ai,bf,or_false]at hc⊢;rcases hc with h|h|h|h<;>simp[h])⟩
 self:=fun _ _ _ _ _ st h=>wpAny_pyIter_zip st.1 h
theorem yg:bootBuiltins "zip"=some (.type "zip"):=fo
theorem oG:bootBuiltins "enumerate"=some (.type "enumerate"):=fo
theorem SqL.old {X:Cx} {pz:List (Addr×Obj)} {σ:St} {H:Hp} {s:Shared} {a:Addr} {xs:List V} (I:Inv X pz σ H s) (h:SqL X.K H a xs):a<s.heap.objs.size:=by
 obtain⟨its,_,p,_⟩:=I.list h
 obtain⟨o,e,_⟩:=p.isList
 exact dX e
def iZip (K:PySem.W.Frag) (ta:TA):TI:=fun σ H R=>ta σ H fun vs H1=>∃a b,vs=[.ref a,.ref b]/\(∃xs,SqL K H1 a xs)/\(∃ys,SqL K H1 b ys)/\R (Itz K a b) H1
section
variable {X:Cx}
theorem yh {es:List Expr} {kk:Nat} {tp:Pos} {a b:Expr} {ta:TA} {p pos:Pos} (hg:Gl X "zip") (hm:X.mg "zip"=none) (ha:PA X [a,b] ta) (hs:autoParam (starEach [a,b] X.env=[(false,eval a X.env),(false,eval b X.env)]) L2.Internal.auR._auto_1) (hs2:autoParam (starEach [b] X.env=[(false,eval b X.env)]) L2.Internal.auR._auto_1):
  PI X (.Tuple es kk tp) (.Call (.Name "zip" p) [a,b] [] pos) (iZip X.K ta):=by
 intro pz s σ H R I h
 refine Call_ (lU I hg hm yg (eB (thn (ha pos pz s σ H _ I h) fun us s1 ⟨vs,H1,I1,r1,q1⟩=>?_) (by rw[hs,hs2]) (by rw[hs2];rfl)))
 obtain⟨l1,l2,e,⟨xs,q1⟩,⟨ys,q2⟩,q⟩:=q1
 subst e
 obtain⟨u,v,rfl,ru,rv⟩:=wm r1
 cases ru
 cases rv
 obtain⟨i1s,w1,p1,z1⟩:=I1.list q1
 obtain⟨i2s,w2,p2,z2⟩:=I1.list q2
 have o1:@LT.lt Nat _ l1 s1.heap.objs.size:=SqL.old I1 q1
 have o2:@LT.lt Nat _ l2 s1.heap.objs.size:=SqL.old I1 q2
 refine call_zip_2 p1.isList p2.isList fun h1 hz hTI hTO hi1 hi2 hsz hk=>wpAny_pyIter_zip hz ?_
 have D:ZipApart (s1.heap.objs.size+ 4) (s1.heap.objs.size+ 2) (s1.heap.objs.size+ 3) s1.heap.objs.size (s1.heap.objs.size+ 1) l1 l2:=by constructor<;>exact fun(h:@Eq Nat _ _)=>by lia
 refine⟨_,_,_,_,H1,rfl,I1.kept (t':=s1.toks) hk,zU D,⟨hz,hTI,⟨_,_,hTO⟩,hi1,hi2⟩,fun c hc=>?_,q⟩
 have ge:s1.heap.objs.size<=c:=by
  simp only[ai,bf,or_false]at hc
  rcases hc with h|h|h|h|h<;>rw[h]<;>first|exact bX _|exact bZ _ _
 exact I1.fpOk ge (I1.hok.fresh ge)
end
def Ite (K:PySem.W.Frag) (a:Addr):It:=
 ⟨fun i H=>∃xs x,SqL K H a xs/\xs[i]?=some x,
   fun i H v H'=>∃T x,v= .ref T/\H T=none/\H'=upd H T (.tup [.int (i:Int),x])/\∀xs,SqL K H a xs->xs[i]?=some x,
   fun i H=>∃xs,SqL K H a xs/\i=xs.length⟩
def ESt (e it a:Addr) (i:Nat) (h:Heap):Prop:=(∃old,IsEnum h e it i old)/\h.IsListIter it a i
theorem yi {P:Program} {w:World} {K:PySem.W.Frag} {es:List Expr} {kk:Nat} {tp:Pos} {a e it:Addr} (h1:e≠it) (h2:a≠e) (h3:a≠it):zJ P w K (.Tuple es kk tp) (Ite K a) [e,it] e (ESt e it a) where
 mem:=by simp
 obj:=fun i h st c hc=>by
  obtain⟨⟨old,g1⟩,⟨o4,g4,_,d4⟩⟩:=st
  simp only[ai,bf,or_false]at hc
  rcases hc with q|q<;>subst q
  ·exact⟨_,g1,fun v q=>nomatch q⟩
  ·exact⟨_,g4,fun v q=>by rw[d4]at q;cases q⟩
 keep:=fun i h h' st k=>by
  obtain⟨⟨old,g1⟩,g4⟩:=st
  exact⟨⟨old,k e (by simp) _ g1⟩,g4.at fun o q=>k it (by simp) o q⟩
 item:=by
  intro X hP hw hK hc i pz s σ H E I hf st hg
  subst hP hw hK
  obtain⟨xs,x,qx,ex⟩:=hg
  obtain⟨i1s,r1,p1,z1⟩:=I.list qx
  obtain⟨g1,g4⟩:=st
  obtain⟨old,g1'⟩:=g1
  obtain⟨ux,hux,rr1⟩:=r1.get ex
  have lte:e<s.heap.objs.size:=dX g1'
  refine wpAny_pyNext_enum_item g1' g4 p1.isList (x:=ux) (by simpa using hux) h1 fun k1 ho hit' hT hsz hk=>?_
  have kk1:∀c o,c∉[e,it]->s.heap.get? c=some o->k1.get? c=some o:=fun c o hc q=>hk c o (fun z=>hc (by simp[z])) (fun z=>hc (by simp[z])) q
  have J1:Inv X pz σ H {s with heap:=k1,toks:=s.toks+ 1}:=I.turnedL kk1 hf
  refine⟨.ref s.heap.objs.size,rfl,wpAny_letOwnedTupleGo_enum ho fun k2 he' sb=>?_⟩
  have J2:Inv X pz σ H {s with heap:=k2,toks:=s.toks+ 1}:=Inv.turnedL (s:={s with heap:=k1,toks:=s.toks+ 1}) (h':=k2) (t':=s.toks+ 1) (ch:=[e]) J1 (fun c o hc q=>(sb.2 c (fun z=>hc (by simp[z]))).trans q) fun c hc=>hf c (by simp only[ai,bf,or_false]at hc⊢;simp[hc])
  have ht2:uw k2 s.heap.objs.size #[.int i s.toks,ux]:=⟨_,(sb.2 _ (bW lte)).trans hT,rfl,_,rfl,rfl⟩
  obtain⟨fT,J3⟩:=I.pairNew (x:= .int (i:Int)) (bX _) J2 ht2 ⟨s.toks,rfl⟩ rr1
  refine⟨.ref s.heap.objs.size,_,J3,rfl,⟨_,x,rfl,fT,rfl,fun l hl=>by rw[I.list_inj hl qx];exact ex⟩,⟨⟨_,by simpa using he'⟩,hit'.at fun o y=>(sb.2 it h1.symm).trans y⟩,fun c hc=>?_⟩
  rw[eN (fun q=>?_)]
  ·exact(hf c hc).1
  ·have lt:c<s.heap.objs.size:=by
    obtain⟨o4,e4,_⟩:=g4
    simp only[ai,bf,or_false]at hc
    rcases hc with q|q<;>subst q
    ·exact lte
    ·exact dX e4
   exact absurd lt (by rw[q];exact bS _)
 done:=by
  intro X hP hw hK hc i pz s σ H E I hf st hg
  subst hP hw hK
  obtain⟨xs,qx,ei⟩:=hg
  obtain⟨i1s,r1,p1,z1⟩:=I.list qx
  obtain⟨g1,g4⟩:=st
  have W:=WalksT.enumerate (prog:=X.prog) (w:=X.w) (I.ok.hd hc) e it a h1 h2 h3 i1s.toArray
  have l1:=r1.length
  have q:i=i1s.toArray.size:=by simp only[aw];lia
  subst q
  exact W.done s _ _ ⟨g1,g4,p1.isList⟩ fun h1 tk hk=>⟨rfl,I.turnedL hk hf⟩
 self:=fun _ _ _ _ _ st h=>by
  obtain⟨⟨old,g1⟩,_⟩:=st
  exact wpAny_pyIter_enum g1 h
def Fp (K:PySem.W.Frag) (ta:TA):TI:=fun σ H R=>ta σ H fun vs H1=>∃a,vs=[.ref a]/\(∃xs,SqL K H1 a xs)/\R (Ite K a) H1
section
variable {X:Cx}
theorem yj {es:List Expr} {kk:Nat} {tp:Pos} {a:Expr} {ta:TA} {p pos:Pos} (hg:Gl X "enumerate") (hm:X.mg "enumerate"=none) (ha:PA X [a] ta) (hs:autoParam (starEach [a] X.env=[(false,eval a X.env)]) L2.Internal.auR._auto_1):
  PI X (.Tuple es kk tp) (.Call (.Name "enumerate" p) [a] [] pos) (Fp X.K ta):=by
 intro pz s σ H R I h
 refine Call_ (lU I hg hm oG (eB (thn (ha pos pz s σ H _ I h) fun us s1 ⟨vs,H1,I1,r1,q1⟩=>?_) hs rfl))
 obtain⟨l1,e,⟨xs,q1⟩,q⟩:=q1
 subst e
 obtain⟨u,rfl,ru⟩:=oP r1
 cases ru
 obtain⟨i1s,w1,p1,z1⟩:=I1.list q1
 have o1:@LT.lt Nat _ l1 s1.heap.objs.size:=SqL.old I1 q1
 refine call_enumerate_list p1.isList fun h1 hE hi1 hsz hk=>wpAny_pyIter_enum hE ?_
 refine⟨_,_,_,_,H1,rfl,I1.kept (t':=s1.toks) hk,yi (fun(h:@Eq Nat _ _)=>by lia) (fun(h:@Eq Nat _ _)=>by lia) (fun(h:@Eq Nat _ _)=>by lia),⟨⟨_,hE⟩,hi1⟩,fun c hc=>?_,q⟩
 have ge:s1.heap.objs.size<=c:=by
  simp only[ai,bf,or_false]at hc
  rcases hc with h|h<;>rw[h]<;>first|exact bX _|exact bZ _ _
 exact I1.fpOk ge (I1.hok.fresh ge)
end
def LcG (J:It) (g:TG) (te:TE) (Q:VK) (τ:St) (H1:Hp) (D:Addr):Prop:=
 ∃W:Nat->Nat->St->Hp->Prop,(∃m,W 0 m τ (upd H1 D (.lst [])))/\∀k m σ' H2,W k m σ' H2->
  (J.stop k H2/\Q (.ref D) H2)\/(J.go k H2/\∀v H3,J.yld k H2 v H3->g v σ' H3 fun σ4 H4=>te σ4 H4 fun y H5=>∃xs,H5 D=some (.lst xs)/\xs.length<sizeLine/\∃m',m'<m/\W (k+ 1) m' σ4 (upd H5 D (.lst (xs++[y]))))
def tLG (wi:TI) (f:St->St) (g:TG) (te:TE):TE:=fun σ H Q=>wi σ H fun J H1=>∀D,H1 D=none->LcG J g te Q (f σ) H1 D
theorem yk {X:Cx} {elt iter:Expr} {es:List Expr} {kk:Nat} {tp:Pos} {x:Str} {scope:Scope} {pos:Pos} {N:List Str} {cl:List (Str×Addr)} {f:St->St} {i:Nat} {wi:TI} {g:TG} {te:TE}
  (hc:X.calm=true) (B:pL X N scope cl f i x) (hi:PI X (.Tuple es kk tp) iter wi)
  (hg:∀C s₀ H₀ ex pz,PG (blk X N scope cl C s₀ H₀ ex pz) (.Tuple es kk tp) g) (hte:∀C s₀ H₀ ex pz,PE (blk X N scope cl C s₀ H₀ ex pz) elt te)
  (hs:autoParam (∀x,foldedSetIterable iter X.env x=pure x) L2.Internal.auI._auto_1):PE X (.ListComp elt [⟨.Tuple es kk tp,iter,[],0⟩] scope pos) (tLG wi f g te):=by
 intro pz s σ H Q I h
 rw[eval_ListComp]
 refine wpAny_comprehension_free (use:=none) rfl hs B.clos B.kind B.names (thn (hi pz s σ H _ I h) fun xv s1 h1=>thn h1 fun itv s2 h2=>?_)
 obtain⟨it,fp,tn,J,H2,rfl,I2,T,st2,f2,q⟩:=h2
 have hD:H2 s2.heap.objs.size=none:=I2.fresh
 obtain⟨W,⟨m0,w0⟩,turn⟩:=q _ hD
 refine wpAny_newObj_type (wpAny_newFunctionEnv B.cell (by intro y hy;simp at hy) (fun h₁ hns₁ hsb₁=>?_) B.kind)
 have I3:Inv X pz σ (upd H2 s2.heap.objs.size (.lst [])) {s2 with heap:=s2.heap.push {cls:= .type "list",data:= .seq ([]:List Value).toArray}}:=I2.lnew (its:=[]) (ys:=[]) (t':=s2.toks) .nil (bY _)
 have lt2:∀b∈fp,b<s2.heap.objs.size:=fun b hb=>by
  obtain⟨o,ho,_⟩:=T.obj _ _ st2 b hb
  exact dX ho
 have fp3:∀b∈fp,uF X pz (upd H2 s2.heap.objs.size (.lst [])) b:=fun b hb=>by
  refine⟨?_,(f2 b hb).2⟩
  rw[eN (bT (lt2 b hb))]
  exact(f2 b hb).1
 generalize hs3:({s2 with heap:=s2.heap.push {cls:= .type "list",data:= .seq ([]:List Value).toArray}}:Shared)=s3 at I3 hns₁ hsb₁⊢
 have eh:s2.heap.push {cls:= .type "list",data:= .seq ([]:List Value).toArray}=s3.heap:=by rw[<-hs3]
 have lt3:∀b∈fp,b<s3.heap.objs.size:=fun b hb=>by
  rw[<-eh,d7]
  exact Nat.lt_succ_of_lt (lt2 b hb)
 have old:∀b o,s3.heap.get? b=some o->h₁.get? b=some o:=fun b o e=>hsb₁.extBut b o (bT (dX e)) (dZ _ e)
 have I4:=yc (tk:=s3.toks+([]:List (Str×Value)).length) B I3 (ex:=fp) (fun b hb=>⟨fp3 b hb,lt3 b hb⟩) old hns₁
 have st4:tn 0 h₁:=T.keep _ _ _ st2 fun b _ o e=>old b o (by rw[<-eh];exact dZ _ e)
 have fpB:∀{H':Hp},(∀b∈fp,H' b=none)->∀b∈fp,uF (blk X N scope cl s3.heap.objs.size s3 (upd H2 s2.heap.objs.size (.lst [])) fp pz) [] H' b:=fun{H'} hn b hb=>by
  obtain⟨_,g2,g3,g4,g5,g6⟩:=f2 b hb
  refine⟨hn b hb,bT (lt3 b hb),fun z=>(ai.mp (I3.stkSub b z)).elim g2 g3,.inl hb,fun y c e=>g5 y c (B.lk y c e),fun p hp=>?_⟩
  rw[aB]at hp
  exact g6 p hp
 have loop:∀s4:Shared,s4={s3 with heap:=h₁,toks:=s3.toks+([]:List (Str×Value)).length}->
   codeAny (model X.prog X.w) X.A (.compLoop (.ListComp elt [⟨.Tuple es kk tp,iter,[],0⟩] scope pos) 0 (.ref it) (.ref s2.heap.objs.size) (compEnvC scope cl s3.heap.objs.size X.env))
    (compPost (model X.prog X.w) X.A X.xe none (EP X pz σ Q) (.ref s2.heap.objs.size) s3.heap.objs.size) s4:=by
  rintro s4 rfl
  refine PyProof.Rows.LCp.codeAny_compLoop_pair (I:=fun n s'=>∃k σ' H',Inv (blk X N scope cl s3.heap.objs.size s3 (upd H2 s2.heap.objs.size (.lst [])) fp pz) [] σ' H' s'/\tn k s'.heap/\(∀b∈fp,H' b=none)/\W k n σ' H') ?_ m0
   ⟨0,f σ,_,I4,st4,fun b hb=>(fp3 b hb).1,w0⟩
  rintro n s5 ⟨k,σ5,H5,I5,st5,fr5,w5⟩
  rcases turn k n σ5 H5 w5 with⟨stop,qn⟩|⟨go,step⟩
  ·refine wpAny_mono (T.done (blk X N scope cl s3.heap.objs.size s3 (upd H2 s2.heap.objs.size (.lst [])) fp pz) rfl rfl rfl hc k [] s5 σ5 H5 _ I5 (fpB fr5) st5 stop) (fun r s6 h6=>?_) fun _ _ z=>z
   obtain⟨hr,I6⟩:=h6
   subst hr
   obtain⟨m6,hn6,_⟩:=id I6.loc
   refine⟨m6,hn6,fun h' sb=>?_⟩
   have nC:∀b o,s3.heap.get? b=some o->b≠s3.heap.objs.size:=fun b o e=>bT (dX e)
   have u6:Un (frs X.stack) fp (upd H2 s2.heap.objs.size (.lst [])) H5 s3.heap s6.heap:=I6.base
   have u7:Un (frs X.stack) fp (upd H2 s2.heap.objs.size (.lst [])) H5 s3.heap h':=
    ⟨fun b o e z1 z2 z3=>(sb.2 b (nC b o e)).trans (u6.keep b o e z1 z2 z3),fun b o e z1 z2 z3=>by
     obtain⟨sl,e1⟩:=u6.slot b o e z1 z2 z3
     exact⟨sl,(sb.2 b (nC b o e)).trans e1⟩,u6.free,fun b o e z=>by
     obtain⟨o',e1⟩:=u6.there b o e z
     exact⟨o',(sb.2 b (nC b o e)).trans e1⟩,u6.tups,u6.frzs,u6.tbls⟩
   have hok7:HOk X.prog X.w H5 h':=fun b o e=>(I6.hok b o e).stay (fun c w' hcc e1=>(sb.2 c (fun z=>by
     have fr:H5 s3.heap.objs.size=none:=I6.free
     rcases hcc with y|y
     ·rw[<-y,z,fr]at e;cases e
     ·rw[z,fr]at y;cases y)).trans e1) (fun _ z=>z) fun _ _ z=>z
   have I7:Inv X pz σ H5 {s6 with heap:=h'}:=I3.call' (s':={s6 with heap:=h'}) (ch:=fp) I6.os u7 hok7 I6.bare fun b hb=>by
    obtain⟨_,g2,g3,g4,g5,g6⟩:=f2 b hb
    exact⟨g4,g2,g5,g6⟩
   exact⟨.ref s2.heap.objs.size,H5,I7,rfl,qn⟩
  ·refine wpAny_mono (T.item (blk X N scope cl s3.heap.objs.size s3 (upd H2 s2.heap.objs.size (.lst [])) fp pz) rfl rfl rfl hc k [] s5 σ5 H5 _ I5 (fpB fr5) st5 go) (fun r s6 h6=>?_) fun _ _ z=>z
   obtain⟨u,hr,h6⟩:=h6
   subst hr
   refine wpAny_mono h6 (fun _ s7 h7=>?_) fun _ _ z=>z
   obtain⟨v,H7,I7,r7,y7,st7,fr7⟩:=h7
   have I7':=I7.pinned (fpB fr7) (T.obj _ _ st7)
   have back:∀{σ9:St} {H9:Hp} {s9:Shared},Inv (blk X N scope cl s3.heap.objs.size s3 (upd H2 s2.heap.objs.size (.lst [])) fp pz) ([]++qX fp s7.heap) σ9 H9 s9->(∃m',m'<n/\W (k+ 1) m' σ9 H9)->
     ∃m',m'<n/\∃k σ' H',Inv (blk X N scope cl s3.heap.objs.size s3 (upd H2 s2.heap.objs.size (.lst [])) fp pz) [] σ' H' s9/\tn k s9.heap/\(∀b∈fp,H' b=none)/\W k m' σ' H':=fun{σ9 H9 s9} I9 q9=>by
    obtain⟨m',hm,w9⟩:=q9
    refine⟨m',hm,k+ 1,σ9,H9,I9.unpinned,T.keep _ _ _ st7 fun b hb o e=>(I9.pin (b,o) (av _ (av _ (jA hb e)))).1,fun b hb=>?_,w9⟩
    obtain⟨o,e,d⟩:=T.obj _ _ st7 b hb
    exact(I9.pin (b,o) (av _ (av _ (jA hb e)))).2.1
   refine wpAny_mono (hg s3.heap.objs.size s3 (upd H2 s2.heap.objs.size (.lst [])) fp pz _ s7 σ5 H7 v u _ I7' r7 (step v H7 y7)) (fun _ s8 h8=>?_) fun _ _ z=>False.elim z
   obtain⟨σ8,H8,I8,q8⟩:=h8
   refine wpAny_mono (hte _ _ _ _ _ _ s8 _ H8 _ I8 q8) (fun y s10 h10=>?_) fun _ _ z=>False.elim z
   obtain⟨v10,H10,I10,r10,xs,hx10,hz,q10⟩:=h10
   refine wpAny_mono (fh (X:=blk X N scope cl s3.heap.objs.size s3 (upd H2 s2.heap.objs.size (.lst [])) fp pz) _ s10 _ H10 (.ref s2.heap.objs.size) [v10] _ [y] (fun _ H11=>H11=upd H10 s2.heap.objs.size (.lst (xs++[v10]))) I10 rfl (.cons r10 .nil) ⟨_,xs,v10,rfl,rfl,hx10,hz,rfl⟩) (fun _ s11 h11=>?_) fun _ _ z=>False.elim z
   obtain⟨_,H11,I11,_,e11⟩:=h11
   subst e11
   exact back I11 q10
 exact codeAny_compStart_list (loop _ rfl) (T.self _ 0 _ _ _ st4 (loop _ rfl))
theorem BY {X:Cx} {scope:Scope} {x y:Str} (hk:scope.kind= .function) (hn:∀p∈scope.names,p.2≠ .cell/\p.2≠ .free) (hl:∀y∈scope.names,y.2= .local->scope.names.lookup y.1=some .local)
  (hx:scope.names.lookup x=some .local) (hxy:[x,y].Nodup) (hc:closureFor scope X.env=pure []):pL X [x,y] scope [] (fun _=>[none,none]) 0 x where
 kind:=hk
 cell:=fun y hy=>(hn y hy).1
 names:=hl
 clos:=hc
 lk:=fun y c h=>by simp at h
 has:=fun y h=>by
  rcases h with h|h
  ·obtain⟨k0,e,z⟩:=fZ h
   have m:=hn _ (PySem.mem_of_lookup e)
   rcases z with z|⟨z,_⟩
   ·exact absurd z.symm m.1
   ·exact absurd z m.2
  ·obtain⟨k0,e,z⟩:=fZ h
   have m:=hn _ (PySem.mem_of_lookup e)
   rcases z with z|⟨z,_⟩
   ·exact absurd z.symm m.2
   ·exact absurd z m.2
 nd:=hxy
 ix:=rfl
 loc:=hx
 len:=fun _ _=>rfl
 val:=fun σ k y v h1 h2=>by
  match k with
  |0=>simp at h2
  |1=>simp at h2
  |k+ 2=>simp at h2
theorem nO {z:Str}:∀{cap:List (Str×Nat×Addr)},z∈cap.map (·.1)->∃c,(cap.map fun p=>(p.1,p.2.2)).lookup z=some c
 |[],h=>by simp at h
 |p::r,h=>by
  cases e:z==p.1 with
  |true=>exact⟨p.2.2,by simp only[az,aW,e]⟩
  |false=>
   have q:z∈r.map (·.1):=by
    rcases ai.mp h with y|y
    ·rw[y]at e;simp at e
    ·exact y
   obtain⟨c,hc⟩:=nO q
   exact⟨c,by simp only[az,aW,e];exact hc⟩
theorem blkC {X:Cx} {scope:Scope} {x:Str} (ns:List Str) (cap:List (Str×Nat×Addr)) (hns:cap.map (·.1)=ns) (hk:scope.kind= .function) (hn:∀p∈scope.names,p.2≠ .cell/\(p.2= .free->p.1∈ns)) (hl:∀y∈scope.names,y.2= .local->scope.names.lookup y.1=some .local)
  (hx:scope.names.lookup x=some .local) (hnd:(x::ns).Nodup) (hc:closureFor scope X.env=pure (cap.map fun p=>(p.1,p.2.2))) (hok:X.env.scope.kind= .function)
  (h:∀p∈cap,scope.names.lookup p.1=some .free/\X.env.cells.lookup p.1=some p.2.2/\X.env.scope.names.lookup p.1=some .cell/\X.N[p.2.1]?=some p.1):
  pL X (x::ns) scope (cap.map fun p=>(p.1,p.2.2)) (fun σ=>none::cap.map fun p=>σ.getD p.2.1 none) 0 x where
 kind:=hk
 cell:=fun y hy=>(hn y hy).1
 names:=hl
 clos:=hc
 lk:=fun z c q=>by
  have m:=PySem.mem_of_lookup q
  obtain⟨p,hp,e⟩:=ba.mp m
  cases e
  exact(h p hp).2.1
 has:=fun z q=>by
  refine nO ?_
  rw[hns]
  rcases q with q|q
  ·obtain⟨k0,e,q⟩:=fZ q
   have m:=hn _ (PySem.mem_of_lookup e)
   rcases q with q|⟨q,_⟩
   ·exact absurd q.symm m.1
   ·exact m.2 q
  ·obtain⟨k0,e,q⟩:=fZ q
   have m:=hn _ (PySem.mem_of_lookup e)
   rcases q with q|⟨q,_⟩
   ·exact m.2 q.symm
   ·exact m.2 q
 nd:=hnd
 ix:=rfl
 loc:=hx
 len:=fun _ _=>by simp[<-hns]
 val:=fun σ k z v h1 h2=>by
  cases k with
  |zero=>simp at h2
  |succ k=>
   rw[<-hns,bg,aI]at h1
   rw[bg,aI]at h2
   cases e:cap[k]? with
   |none=>rw[e]at h1;cases h1
   |some p=>
    rw[e]at h1 h2
    have ez:p.1=z:=cf.inj h1
    have ev:σ.getD p.2.1 none=some v:=cf.inj h2
    subst ez
    obtain⟨a1,a2,a3,a4⟩:=h p (aK e)
    rw[bj]at ev
    refine⟨p.2.1,a4,?_,a3,iq hok a3 a1⟩
    cases q:σ[p.2.1]? with
    |none=>rw[q]at ev;cases ev
    |some o=>rw[q]at ev;exact congrArg some ev
theorem AV:∀{cs:List String} {us:List Value},gG (cs.map V.ty) us->us=cs.map Value.type
 |[],_,.nil=>rfl
 |c::cs,_,.cons h r=>by
  cases(show _=Value.type c from h)
  rw[AV r];rfl
section
variable {X:Cx}
theorem tI:m7 X (.builtin "isinstance") (fun xs H Q=>∃(x:V) (tp:Addr) (cs:List String) (t:Value) (b:Bool),xs=[x,.ref tp]/\H tp=some (.tup (cs.map V.ty))/\uz X.K H x t/\PySem.W.kitAny X.K t (cs.map Value.type)=some b/\Q (.bl b) H):=by
 intro pz s σ H xs us Q I r h
 obtain⟨x,tp,cs,t,b,rfl,htp,ty,e,q⟩:=h
 obtain⟨u,u',rfl,rx,ru'⟩:=wm r
 cases ru'
 obtain⟨_,its,rv,o,ho,hc,n,hd,_⟩:=(show hG X.prog X.w H s.heap tp (.tup (cs.map V.ty))from I.hok tp _ htp)
 cases AV rv
 obtain⟨oc,od,odt,osl⟩:=o
 cases(show oc=_ from hc)
 cases(show odt=_ from hd)
 have fin:∀tk,EP X pz σ Q (.bool b) {s with toks:=tk}:=fun tk=>⟨.bl b,H,I.tok tk,rfl,q⟩
 cases ty with
 |non=>cases(show u=Value.none from rx);exact di cO I.kIn True.intro ho e (fun z=>nomatch z) fin
 |bl y=>cases(show u=Value.bool y from rx);exact di cP I.kIn True.intro ho e (fun z=>nomatch z) fin
 |int i=>obtain⟨t,q⟩:=(show ∃t,u=Value.int i t from rx);cases q;exact di PySem.W.kitx_int I.kIn True.intro ho e (fun z=>nomatch z) fin
 |str y=>obtain⟨t,q⟩:=(show ∃t,u=Value.str y t from rx);cases q;exact di PySem.W.kitx_str I.kIn True.intro ho e (fun z=>nomatch z) fin
 |flt y=>obtain⟨t,q⟩:=(show ∃t,u=Value.float y t from rx);cases q;exact di cQ I.kIn True.intro ho e (fun z=>nomatch z) fin
 |@lst a xs ea=>
  cases(show u=Value.ref a from rx)
  obtain⟨_,_,n,_,h1⟩:=(show hG X.prog X.w H s.heap a (.lst xs)from I.hok a _ ea)
  exact di cR I.kIn ⟨_,h1,rfl⟩ ho e (fun z=>nomatch z) fin
 |@frz a ob xs ea=>
  cases(show u=Value.ref a from rx)
  obtain⟨_,_,_,n,_,h1⟩:=(show hG X.prog X.w H s.heap a (.frz ob (.lst xs))from I.hok a _ ea)
  exact di cR I.kIn ⟨_,h1,rfl⟩ ho e (fun z=>nomatch z) fin
 |@tup a xs ea=>
  cases(show u=Value.ref a from rx)
  obtain⟨_,_,_,p⟩:=(show hG X.prog X.w H s.heap a (.tup xs)from I.hok a _ ea)
  obtain⟨o,h1,h2,_⟩:=p
  exact di cS I.kIn ⟨o,h1,h2⟩ ho e (fun z=>nomatch z) fin
 |@dK a kvs ea=>
  cases(show u=Value.ref a from rx)
  obtain⟨_,_,vs,_,p⟩:=(show hG X.prog X.w H s.heap a (.dK kvs)from I.hok a _ ea)
  obtain⟨o,es,ep,h1,h2,_⟩:=p
  exact di cU I.kIn ⟨o,h1,h2.1⟩ ho e (fun z=>nomatch z) fin
 |@dT a kvs ea=>
  cases(show u=Value.ref a from rx)
  obtain⟨_,_,xs,_,o,es,ep,h1,h2,_⟩:=(show hG X.prog X.w H s.heap a (.dT kvs)from I.hok a _ ea)
  exact di cU I.kIn ⟨o,h1,h2.1⟩ ho e (fun z=>nomatch z) fin
 |@ins a C dx fs ea cl ha hn htk hm=>
  cases(show u=Value.ref a from rx)
  obtain⟨mA,O,_⟩:=pI I.hok ea
  obtain⟨od,J,_⟩:=O.look
  exact di (PySem.W.kitx_own (cl.get _) cl.hd ha hn htk hm) I.kIn J ho e (fun z=>nomatch z) fin
end
structure GI (K:PySem.W.Frag) (C:Addr) (m:Str) (f:Addr):Prop where
 ga:cJ K (.ref C) "__getattribute__"=some (some (.builtin "type.__getattribute__"))
 rd:∃mc,PySem.W.readsIn K C mc=true/\PySem.W.findCls K (.ref C) mc m=some (.val (.ref f))
 kp:cK K (.ref f)=true
section
variable {X:Cx} {CX:CXT} {k:Nat} {f C:Addr} {fd:FuncData} {ps:List Str} {sp:Sp} {dvs:List V} {ds:List Value} {E:XK} {m:Str} {pos apos:Pos} {e o:Expr} {es:List Expr} {t:TA}
theorem rS {pl:Sem Bool} (he:PE X o (tC (.ref C))) (c:GI X.K C m f) (F:qA X.prog X.w X.K X.mg X.base CX k f fd ps sp) (hr:kQ k X.A) (hb:lR X.K fd ps ds) (hd:gG dvs ds) (hx:lW CX X E) (ha:PA X (e::es) t)
  (hst:autoParam (starEach (e::es) X.env=(false,eval e X.env)::starEach es X.env) L2.Internal.auR._auto_1) (hpl:autoParam ((backTo pos (starEach es X.env)).any (·.1)=false) L2.Internal.auR._auto_1)
  (ht:eval (.Call (.Attribute o m apos) (e::es) [] pos) X.env=(do
   let ov<-eval o X.env
   standAt apos.atName
   let(f,first)<-holding [ov] (getMethod ov m pl)
   callWith pos f first (backTo pos (starEach (e::es) X.env)) (backToKw pos (keywordEach [] X.env))):=by rfl):
  PE X (.Call (.Attribute o m apos) (e::es) [] pos) (qC sp dvs E t):=by
 intro pz s σ H Q I h
 refine cX (pl:=pl) (thn (he pz s σ H (fun v H1=>v= .ref C/\qC sp dvs E t σ H1 Q) I ⟨rfl,h⟩) fun u s1 ⟨x,H1,I1,rx,ex,q⟩=>?_) ht
 subst ex
 obtain rfl:u=Value.ref C:=rx
 obtain⟨mc,hr1,hf⟩:=c.rd
 refine PySem.W.method_cls I1.kIn c.ga (PySem.W.cls_value I1.kIn hr1 hf rfl ?_)
 refine cW (first:=[]) (h₀:=X.base) I.ok.mod.kin c.kp (thn (ha pos pz _ σ H1 _ (I1.tok (s1.toks+ 1)) q) fun us s2 ⟨vs,H2,I2,r,q2⟩=>⟨I2.kIn,?_⟩) hst hpl
 exact tf (us:=us) (vs:=vs) F hr hb hd hx I2 r q2
theorem PE.or {X:Cx} {e:Expr} {t u:TE} (h:PE X e t) (h':PE X e u):PE X e (fun σ H Q=>t σ H Q\/u σ H Q):=fun pz s σ H Q I hw=>hw.elim (h pz s σ H Q I) (h' pz s σ H Q I)
theorem PI.or {X:Cx} {tg e:Expr} {t u:TI} (h:PI X tg e t) (h':PI X tg e u):PI X tg e (fun σ H R=>t σ H R\/u σ H R):=fun pz s σ H R I hw=>hw.elim (h pz s σ H R I) (h' pz s σ H R I)
end
section
variable {X:Cx}
theorem yl:bootBuiltins "max"=some (.builtin "max"):=fo
theorem ym (hc:X.calm=true):m7 X (.builtin "sum") (fun xs H Q=>∃(a:Addr) (ns:List Int),xs=[.ref a]/\SqL X.K H a (ns.map V.int)/\∀n,Q (.int n) H):=by
 intro pz s σ H xs us Q I r h
 obtain⟨a,ns,rfl,hq,q⟩:=h
 obtain⟨u,rfl,ru⟩:=oP r
 cases ru
 obtain⟨its,rv,p,hz⟩:=I.list hq
 obtain⟨zs,e⟩:=(rg rv).allInts.items
 have l:=p.isList
 rw[e]at l
 exact sum_intListG (I.ok.hd hc) l fun h' tk t' hk=>⟨.int _,H,I.kept (t':=tk) hk,⟨_,rfl⟩,q _⟩
end
theorem lO {X:Cx} {elt iter:Expr} {x y:Str} {j:Nat} {py spos:Pos} {px:Pos} {ifs:List Expr} {scope:Scope} {pos:Pos} {N:List Str} {cl:List (Str×Addr)} {f:St->St} {i:Nat} {wi:TI} {tt:TT} {te:TE}
  (hc:X.calm=true) (B:pL X N scope cl f i x) (hi:PI X (.Name x px) iter wi)
  (htt:∀C s₀ H₀ ex pz,PTs (blk X N scope cl C s₀ H₀ ex pz) ifs tt) (hte:∀C s₀ H₀ ex pz,PE (blk X N scope cl C s₀ H₀ ex pz) elt te)
  (hN:X.N.Nodup) (hj:X.N[j]?=some y) (hy:Loc X.env.scope y) (hsw:autoParam (swapsWith (.ListComp elt [⟨.Name x px,iter,ifs,0⟩] scope pos) (some (.Name y py)) spos.line X.env=pure true) L2.Internal.auR._auto_1) (hs:autoParam (∀x,foldedSetIterable iter X.env x=pure x) L2.Internal.auI._auto_1)
  (hf:autoParam (X.fn y=true\/X.env.scope.names.lookup y=some .local) L2.Internal.auL._auto_1):PS X (.Assign [.Name y py] (.ListComp elt [⟨.Name x px,iter,ifs,0⟩] scope pos) spos) (zB (tLC wi f i tt te) (fu j)):=by
 intro pz s σ H En I h
 rw[exec_Assign_Name_used _ _ _ _ hsw]
 refine wpAny_bind (wpAny_standAt (wpAny_bind ?_))
 show wpAny _ X.A (do let _<-comprehension (.ListComp elt [⟨.Name x px,iter,ifs,0⟩] scope pos) scope X.env _ (newList []) false (eval iter X.env) (some (assign (.Name y py) X.env))) _ _ s
 refine wpAny_bind (wpAny_mono (yd (Qp:=fun _ s'=>SP X pz En .next s') hc B hi htt hte hs I h fun fl s3 s6 H3 H5 d m6 I3 I7 fr hn6 qn=>?_) (fun _ s' hq=>wpAny_pure (wpAny_pure hq)) fun _ _ e=>e)
 obtain⟨oC,es,ep,hoC,hdC,hkC⟩:=id hn6
 have hCL:s3.heap.objs.size≠X.env.locals:=bW I3.lt
 have I8:Inv X (pz++[(s3.heap.objs.size,oC)]) σ H5 s6:=I7.pins_of fun p hp=>(aj.mp hp).elim (fun z=>I7.pin p (av _ z)) fun z=>by
  have ez:p=(s3.heap.objs.size,oC):=by simpa using z
  subst ez
  exact⟨hoC,fr,hCL,I3.nofs (bX _),fun v q=>by rw[hdC]at q;cases q⟩
 show wpAny _ X.A (assign (.Name y py) X.env (.ref d)) _ _ s6
 refine wpAny_assign_Name (pe (X:=X) I8 hN hj hy (v:= .ref d) rfl (fun s7 I9=>?_) hf)
 have pC:=I9.pin (s3.heap.objs.size,oC) (av _ (av _ (by simp)))
 refine⟨m6,⟨oC,es,ep,pC.1,hdC,hkC⟩,fun h' sb=>?_⟩
 refine⟨σ.set j (some (.ref d)),H5,?_,qn⟩
 exact Inv.turned (h':=h') (t':=s7.toks) (it:=s3.heap.objs.size) I9.unpinned (fun b o hb e=>(sb.2 b hb).trans e) pC.2.1 hCL (.inr I3.sz) (fun z c e q=>by
  obtain⟨v,q2⟩:=I3.cell z c e
  exact absurd (q▸q2.lt) (bS _)) fun p hp q=>absurd (q▸dX (I3.pin p hp).1) (bS _)
section
variable {prog:Program} {w:World} {A:Around} {E:Value->Shared->Prop} {s:Shared}
theorem rl {j t:Addr} {i:Nat} {its} {x:Value} {Q:Value->Shared->Prop} (g:s.heap.IsTupleIter j t i) (d:s.heap.IsTuple t its) (e:its[i]?=some x)
  (k:∀h',h'.IsTupleIter j t (i+ 1)->Heap.SameBut j s.heap h'->Q x {s with heap:=h'}):wpAny (model prog w) A (Builtin.SmallTypes.nextOf (.ref j)) Q E s:=by
 obtain⟨og,gg,gc,gd⟩:=id g
 obtain⟨od,dd,_,dn,de⟩:=d
 unfold Builtin.SmallTypes.nextOf
 refine wpAny_bind (wpAny_callSpecial?_slot (name:=Str.ofString "__next__") g.typeIs F.slot_tuple_iterator_next (wpAny_call_entry F.slot_tuple_iterator_next g.typeIs F.entry_tuple_iterator_next ?_ (F.args_tuple_iterator_next_1 _)))
 show wpAny _ _ (field (.ref j) 0 >>= _) _ _ s
 refine wpAny_bind (wpAny_field gg gd (x:= .ref t) rfl ?_)
 show wpAny _ _ (if(Value.ref t==Value.none)=true then _ else _) _ _ s
 rw[fJ (show ¬((Value.ref t==Value.none)=true)from fun q=>nomatch q)]
 show wpAny _ _ (field (.ref j) 1 >>= _) _ _ s
 refine wpAny_bind (wpAny_field gg gd (x:= .int i 0) rfl ?_)
 refine wpAny_bind (wpAny_seqItems dd de ?_)
 simp only[dR,e]
 refine wpAny_bind (wpAny_setField gg gd (by simp) (wpAny_pure ⟨x,rfl,wpAny_pure (k _ ?_ (Heap.SameBut.update ..))⟩))
 exact⟨_,ee _ gg (Obj.isFreed_of_fields (Obj.data_mapFields gd _)),(Obj.cls_mapFields ..).trans gc,by rw[Obj.data_mapFields gd];simp[rawInt]⟩
theorem lP {j t:Addr} {i:Nat} {its} {Q:Value->Shared->Prop} (hh:A.handled=none) (g:s.heap.IsTupleIter j t i) (d:s.heap.IsTuple t its) (e:its[i]?=none)
  (k:∀h' x,Heap.ExtBut j s.heap h'->(∃o,h'.get? x=some o/\o.cls= .type "StopIteration")->E (.ref x) {s with heap:=h'}):wpAny (model prog w) A (Builtin.SmallTypes.nextOf (.ref j)) Q E s:=by
 obtain⟨og,gg,gc,gd⟩:=id g
 obtain⟨od,dd,_,dn,de⟩:=d
 unfold Builtin.SmallTypes.nextOf
 refine wpAny_bind (wpAny_callSpecial?_slot (name:=Str.ofString "__next__") g.typeIs F.slot_tuple_iterator_next (wpAny_call_entry F.slot_tuple_iterator_next g.typeIs F.entry_tuple_iterator_next ?_ (F.args_tuple_iterator_next_1 _)))
 show wpAny _ _ (field (.ref j) 0 >>= _) _ _ s
 refine wpAny_bind (wpAny_field gg gd (x:= .ref t) rfl ?_)
 show wpAny _ _ (if(Value.ref t==Value.none)=true then _ else _) _ _ s
 rw[fJ (show ¬((Value.ref t==Value.none)=true)from fun q=>nomatch q)]
 show wpAny _ _ (field (.ref j) 1 >>= _) _ _ s
 refine wpAny_bind (wpAny_field gg gd (x:= .int i 0) rfl ?_)
 refine wpAny_bind (wpAny_seqItems dd de ?_)
 simp only[dR,e]
 refine wpAny_bind (wpAny_rule (wpAny_bind (wpAny_setField gg gd (by simp) ?_)))
 show wpAny _ _ (newExc (.type "StopIteration") [] >>= _) _ _ _
 refine wpAny_bind ?_
 simp only[newExc,newTuple]
 refine wpAny_bind (wpAny_newObj_type ?_ (by size_fits))
 refine wpAny_bind (m:=firstArgMember _ _) (wpAny_of_eq (a:=Value.none) (by first|rfl|(unfold firstArgMember;rfl)) ?_)
 refine wpAny_newObj_type ?_ (by size_fits)
 simp only[raiseNew]
 refine wpAny_bind (wpAny_handled ?_)
 first|rw[hh]|rw[show A.in1.handled=none from hh]
 exact wpAny_bind (wpAny_pure (wpAny_throw (k _ _ (((Heap.SameBut.update ..).extBut.push _).push _) ⟨_,dY _ rfl,rfl⟩)))
theorem BZ {z TI TO j1 j2 t1 t2:Addr} {k1 k2:Nat} {xs ys:Array Value} {x y a b:Value} {Q:Value->Shared->Prop} (D:ZipApart z TI TO j1 j2 t1 t2)
  (gz:IsZip s.heap z TI TO .none) (gI:IsPair s.heap TI (.ref j1) (.ref j2)) (gO:IsPair s.heap TO a b)
  (g1:s.heap.IsTupleIter j1 t1 k1) (g2:s.heap.IsTupleIter j2 t2 k2) (d1:s.heap.IsTuple t1 xs) (d2:s.heap.IsTuple t2 ys) (ex:xs[k1]?=some x) (ey:ys[k2]?=some y)
  (k:∀h',IsZip h' z TI TO (rawInt s.heap.objs.size)->IsPair h' TO x y->h'.IsTupleIter j1 t1 (k1+ 1)->h'.IsTupleIter j2 t2 (k2+ 1)->IsPair h' s.heap.objs.size x y->h'.objs.size=s.heap.objs.size+ 1->
   (∀c o,c≠z->c≠TO->c≠j1->c≠j2->s.heap.get? c=some o->h'.get? c=some o)->Q (.ref s.heap.objs.size) {s with heap:=h'}):
  wpAny (model prog w) A (Builtin.«zip.__next__» ⟨[.ref z],[]⟩) (fun fin s'=>∃v,fin= .done (.ret v)/\Q v s') E s:=by
 show wpAny _ _ (field (.ref z) 2 >>= _) _ _ _
 refine wpAny_bind (wpAny_field gz rfl (x:= .bool false) rfl ?_)
 show wpAny _ _ (field (.ref z) 3 >>= _) _ _ _
 refine wpAny_bind (wpAny_field gz rfl (x:= .ref TI) rfl ?_)
 refine wpAny_bind (wpAny_seqItems gI rfl ?_)
 show wpAny _ _ (Builtin.SmallTypes.ownedTupleIsFree (.ref z) >>= _) _ _ _
 refine wpAny_bind ?_
 unfold Builtin.SmallTypes.ownedTupleIsFree
 refine wpAny_bind (wpAny_field gz rfl (x:= .none) rfl (wpAny_pure ?_))
 simp only[if_true]
 refine wpAny_bind (wpAny_rule (wpAny_bind (wpAny_field gz rfl (x:= .ref TO) rfl ?_)))
 refine wpAny_bind (wpAny_setField_rec gz (by simp) fun q1 gz1 b1=>?_)
 replace gz1:IsZip q1 z TI TO .ellipsis:=gz1
 refine wpAny_bind ?_
 simp only[bo,bp,bq,br]
 refine wpAny_bind (wpAny_bind (wpAny_onRaise ?_))
 show wpAny _ _ (Builtin.SmallTypes.nextOf (.ref j1) >>= _) _ _ _
 refine wpAny_bind (rl (g1.extBut b1.extBut D.i1z) (d1.extBut b1.extBut D.l1z) ex fun q2 g12 b2=>wpAny_pure ?_)
 have gO2:IsPair q2 TO a b:=b2.extBut _ _ D.TOi1 (b1.extBut _ _ D.TOz gO)
 refine wpAny_bind (wpAny_seqItems gO2 rfl (wpAny_bind (wpAny_updateSeq_pair gO2 fun q3 gO3 b3=>?_)))
 replace gO3:IsPair q3 TO x b:=gO3
 refine wpAny_bind (wpAny_letGo (wpAny_pure (wpAny_bind (wpAny_bind (wpAny_onRaise ?_)))))
 show wpAny _ _ (Builtin.SmallTypes.nextOf (.ref j2) >>= _) _ _ _
 refine wpAny_bind (rl (((g2.extBut b1.extBut D.i2z).extBut b2.extBut D.i12.symm).extBut b3.extBut D.TOi2.symm) (((d2.extBut b1.extBut D.l2z).extBut b2.extBut D.l2i1).extBut b3.extBut D.l2TO) ey fun q4 g24 b4=>wpAny_pure ?_)
 have gO4:IsPair q4 TO x b:=b4.extBut _ _ D.TOi2 gO3
 refine wpAny_bind (wpAny_seqItems gO4 rfl (wpAny_bind (wpAny_updateSeq_pair gO4 fun q5 gO5 b5=>?_)))
 replace gO5:IsPair q5 TO x y:=gO5
 refine wpAny_bind (wpAny_letGo (wpAny_pure (wpAny_pure (wpAny_bind (wpAny_seqItems gO5 rfl (wpAny_bind (wpAny_newTuple ?_)))))))
 have sz:q5.objs.size=s.heap.objs.size:=by rw[b5.1,b4.1,b3.1,b2.1,b1.1]
 have gz5:IsZip q5 z TI TO .ellipsis:=b5.extBut _ _ D.TOz.symm (b4.extBut _ _ D.i2z.symm (b3.extBut _ _ D.TOz.symm (b2.extBut _ _ D.i1z.symm gz1)))
 have kp5:∀c o,c≠z->c≠TO->c≠j1->c≠j2->s.heap.get? c=some o->q5.get? c=some o:=fun c o n1 n2 n3 n4 e=>
  b5.extBut _ _ n2 (b4.extBut _ _ n4 (b3.extBut _ _ n2 (b2.extBut _ _ n3 (b1.extBut _ _ n1 e))))
 have g15:q5.IsTupleIter j1 t1 (k1+ 1):=((g12.extBut b3.extBut D.TOi1.symm).extBut b4.extBut D.i12).extBut b5.extBut D.TOi1.symm
 have g25:q5.IsTupleIter j2 t2 (k2+ 1):=g24.extBut b5.extBut D.TOi2.symm
 have zlt:z<q5.objs.size:=dX gz5
 show wpAny _ _ (Builtin.SmallTypes.ownedTupleHandOut (.ref z) (.ref q5.objs.size) >>= _) _ _ _
 refine wpAny_bind ?_
 unfold Builtin.SmallTypes.ownedTupleHandOut
 have gz6:IsZip (q5.push {cls:= .type "tuple",data:= .seq #[x,y]}) z TI TO .ellipsis:=dZ _ gz5
 refine wpAny_bind (wpAny_setField_rec gz6 (by simp) fun q7 gz7 b7=>?_)
 replace gz7:IsZip q7 z TI TO (rawInt q5.objs.size):=gz7
 refine wpAny_setField_rec gz7 (by simp) fun q8 gz8 b8=>?_
 replace gz8:IsZip q8 z TI TO (rawInt q5.objs.size):=gz8
 have up:∀c o,c≠z->q5.get? c=some o->q8.get? c=some o:=fun c o n1 e=>b8.extBut _ _ n1 (b7.extBut _ _ n1 (dZ _ e))
 have gT8:IsPair q8 q5.objs.size x y:=b8.extBut _ _ (bW zlt) (b7.extBut _ _ (bW zlt) (dY _ rfl))
 have sz8:q8.objs.size=q5.objs.size+ 1:=by rw[b8.1,b7.1,d7]
 rw[sz]at gz8 gT8 sz8
 refine wpAny_pure ⟨_,rfl,?_⟩
 show Q (.ref q5.objs.size) _
 rw[sz]
 refine k q8 gz8 (up _ _ D.TOz gO5) ?_ ?_ gT8 sz8 fun c o n1 n2 n3 n4 e=>up c o n1 (kp5 c o n1 n2 n3 n4 e)
 ·obtain⟨o,e,r⟩:=g15;exact⟨o,up _ o D.i1z e,r⟩
 ·obtain⟨o,e,r⟩:=g25;exact⟨o,up _ o D.i2z e,r⟩
theorem DO {z TI TO j1 j2 t1 t2:Addr} {k1 k2:Nat} {xs ys:Array Value} {a b:Value} {Q:Fin->Shared->Prop} (hh:A.handled=none) (D:ZipApart z TI TO j1 j2 t1 t2)
  (gz:IsZip s.heap z TI TO .none) (gI:IsPair s.heap TI (.ref j1) (.ref j2)) (gO:IsPair s.heap TO a b)
  (g1:s.heap.IsTupleIter j1 t1 k1) (g2:s.heap.IsTupleIter j2 t2 k2) (d1:s.heap.IsTuple t1 xs) (d2:s.heap.IsTuple t2 ys) (hend:xs[k1]?=none\/ys[k2]?=none)
  (k:∀h' e,(∀c o,c≠z->c≠TO->c≠j1->c≠j2->s.heap.get? c=some o->h'.get? c=some o)->(∃o,h'.get? e=some o/\o.cls= .type "StopIteration")->E (.ref e) {s with heap:=h'}):
  wpAny (model prog w) A (Builtin.«zip.__next__» ⟨[.ref z],[]⟩) Q E s:=by
 show wpAny _ _ (field (.ref z) 2 >>= _) _ _ _
 refine wpAny_bind (wpAny_field gz rfl (x:= .bool false) rfl ?_)
 show wpAny _ _ (field (.ref z) 3 >>= _) _ _ _
 refine wpAny_bind (wpAny_field gz rfl (x:= .ref TI) rfl ?_)
 refine wpAny_bind (wpAny_seqItems gI rfl ?_)
 show wpAny _ _ (Builtin.SmallTypes.ownedTupleIsFree (.ref z) >>= _) _ _ _
 refine wpAny_bind ?_
 unfold Builtin.SmallTypes.ownedTupleIsFree
 refine wpAny_bind (wpAny_field gz rfl (x:= .none) rfl (wpAny_pure ?_))
 simp only[if_true]
 refine wpAny_bind (wpAny_rule (wpAny_bind (wpAny_field gz rfl (x:= .ref TO) rfl ?_)))
 refine wpAny_bind (wpAny_setField_rec gz (by simp) fun q1 gz1 b1=>?_)
 replace gz1:IsZip q1 z TI TO .ellipsis:=gz1
 refine wpAny_bind ?_
 simp only[bo,bp,bq,br]
 refine wpAny_bind (wpAny_bind (wpAny_onRaise ?_))
 show wpAny _ _ (Builtin.SmallTypes.nextOf (.ref j1) >>= _) _ _ _
 cases ex:xs[k1]? with
 |none=>
  refine wpAny_bind (lP hh (g1.extBut b1.extBut D.i1z) (d1.extBut b1.extBut D.l1z) ex fun q2 e b2 he=>?_)
  obtain⟨oe,hoe,hce⟩:=he
  have gz2:IsZip q2 z TI TO .ellipsis:=b2 _ _ D.i1z.symm gz1
  have nz:e≠z:=fun q=>by subst q;rw[gz2]at hoe;cases hoe;simp at hce
  refine wpAny_setField_rec gz2 (by simp) fun q3 _ b3=>k q3 e (fun c o n1 _ n3 _ q=>b3.extBut _ _ n1 (b2 _ _ n3 (b1.extBut _ _ n1 q))) ⟨oe,b3.extBut _ _ nz hoe,hce⟩
 |some x=>
  have ey:ys[k2]?=none:=hend.elim (fun q=>by rw[ex]at q;cases q) id
  refine wpAny_bind (rl (g1.extBut b1.extBut D.i1z) (d1.extBut b1.extBut D.l1z) ex fun q2 g12 b2=>wpAny_pure ?_)
  have gO2:IsPair q2 TO a b:=b2.extBut _ _ D.TOi1 (b1.extBut _ _ D.TOz gO)
  refine wpAny_bind (wpAny_seqItems gO2 rfl (wpAny_bind (wpAny_updateSeq_pair gO2 fun q3 gO3 b3=>?_)))
  refine wpAny_bind (wpAny_letGo (wpAny_pure (wpAny_bind (wpAny_bind (wpAny_onRaise ?_)))))
  show wpAny _ _ (Builtin.SmallTypes.nextOf (.ref j2) >>= _) _ _ _
  refine wpAny_bind (lP hh (((g2.extBut b1.extBut D.i2z).extBut b2.extBut D.i12.symm).extBut b3.extBut D.TOi2.symm) (((d2.extBut b1.extBut D.l2z).extBut b2.extBut D.l2i1).extBut b3.extBut D.l2TO) ey fun q4 e b4 he=>?_)
  obtain⟨oe,hoe,hce⟩:=he
  have gz4:IsZip q4 z TI TO .ellipsis:=b4 _ _ D.i2z.symm (b3.extBut _ _ D.TOz.symm (b2.extBut _ _ D.i1z.symm gz1))
  have nz:e≠z:=fun q=>by subst q;rw[gz4]at hoe;cases hoe;simp at hce
  refine wpAny_setField_rec gz4 (by simp) fun q5 _ b5=>k q5 e (fun c o n1 n2 n3 n4 q=>b5.extBut _ _ n1 (b4 _ _ n4 (b3.extBut _ _ n2 (b2.extBut _ _ n3 (b1.extBut _ _ n1 q))))) ⟨oe,b5.extBut _ _ nz hoe,hce⟩
theorem yn {z TI TO j1 j2 t1 t2:Addr} {k1 k2:Nat} {xs ys:Array Value} {x y a b:Value} {Q:Option Value->Shared->Prop} (D:ZipApart z TI TO j1 j2 t1 t2)
  (gz:IsZip s.heap z TI TO .none) (gI:IsPair s.heap TI (.ref j1) (.ref j2)) (gO:IsPair s.heap TO a b)
  (g1:s.heap.IsTupleIter j1 t1 k1) (g2:s.heap.IsTupleIter j2 t2 k2) (d1:s.heap.IsTuple t1 xs) (d2:s.heap.IsTuple t2 ys) (ex:xs[k1]?=some x) (ey:ys[k2]?=some y)
  (k:∀h',IsZip h' z TI TO (rawInt s.heap.objs.size)->IsPair h' TO x y->h'.IsTupleIter j1 t1 (k1+ 1)->h'.IsTupleIter j2 t2 (k2+ 1)->IsPair h' s.heap.objs.size x y->h'.objs.size=s.heap.objs.size+ 1->
   (∀c o,c≠z->c≠TO->c≠j1->c≠j2->s.heap.get? c=some o->h'.get? c=some o)->Q (some (.ref s.heap.objs.size)) {s with heap:=h'}):
  wpAny (model prog w) A (pyNext (.ref z)) Q E s:=by
 have tz:s.TypeIs (.ref z) "zip":=⟨_,gz,rfl⟩
 unfold pyNext
 exact wpAny_bind (wpAny_attempt (wpAny_callSpecial?_slot (name:=Str.ofString "__next__") tz F.slot_zip_next (wpAny_call_entry F.slot_zip_next tz F.entry_zip_next
   (BZ D gz gI gO g1 g2 d1 d2 ex ey fun h' a1 a2 a3 a4 a5 a6 a7=>wpAny_pure (k h' a1 a2 a3 a4 a5 a6 a7)) (F.args_zip_next_1 _))))
theorem rT {z TI TO j1 j2 t1 t2:Addr} {k1 k2:Nat} {xs ys:Array Value} {a b:Value} {Q:Option Value->Shared->Prop} (hh:A.handled=none) (D:ZipApart z TI TO j1 j2 t1 t2)
  (gz:IsZip s.heap z TI TO .none) (gI:IsPair s.heap TI (.ref j1) (.ref j2)) (gO:IsPair s.heap TO a b)
  (g1:s.heap.IsTupleIter j1 t1 k1) (g2:s.heap.IsTupleIter j2 t2 k2) (d1:s.heap.IsTuple t1 xs) (d2:s.heap.IsTuple t2 ys) (hend:xs[k1]?=none\/ys[k2]?=none)
  (k:∀h',(∀c o,c≠z->c≠TO->c≠j1->c≠j2->s.heap.get? c=some o->h'.get? c=some o)->Q none {s with heap:=h'}):wpAny (model prog w) A (pyNext (.ref z)) Q E s:=by
 have tz:s.TypeIs (.ref z) "zip":=⟨_,gz,rfl⟩
 unfold pyNext
 refine wpAny_bind (wpAny_attempt (wpAny_callSpecial?_slot (name:=Str.ofString "__next__") tz F.slot_zip_next (wpAny_call_entry F.slot_zip_next tz F.entry_zip_next (DO hh D gz gI gO g1 g2 d1 d2 hend fun h' e kp he=>?_) (F.args_zip_next_1 _))))
 obtain⟨o,ho,hc⟩:=he
 exact wpAny_bind (wpAny_isInstance (T:="StopIteration") (b:=true) ⟨o,ho,hc⟩ isSubtype_stop (wpAny_pure (k _ kp)))
end
abbrev zt1 (h:Heap) (t1:Addr):Heap:=h.push {cls:= .type "tuple_iterator",data:= .fields #[.ref t1,.int 0 0]}
abbrev zt2 (h:Heap) (t1 t2:Addr):Heap:=(zt1 h t1).push {cls:= .type "tuple_iterator",data:= .fields #[.ref t2,.int 0 0]}
abbrev zt3 (h:Heap) (t1 t2:Addr):Heap:=(zt2 h t1 t2).push {cls:= .type "tuple",data:= .seq #[.ref h.objs.size,.ref (zt1 h t1).objs.size]}
abbrev zt4 (h:Heap) (t1 t2:Addr):Heap:=(zt3 h t1 t2).push {cls:= .type "tuple",data:= .seq #[.none,.none]}
abbrev zt5 (h:Heap) (t1 t2:Addr):Heap:=(zt4 h t1 t2).push {cls:= .type "zip",data:= .fields #[.none,.bool false,.bool false,.ref (zt2 h t1 t2).objs.size,.ref (zt3 h t1 t2).objs.size]}
theorem DP (t1 t2:Addr) (xs ys:Array Value):Meets (Builtin.«zip.__new__» ⟨[.type "zip",.ref t1,.ref t2],[]⟩) (fun _ R s=>s.heap.IsTuple t1 xs/\s.heap.IsTuple t2 ys/\R (.ok (.ret (.ref (zt4 s.heap t1 t2).objs.size))) {s with heap:=zt5 s.heap t1 t2}):=
 .of_wp fun prog w A R s h=>by
  obtain⟨hp,g,d,tk,os⟩:=s;obtain⟨d1,d2,h⟩:=h
  have hsub:=sub_zip
  have dd1:Heap.IsTuple (Shared.heap ⟨hp,g,d,tk,os⟩) t1 xs:=d1
  have dd2:Heap.IsTuple (Shared.heap ⟨hp.push {cls:= .type "tuple_iterator",data:= .fields #[.ref t1,.int 0 0]},g,d,tk,os⟩) t2 ys:=Heap.IsTuple.push d2 _
  wp_walk using wpAny_pyIter_tuple dd1,wpAny_pyIter_tuple dd2
  exact⟨_,rfl,h⟩
section
variable {prog:Program} {w:World} {A:Around} {E:Value->Shared->Prop} {s:Shared}
theorem yo {t1 t2:Addr} {xs ys:Array Value} {Q:Value->Shared->Prop} (d1:s.heap.IsTuple t1 xs) (d2:s.heap.IsTuple t2 ys)
  (k:∀h',IsZip h' (s.heap.objs.size+ 4) (s.heap.objs.size+ 2) (s.heap.objs.size+ 3) .none->IsPair h' (s.heap.objs.size+ 2) (.ref s.heap.objs.size) (.ref (s.heap.objs.size+ 1))->
   IsPair h' (s.heap.objs.size+ 3) .none .none->h'.IsTupleIter s.heap.objs.size t1 0->h'.IsTupleIter (s.heap.objs.size+ 1) t2 0->(∀c o,s.heap.get? c=some o->h'.get? c=some o)->Q (.ref (s.heap.objs.size+ 4)) {s with heap:=h'}):
  wpAny (model prog w) A (call (.type "zip") [.ref t1,.ref t2]) Q E s:=by
 refine callType_new F.called_zip (by decide) (F.typeCall_zip_2 _ _) (F.newCall_zip_2 _ _) (fun obj=>F.args_object_init_3 obj _ _) F.entry_zip_new (DP t1 t2 xs ys) ⟨d1,d2,?_⟩
 have z1:(zt1 s.heap t1).objs.size=s.heap.objs.size+ 1:=d7 ..
 have z2:(zt2 s.heap t1 t2).objs.size=s.heap.objs.size+ 2:=by rw[d7,z1]
 have z3:(zt3 s.heap t1 t2).objs.size=s.heap.objs.size+ 3:=by rw[d7,z2]
 have z4:(zt4 s.heap t1 t2).objs.size=s.heap.objs.size+ 4:=by rw[d7,z3]
 have m5:(zt5 s.heap t1 t2).get? (zt4 s.heap t1 t2).objs.size=some _:=dY _ rfl
 have m4:(zt5 s.heap t1 t2).get? (zt3 s.heap t1 t2).objs.size=some _:=dZ _ (dY _ rfl)
 have m3:(zt5 s.heap t1 t2).get? (zt2 s.heap t1 t2).objs.size=some _:=dZ _ (dZ _ (dY _ rfl))
 have m2:(zt5 s.heap t1 t2).get? (zt1 s.heap t1).objs.size=some _:=dZ _ (dZ _ (dZ _ (dY _ rfl)))
 have m1:(zt5 s.heap t1 t2).get? s.heap.objs.size=some _:=dZ _ (dZ _ (dZ _ (dZ _ (dY _ rfl))))
 show _/\_
 rw[z2,z3,z4]at m5
 rw[z1,z2]at m3
 rw[z3]at m4
 rw[z1]at m2
 rw[z4]
 exact⟨⟨_,m5,rfl⟩,k _ m5 m3 m4 ⟨_,m1,rfl,rfl⟩ ⟨_,m2,rfl,rfl⟩ fun c o q=>dZ _ (dZ _ (dZ _ (dZ _ (dZ _ q))))⟩
end
def GJ (K:PySem.W.Frag) (a b:Addr):It:=
 ⟨fun i H=>∃xs ys x y,SqT K H a xs/\SqT K H b ys/\xs[i]?=some x/\ys[i]?=some y,
   fun i H v H'=>∃T x y,v= .ref T/\H T=none/\H'=upd H T (.tup [x,y])/\(∀xs,SqT K H a xs->xs[i]?=some x)/\∀ys,SqT K H b ys->ys[i]?=some y,
   fun i H=>∃xs ys,SqT K H a xs/\SqT K H b ys/\i=min xs.length ys.length⟩
def ZTSt (z TI TO i1 i2 a b:Addr) (i:Nat) (h:Heap):Prop:=IsZip h z TI TO .none/\IsPair h TI (.ref i1) (.ref i2)/\(∃u v,IsPair h TO u v)/\h.IsTupleIter i1 a i/\h.IsTupleIter i2 b i
theorem yp {P:Program} {w:World} {K:PySem.W.Frag} {es:List Expr} {kk:Nat} {tp:Pos} {a b z TI TO i1 i2:Addr} (D:ZipApart z TI TO i1 i2 a b):zJ P w K (.Tuple es kk tp) (GJ K a b) [z,TI,TO,i1,i2] z (ZTSt z TI TO i1 i2 a b) where
 mem:=by simp
 obj:=fun i h st c hc=>by
  obtain⟨g1,g2,⟨u,v,g3⟩,⟨o4,g4,_,d4⟩,⟨o5,g5,_,d5⟩⟩:=st
  simp only[ai,bf,or_false]at hc
  rcases hc with e|e|e|e|e<;>subst e
  ·exact⟨_,g1,fun v q=>nomatch q⟩
  ·exact⟨_,g2,fun v q=>nomatch q⟩
  ·exact⟨_,g3,fun v q=>nomatch q⟩
  ·exact⟨_,g4,fun v q=>by rw[d4]at q;cases q⟩
  ·exact⟨_,g5,fun v q=>by rw[d5]at q;cases q⟩
 keep:=fun i h h' st k=>by
  obtain⟨g1,g2,⟨u,v,g3⟩,⟨o4,g4,r4⟩,⟨o5,g5,r5⟩⟩:=st
  exact⟨k z (by simp) _ g1,k TI (by simp) _ g2,⟨u,v,k TO (by simp) _ g3⟩,⟨o4,k i1 (by simp) o4 g4,r4⟩,⟨o5,k i2 (by simp) o5 g5,r5⟩⟩
 item:=by
  intro X hP hw hK hc i pz s σ H E I hf st hg
  subst hP hw hK
  obtain⟨xs,ys,x,y,qx,qy,ex,ey⟩:=hg
  obtain⟨i1s,r1,p1,z1⟩:=I.tuple qx
  obtain⟨i2s,r2,p2,z2⟩:=I.tuple qy
  obtain⟨g1,g2,⟨u,v,g3⟩,g4,g5⟩:=st
  obtain⟨ux,hux,rr1⟩:=r1.get ex
  obtain⟨uy,huy,rr2⟩:=r2.get ey
  have hw:∀c∈[z,TO,i1,i2],uF X pz H c:=fun c hc=>hf c (by simp only[ai,bf,or_false]at hc⊢;first|(rcases hc with h|h|h|h<;>simp[h])|simp[hc])
  refine yn D g1 g2 g3 g4 g5 (show s.heap.IsTuple a i1s.toArray from p1) (show s.heap.IsTuple b i2s.toArray from p2) (x:=ux) (y:=uy) (by simpa using hux) (by simpa using huy) fun h1 a1 a2 a3 a4 a5 a6 hk=>?_
  have kk1:∀c o,c∉[z,TO,i1,i2]->s.heap.get? c=some o->h1.get? c=some o:=fun c o hc e=>hk c o (fun q=>hc (by simp[q])) (fun q=>hc (by simp[q])) (fun q=>hc (by simp[q])) (fun q=>hc (by simp[q])) e
  have J1:Inv X pz σ H {s with heap:=h1,toks:=s.toks}:=I.turnedL kk1 hw
  refine⟨.ref s.heap.objs.size,rfl,wpAny_letOwnedTupleGo_zip a1 fun h2 a1' sb=>?_⟩
  have J2:Inv X pz σ H {s with heap:=h2,toks:=s.toks}:=Inv.turnedL (s:={s with heap:=h1,toks:=s.toks}) (h':=h2) (t':=s.toks) (ch:=[z]) J1 (fun c o hc e=>sb.extBut _ _ (fun q=>hc (by simp[q])) e) fun c hc=>hf c (by simp only[ai,bf,or_false]at hc⊢;first|(rcases hc with h|h|h|h<;>simp[h])|simp[hc])
  have zlt:z<s.heap.objs.size:=dX g1
  have ht2:uw h2 s.heap.objs.size #[ux,uy]:=⟨_,sb.extBut _ _ (bW zlt) a5,rfl,_,rfl,rfl⟩
  obtain⟨fT,J3⟩:=I.pairNew (bX _) J2 ht2 rr1 rr2
  refine⟨.ref s.heap.objs.size,_,J3,rfl,⟨_,x,y,rfl,fT,rfl,fun l hl=>by rw[I.tuple_inj hl qx];exact ex,fun l hl=>by rw[I.tuple_inj hl qy];exact ey⟩,
   ⟨a1',sb.extBut _ _ D.TIz (hk _ _ D.TIz D.TITO D.TIi1 D.TIi2 g2),⟨_,_,sb.extBut _ _ D.TOz a2⟩,a3.extBut sb.extBut D.i1z,a4.extBut sb.extBut D.i2z⟩,fun c hc=>?_⟩
  rw[eN (fun q=>?_)]
  ·exact(hf c hc).1
  ·have lt:c<s.heap.objs.size:=by
    obtain⟨o4,e4,_⟩:=g4
    obtain⟨o5,e5,_⟩:=g5
    simp only[ai,bf,or_false]at hc
    rcases hc with e|e|e|e|e<;>subst e
    ·exact dX g1
    ·exact dX g2
    ·exact dX g3
    ·exact dX e4
    ·exact dX e5
   exact absurd lt (by rw[q];exact bS _)
 done:=by
  intro X hP hw hK hc i pz s σ H E I hf st hg
  subst hP hw hK
  obtain⟨xs,ys,qx,qy,ei⟩:=hg
  obtain⟨i1s,r1,p1,z1⟩:=I.tuple qx
  obtain⟨i2s,r2,p2,z2⟩:=I.tuple qy
  obtain⟨g1,g2,⟨u,v,g3⟩,g4,g5⟩:=st
  have l1:=r1.length
  have l2:=r2.length
  refine rT (I.ok.hd hc) D g1 g2 g3 g4 g5 (show s.heap.IsTuple a i1s.toArray from p1) (show s.heap.IsTuple b i2s.toArray from p2) ?_ fun h1 hk=>⟨rfl,I.turnedL (t':=s.toks) (ch:=[z,TO,i1,i2]) (fun c o hc e=>hk c o (fun q=>hc (by simp[q])) (fun q=>hc (by simp[q])) (fun q=>hc (by simp[q])) (fun q=>hc (by simp[q])) e) fun c hc=>hf c (by simp only[ai,bf,or_false]at hc⊢;first|(rcases hc with h|h|h|h<;>simp[h])|simp[hc])⟩
  simp only[bt,bu]
  lia
 self:=fun _ _ _ _ _ st h=>wpAny_pyIter_zip st.1 h
theorem SqT.old {X:Cx} {pz:List (Addr×Obj)} {σ:St} {H:Hp} {s:Shared} {a:Addr} {xs:List V} (I:Inv X pz σ H s) (h:SqT X.K H a xs):a<s.heap.objs.size:=by
 obtain⟨its,_,p,_⟩:=I.tuple h
 obtain⟨o,e,_⟩:=p
 exact dX e
def Fq (K:PySem.W.Frag) (ta:TA):TI:=fun σ H R=>ta σ H fun vs H1=>∃a b,vs=[.ref a,.ref b]/\(∃xs,SqT K H1 a xs)/\(∃ys,SqT K H1 b ys)/\R (GJ K a b) H1
section
variable {X:Cx}
theorem B0 {es:List Expr} {kk:Nat} {tp:Pos} {a b:Expr} {ta:TA} {p pos:Pos} (hg:Gl X "zip") (hm:X.mg "zip"=none) (ha:PA X [a,b] ta) (hs:autoParam (starEach [a,b] X.env=[(false,eval a X.env),(false,eval b X.env)]) L2.Internal.auR._auto_1) (hs2:autoParam (starEach [b] X.env=[(false,eval b X.env)]) L2.Internal.auR._auto_1):
  PI X (.Tuple es kk tp) (.Call (.Name "zip" p) [a,b] [] pos) (Fq X.K ta):=by
 intro pz s σ H R I h
 refine Call_ (lU I hg hm yg (eB (thn (ha pos pz s σ H _ I h) fun us s1 ⟨vs,H1,I1,r1,q1⟩=>?_) (by rw[hs,hs2]) (by rw[hs2];rfl)))
 obtain⟨l1,l2,e,⟨xs,q1⟩,⟨ys,q2⟩,q⟩:=q1
 subst e
 obtain⟨u,v,rfl,ru,rv⟩:=wm r1
 cases ru
 cases rv
 obtain⟨i1s,w1,p1,z1⟩:=I1.tuple q1
 obtain⟨i2s,w2,p2,z2⟩:=I1.tuple q2
 have o1:@LT.lt Nat _ l1 s1.heap.objs.size:=SqT.old I1 q1
 have o2:@LT.lt Nat _ l2 s1.heap.objs.size:=SqT.old I1 q2
 refine yo (show s1.heap.IsTuple l1 i1s.toArray from p1) (show s1.heap.IsTuple l2 i2s.toArray from p2) fun h1 hz hTI hTO hi1 hi2 hk=>wpAny_pyIter_zip hz ?_
 have D:ZipApart (s1.heap.objs.size+ 4) (s1.heap.objs.size+ 2) (s1.heap.objs.size+ 3) s1.heap.objs.size (s1.heap.objs.size+ 1) l1 l2:=by constructor<;>exact fun(h:@Eq Nat _ _)=>by lia
 refine⟨_,_,_,_,H1,rfl,I1.kept (t':=s1.toks) hk,yp D,⟨hz,hTI,⟨_,_,hTO⟩,hi1,hi2⟩,fun c hc=>?_,q⟩
 have ge:s1.heap.objs.size<=c:=by
  simp only[ai,bf,or_false]at hc
  rcases hc with h|h|h|h|h<;>rw[h]<;>first|exact bX _|exact bZ _ _
 exact I1.fpOk ge (I1.hok.fresh ge)
end
section
variable {prog:Program} {w:World} {A:Around} {E:Value->Shared->Prop} {s:Shared}
end
inductive Prs (H:Hp):List V->List (Str×V)->Prop
 |nil:Prs H [] []
 |cons {a:Addr} {p:Str×V} {l:List V} {m:List (Str×V)}:H a=some (.tup [.str p.1,p.2])->Prs H l m->Prs H (.ref a::l) (p::m)
section
variable {X:Cx} {pz:List (Addr×Obj)} {σ:St} {H:Hp} {d it t:Addr} {vs:List V} {A:Around} {R:Result->Shared->Prop}
end
section
variable {X:Cx}
end
end L2.Internal
namespace BO.Internal
open PySem L2.Internal
def rIsi (K:PySem.W.Frag):List V->Hp->VK->Prop:=fun xs H Q=>∃x v c t b,xs=[x,v]/\(∀u,gN v u->u=c)/\uz K H x t/\cM K t c=some b/\Q (.bl b) H
theorem sz {n:Nat} (h:n<=100000):n<=sizeLine:=bU h (by decide)
theorem eL {H:Hp} {p:Addr} (h:H p=none) (o:HO):fG H (upd H p o):=fun b u q=>by rw[eN (eT q h)];exact q
theorem AW {α:Type} (l:List α) (i:Int) (h0:0<=i) (h1:i<(l.length:Int)):∃c,atI l i=some c/\c∈l:=by
 have e:i=((i.toNat:Nat):Int):=by lia
 have hi:i.toNat<l.length:=by lia
 refine⟨l[i.toNat],?_,List.getElem_mem hi⟩
 have z:atI l ((i.toNat:Nat):Int)=some l[i.toNat]:=eM (aZ hi)
 rw[<-e]at z
 exact z
def flN:V->Bool
 | .non=>true
 | .int _=>true
 | .str _=>true
 |_=>false
mutual
inductive Im (H:Hp):V->Dt->Prop where
 |flat {v:V} (h:flN v=true):Im H v (.flat v)
 |tup {a:Addr} {xs:List V} {ds:List Dt} (h:H a=some (.tup xs)) (hs:Ims H xs ds):Im H (.ref a) (.tup ds)
inductive Ims (H:Hp):List V->List Dt->Prop where
 |nil:Ims H [] []
 |cons {x:V} {d:Dt} {xs:List V} {ds:List Dt} (h:Im H x d) (hs:Ims H xs ds):Ims H (x::xs) (d::ds)
end
mutual
inductive Dta (H:Hp):V->Dt->Prop where
 |flat {v:V} (h:flN v=true):Dta H v (.flat v)
 |tup {a:Addr} {xs:List V} {ds:List Dt} (h:H a=some (.tup xs)) (hs:rV H xs ds):Dta H (.ref a) (.tup ds)
 |lst {a:Addr} {xs:List V} {ds:List Dt} (h:H a=some (.lst xs)) (hs:rV H xs ds):Dta H (.ref a) (.lst ds)
inductive rV (H:Hp):List V->List Dt->Prop where
 |nil:rV H [] []
 |cons {x:V} {d:Dt} {xs:List V} {ds:List Dt} (h:Dta H x d) (hs:rV H xs ds):rV H (x::xs) (d::ds)
end
def TK (H H':Hp):Prop:=∀a xs,H a=some (.tup xs)->H' a=some (.tup xs)
theorem fG.tk {H H':Hp} (s:fG H H'):TK H H':=fun a xs e=>s a _ e
mutual
theorem Im.mono {H H':Hp} (k:TK H H'):∀{v:V} {d:Dt},Im H v d->Im H' v d
 |_,_,.flat h=> .flat h
 |_,_,.tup h hs=> .tup (k _ _ h) (Ims.mono k hs)
theorem Ims.mono {H H':Hp} (k:TK H H'):∀{v:List V} {d:List Dt},Ims H v d->Ims H' v d
 |_,_,.nil=> .nil
 |_,_,.cons h hs=> .cons (Im.mono k h) (Ims.mono k hs)
end
mutual
theorem Im.da {H:Hp}:∀{v:V} {d:Dt},Im H v d->Dta H v d
 |_,_,.flat h=> .flat h
 |_,_,.tup h hs=> .tup h (Ims.das hs)
theorem Ims.das {H:Hp}:∀{v:List V} {d:List Dt},Ims H v d->rV H v d
 |_,_,.nil=> .nil
 |_,_,.cons h hs=> .cons (Im.da h) (Ims.das hs)
end
mutual
theorem Dta.same {H H':Hp} (k:fG H H'):∀{v:V} {d:Dt},Dta H v d->Dta H' v d
 |_,_,.flat h=> .flat h
 |_,_,.tup h hs=> .tup (k _ _ h) (rV.same k hs)
 |_,_,.lst h hs=> .lst (k _ _ h) (rV.same k hs)
theorem rV.same {H H':Hp} (k:fG H H'):∀{v:List V} {d:List Dt},rV H v d->rV H' v d
 |_,_,.nil=> .nil
 |_,_,.cons h hs=> .cons (Dta.same k h) (rV.same k hs)
end
theorem rV.length {H:Hp}:∀{xs:List V} {ds:List Dt},rV H xs ds->xs.length=ds.length
 |_,_,.nil=>rfl
 |_,_,.cons _ t=>by rw[ax,ax,rV.length t]
theorem Ims.length {H:Hp}:∀{xs:List V} {ds:List Dt},Ims H xs ds->xs.length=ds.length
 |_,_,.nil=>rfl
 |_,_,.cons _ t=>by rw[ax,ax,Ims.length t]
theorem rV.get {H:Hp}:∀{xs:List V} {ds:List Dt} {j:Nat} {x:V},rV H xs ds->xs[j]?=some x->∃d,ds[j]?=some d/\Dta H x d
 |_,_,0,_,.cons h _,e=>⟨_,rfl,by cases e;exact h⟩
 |_,_,j+ 1,_,.cons _ t,e=>by
  rw[bg]at e
  obtain⟨d,e1,e2⟩:=rV.get t e
  exact⟨d,by rw[bg];exact e1,e2⟩
theorem depDs_get:∀{l:List Dt} {j:Nat} {a:Dt},l[j]?=some a->lX a<=iF l
 |x::xs,0,a,h=>by
  cases h
  exact Nat.le_max_left _ _
 |x::xs,j+ 1,a,h=>by
  rw[bg]at h
  exact bU (depDs_get h) (Nat.le_max_right _ _)
theorem Ims.app {H:Hp}:∀{xs ys:List V} {ds es:List Dt},Ims H xs ds->Ims H ys es->Ims H (xs++ys) (ds++es)
 |_,_,_,_,.nil,h=>h
 |_,_,_,_,.cons a b,h=> .cons a (Ims.app b h)
inductive lT {α β:Type} (F:α->β->Prop):List α->List β->Prop
 |nil:lT F [] []
 |cons {a:α} {b:β} {l:List α} {m:List β}:F a b->lT F l m->lT F (a::l) (b::m)
theorem lT.imp {α β:Type} {F G:α->β->Prop} (f:∀a b,F a b->G a b):∀{l:List α} {m:List β},lT F l m->lT G l m
 |_,_,.nil=> .nil
 |_,_,.cons h t=> .cons (f _ _ h) (lT.imp f t)
theorem lT.snoc {α β:Type} {F:α->β->Prop} {a:α} {b:β} (h:F a b):∀{l:List α} {m:List β},lT F l m->lT F (l++[a]) (m++[b])
 |_,_,.nil=> .cons h .nil
 |_,_,.cons x t=> .cons x (lT.snoc h t)
theorem lT.length {α β:Type} {F:α->β->Prop}:∀{l:List α} {m:List β},lT F l m->l.length=m.length
 |_,_,.nil=>rfl
 |_,_,.cons _ t=>by rw[ax,ax,lT.length t]
theorem lT.get {α β:Type} {F:α->β->Prop}:∀{l:List α} {m:List β} {j:Nat} {x:α},lT F l m->l[j]?=some x->∃y,m[j]?=some y/\F x y
 |_,_,0,_,.cons h _,e=>⟨_,rfl,by cases e;exact h⟩
 |_,_,j+ 1,_,.cons _ t,e=>by
  rw[bg]at e
  obtain⟨d,e1,e2⟩:=lT.get t e
  exact⟨d,by rw[bg];exact e1,e2⟩
mutual
def okD:Dt->Prop
 | .flat _=>True
 | .tup l=>l.length<=100000/\yq l
 | .lst l=>l.length<=100000/\yq l
def yq:List Dt->Prop
 |[]=>True
 |x::xs=>okD x/\yq xs
end
theorem rW:∀{l:List Dt} {j:Nat} {a:Dt},yq l->l[j]?=some a->okD a
 |x::xs,0,a,o,h=>by
  cases h
  exact o.1
 |x::xs,j+ 1,a,o,h=>by
  rw[bg]at h
  exact rW o.2 h
theorem lQ {α:Type} {f:α->Dt}:∀{l:List α},(∀x∈l,okD (f x))->yq (l.map f)
 |[],_=>trivial
 |x::xs,h=>⟨h x (by simp),lQ fun y hy=>h y (by simp[hy])⟩
theorem kT {α:Type} {f:α->Dt} {n:Nat}:∀{l:List α},(∀x∈l,lX (f x)<=n)->iF (l.map f)<=n
 |[],_=>bY _
 |x::xs,h=>Nat.max_le.mpr ⟨h x (by simp),kT fun y hy=>h y (by simp[hy])⟩
def prL (p:Str×Int):Dt:= .tup [.flat (.str p.1),.flat (.int p.2)]
def prD (l:List (Str×Int)):Dt:= .tup (l.map prL)
inductive Us where
 |num (a p s:Int)
 |call (a p s x y:Int)
 |take (a p s:Int) (l:List (Str×Int))
 |case (a p s:Int) (l:List (Str×Int))
 |row (a p s x:Int)
def hdD (n:Str) (a p s:Int):List Dt:=[.flat (.str n),.flat (.int a),.flat (.int p),.flat (.int s)]
def Us.d:Us->Dt
 | .num a p s=> .tup (hdD "num" a p s)
 | .call a p s x y=> .tup (hdD "call" a p s++[.flat (.int x),.flat (.int y)])
 | .take a p s l=> .tup (hdD "take" a p s++[prD l])
 | .case a p s l=> .tup (hdD "case" a p s++[prD l])
 | .row a p s x=> .tup (hdD "row" a p s++[.flat (.int x)])
def Us.ok:Us->Prop
 | .take _ _ _ l=>l.length<=10
 | .case _ _ _ l=>l.length<=10
 |_=>True
structure Mkg where
 s:Str
 f:Dt
 a:Int
 p:Int
def Mkg.d (m:Mkg):Dt:= .tup [.flat (.str m.s),m.f,.flat (.int m.a),.flat (.int m.p)]
theorem uP (l:List (Str×Int)):lX (prD l)<=2:=by
 have h:∀l:List (Str×Int),iF (l.map prL)<=1:=by
  intro l
  induction l with
  |nil=>exact bY _
  |cons x t ih=>exact Nat.max_le.mpr ⟨by simp[prL,lX,iF],ih⟩
 exact Nat.succ_le_succ (h l)
theorem Us.dep (u:Us):lX u.d<=3:=by
 cases u with
 |num a p s=>simp[Us.d,hdD,lX,iF]
 |call a p s x y=>simp[Us.d,hdD,lX,iF]
 |take a p s l=>have:=uP l;simp[Us.d,hdD,lX,iF];lia
 |case a p s l=>have:=uP l;simp[Us.d,hdD,lX,iF];lia
 |row a p s x=>simp[Us.d,hdD,lX,iF]
theorem yr {l:List (Str×Int)} (h:l.length<=10):okD (prD l):=⟨by rw[aA];lia,lQ fun x _=>⟨by show 2<=100000;decide,trivial,trivial,trivial⟩⟩
theorem Us.okd {u:Us} (h:u.ok):okD u.d:=by
 cases u with
 |num a p s=>exact⟨by show 4<=100000;decide,trivial,trivial,trivial,trivial,trivial⟩
 |call a p s x y=>exact⟨by show 6<=100000;decide,trivial,trivial,trivial,trivial,trivial,trivial,trivial⟩
 |take a p s l=>exact⟨by show 5<=100000;decide,trivial,trivial,trivial,trivial,yr h,trivial⟩
 |case a p s l=>exact⟨by show 5<=100000;decide,trivial,trivial,trivial,trivial,yr h,trivial⟩
 |row a p s x=>exact⟨by show 5<=100000;decide,trivial,trivial,trivial,trivial,trivial,trivial⟩
def fU (a p s:V):List (Str×V):=[("at",a),("place",p),("slot",s)]
def fU1 (n:Str) (a p s x:V):List (Str×V):=[("at",a),("place",p),("slot",s),(n,x)]
def fU2 (a p s x y:V):List (Str×V):=[("at",a),("place",p),("slot",s),("arg",x),("out",y)]
def fM (s f a p:V):List (Str×V):=[("shape",s),("parts",f),("at",a),("place",p)]
def fB (p0 p1 p2 p3:Addr) (r:V):List (Str×V):=[("points",.ref p0),("makes",.ref p1),("uses",.ref p2),("flows",.ref p3),("root",r)]
structure Cs where
 M:Addr
 N:Addr
 C:Addr
 T:Addr
 K:Addr
 R:Addr
 B:Addr
def pM (c:Cs) (H:Hp) (v:V):Us->Prop
 | .num a p s=>∃x dx,v= .ref x/\H x=some (.ins c.N dx (fU (.int a) (.int p) (.int s)))
 | .call a p s y z=>∃x dx,v= .ref x/\H x=some (.ins c.C dx (fU2 (.int a) (.int p) (.int s) (.int y) (.int z)))
 | .take a p s l=>∃x dx f,v= .ref x/\H x=some (.ins c.T dx (fU1 "fields" (.int a) (.int p) (.int s) f))/\Im H f (prD l)/\l.length<=10
 | .case a p s l=>∃x dx f,v= .ref x/\H x=some (.ins c.K dx (fU1 "arms" (.int a) (.int p) (.int s) f))/\Im H f (prD l)/\l.length<=10
 | .row a p s y=>∃x dx,v= .ref x/\H x=some (.ins c.R dx (fU1 "out" (.int a) (.int p) (.int s) (.int y)))
def rX (c:Cs) (H:Hp) (v:V) (m:Mkg):Prop:=∃x dx f,v= .ref x/\H x=some (.ins c.M dx (fM (.str m.s) f (.int m.a) (.int m.p)))/\Im H f m.f/\lX m.f<=2/\okD m.f
def Fz:HO->Prop
 | .tup _=>True
 | .ins _ _ fs=>fs.length≠5\/∃v r,fs=(("at":Str),v)::r
 |_=>False
def FK (H H':Hp):Prop:=∀a o,H a=some o->Fz o->H' a=some o
theorem FK.tk {H H':Hp} (k:FK H H'):TK H H':=fun a xs e=>k a _ e trivial
theorem fG.fk {H H':Hp} (s:fG H H'):FK H H':=fun a o e _=>s a o e
theorem FK.trans {H H1 H2:Hp} (a:FK H H1) (b:FK H1 H2):FK H H2:=fun c o e f=>b c o (a c o e f) f
theorem pM.mono {c:Cs} {H H':Hp} {v:V} (k:FK H H'):∀{u:Us},pM c H v u->pM c H' v u
 | .num _ _ _,⟨x,dx,e,h⟩=>⟨x,dx,e,k _ _ h (.inr ⟨_,_,rfl⟩)⟩
 | .call _ _ _ _ _,⟨x,dx,e,h⟩=>⟨x,dx,e,k _ _ h (.inr ⟨_,_,rfl⟩)⟩
 | .take _ _ _ _,⟨x,dx,f,e,h,i,n⟩=>⟨x,dx,f,e,k _ _ h (.inr ⟨_,_,rfl⟩),i.mono k.tk,n⟩
 | .case _ _ _ _,⟨x,dx,f,e,h,i,n⟩=>⟨x,dx,f,e,k _ _ h (.inr ⟨_,_,rfl⟩),i.mono k.tk,n⟩
 | .row _ _ _ _,⟨x,dx,e,h⟩=>⟨x,dx,e,k _ _ h (.inr ⟨_,_,rfl⟩)⟩
theorem pM.ok {c:Cs} {H:Hp} {v:V}:∀{u:Us},pM c H v u->u.ok
 | .num _ _ _,_=>trivial
 | .call _ _ _ _ _,_=>trivial
 | .take _ _ _ _,⟨_,_,_,_,_,_,n⟩=>n
 | .case _ _ _ _,⟨_,_,_,_,_,_,n⟩=>n
 | .row _ _ _ _,_=>trivial
theorem rX.mono {c:Cs} {H H':Hp} {v:V} {m:Mkg} (k:FK H H'):rX c H v m->rX c H' v m
 |⟨x,dx,f,e,h,i,d⟩=>⟨x,dx,f,e,k _ _ h (.inl (by show 4≠5;decide)),i.mono k.tk,d⟩
theorem m9 {J:It} {i:Nat} {te:TE} {Q:VK} {τ:St} {H1:Hp} {D:Addr} (n:Nat) (hn:n<sizeLine) (R:List V->Hp->Prop) (hR:∀xs H H',R xs H->TK H H'->R xs H') (hD:H1 D=none) (hτ:τ.set i none=τ)
  (hgo:∀k H,fG H1 H->k<n->J.go k H) (hst:∀H,fG H1 H->J.stop n H) (h0:R [] H1)
  (step:∀k H v H3 xs (Z:VK),fG H1 H->k<n->J.yld k H v H3->R xs H->xs.length=k->(∀y H5,fG H H5->R (xs++[y]) H5->Z y H5)->te (τ.set i (some v)) H3 Z)
  (hq:∀H' xs,fG H1 H'->R xs H'->xs.length=n->H' D=some (.lst xs)->Q (.ref D) H'):LcP J i kS te Q τ H1 D:=by
 have nd:∀(H5:Hp) (xs ys:List V),H5 D=some (.lst xs)->TK H5 (upd H5 D (.lst ys)):=fun H5 xs ys e a zs q=>by rw[eN (jh q e (fun z=>nomatch z))];exact q
 have up:∀{H:Hp} (o:HO),fG H1 H->fG H1 (upd H D o):=fun{H} o S b u e=>by rw[eN (eT e hD)];exact S b u e
 refine⟨fun k m σ' H2=>m=n-k/\k<=n/\(∃o,σ'=τ.set i o)/\fG H1 H2/\∃xs,H2 D=some (.lst xs)/\xs.length=k/\R xs H2,⟨n,by simp,bY _,⟨none,hτ.symm⟩,eL hD _,[],eG,rfl,hR _ _ _ h0 (fG.tk (eL hD _))⟩,?_⟩
 rintro k m σ' H2 ⟨rfl,hk,⟨o,rfl⟩,S,xs,e,hl,hr⟩
 by_cases hlt:k<n
 ·refine .inr ⟨hgo k H2 S hlt,fun v H3 y=>?_⟩
  rw[bw]
  refine step k H2 v H3 xs _ S hlt y hr hl fun y H5 S5 r5=>?_
  refine⟨xs,S5 D _ e,by lia,n-(k+ 1),by lia,rfl,hlt,⟨some v,rfl⟩,up _ (S.trans S5),xs++[y],eG,by rw[aM,hl];rfl,hR _ _ _ r5 (nd H5 _ _ (S5 D _ e))⟩
 ·have e1:k=n:=by lia
  subst e1
  exact .inl ⟨hst H2 S,hq H2 xs S hr hl e⟩
theorem vA {K:PySem.W.Frag} {a:Addr} {xs:List V} {k:Nat} {H1 H:Hp} (e:H1 a=some (.lst xs)) (S:fG H1 H) (h:k<xs.length):(Itl K a).go k H:=⟨xs,xs[k],SqL.of (S a _ e),aZ h⟩
theorem vB {K:PySem.W.Frag} {a:Addr} {xs:List V} {H1 H:Hp} (e:H1 a=some (.lst xs)) (S:fG H1 H):(Itl K a).stop xs.length H:=⟨xs,SqL.of (S a _ e),bX _⟩
inductive Ls (H:Hp):List Addr->List (List V)->Prop
 |nil:Ls H [] []
 |cons {a:Addr} {c:List V} {l:List Addr} {m:List (List V)}:H a=some (.lst c)->Ls H l m->Ls H (a::l) (c::m)
theorem Ls.frame {H H':Hp} {M:List Addr} (k:∀a o,H a=some o->a∉M->H' a=some o):∀{l:List Addr} {m:List (List V)},Ls H l m->(∀a∈l,a∉M)->Ls H' l m
 |_,_,.nil,_=> .nil
 |_,_,.cons (a:=a) h t,n=> .cons (k _ _ h (n a (by simp))) (Ls.frame k t fun b hb=>n b (by simp[hb]))
theorem Ls.get {H:Hp}:∀{l:List Addr} {m:List (List V)} {i:Nat} {a:Addr},Ls H l m->l[i]?=some a->∃c,m[i]?=some c/\H a=some (.lst c)
 |_,_,0,_,.cons h _,e=>⟨_,rfl,by cases e;exact h⟩
 |_,_,j+ 1,_,.cons _ t,e=>by
  rw[bg]at e
  obtain⟨d,e1,e2⟩:=Ls.get t e
  exact⟨d,by rw[bg];exact e1,e2⟩
structure Sd where
 b:Addr
 dx:Addr
 p0:Addr
 p1:Addr
 p2:Addr
 p3:Addr
 d:Addr
 q0:Addr
 q1:Addr
 q2:Addr
 q3:Addr
def Sd.ls (S:Sd):List Addr:=[S.p0,S.p1,S.p2,S.p3,S.d,S.q0,S.q1,S.q2,S.q3]
structure Bd where
 pts:List Int
 mks:List Mkg
 uss:List Us
 fls:List (Int×Int)
 root:Int
def flD (p:Int×Int):Dt:= .tup [.flat (.int p.1),.flat (.int p.2)]
structure BSx (c:Cs) (H:Hp) (S:Sd) (E D:Bd):Prop where
 nd:S.ls.Nodup
 ob:H S.b=some (.ins c.B S.dx (fB S.p0 S.p1 S.p2 S.p3 (.int D.root)))
 st:∃mv uv fv mv' uv' fv':List V,Ls H S.ls [D.pts.map V.int,mv,uv,fv,[.ref S.q0,.ref S.q1,.ref S.q2,.ref S.q3,.int E.root],E.pts.map V.int,mv',uv',fv']/\
  lT (rX c H) mv D.mks/\lT (pM c H) uv D.uss/\Ims H fv (D.fls.map flD)/\Ims H mv' (E.mks.map Mkg.d)/\Ims H uv' (E.uss.map Us.d)/\Ims H fv' (E.fls.map flD)
theorem Ls.at {H:Hp} {l:List Addr} {m:List (List V)} (L:Ls H l m) {i:Nat} {a:Addr} {c:List V} (h1:l[i]?=some a) (h2:m[i]?=some c):H a=some (.lst c):=by
 obtain⟨d,e1,e2⟩:=L.get h1
 rw[h2]at e1
 cases e1
 exact e2
theorem gH {H:Hp} {a:Addr} {xs:List V} {o:HO} (h:H a=some (.lst xs)):FK H (upd H a o):=fun b u e f=>by
 rw[eN (jh e h (fun z=>by rw[z]at f;exact f))]
 exact e
theorem vC {H:Hp} {a C dx p0 p1 p2 p3:Addr} {r:V} {o:HO} (h:H a=some (.ins C dx (fB p0 p1 p2 p3 r))):FK H (upd H a o):=fun b u e f=>by
 rw[eN (jh e h (fun z=>by
  rw[z]at f
  rcases f with f|⟨v,r,f⟩
  ·exact f rfl
  ·injection f with f _
   injection f with f _
   exact absurd f fo))]
 exact e
section
variable {c:Cs} {H H':Hp} {S:Sd} {E D:Bd}
theorem BSx.frame {M:List Addr} (B:BSx c H S E D) (k:∀a o,H a=some o->a∉M->H' a=some o) (hb:S.b∉M) (hl:∀a∈S.ls,a∉M) (fk:FK H H'):BSx c H' S E D:=by
 obtain⟨nd,ob,mv,uv,fv,mv',uv',fv',L,h1,h2,h3,h4,h5,h6⟩:=B
 exact⟨nd,k _ _ ob hb,mv,uv,fv,mv',uv',fv',L.frame k hl,h1.imp fun _ _=>rX.mono fk,h2.imp fun _ _=>pM.mono fk,h3.mono fk.tk,h4.mono fk.tk,h5.mono fk.tk,h6.mono fk.tk⟩
end
theorem BSx.hl {c:Cs} {H:Hp} {S:Sd} {E D:Bd} {l:Addr} {xs:List V} {o:HO} (B:BSx c H S E D) (hn:l∉S.ls) (e:H l=some (.lst xs)):BSx c (upd H l o) S E D:=by
 refine B.frame (M:=[l]) (fun a u q n=>?_) (fun z=>?_) (fun a ha z=>?_) (gH e)
 ·rw[eN (fun z=>n (by simp[z]))];exact q
 ·have z':S.b=l:=by simpa using z
  have q:=B.ob
  rw[z',e]at q
  cases q
 ·have z':a=l:=by simpa using z
  rw[z']at ha
  exact hn ha
def Frm (M:List Addr) (H H':Hp):Prop:=∀a o,H a=some o->a∉M->H' a=some o
theorem Frm.trans {M:List Addr} {H H1 H2:Hp} (a:Frm M H H1) (b:Frm M H1 H2):Frm M H H2:=fun c o e n=>b c o (a c o e n) n
theorem pO (H:Hp):∀l:List Int,rV H (l.map V.int) (l.map fun i=> .flat (.int i))
 |[]=> .nil
 |_::t=> .cons (.flat rfl) (pO H t)
theorem lT.right {α β:Type} {F:α->β->Prop}:∀{l:List α} {m:List β},lT F l m->∀y∈m,∃x,F x y
 |_,_,.nil,y,h=>by simp at h
 |_,_,.cons f t,y,h=>by
  rcases ai.mp h with z|z
  ·rw[z];exact⟨_,f⟩
  ·exact lT.right t y z
def Dist (l:List (Str×Int)):Prop:=(l.map Prod.fst).Nodup
inductive Mf where
 |num
 |fn (x y:Int)
 |rcd (l:List (Str×Int))
 |tag (w:Str) (x:Int)
 |row (x:Int)
 |any
def Mf.s:Mf->Str
 | .num=>"num"
 | .fn _ _=>"fn"
 | .rcd _=>"rec"
 | .tag _ _=>"tag"
 | .row _=>"row"
 | .any=>"any"
def Mf.f:Mf->Dt
 | .num=> .tup []
 | .fn x y=> .tup [.flat (.int x),.flat (.int y)]
 | .rcd l=>prD l
 | .tag w x=> .tup [.flat (.str w),.flat (.int x)]
 | .row x=> .tup [.flat (.int x)]
 | .any=> .tup []
def Mf.ok:Mf->Prop
 | .rcd l=>l.length<=10/\Dist l
 |_=>True
end BO.Internal
namespace L2.Internal
open PySem PySem.Spec PyProof.Rows
section
variable {X:Cx} {e a b o f:Expr} {st:Stmt} {ta tb td ty tx to:TE} {pos apos cpos:Pos}
theorem PE.weak {t t':TE} (h:PE X e t) (m:∀σ H Q,t' σ H Q->t σ H Q):PE X e t':=fun pz s σ H Q I q=>h pz s σ H Q I (m σ H Q q)
theorem PT.weak {t t':TT} (h:PT X e t) (m:∀σ H Q,t' σ H Q->t σ H Q):PT X e t':=fun pz s σ H Q I q=>h pz s σ H Q I (m σ H Q q)
theorem PS.weak {t t':TS} (h:PS X st t) (m:∀D σ H,t' D σ H->t D σ H):PS X st t':=fun pz s σ H D I q=>h pz s σ H D I (m D σ H q)
theorem OpR.weak {g:Value->Value->Sem Value} {r r':R2} (h:OpR X g r) (m:∀x y H Q,r' x y H Q->r x y H Q):OpR X g r':=fun pz s σ H x y v u Q I rx ry q=>h pz s σ H x y v u Q I rx ry (m x y H Q q)
theorem IxR.weak {r r':R2} (h:IxR X r) (m:∀x y H Q,r' x y H Q->r x y H Q):IxR X r':=fun value slice pz s σ H x y v u Q I rx ry q hs=>h value slice pz s σ H x y v u Q I rx ry (m x y H Q q) hs
def mT (t:TE):TE:=fun σ H Q=>∃Q0:VK,t σ H Q0/\∀x H1,Q0 x H1->Q x H1
theorem PE.mono {t:TE} (h:PE X e t):PE X e (mT t):=fun pz s σ H Q I ⟨Q0,h0,m⟩=>thn (h pz s σ H Q0 I h0) fun v s1 ⟨x,H1,I1,r1,q1⟩=>⟨x,H1,I1,r1,m x H1 q1⟩
def mR (r:R2):R2:=fun x y H Q=>∃Q0:VK,r x y H Q0/\∀x H1,Q0 x H1->Q x H1
theorem OpR.mono {g:Value->Value->Sem Value} {r:R2} (h:OpR X g r):OpR X g (mR r):=fun pz s σ H x y v u Q I rx ry ⟨Q0,h0,m⟩=>thn (h pz s σ H x y v u Q0 I rx ry h0) fun v s1 ⟨x,H1,I1,r1,q1⟩=>⟨x,H1,I1,r1,m x H1 q1⟩
def onV:Option (Option V)->(V->Prop)->Prop
 |some (some v),k=>k v
 |_,_=>False
def onS {α:Type}:Option α->(α->Prop)->Prop
 |some v,k=>k v
 |none,_=>False
theorem eP {α:Type} {x:Option α} {v:α} {k:α->Prop} (h:x=some v) (q:k v):onS x k:=by rw[h];exact q
theorem AX {α:Type} {x:Option α} {k:α->Prop} (h:onS x k):∃v,x=some v/\k v:=by
 cases x with
 |none=>exact h.elim
 |some v=>exact⟨v,rfl,h⟩
def cV (i:Nat):TE:=fun σ H Q=>onV σ[i]? fun v=>Q v H
theorem cv (i:Nat) {x:Str} {pos:Pos} (hN:autoParam (X.N[i]?=some x) L2.Internal.auR._auto_1) (hv:Vis X.env.scope x:=by first|exact Or.inl rfl|exact Or.inr (.inl rfl)|exact Or.inr (.inr rfl)) (hd:autoParam ((x==("__debug__":Str))=false) L2.Internal.auD._auto_1)
  (hcd:autoParam ((x==("__classdict__":Str))=false) L2.Internal.auD._auto_1):PE X (.Name x pos) (cV i):=(pv i hN hv hd hcd).weak fun σ H Q h=>by
 unfold cV at h
 cases q:σ[i]? with
 |none=>rw[q]at h;exact h.elim
 |some o=>
  rw[q]at h
  cases o with
  |none=>exact h.elim
  |some v=>exact⟨v,q,h⟩
def cI0 (g:Int->Int->V):R2:=fun x y H Q=>match x,y with
 | .int i,.int j=>Q (g i j) H
 |_,_=>False
def cI (C:Int->Int->Prop) (g:Int->Int->V):R2:=fun x y H Q=>match x,y with
 | .int i,.int j=>C i j/\Q (g i j) H
 |_,_=>False
theorem tJ {g:Int->Int->V}:∀x y H Q,cI0 g x y H Q->rI0 g x y H Q:=fun x y H Q h=>by
 unfold cI0 at h
 split at h
 ·exact⟨_,_,rfl,rfl,h⟩
 ·exact h.elim
theorem zV {C:Int->Int->Prop} {g:Int->Int->V}:∀x y H Q,cI C g x y H Q->rI C g x y H Q:=fun x y H Q h=>by
 unfold cI at h
 split at h
 ·exact⟨_,_,rfl,rfl,h.1,h.2⟩
 ·exact h.elim
theorem ia:OpR X (binaryOp .Add) (cI0 fun i j=> .int (i+j)):=vp.weak tJ
theorem tK:OpR X (binaryOp .Sub) (cI0 fun i j=> .int (i-j)):=AG.weak tJ
theorem pP:OpR X (binaryOp .Mult) (cI Dv fun i j=> .int (i*j)):=Dy.weak zV
theorem jU:OpR X (binaryOp .FloorDiv) (cI E6 fun i j=> .int (i/j)):=mi.weak zV
theorem iB:OpR X (binaryOp .Mod) (cI (fun _ j=>0<j) fun i j=> .int (i%j)):=pE.weak zV
theorem AY:OpR X (binaryOp .Pow) (cI GB fun i j=> .int (i^j.toNat)):=AH.weak zV
theorem qE:OpR X (compareOp .Lt) (cI0 fun i j=> .bl (decide (i<j))):=E7.weak tJ
theorem Fs:OpR X (compareOp .LtE) (cI0 fun i j=> .bl (decide (i<=j))):=E8.weak tJ
theorem wH:OpR X (compareOp .Gt) (cI0 fun i j=> .bl (decide (j<i))):=E9.weak tJ
def cEq (n:Bool):R2:=fun x y H Q=>match x,y with
 | .int i,.int j=>Q (.bl (xor n (decide (i=j)))) H
 | .str i,.str j=>Q (.bl (xor n (decide (i=j)))) H
 |_,_=>False
theorem GK {i j:Str}:decide (V.str i=V.str j)=decide (i=j):=by
 rw[dI]
 simp
theorem GL {i j:Int}:decide (V.int i=V.int j)=decide (i=j):=by
 rw[dI]
 simp
theorem gQ:OpR X (compareOp .Eq) (cEq false):=wk.weak fun x y H Q h=>by
 unfold cEq at h
 split at h
 ·refine⟨rfl,?_⟩;rw[GL];rw[dO]at h;exact h
 ·refine⟨rfl,?_⟩;rw[GK];rw[dO]at h;exact h
 ·exact h.elim
theorem DQ:OpR X (compareOp .NotEq) (cEq true):=Dz.weak fun x y H Q h=>by
 unfold cEq at h
 split at h
 ·refine⟨rfl,?_⟩;rw[GL];rw[dP]at h;exact h
 ·refine⟨rfl,?_⟩;rw[GK];rw[dP]at h;exact h
 ·exact h.elim
def onB:V->(Bool->Prop)->Prop
 | .bl k,q=>q k
 |_,_=>False
theorem DR {x:V} {k:Bool->Prop} (h:onB x k):∃c,x= .bl c/\k c:=by
 cases x<;>first|exact⟨_,rfl,h⟩|exact h.elim
def cT (t:TE):TT:=fun σ H Q=>t σ H fun x H'=>onB x fun k=>Q k H'
theorem fg {op:CmpOp} {r:R2} (ho:OpR X (compareOp op) r) (ha:PE X a ta) (hb:PE X b tb) (hm:behindInMarks op b=false:=by exact xF _):PT X (.Compare a [op] [b] pos) (cT (tOp r ta tb)):=
 (rO ho.mono ha.mono hb.mono hm).weak fun σ H Q h=>⟨_,h,fun x H1 h1=>⟨_,h1,fun y H2 h2=>⟨_,h2,fun z H' h3=>DR h3⟩⟩⟩
def zC:R2:=fun x y H Q=>match x,y with
 | .ref p,.int i=>∃xs,H p=some (.lst xs)/\onS (atI xs i) fun v=>Q v H
 |_,_=>False
def zD:R2:=fun x y H Q=>match x,y with
 | .ref p,.int i=>∃xs,H p=some (.tup xs)/\onS (atI xs i) fun v=>Q v H
 |_,_=>False
theorem eR:IxR X zC:=BR.weak fun x y H Q h=>by
 unfold zC at h
 split at h
 ·obtain⟨xs,e,h⟩:=h
  obtain⟨v,ev,h⟩:=AX h
  exact⟨_,xs,_,v,rfl,rfl,SqL.of e,ev,h⟩
 ·exact h.elim
theorem fc:IxR X zD:=DH.weak fun x y H Q h=>by
 unfold zD at h
 split at h
 ·obtain⟨xs,e,h⟩:=h
  obtain⟨v,ev,h⟩:=AX h
  exact⟨_,xs,_,v,rfl,rfl,SqT.of e,ev,h⟩
 ·exact h.elim
def Fd (H:Hp) (a C:Addr) (f:Str) (v:V):Prop:=∃dx fs,H a=some (.ins C dx fs)/\fs.lookup f=some v
def Nf (H:Hp) (a C:Addr) (m:Str):Prop:=∃dx fs,H a=some (.ins C dx fs)/\fs.lookup m=none
def cFld (C:Addr) (f:Str) (ta:TE):TE:=fun σ H Q=>ta σ H fun x H1=>match x with
 | .ref a=>∃v,Fd H1 a C f v/\Q v H1
 |_=>False
theorem fj {C:Addr} {f:Str} (c:Cls X.K C) (n:fK X.K C f) (he:PE X e ta) (hb:autoParam (attributeBase e f X.env (eval e X.env)=eval e X.env) L2.Internal.auR._auto_1):PE X (.Attribute e f pos) (cFld C f ta):=
 (gq he.mono hb).weak fun σ H Q h=>⟨_,h,fun x H1 h1=>by
  cases x with
  |ref a=>
   obtain⟨v,⟨dx,fs,ea,ev⟩,q⟩:=h1
   exact⟨a,C,dx,fs,v,rfl,ea,c,n,ev,q⟩
  |_=>exact h1.elim⟩
def Fu (C:Addr) (m:Str) (sp:Sp) (dvs:List V) (E:XK) (ta:TE) (t:TA):TE:=fun σ H Q=>ta σ H fun x H1=>match x with
 | .ref a=>Nf H1 a C m/\t σ H1 fun vs H2=>sp (.ref a::(vs++dvs)) H2 Q E
 |_=>False
theorem eY {C:Addr} {m:Str} {sp:Sp} {dvs:List V} {E:XK} {t:TA} (h:PE X e (BL C m sp dvs E (mT ta) t)):PE X e (Fu C m sp dvs E ta t):=h.weak fun σ H Q h=>⟨_,h,fun x H1 h1=>by
  cases x with
  |ref a=>
   obtain⟨⟨dx,fs,ea,l⟩,q⟩:=h1
   exact⟨a,dx,fs,rfl,ea,l,q⟩
  |_=>exact h1.elim⟩
def Fv (C:Addr) (f:Str) (ta tv:TE):TS:=fun D σ H=>tv σ H fun y H1=>ta σ H1 fun x H2=>match x with
 | .ref a=>∃dx fs,H2 a=some (.ins C dx fs)/\fs.length<1000/\D.nx σ (upd H2 a (.ins C dx (ja f y fs)))
 |_=>False
theorem kq {C:Addr} {f:Str} {tv:TE} (c:Cls X.K C) (n:fK X.K C f) (h:PS X st (GD X.K (mT ta) (mT tv) f)):PS X st (Fv C f ta tv):=h.weak fun D σ H h=>⟨_,h,fun y H1 h1=>⟨_,h1,fun x H2 h2=>by
  cases x with
  |ref a=>
   obtain⟨dx,fs,ea,l,q⟩:=h2
   exact⟨a,C,dx,fs,rfl,ea,c,n,l,q⟩
  |_=>exact h2.elim⟩⟩
def GN (to ta:TE):TE:=fun σ H Q=>to σ H fun x H1=>match x with
 | .ref l=>(∃xs,H1 l=some (.lst xs))/\ta σ H1 fun y H2=>∃xs,H2 l=some (.lst xs)/\xs.length<sizeLine/\Q .non (upd H2 l (.lst (xs++[y])))
 |_=>False
theorem fN (h:PE X e (tBM X.K "list" xX (mT to) (jw (mT ta) sS))):PE X e (GN to ta):=h.weak fun σ H Q h=>⟨_,h,fun x H1 h1=>by
  cases x with
  |ref l=>
   obtain⟨⟨xs,e⟩,q⟩:=h1
   exact⟨.inl ⟨rfl,xs,SqL.of e⟩,_,q,fun y H2 ⟨xs,e,hl,q2⟩=>⟨l,xs,y,rfl,rfl,e,hl,q2⟩⟩
  |_=>exact h1.elim⟩
end
end L2.Internal
namespace BO.Internal
open PySem L2.Internal
def wd:Bool->Str
 |true=>"goes"
 |false=>"here"
structure Rw where
 w:Bool
 a:Int
 b:Int
 y:Option (Int×Int)
def Rw.k (r:Rw):List Key:=[.inr (wd r.w),.inl r.a,.inl r.b]
def whyD:Option (Int×Int)->Dt
 |none=> .flat .non
 |some p=>flD p
def Rw.d (r:Rw):Dt:= .tup [.flat (.str (wd r.w)),.flat (.int r.a),.flat (.int r.b),whyD r.y]
def Rw.ok (N M:Int) (r:Rw):Prop:=0<=r.a/\(r.a<match r.w with|true=>N|false=>M)/\0<=r.b/\r.b<N
def Rw.c (r:Rw):Nat:=(match r.w with|true=>0|false=>4096)+r.a.toNat*64+r.b.toNat
structure DL (H:Hp) (d:Addr) (L:List Addr) (f:Int->List V) (k:Nat):Prop where
 ex:∃kvs:List (Key×V),H d=some (.dK kvs)/\kvs.length<=k/\(∀p,kN kvs (.inl p)=none->f p=[])/\
  (∀p v,kN kvs (.inl p)=some v->∃l,l∈L/\v= .ref l/\H l=some (.lst (f p)))/\(∀p q v,kN kvs (.inl p)=some v->kN kvs (.inl q)=some v->p=q)
def putf (f:Int->List V) (p:Int) (x:V):Int->List V:=fun q=>if q=p then f p++[x]else f q
structure Sda (H:Hp) (d:Addr) (L:List Addr) (f:Int->List V) (k:Nat) (p:Int) (l:Addr) (H1:Hp):Prop where
 here:H1 l=some (.lst (f p))
 fin:∀H2 x,fG H1 H2->∃L',(∀a∈L',a∈L\/a=l)/\DL (upd H2 l (.lst (f p++[x]))) d L' (putf f p x) (k+ 1)
 fr:∀a o,H a=some o->a≠d->H1 a=some o
 own:l∈L\/H l=none
theorem DL.get {H:Hp} {d:Addr} {L:List Addr} {f:Int->List V} {k:Nat} (W:DL H d L f k) (p:Int) {z:Addr} (hz:H z=none):
  ∃kvs l,(upd H z (.lst [])) d=some (.dK kvs)/\(kN kvs (.inl p)).getD (.ref z)= .ref l/\(upd H z (.lst [])) l=some (.lst (f p))/\(l∈L\/H l=none):=by
 obtain⟨kvs,e,hl,h1,h2,h3⟩:=W
 have s:=eL hz (.lst [])
 cases ev:kN kvs (.inl p)with
 |none=>exact⟨kvs,z,s _ _ e,by rw[ev];rfl,by rw[h1 p ev];exact eG,.inr hz⟩
 |some v=>
  obtain⟨l,m,rfl,el⟩:=h2 p v ev
  exact⟨kvs,l,s _ _ e,by rw[ev];rfl,s _ _ el,.inl m⟩
open Classical in
def putR (R:List Rw) (ρ:Rw):List Rw:=if ρ.k∈R.map Rw.k then R else R++[ρ]
def putsR (R l:List Rw):List Rw:=l.foldl putR R
end BO.Internal
namespace L2.Internal
open PySem PySem.Spec PyProof.Rows
section
variable {X:Cx}
end
section
variable {X:Cx}
theorem Fw {scope:Scope} {x y:Str} (ns:List Str) (cap:List (Str×Nat×Addr)) (hns:cap.map (·.1)=ns) (hk:scope.kind= .function) (hn:∀p∈scope.names,p.2≠ .cell/\(p.2= .free->p.1∈ns)) (hl:∀y∈scope.names,y.2= .local->scope.names.lookup y.1=some .local)
  (hx:scope.names.lookup x=some .local) (hnd:(x::y::ns).Nodup) (hc:closureFor scope X.env=pure (cap.map fun p=>(p.1,p.2.2))) (hok:X.env.scope.kind= .function)
  (h:∀p∈cap,scope.names.lookup p.1=some .free/\X.env.cells.lookup p.1=some p.2.2/\X.env.scope.names.lookup p.1=some .cell/\X.N[p.2.1]?=some p.1):
  pL X (x::y::ns) scope (cap.map fun p=>(p.1,p.2.2)) (fun σ=>none::none::cap.map fun p=>σ.getD p.2.1 none) 0 x where
 kind:=hk
 cell:=fun y hy=>(hn y hy).1
 names:=hl
 clos:=hc
 lk:=fun z c q=>by
  obtain⟨p,hp,e⟩:=ba.mp (PySem.mem_of_lookup q)
  cases e
  exact(h p hp).2.1
 has:=fun z q=>by
  refine nO ?_
  rw[hns]
  rcases q with q|q
  ·obtain⟨k0,e,q⟩:=fZ q
   have m:=hn _ (PySem.mem_of_lookup e)
   rcases q with q|⟨q,_⟩
   ·exact absurd q.symm m.1
   ·exact m.2 q
  ·obtain⟨k0,e,q⟩:=fZ q
   have m:=hn _ (PySem.mem_of_lookup e)
   rcases q with q|⟨q,_⟩
   ·exact m.2 q.symm
   ·exact m.2 q
 nd:=hnd
 ix:=rfl
 loc:=hx
 len:=fun _ _=>by simp[<-hns]
 val:=fun σ k z v h1 h2=>by
  match k with
  |0=>simp at h2
  |1=>simp at h2
  |k+ 2=>
   rw[<-hns,bg,bg,aI]at h1
   rw[bg,bg,aI]at h2
   cases e:cap[k]? with
   |none=>rw[e]at h1;cases h1
   |some p=>
    rw[e]at h1 h2
    have ez:p.1=z:=cf.inj h1
    have ev:σ.getD p.2.1 none=some v:=cf.inj h2
    subst ez
    obtain⟨a1,a2,a3,a4⟩:=h p (aK e)
    rw[bj]at ev
    refine⟨p.2.1,a4,?_,a3,iq hok a3 a1⟩
    cases q:σ[p.2.1]? with
    |none=>rw[q]at ev;cases ev
    |some o=>rw[q]at ev;exact congrArg some ev
end
section
variable {X:Cx} {pz:List (Addr×Obj)} {σ:St} {H:Hp} {s:Shared}
end
section
variable {prog:Program} {w:World} {A:Around} {R:Result->Shared->Prop} {I:Addr} {fp wr:List Addr} {n:Nat} {P:Nat->Value->Prop} {St:Nat->Heap->Prop}
end
section
variable {prog:Program} {w:World} {A:Around} {E:Value->Shared->Prop} {s:Shared} {l:Addr} {xs:Array (Int×Tok)}
end
section
variable {X:Cx}
end
section
variable {X:Cx}
end
end L2.Internal
set_option maxHeartbeats 1000000
namespace KK.Internal
open PySem L2.Internal BO.Internal
mutual
inductive Kd where
 |any
 |num
 |fn (a b:Kd)
 |rcd (l:Kds)
 |ch (l:Kds)
 |row (a:Kd)
inductive Kds where
 |nil
 |cons (w:Str) (k:Kd) (t:Kds)
end
def sD (s:Str):Dt:= .flat (.str s)
mutual
def Kd.d:Kd->Dt
 | .any=> .tup [sD "any"]
 | .num=> .tup [sD "num"]
 | .fn a b=> .tup [sD "fn",a.d,b.d]
 | .rcd l=> .tup [sD "rec",.tup l.ds]
 | .ch l=> .tup [sD "choice",.tup l.ds]
 | .row a=> .tup [sD "row",a.d]
def Kds.ds:Kds->List Dt
 | .nil=>[]
 | .cons w k t=> .tup [sD w,k.d]::t.ds
end
mutual
def Kd.sz:Kd->Nat
 | .any=>1
 | .num=>1
 | .fn a b=>a.sz+b.sz+ 1
 | .rcd l=>l.sz+ 1
 | .ch l=>l.sz+ 1
 | .row a=>a.sz+ 1
def Kds.sz:Kds->Nat
 | .nil=>0
 | .cons _ k t=>k.sz+t.sz
end
def Kds.toL:Kds->List (Str×Kd)
 | .nil=>[]
 | .cons w k t=>(w,k)::t.toL
def ltS (a b:Str):Prop:=PySem.Spec.ltCps a.cps.toList b.cps.toList=true
mutual
def Kd.ok:Kd->Prop
 | .any=>True
 | .num=>True
 | .fn a b=>a.ok/\b.ok
 | .rcd l=>l.ok/\(l.toL.map Prod.fst).Nodup/\l.toL.length<=10/\l.toL.Pairwise fun p q=>ltS p.1 q.1
 | .ch l=>l.ok/\(l.toL.map Prod.fst).Nodup/\l.toL.length<=10/\l.toL.Pairwise fun p q=>ltS p.1 q.1
 | .row a=>a.ok
def Kds.ok:Kds->Prop
 | .nil=>True
 | .cons _ k t=>k.ok/\t.ok
end
def Kd.tag:Kd->Str
 | .any=>"any"
 | .num=>"num"
 | .fn _ _=>"fn"
 | .rcd _=>"rec"
 | .ch _=>"choice"
 | .row _=>"row"
def lkK:List (Str×Kd)->Str->Option Kd
 |[],_=>none
 |p::t,x=>if p.1=x then some p.2 else lkK t x
def G (a:Kd):Prop:=a.ok/\a.sz<=20
def DKd (H:Hp) (d:Addr) (l:List (Str×Kd)):Prop:=∃kvs,H d=some (.dK kvs)/\∀w,match lkK l w with
  |some k=>∃v,kN kvs (Sum.inr w)=some v/\Im H v k.d
  |none=>kN kvs (Sum.inr w)=none
theorem DKd.some {H:Hp} {d:Addr} {l:List (Str×Kd)} {w:Str} {k:Kd} (h:DKd H d l) (e:lkK l w=some k):∃v,wy H d (.str w) (some v)/\Im H v k.d:=by
 obtain⟨kvs,e1,f⟩:=h
 have:=f w
 rw[e]at this
 obtain⟨v,h1,h2⟩:=this
 exact⟨v,by rw[<-h1];exact wy.k (k:=(Sum.inr w:Key)) e1,h2⟩
theorem DKd.none {H:Hp} {d:Addr} {l:List (Str×Kd)} {w:Str} (h:DKd H d l) (e:lkK l w=none):wy H d (.str w) none:=by
 obtain⟨kvs,e1,f⟩:=h
 have:=f w
 rw[e]at this
 rw[<-this]
 exact wy.k (k:=(Sum.inr w:Key)) e1
theorem yt {H:Hp} {t:Addr} {xs:List V} {ds:List Dt} (h:H t=none) (i:Ims H xs ds):Im (upd H t (.tup xs)) (.ref t) (.tup ds):= .tup eG (i.mono (fG.tk (eL h _)))
end KK.Internal
set_option maxHeartbeats 1000000
namespace KK.Internal
open PySem L2.Internal BO.Internal
def iD (n:Int):Dt:= .flat (.int n)
structure Ad where
 b:Addr
 bx:Addr
 p0:Addr
 p1:Addr
 p2:Addr
 p3:Addr
def Ad.ls (A:Ad):List Addr:=[A.p0,A.p1,A.p2,A.p3]
structure Bq (c:Cs) (H:Hp) (A:Ad) (r:V) (D:Bd):Prop where
 b:H A.b=some (.ins c.B A.bx (fB A.p0 A.p1 A.p2 A.p3 r))
 e0:H A.p0=some (.lst (D.pts.map V.int))
 e1:∃mv,H A.p1=some (.lst mv)/\lT (rX c H) mv D.mks
 e2:∃uv,H A.p2=some (.lst uv)/\lT (pM c H) uv D.uss
 e3:H A.p3=some (.lst [])
 nd:A.ls.Nodup
structure Dq (H:Hp) (A:Ad) (D:Bd):Prop where
 b:H A.b=some (.lst [.ref A.p0,.ref A.p1,.ref A.p2,.ref A.p3])
 nb:A.b∉A.ls
 e0:H A.p0=some (.lst (D.pts.map V.int))
 e1:∃mv,H A.p1=some (.lst mv)/\Ims H mv (D.mks.map Mkg.d)
 e2:∃uv,H A.p2=some (.lst uv)/\Ims H uv (D.uss.map Us.d)
 e3:H A.p3=some (.lst [])
 nd:A.ls.Nodup
def FB (A:Ad) (H H':Hp):Prop:=(∀a o,H a=some o->a∉A.ls->H' a=some o)/\FK H H'
theorem FB.trans {A:Ad} {H H1 H2:Hp} (a:FB A H H1) (b:FB A H1 H2):FB A H H2:=⟨fun c o e n=>b.1 c o (a.1 c o e n) n,a.2.trans b.2⟩
theorem Ad.ne {A:Ad} (h:A.ls.Nodup):A.p0≠A.p1/\A.p0≠A.p2/\A.p0≠A.p3/\A.p1≠A.p2/\A.p1≠A.p3/\A.p2≠A.p3:=by
 simp only[Ad.ls,aC,ai,bf,or_false,not_or]at h
 exact⟨h.1.1,h.1.2.1,h.1.2.2,h.2.1.1,h.2.1.2,h.2.2.1⟩
section
variable {c:Cs} {H H':Hp} {A:Ad} {r:V} {D:Bd}
theorem Bq.us (B:Bq c H A r D) {uv:List V} {x:V} {u:Us} (e:H A.p2=some (.lst uv)) (hx:pM c H x u):Bq c (upd H A.p2 (.lst (uv++[x]))) A r {D with uss:=D.uss++[u]}:=by
 obtain⟨b,e0,⟨mv,m1,m2⟩,⟨uv',u1,u2⟩,e3,nd⟩:=B
 rw[e]at u1
 cases u1
 have k:=gH (o:= .lst (uv++[x])) e
 obtain⟨_,n2,_,n4,_,n6⟩:=Ad.ne nd
 exact⟨by rw[eN (jh b e (fun h=>nomatch h))];exact b,by rw[eN n2];exact e0,⟨mv,by rw[eN n4];exact m1,m2.imp fun _ _=>rX.mono k⟩,⟨_,eG,.snoc (hx.mono k) (u2.imp fun _ _=>pM.mono k)⟩,by rw[eN (Ne.symm n6)];exact e3,nd⟩
theorem Bq.root (B:Bq c H A r D) (v:V):Bq c (upd H A.b (.ins c.B A.bx (fB A.p0 A.p1 A.p2 A.p3 v))) A v D:=by
 obtain⟨b,e0,⟨mv,m1,m2⟩,⟨uv,u1,u2⟩,e3,nd⟩:=B
 have k:=vC (o:= .ins c.B A.bx (fB A.p0 A.p1 A.p2 A.p3 v)) b
 have ne:∀{a:Addr} {xs:List V},H a=some (.lst xs)->a≠A.b:=fun e=>jh e b (fun h=>nomatch h)
 exact⟨eG,by rw[eN (ne e0)];exact e0,⟨mv,by rw[eN (ne m1)];exact m1,m2.imp fun _ _=>rX.mono k⟩,⟨uv,by rw[eN (ne u1)];exact u1,u2.imp fun _ _=>pM.mono k⟩,by rw[eN (ne e3)];exact e3,nd⟩
theorem Dq.nbs (B:Dq H A D):A.b≠A.p0/\A.b≠A.p1/\A.b≠A.p2:=by
 have n:=B.nb
 simp only[Ad.ls,ai,bf,or_false,not_or]at n
 exact⟨n.1,n.2.1,n.2.2.1⟩
theorem Dq.us (B:Dq H A D) {uv:List V} {x:V} {u:Us} (e:H A.p2=some (.lst uv)) (hx:Im H x u.d):Dq (upd H A.p2 (.lst (uv++[x]))) A {D with uss:=D.uss++[u]}:=by
 obtain⟨_,_,nb2⟩:=B.nbs
 obtain⟨b,nb,e0,⟨mv,m1,m2⟩,⟨uv',u1,u2⟩,e3,nd⟩:=B
 rw[e]at u1
 cases u1
 have k:=(gH (o:= .lst (uv++[x])) e).tk
 obtain⟨_,n2,_,n4,_,n6⟩:=Ad.ne nd
 exact⟨by rw[eN nb2];exact b,nb,by rw[eN n2];exact e0,⟨mv,by rw[eN n4];exact m1,m2.mono k⟩,⟨_,eG,by rw[bz];exact(u2.mono k).app (.cons (hx.mono k) .nil)⟩,by rw[eN (Ne.symm n6)];exact e3,nd⟩
end
end KK.Internal
namespace L2.Internal
open PySem PySem.Spec PyProof.Rows PySem.W
def PmN (n:Nat) (p:Array Nat):Prop:=p.Perm (List.toArray (aa n))
theorem PmN.lt {n:Nat} {p:Array Nat} (h:PmN n p) (h0:0<n) (k:Nat):p.getD k 0<n:=by
 rw[Array.getD]
 split
 ·rename_i hk
  have m:p[k]∈p.toList:=by simp
  have:=(Array.perm_iff_toList_perm.mp h).mem_iff.mp m
  simpa using this
 ·exact h0
section
variable {prog:Program} {w:World} {A:Around} {E:Value->Shared->Prop} {s:Shared}
end
section
variable {X:Cx}
end
section
variable {fs ex:List Addr} {H H':Hp} {h h':Heap}
end
section
variable {X:Cx} {pz:List (Addr×Obj)} {σ:St} {H H':Hp} {s:Shared} {h':Heap}
end
section
variable {X:Cx}
end
end L2.Internal
namespace L2.Internal
open PySem PySem.Spec PyProof.Rows
mutual
def nlD:Dt->Bool
 | .flat _=>true
 | .tup l=>AZ l
 | .lst _=>false
def AZ:List Dt->Bool
 |[]=>true
 |x::xs=>nlD x&&AZ xs
end
theorem rY:∀{l:List Dt} {j:Nat} {a:Dt},AZ l=true->l[j]?=some a->nlD a=true
 |x::xs,0,a,h,e=>by
  cases e
  rw[AZ,dM]at h
  exact h.1
 |x::xs,j+ 1,a,h,e=>by
  rw[AZ,dM]at h
  exact rY h.2 e
 |[],j,a,_,e=>by simp at e
section
variable {X:Cx} {pz:List (Addr×Obj)} {σ:St} {H:Hp} {s:Shared}
mutual
theorem yu (I:Inv X pz σ H s):∀{x:V} {d e:Dt},At X.K H x d->At X.K H x e->nlD d=true->nlD e=true->eqD d e=true
 |_,_,_,.flat h,.flat _,_,_=>by rw[eqD];exact yf h
 |_,_,_,.tup h hs,.tup h' hs',n,n'=>by
  have e:=I.tuple_inj h h'
  subst e
  rw[nlD]at n n'
  rw[eqD]
  exact vD I hs hs' n n'
 |_,_,_,.flat h,.tup _ _,_,_=>absurd h dJ
 |_,_,_,.tup _ _,.flat h,_,_=>absurd h dJ
 |_,_,_,.lst _ _,_,n,_=>by rw[nlD]at n;cases n
 |_,_,_,_,.lst _ _,_,n=>by rw[nlD]at n;cases n
theorem vD (I:Inv X pz σ H s):∀{xs:List V} {l m:List Dt},Ats X.K H xs l->Ats X.K H xs m->AZ l=true->AZ m=true->wG l m=true
 |_,_,_,.nil,.nil,_,_=>by rw[wG]
 |_,_,_,.cons h t,.cons h' t',n,n'=>by
  rw[AZ,dM]at n n'
  rw[wG,yu I h h' n.1 n'.1,vD I t t' n.2 n'.2]
  rfl
end
theorem mr {A:Around} (I:Inv X pz σ H s) {x:V} {u:Value} {b:Addr} {ys:List V} (r:gN x u) (hx:oR x=true) (h:SqT X.K H b ys) (hu:A.units<cLine):SeqAt.EqAt A s u (.ref b) false/\SeqAt.EqAt A s (.ref b) u false:=by
 obtain⟨its,_,pl,_⟩:=I.tuple h
 cases x with
 |non=>cases r;exact⟨.none_tuple pl hu,.tuple_none pl hu⟩
 |bl k=>cases r;exact⟨.bool_tuple _ pl hu,.tuple_bool _ pl hu⟩
 |int i=>obtain⟨t,rfl⟩:=r;exact⟨.int_tuple _ _ pl hu,.tuple_int _ _ pl hu⟩
 |str z=>obtain⟨t,rfl⟩:=r;exact⟨.str_tuple _ _ pl hu,.tuple_str _ _ pl hu⟩
 |_=>cases hx
theorem DS (I:Inv X pz σ H s):∀(n:Nat) (A:Around) {x y:V} {u v:Value} {d e:Dt},gN x u->gN y v->At X.K H x d->At X.K H y e->nlD d=true->nlD e=true->lX d<=n->A.units+n<cLine->SeqAt.EqAt A s u v (eqD d e):=by
 intro n
 induction n with
 |zero=>
  intro A x y u v d e rx ry hx hy n1 n2 hd hu
  cases hx with
  |flat h=>
   cases hy with
   |flat h'=>rw[eqD];exact xW rx ry h h'
   |tup h' _=>cases ry;simp only[eqD];exact(mr I rx h h' (by lia)).1
   |lst _ _=>rw[nlD]at n2;cases n2
  |tup _ _=>rw[lX]at hd;lia
  |lst _ _=>rw[lX]at hd;lia
 |succ n ih=>
  intro A x y u v d e rx ry hx hy n1 n2 hd hu
  cases hx with
  |flat h=>
   cases hy with
   |flat h'=>rw[eqD];exact xW rx ry h h'
   |tup h' _=>cases ry;simp only[eqD];exact(mr I rx h h' (by lia)).1
   |lst _ _=>rw[nlD]at n2;cases n2
  |lst _ _=>rw[nlD]at n1;cases n1
  |@tup a xs ds h hs=>
   cases hy with
   |flat h'=>cases rx;simp only[eqD];exact(mr I ry h' h (by lia)).2
   |lst _ _=>rw[nlD]at n2;cases n2
   |@tup b ys es h' hs'=>
    cases rx
    cases ry
    by_cases hab:a=b
    ·subst hab
     rw[yu I (.tup h hs) (.tup h' hs') n1 n2]
     exact SeqAt.EqAt.same _
    ·rw[lX]at hd
     rw[nlD]at n1 n2
     refine SeqAt.EqAt.of_refs hab (DN I h hs h' hs' (by lia) fun j d1 d2 x y u v f1 f2 q1 q2 p1 p2=>?_).1
     exact ih A.in1 q1 q2 p1 p2 (rY n1 f1) (rY n2 f2) (bU (depDs_get f1) (by lia)) (by show A.units+ 1+n<cLine;lia)
end
section
variable {X:Cx}
end
end L2.Internal
set_option maxHeartbeats 1000000
namespace KK.Internal
open PySem L2.Internal BO.Internal
structure Bw (c:Cs) (H:Hp) (A:Ad) (r:V) (D:Bd):Prop where
 b:H A.b=some (.ins c.B A.bx (fB A.p0 A.p1 A.p2 A.p3 r))
 e0:H A.p0=some (.lst (D.pts.map V.int))
 e1:∃mv,H A.p1=some (.lst mv)/\lT (rX c H) mv D.mks
 e2:∃uv,H A.p2=some (.lst uv)/\lT (pM c H) uv D.uss
 e3:∃fv,H A.p3=some (.lst fv)/\Ims H fv (D.fls.map flD)
 nd:A.ls.Nodup
structure Dw (H:Hp) (A:Ad) (D:Bd):Prop where
 b:H A.b=some (.lst [.ref A.p0,.ref A.p1,.ref A.p2,.ref A.p3])
 nb:A.b∉A.ls
 e0:H A.p0=some (.lst (D.pts.map V.int))
 e1:∃mv,H A.p1=some (.lst mv)/\Ims H mv (D.mks.map Mkg.d)
 e2:∃uv,H A.p2=some (.lst uv)/\Ims H uv (D.uss.map Us.d)
 e3:∃fv,H A.p3=some (.lst fv)/\Ims H fv (D.fls.map flD)
 nd:A.ls.Nodup
section
variable {c:Cs} {H H':Hp} {A:Ad} {r:V} {D:Bd}
theorem Bw.same (B:Bw c H A r D) (s:fG H H'):Bw c H' A r D:=by
 obtain⟨b,e0,⟨mv,m1,m2⟩,⟨uv,u1,u2⟩,⟨fv,g1,g2⟩,nd⟩:=B
 exact⟨s _ _ b,s _ _ e0,⟨mv,s _ _ m1,m2.imp fun _ _=>rX.mono (fG.fk s)⟩,⟨uv,s _ _ u1,u2.imp fun _ _=>pM.mono (fG.fk s)⟩,⟨fv,s _ _ g1,g2.mono (fG.tk s)⟩,nd⟩
theorem Bw.other (B:Bw c H A r D) {a:Addr} {xs ys:List V} (e:H a=some (.lst xs)) (n:a∉A.ls):Bw c (upd H a (.lst ys)) A r D:=by
 obtain⟨b,e0,⟨mv,m1,m2⟩,⟨uv,u1,u2⟩,⟨fv,g1,g2⟩,nd⟩:=B
 have k:=gH (o:= .lst ys) e
 simp only[Ad.ls,ai,bf,or_false,not_or]at n
 exact⟨by rw[eN (jh b e (fun h=>nomatch h))];exact b,by rw[eN (Ne.symm n.1)];exact e0,⟨mv,by rw[eN (Ne.symm n.2.1)];exact m1,m2.imp fun _ _=>rX.mono k⟩,⟨uv,by rw[eN (Ne.symm n.2.2.1)];exact u1,u2.imp fun _ _=>pM.mono k⟩,⟨fv,by rw[eN (Ne.symm n.2.2.2)];exact g1,g2.mono k.tk⟩,nd⟩
theorem Bw.pt (B:Bw c H A r D) (v:Int):Bw c (upd H A.p0 (.lst (D.pts.map V.int++[.int v]))) A r {D with pts:=D.pts++[v]}:=by
 obtain⟨b,e0,⟨mv,m1,m2⟩,⟨uv,u1,u2⟩,⟨fv,g1,g2⟩,nd⟩:=B
 have k:=gH (o:= .lst (D.pts.map V.int++[.int v])) e0
 obtain⟨n1,n2,n3,_⟩:=Ad.ne nd
 exact⟨by rw[eN (jh b e0 (fun h=>nomatch h))];exact b,by rw[eG,bz];rfl,⟨mv,by rw[eN (Ne.symm n1)];exact m1,m2.imp fun _ _=>rX.mono k⟩,⟨uv,by rw[eN (Ne.symm n2)];exact u1,u2.imp fun _ _=>pM.mono k⟩,⟨fv,by rw[eN (Ne.symm n3)];exact g1,g2.mono k.tk⟩,nd⟩
theorem Bw.addM (B:Bw c H A r D) {mv:List V} {x:V} {m:Mkg} (e:H A.p1=some (.lst mv)) (hx:rX c H x m):Bw c (upd H A.p1 (.lst (mv++[x]))) A r {D with mks:=D.mks++[m]}:=by
 obtain⟨b,e0,⟨mv',m1,m2⟩,⟨uv,u1,u2⟩,⟨fv,g1,g2⟩,nd⟩:=B
 rw[e]at m1
 cases m1
 have k:=gH (o:= .lst (mv++[x])) e
 obtain⟨n1,_,_,n4,n5,_⟩:=Ad.ne nd
 exact⟨by rw[eN (jh b e (fun h=>nomatch h))];exact b,by rw[eN n1];exact e0,⟨_,eG,.snoc (hx.mono k) (m2.imp fun _ _=>rX.mono k)⟩,⟨uv,by rw[eN (Ne.symm n4)];exact u1,u2.imp fun _ _=>pM.mono k⟩,⟨fv,by rw[eN (Ne.symm n5)];exact g1,g2.mono k.tk⟩,nd⟩
theorem Bw.us (B:Bw c H A r D) {uv:List V} {x:V} {u:Us} (e:H A.p2=some (.lst uv)) (hx:pM c H x u):Bw c (upd H A.p2 (.lst (uv++[x]))) A r {D with uss:=D.uss++[u]}:=by
 obtain⟨b,e0,⟨mv,m1,m2⟩,⟨uv',u1,u2⟩,⟨fv,g1,g2⟩,nd⟩:=B
 rw[e]at u1
 cases u1
 have k:=gH (o:= .lst (uv++[x])) e
 obtain⟨_,n2,_,n4,_,n6⟩:=Ad.ne nd
 exact⟨by rw[eN (jh b e (fun h=>nomatch h))];exact b,by rw[eN n2];exact e0,⟨mv,by rw[eN n4];exact m1,m2.imp fun _ _=>rX.mono k⟩,⟨_,eG,.snoc (hx.mono k) (u2.imp fun _ _=>pM.mono k)⟩,⟨fv,by rw[eN (Ne.symm n6)];exact g1,g2.mono k.tk⟩,nd⟩
theorem Bw.root (B:Bw c H A r D) (v:V):Bw c (upd H A.b (.ins c.B A.bx (fB A.p0 A.p1 A.p2 A.p3 v))) A v D:=by
 obtain⟨b,e0,⟨mv,m1,m2⟩,⟨uv,u1,u2⟩,⟨fv,g1,g2⟩,nd⟩:=B
 have k:=vC (o:= .ins c.B A.bx (fB A.p0 A.p1 A.p2 A.p3 v)) b
 have ne:∀{a:Addr} {xs:List V},H a=some (.lst xs)->a≠A.b:=fun e=>jh e b (fun h=>nomatch h)
 exact⟨eG,by rw[eN (ne e0)];exact e0,⟨mv,by rw[eN (ne m1)];exact m1,m2.imp fun _ _=>rX.mono k⟩,⟨uv,by rw[eN (ne u1)];exact u1,u2.imp fun _ _=>pM.mono k⟩,⟨fv,by rw[eN (ne g1)];exact g1,g2.mono k.tk⟩,nd⟩
theorem Dw.same (B:Dw H A D) (s:fG H H'):Dw H' A D:=by
 obtain⟨b,nb,e0,⟨mv,m1,m2⟩,⟨uv,u1,u2⟩,⟨fv,g1,g2⟩,nd⟩:=B
 exact⟨s _ _ b,nb,s _ _ e0,⟨mv,s _ _ m1,m2.mono (fG.tk s)⟩,⟨uv,s _ _ u1,u2.mono (fG.tk s)⟩,⟨fv,s _ _ g1,g2.mono (fG.tk s)⟩,nd⟩
theorem Dw.other (B:Dw H A D) {a:Addr} {xs ys:List V} (e:H a=some (.lst xs)) (n:a∉A.ls) (nb':a≠A.b):Dw (upd H a (.lst ys)) A D:=by
 obtain⟨b,nb,e0,⟨mv,m1,m2⟩,⟨uv,u1,u2⟩,⟨fv,g1,g2⟩,nd⟩:=B
 have k:=(gH (o:= .lst ys) e).tk
 simp only[Ad.ls,ai,bf,or_false,not_or]at n
 exact⟨by rw[eN (Ne.symm nb')];exact b,nb,by rw[eN (Ne.symm n.1)];exact e0,⟨mv,by rw[eN (Ne.symm n.2.1)];exact m1,m2.mono k⟩,⟨uv,by rw[eN (Ne.symm n.2.2.1)];exact u1,u2.mono k⟩,⟨fv,by rw[eN (Ne.symm n.2.2.2)];exact g1,g2.mono k⟩,nd⟩
theorem Dw.nbs (B:Dw H A D):A.b≠A.p0/\A.b≠A.p1/\A.b≠A.p2:=by
 have n:=B.nb
 simp only[Ad.ls,ai,bf,or_false,not_or]at n
 exact⟨n.1,n.2.1,n.2.2.1⟩
theorem Dw.pt (B:Dw H A D) (v:Int):Dw (upd H A.p0 (.lst (D.pts.map V.int++[.int v]))) A {D with pts:=D.pts++[v]}:=by
 obtain⟨nb0,_,_⟩:=B.nbs
 obtain⟨b,nb,e0,⟨mv,m1,m2⟩,⟨uv,u1,u2⟩,⟨fv,g1,g2⟩,nd⟩:=B
 have k:=(gH (o:= .lst (D.pts.map V.int++[.int v])) e0).tk
 obtain⟨n1,n2,n3,_⟩:=Ad.ne nd
 exact⟨by rw[eN nb0];exact b,nb,by rw[eG,bz];rfl,⟨mv,by rw[eN (Ne.symm n1)];exact m1,m2.mono k⟩,⟨uv,by rw[eN (Ne.symm n2)];exact u1,u2.mono k⟩,⟨fv,by rw[eN (Ne.symm n3)];exact g1,g2.mono k⟩,nd⟩
theorem Dw.addM (B:Dw H A D) {mv:List V} {x:V} {m:Mkg} (e:H A.p1=some (.lst mv)) (hx:Im H x m.d):Dw (upd H A.p1 (.lst (mv++[x]))) A {D with mks:=D.mks++[m]}:=by
 obtain⟨_,nb1,_⟩:=B.nbs
 obtain⟨b,nb,e0,⟨mv',m1,m2⟩,⟨uv,u1,u2⟩,⟨fv,g1,g2⟩,nd⟩:=B
 rw[e]at m1
 cases m1
 have k:=(gH (o:= .lst (mv++[x])) e).tk
 obtain⟨n1,_,_,n4,n5,_⟩:=Ad.ne nd
 exact⟨by rw[eN nb1];exact b,nb,by rw[eN n1];exact e0,⟨_,eG,by rw[bz];exact(m2.mono k).app (.cons (hx.mono k) .nil)⟩,⟨uv,by rw[eN (Ne.symm n4)];exact u1,u2.mono k⟩,⟨fv,by rw[eN (Ne.symm n5)];exact g1,g2.mono k⟩,nd⟩
theorem Dw.us (B:Dw H A D) {uv:List V} {x:V} {u:Us} (e:H A.p2=some (.lst uv)) (hx:Im H x u.d):Dw (upd H A.p2 (.lst (uv++[x]))) A {D with uss:=D.uss++[u]}:=by
 obtain⟨_,_,nb2⟩:=B.nbs
 obtain⟨b,nb,e0,⟨mv,m1,m2⟩,⟨uv',u1,u2⟩,⟨fv,g1,g2⟩,nd⟩:=B
 rw[e]at u1
 cases u1
 have k:=(gH (o:= .lst (uv++[x])) e).tk
 obtain⟨_,n2,_,n4,_,n6⟩:=Ad.ne nd
 exact⟨by rw[eN nb2];exact b,nb,by rw[eN n2];exact e0,⟨mv,by rw[eN n4];exact m1,m2.mono k⟩,⟨_,eG,by rw[bz];exact(u2.mono k).app (.cons (hx.mono k) .nil)⟩,⟨fv,by rw[eN (Ne.symm n6)];exact g1,g2.mono k⟩,nd⟩
end
theorem Bw.fl {c:Cs} {H:Hp} {A:Ad} {r:V} {D:Bd} (B:Bw c H A r D) {fv:List V} {x:V} {p:Int×Int} (e:H A.p3=some (.lst fv)) (hx:Im H x (flD p)):Bw c (upd H A.p3 (.lst (fv++[x]))) A r {D with fls:=D.fls++[p]}:=by
 obtain⟨b,e0,⟨mv,m1,m2⟩,⟨uv,u1,u2⟩,⟨fv',g1,g2⟩,nd⟩:=B
 rw[e]at g1
 cases g1
 have k:=gH (o:= .lst (fv++[x])) e
 obtain⟨_,_,n3,_,n5,n6⟩:=Ad.ne nd
 exact⟨by rw[eN (jh b e (fun h=>nomatch h))];exact b,by rw[eN n3];exact e0,⟨mv,by rw[eN n5];exact m1,m2.imp fun _ _=>rX.mono k⟩,⟨uv,by rw[eN n6];exact u1,u2.imp fun _ _=>pM.mono k⟩,⟨_,eG,by rw[bz];exact(g2.mono k.tk).app (.cons (hx.mono k.tk) .nil)⟩,nd⟩
theorem Dw.nb3 {H:Hp} {A:Ad} {D:Bd} (B:Dw H A D):A.b≠A.p3:=by
 have n:=B.nb
 simp only[Ad.ls,ai,bf,or_false,not_or]at n
 exact n.2.2.2
theorem Dw.fl {H:Hp} {A:Ad} {D:Bd} (B:Dw H A D) {fv:List V} {x:V} {p:Int×Int} (e:H A.p3=some (.lst fv)) (hx:Im H x (flD p)):Dw (upd H A.p3 (.lst (fv++[x]))) A {D with fls:=D.fls++[p]}:=by
 have nb3:=B.nb3
 obtain⟨b,nb,e0,⟨mv,m1,m2⟩,⟨uv,u1,u2⟩,⟨fv',g1,g2⟩,nd⟩:=B
 rw[e]at g1
 cases g1
 have k:=(gH (o:= .lst (fv++[x])) e).tk
 obtain⟨_,_,n3,_,n5,n6⟩:=Ad.ne nd
 exact⟨by rw[eN nb3];exact b,nb,by rw[eN n3];exact e0,⟨mv,by rw[eN n5];exact m1,m2.mono k⟩,⟨uv,by rw[eN n6];exact u1,u2.mono k⟩,⟨_,eG,by rw[bz];exact(g2.mono k).app (.cons (hx.mono k) .nil)⟩,nd⟩
theorem Bw.out {c:Cs} {H:Hp} {A:Ad} {r:V} {D:Bd} (B:Bw c H A r D) {a:Addr} (h:H a=none):a∉A.ls:=fun m=>by
 obtain⟨b,e0,⟨mv,m1,m2⟩,⟨uv,u1,u2⟩,⟨fv,e3,_⟩,nd⟩:=B
 simp only[Ad.ls,ai,bf,or_false]at m
 rcases m with rfl|rfl|rfl|rfl
 ·rw[h]at e0;cases e0
 ·rw[h]at m1;cases m1
 ·rw[h]at u1;cases u1
 ·rw[h]at e3;cases e3
theorem Dw.out {H:Hp} {A:Ad} {D:Bd} (B:Dw H A D) {a:Addr} (h:H a=none):a∉A.ls:=fun m=>by
 obtain⟨b,nb,e0,⟨mv,m1,m2⟩,⟨uv,u1,u2⟩,⟨fv,e3,_⟩,nd⟩:=B
 simp only[Ad.ls,ai,bf,or_false]at m
 rcases m with rfl|rfl|rfl|rfl
 ·rw[h]at e0;cases e0
 ·rw[h]at m1;cases m1
 ·rw[h]at u1;cases u1
 ·rw[h]at e3;cases e3
inductive Pm where
 |num
 |any
 |fn (i o:Nat)
 |rcd (l:List (Str×Nat))
 |tag (w:Str) (o:Nat)
 |row (o:Nat)
inductive Pu where
 |num
 |call (o i:Nat)
 |take (l:List (Str×Nat))
 |case (l:List (Str×Nat))
 |row (i:Nat)
def mvL (b:Nat) (l:List (Str×Nat)):List (Str×Int):=l.map fun p=>(p.1,(b:Int)+(p.2:Int))
def nI (n:Nat):Dt:=iD (n:Int)
def prN (l:List (Str×Nat)):Dt:= .tup (l.map fun p=> .tup [sD p.1,nI p.2])
def Pm.sh:Pm->Str
 | .num=>"num"
 | .any=>"any"
 | .fn _ _=>"fn"
 | .rcd _=>"rec"
 | .tag _ _=>"tag"
 | .row _=>"row"
def Pm.rest:Pm->List Dt
 | .num=>[]
 | .any=>[]
 | .fn i o=>[nI i,nI o]
 | .rcd l=>[prN l]
 | .tag w o=>[sD w,nI o]
 | .row o=>[nI o]
def Pm.d (m:Pm):Dt:= .tup (sD m.sh::m.rest)
def Pm.ok (no ni:Nat):Pm->Prop
 | .fn i o=>i<ni/\o<no
 | .rcd l=>l.length<=4/\∀p∈l,p.2<no
 | .tag _ o=>o<no
 | .row o=>o<no
 |_=>True
def Pm.parts (b i:Nat):Pm->Dt
 | .num=> .tup []
 | .any=> .tup []
 | .fn x o=> .tup [iD ((i:Int)+(x:Int)),iD ((b:Int)+(o:Int))]
 | .rcd l=>prD (mvL b l)
 | .tag w o=> .tup [sD w,iD ((b:Int)+(o:Int))]
 | .row o=> .tup [iD ((b:Int)+(o:Int))]
def Pu.sh:Pu->Str
 | .num=>"num"
 | .call _ _=>"call"
 | .take _=>"take"
 | .case _=>"case"
 | .row _=>"row"
def Pu.rest:Pu->List Dt
 | .num=>[]
 | .call o i=>[nI o,nI i]
 | .take l=>[prN l]
 | .case l=>[prN l]
 | .row i=>[nI i]
def Pu.d (u:Pu):Dt:= .tup (sD u.sh::u.rest)
def Pu.ok (no ni:Nat):Pu->Prop
 | .num=>True
 | .call o i=>o<no/\i<ni
 | .take l=>l.length<=4/\∀p∈l,p.2<ni
 | .case l=>l.length<=4/\∀p∈l,p.2<ni
 | .row i=>i<ni
def Pu.us (b i:Nat) (a p:Int):Pu->Us
 | .num=> .num a p 0
 | .call o x=> .call a p 0 ((b:Int)+(o:Int)) ((i:Int)+(x:Int))
 | .take l=> .take a p 0 (mvL i l)
 | .case l=> .case a p 0 (mvL i l)
 | .row x=> .row a p 0 ((i:Int)+(x:Int))
structure Pp where
 outs:List (List Pm)
 ins:List (List Pu)
 fls:List (Nat×Nat)
structure Pp.ok (P:Pp):Prop where
 o1:1<=P.outs.length
 o8:P.outs.length<=8
 i8:P.ins.length<=8
 om:∀l∈P.outs,l.length<=64/\∀m∈l,m.ok P.outs.length P.ins.length
 iu:∀l∈P.ins,l.length<=64/\∀u∈l,u.ok P.outs.length P.ins.length
 ff:P.fls.length<=64/\∀p∈P.fls,p.1<P.ins.length/\p.2<P.outs.length
end KK.Internal
namespace L2.Internal
open PySem PySem.Spec PyProof.Rows
section
variable {X:Cx}
end
section
variable {prog:Program} {w:World} {A:Around} {s:Shared}
end
section
variable {X:Cx}
end
section
variable {X:Cx}
end
section
variable {prog:Program} {w:World} {A:Around} {E:Value->Shared->Prop} {h:Heap} {g:Array GenState} {d:Drawn} {t:Nat} {os:OsState} {a D:Addr} {o:Obj} {K:PySem.W.Frag}
structure XCls (K:PySem.W.Frag) (D:Addr):Prop where
 ga:cB K (.ref D) "__getattribute__"=some (some (.builtin "BaseException.__getattribute__"))
 gn:cB K (.ref D) "__getattr__"=some none
 cl:cB K (.ref D) "__class__"=some (some (.builtin "object.__class__"))
 sb:PySem.W.subIn K (.ref D) (.type "BaseException")=some true
 so:PySem.W.subIn K (.ref D) (.type "object")=some true
 is:cz K D=true
end
section
variable {X:Cx}
end
open Sem (wp)
def DK (h h':Heap):Prop:=∀b o,h.get? b=some o->∃o',h'.get? b=some o'/\o'.dict=o.dict/\o'.cls=o.cls
theorem DK.trans {h h1 h2:Heap} (a:DK h h1) (b:DK h1 h2):DK h h2:=fun x o e=>by
 obtain⟨o1,e1,d1,c1⟩:=a x o e
 obtain⟨o2,e2,d2,c2⟩:=b x o1 e1
 exact⟨o2,e2,d2.trans d1,c2.trans c1⟩
section
variable {prog:Program} {w:World} {A:Around} {E:Value->Shared->Prop} {h:Heap} {g:Array GenState} {d:Drawn} {t:Nat} {os:OsState} {a D dx:Addr} {o:Obj} {K:PySem.W.Frag} {name:Str} {v:Value} {mA:Str->Option Value}
end
open Builtin Builtin.ObjectAttr
section
variable {prog:Program} {w:World} {A:Around} {E:Value->Shared->Prop} {h:Heap} {g:Array GenState} {d:Drawn} {t:Nat} {os:OsState} {a D dx:Addr} {o:Obj} {K:PySem.W.Frag} {name:Str} {v:Value} {mA:Str->Option Value} {cd:ClassData} {vs:Array Value}
structure XSto (K:PySem.W.Frag) (D:Addr):Prop where
 xc:XCls K D
 sa:cB K (.ref D) "__setattr__"=some (some (.builtin "object.__setattr__"))
 mro:∃cd,PySem.W.clsIn K D=some cd/\cd.hasDict=true/\∀self,refuseLoop self "__setattr__" cd.mro=pure ()
end
section
variable {prog:Program} {w:World} {A:Around} {E:Value->Shared->Prop} {h:Heap} {g:Array GenState} {d:Drawn} {t:Nat} {os:OsState}
variable {nm q:Str} {C N:Addr} {bs bm bmB:List Value} {hdct:Bool} {sn:List Str} {sub:List Value} {ab:Bool} {col:Option Bool} {dd:Option Addr} {k0 k1 k2 k3 k5:Option Value} {B newId initId:String}
end
section
variable {prog:Program} {w:World} {A:Around} {E:Value->Shared->Prop} {s:Shared} {env:Env}
variable {nm q:Str} {C N:Addr} {bs bm bmB:List Value} {hdct:Bool} {sn:List Str} {sub:List Value} {ab:Bool} {col:Option Bool} {dd:Option Addr} {k0 k1 k2 k3 k5:Option Value} {B newId initId:String}
end
section
variable {P:Program} {w:World} {H:Hp} {h:Heap} {a C dx:Addr}
end
section
variable {X:Cx} {pz:List (Addr×Obj)} {σ:St} {H:Hp} {s:Shared} {A:Around} {E:Value->Shared->Prop} {a C dx:Addr} {f:Str} {fs:List (Str×V)}
end
section
variable {X:Cx} {o value e:Expr} {ta tv:TE} {f:Str} {pos pos':Pos}
end
section
variable {P:Program} {w:World} {K:PySem.W.Frag} {mg:Str->Option Value} {base:Heap} {N:List Str} {qual:Str} {scope:Scope} {f:Addr} {cd:Value} {A:Around} {outer:List Env} {s₀:Shared} {H₀:Hp} {E:XK}
end
structure ExcI (K:PySem.W.Frag) (C fI:Addr):Prop where
 at_:∃bm N nm q bs hdct sn sub ab col dd k0 k1 k2 k3 k5,K.lookup C=some (excClassObj nm q C N bs bm hdct sn sub ab col dd k0 k1 k2 k3 k5 "ValueError.__new__")/\PySem.W.nsOkIn K N=true/\dj K N "__init__"=some (some (.ref fI))/\PySem.W.tailIn K VEbm bm=true
 fn:∃oI,K.lookup fI=some oI/\oI.cls= .type "function"
section
variable {X:Cx} {C fI:Addr} {E:XK} {x:Str} {np cpos pos:Pos} {e:Expr} {es:List Expr} {t:TA} {k:Nat} {fd:FuncData} {ps:List Str} {sp:Sp}
end
section
variable {X:Cx} {Y:Addr} {y n:Str} {py hpos:Pos} {b₀:Stmt} {body:List Stmt} {tb:TS} {i:Nat}
variable {k j:Nat} {f:Addr} {fd:FuncData} {ps:List Str} {sp:Sp} {dvs:List V} {ds:List Value} {x v:Str} {p pv pos pos' tpos:Pos} {e:Expr} {es:List Expr} {t:TA}
end
open Builtin Builtin.ObjectAttr
section
variable {K:PySem.W.Frag} {C fI N:Addr} {nm q:Str} {bs bm:List Value} {sn:List Str} {sub:List Value} {ab:Bool} {col:Option Bool} {dd:Option Addr} {k0 k1 k2 k3 k5:Option Value} {oI:Obj}
end
section
variable {P:Program} {w:World} {K:PySem.W.Frag} {mg:Str->Option Value} {base:Heap}
end
section
variable {prog:Program} {w:World} {A:Around} {E:Value->Shared->Prop} {s:Shared}
end
section
variable {X:Cx}
end
section
variable {X:Cx}
end
section
variable {P:Program} {w:World} {K:PySem.W.Frag} {mg:Str->Option Value} {base:Heap} {N:List Str} {qual:Str} {scope:Scope} {f:Addr} {cd:Value} {A:Around} {outer:List Env} {s₀:Shared} {H₀:Hp} {E:XK}
end
section
variable {X:Cx} {i:Nat} {Y:Addr} {y n:Str} {py hpos:Pos} {b₀:Stmt} {body:List Stmt} {tb:TS}
variable {k:Nat} {f:Addr} {fd:FuncData} {ps:List Str} {sp:Sp} {dvs:List V} {ds:List Value} {x:Str} {p pos pos' tpos:Pos} {e:Expr} {es:List Expr} {t:TA}
end
section
variable {X:Cx}
end
section
variable {X:Cx} {CX:CXT} {k:Nat} {E:XK} {c e:Expr} {es:List Expr} {tc:TE} {t:TA} {pos:Pos} {S:Addr->Sp->Prop}
def GO (X:Cx) (CX:CXT) (k:Nat) (f:Addr) (sp:Sp):Prop:=∃fd ps,qA X.prog X.w X.K X.mg X.base CX k f fd ps sp/\cK X.K (.ref f)=true/\lR X.K fd ps []
def DT (S:Addr->Sp->Prop) (E:XK) (tc:TE) (t:TA):TE:=fun σ H Q=>tc σ H fun x H1=>∃f sp,x= .ref f/\S f sp/\t σ H1 fun vs H2=>sp vs H2 Q E
theorem zW (hS:∀f sp,S f sp->GO X CX k f sp) (hr:kQ k X.A) (hx:lW CX X E) (hc:PE X c tc) (ha:PA X (e::es) t)
  (hq:autoParam (eval (.Call c (e::es) [] pos) X.env=(do callWith pos (<-eval c X.env) [] (backTo pos (starEach (e::es) X.env)) (backToKw pos (keywordEach [] X.env)))) L2.Internal.auR._auto_1)
  (he:autoParam (starEach (e::es) X.env=(false,eval e X.env)::starEach es X.env) L2.Internal.auR._auto_1) (hpl:autoParam ((backTo pos (starEach es X.env)).any (·.1)=false) L2.Internal.auR._auto_1):
  PE X (.Call c (e::es) [] pos) (DT S E tc t):=by
 intro pz s σ H Q I h
 rw[hq]
 refine wpAny_bind (thn (hc pz s σ H _ I h) fun u s1 ⟨v,H1,I1,r1,f,sp,e1,hs,q1⟩=>?_)
 subst e1
 obtain rfl:u=Value.ref f:=r1
 obtain⟨fd,ps,F,hk,hb⟩:=hS f sp hs
 refine cW (h₀:=X.base) I1.ok.mod.kin hk (thn (ha pos pz s1 σ H1 _ I1 q1) fun us s2 ⟨vs,H2,I2,r,q⟩=>⟨I2.kIn,?_⟩) he hpl
 exact tf F hr hb .nil hx I2 r (by rw[aB];exact q)
end
section
open PySem.SeqAt
open PySem.AutoSeq1 (wpAny_loadPart')
open PySem.MeetsSeq PySem.MeetsSeq2 PySem.MeetsSeq3
end
section
variable {X:Cx}
end
theorem pQ (f:Nat->Int):∀n,argBest (fun i j=>decide (f i>f j)) n<=n/\∀k,k<=n->f k<=f (argBest (fun i j=>decide (f i>f j)) n)
 |0=>⟨bX _,fun k hk=>by
   have:k=0:=by lia
   subst this
   exact Int.le_refl _⟩
 |n+ 1=>by
  obtain⟨h1,h2⟩:=pQ f n
  rw[argBest]
  by_cases h:f (n+ 1)>f (argBest (fun i j=>decide (f i>f j)) n)
  ·rw[fY (gM h)]
   refine⟨bX _,fun k hk=>?_⟩
   by_cases e:k=n+ 1
   ·rw[e];exact Int.le_refl _
   ·have:=h2 k (by lia)
    lia
  ·rw[fJ (by simpa using h)]
   refine⟨by lia,fun k hk=>?_⟩
   by_cases e:k=n+ 1
   ·rw[e];lia
   ·exact h2 k (by lia)
section
variable {X:Cx}
theorem yv (hc:X.calm=true):m7 X (.builtin "max") (fun xs H Q=>∃(a:Addr) (ns:List Int),xs=[.ref a]/\SqL X.K H a (ns.map V.int)/\ns≠[]/\∀n,n∈ns->(∀m∈ns,m<=n)->Q (.int n) H):=by
 intro pz s σ H xs us Q I r h
 obtain⟨a,ns,rfl,hq,hn,q⟩:=h
 obtain⟨u,rfl,ru⟩:=oP r
 cases ru
 obtain⟨its,rv,p,hz⟩:=I.list hq
 obtain⟨zs,e⟩:=(rg rv).allInts.items
 have l:=p.isList
 have hlen:=rv.length
 rw[aA]at hlen
 have hsz:zs.size=ns.length:=by
  have h1:=congrArg Array.size e
  simp only[intItems,aw,Array.size_map]at h1
  lia
 have hnum:∀j,j<ns.length->numAt zs j=ns.getD j 0:=fun j hj=>by
  have h1:its.toArray[j]?=(intItems zs)[j]?:=by rw[e]
  obtain⟨v,hv,rv'⟩:=rv.get (show(ns.map V.int)[j]?=some (.int ns[j]) by rw[aI,aZ hj];rfl)
  obtain⟨t,rfl⟩:=rv'
  rw[bt,hv]at h1
  obtain⟨t2,e2⟩:=intItems_at h1.symm
  injection e2 with e2 _
  rw[<-e2,bj,aZ hj]
  rfl
 have e3:0<ns.length:=List.length_pos_iff.mpr hn
 rw[e]at l
 refine max_intList (I.ok.hd hc) l (by lia) fun v h' tk hv hk=>?_
 obtain⟨t,rfl⟩:=intItems_at hv
 obtain⟨b1,b2⟩:=pQ (numAt zs) (zs.size-1)
 refine⟨.int _,H,I.kept (t':=tk) hk,⟨_,rfl⟩,q _ ?_ fun m hm=>?_⟩
 ·rw[hnum _ (by lia),bj,aZ (by lia)]
  exact List.getElem_mem _
 ·obtain⟨j,hj⟩:=bA.mp hm
  have hjl:=(ao.mp hj).1
  have:=b2 j (by lia)
  rw[hnum j hjl,bj,hj]at this
  exact this
end
section
variable {X:Cx}
def yw (K:PySem.W.Frag):V->List V->Hp->VK->Prop:=fun x vs H Q=>∃(l:Addr) (ns:List Int) (n:Int) (j:Nat),x= .ref l/\vs=[.int n]/\SqL K H l (ns.map V.int)/\ns.length<=1000/\ns[j]?=some n/\(∀m:Nat,m<j->ns[m]?≠some n)/\Q (.int (j:Int)) H
def isInt (n:Int):Value->Bool
 | .int i _=>decide (i=n)
 |_=>false
theorem yx {k:Nat} (hr:kQ k X.A):MtR X "list.index" (yw X.K):=by
 intro pz s σ H x vs v us Q I rx rv h
 obtain⟨l,ns,n,j,rfl,rfl,hq,hl,hj,hno,q⟩:=h
 cases rx
 obtain⟨u,rfl,ru⟩:=rv.one
 have hu:=hr.un
 have sl0:sizeLine=16777216:=sizeLine_eq
 obtain⟨its,r,pl,hz⟩:=I.list hq
 have lz:=r.length
 rw[aA]at lz
 have hjl:=(ao.mp hj).1
 obtain⟨⟨cls,dd,data,sl⟩,ho,hcl,n',hd⟩:=id pl.isList
 simp only at hcl hd
 subst hcl hd
 have rel:∀(i:Nat) (hi:i<its.length),∃z t,ns[i]?=some z/\its[i]=Value.int z t:=fun i hi=>by
  obtain⟨z,hz⟩:∃z,ns[i]?=some z:=⟨_,aZ (by lia)⟩
  obtain⟨w,hw,rw'⟩:=r.get (show(ns.map V.int)[i]?=some (.int z) by rw[aI,hz];rfl)
  rw[aZ hi]at hw
  cases hw
  obtain⟨t,et⟩:=rw'
  exact⟨z,t,hz,et⟩
 refine call_meets dC ⟨_,ho,rfl⟩ PySem.F.entry_list_index (PySem.F.args_list_index_2 _ _)
  (SeqAt.list_indexAt l its.toArray n' dd sl u (isInt n) j (by rw[aw];lia) (by lia) ?_ ?_) ⟨ho,fun w hw=>?_,⟨.int (j:Int),H,I.tok _,⟨_,rfl⟩,q⟩⟩
 ·obtain⟨z,t,hz1,hz2⟩:=rel j (by lia)
  rw[hj]at hz1
  cases hz1
  show isInt n its[j]=true
  rw[hz2]
  exact gM rfl
 ·intro m hm hmj
  rw[aw]at hm
  obtain⟨z,t,hz1,hz2⟩:=rel m hm
  show isInt n its[m]=false
  rw[hz2]
  refine gk fun e=>hno m hmj ?_
  rw[hz1,e]
 ·have hw':w∈its:=by simpa using hw
  obtain⟨i,hi,rfl⟩:=List.getElem_of_mem hw'
  obtain⟨z,t,hz1,hz2⟩:=rel i hi
  have rz:gN (.int z) its[i]:=⟨t,hz2⟩
  have:=DS I 100 X.A.in1 rz ru (At.flat (K:=X.K) rfl) (At.flat rfl) rfl rfl (by simp[lX]) (by show X.A.units+ 1+ 100<cLine;lia)
  have e:isInt n its[i]=eqD (.flat (.int z)) (.flat (.int n)):=by
   rw[hz2]
   show decide (z=n)=_
   rw[eqD]
   show decide (z=n)=(z==n)
   rw[dI]
   simp
  rw[e]
  exact this
end
section
variable {X:Cx}
end
section
variable {X:Cx}
end
end L2.Internal
namespace HT.Internal
open PySem PySem.Spec PyProof.Rows L2.Internal
section
variable {prog:Program} {w:World} {A:Around} {E:Value->Shared->Prop} {s:Shared}
end
end HT.Internal
namespace L2.Internal
open PySem PySem.Spec PyProof.Rows
section
variable {X:Cx}
end
section
variable {prog:Program} {w:World} {A:Around} {E:Value->Shared->Prop} {s:Shared}
end
section
variable {X:Cx} {pz:List (Addr×Obj)} {σ:St} {H:Hp} {d it t:Addr} {vs:List V} {A:Around} {R:Result->Shared->Prop}
end
section
variable {X:Cx}
def DU (K:PySem.W.Frag):R2:=fun x y H Q=>∃a b xs ys,x= .ref a/\y= .ref b/\SqT K H a xs/\SqT K H b ys/\xs.length+ys.length<=sizeLine/\
 (xs=[]->Q (.ref b) H)/\(ys=[]->Q (.ref a) H)/\∀p,H p=none->Q (.ref p) (upd H p (.tup (xs++ys)))
theorem rZ:OpR X (binaryOp .Add) (DU X.K):=by
 intro pz s σ H x y v u Q I rx ry h
 obtain⟨a,b,xs,ys,rfl,rfl,ha,hb,hz,q0,q1,q2⟩:=h
 cases rx
 cases ry
 obtain⟨its,r1,p1,_⟩:=I.tuple ha
 obtain⟨its2,r2,p2,_⟩:=I.tuple hb
 by_cases hx:xs=[]
 ·obtain⟨⟨cls,dd,data,sl⟩,ho,hc,n,hd⟩:=id p1
  obtain⟨⟨cls2,dd2,data2,sl2⟩,ho2,hc2,n2,hd2⟩:=id p2
  simp only at hc hd hc2 hd2
  subst hc hd hc2 hd2
  exact concat_meets ⟨_,ho,rfl⟩ ⟨_,ho2,rfl⟩ noFill_tuple_add seq_tuple_add dy dA (dB _ _)
   (tuple_addW0 a b its.toArray its2.toArray n n2 dd dd2 sl sl2 (by simp[r1.nil_iff.mpr hx])) ⟨ho,ho2,.ref b,H,I,rfl,q0 hx⟩
 refine HT.Internal.cat_tup p1 p2 (fun z=>hx (r1.nil_iff.mp z)) (fun z=>⟨.ref a,H,I,rfl,q1 (r2.nil_iff.mp z)⟩) (fun z=>?_) (by rw[<-r1.length,<-r2.length];exact hz)
 refine⟨.ref s.heap.objs.size,_,I.laid (t':=s.toks) (o:= .tup (xs++ys)) (fun b ob q=>dZ _ q) (bX _) ?_,rfl,q2 _ (I.hok.fresh (bX _))⟩
 exact⟨by rw[aM];exact hz,_,r1.append r2,uw.new _ _⟩
end
theorem yy {h h':Heap} {j t:Addr} {i:Nat} (g:h.IsTupleIter j t i) (k:∀o,h.get? j=some o->h'.get? j=some o):h'.IsTupleIter j t i:=by
 obtain⟨o,e,r⟩:=g
 exact⟨o,k o e,r⟩
theorem A1 {h h':Heap} {t:Addr} {its:Array Value} (g:h.IsTuple t its) (k:∀o,h.get? t=some o->h'.get? t=some o):h'.IsTuple t its:=by
 obtain⟨o,e,r⟩:=g
 exact⟨o,k o e,r⟩
theorem A2 {prog:Program} {w:World} {A:Around} (hh:A.handled=none) (j t:Addr) (hne:t≠j) (its:Array Value):Draws prog w A j [j,t] its.size (fun i v=>its[i]?=some v) (fun i h=>h.IsTupleIter j t i/\h.IsTuple t its) where
 live:=fun i h ⟨⟨o,e,_⟩,_⟩=>⟨o,e⟩
 frame:=fun i h h' ⟨a,b⟩ k=>⟨yy a fun o e=>k j (by simp) o e,A1 b fun o e=>k t (by simp) o e⟩
 item:=fun i s Q E hi ⟨a,b⟩ k=>rl a b (x:=its[i]) (by simp[hi]) fun h' a' sb=>k its[i] h' s.toks (by simp[hi]) ⟨a',A1 b fun o e=>(sb.2 t hne).trans e⟩ sb
 done:=fun s Q E ⟨a,b⟩ k=>lP hh a b (by simp) k
theorem yz (t:Addr) (its:Array Value) (n:Nat) (dct:Option Addr) (sl:Array (Option Value)):Meets (Builtin.«enumerate.__new__» ⟨[.type "enumerate",.ref t],[]⟩) (fun _ R s=>s.heap.get? t=some {cls:= .type "tuple",dict:=dct,data:= .seq its n,slots:=sl}/\R (.ok (.ret (.ref (s.heap.push {cls:= .type "tuple_iterator",data:= .fields #[.ref t,.int 0 0]}).objs.size))) {s with heap:=(s.heap.push {cls:= .type "tuple_iterator",data:= .fields #[.ref t,.int 0 0]}).push {cls:= .type "enumerate",data:= .fields #[.none,.bool false,.ref s.heap.objs.size,rawInt 0,.none,.none]}}):=Meets.of_wp fun P w A R s ⟨hl,q⟩=>by
 obtain⟨hp,g,d,tk,os⟩:=s
 have hs:=sub_enumerate
 have hT:Heap.IsTuple (Shared.heap ⟨hp,g,d,tk,os⟩) t its:=⟨_,hl,rfl,n,rfl⟩
 wp_walk using AutoSeq1.wpAny_loadPart' hl
 refine wpAny_stack_any fun st=>wpAny_pure ?_
 split
 ·rename_i c _ _ _ _ _
  cases(c==Value.type "enumerate")<;>(wp_walk using AutoSeq1.wpAny_loadPart' hl,wpAny_pyIter_tuple hT)<;>exact⟨_,rfl,q⟩
 ·wp_walk using AutoSeq1.wpAny_loadPart' hl,wpAny_pyIter_tuple hT
  exact⟨_,rfl,q⟩
theorem wI {prog:Program} {w:World} {A:Around} {E:Value->Shared->Prop} {s:Shared} {t:Addr} {its:Array Value} {Q:Value->Shared->Prop} (hT:s.heap.IsTuple t its)
  (q:∀h',IsEnum h' (s.heap.objs.size+ 1) s.heap.objs.size 0 .none->h'.IsTupleIter s.heap.objs.size t 0->h'.objs.size=s.heap.objs.size+ 2->(∀b o,s.heap.get? b=some o->h'.get? b=some o)->Q (.ref (s.heap.objs.size+ 1)) {s with heap:=h'}):wpAny (model prog w) A (call (.type "enumerate") [.ref t]) Q E s:=by
 obtain⟨⟨c,dct,dt,sl⟩,hl,hc,n,hd⟩:=hT
 cases(show c= .type "tuple" from hc)
 cases(show dt= .seq its n from hd)
 refine callType_new F.called_enumerate (by decide) (F.typeCall_enumerate_1 _) (F.newCall_enumerate_1 _) (fun o=>F.args_object_init_2 o _) F.entry_enumerate_new (yz t its n dct sl) ⟨hl,?_⟩
 have hz:(s.heap.push {cls:= .type "tuple_iterator",data:= .fields #[.ref t,.int 0 0]}).objs.size=s.heap.objs.size+ 1:=d7 ..
 show _/\_
 rw[hz]
 have he:IsEnum ((s.heap.push {cls:= .type "tuple_iterator",data:= .fields #[.ref t,.int 0 0]}).push {cls:= .type "enumerate",data:= .fields #[.none,.bool false,.ref s.heap.objs.size,rawInt 0,.none,.none]}) (s.heap.objs.size+ 1) s.heap.objs.size 0 .none:=by
  have z:=dY (s.heap.push {cls:= .type "tuple_iterator",data:= .fields #[.ref t,.int 0 0]}) (o:={cls:= .type "enumerate",data:= .fields #[.none,.bool false,.ref s.heap.objs.size,rawInt 0,.none,.none]}) rfl
  rw[hz]at z
  exact z
 exact⟨⟨_,he,rfl⟩,q _ he ⟨_,dZ _ (dY _ rfl),rfl,rfl⟩ (by rw[d7,hz]) fun b o x=>dZ _ (dZ _ x)⟩
def DV (K:PySem.W.Frag) (a:Addr):It:=
 ⟨fun i H=>∃xs x,SqT K H a xs/\xs[i]?=some x,
   fun i H v H'=>∃T x,v= .ref T/\H T=none/\H'=upd H T (.tup [.int (i:Int),x])/\∀xs,SqT K H a xs->xs[i]?=some x,
   fun i H=>∃xs,SqT K H a xs/\i=xs.length⟩
def EStT (e it a:Addr) (i:Nat) (h:Heap):Prop:=(∃old,IsEnum h e it i old)/\h.IsTupleIter it a i
theorem wJ {P:Program} {w:World} {K:PySem.W.Frag} {es:List Expr} {kk:Nat} {tp:Pos} {a e it:Addr} (h1:e≠it) (h2:a≠e) (h3:a≠it):zJ P w K (.Tuple es kk tp) (DV K a) [e,it] e (EStT e it a) where
 mem:=by simp
 obj:=fun i h st c hc=>by
  obtain⟨⟨old,g1⟩,⟨o4,g4,_,d4⟩⟩:=st
  simp only[ai,bf,or_false]at hc
  rcases hc with q|q<;>subst q
  ·exact⟨_,g1,fun v q=>nomatch q⟩
  ·exact⟨_,g4,fun v q=>by rw[d4]at q;cases q⟩
 keep:=fun i h h' st k=>by
  obtain⟨⟨old,g1⟩,g4⟩:=st
  exact⟨⟨old,k e (by simp) _ g1⟩,(yy g4 fun o q=>k it (by simp) o q)⟩
 item:=by
  intro X hP hw hK hc i pz s σ H E I hf st hg
  subst hP hw hK
  obtain⟨xs,x,qx,ex⟩:=hg
  obtain⟨i1s,r1,p1,z1⟩:=I.tuple qx
  obtain⟨g1,g4⟩:=st
  obtain⟨old,g1'⟩:=g1
  obtain⟨ux,hux,rr1⟩:=r1.get ex
  have lte:e<s.heap.objs.size:=dX g1'
  have lt:i<i1s.toArray.size:=by rw[aw];have:=r1.length;have:=(ao.mp ex).1;lia
  have ne:e∉[it,a]:=fun z=>by simp only[ai,bf,or_false]at z;exact z.elim h1 fun z=>h2 z.symm
  have D:=A2 (prog:=X.prog) (w:=X.w) (A:=X.A.in1) (by exact I.ok.hd hc) it a h3 i1s.toArray
  refine wpAny_pyNext_enum_itemD D g1' ⟨g4,show s.heap.IsTuple a i1s.toArray from p1⟩ lt h1 ne fun ux' k1 tk hP ho hit' hT hsz hk=>?_
  obtain rfl:ux'=ux:=by
   have z:i1s[i]?=some ux':=by simpa using hP
   rw[z]at hux
   exact cf.inj hux
  have kk1:∀c o,c∉[e,it]->s.heap.get? c=some o->k1.get? c=some o:=fun c o hc q=>hk c o (fun z=>hc (by simp[z])) (fun z=>hc (by simp[z])) q
  have J1:Inv X pz σ H {s with heap:=k1,toks:=tk+ 1}:=I.turnedL kk1 hf
  refine⟨.ref s.heap.objs.size,rfl,wpAny_letOwnedTupleGo_enum ho fun k2 he' sb=>?_⟩
  have J2:Inv X pz σ H {s with heap:=k2,toks:=tk+ 1}:=Inv.turnedL (s:={s with heap:=k1,toks:=tk+ 1}) (h':=k2) (t':=tk+ 1) (ch:=[e]) J1 (fun c o hc q=>(sb.2 c (fun z=>hc (by simp[z]))).trans q) fun c hc=>hf c (by simp only[ai,bf,or_false]at hc⊢;simp[hc])
  have ht2:uw k2 s.heap.objs.size #[.int i tk,ux']:=⟨_,(sb.2 _ (bW lte)).trans hT,rfl,_,rfl,rfl⟩
  obtain⟨fT,J3⟩:=I.pairNew (x:= .int (i:Int)) (bX _) J2 ht2 ⟨tk,rfl⟩ rr1
  refine⟨.ref s.heap.objs.size,_,J3,rfl,⟨_,x,rfl,fT,rfl,fun l hl=>by rw[I.tuple_inj hl qx];exact ex⟩,⟨⟨_,by simpa using he'⟩,yy hit'.1 fun o y=>(sb.2 it h1.symm).trans y⟩,fun c hc=>?_⟩
  rw[eN (fun q=>?_)]
  ·exact(hf c hc).1
  ·have lt:c<s.heap.objs.size:=by
    obtain⟨o4,e4,_⟩:=g4
    simp only[ai,bf,or_false]at hc
    rcases hc with q|q<;>subst q
    ·exact lte
    ·exact dX e4
   exact absurd lt (by rw[q];exact bS _)
 done:=by
  intro X hP hw hK hc i pz s σ H E I hf st hg
  subst hP hw hK
  obtain⟨xs,qx,ei⟩:=hg
  obtain⟨i1s,r1,p1,z1⟩:=I.tuple qx
  obtain⟨g1,g4⟩:=st
  have ne:e∉[it,a]:=fun z=>by simp only[ai,bf,or_false]at z;exact z.elim h1 fun z=>h2 z.symm
  have D:=A2 (prog:=X.prog) (w:=X.w) (A:=X.A.in1) (by exact I.ok.hd hc) it a h3 i1s.toArray
  have W:=WalksT.enumerateD D e h1 ne (by simp)
  have l1:=r1.length
  have q:i=i1s.toArray.size:=by simp only[aw];lia
  subst q
  exact W.done s _ _ ⟨g1,g4,show s.heap.IsTuple a i1s.toArray from p1⟩ fun h1 tk hk=>⟨rfl,I.turnedL hk hf⟩
 self:=fun _ _ _ _ _ st h=>by
  obtain⟨⟨old,g1⟩,_⟩:=st
  exact wpAny_pyIter_enum g1 h
def DW (K:PySem.W.Frag) (ta:TA):TI:=fun σ H R=>ta σ H fun vs H1=>∃a,vs=[.ref a]/\(∃xs,SqT K H1 a xs)/\R (DV K a) H1
section
variable {X:Cx}
theorem zX {es:List Expr} {kk:Nat} {tp:Pos} {a:Expr} {ta:TA} {p pos:Pos} (hg:Gl X "enumerate") (hm:X.mg "enumerate"=none) (ha:PA X [a] ta) (hs:autoParam (starEach [a] X.env=[(false,eval a X.env)]) L2.Internal.auR._auto_1):
  PI X (.Tuple es kk tp) (.Call (.Name "enumerate" p) [a] [] pos) (DW X.K ta):=by
 intro pz s σ H R I h
 refine Call_ (lU I hg hm oG (eB (thn (ha pos pz s σ H _ I h) fun us s1 ⟨vs,H1,I1,r1,q1⟩=>?_) hs rfl))
 obtain⟨l1,e,⟨xs,q1⟩,q⟩:=q1
 subst e
 obtain⟨u,rfl,ru⟩:=oP r1
 cases ru
 obtain⟨i1s,w1,p1,z1⟩:=I1.tuple q1
 have o1:@LT.lt Nat _ l1 s1.heap.objs.size:=SqT.old I1 q1
 refine wI (show s1.heap.IsTuple l1 i1s.toArray from p1) fun h1 hE hi1 hsz hk=>wpAny_pyIter_enum hE ?_
 refine⟨_,_,_,_,H1,rfl,I1.kept (t':=s1.toks) hk,wJ (fun(h:@Eq Nat _ _)=>by lia) (fun(h:@Eq Nat _ _)=>by lia) (fun(h:@Eq Nat _ _)=>by lia),⟨⟨_,hE⟩,hi1⟩,fun c hc=>?_,q⟩
 have ge:s1.heap.objs.size<=c:=by
  simp only[ai,bf,or_false]at hc
  rcases hc with h|h<;>rw[h]<;>first|exact bX _|exact bZ _ _
 exact I1.fpOk ge (I1.hok.fresh ge)
end
theorem nP {X:Cx}:m7 X (.type "dict") (fun xs H Q=>∃(e:Addr) (kvs:List (Key×V)),xs=[.ref e]/\H e=some (.dK kvs)/\∀d,H d=none->Q (.ref d) (upd H d (.dK kvs))):=by
 intro pz s σ H xs us Q I r h
 obtain⟨e,kvs,rfl,he,q⟩:=h
 obtain⟨u,rfl,ru⟩:=oP r
 cases ru
 obtain⟨z,hds,vs,rel,dd⟩:=DD I.hok he
 refine kt_call_dict hds dd (by rw[<-rel.length];exact z) fun h' hd' hs'=>?_
 have hb:=I.big
 have I1:Inv X pz σ (upd H s.heap.objs.size (.dK kvs)) {s with heap:=h'}:=by
  refine I.laid (t':=s.toks) (fun b u e=>?_) (bX _) (AL z (beq_false_of_ne (bW hb)) rel hd')
  rw[hs'.2 b (bT (dX e))]
  exact dZ _ e
 exact⟨.ref s.heap.objs.size,_,I1,rfl,q _ (I.hok.fresh (bX _))⟩
section
variable {prog:Program} {w:World} {A:Around} {E:Value->Shared->Prop} {s:Shared}
theorem B5 {z TI TO j1 j2 t1 t2:Addr} {k1 k2:Nat} {xs ys:Array Value} {x y a b:Value} {Q:Value->Shared->Prop} (D:ZipApart z TI TO j1 j2 t1 t2)
  (gz:IsZip s.heap z TI TO .none) (gI:IsPair s.heap TI (.ref j1) (.ref j2)) (gO:IsPair s.heap TO a b)
  (g1:s.heap.IsTupleIter j1 t1 k1) (g2:s.heap.IsListIter j2 t2 k2) (d1:s.heap.IsTuple t1 xs) (d2:s.heap.IsList t2 ys) (ex:xs[k1]?=some x) (ey:ys[k2]?=some y)
  (k:∀h',IsZip h' z TI TO (rawInt s.heap.objs.size)->IsPair h' TO x y->h'.IsTupleIter j1 t1 (k1+ 1)->h'.IsListIter j2 t2 (k2+ 1)->IsPair h' s.heap.objs.size x y->h'.objs.size=s.heap.objs.size+ 1->
   (∀c o,c≠z->c≠TO->c≠j1->c≠j2->s.heap.get? c=some o->h'.get? c=some o)->Q (.ref s.heap.objs.size) {s with heap:=h'}):
  wpAny (model prog w) A (Builtin.«zip.__next__» ⟨[.ref z],[]⟩) (fun fin s'=>∃v,fin= .done (.ret v)/\Q v s') E s:=by
 show wpAny _ _ (field (.ref z) 2 >>= _) _ _ _
 refine wpAny_bind (wpAny_field gz rfl (x:= .bool false) rfl ?_)
 show wpAny _ _ (field (.ref z) 3 >>= _) _ _ _
 refine wpAny_bind (wpAny_field gz rfl (x:= .ref TI) rfl ?_)
 refine wpAny_bind (wpAny_seqItems gI rfl ?_)
 show wpAny _ _ (Builtin.SmallTypes.ownedTupleIsFree (.ref z) >>= _) _ _ _
 refine wpAny_bind ?_
 unfold Builtin.SmallTypes.ownedTupleIsFree
 refine wpAny_bind (wpAny_field gz rfl (x:= .none) rfl (wpAny_pure ?_))
 simp only[if_true]
 refine wpAny_bind (wpAny_rule (wpAny_bind (wpAny_field gz rfl (x:= .ref TO) rfl ?_)))
 refine wpAny_bind (wpAny_setField_rec gz (by simp) fun q1 gz1 b1=>?_)
 replace gz1:IsZip q1 z TI TO .ellipsis:=gz1
 refine wpAny_bind ?_
 simp only[bo,bp,bq,br]
 refine wpAny_bind (wpAny_bind (wpAny_onRaise ?_))
 show wpAny _ _ (Builtin.SmallTypes.nextOf (.ref j1) >>= _) _ _ _
 refine wpAny_bind (rl (g1.extBut b1.extBut D.i1z) (d1.extBut b1.extBut D.l1z) ex fun q2 g12 b2=>wpAny_pure ?_)
 have gO2:IsPair q2 TO a b:=b2.extBut _ _ D.TOi1 (b1.extBut _ _ D.TOz gO)
 refine wpAny_bind (wpAny_seqItems gO2 rfl (wpAny_bind (wpAny_updateSeq_pair gO2 fun q3 gO3 b3=>?_)))
 replace gO3:IsPair q3 TO x b:=gO3
 refine wpAny_bind (wpAny_letGo (wpAny_pure (wpAny_bind (wpAny_bind (wpAny_onRaise ?_)))))
 show wpAny _ _ (Builtin.SmallTypes.nextOf (.ref j2) >>= _) _ _ _
 refine wpAny_bind (wpAny_nextOf_list_item (((g2.extBut b1.extBut D.i2z).extBut b2.extBut D.i12.symm).extBut b3.extBut D.TOi2.symm) (((d2.extBut b1.extBut D.l2z).extBut b2.extBut D.l2i1).extBut b3.extBut D.l2TO) ey fun q4 g24 b4=>wpAny_pure ?_)
 have gO4:IsPair q4 TO x b:=b4.extBut _ _ D.TOi2 gO3
 refine wpAny_bind (wpAny_seqItems gO4 rfl (wpAny_bind (wpAny_updateSeq_pair gO4 fun q5 gO5 b5=>?_)))
 replace gO5:IsPair q5 TO x y:=gO5
 refine wpAny_bind (wpAny_letGo (wpAny_pure (wpAny_pure (wpAny_bind (wpAny_seqItems gO5 rfl (wpAny_bind (wpAny_newTuple ?_)))))))
 have sz:q5.objs.size=s.heap.objs.size:=by rw[b5.1,b4.1,b3.1,b2.1,b1.1]
 have gz5:IsZip q5 z TI TO .ellipsis:=b5.extBut _ _ D.TOz.symm (b4.extBut _ _ D.i2z.symm (b3.extBut _ _ D.TOz.symm (b2.extBut _ _ D.i1z.symm gz1)))
 have kp5:∀c o,c≠z->c≠TO->c≠j1->c≠j2->s.heap.get? c=some o->q5.get? c=some o:=fun c o n1 n2 n3 n4 e=>
  b5.extBut _ _ n2 (b4.extBut _ _ n4 (b3.extBut _ _ n2 (b2.extBut _ _ n3 (b1.extBut _ _ n1 e))))
 have g15:q5.IsTupleIter j1 t1 (k1+ 1):=((g12.extBut b3.extBut D.TOi1.symm).extBut b4.extBut D.i12).extBut b5.extBut D.TOi1.symm
 have g25:q5.IsListIter j2 t2 (k2+ 1):=g24.extBut b5.extBut D.TOi2.symm
 have zlt:z<q5.objs.size:=dX gz5
 show wpAny _ _ (Builtin.SmallTypes.ownedTupleHandOut (.ref z) (.ref q5.objs.size) >>= _) _ _ _
 refine wpAny_bind ?_
 unfold Builtin.SmallTypes.ownedTupleHandOut
 have gz6:IsZip (q5.push {cls:= .type "tuple",data:= .seq #[x,y]}) z TI TO .ellipsis:=dZ _ gz5
 refine wpAny_bind (wpAny_setField_rec gz6 (by simp) fun q7 gz7 b7=>?_)
 replace gz7:IsZip q7 z TI TO (rawInt q5.objs.size):=gz7
 refine wpAny_setField_rec gz7 (by simp) fun q8 gz8 b8=>?_
 replace gz8:IsZip q8 z TI TO (rawInt q5.objs.size):=gz8
 have up:∀c o,c≠z->q5.get? c=some o->q8.get? c=some o:=fun c o n1 e=>b8.extBut _ _ n1 (b7.extBut _ _ n1 (dZ _ e))
 have gT8:IsPair q8 q5.objs.size x y:=b8.extBut _ _ (bW zlt) (b7.extBut _ _ (bW zlt) (dY _ rfl))
 have sz8:q8.objs.size=q5.objs.size+ 1:=by rw[b8.1,b7.1,d7]
 rw[sz]at gz8 gT8 sz8
 refine wpAny_pure ⟨_,rfl,?_⟩
 show Q (.ref q5.objs.size) _
 rw[sz]
 refine k q8 gz8 (up _ _ D.TOz gO5) ?_ ?_ gT8 sz8 fun c o n1 n2 n3 n4 e=>up c o n1 (kp5 c o n1 n2 n3 n4 e)
 ·obtain⟨o,e,r⟩:=g15;exact⟨o,up _ o D.i1z e,r⟩
 ·obtain⟨o,e,r⟩:=g25;exact⟨o,up _ o D.i2z e,r⟩
theorem DX {z TI TO j1 j2 t1 t2:Addr} {k1 k2:Nat} {xs ys:Array Value} {a b:Value} {Q:Fin->Shared->Prop} (hh:A.handled=none) (D:ZipApart z TI TO j1 j2 t1 t2)
  (gz:IsZip s.heap z TI TO .none) (gI:IsPair s.heap TI (.ref j1) (.ref j2)) (gO:IsPair s.heap TO a b)
  (g1:s.heap.IsTupleIter j1 t1 k1) (g2:s.heap.IsListIter j2 t2 k2) (d1:s.heap.IsTuple t1 xs) (d2:s.heap.IsList t2 ys) (hend:xs[k1]?=none\/ys[k2]?=none)
  (k:∀h' e,(∀c o,c≠z->c≠TO->c≠j1->c≠j2->s.heap.get? c=some o->h'.get? c=some o)->(∃o,h'.get? e=some o/\o.cls= .type "StopIteration")->E (.ref e) {s with heap:=h'}):
  wpAny (model prog w) A (Builtin.«zip.__next__» ⟨[.ref z],[]⟩) Q E s:=by
 show wpAny _ _ (field (.ref z) 2 >>= _) _ _ _
 refine wpAny_bind (wpAny_field gz rfl (x:= .bool false) rfl ?_)
 show wpAny _ _ (field (.ref z) 3 >>= _) _ _ _
 refine wpAny_bind (wpAny_field gz rfl (x:= .ref TI) rfl ?_)
 refine wpAny_bind (wpAny_seqItems gI rfl ?_)
 show wpAny _ _ (Builtin.SmallTypes.ownedTupleIsFree (.ref z) >>= _) _ _ _
 refine wpAny_bind ?_
 unfold Builtin.SmallTypes.ownedTupleIsFree
 refine wpAny_bind (wpAny_field gz rfl (x:= .none) rfl (wpAny_pure ?_))
 simp only[if_true]
 refine wpAny_bind (wpAny_rule (wpAny_bind (wpAny_field gz rfl (x:= .ref TO) rfl ?_)))
 refine wpAny_bind (wpAny_setField_rec gz (by simp) fun q1 gz1 b1=>?_)
 replace gz1:IsZip q1 z TI TO .ellipsis:=gz1
 refine wpAny_bind ?_
 simp only[bo,bp,bq,br]
 refine wpAny_bind (wpAny_bind (wpAny_onRaise ?_))
 show wpAny _ _ (Builtin.SmallTypes.nextOf (.ref j1) >>= _) _ _ _
 cases ex:xs[k1]? with
 |none=>
  refine wpAny_bind (lP hh (g1.extBut b1.extBut D.i1z) (d1.extBut b1.extBut D.l1z) ex fun q2 e b2 he=>?_)
  obtain⟨oe,hoe,hce⟩:=he
  have gz2:IsZip q2 z TI TO .ellipsis:=b2 _ _ D.i1z.symm gz1
  have nz:e≠z:=fun q=>by subst q;rw[gz2]at hoe;cases hoe;simp at hce
  refine wpAny_setField_rec gz2 (by simp) fun q3 _ b3=>k q3 e (fun c o n1 _ n3 _ q=>b3.extBut _ _ n1 (b2 _ _ n3 (b1.extBut _ _ n1 q))) ⟨oe,b3.extBut _ _ nz hoe,hce⟩
 |some x=>
  have ey:ys[k2]?=none:=hend.elim (fun q=>by rw[ex]at q;cases q) id
  refine wpAny_bind (rl (g1.extBut b1.extBut D.i1z) (d1.extBut b1.extBut D.l1z) ex fun q2 g12 b2=>wpAny_pure ?_)
  have gO2:IsPair q2 TO a b:=b2.extBut _ _ D.TOi1 (b1.extBut _ _ D.TOz gO)
  refine wpAny_bind (wpAny_seqItems gO2 rfl (wpAny_bind (wpAny_updateSeq_pair gO2 fun q3 gO3 b3=>?_)))
  refine wpAny_bind (wpAny_letGo (wpAny_pure (wpAny_bind (wpAny_bind (wpAny_onRaise ?_)))))
  show wpAny _ _ (Builtin.SmallTypes.nextOf (.ref j2) >>= _) _ _ _
  refine wpAny_bind (wpAny_nextOf_list_end hh (((g2.extBut b1.extBut D.i2z).extBut b2.extBut D.i12.symm).extBut b3.extBut D.TOi2.symm) (((d2.extBut b1.extBut D.l2z).extBut b2.extBut D.l2i1).extBut b3.extBut D.l2TO) ey fun q4 e b4 he=>?_)
  obtain⟨oe,hoe,hce⟩:=he
  have gz4:IsZip q4 z TI TO .ellipsis:=b4 _ _ D.i2z.symm (b3.extBut _ _ D.TOz.symm (b2.extBut _ _ D.i1z.symm gz1))
  have nz:e≠z:=fun q=>by subst q;rw[gz4]at hoe;cases hoe;simp at hce
  refine wpAny_setField_rec gz4 (by simp) fun q5 _ b5=>k q5 e (fun c o n1 n2 n3 n4 q=>b5.extBut _ _ n1 (b4 _ _ n4 (b3.extBut _ _ n2 (b2.extBut _ _ n3 (b1.extBut _ _ n1 q))))) ⟨oe,b5.extBut _ _ nz hoe,hce⟩
theorem yA {z TI TO j1 j2 t1 t2:Addr} {k1 k2:Nat} {xs ys:Array Value} {x y a b:Value} {Q:Option Value->Shared->Prop} (D:ZipApart z TI TO j1 j2 t1 t2)
  (gz:IsZip s.heap z TI TO .none) (gI:IsPair s.heap TI (.ref j1) (.ref j2)) (gO:IsPair s.heap TO a b)
  (g1:s.heap.IsTupleIter j1 t1 k1) (g2:s.heap.IsListIter j2 t2 k2) (d1:s.heap.IsTuple t1 xs) (d2:s.heap.IsList t2 ys) (ex:xs[k1]?=some x) (ey:ys[k2]?=some y)
  (k:∀h',IsZip h' z TI TO (rawInt s.heap.objs.size)->IsPair h' TO x y->h'.IsTupleIter j1 t1 (k1+ 1)->h'.IsListIter j2 t2 (k2+ 1)->IsPair h' s.heap.objs.size x y->h'.objs.size=s.heap.objs.size+ 1->
   (∀c o,c≠z->c≠TO->c≠j1->c≠j2->s.heap.get? c=some o->h'.get? c=some o)->Q (some (.ref s.heap.objs.size)) {s with heap:=h'}):
  wpAny (model prog w) A (pyNext (.ref z)) Q E s:=by
 have tz:s.TypeIs (.ref z) "zip":=⟨_,gz,rfl⟩
 unfold pyNext
 exact wpAny_bind (wpAny_attempt (wpAny_callSpecial?_slot (name:=Str.ofString "__next__") tz F.slot_zip_next (wpAny_call_entry F.slot_zip_next tz F.entry_zip_next
   (B5 D gz gI gO g1 g2 d1 d2 ex ey fun h' a1 a2 a3 a4 a5 a6 a7=>wpAny_pure (k h' a1 a2 a3 a4 a5 a6 a7)) (F.args_zip_next_1 _))))
theorem r8 {z TI TO j1 j2 t1 t2:Addr} {k1 k2:Nat} {xs ys:Array Value} {a b:Value} {Q:Option Value->Shared->Prop} (hh:A.handled=none) (D:ZipApart z TI TO j1 j2 t1 t2)
  (gz:IsZip s.heap z TI TO .none) (gI:IsPair s.heap TI (.ref j1) (.ref j2)) (gO:IsPair s.heap TO a b)
  (g1:s.heap.IsTupleIter j1 t1 k1) (g2:s.heap.IsListIter j2 t2 k2) (d1:s.heap.IsTuple t1 xs) (d2:s.heap.IsList t2 ys) (hend:xs[k1]?=none\/ys[k2]?=none)
  (k:∀h',(∀c o,c≠z->c≠TO->c≠j1->c≠j2->s.heap.get? c=some o->h'.get? c=some o)->Q none {s with heap:=h'}):wpAny (model prog w) A (pyNext (.ref z)) Q E s:=by
 have tz:s.TypeIs (.ref z) "zip":=⟨_,gz,rfl⟩
 unfold pyNext
 refine wpAny_bind (wpAny_attempt (wpAny_callSpecial?_slot (name:=Str.ofString "__next__") tz F.slot_zip_next (wpAny_call_entry F.slot_zip_next tz F.entry_zip_next (DX hh D gz gI gO g1 g2 d1 d2 hend fun h' e kp he=>?_) (F.args_zip_next_1 _))))
 obtain⟨o,ho,hc⟩:=he
 exact wpAny_bind (wpAny_isInstance (T:="StopIteration") (b:=true) ⟨o,ho,hc⟩ isSubtype_stop (wpAny_pure (k _ kp)))
end
abbrev zm1 (h:Heap) (t1:Addr):Heap:=h.push {cls:= .type "tuple_iterator",data:= .fields #[.ref t1,.int 0 0]}
abbrev zm2 (h:Heap) (t1 t2:Addr):Heap:=(zm1 h t1).push {cls:= .type "list_iterator",data:= .fields #[.ref t2,.int 0 0]}
abbrev zm3 (h:Heap) (t1 t2:Addr):Heap:=(zm2 h t1 t2).push {cls:= .type "tuple",data:= .seq #[.ref h.objs.size,.ref (zm1 h t1).objs.size]}
abbrev zm4 (h:Heap) (t1 t2:Addr):Heap:=(zm3 h t1 t2).push {cls:= .type "tuple",data:= .seq #[.none,.none]}
abbrev zm5 (h:Heap) (t1 t2:Addr):Heap:=(zm4 h t1 t2).push {cls:= .type "zip",data:= .fields #[.none,.bool false,.bool false,.ref (zm2 h t1 t2).objs.size,.ref (zm3 h t1 t2).objs.size]}
theorem DY (t1 t2:Addr) (xs ys:Array Value):Meets (Builtin.«zip.__new__» ⟨[.type "zip",.ref t1,.ref t2],[]⟩) (fun _ R s=>s.heap.IsTuple t1 xs/\s.heap.IsList t2 ys/\R (.ok (.ret (.ref (zm4 s.heap t1 t2).objs.size))) {s with heap:=zm5 s.heap t1 t2}):=
 .of_wp fun prog w A R s h=>by
  obtain⟨hp,g,d,tk,os⟩:=s;obtain⟨d1,d2,h⟩:=h
  have hsub:=sub_zip
  have dd1:Heap.IsTuple (Shared.heap ⟨hp,g,d,tk,os⟩) t1 xs:=d1
  have dd2:Heap.IsList (Shared.heap ⟨hp.push {cls:= .type "tuple_iterator",data:= .fields #[.ref t1,.int 0 0]},g,d,tk,os⟩) t2 ys:=Heap.IsList.push d2 _
  wp_walk using wpAny_pyIter_tuple dd1,wpAny_pyIter_list dd2
  exact⟨_,rfl,h⟩
section
variable {prog:Program} {w:World} {A:Around} {E:Value->Shared->Prop} {s:Shared}
theorem yB {t1 t2:Addr} {xs ys:Array Value} {Q:Value->Shared->Prop} (d1:s.heap.IsTuple t1 xs) (d2:s.heap.IsList t2 ys)
  (k:∀h',IsZip h' (s.heap.objs.size+ 4) (s.heap.objs.size+ 2) (s.heap.objs.size+ 3) .none->IsPair h' (s.heap.objs.size+ 2) (.ref s.heap.objs.size) (.ref (s.heap.objs.size+ 1))->
   IsPair h' (s.heap.objs.size+ 3) .none .none->h'.IsTupleIter s.heap.objs.size t1 0->h'.IsListIter (s.heap.objs.size+ 1) t2 0->(∀c o,s.heap.get? c=some o->h'.get? c=some o)->Q (.ref (s.heap.objs.size+ 4)) {s with heap:=h'}):
  wpAny (model prog w) A (call (.type "zip") [.ref t1,.ref t2]) Q E s:=by
 refine callType_new F.called_zip (by decide) (F.typeCall_zip_2 _ _) (F.newCall_zip_2 _ _) (fun obj=>F.args_object_init_3 obj _ _) F.entry_zip_new (DY t1 t2 xs ys) ⟨d1,d2,?_⟩
 have z1:(zm1 s.heap t1).objs.size=s.heap.objs.size+ 1:=d7 ..
 have z2:(zm2 s.heap t1 t2).objs.size=s.heap.objs.size+ 2:=by rw[d7,z1]
 have z3:(zm3 s.heap t1 t2).objs.size=s.heap.objs.size+ 3:=by rw[d7,z2]
 have z4:(zm4 s.heap t1 t2).objs.size=s.heap.objs.size+ 4:=by rw[d7,z3]
 have m5:(zm5 s.heap t1 t2).get? (zm4 s.heap t1 t2).objs.size=some _:=dY _ rfl
 have m4:(zm5 s.heap t1 t2).get? (zm3 s.heap t1 t2).objs.size=some _:=dZ _ (dY _ rfl)
 have m3:(zm5 s.heap t1 t2).get? (zm2 s.heap t1 t2).objs.size=some _:=dZ _ (dZ _ (dY _ rfl))
 have m2:(zm5 s.heap t1 t2).get? (zm1 s.heap t1).objs.size=some _:=dZ _ (dZ _ (dZ _ (dY _ rfl)))
 have m1:(zm5 s.heap t1 t2).get? s.heap.objs.size=some _:=dZ _ (dZ _ (dZ _ (dZ _ (dY _ rfl))))
 show _/\_
 rw[z2,z3,z4]at m5
 rw[z1,z2]at m3
 rw[z3]at m4
 rw[z1]at m2
 rw[z4]
 exact⟨⟨_,m5,rfl⟩,k _ m5 m3 m4 ⟨_,m1,rfl,rfl⟩ ⟨_,m2,rfl,rfl⟩ fun c o q=>dZ _ (dZ _ (dZ _ (dZ _ (dZ _ q))))⟩
end
def Fy (K:PySem.W.Frag) (a b:Addr):It:=
 ⟨fun i H=>∃xs ys x y,SqT K H a xs/\SqL K H b ys/\xs[i]?=some x/\ys[i]?=some y,
   fun i H v H'=>∃T x y,v= .ref T/\H T=none/\H'=upd H T (.tup [x,y])/\(∀xs,SqT K H a xs->xs[i]?=some x)/\∀ys,SqL K H b ys->ys[i]?=some y,
   fun i H=>∃xs ys,SqT K H a xs/\SqL K H b ys/\i=min xs.length ys.length⟩
def ZMSt (z TI TO i1 i2 a b:Addr) (i:Nat) (h:Heap):Prop:=IsZip h z TI TO .none/\IsPair h TI (.ref i1) (.ref i2)/\(∃u v,IsPair h TO u v)/\h.IsTupleIter i1 a i/\h.IsListIter i2 b i
theorem yC {P:Program} {w:World} {K:PySem.W.Frag} {es:List Expr} {kk:Nat} {tp:Pos} {a b z TI TO i1 i2:Addr} (D:ZipApart z TI TO i1 i2 a b):zJ P w K (.Tuple es kk tp) (Fy K a b) [z,TI,TO,i1,i2] z (ZMSt z TI TO i1 i2 a b) where
 mem:=by simp
 obj:=fun i h st c hc=>by
  obtain⟨g1,g2,⟨u,v,g3⟩,⟨o4,g4,_,d4⟩,⟨o5,g5,_,d5⟩⟩:=st
  simp only[ai,bf,or_false]at hc
  rcases hc with e|e|e|e|e<;>subst e
  ·exact⟨_,g1,fun v q=>nomatch q⟩
  ·exact⟨_,g2,fun v q=>nomatch q⟩
  ·exact⟨_,g3,fun v q=>nomatch q⟩
  ·exact⟨_,g4,fun v q=>by rw[d4]at q;cases q⟩
  ·exact⟨_,g5,fun v q=>by rw[d5]at q;cases q⟩
 keep:=fun i h h' st k=>by
  obtain⟨g1,g2,⟨u,v,g3⟩,⟨o4,g4,r4⟩,⟨o5,g5,r5⟩⟩:=st
  exact⟨k z (by simp) _ g1,k TI (by simp) _ g2,⟨u,v,k TO (by simp) _ g3⟩,⟨o4,k i1 (by simp) o4 g4,r4⟩,⟨o5,k i2 (by simp) o5 g5,r5⟩⟩
 item:=by
  intro X hP hw hK hc i pz s σ H E I hf st hg
  subst hP hw hK
  obtain⟨xs,ys,x,y,qx,qy,ex,ey⟩:=hg
  obtain⟨i1s,r1,p1,z1⟩:=I.tuple qx
  obtain⟨i2s,r2,p2,z2⟩:=I.list qy
  obtain⟨g1,g2,⟨u,v,g3⟩,g4,g5⟩:=st
  obtain⟨ux,hux,rr1⟩:=r1.get ex
  obtain⟨uy,huy,rr2⟩:=r2.get ey
  have hw:∀c∈[z,TO,i1,i2],uF X pz H c:=fun c hc=>hf c (by simp only[ai,bf,or_false]at hc⊢;first|(rcases hc with h|h|h|h<;>simp[h])|simp[hc])
  refine yA D g1 g2 g3 g4 g5 (show s.heap.IsTuple a i1s.toArray from p1) (show s.heap.IsList b i2s.toArray from p2.isList) (x:=ux) (y:=uy) (by simpa using hux) (by simpa using huy) fun h1 a1 a2 a3 a4 a5 a6 hk=>?_
  have kk1:∀c o,c∉[z,TO,i1,i2]->s.heap.get? c=some o->h1.get? c=some o:=fun c o hc e=>hk c o (fun q=>hc (by simp[q])) (fun q=>hc (by simp[q])) (fun q=>hc (by simp[q])) (fun q=>hc (by simp[q])) e
  have J1:Inv X pz σ H {s with heap:=h1,toks:=s.toks}:=I.turnedL kk1 hw
  refine⟨.ref s.heap.objs.size,rfl,wpAny_letOwnedTupleGo_zip a1 fun h2 a1' sb=>?_⟩
  have J2:Inv X pz σ H {s with heap:=h2,toks:=s.toks}:=Inv.turnedL (s:={s with heap:=h1,toks:=s.toks}) (h':=h2) (t':=s.toks) (ch:=[z]) J1 (fun c o hc e=>sb.extBut _ _ (fun q=>hc (by simp[q])) e) fun c hc=>hf c (by simp only[ai,bf,or_false]at hc⊢;first|(rcases hc with h|h|h|h<;>simp[h])|simp[hc])
  have zlt:z<s.heap.objs.size:=dX g1
  have ht2:uw h2 s.heap.objs.size #[ux,uy]:=⟨_,sb.extBut _ _ (bW zlt) a5,rfl,_,rfl,rfl⟩
  obtain⟨fT,J3⟩:=I.pairNew (bX _) J2 ht2 rr1 rr2
  refine⟨.ref s.heap.objs.size,_,J3,rfl,⟨_,x,y,rfl,fT,rfl,fun l hl=>by rw[I.tuple_inj hl qx];exact ex,fun l hl=>by rw[I.list_inj hl qy];exact ey⟩,
   ⟨a1',sb.extBut _ _ D.TIz (hk _ _ D.TIz D.TITO D.TIi1 D.TIi2 g2),⟨_,_,sb.extBut _ _ D.TOz a2⟩,a3.extBut sb.extBut D.i1z,a4.extBut sb.extBut D.i2z⟩,fun c hc=>?_⟩
  rw[eN (fun q=>?_)]
  ·exact(hf c hc).1
  ·have lt:c<s.heap.objs.size:=by
    obtain⟨o4,e4,_⟩:=g4
    obtain⟨o5,e5,_⟩:=g5
    simp only[ai,bf,or_false]at hc
    rcases hc with e|e|e|e|e<;>subst e
    ·exact dX g1
    ·exact dX g2
    ·exact dX g3
    ·exact dX e4
    ·exact dX e5
   exact absurd lt (by rw[q];exact bS _)
 done:=by
  intro X hP hw hK hc i pz s σ H E I hf st hg
  subst hP hw hK
  obtain⟨xs,ys,qx,qy,ei⟩:=hg
  obtain⟨i1s,r1,p1,z1⟩:=I.tuple qx
  obtain⟨i2s,r2,p2,z2⟩:=I.list qy
  obtain⟨g1,g2,⟨u,v,g3⟩,g4,g5⟩:=st
  have l1:=r1.length
  have l2:=r2.length
  refine r8 (I.ok.hd hc) D g1 g2 g3 g4 g5 (show s.heap.IsTuple a i1s.toArray from p1) (show s.heap.IsList b i2s.toArray from p2.isList) ?_ fun h1 hk=>⟨rfl,I.turnedL (t':=s.toks) (ch:=[z,TO,i1,i2]) (fun c o hc e=>hk c o (fun q=>hc (by simp[q])) (fun q=>hc (by simp[q])) (fun q=>hc (by simp[q])) (fun q=>hc (by simp[q])) e) fun c hc=>hf c (by simp only[ai,bf,or_false]at hc⊢;first|(rcases hc with h|h|h|h<;>simp[h])|simp[hc])⟩
  simp only[bt,bu]
  lia
 self:=fun _ _ _ _ _ st h=>wpAny_pyIter_zip st.1 h
def FC (K:PySem.W.Frag) (ta:TA):TI:=fun σ H R=>ta σ H fun vs H1=>∃a b,vs=[.ref a,.ref b]/\(∃xs,SqT K H1 a xs)/\(∃ys,SqL K H1 b ys)/\R (Fy K a b) H1
section
variable {X:Cx}
theorem B6 {es:List Expr} {kk:Nat} {tp:Pos} {a b:Expr} {ta:TA} {p pos:Pos} (hg:Gl X "zip") (hm:X.mg "zip"=none) (ha:PA X [a,b] ta) (hs:autoParam (starEach [a,b] X.env=[(false,eval a X.env),(false,eval b X.env)]) L2.Internal.auR._auto_1) (hs2:autoParam (starEach [b] X.env=[(false,eval b X.env)]) L2.Internal.auR._auto_1):
  PI X (.Tuple es kk tp) (.Call (.Name "zip" p) [a,b] [] pos) (FC X.K ta):=by
 intro pz s σ H R I h
 refine Call_ (lU I hg hm yg (eB (thn (ha pos pz s σ H _ I h) fun us s1 ⟨vs,H1,I1,r1,q1⟩=>?_) (by rw[hs,hs2]) (by rw[hs2];rfl)))
 obtain⟨l1,l2,e,⟨xs,q1⟩,⟨ys,q2⟩,q⟩:=q1
 subst e
 obtain⟨u,v,rfl,ru,rv⟩:=wm r1
 cases ru
 cases rv
 obtain⟨i1s,w1,p1,z1⟩:=I1.tuple q1
 obtain⟨i2s,w2,p2,z2⟩:=I1.list q2
 have o1:@LT.lt Nat _ l1 s1.heap.objs.size:=SqT.old I1 q1
 have o2:@LT.lt Nat _ l2 s1.heap.objs.size:=SqL.old I1 q2
 refine yB (show s1.heap.IsTuple l1 i1s.toArray from p1) (show s1.heap.IsList l2 i2s.toArray from p2.isList) fun h1 hz hTI hTO hi1 hi2 hk=>wpAny_pyIter_zip hz ?_
 have D:ZipApart (s1.heap.objs.size+ 4) (s1.heap.objs.size+ 2) (s1.heap.objs.size+ 3) s1.heap.objs.size (s1.heap.objs.size+ 1) l1 l2:=by constructor<;>exact fun(h:@Eq Nat _ _)=>by lia
 refine⟨_,_,_,_,H1,rfl,I1.kept (t':=s1.toks) hk,yC D,⟨hz,hTI,⟨_,_,hTO⟩,hi1,hi2⟩,fun c hc=>?_,q⟩
 have ge:s1.heap.objs.size<=c:=by
  simp only[ai,bf,or_false]at hc
  rcases hc with h|h|h|h|h<;>rw[h]<;>first|exact bX _|exact bZ _ _
 exact I1.fpOk ge (I1.hok.fresh ge)
end
structure Df (K:PySem.W.Frag) (x qual:Str) (st:Stmt) (f:Addr) (fd:FuncData):Prop where
 ex:∃(oc:Value) (od:Option Addr) (t:Addr) (kV doc pm:Value) (an:Option Addr) (cdv ct:Value) (osl:Array (Option Value)) (o:Obj) (n:Nat),
  fd=dg x qual (iL st) (gT st) (eQ st) (.ref t) kV doc pm an cdv ct/\K.lookup f=some ⟨oc,od,.func fd,osl⟩/\dh K cdv qual=true/\K.lookup t=some o/\o.data= .seq #[.none] n
 kp:cK K (.ref f)=true
section
variable {P:Program} {w:World} {K:PySem.W.Frag} {mg:Str->Option Value} {base:Heap}
theorem Df.ok {x qual:Str} {st:Stmt} {f:Addr} {fd:FuncData} {N ps:List Str} {k:Nat} {sp:Sp} (F:Df K x qual st f fd) (S:eX N ps (eQ st)) (len:∀vs H Q E,sp vs H Q E->vs.length=ps.length)
  (hbody:∀(cdv:Value) (A:Around) (outer:List Env) (s:Shared) (H:Hp) (vs:List V) (Q:VK) (E:XK),kQ k (A.deeper (envOfC qual (eQ st) s.heap.objs.size f cdv))->sp vs H Q E->
   ∃t,PSs (AK CX0 P w K mg base N qual (eQ st) f cdv A outer s H E).nox (gT st) t/\t {nx:=fun _ H'=>Q .non H',rt:=Q} (start N vs) H):qA P w K mg base CX0 (k+ 1) f fd ps sp:=by
 obtain⟨oc,od,t,kV,doc,pm,an,cdv,ct,osl,o,n,rfl,lk,hcd,_⟩:=F.ex
 refine DB lk hcd S len fun A outer s H vs Q E hr hsp=>?_
 obtain⟨t,h,q⟩:=hbody cdv A outer s H vs Q E hr hsp
 exact⟨t,h.nox,q⟩
theorem Df.binds {x qual:Str} {st:Stmt} {f:Addr} {fd:FuncData} {ps:List Str} (F:Df K x qual st f fd)
  (h:∀(t:Addr) (kV doc pm:Value) (an:Option Addr) (cdv ct:Value) (us:List Value),us.length+ 1=ps.length->∃k:Option (Array Value)->Sem (List (Str×Value)),bindArgs (dg x qual (iL st) (gT st) (eQ st) (.ref t) kV doc pm an cdv ct) ⟨us,[]⟩=seqItems? (.ref t) >>= k/\k (some #[.none])=pure (ps.zip (us++[.none]))):lR K fd ps [.none]:=by
 obtain⟨oc,od,t,kV,doc,pm,an,cdv,ct,osl,o,n,rfl,lk,hcd,lt,hd⟩:=F.ex
 intro s us X hl
 obtain⟨k,h1,h2⟩:=h t kV doc pm an cdv ct us (by rw[aM]at hl;exact hl)
 exact BindsTo.of_defaults rfl (X _ _ lt) hd h1 h2
theorem yD {x qual:Str} {st:Stmt} {f t:Addr} {oc oct:Value} {od an odt:Option Addr} {osl slt:Array (Option Value)} {kV doc pm cdv ct:Value} {n:Nat} (l:K.lookup f=some ⟨oc,od,.func (dg x qual (iL st) (gT st) (eQ st) (.ref t) kV doc pm an cdv ct),osl⟩)
  (c:dh K cdv qual=true) (k:cK K (.ref f)=true) (lt:K.lookup t=some ⟨oct,odt,.seq #[.none] n,slt⟩):Df K x qual st f (dg x qual (iL st) (gT st) (eQ st) (.ref t) kV doc pm an cdv ct):=⟨⟨oc,od,t,kV,doc,pm,an,cdv,ct,osl,_,n,rfl,l,c,lt,rfl⟩,k⟩
end
end L2.Internal
namespace TM.Internal
open PySem L2.Internal
inductive Kn
 |num (n:Int)
 |name (w:Str)
 |fn (w:Str)
 |tag (w:Str)
 |lt (w:Str)
 |get (w:Str)
 |rcd (l:List Str)
 |case (l:List (Str×Str))
 |row (m:Nat)
 |op (s:Str) (m:Nat)
inductive Tr
 |mk (κ:Kn) (ks:List Tr)
def ops:List (Str×Nat):=[("call",2),("at",3),("join",2),("size",1),("add",2),("sub",2),("less",2)]
mutual
def Tr.sz:Tr->Nat
 | .mk _ ks=>1+szs ks
def szs:List Tr->Nat
 |[]=>0
 |t::ts=>t.sz+szs ts
end
mutual
def Tr.nest:Tr->Nat
 | .mk _ ks=>1+nests ks
def nests:List Tr->Nat
 |[]=>0
 |t::ts=>max t.nest (nests ts)
end
def Kn.s:Kn->Str
 | .num _=>"num"
 | .name _=>"name"
 | .fn _=>"fn"
 | .tag _=>"tag"
 | .lt _=>"let"
 | .get _=>"get"
 | .rcd _=>"rec"
 | .case _=>"case"
 | .row _=>"row"
 | .op s _=>s
def gy:List Tr->Nat->List Nat
 |[],_=>[]
 |t::ts,p=>p::gy ts (p+t.sz)
theorem offs_len:∀(ts:List Tr) (p:Nat),(gy ts p).length=ts.length
 |[],_=>rfl
 |t::ts,p=>by rw[gy,ax,ax,offs_len ts]
end TM.Internal
namespace K27.Internal
open PySem L2.Internal
theorem l0 {P:List Value->Prop} (h:P []):∀us:List Value,us.length=0->P us:=fun us e=>by rw[List.eq_nil_of_length_eq_zero e];exact h
theorem lS {n:Nat} {P:List Value->Prop} (h:∀a,∀us:List Value,us.length=n->P (a::us)):∀us:List Value,us.length=n+ 1->P us:=fun us e=>by
 cases us with
 |nil=>cases e
 |cons a t=>exact h a t (Nat.succ.inj e)
def top (i:Nat):Stmt:=PySem.Challenge.pw_flowkinds_k27_every_laying.main.body.getD i (.Pass ⟨0,0,0,0⟩)
variable {K:PySem.W.Frag} {mg:Str->Option Value} {n q:Str} {st:Stmt} {ps:List Str} {C:Addr} {h:Heap}
inductive Fm (K:PySem.W.Frag) (n:Str) (st:Stmt):Prop
 |mk {f:Addr} {od an:Option Addr} {sl:Array (Option Value)} {oc kV dc pm cd ct:Value} (a:dj K mainGlobals n=some (some (.ref f))) (l:K.lookup f=some ⟨oc,od,.func (dg n n (iL st) (gT st) (eQ st) .none kV dc pm an cd ct),sl⟩) (c:dh K cd n=true) (k:cK K (.ref f)=true)
inductive Mm (K:PySem.W.Frag) (C:Addr) (n q:Str) (st:Stmt):Prop
 |mk {f:Addr} {od an:Option Addr} {sl:Array (Option Value)} {oc kV dc pm cd ct:Value} (i:cB K (.ref C) n=some (some (.ref f))) (j:cD K (.ref f)=true) (l:K.lookup f=some ⟨oc,od,.func (dg n q (iL st) (gT st) (eQ st) .none kV dc pm an cd ct),sl⟩) (c:dh K cd q=true) (k:cK K (.ref f)=true)
structure Cm (K:PySem.W.Frag) (n:Str) (C:Addr):Prop where
 a:dj K mainGlobals n=some (some (.ref C))
 pg:cy K C Str.empty=true
 hd:cz K C=true
 po:cE K C=true
 sa:cB K (.ref C) "__setattr__"=some (some (.builtin "object.__setattr__"))
 t1:cB K (.ref C) "__class__"=some (some (.builtin "object.__class__"))
 t2:cJ K (.builtin "object.__class__") "__get__"=some (some (.builtin "getset_descriptor.__get__"))
 t3:PySem.W.takesIn K (.builtin "object.__class__")=some true
 t4:PySem.W.mroIn K C (.type "object")=some true
 ms:cG K C=true
 kc:cK K (.ref C)=true
structure Fx (K:PySem.W.Frag) (mg:Str->Option Value) (n:Str) (st:Stmt) (ps:List Str) where
 a:Addr
 fd:FuncData
 F:Fun K n n st a fd
 b:lR K fd ps []
 m:mg n=some (.ref a)
 k:cK K (.ref a)=true
structure Mx (K:PySem.W.Frag) (C:Addr) (n q:Str) (st:Stmt) (ps:List Str) where
 a:Addr
 fd:FuncData
 F:Fun K n q st a fd
 b:lR K fd ps []
 me:ER K C n a
structure Ck (K:PySem.W.Frag) (mg:Str->Option Value) (n:Str) where
 a:Addr
 m:mg n=some (.ref a)
 cl:Cls K a
 ty:∀(H:Hp) (x dx:Addr) (fs:List (Str×V)),H x=some (.ins a dx fs)->uz K H (.ref x) (.ref a)
def Bf (n q:Str) (st:Stmt) (ps:List Str):Prop:=∀(kV doc pm:Value) (an:Option Addr) (cdv ct:Value) (us:List Value),us.length=ps.length->bindArgs (dg n q (iL st) (gT st) (eQ st) .none kV doc pm an cdv ct) ⟨us,[]⟩=pure (ps.zip us)
def Fm.x (X:K.In h) (G:h.Ns mainGlobals mg) (a:Fm K n st) (hb:Bf n n st ps:=by intro _ _ _ _ _ _;repeat(first|exact l0 rfl|refine lS fun _=>?_)):Fx K mg n st ps:=Classical.choice (by
 obtain⟨a,l,c,k⟩:=a
 exact⟨⟨_,_,tH l c k,(tH l c k).binds hb,dq X G a,k⟩⟩)
def Mm.x (a:Mm K C n q st) (hb:Bf n q st ps:=by intro _ _ _ _ _ _;repeat(first|exact l0 rfl|refine lS fun _=>?_)):Mx K C n q st ps:=Classical.choice (by
 obtain⟨i,j,l,c,k⟩:=a
 exact⟨⟨_,_,tH l c k,(tH l c k).binds hb,⟨i,j,k⟩⟩⟩)
def Cm.x (X:K.In h) (G:h.Ns mainGlobals mg) (a:Cm K n C):Ck K mg n:=⟨C,dq X G a.a,⟨a.pg,a.hd,a.po,a.sa⟩,fun _ _ _ _ e=> .ins e ⟨a.pg,a.hd,a.po,a.sa⟩ a.t1 a.t2 a.t3 a.t4⟩
theorem sf {x:Option (Option Value)} {a b:Addr} (h1:x=some (some (.ref a))) (h2:x=some (some (.ref b))):a=b:=by rw[h1]at h2;cases h2;rfl
theorem Cm.k (a:Cm K n C) (x:Mx K C "__init__" q st ps):Mk K C x.a:=⟨a.ms,x.me.at_,x.me.fn,a.kc⟩
abbrev FO (P:Program) (w:World) (base:Heap) (k:Nat) (x:Fx K mg n st ps) (sp:Sp):Prop:=qA P w K mg base CX0 k x.a x.fd ps sp
abbrev MO (P:Program) (w:World) (base:Heap) (mg:Str->Option Value) (k:Nat) (x:Mx K C n q st ps) (sp:Sp):Prop:=qA P w K mg base CX0 k x.a x.fd ps sp
inductive Dm (K:PySem.W.Frag) (n:Str) (st:Stmt):Prop
 |mk {f:Addr} {od an:Option Addr} {sl:Array (Option Value)} {oc kV dc pm cd ct:Value} {t:Addr} {od':Option Addr} {sl':Array (Option Value)} {oc':Value} {m:Nat} (a:dj K mainGlobals n=some (some (.ref f))) (l:K.lookup f=some ⟨oc,od,.func (dg n n (iL st) (gT st) (eQ st) (.ref t) kV dc pm an cd ct),sl⟩) (c:dh K cd n=true) (k:cK K (.ref f)=true) (lt:K.lookup t=some ⟨oc',od',.seq #[.none] m,sl'⟩)
structure Dx (K:PySem.W.Frag) (mg:Str->Option Value) (n:Str) (st:Stmt) (ps:List Str) where
 a:Addr
 fd:FuncData
 F:Df K n n st a fd
 b:lR K fd ps [.none]
 m:mg n=some (.ref a)
 k:cK K (.ref a)=true
abbrev mw:Stmt:=top 11
abbrev r9:Stmt:=top 13
abbrev kU:Stmt:=top 14
abbrev kW:Stmt:=top 15
abbrev nQ:Stmt:=top 16
abbrev kr:Stmt:=top 17
abbrev yE:Stmt:=top 19
abbrev pR:Stmt:=top 21
abbrev nR:Stmt:=top 22
abbrev ku:Stmt:=top 23
abbrev iO:Stmt:=top 24
abbrev se:Stmt:=top 25
abbrev nT:Stmt:=top 26
abbrev pT:Stmt:=top 27
abbrev pU:Stmt:=top 28
abbrev pV:Stmt:=top 29
abbrev pX:Stmt:=top 30
abbrev nU:Stmt:=top 31
abbrev pY:Stmt:=top 32
abbrev sg:Stmt:=top 33
abbrev nV:Stmt:=top 34
abbrev nX:Stmt:=top 35
abbrev pZ:Stmt:=top 36
abbrev nY:Stmt:=top 37
abbrev kx:Stmt:=top 38
abbrev mx:Stmt:=top 43
abbrev kX:Stmt:=top 44
abbrev kY:Stmt:=top 45
abbrev my:Stmt:=top 46
abbrev mz:Stmt:=top 47
abbrev nZ:Stmt:=top 48
abbrev ky:Stmt:=top 49
abbrev mB:Stmt:=top 50
abbrev mC:Stmt:=top 51
abbrev mD:Stmt:=top 52
abbrev kz:Stmt:=top 53
abbrev n8:Stmt:=top 54
abbrev n9:Stmt:=top 55
abbrev k9:Stmt:=top 56
abbrev jV:Stmt:=top 57
abbrev kA:Stmt:=top 58
abbrev mE:Stmt:=top 59
abbrev oh:Stmt:=top 60
abbrev mF:Stmt:=top 61
abbrev lg:Stmt:=top 62
abbrev mG:Stmt:=top 63
abbrev gX:Stmt:=top 64
abbrev jC:Stmt:=top 65
abbrev jD:Stmt:=top 66
abbrev jE:Stmt:=top 67
abbrev jF:Stmt:=top 68
abbrev oi:Stmt:=top 69
abbrev sj:Stmt:=top 70
abbrev jG:Stmt:=gv (top 2) 0
abbrev mH:Stmt:=gv (top 2) 1
abbrev jn:Stmt:=gv (top 3) 0
abbrev kB:Stmt:=gv (top 4) 1
abbrev iP:Stmt:=gv (top 5) 0
abbrev jW:Stmt:=gv (top 5) 2
abbrev iQ:Stmt:=gv (top 6) 0
abbrev jX:Stmt:=gv (top 6) 2
abbrev iR:Stmt:=gv (top 7) 0
abbrev jY:Stmt:=gv (top 7) 2
abbrev jk:Stmt:=gv (top 8) 0
abbrev kC:Stmt:=gv (top 8) 2
abbrev ju:Stmt:=gv (top 9) 0
abbrev kE:Stmt:=gv (top 9) 1
abbrev lA:Stmt:=gv (top 9) 2
abbrev mI:Stmt:=gv (top 9) 3
abbrev lB:Stmt:=gv (top 9) 4
abbrev jZ:Stmt:=gv (top 9) 5
abbrev jl:Stmt:=gv (top 20) 0
abbrev gL:Stmt:=gv (top 20) 1
abbrev lC:Stmt:=gv (top 20) 2
abbrev iS:Stmt:=gv (top 41) 0
theorem scK {N ps:List Str} {s:Scope} (h:eX N ps s:=by constructor<;>first|rfl|decide+kernel):eX N ps s:=h
set_option genInjectivity false in
set_option genSizeOf false in
structure Txt (K:PySem.W.Frag) (mg:Str->Option Value) where
 d1:Fx K mg "stands_in" mw ["program","place","number"]
 d2:Fx K mg "pasted" r9 ["board","paper","place"]
 d3:Fx K mg "new_points" kU ["board","count","place"]
 d4:Fx K mg "parts_made" kW ["making","outs","ins"]
 d5:Fx K mg "use_made" nQ ["one","at","place","outs","ins"]
 d6:Fx K mg "with_points" kr ["pairs","points"]
 y7:Dx K mg "laid" yE ["program","homes","which","papers"]
 d8:Fx K mg "lay_num" pR ["laying","row","place","own"]
 d9:Fx K mg "lay_name" nR ["laying","row","place","own"]
 d10:Fx K mg "meant_point" ku ["laying","place"]
 d11:Fx K mg "definition_point" iO ["laying","place","number"]
 d12:Fx K mg "lay_fn" se ["laying","row","place","own"]
 d13:Fx K mg "lay_call" nT ["laying","row","place","own"]
 d14:Fx K mg "lay_let" pT ["laying","row","place","own"]
 d15:Fx K mg "lay_rec" pU ["laying","row","place","own"]
 d16:Fx K mg "lay_get" pV ["laying","row","place","own"]
 d17:Fx K mg "lay_tag" pX ["laying","row","place","own"]
 d18:Fx K mg "lay_case" nU ["laying","row","place","own"]
 d19:Fx K mg "lay_row" pY ["laying","row","place","own"]
 d20:Fx K mg "lay_at" sg ["laying","row","place","own"]
 d21:Fx K mg "lay_join" nV ["laying","row","place","own"]
 d22:Fx K mg "lay_size" nX ["laying","row","place","own"]
 d23:Fx K mg "lay_sum" pZ ["laying","row","place","own"]
 d24:Fx K mg "lay_less" nY ["laying","row","place","own"]
 d25:Fx K mg "lay_numbers" kx ["laying","row","place"]
 d26:Fx K mg "_law_stem" mx ["_law_cell","_law_size"]
 d27:Fx K mg "_law_words" kX ["_law_cell"]
 d28:Fx K mg "_law_alike" kY ["_law_found","_law_due"]
 d29:Fx K mg "_law_leaf" my ["_law_node","_law_weight"]
 d30:Fx K mg "_law_knit" mz ["_law_head","_law_words_here","_law_parts","_law_held"]
 d31:Fx K mg "_law_pop" nZ ["_law_stack"]
 d32:Fx K mg "_law_number" ky ["_law_arg"]
 d33:Fx K mg "_law_name" mB ["_law_words_here","_law_var"]
 d34:Fx K mg "_law_most" mC ["_law_item","_law_arg"]
 d35:Fx K mg "_law_wide" mD ["_law_words_here","_law_stack","_law_op","_law_arg"]
 d36:Fx K mg "_law_narrow" kz ["_law_words_here","_law_stack","_law_op","_law_arg"]
 d37:Fx K mg "_law_let" n8 ["_law_words_here","_law_var","_law_bound","_law_body"]
 d38:Fx K mg "_law_new" n9 ["_law_words_here","_law_stack","_law_made","_law_op","_law_arg"]
 d39:Fx K mg "_law_ended" k9 ["_law_words_here","_law_item","_law_arg"]
 d40:Fx K mg "_law_defined" jV ["_law_words_here","_law_cells"]
 d41:Fx K mg "_law_scoped" kA ["_law_node","_law_k","_law_places"]
 d42:Fx K mg "_law_home" mE ["_law_scope","_law_word"]
 d43:Fx K mg "_law_row" oh ["_law_node","_law_places"]
 d44:Fx K mg "_law_flat" mF ["_law_node","_law_scope","_law_rows","_law_homes"]
 d45:Fx K mg "_law_built" lg ["_law_words_here","_law_nodes"]
 d46:Fx K mg "_law_told" mG ["_law_board"]
 d47:Fx K mg "_law_lay_definition" gX ["_law_built_here","_law_told_here","_law_held","_law_which"]
 d48:Fx K mg "_law_lay_name" jC ["_law_built_here","_law_told_here","_law_held","_law_home_here"]
 d49:Fx K mg "_law_lay_made" jD ["_law_built_here","_law_told_here","_law_held","_law_row_here","_law_p","_law_at"]
 d50:Fx K mg "_law_lay_case" jE ["_law_built_here","_law_told_here","_law_held","_law_row_here","_law_p","_law_at"]
 d51:Fx K mg "_law_lay_used" jF ["_law_built_here","_law_told_here","_law_held","_law_row_here","_law_p","_law_at"]
 d52:Fx K mg "_law_lay" oi ["_law_built_here","_law_told_here","_law_held","_law_p"]
 c1:Ck K mg "Make"
 n1shape:fK K c1.a "shape"
 n1parts:fK K c1.a "parts"
 n1at:fK K c1.a "at"
 n1place:fK K c1.a "place"
 e53:Mx K c1.a "__init__" "Make.__init__" jG ["self","shape","parts","at","place"]
 mk1:Mk K c1.a e53.a
 e54:Mx K c1.a "told" "Make.told" mH ["self"]
 c2:Ck K mg "Use"
 n2at:fK K c2.a "at"
 n2place:fK K c2.a "place"
 n2slot:fK K c2.a "slot"
 e55:Mx K c2.a "__init__" "Use.__init__" jn ["self","at","place","slot"]
 cm55:GI K c2.a "__init__" e55.a
 mk2:Mk K c2.a e55.a
 c3:Ck K mg "NumUse"
 n3at:fK K c3.a "at"
 n3place:fK K c3.a "place"
 n3slot:fK K c3.a "slot"
 e56:Mx K c3.a "told" "NumUse.told" kB ["self"]
 mk3:Mk K c3.a e55.a
 c4:Ck K mg "CallUse"
 n4arg:fK K c4.a "arg"
 n4out:fK K c4.a "out"
 n4at:fK K c4.a "at"
 n4place:fK K c4.a "place"
 n4slot:fK K c4.a "slot"
 e57:Mx K c4.a "__init__" "CallUse.__init__" iP ["self","at","place","slot","arg","out"]
 mk4:Mk K c4.a e57.a
 e58:Mx K c4.a "told" "CallUse.told" jW ["self"]
 c5:Ck K mg "TakeUse"
 n5fields:fK K c5.a "fields"
 n5at:fK K c5.a "at"
 n5place:fK K c5.a "place"
 n5slot:fK K c5.a "slot"
 e59:Mx K c5.a "__init__" "TakeUse.__init__" iQ ["self","at","place","slot","fields"]
 mk5:Mk K c5.a e59.a
 e60:Mx K c5.a "told" "TakeUse.told" jX ["self"]
 c6:Ck K mg "CaseUse"
 n6arms:fK K c6.a "arms"
 n6at:fK K c6.a "at"
 n6place:fK K c6.a "place"
 n6slot:fK K c6.a "slot"
 e61:Mx K c6.a "__init__" "CaseUse.__init__" iR ["self","at","place","slot","arms"]
 mk6:Mk K c6.a e61.a
 e62:Mx K c6.a "told" "CaseUse.told" jY ["self"]
 c7:Ck K mg "RowUse"
 n7out:fK K c7.a "out"
 n7at:fK K c7.a "at"
 n7place:fK K c7.a "place"
 n7slot:fK K c7.a "slot"
 e63:Mx K c7.a "__init__" "RowUse.__init__" jk ["self","at","place","slot","out"]
 mk7:Mk K c7.a e63.a
 e64:Mx K c7.a "told" "RowUse.told" kC ["self"]
 c8:Ck K mg "Board"
 n8points:fK K c8.a "points"
 n8makes:fK K c8.a "makes"
 n8uses:fK K c8.a "uses"
 n8flows:fK K c8.a "flows"
 n8root:fK K c8.a "root"
 e65:Mx K c8.a "__init__" "Board.__init__" ju ["self"]
 mk8:Mk K c8.a e65.a
 e66:Mx K c8.a "point" "Board.point" kE ["self","place"]
 e67:Mx K c8.a "make" "Board.make" lA ["self","shape","parts","at","place"]
 e68:Mx K c8.a "use" "Board.use" mI ["self","one"]
 e69:Mx K c8.a "flow" "Board.flow" lB ["self","p","q"]
 e70:Mx K c8.a "rooted" "Board.rooted" jZ ["self","p"]
 c9:Ck K mg "Laying"
 n9program:fK K c9.a "program"
 n9homes:fK K c9.a "homes"
 n9papers:fK K c9.a "papers"
 n9board:fK K c9.a "board"
 n9held:fK K c9.a "held"
 n9starts:fK K c9.a "starts"
 e71:Mx K c9.a "__init__" "Laying.__init__" jl ["self","program","homes","papers"]
 mk9:Mk K c9.a e71.a
 e72:Mx K c9.a "lay_definition" "Laying.lay_definition" gL ["self","number"]
 e73:Mx K c9.a "lay" "Laying.lay" lC ["self","place"]
 c10:Ck K mg "Program"
 n10names:fK K c10.a "names"
 n10roots:fK K c10.a "roots"
 n10rows:fK K c10.a "rows"
 e74:Mx K c10.a "__init__" "Program.__init__" iS ["self","names","roots","rows"]
 mk10:Mk K c10.a e74.a
 z_all:mg "all"=none
 z_bool:mg "bool"=none
 z_dict:mg "dict"=none
 z_enumerate:mg "enumerate"=none
 z_int:mg "int"=none
 z_isinstance:mg "isinstance"=none
 z_len:mg "len"=none
 z_list:mg "list"=none
 z_max:mg "max"=none
 z_range:mg "range"=none
 z_str:mg "str"=none
 z_sum:mg "sum"=none
 z_tuple:mg "tuple"=none
 z_zip:mg "zip"=none
theorem oH:eX ["program","place","number","behind"] ["program","place","number"] (eQ mw):=scK
theorem yF:eX ["board","paper","place","outs","ins","at","makings","making","uses","one","flow"] ["board","paper","place"] (eQ r9):=scK
theorem zY:eX ["board","count","place","points","number"] ["board","count","place"] (eQ kU):=scK
theorem zZ:eX ["making","outs","ins"] ["making","outs","ins"] (eQ kW):=scK
theorem B7:eX ["one","at","place","outs","ins"] ["one","at","place","outs","ins"] (eQ nQ):=scK
theorem zE:eX ["pairs","points"] ["pairs","points"] (eQ kr):=scK
theorem yG:eX ["program","homes","which","papers","laying"] ["program","homes","which","papers"] (eQ yE):=scK
theorem wK:eX ["laying","row","place","own"] ["laying","row","place","own"] (eQ pR):=scK
theorem uQ:eX ["laying","row","place","own"] ["laying","row","place","own"] (eQ nR):=scK
theorem lY:eX ["laying","place","home"] ["laying","place"] (eQ ku):=scK
theorem mJ:eX ["laying","place","number"] ["laying","place","number"] (eQ iO):=scK
theorem p4:eX ["laying","row","place","own","argument","answer"] ["laying","row","place","own"] (eQ se):=scK
theorem mK:eX ["laying","row","place","own","called","argument"] ["laying","row","place","own"] (eQ nT):=scK
theorem wL:eX ["laying","row","place","own"] ["laying","row","place","own"] (eQ pT):=scK
theorem oj:eX ["laying","row","place","own","fields","field"] ["laying","row","place","own"] (eQ pU):=scK
theorem rm:eX ["laying","row","place","own","record"] ["laying","row","place","own"] (eQ pV):=scK
theorem rn:eX ["laying","row","place","own","tagged"] ["laying","row","place","own"] (eQ pX):=scK
theorem jH:eX ["laying","row","place","own","subject","arms","arm","tagged"] ["laying","row","place","own"] (eQ nU):=scK
theorem oq:eX ["laying","row","place","own","things","thing"] ["laying","row","place","own"] (eQ pY):=scK
theorem ng:eX ["laying","row","place","own","looked","index","default"] ["laying","row","place","own"] (eQ sg):=scK
theorem kF:eX ["laying","row","place","own","things","first","second"] ["laying","row","place","own"] (eQ nV):=scK
theorem mL:eX ["laying","row","place","own","things","measured"] ["laying","row","place","own"] (eQ nX):=scK
theorem wM:eX ["laying","row","place","own"] ["laying","row","place","own"] (eQ pZ):=scK
theorem p6:eX ["laying","row","place","own","nothing"] ["laying","row","place","own"] (eQ nY):=scK
theorem ka:eX ["laying","row","place","first","second"] ["laying","row","place"] (eQ kx):=scK
theorem gJ:eX ["_law_cell","_law_size","_law_signs","_law_stem_here","_law_k","_law_many"] ["_law_cell","_law_size"] (eQ mx):=scK
theorem fR:eX ["_law_cell","_law_size","_law_words_here","_law_stem_here","_law_at","_law_k","_law_word","_law_part"] ["_law_cell"] (eQ kX):=scK
theorem nq:eX ["_law_found","_law_due"] ["_law_found","_law_due"] (eQ kY):=scK
theorem tL:eX ["_law_node","_law_weight"] ["_law_node","_law_weight"] (eQ my):=scK
theorem fS:eX ["_law_head","_law_words_here","_law_parts","_law_held","_law_nest","_law_weight","_law_many","_law_own","_law_places","_law_part","_law_var"] ["_law_head","_law_words_here","_law_parts","_law_held"] (eQ mz):=scK
theorem uR:eX ["_law_stack"] ["_law_stack"] (eQ nZ):=scK
theorem qF:eX ["_law_arg"] ["_law_arg"] (eQ ky):=scK
theorem oJ:eX ["_law_words_here","_law_var","_law_item"] ["_law_words_here","_law_var"] (eQ mB):=scK
theorem tM:eX ["_law_item","_law_arg"] ["_law_item","_law_arg"] (eQ mC):=scK
theorem gx:eX ["_law_words_here","_law_stack","_law_op","_law_arg","_law_many","_law_chosen","_law_parts","_law_heads","_law_k","_law_bodies"] ["_law_words_here","_law_stack","_law_op","_law_arg"] (eQ mD):=scK
theorem ie:eX ["_law_words_here","_law_stack","_law_op","_law_arg","_law_item","_law_head","_law_chosen","_law_parts"] ["_law_words_here","_law_stack","_law_op","_law_arg"] (eQ kz):=scK
theorem mM:eX ["_law_words_here","_law_var","_law_bound","_law_body","_law_item","_law_times"] ["_law_words_here","_law_var","_law_bound","_law_body"] (eQ n8):=scK
theorem jJ:eX ["_law_words_here","_law_stack","_law_made","_law_op","_law_arg","_law_d","_law_item","_law_body","_law_var"] ["_law_words_here","_law_stack","_law_made","_law_op","_law_arg"] (eQ n9):=scK
theorem iT:eX ["_law_words_here","_law_item","_law_arg","_law_var"] ["_law_words_here","_law_item","_law_arg"] (eQ k9):=scK
theorem fO:eX ["_law_words_here","_law_cells","_law_stack","_law_made","_law_nodes","_law_done","_law_cell","_law_c","_law_new_here","_law_item"] ["_law_words_here","_law_cells"] (eQ jV):=scK
theorem qG:eX ["_law_node","_law_k","_law_places"] ["_law_node","_law_k","_law_places"] (eQ kA):=scK
theorem jR:eX ["_law_scope","_law_word","_law_home_here","_law_one"] ["_law_scope","_law_word"] (eQ mE):=scK
theorem p7:eX ["_law_node","_law_places","_law_arms"] ["_law_node","_law_places"] (eQ oh):=scK
theorem iC:eX ["_law_node","_law_scope","_law_rows","_law_homes","_law_at","_law_places","_law_k","_law_part"] ["_law_node","_law_scope","_law_rows","_law_homes"] (eQ mF):=scK
theorem gf:eX ["_law_words_here","_law_nodes","_law_names","_law_roots","_law_rows","_law_homes","_law_scope","_law_d","_law_node"] ["_law_words_here","_law_nodes"] (eQ lg):=scK
theorem lD:eX ["_law_board","_law_makes","_law_uses"] ["_law_board"] (eQ mG):=scK
theorem je:eX ["_law_built_here","_law_told_here","_law_held","_law_which","_law_inside"] ["_law_built_here","_law_told_here","_law_held","_law_which"] (eQ gX):=scK
theorem oS:eX ["_law_built_here","_law_told_here","_law_held","_law_home_here"] ["_law_built_here","_law_told_here","_law_held","_law_home_here"] (eQ jC):=scK
theorem fX:eX ["_law_built_here","_law_told_here","_law_held","_law_row_here","_law_p","_law_at","_law_parts","_law_inside","_law_part"] ["_law_built_here","_law_told_here","_law_held","_law_row_here","_law_p","_law_at"] (eQ jD):=scK
theorem gw:eX ["_law_built_here","_law_told_here","_law_held","_law_row_here","_law_p","_law_at","_law_chosen","_law_arms","_law_arm","_law_inside"] ["_law_built_here","_law_told_here","_law_held","_law_row_here","_law_p","_law_at"] (eQ jE):=scK
theorem gP:eX ["_law_built_here","_law_told_here","_law_held","_law_row_here","_law_p","_law_at","_law_inner","_law_parts","_law_slot","_law_part"] ["_law_built_here","_law_told_here","_law_held","_law_row_here","_law_p","_law_at"] (eQ jF):=scK
theorem kG:eX ["_law_built_here","_law_told_here","_law_held","_law_p","_law_row_here","_law_at"] ["_law_built_here","_law_told_here","_law_held","_law_p"] (eQ oi):=scK
theorem lZ:eX ["_law_script","_law_words_here","_law_built_here","_law_program","_law_homes","_law_boards","_law_dues","_law_which","_law_due","_law_board"] ["_law_script"] (eQ sj):=scK
theorem oT:eX ["self","shape","parts","at","place"] ["self","shape","parts","at","place"] (eQ jG):=scK
theorem tN:eX ["self"] ["self"] (eQ mH):=scK
theorem p8:eX ["self","at","place","slot"] ["self","at","place","slot"] (eQ jn):=scK
theorem qH:eX ["self"] ["self"] (eQ kB):=scK
theorem mN:eX ["self","at","place","slot","arg","out"] ["self","at","place","slot","arg","out"] (eQ iP):=scK
theorem p9:eX ["self"] ["self"] (eQ jW):=scK
theorem mO:eX ["self","at","place","slot","fields"] ["self","at","place","slot","fields"] (eQ iQ):=scK
theorem qa:eX ["self"] ["self"] (eQ jX):=scK
theorem mP:eX ["self","at","place","slot","arms"] ["self","at","place","slot","arms"] (eQ iR):=scK
theorem qb:eX ["self"] ["self"] (eQ jY):=scK
theorem nu:eX ["self","at","place","slot","out"] ["self","at","place","slot","out"] (eQ jk):=scK
theorem qI:eX ["self"] ["self"] (eQ kC):=scK
theorem ot:eX ["self"] ["self"] (eQ ju):=scK
theorem qJ:eX ["self","place"] ["self","place"] (eQ kE):=scK
theorem sk:eX ["self","shape","parts","at","place"] ["self","shape","parts","at","place"] (eQ lA):=scK
theorem tO:eX ["self","one"] ["self","one"] (eQ mI):=scK
theorem sq:eX ["self","p","q"] ["self","p","q"] (eQ lB):=scK
theorem qc:eX ["self","p"] ["self","p"] (eQ jZ):=scK
theorem nv:eX ["self","program","homes","papers"] ["self","program","homes","papers"] (eQ jl):=scK
theorem gD:eX ["self","number","root","start"] ["self","number"] (eQ gL):=scK
theorem jx:eX ["self","place","row","own"] ["self","place"] (eQ lC):=scK
theorem mQ:eX ["self","names","roots","rows"] ["self","names","roots","rows"] (eQ iS):=scK
def vE (K:PySem.W.Frag):Sp:=fun vs H Q _=>∃(a:Addr) (ns:List Int),vs=[.ref a]/\SqL K H a (ns.map V.int)/\ns.length<=63/\∀H',Q (.bl true) H'
theorem _root_.L2.Internal.Fun.rd {P:Program} {w:World} {base:Heap} {f:Addr} {fd:FuncData} {N:List Str} {k:Nat} {sp:Sp} (F:Fun K n q st f fd) (S:eX N ps (eQ st)) (hbody:∀(cdv:Value) (A:Around) (outer:List Env) (s:Shared) (H:Hp) (vs:List V) (Q:VK) (E:XK),kQ k (A.deeper (PyProof.Rows.envOfC q (eQ st) s.heap.objs.size f cdv))->sp vs H Q E->∃t,PSs (AK CX0 P w K mg base N q (eQ st) f cdv A outer s H E).nox (gT st) t/\t {nx:=fun _ H'=>Q .non H',rt:=Q} (start N vs) H) (len:∀vs H Q E,sp vs H Q E->vs.length=ps.length:=by intro _ _ _ _ h;repeat(first|(obtain⟨rfl,_⟩:=h;rfl)|(cases h;first|(subst_vars;rfl)|rename_i h))):qA P w K mg base CX0 (k+ 1) f fd ps sp:=F.ok S len hbody
section
variable {X:Cx}
theorem pF {e:Expr} {es:List Expr} {pos p:Pos} {k:Nat} {sp:Sp} {t:TA} (x:Fx X.K X.mg n st ps) (F:qA X.prog X.w X.K X.mg X.base CX0 k x.a x.fd ps sp) (hr:kQ k X.A) (ha:PA X (e::es) t) (hg:Gl X n:=by exact rfl) (hdb:autoParam ((n==("__debug__":Str))=false) L2.Internal.auD._auto_1) (he:autoParam (starEach (e::es) X.env=(false,eval e X.env)::starEach es X.env) L2.Internal.auR._auto_1) (hpl:autoParam ((backTo pos (starEach es X.env)).any (·.1)=false) L2.Internal.auR._auto_1):PE X (.Call (.Name n p) (e::es) [] pos) (qC sp [] E0 t):=xK F hr hg x.m x.k x.b .nil fH ha hdb he hpl
theorem pS {i:Nat} {x:Str} {e:Expr} {te:TE} {pos pos':Pos} (hN:X.N.Nodup) (he:PE X e te) (hi:autoParam (X.N[i]?=some x) L2.Internal.auR._auto_1) (hx:Loc X.env.scope x:=by first|exact .inl rfl|exact .inr rfl) (hs:autoParam (swapsWith e (some (.Name x pos')) pos.line X.env=pure false) L2.Internal.auR._auto_1) (hf:autoParam (X.fn x=true\/X.env.scope.names.lookup x=some .local) L2.Internal.auL._auto_1):PS X (.Assign [.Name x pos'] e pos) (zB te (fu i)):=Du hN hi hx he hs hf
theorem pN {i:Nat} {x:Str} {pos:Pos} (hN:X.N.Nodup) (hi:autoParam (X.N[i]?=some x) L2.Internal.auR._auto_1) (hx:Loc X.env.scope x:=by first|exact .inl rfl|exact .inr rfl) (hf:autoParam (X.fn x=true\/X.env.scope.names.lookup x=some .local) L2.Internal.auL._auto_1):PG X (.Name x pos) (fu i):=uD hN hi hx hf
theorem A3 {scope:Scope} {x:Str} (ns:List Str) (cap:List (Str×Nat×Addr)) (hns:autoParam (cap.map (·.1)=ns) L2.Internal.auR._auto_1) (hk:autoParam (scope.kind= .function) L2.Internal.auR._auto_1) (hn:∀p∈scope.names,p.2≠ .cell/\(p.2= .free->p.1∈ns):=by decide+kernel) (hl:∀y∈scope.names,y.2= .local->scope.names.lookup y.1=some .local:=by decide+kernel)
  (hx:autoParam (scope.names.lookup x=some .local) L2.Internal.auR._auto_1) (hnd:(x::ns).Nodup:=by decide+kernel) (hc:autoParam (closureFor scope X.env=pure (cap.map fun p=>(p.1,p.2.2))) L2.Internal.auR._auto_1) (hok:autoParam (X.env.scope.kind= .function) L2.Internal.auR._auto_1)
  (h:∀p∈cap,scope.names.lookup p.1=some .free/\X.env.cells.lookup p.1=some p.2.2/\X.env.scope.names.lookup p.1=some .cell/\X.N[p.2.1]?=some p.1:=by repeat(first|refine bB.mpr ⟨⟨rfl,rfl,rfl,rfl⟩,?_⟩|exact fun _ h=>absurd h bf)):
  pL X (x::ns) scope (cap.map fun p=>(p.1,p.2.2)) (fun σ=>none::cap.map fun p=>σ.getD p.2.1 none) 0 x:=blkC ns cap hns hk hn hl hx hnd hc hok h
theorem blkD2 {scope:Scope} {x y:Str} (ns:List Str) (cap:List (Str×Nat×Addr)) (hns:autoParam (cap.map (·.1)=ns) L2.Internal.auR._auto_1) (hk:autoParam (scope.kind= .function) L2.Internal.auR._auto_1) (hn:∀p∈scope.names,p.2≠ .cell/\(p.2= .free->p.1∈ns):=by decide+kernel) (hl:∀y∈scope.names,y.2= .local->scope.names.lookup y.1=some .local:=by decide+kernel)
  (hx:autoParam (scope.names.lookup x=some .local) L2.Internal.auR._auto_1) (hnd:(x::y::ns).Nodup:=by decide+kernel) (hc:autoParam (closureFor scope X.env=pure (cap.map fun p=>(p.1,p.2.2))) L2.Internal.auR._auto_1) (hok:autoParam (X.env.scope.kind= .function) L2.Internal.auR._auto_1)
  (h:∀p∈cap,scope.names.lookup p.1=some .free/\X.env.cells.lookup p.1=some p.2.2/\X.env.scope.names.lookup p.1=some .cell/\X.N[p.2.1]?=some p.1:=by repeat(first|refine bB.mpr ⟨⟨rfl,rfl,rfl,rfl⟩,?_⟩|exact fun _ h=>absurd h bf)):
  pL X (x::y::ns) scope (cap.map fun p=>(p.1,p.2.2)) (fun σ=>none::none::cap.map fun p=>σ.getD p.2.1 none) 0 x:=Fw ns cap hns hk hn hl hx hnd hc hok h
theorem pgP {scope:Scope} {cl:List (Str×Addr)} {x y:Str} {ns:List Str} {px py tp:Pos} {kk:Nat} (hc:X.calm=true) (nd:(x::y::ns).Nodup) (hx:scope.names.lookup x=some .local) (hy:scope.names.lookup y=some .local) (C:Addr) (s₀:Shared) (H₀:Hp) (ex:List Addr) (pz:List (Addr×Obj)):PG (blk X (x::y::ns) scope cl C s₀ H₀ ex pz) (.Tuple [.Name x px,.Name y py] kk tp) (Dd X.K 2 (pq (fu 0) (pq (fu 1) Dc))):=
 sY (n:=2) (X:=blk X (x::y::ns) scope cl C s₀ H₀ ex pz) hc (jm (uD (X:=blk X (x::y::ns) scope cl C s₀ H₀ ex pz) (i:=0) nd rfl (.inl (lookup_relabel_local hx)) (.inr (lookup_relabel_local hx))) (jm (uD (X:=blk X (x::y::ns) scope cl C s₀ H₀ ex pz) (i:=1) nd rfl (.inl (lookup_relabel_local hy)) (.inr (lookup_relabel_local hy))) pA))
end
end K27.Internal
inductive X2 {a0 a1:Type} (p:a0->a1->Prop):Prop
 |mk x0 x1:p x0 x1->X2 p
inductive X3 {a0 a1 a2:Type} (p:a0->a1->a2->Prop):Prop
 |mk x0 x1 x2:p x0 x1 x2->X3 p
inductive X4 {a0 a1 a2 a3:Type} (p:a0->a1->a2->a3->Prop):Prop
 |mk x0 x1 x2 x3:p x0 x1 x2 x3->X4 p
inductive X5 {a0 a1 a2 a3 a4:Type} (p:a0->a1->a2->a3->a4->Prop):Prop
 |mk x0 x1 x2 x3 x4:p x0 x1 x2 x3 x4->X5 p
inductive X6 {a0 a1 a2 a3 a4 a5:Type} (p:a0->a1->a2->a3->a4->a5->Prop):Prop
 |mk x0 x1 x2 x3 x4 x5:p x0 x1 x2 x3 x4 x5->X6 p
inductive X7 {a0 a1 a2 a3 a4 a5 a6:Type} (p:a0->a1->a2->a3->a4->a5->a6->Prop):Prop
 |mk x0 x1 x2 x3 x4 x5 x6:p x0 x1 x2 x3 x4 x5 x6->X7 p
inductive X8 {a0 a1 a2 a3 a4 a5 a6 a7:Type} (p:a0->a1->a2->a3->a4->a5->a6->a7->Prop):Prop
 |mk x0 x1 x2 x3 x4 x5 x6 x7:p x0 x1 x2 x3 x4 x5 x6 x7->X8 p
inductive X9 {a0 a1 a2 a3 a4 a5 a6 a7 a8:Type} (p:a0->a1->a2->a3->a4->a5->a6->a7->a8->Prop):Prop
 |mk x0 x1 x2 x3 x4 x5 x6 x7 x8:p x0 x1 x2 x3 x4 x5 x6 x7 x8->X9 p
inductive X10 {a0 a1 a2 a3 a4 a5 a6 a7 a8 a9:Type} (p:a0->a1->a2->a3->a4->a5->a6->a7->a8->a9->Prop):Prop
 |mk x0 x1 x2 x3 x4 x5 x6 x7 x8 x9:p x0 x1 x2 x3 x4 x5 x6 x7 x8 x9->X10 p
inductive X12 {a0 a1 a2 a3 a4 a5 a6 a7 a8 a9 a10 a11:Type} (p:a0->a1->a2->a3->a4->a5->a6->a7->a8->a9->a10->a11->Prop):Prop
 |mk x0 x1 x2 x3 x4 x5 x6 x7 x8 x9 x10 x11:p x0 x1 x2 x3 x4 x5 x6 x7 x8 x9 x10 x11->X12 p
structure Y3 (a0 a1 a2:Prop):Prop where mk::
 (h0:a0) (h1:a1) (h2:a2)
structure Y4 (a0 a1 a2 a3:Prop):Prop where mk::
 (h0:a0) (h1:a1) (h2:a2) (h3:a3)
structure Y5 (a0 a1 a2 a3 a4:Prop):Prop where mk::
 (h0:a0) (h1:a1) (h2:a2) (h3:a3) (h4:a4)
structure Y6 (a0 a1 a2 a3 a4 a5:Prop):Prop where mk::
 (h0:a0) (h1:a1) (h2:a2) (h3:a3) (h4:a4) (h5:a5)
structure Y7 (a0 a1 a2 a3 a4 a5 a6:Prop):Prop where mk::
 (h0:a0) (h1:a1) (h2:a2) (h3:a3) (h4:a4) (h5:a5) (h6:a6)
structure Y8 (a0 a1 a2 a3 a4 a5 a6 a7:Prop):Prop where mk::
 (h0:a0) (h1:a1) (h2:a2) (h3:a3) (h4:a4) (h5:a5) (h6:a6) (h7:a7)
structure Y9 (a0 a1 a2 a3 a4 a5 a6 a7 a8:Prop):Prop where mk::
 (h0:a0) (h1:a1) (h2:a2) (h3:a3) (h4:a4) (h5:a5) (h6:a6) (h7:a7) (h8:a8)
structure Y11 (a0 a1 a2 a3 a4 a5 a6 a7 a8 a9 a10:Prop):Prop where mk::
 (h0:a0) (h1:a1) (h2:a2) (h3:a3) (h4:a4) (h5:a5) (h6:a6) (h7:a7) (h8:a8) (h9:a9) (h10:a10)
structure Y12 (a0 a1 a2 a3 a4 a5 a6 a7 a8 a9 a10 a11:Prop):Prop where mk::
 (h0:a0) (h1:a1) (h2:a2) (h3:a3) (h4:a4) (h5:a5) (h6:a6) (h7:a7) (h8:a8) (h9:a9) (h10:a10) (h11:a11)
structure Y17 (a0 a1 a2 a3 a4 a5 a6 a7 a8 a9 a10 a11 a12 a13 a14 a15 a16:Prop):Prop where mk::
 (h0:a0) (h1:a1) (h2:a2) (h3:a3) (h4:a4) (h5:a5) (h6:a6) (h7:a7) (h8:a8) (h9:a9) (h10:a10) (h11:a11) (h12:a12) (h13:a13) (h14:a14) (h15:a15) (h16:a16)
namespace K27.Internal
open PySem L2.Internal BO.Internal KK.Internal
seal L2.Internal.PE L2.Internal.PA L2.Internal.PS L2.Internal.PSs L2.Internal.PT L2.Internal.PI
theorem sr {H H2:Hp} {l:Addr} (s:fG H H2) (h:H l=none) (o:HO):fG H (upd H2 l o):=fun b u e=>by rw[eN (eT e h)];exact s b u e
theorem FE (a p s:V):ja "slot" s (ja "place" p (ja "at" a []))=fU a p s:=by
 have h1:¬("at":Str)="place":=fo
 have h2:¬("at":Str)="slot":=fo
 have h3:¬("place":Str)="slot":=fo
 simp only[ja,fJ h1,fJ h2,fJ h3,fU]
theorem yH (n:Str) (a p s x:V) (h1:¬("at":Str)=n) (h2:¬("place":Str)=n) (h3:¬("slot":Str)=n):ja n x (fU a p s)=fU1 n a p s x:=by
 simp only[ja,fU,fJ h1,fJ h2,fJ h3,fU1]
theorem DZ (a p s x y:V):ja "out" y (ja "arg" x (fU a p s))=fU2 a p s x y:=by
 have h1:¬("at":Str)="arg":=fo
 have h2:¬("place":Str)="arg":=fo
 have h3:¬("slot":Str)="arg":=fo
 have h4:¬("at":Str)="out":=fo
 have h5:¬("place":Str)="out":=fo
 have h6:¬("slot":Str)="out":=fo
 have h7:¬("arg":Str)="out":=fo
 simp only[ja,fU,fJ h1,fJ h2,fJ h3,fJ h4,fJ h5,fJ h6,fJ h7,fU2]
theorem FF (s f a p:V):ja "place" p (ja "at" a (ja "parts" f (ja "shape" s [])))=fM s f a p:=by
 have h1:¬("shape":Str)="parts":=fo
 have h2:¬("shape":Str)="at":=fo
 have h3:¬("shape":Str)="place":=fo
 have h4:¬("parts":Str)="at":=fo
 have h5:¬("parts":Str)="place":=fo
 have h6:¬("at":Str)="place":=fo
 simp only[ja,fJ h1,fJ h2,fJ h3,fJ h4,fJ h5,fJ h6,fM]
theorem gY {f:Str} {v:V} {fs:List (Str×V)} {n:Nat} (h:fs.length<n):(ja f v fs).length<n+ 1:=Nat.lt_of_le_of_lt (mj f v fs) (Nat.succ_lt_succ h)
theorem FG (a p s:V):(fU a p s).lookup ("at":Str)=some (a):=by kernel_rfl
theorem z6 (a p s:V):(fU a p s).lookup ("place":Str)=some (p):=by kernel_rfl
theorem B8 (a p s:V):(fU a p s).lookup ("slot":Str)=some (s):=by kernel_rfl
theorem wN (a p s:V):(fU a p s).lookup ("told":Str)=none:=by kernel_rfl
theorem D0 (a p s x y:V):(fU2 a p s x y).lookup ("at":Str)=some (a):=by kernel_rfl
theorem yI (a p s x y:V):(fU2 a p s x y).lookup ("place":Str)=some (p):=by kernel_rfl
theorem z7 (a p s x y:V):(fU2 a p s x y).lookup ("slot":Str)=some (s):=by kernel_rfl
theorem B9 (a p s x y:V):(fU2 a p s x y).lookup ("arg":Str)=some (x):=by kernel_rfl
theorem Ca (a p s x y:V):(fU2 a p s x y).lookup ("out":Str)=some (y):=by kernel_rfl
theorem uS (a p s x y:V):(fU2 a p s x y).lookup ("told":Str)=none:=by kernel_rfl
theorem z8 (s f a p:V):(fM s f a p).lookup ("shape":Str)=some (s):=by kernel_rfl
theorem z9 (s f a p:V):(fM s f a p).lookup ("parts":Str)=some (f):=by kernel_rfl
theorem FI (s f a p:V):(fM s f a p).lookup ("at":Str)=some (a):=by kernel_rfl
theorem Aa (s f a p:V):(fM s f a p).lookup ("place":Str)=some (p):=by kernel_rfl
theorem wO (s f a p:V):(fM s f a p).lookup ("told":Str)=none:=by kernel_rfl
theorem qd (p0 p1 p2 p3:Addr) (r:V):(fB p0 p1 p2 p3 r).lookup ("points":Str)=some (.ref p0):=by kernel_rfl
theorem vF (p0 p1 p2 p3:Addr) (r:V):(fB p0 p1 p2 p3 r).lookup ("makes":Str)=some (.ref p1):=by kernel_rfl
theorem yJ (p0 p1 p2 p3:Addr) (r:V):(fB p0 p1 p2 p3 r).lookup ("uses":Str)=some (.ref p2):=by kernel_rfl
theorem vG (p0 p1 p2 p3:Addr) (r:V):(fB p0 p1 p2 p3 r).lookup ("flows":Str)=some (.ref p3):=by kernel_rfl
theorem Cb (p0 p1 p2 p3:Addr) (r:V):(fB p0 p1 p2 p3 r).lookup ("root":Str)=some (r):=by kernel_rfl
theorem gZ (p0 p1 p2 p3:Addr) (r:V):(fB p0 p1 p2 p3 r).lookup ("point":Str)=none:=by kernel_rfl
theorem gE (p0 p1 p2 p3:Addr) (r:V):(fB p0 p1 p2 p3 r).lookup ("make":Str)=none:=by kernel_rfl
theorem ig (p0 p1 p2 p3:Addr) (r:V):(fB p0 p1 p2 p3 r).lookup ("use":Str)=none:=by kernel_rfl
theorem jB (p0 p1 p2 p3:Addr) (r:V):(fB p0 p1 p2 p3 r).lookup ("flow":Str)=none:=by kernel_rfl
theorem tP (p0 p1 p2 p3:Addr) (r:V):(fB p0 p1 p2 p3 r).lookup ("rooted":Str)=none:=by kernel_rfl
theorem Cc (a p s x:V):(fU1 "fields" a p s x).lookup ("at":Str)=some (a):=by kernel_rfl
theorem wQ (a p s x:V):(fU1 "fields" a p s x).lookup ("place":Str)=some (p):=by kernel_rfl
theorem yK (a p s x:V):(fU1 "fields" a p s x).lookup ("slot":Str)=some (s):=by kernel_rfl
theorem uT (a p s x:V):(fU1 "fields" a p s x).lookup ("fields":Str)=some (x):=by kernel_rfl
theorem tQ (a p s x:V):(fU1 "fields" a p s x).lookup ("told":Str)=none:=by kernel_rfl
theorem Cd (a p s x:V):(fU1 "arms" a p s x).lookup ("at":Str)=some (a):=by kernel_rfl
theorem wR (a p s x:V):(fU1 "arms" a p s x).lookup ("place":Str)=some (p):=by kernel_rfl
theorem yL (a p s x:V):(fU1 "arms" a p s x).lookup ("slot":Str)=some (s):=by kernel_rfl
theorem yM (a p s x:V):(fU1 "arms" a p s x).lookup ("arms":Str)=some (x):=by kernel_rfl
theorem tR (a p s x:V):(fU1 "arms" a p s x).lookup ("told":Str)=none:=by kernel_rfl
theorem Ce (a p s x:V):(fU1 "out" a p s x).lookup ("at":Str)=some (a):=by kernel_rfl
theorem wU (a p s x:V):(fU1 "out" a p s x).lookup ("place":Str)=some (p):=by kernel_rfl
theorem yN (a p s x:V):(fU1 "out" a p s x).lookup ("slot":Str)=some (s):=by kernel_rfl
theorem Ab (a p s x:V):(fU1 "out" a p s x).lookup ("out":Str)=some (x):=by kernel_rfl
theorem tS (a p s x:V):(fU1 "out" a p s x).lookup ("told":Str)=none:=by kernel_rfl
def qe (K:PySem.W.Frag):Sp:=fun vs H Q _=>X6 fun(x C dx:Addr) (a p s:V)=>Y7 (vs=[.ref x,a,p,s]) (H x=some (.ins C dx [])) (Cls K C) (fK K C "at") (fK K C "place") (fK K C "slot") (Q .non (upd H x (.ins C dx (fU a p s))))
theorem gF (T:Txt K mg):MO P w base mg 1 T.e55 (qe K):=by
 refine T.e55.F.rd p8 fun cdv A outer s H vs Q E hr h=>?_
 obtain⟨x,C,dx,a,p,sl,rfl,hx,cl,n1,n2,n3,q⟩:=h
 refine⟨_,(eJ (gC (pv 0) (pv 1) rfl)
  (eJ (gC (pv 0) (pv 2) rfl)
  (eO (gC (pv 0) (pv 3) rfl)))),?_⟩
 refine⟨_,rfl,_,rfl,x,C,dx,[],rfl,hx,cl,n1,(by show 0<1000;decide),?_⟩
 refine⟨_,rfl,_,rfl,x,C,dx,_,rfl,eG,cl,n2,(by show 1<1000;decide),?_⟩
 refine⟨_,rfl,_,rfl,x,C,dx,_,rfl,eG,cl,n3,gY (gY (by show 0<998;decide)),?_⟩
 rw[f7,f7,FE]
 exact q
def mS (C:Addr):Sp:=fun vs H Q _=>X7 fun(x dx:Addr) (a p s y z:V)=>Y3 (vs=[.ref x,a,p,s,y,z]) (H x=some (.ins C dx [])) (Q .non (upd H x (.ins C dx (fU2 a p s y z))))
theorem mU (T:Txt K mg):MO P w base mg 2 T.e57 (mS T.c4.a):=by
 have gE55:=gF (P:=P) (w:=w) (base:=base) T
 refine T.e57.F.rd mN fun cdv A outer s H vs Q E hr h=>?_
 obtain⟨x,dx,a,p,sl,y,z,rfl,hx,q⟩:=h
 refine⟨_,(eJ (eW (rS (ya rfl T.c2.m) T.cm55 gE55 hr.m T.e55.b .nil fH (eE (pv 0) (eE (pv 1) (eE (pv 2) (eE (pv 3) eF))))))
  (eJ (gC (pv 0) (pv 4) rfl)
  (eO (gC (pv 0) (pv 5) rfl)))),?_⟩
 refine⟨_,rfl,_,rfl,_,rfl,_,rfl,x,_,dx,a,p,sl,rfl,hx,T.c4.cl,T.n4at,T.n4place,T.n4slot,?_⟩
 refine⟨_,rfl,_,rfl,x,_,dx,_,rfl,eG,T.c4.cl,T.n4arg,(by show 3<1000;decide),?_⟩
 refine⟨_,rfl,_,rfl,x,_,dx,_,rfl,eG,T.c4.cl,T.n4out,gY (by show 3<999;decide),?_⟩
 rw[f7,f7,DZ]
 exact q
def Cf (C:Addr) (n:Str):Sp:=fun vs H Q _=>X6 fun(x dx:Addr) (a p s y:V)=>Y3 (vs=[.ref x,a,p,s,y]) (H x=some (.ins C dx [])) (Q .non (upd H x (.ins C dx (fU1 n a p s y))))
theorem mV (T:Txt K mg):MO P w base mg 2 T.e59 (Cf T.c5.a "fields"):=by
 have gE55:=gF (P:=P) (w:=w) (base:=base) T
 refine T.e59.F.rd mO fun cdv A outer s H vs Q E hr h=>?_
 obtain⟨x,dx,a,p,sl,y,rfl,hx,q⟩:=h
 refine⟨_,(eJ (eW (rS (ya rfl T.c2.m) T.cm55 gE55 hr.m T.e55.b .nil fH (eE (pv 0) (eE (pv 1) (eE (pv 2) (eE (pv 3) eF))))))
  (eO (gC (pv 0) (pv 4) rfl))),?_⟩
 refine⟨_,rfl,_,rfl,_,rfl,_,rfl,x,_,dx,a,p,sl,rfl,hx,T.c5.cl,T.n5at,T.n5place,T.n5slot,?_⟩
 refine⟨_,rfl,_,rfl,x,_,dx,_,rfl,eG,T.c5.cl,T.n5fields,(by show 3<1000;decide),?_⟩
 rw[f7,yH "fields" a p sl y fo fo fo]
 exact q
theorem mW (T:Txt K mg):MO P w base mg 2 T.e61 (Cf T.c6.a "arms"):=by
 have gE55:=gF (P:=P) (w:=w) (base:=base) T
 refine T.e61.F.rd mP fun cdv A outer s H vs Q E hr h=>?_
 obtain⟨x,dx,a,p,sl,y,rfl,hx,q⟩:=h
 refine⟨_,(eJ (eW (rS (ya rfl T.c2.m) T.cm55 gE55 hr.m T.e55.b .nil fH (eE (pv 0) (eE (pv 1) (eE (pv 2) (eE (pv 3) eF))))))
  (eO (gC (pv 0) (pv 4) rfl))),?_⟩
 refine⟨_,rfl,_,rfl,_,rfl,_,rfl,x,_,dx,a,p,sl,rfl,hx,T.c6.cl,T.n6at,T.n6place,T.n6slot,?_⟩
 refine⟨_,rfl,_,rfl,x,_,dx,_,rfl,eG,T.c6.cl,T.n6arms,(by show 3<1000;decide),?_⟩
 rw[f7,yH "arms" a p sl y fo fo fo]
 exact q
theorem iU (T:Txt K mg):MO P w base mg 2 T.e63 (Cf T.c7.a "out"):=by
 have gE55:=gF (P:=P) (w:=w) (base:=base) T
 refine T.e63.F.rd nu fun cdv A outer s H vs Q E hr h=>?_
 obtain⟨x,dx,a,p,sl,y,rfl,hx,q⟩:=h
 refine⟨_,(eJ (eW (rS (ya rfl T.c2.m) T.cm55 gE55 hr.m T.e55.b .nil fH (eE (pv 0) (eE (pv 1) (eE (pv 2) (eE (pv 3) eF))))))
  (eO (gC (pv 0) (pv 4) rfl))),?_⟩
 refine⟨_,rfl,_,rfl,_,rfl,_,rfl,x,_,dx,a,p,sl,rfl,hx,T.c7.cl,T.n7at,T.n7place,T.n7slot,?_⟩
 refine⟨_,rfl,_,rfl,x,_,dx,_,rfl,eG,T.c7.cl,T.n7out,(by show 3<1000;decide),?_⟩
 rw[f7,yH "out" a p sl y fo fo fo]
 exact q
def oU (C:Addr):Sp:=fun vs H Q _=>X6 fun(x dx:Addr) (s f a p:V)=>Y3 (vs=[.ref x,s,f,a,p]) (H x=some (.ins C dx [])) (Q .non (upd H x (.ins C dx (fM s f a p))))
theorem oV (T:Txt K mg):MO P w base mg 1 T.e53 (oU T.c1.a):=by
 refine T.e53.F.rd oT fun cdv A outer s H vs Q E hr h=>?_
 obtain⟨x,dx,sh,f,a,p,rfl,hx,q⟩:=h
 refine⟨_,(eJ (gC (pv 0) (pv 1) rfl)
  (eJ (gC (pv 0) (pv 2) rfl)
  (eJ (gC (pv 0) (pv 3) rfl)
  (eO (gC (pv 0) (pv 4) rfl))))),?_⟩
 refine⟨_,rfl,_,rfl,x,_,dx,[],rfl,hx,T.c1.cl,T.n1shape,(by show 0<1000;decide),?_⟩
 refine⟨_,rfl,_,rfl,x,_,dx,_,rfl,eG,T.c1.cl,T.n1parts,(by show 1<1000;decide),?_⟩
 refine⟨_,rfl,_,rfl,x,_,dx,_,rfl,eG,T.c1.cl,T.n1at,gY (gY (by show 0<998;decide)),?_⟩
 refine⟨_,rfl,_,rfl,x,_,dx,_,rfl,eG,T.c1.cl,T.n1place,gY (gY (gY (by show 0<997;decide))),?_⟩
 rw[f7,f7,f7,FF]
 exact q
def tT (C:Addr):Sp:=fun vs H Q _=>X6 fun(x dx:Addr) (s1 f1 a1 p1:V)=>Y3 (vs=[.ref x]) (H x=some (.ins C dx (fM s1 f1 a1 p1))) (∀t,H t=none->Q (.ref t) (upd H t (.tup [s1,f1,a1,p1])))
theorem tU (T:Txt K mg):MO P w base mg 1 T.e54 (tT T.c1.a):=by
 refine T.e54.F.rd tN fun cdv A outer s H vs Q E hr h=>?_
 obtain⟨x,dx,s1,f1,a1,p1,rfl,hx,q⟩:=h
 refine⟨_,(eO (fm (fe (eE (gq (pv 0) rfl) (eE (gq (pv 0) rfl) (eE (gq (pv 0) rfl) (eE (gq (pv 0) rfl) eF))))))),?_⟩
 exact⟨_,rfl,x,_,dx,_,_,rfl,hx,T.c1.cl,T.n1shape,z8 _ _ _ _,_,rfl,x,_,dx,_,_,rfl,hx,T.c1.cl,T.n1parts,z9 _ _ _ _,_,rfl,x,_,dx,_,_,rfl,hx,T.c1.cl,T.n1at,FI _ _ _ _,_,rfl,x,_,dx,_,_,rfl,hx,T.c1.cl,T.n1place,Aa _ _ _ _,qB,fun t ht=>q t ht⟩
def qK (C:Addr):Sp:=fun vs H Q _=>X5 fun(x dx:Addr) (a1 p1 s1:V)=>Y3 (vs=[.ref x]) (H x=some (.ins C dx (fU a1 p1 s1))) (∀t,H t=none->Q (.ref t) (upd H t (.tup [.str "num",a1,p1,s1])))
theorem qL (T:Txt K mg):MO P w base mg 1 T.e56 (qK T.c3.a):=by
 refine T.e56.F.rd qH fun cdv A outer s H vs Q E hr h=>?_
 obtain⟨x,dx,a1,p1,s1,rfl,hx,q⟩:=h
 refine⟨_,(eO (fm (fe (eE eZ (eE (gq (pv 0) rfl) (eE (gq (pv 0) rfl) (eE (gq (pv 0) rfl) eF))))))),?_⟩
 exact⟨_,rfl,x,_,dx,_,_,rfl,hx,T.c3.cl,T.n3at,FG _ _ _,_,rfl,x,_,dx,_,_,rfl,hx,T.c3.cl,T.n3place,z6 _ _ _,_,rfl,x,_,dx,_,_,rfl,hx,T.c3.cl,T.n3slot,B8 _ _ _,qB,fun t ht=>q t ht⟩
def qf (C:Addr):Sp:=fun vs H Q _=>X7 fun(x dx:Addr) (a1 p1 s1 x1 y1:V)=>Y3 (vs=[.ref x]) (H x=some (.ins C dx (fU2 a1 p1 s1 x1 y1))) (∀t,H t=none->Q (.ref t) (upd H t (.tup [.str "call",a1,p1,s1,x1,y1])))
theorem qg (T:Txt K mg):MO P w base mg 1 T.e58 (qf T.c4.a):=by
 refine T.e58.F.rd p9 fun cdv A outer s H vs Q E hr h=>?_
 obtain⟨x,dx,a1,p1,s1,x1,y1,rfl,hx,q⟩:=h
 refine⟨_,(eO (fm (fe (eE eZ (eE (gq (pv 0) rfl) (eE (gq (pv 0) rfl) (eE (gq (pv 0) rfl) (eE (gq (pv 0) rfl) (eE (gq (pv 0) rfl) eF))))))))),?_⟩
 exact⟨_,rfl,x,_,dx,_,_,rfl,hx,T.c4.cl,T.n4at,D0 _ _ _ _ _,_,rfl,x,_,dx,_,_,rfl,hx,T.c4.cl,T.n4place,yI _ _ _ _ _,_,rfl,x,_,dx,_,_,rfl,hx,T.c4.cl,T.n4slot,z7 _ _ _ _ _,_,rfl,x,_,dx,_,_,rfl,hx,T.c4.cl,T.n4arg,B9 _ _ _ _ _,_,rfl,x,_,dx,_,_,rfl,hx,T.c4.cl,T.n4out,Ca _ _ _ _ _,EO,fun t ht=>q t ht⟩
def qi (C:Addr):Sp:=fun vs H Q _=>X6 fun(x dx:Addr) (a1 p1 s1 x1:V)=>Y3 (vs=[.ref x]) (H x=some (.ins C dx (fU1 "fields" a1 p1 s1 x1))) (∀t,H t=none->Q (.ref t) (upd H t (.tup [.str "take",a1,p1,s1,x1])))
theorem qj (T:Txt K mg):MO P w base mg 1 T.e60 (qi T.c5.a):=by
 refine T.e60.F.rd qa fun cdv A outer s H vs Q E hr h=>?_
 obtain⟨x,dx,a1,p1,s1,x1,rfl,hx,q⟩:=h
 refine⟨_,(eO (fm (fe (eE eZ (eE (gq (pv 0) rfl) (eE (gq (pv 0) rfl) (eE (gq (pv 0) rfl) (eE (gq (pv 0) rfl) eF)))))))),?_⟩
 exact⟨_,rfl,x,_,dx,_,_,rfl,hx,T.c5.cl,T.n5at,Cc _ _ _ _,_,rfl,x,_,dx,_,_,rfl,hx,T.c5.cl,T.n5place,wQ _ _ _ _,_,rfl,x,_,dx,_,_,rfl,hx,T.c5.cl,T.n5slot,yK _ _ _ _,_,rfl,x,_,dx,_,_,rfl,hx,T.c5.cl,T.n5fields,uT _ _ _ _,AE,fun t ht=>q t ht⟩
def qk (C:Addr):Sp:=fun vs H Q _=>X6 fun(x dx:Addr) (a1 p1 s1 x1:V)=>Y3 (vs=[.ref x]) (H x=some (.ins C dx (fU1 "arms" a1 p1 s1 x1))) (∀t,H t=none->Q (.ref t) (upd H t (.tup [.str "case",a1,p1,s1,x1])))
theorem ql (T:Txt K mg):MO P w base mg 1 T.e62 (qk T.c6.a):=by
 refine T.e62.F.rd qb fun cdv A outer s H vs Q E hr h=>?_
 obtain⟨x,dx,a1,p1,s1,x1,rfl,hx,q⟩:=h
 refine⟨_,(eO (fm (fe (eE eZ (eE (gq (pv 0) rfl) (eE (gq (pv 0) rfl) (eE (gq (pv 0) rfl) (eE (gq (pv 0) rfl) eF)))))))),?_⟩
 exact⟨_,rfl,x,_,dx,_,_,rfl,hx,T.c6.cl,T.n6at,Cd _ _ _ _,_,rfl,x,_,dx,_,_,rfl,hx,T.c6.cl,T.n6place,wR _ _ _ _,_,rfl,x,_,dx,_,_,rfl,hx,T.c6.cl,T.n6slot,yL _ _ _ _,_,rfl,x,_,dx,_,_,rfl,hx,T.c6.cl,T.n6arms,yM _ _ _ _,AE,fun t ht=>q t ht⟩
def qM (C:Addr):Sp:=fun vs H Q _=>X6 fun(x dx:Addr) (a1 p1 s1 x1:V)=>Y3 (vs=[.ref x]) (H x=some (.ins C dx (fU1 "out" a1 p1 s1 x1))) (∀t,H t=none->Q (.ref t) (upd H t (.tup [.str "row",a1,p1,s1,x1])))
theorem qN (T:Txt K mg):MO P w base mg 1 T.e64 (qM T.c7.a):=by
 refine T.e64.F.rd qI fun cdv A outer s H vs Q E hr h=>?_
 obtain⟨x,dx,a1,p1,s1,x1,rfl,hx,q⟩:=h
 refine⟨_,(eO (fm (fe (eE eZ (eE (gq (pv 0) rfl) (eE (gq (pv 0) rfl) (eE (gq (pv 0) rfl) (eE (gq (pv 0) rfl) eF)))))))),?_⟩
 exact⟨_,rfl,x,_,dx,_,_,rfl,hx,T.c7.cl,T.n7at,Ce _ _ _ _,_,rfl,x,_,dx,_,_,rfl,hx,T.c7.cl,T.n7place,wU _ _ _ _,_,rfl,x,_,dx,_,_,rfl,hx,T.c7.cl,T.n7slot,yN _ _ _ _,_,rfl,x,_,dx,_,_,rfl,hx,T.c7.cl,T.n7out,Ab _ _ _ _,AE,fun t ht=>q t ht⟩
theorem iV {H:Hp} {x dx:Addr} {o:HO} (hx:H x=none) (hd:H dx=none):fG H (upd (upd H dx (.own x)) x o):=fun b u e=>by
 rw[eN (eT e hx),eN (eT e hd)];exact e
theorem Ac (p0 p1 p2 p3:Addr) (r v:V):ja "root" v (fB p0 p1 p2 p3 r)=fB p0 p1 p2 p3 v:=by
 have h1:¬("points":Str)="root":=fo
 have h2:¬("makes":Str)="root":=fo
 have h3:¬("uses":Str)="root":=fo
 have h4:¬("flows":Str)="root":=fo
 simp only[ja,fB,fJ h1,fJ h2,fJ h3,fJ h4,fY]
theorem FJ (p0 p1 p2 p3:Addr) (r:V):ja "root" r (ja "flows" (.ref p3) (ja "uses" (.ref p2) (ja "makes" (.ref p1) (ja "points" (.ref p0) []))))=fB p0 p1 p2 p3 r:=by
 have h1:¬("points":Str)="root":=fo
 have h2:¬("makes":Str)="root":=fo
 have h3:¬("uses":Str)="root":=fo
 have h4:¬("flows":Str)="root":=fo
 have h5:¬("points":Str)="flows":=fo
 have h6:¬("makes":Str)="flows":=fo
 have h7:¬("uses":Str)="flows":=fo
 have h8:¬("points":Str)="uses":=fo
 have h9:¬("makes":Str)="uses":=fo
 have h10:¬("points":Str)="makes":=fo
 simp only[ja,fB,fJ h1,fJ h2,fJ h3,fJ h4,fJ h5,fJ h6,fJ h7,fJ h8,fJ h9,fJ h10]
def ou (C:Addr):Sp:=fun vs H Q _=>X2 fun(x dx:Addr)=>Y3 (vs=[.ref x]) (H x=some (.ins C dx [])) (∀(p0 p1 p2 p3:Addr) (H':Hp),(∀a∈[p0,p1,p2,p3],H a=none)->[p0,p1,p2,p3].Nodup->H' x=some (.ins C dx (fB p0 p1 p2 p3 (.int 0)))->Ls H' [p0,p1,p2,p3] [[],[],[],[]]->(∀b o,H b=some o->b≠x->H' b=some o)->Q .non H')
theorem ox (T:Txt K mg):MO P w base mg 1 T.e65 (ou T.c8.a):=by
 refine T.e65.F.rd ot fun cdv A outer s H vs Q E hr h=>?_
 obtain⟨x,dx,rfl,hx,q⟩:=h
 refine⟨_,(eJ (gC (pv 0) (fq eF) rfl)
  (eJ (gC (pv 0) (fq eF) rfl)
  (eJ (gC (pv 0) (fq eF) rfl)
  (eJ (gC (pv 0) (fq eF) rfl)
  (eO (gC (pv 0) eK rfl)))))),?_⟩
 have z0:(0:Nat)<=sizeLine:=by decide
 refine⟨z0,fun p0 h0=>⟨_,rfl,x,_,dx,_,rfl,(by rw[eN (eT hx h0)];exact hx),T.c8.cl,T.n8points,(by show 0<1000;decide),?_⟩⟩
 refine⟨z0,fun p1 h1=>⟨_,rfl,x,_,dx,_,rfl,(by rw[eN (eT eG h1)];exact eG),T.c8.cl,T.n8makes,(by show 1<1000;decide),?_⟩⟩
 refine⟨z0,fun p2 h2=>⟨_,rfl,x,_,dx,_,rfl,(by rw[eN (eT eG h2)];exact eG),T.c8.cl,T.n8uses,gY (gY (by show 0<998;decide)),?_⟩⟩
 refine⟨z0,fun p3 h3=>⟨_,rfl,x,_,dx,_,rfl,(by rw[eN (eT eG h3)];exact eG),T.c8.cl,T.n8flows,gY (gY (gY (by show 0<997;decide))),?_⟩⟩
 refine⟨_,rfl,x,_,dx,_,rfl,eG,T.c8.cl,T.n8root,gY (gY (gY (gY (by show 0<996;decide)))),?_⟩
 have n0:x≠p0:=eT hx h0
 have n1:x≠p1:=eT eG h1
 have n2:x≠p2:=eT eG h2
 have n3:x≠p3:=eT eG h3
 have d10:p0≠p1:=eT (by rw[eN (Ne.symm n0)];exact eG) h1
 have d20:p0≠p2:=eT (by rw[eN (Ne.symm n0),eN d10,eN (Ne.symm n0)];exact eG) h2
 have d21:p1≠p2:=eT (by rw[eN (Ne.symm n1)];exact eG) h2
 have d30:p0≠p3:=eT (by rw[eN (Ne.symm n0),eN d20,eN (Ne.symm n0),eN d10,eN (Ne.symm n0)];exact eG) h3
 have d31:p1≠p3:=eT (by rw[eN (Ne.symm n1),eN d21,eN (Ne.symm n1)];exact eG) h3
 have d32:p2≠p3:=eT (by rw[eN (Ne.symm n2)];exact eG) h3
 rw[eN (Ne.symm n1),eN (Ne.symm d10)]at h1
 rw[eN (Ne.symm n2),eN (Ne.symm d21),eN (Ne.symm n2),eN (Ne.symm d20)]at h2
 rw[eN (Ne.symm n3),eN (Ne.symm d32),eN (Ne.symm n3),eN (Ne.symm d31),eN (Ne.symm n3),eN (Ne.symm d30)]at h3
 refine q p0 p1 p2 p3 _ ?_ ?_ ?_ ?_ ?_
 ·intro a ha
  simp only[ai,bf,or_false]at ha
  rcases ha with e|e|e|e<;>rw[e]<;>assumption
 ·simp only[aC,ai,bf,or_false,not_or]
  exact⟨⟨d10,d20,d30⟩,⟨d21,d31⟩,d32,fun z=>z,List.nodup_nil⟩
 ·rw[eG,FJ]
 ·refine .cons ?_ (.cons ?_ (.cons ?_ (.cons ?_ .nil)))
  ·rw[eN (Ne.symm n0),eN (Ne.symm n0),eN d30,eN (Ne.symm n0),eN d20,eN (Ne.symm n0),eN d10,eN (Ne.symm n0)];exact eG
  ·rw[eN (Ne.symm n1),eN (Ne.symm n1),eN d31,eN (Ne.symm n1),eN d21,eN (Ne.symm n1)];exact eG
  ·rw[eN (Ne.symm n2),eN (Ne.symm n2),eN d32,eN (Ne.symm n2)];exact eG
  ·rw[eN (Ne.symm n3),eN (Ne.symm n3)];exact eG
 ·intro b o e hb
  rw[eN hb,eN hb,eN (eT e h3),eN hb,eN (eT e h2),eN hb,eN (eT e h1),eN hb,eN (eT e h0)]
  exact e
def ke (C:Addr):Sp:=fun vs H Q _=>X9 fun(x dx p0 p1 p2 p3:Addr) (r v:V) (xs:List V)=>Y5 (vs=[.ref x,v]) (H x=some (.ins C dx (fB p0 p1 p2 p3 r))) (H p0=some (.lst xs)) (xs.length<sizeLine) (Q (.int xs.length) (upd H p0 (.lst (xs++[v]))))
theorem gj (T:Txt K mg):MO P w base mg 1 T.e66 (ke T.c8.a):=by
 refine T.e66.F.rd qJ fun cdv A outer s H vs Q E hr h=>?_
 obtain⟨x,dx,p0,p1,p2,p3,r,v,xs,rfl,hx,h0,hl,q⟩:=h
 refine⟨_,(eJ (eW (gu dD dE dF fh (gq (pv 0) rfl) (eE (pv 1) eF)))
  (eO (fm (fC AG (fD fz rfl T.z_len gU (eE (gq (pv 0) rfl) eF)) eK)))),?_⟩
 refine⟨_,rfl,x,_,dx,_,_,rfl,hx,T.c8.cl,T.n8points,qd _ _ _ _ _,.inl ⟨rfl,_,SqL.of h0⟩,_,rfl,p0,_,_,rfl,rfl,h0,hl,?_⟩
 have hx2:(upd H p0 (.lst (xs++[v]))) x=some (.ins T.c8.a dx (fB p0 p1 p2 p3 r)):=by rw[eN (jh hx h0 (fun z=>nomatch z))];exact hx
 refine⟨_,rfl,x,_,dx,_,_,rfl,hx2,T.c8.cl,T.n8points,qd _ _ _ _ _,p0,_,rfl,.inl (SqL.of eG),_,_,rfl,rfl,?_⟩
 show Q (V.int (((xs++[v]).length:Int)-1)) _
 rw[aM,show(((xs.length+[v].length:Nat):Int)-1)=(xs.length:Int) by simp]
 exact q
def kH (C M:Addr):Sp:=fun vs H Q _=>X12 fun(x dx p0 p1 p2 p3:Addr) (r s f a p:V) (xs:List V)=>Y5 (vs=[.ref x,s,f,a,p]) (H x=some (.ins C dx (fB p0 p1 p2 p3 r))) (H p1=some (.lst xs)) (xs.length<sizeLine) (∀m dm,H m=none->H dm=none->Q .non (upd (upd (upd H dm (.own m)) m (.ins M dm (fM s f a p))) p1 (.lst (xs++[.ref m]))))
theorem gh (T:Txt K mg):MO P w base mg 3 T.e67 (kH T.c8.a T.c1.a):=by
 have gE53:=oV (P:=P) (w:=w) (base:=base) T
 refine T.e67.F.rd sk fun cdv A outer s H vs Q E hr h=>?_
 obtain⟨x,dx,p0,p1,p2,p3,r,sh,f,a,p,xs,rfl,hx,h0,hl,q⟩:=h
 refine⟨_,(eO (eW (gu dD dE dF fh (gq (pv 0) rfl) (eE (jj T.mk1 gE53 hr.m rfl T.c1.m T.e53.b .nil fH (eE (pv 1) (eE (pv 2) (eE (pv 3) (eE (pv 4) eF))))) eF)))),?_⟩
 refine⟨_,rfl,x,_,dx,_,_,rfl,hx,T.c8.cl,T.n8makes,vF _ _ _ _ _,.inl ⟨rfl,_,SqL.of h0⟩,_,rfl,_,rfl,_,rfl,_,rfl,fun m dm hm hdm nm=>?_⟩
 refine⟨m,dm,_,_,_,_,rfl,eG,rfl,?_⟩
 rw[f7]
 have h1:(upd (upd H dm (.own m)) m (.ins T.c1.a dm (fM sh f a p))) p1=some (.lst xs):=iV hm hdm _ _ h0
 exact⟨p1,_,_,rfl,rfl,h1,hl,q m dm hm hdm⟩
def lE (C:Addr):Sp:=fun vs H Q _=>X9 fun(x dx p0 p1 p2 p3:Addr) (r v:V) (xs:List V)=>Y5 (vs=[.ref x,v]) (H x=some (.ins C dx (fB p0 p1 p2 p3 r))) (H p2=some (.lst xs)) (xs.length<sizeLine) (Q .non (upd H p2 (.lst (xs++[v]))))
theorem g0 (T:Txt K mg):MO P w base mg 1 T.e68 (lE T.c8.a):=by
 refine T.e68.F.rd tO fun cdv A outer s H vs Q E hr h=>?_
 obtain⟨x,dx,p0,p1,p2,p3,r,v,xs,rfl,hx,h0,hl,q⟩:=h
 refine⟨_,(eO (eW (gu dD dE dF fh (gq (pv 0) rfl) (eE (pv 1) eF)))),?_⟩
 exact⟨_,rfl,x,_,dx,_,_,rfl,hx,T.c8.cl,T.n8uses,yJ _ _ _ _ _,.inl ⟨rfl,_,SqL.of h0⟩,_,rfl,p2,_,_,rfl,rfl,h0,hl,q⟩
def nA (C:Addr):Sp:=fun vs H Q _=>X10 fun(x dx p0 p1 p2 p3:Addr) (r v u:V) (xs:List V)=>Y5 (vs=[.ref x,v,u]) (H x=some (.ins C dx (fB p0 p1 p2 p3 r))) (H p3=some (.lst xs)) (xs.length<sizeLine) (∀t,H t=none->Q .non (upd (upd H t (.tup [v,u])) p3 (.lst (xs++[.ref t]))))
theorem hV (T:Txt K mg):MO P w base mg 1 T.e69 (nA T.c8.a):=by
 refine T.e69.F.rd sq fun cdv A outer s H vs Q E hr h=>?_
 obtain⟨x,dx,p0,p1,p2,p3,r,v,u,xs,rfl,hx,h0,hl,q⟩:=h
 refine⟨_,(eO (eW (gu dD dE dF fh (gq (pv 0) rfl) (eE (fe (eE (pv 1) (eE (pv 2) eF))) eF)))),?_⟩
 refine⟨_,rfl,x,_,dx,_,_,rfl,hx,T.c8.cl,T.n8flows,vG _ _ _ _ _,.inl ⟨rfl,_,SqL.of h0⟩,_,rfl,_,rfl,jO,fun t ht=>?_⟩
 exact⟨p3,_,_,rfl,rfl,eL ht _ _ _ h0,hl,q t ht⟩
def qm (C:Addr):Sp:=fun vs H Q _=>X8 fun(x dx p0 p1 p2 p3:Addr) (r v:V)=>Y3 (vs=[.ref x,v]) (H x=some (.ins C dx (fB p0 p1 p2 p3 r))) (Q .non (upd H x (.ins C dx (fB p0 p1 p2 p3 v))))
theorem qo (T:Txt K mg):MO P w base mg 1 T.e70 (qm T.c8.a):=by
 refine T.e70.F.rd qc fun cdv A outer s H vs Q E hr h=>?_
 obtain⟨x,dx,p0,p1,p2,p3,r,v,rfl,hx,q⟩:=h
 refine⟨_,(eO (gC (pv 0) (pv 1) rfl)),?_⟩
 refine⟨_,rfl,_,rfl,x,_,dx,_,rfl,hx,T.c8.cl,T.n8root,(by show 5<1000;decide),?_⟩
 rw[Ac]
 exact q
abbrev Hm:=Str×Int
def hmD (h:Hm):Dt:= .tup [.flat (.str h.1),.flat (.int h.2)]
inductive Ro
 |num (n:Int)
 |name (w:Str)
 |fn (w:Str) (k:Int)
 |tag (w:Str) (k:Int)
 |lt (w:Str) (a b:Int)
 |get (k:Int) (w:Str)
 |rcd (l:List (Str×Int))
 |case (k:Int) (l:List (Str×Str×Int))
 |row (ks:List Int)
 |op (s:Str) (ks:List Int)
def kD (k:Int):Dt:= .flat (.int k)
def sD (s:Str):Dt:= .flat (.str s)
def fdD (p:Str×Int):Dt:= .tup [sD p.1,kD p.2]
def amD (p:Str×Str×Int):Dt:= .tup [sD p.1,sD p.2.1,kD p.2.2]
def Ro.s:Ro->Str
 | .num _=>"num"
 | .name _=>"name"
 | .fn _ _=>"fn"
 | .tag _ _=>"tag"
 | .lt _ _ _=>"let"
 | .get _ _=>"get"
 | .rcd _=>"rec"
 | .case _ _=>"case"
 | .row _=>"row"
 | .op s _=>s
def Ro.r:Ro->List Dt
 | .num n=>[kD n]
 | .name w=>[sD w]
 | .fn w k=>[sD w,kD k]
 | .tag w k=>[sD w,kD k]
 | .lt w a b=>[sD w,kD a,kD b]
 | .get k w=>[kD k,sD w]
 | .rcd l=>[.tup (l.map fdD)]
 | .case k l=>[kD k,.tup (l.map amD)]
 | .row ks=>[.tup (ks.map kD)]
 | .op _ ks=>ks.map kD
def Ro.d (ρ:Ro):Dt:= .tup (sD ρ.s::ρ.r)
def atZ {α:Type} (l:List α):Int->Option α
 | .ofNat k=>l[k]?
 | .negSucc _=>none
structure Ls where
 D:Bd
 held:Int->Option Int
 st:Int->Option Int
def Ls.n (s:Ls):Int:=(s.D.pts.length:Int)
def Ls.pt (s:Ls) (p:Int):Ls:={s with D:={s.D with pts:=s.D.pts++[p]}}
def Ls.mk' (s:Ls) (m:Mkg):Ls:={s with D:={s.D with mks:=s.D.mks++[m]}}
def Ls.us (s:Ls) (u:Us):Ls:={s with D:={s.D with uss:=s.D.uss++[u]}}
def Ls.fl (s:Ls) (p q:Int):Ls:={s with D:={s.D with fls:=s.D.fls++[(p,q)]}}
def put (h:Int->Option Int) (k v:Int):Int->Option Int:=fun x=>if x=k then some v else h x
def Ls.hold (s:Ls) (k v:Int):Ls:={s with held:=put s.held k v}
def Ls.begin (s:Ls) (k v:Int):Ls:={s with st:=put s.st k v}
abbrev Lf:=Int->Ls->Option (Int×Ls)
def qO (L:Lf):List (Str×Int)->List (Str×Int)->Ls->Option (List (Str×Int)×Ls)
 |[],acc,s=>some (acc,s)
 |p::l,acc,s=>match L p.2 s with
  |some (q,s)=>qO L l (acc++[(p.1,q)]) s
  |none=>none
def vH (L:Lf) (p own:Int):List (Str×Str×Int)->List (Str×Int)->Ls->Option (List (Str×Int)×Ls)
 |[],acc,s=>some (acc,s)
 |a::l,acc,s=>match L a.2.2 ((s.pt p).hold a.2.2 s.n)with
  |some (q,s')=>vH L p own l (acc++[(a.1,s.n)]) (s'.fl q own)
  |none=>none
def sT (L:Lf) (th:Int):List Int->Ls->Option Ls
 |[],s=>some s
 |k::l,s=>match L k s with
  |some (q,s)=>sT L th l (s.fl q th)
  |none=>none
def wV (L:Lf) (roots:List Nat) (d:Int) (s:Ls):Option (Int×Ls):=match atZ roots d with
 |some r=>match L (r:Int) ((s.pt r).begin d s.n)with
  |some (q,s')=>some (s.n,s'.fl q s.n)
  |none=>none
 |none=>none
def inF (roots:List Nat) (p d:Int):Bool:=match atZ roots (d+ 1)with
 |some r=>decide (p<(r:Int))
 |none=>true
def iW (L:Lf) (roots:List Nat) (h:Hm) (p:Int) (s:Ls):Option (Int×Ls):=
 if h.1="let" then L h.2 s
 else if h.1="def" then if inF roots p h.2 then(s.st h.2).map fun q=>(q,s)else wV L roots h.2 s
 else(s.held h.2).map fun q=>(q,s)
def jQ (L:Lf) (a b p:Int) (s:Ls):Option Ls:=match L a s with
 |some (x,s)=>match L b s with
  |some (y,s)=>some ((s.us (.num x p 0)).us (.num y p 1))
  |none=>none
 |none=>none
def mkN (own p:Int):Mkg:=⟨"num",.tup [],own,p⟩
def mkR (th own p:Int):Mkg:=⟨"row",.tup [kD th],own,p⟩
def hX (L:Lf) (roots:List Nat) (ho:Option Hm) (p own:Int) (s:Ls):Ro->Option Ls
 | .num _=>some (s.mk' (mkN own p))
 | .name _=>match ho with
  |some h=>match iW L roots h p s with
   |some (q,s)=>some (s.fl q own)
   |none=>none
  |none=>none
 | .fn _ k=>match L k ((s.pt p).hold k s.n)with
  |some (q,s')=>some (s'.mk' ⟨"fn",.tup [kD s.n,kD q],own,p⟩)
  |none=>none
 | .lt _ a b=>match L a s with
  |some (_,s)=>match L b s with
   |some (q,s)=>some (s.fl q own)
   |none=>none
  |none=>none
 | .rcd l=>match qO L l [] s with
  |some (fs,s)=>some (s.mk' ⟨"rec",prD fs,own,p⟩)
  |none=>none
 | .get k w=>match L k s with
  |some (q,s)=>some (s.us (.take q p 0 [(w,own)]))
  |none=>none
 | .tag w k=>match L k s with
  |some (q,s)=>some (s.mk' ⟨"tag",.tup [sD w,kD q],own,p⟩)
  |none=>none
 | .case k l=>match L k s with
  |some (q,s)=>match vH L p own l [] s with
   |some (as,s)=>some (s.us (.case q p 0 as))
   |none=>none
  |none=>none
 | .row ks=>match sT L s.n ks (s.pt p)with
  |some s'=>some (s'.mk' (mkR s.n own p))
  |none=>none
 | .op o ks=>match ks with
  |[a]=>if o="size" then match L a (s.pt p)with
    |some (q,s')=>some ((s'.us (.row q p 0 s.n)).mk' (mkN own p))
    |none=>none
   else none
  |[a,b]=>if o="call" then match L a s with
    |some (x,s)=>match L b s with
     |some (y,s)=>some (s.us (.call x p 0 y own))
     |none=>none
    |none=>none
   else if o="join" then match L a (s.pt p)with
    |some (x,s1)=>match L b s1 with
     |some (y,s2)=>some (((s2.us (.row x p 0 s.n)).us (.row y p 1 s.n)).mk' (mkR s.n own p))
     |none=>none
    |none=>none
   else if o="less" then match jQ L a b p (s.pt p)with
    |some s'=>some (((s'.mk' ⟨"rec",.tup [],s.n,p⟩).mk' ⟨"tag",.tup [sD "yes",kD s.n],own,p⟩).mk' ⟨"tag",.tup [sD "no",kD s.n],own,p⟩)
    |none=>none
   else if o="add"\/o="sub" then match jQ L a b p s with
    |some s'=>some (s'.mk' (mkN own p))
    |none=>none
   else none
  |[a,b,c]=>if o="at" then match L a s with
    |some (x,s)=>match L b s with
     |some (y,s)=>match L c s with
      |some (z,s)=>some (((s.us (.row x p 0 own)).us (.num y p 1)).fl z own)
      |none=>none
     |none=>none
    |none=>none
   else none
  |_=>none
def jK (ρs:List Ro) (roots:List Nat) (ho:Nat->Option Hm):Nat->Lf
 |0,_,_=>none
 |f+ 1,p,s=>match atZ ρs p with
  |some ρ=>match hX (jK ρs roots ho f) roots (ho p.toNat) p s.n (s.pt p) ρ with
   |some s'=>some (s.n,s')
   |none=>none
  |none=>none
def fLy (p h b hd sd:Addr):List (Str×V):=[("program",.ref p),("homes",.ref h),("papers",.non),("board",.ref b),("held",.ref hd),("starts",.ref sd)]
theorem oy {p h b hd sd:Addr}:(fLy p h b hd sd).lookup ("program":Str)=some (.ref p)/\(fLy p h b hd sd).lookup ("homes":Str)=some (.ref h)/\(fLy p h b hd sd).lookup ("papers":Str)=some .non/\(fLy p h b hd sd).lookup ("board":Str)=some (.ref b)/\(fLy p h b hd sd).lookup ("held":Str)=some (.ref hd)/\(fLy p h b hd sd).lookup ("starts":Str)=some (.ref sd):=⟨by kernel_rfl,by kernel_rfl,by kernel_rfl,by kernel_rfl,by kernel_rfl,by kernel_rfl⟩
theorem g9 {p h b hd sd:Addr} {n:Str} (hn:((["program","homes","papers","board","held","starts"]:List Str).all fun x=>!(n==x))=true):(fLy p h b hd sd).lookup n=none:=by
 simp only[aT,List.all_nil,Bool.and_true,dM,Bool.not_eq_true']at hn
 obtain⟨h1,h2,h3,h4,h5,h6⟩:=hn
 simp only[fLy,aW,h1,h2,h3,h4,h5,h6,List.lookup_nil]
def DkI (H:Hp) (a:Addr) (g:Int->Option Int) (n:Nat):Prop:=∃kvs:List (Key×V),H a=some (.dK kvs)/\kvs.length<=n/\∀k:Int,kN kvs (Sum.inl k)=(g k).map V.int
structure La where
 l:Addr
 lx:Addr
 p:Addr
 h:Addr
 B:Ad
 hd:Addr
 sd:Addr
def La.ch (A:La):List Addr:=A.B.ls++[A.hd,A.sd]
structure Lm (CL:Addr) (c:Cs) (H:Hp) (A:La) (s:Ls):Prop where
 o:H A.l=some (.ins CL A.lx (fLy A.p A.h A.B.b A.hd A.sd))
 b:Bw c H A.B (.int 0) s.D
 hd:DkI H A.hd s.held s.D.pts.length
 sd:DkI H A.sd s.st s.D.pts.length
 ne:A.hd≠A.sd
def FL (A:La) (H H':Hp):Prop:=∀a o,H a=some o->a∉A.ch->H' a=some o
theorem FL.refl {A:La} {H:Hp}:FL A H H:=fun _ _ e _=>e
theorem FL.trans {A:La} {H H1 H2:Hp} (f:FL A H H1) (g:FL A H1 H2):FL A H H2:=fun a o e n=>g a o (f a o e n) n
theorem FL.same {A:La} {H H':Hp} (S:fG H H'):FL A H H':=fun a o e _=>S a o e
structure Sz (n:Nat) (s:Ls):Prop where
 p:s.D.pts.length<=n
 m:s.D.mks.length<=n
 u:s.D.uss.length<=n
 f:s.D.fls.length<=n
section
variable {CL:Addr} {c:Cs} {H H':Hp} {A:La} {s:Ls}
theorem Lm.ins (M:Lm CL c H A s) {a:Addr} {o:HO} (e:H a=some o) (hl:∀xs,o≠ .lst xs) (hk:∀kvs,o≠ .dK kvs):a∉A.ch:=fun z=>by
 obtain⟨_,b,⟨k1,d1,_⟩,⟨k2,d2,_⟩,_⟩:=M
 obtain⟨_,e0,⟨_,m1,_⟩,⟨_,u1,_⟩,⟨_,g1,_⟩,_⟩:=b
 simp only[La.ch,Ad.ls,aQ,List.nil_append,ai,bf,or_false]at z
 rcases z with rfl|rfl|rfl|rfl|rfl|rfl
 ·rw[e0]at e;exact hl _ (cf.inj e).symm
 ·rw[m1]at e;exact hl _ (cf.inj e).symm
 ·rw[u1]at e;exact hl _ (cf.inj e).symm
 ·rw[g1]at e;exact hl _ (cf.inj e).symm
 ·rw[d1]at e;exact hk _ (cf.inj e).symm
 ·rw[d2]at e;exact hk _ (cf.inj e).symm
theorem Lm.tk (M:Lm CL c H A s) (F:FL A H H'):TK H H':=fun a xs e=>F a _ e (M.ins e (fun _ z=>nomatch z) fun _ z=>nomatch z)
theorem Lm.same (M:Lm CL c H A s) (S:fG H H'):Lm CL c H' A s:=by
 obtain⟨o,b,⟨k1,d1,r1⟩,⟨k2,d2,r2⟩,ne⟩:=M
 exact⟨S _ _ o,b.same S,⟨k1,S _ _ d1,r1⟩,⟨k2,S _ _ d2,r2⟩,ne⟩
theorem Lm.nl (M:Lm CL c H A s) {a:Addr} {xs:List V} {o:HO} (e:H a=some (.lst xs)):(upd H a o) A.l=some (.ins CL A.lx (fLy A.p A.h A.B.b A.hd A.sd))/\(∃kvs,(upd H a o) A.hd=some (.dK kvs)/\kvs.length<=s.D.pts.length/\∀k:Int,kN kvs (Sum.inl k)=(s.held k).map V.int)/\∃kvs,(upd H a o) A.sd=some (.dK kvs)/\kvs.length<=s.D.pts.length/\∀k:Int,kN kvs (Sum.inl k)=(s.st k).map V.int:=by
 obtain⟨oo,b,⟨k1,d1,r1⟩,⟨k2,d2,r2⟩,ne⟩:=M
 exact⟨by rw[eN (jh oo e (fun z=>nomatch z))];exact oo,⟨k1,by rw[eN (jh d1 e (fun z=>nomatch z))];exact d1,r1⟩,k2,by rw[eN (jh d2 e (fun z=>nomatch z))];exact d2,r2⟩
theorem wW {a:Addr} {o:HO} (h:a∈A.ch):FL A H (upd H a o):=fun b u e n=>by rw[eN (fun z=>n (by rw[z];exact h))];exact e
theorem vI {Q:VK} {p:Int} (M:Lm CL c H A s) (hb:s.D.pts.length<10000000) (q:∀H',Lm CL c H' A (s.pt p)->FL A H H'->DkI H' A.hd s.held s.D.pts.length->DkI H' A.sd s.st s.D.pts.length->Q (.int s.n) H'):ke c.B [.ref A.B.b,.int p] H Q E0:=by
 have sl:=sizeLine_eq
 obtain⟨n1,⟨k1,d1,l1,r1⟩,k2,d2,l2,r2⟩:=M.nl (o:= .lst (s.D.pts.map V.int++[.int p])) M.b.e0
 refine⟨_,_,_,_,_,_,_,_,_,rfl,M.b.b,M.b.e0,by rw[aA];lia,?_⟩
 rw[aA]
 have lp:(s.D.pts++[p]).length=s.D.pts.length+ 1:=by rw[aM];rfl
 exact q _ ⟨n1,M.b.pt p,⟨k1,d1,by show _<=(s.D.pts++[p]).length;lia,r1⟩,⟨k2,d2,by show _<=(s.D.pts++[p]).length;lia,r2⟩,M.ne⟩ (wW (by simp[La.ch,Ad.ls])) ⟨k1,d1,l1,r1⟩ ⟨k2,d2,l2,r2⟩
theorem yO {Q:VK} {p:Int} (M:Lm CL c H A s) (hb:s.D.pts.length<10000000) (q:∀H',Lm CL c H' A (s.pt p)->FL A H H'->Q (.int s.n) H'):ke c.B [.ref A.B.b,.int p] H Q E0:=vI M hb fun H' M' F' _ _=>q H' M' F'
theorem oz {Q:VK} {p r:Int} (M:Lm CL c H A s) (hb:s.D.fls.length<10000000) (q:∀H',Lm CL c H' A (s.fl p r)->FL A H H'->Q .non H'):nA c.B [.ref A.B.b,.int p,.int r] H Q E0:=by
 have sl:=sizeLine_eq
 obtain⟨fv,g1,g2⟩:=M.b.e3
 have lf:=g2.length
 rw[aA]at lf
 refine⟨_,_,_,_,_,_,_,_,_,fv,rfl,M.b.b,g1,by lia,fun t ht=>?_⟩
 have S1:=eL ht (.tup [.int p,.int r])
 have M1:=M.same S1
 have i1:Im (upd H t (.tup [.int p,.int r])) (.ref t) (flD (p,r)):= .tup eG (.cons (.flat rfl) (.cons (.flat rfl) .nil))
 obtain⟨n1,r1,r2⟩:=M1.nl (o:= .lst (fv++[.ref t])) (S1 _ _ g1)
 exact q _ ⟨n1,M1.b.fl (S1 _ _ g1) i1,r1,r2,M.ne⟩ ((FL.same S1).trans (wW (by simp[La.ch,Ad.ls])))
theorem D5 {Q:VK} {x:V} {u:Us} (M:Lm CL c H A s) (hb:s.D.uss.length<10000000) (hu:pM c H x u) (q:∀H',Lm CL c H' A (s.us u)->FL A H H'->Q .non H'):lE c.B [.ref A.B.b,x] H Q E0:=by
 have sl:=sizeLine_eq
 obtain⟨uv,g1,g2⟩:=M.b.e2
 have lf:=g2.length
 obtain⟨n1,r1,r2⟩:=M.nl (o:= .lst (uv++[x])) g1
 exact⟨_,_,_,_,_,_,_,_,uv,rfl,M.b.b,g1,by lia,q _ ⟨n1,M.b.us g1 hu,r1,r2,M.ne⟩ (wW (by simp[La.ch,Ad.ls]))⟩
theorem Cg {Q:VK} {f:V} {m:Mkg} (M:Lm CL c H A s) (hb:s.D.mks.length<10000000) (hf:Im H f m.f) (hd:lX m.f<=2) (ho:okD m.f) (q:∀H',Lm CL c H' A (s.mk' m)->FL A H H'->Q .non H'):kH c.B c.M [.ref A.B.b,.str m.s,f,.int m.a,.int m.p] H Q E0:=by
 have sl:=sizeLine_eq
 obtain⟨mv,g1,g2⟩:=M.b.e1
 have lf:=g2.length
 refine⟨_,_,_,_,_,_,_,_,_,_,_,mv,rfl,M.b.b,g1,by lia,fun a da ha hda=>?_⟩
 have S1:fG H (upd (upd H da (.own a)) a (.ins c.M da (fM (.str m.s) f (.int m.a) (.int m.p)))):=iV ha hda
 have M1:=M.same S1
 have x1:rX c (upd (upd H da (.own a)) a (.ins c.M da (fM (.str m.s) f (.int m.a) (.int m.p)))) (.ref a) m:=⟨a,da,f,rfl,eG,hf.mono (fG.tk S1),hd,ho⟩
 obtain⟨n1,r1,r2⟩:=M1.nl (o:= .lst (mv++[.ref a])) (S1 _ _ g1)
 exact q _ ⟨n1,M1.b.addM (S1 _ _ g1) x1,r1,r2,M.ne⟩ ((FL.same S1).trans (wW (by simp[La.ch,Ad.ls])))
end
structure Le (s s':Ls):Prop where
 p:s.D.pts.length<=s'.D.pts.length
 m:s.D.mks.length<=s'.D.mks.length
 u:s.D.uss.length<=s'.D.uss.length
 f:s.D.fls.length<=s'.D.fls.length
theorem Le.refl (s:Ls):Le s s:=⟨bX _,bX _,bX _,bX _⟩
theorem Le.trans {a b c:Ls} (h:Le a b) (k:Le b c):Le a c:=⟨bU h.p k.p,bU h.m k.m,bU h.u k.u,bU h.f k.f⟩
theorem Le.sz {a b:Ls} {n:Nat} (h:Le a b) (k:Sz n b):Sz n a:=⟨bU h.p k.p,bU h.m k.m,bU h.u k.u,bU h.f k.f⟩
theorem ES {α:Type} (l:List α) (a:α):l.length<=(l++[a]).length:=by rw[aM];lia
section
variable {s s':Ls}
theorem Le.pt {p:Int}:Le s (s.pt p):=⟨ES _ _,bX _,bX _,bX _⟩
theorem Le.mk' {p:Mkg}:Le s (s.mk' p):=⟨bX _,ES _ _,bX _,bX _⟩
theorem Le.us {p:Us}:Le s (s.us p):=⟨bX _,bX _,ES _ _,bX _⟩
theorem Le.fl {p q:Int}:Le s (s.fl p q):=⟨bX _,bX _,bX _,ES _ _⟩
theorem Le.ho {p q:Int}:Le s (s.hold p q):=⟨bX _,bX _,bX _,bX _⟩
theorem Le.be {p q:Int}:Le s (s.begin p q):=⟨bX _,bX _,bX _,bX _⟩
end
def Lmo (L:Lf):Prop:=∀p s q s',L p s=some (q,s')->Le s s'
section
variable {L:Lf} (hL:Lmo L)
include hL
theorem L1 {p:Int} {s:Ls} {α:Type} {g:Int->Ls->Option α} {a:α} (h:(match L p s with|some (q,s)=>g q s|none=>none)=some a):∃q s1,L p s=some (q,s1)/\g q s1=some a/\Le s s1:=by
 cases e:L p s with
 |none=>rw[e]at h;cases h
 |some z=>obtain⟨q,s1⟩:=z;rw[e]at h;exact⟨q,s1,rfl,h,hL _ _ _ _ e⟩
theorem tV:∀{l acc:List (Str×Int)} {s:Ls} {r:List (Str×Int)×Ls},qO L l acc s=some r->Le s r.2/\r.1.length=acc.length+l.length
 |[],acc,s,r,h=>by cases h;exact⟨Le.refl _,rfl⟩
 |p::l,acc,s,r,h=>by
  obtain⟨q,s1,_,h2,l1⟩:=L1 hL h
  obtain⟨a,b⟩:=tV h2
  exact⟨l1.trans a,by rw[b,aM,aU,ax];lia⟩
theorem vJ {p own:Int}:∀{l:List (Str×Str×Int)} {acc:List (Str×Int)} {s:Ls} {r:List (Str×Int)×Ls},vH L p own l acc s=some r->Le s r.2/\r.1.length=acc.length+l.length
 |[],acc,s,r,h=>by cases h;exact⟨Le.refl _,rfl⟩
 |a::l,acc,s,r,h=>by
  obtain⟨q,s1,_,h2,l1⟩:=L1 hL h
  obtain⟨x,b⟩:=vJ h2
  exact⟨((Le.pt.trans Le.ho).trans l1).trans (Le.fl.trans x),by rw[b,aM,aU,ax];lia⟩
theorem rp {th:Int}:∀{l:List Int} {s s':Ls},sT L th l s=some s'->Le s s'
 |[],s,s',h=>by cases h;exact Le.refl _
 |k::l,s,s',h=>by
  obtain⟨q,s1,_,h2,l1⟩:=L1 hL h
  exact l1.trans (Le.fl.trans (rp h2))
theorem yP {a b p:Int} {s s':Ls} (h:jQ L a b p s=some s'):Le s s':=by
 obtain⟨x,s1,_,h,l1⟩:=L1 hL h
 obtain⟨y,s2,_,h,l2⟩:=L1 hL h
 cases h
 exact(l1.trans l2).trans (Le.us.trans Le.us)
theorem D7 {roots:List Nat} {d:Int} {s:Ls} {r:Int×Ls} (h:wV L roots d s=some r):Le s r.2:=by
 unfold wV at h
 cases e:atZ roots d with
 |none=>rw[e]at h;cases h
 |some z=>
  rw[e]at h
  obtain⟨q,s1,_,h,l1⟩:=L1 hL h
  cases h
  exact((Le.pt.trans Le.be).trans l1).trans Le.fl
theorem Ae {roots:List Nat} {h0:Hm} {p:Int} {s:Ls} {r:Int×Ls} (h:iW L roots h0 p s=some r):Le s r.2:=by
 unfold iW at h
 split at h
 ·exact hL _ _ _ _ h
 ·split at h
  ·split at h
   ·obtain⟨q,_,rfl⟩:=cm.mp h;exact Le.refl _
   ·exact D7 hL h
  ·obtain⟨q,_,rfl⟩:=cm.mp h;exact Le.refl _
theorem kf {roots:List Nat} {ho:Option Hm} {p own:Int} {s s':Ls} {ρ:Ro} (h:hX L roots ho p own s ρ=some s'):Le s s':=by
 cases ρ with
 |num n=>cases h;exact Le.mk'
 |name w=>
  cases ho with
  |none=>cases h
  |some h0=>
   have h:(match iW L roots h0 p s with|some (q,s)=>some (s.fl q own)|none=>none)=some s':=h
   cases e:iW L roots h0 p s with
   |none=>rw[e]at h;cases h
   |some z=>rw[e]at h;cases h;exact(Ae hL e).trans Le.fl
 |fn w k=>
  obtain⟨q,s1,_,h,l1⟩:=L1 hL h
  cases h
  exact((Le.pt.trans Le.ho).trans l1).trans Le.mk'
 |lt w a b=>
  obtain⟨_,s1,_,h,l1⟩:=L1 hL h
  obtain⟨q,s2,_,h,l2⟩:=L1 hL h
  cases h
  exact(l1.trans l2).trans Le.fl
 |rcd l=>
  have h:(match qO L l [] s with|some (fs,s)=>some (s.mk' ⟨"rec",prD fs,own,p⟩)|none=>none)=some s':=h
  cases e:qO L l [] s with
  |none=>rw[e]at h;cases h
  |some z=>rw[e]at h;cases h;exact(tV hL e).1.trans Le.mk'
 |get k w=>
  obtain⟨q,s1,_,h,l1⟩:=L1 hL h
  cases h
  exact l1.trans Le.us
 |tag w k=>
  obtain⟨q,s1,_,h,l1⟩:=L1 hL h
  cases h
  exact l1.trans Le.mk'
 |case k l=>
  obtain⟨q,s1,_,h,l1⟩:=L1 hL h
  cases e:vH L p own l [] s1 with
  |none=>rw[e]at h;cases h
  |some z=>rw[e]at h;cases h;exact(l1.trans (vJ hL e).1).trans Le.us
 |row ks=>
  have h:(match sT L s.n ks (s.pt p)with|some s2=>some (s2.mk' (mkR s.n own p))|none=>none)=some s':=h
  cases e:sT L s.n ks (s.pt p)with
  |none=>rw[e]at h;cases h
  |some z=>rw[e]at h;cases h;exact(Le.pt.trans (rp hL e)).trans Le.mk'
 |op o ks=>
  match ks,h with
  |[],h=>cases h
  |[a],h=>
   simp only[hX]at h
   split at h
   ·obtain⟨q,s1,_,h,l1⟩:=L1 hL h
    cases h
    exact(Le.pt.trans l1).trans (Le.us.trans Le.mk')
   ·cases h
  |[a,b],h=>
   simp only[hX]at h
   split at h
   ·obtain⟨x,s1,_,h,l1⟩:=L1 hL h
    obtain⟨y,s2,_,h,l2⟩:=L1 hL h
    cases h
    exact(l1.trans l2).trans Le.us
   ·split at h
    ·obtain⟨x,s1,_,h,l1⟩:=L1 hL h
     obtain⟨y,s2,_,h,l2⟩:=L1 hL h
     cases h
     exact((Le.pt.trans l1).trans l2).trans ((Le.us.trans Le.us).trans Le.mk')
    ·split at h
     ·cases e:jQ L a b p (s.pt p)with
      |none=>rw[e]at h;cases h
      |some z=>rw[e]at h;cases h;exact(Le.pt.trans (yP hL e)).trans ((Le.mk'.trans Le.mk').trans Le.mk')
     ·split at h
      ·cases e:jQ L a b p s with
       |none=>rw[e]at h;cases h
       |some z=>rw[e]at h;cases h;exact(yP hL e).trans Le.mk'
      ·cases h
  |[a,b,c],h=>
   simp only[hX]at h
   split at h
   ·obtain⟨x,s1,_,h,l1⟩:=L1 hL h
    obtain⟨y,s2,_,h,l2⟩:=L1 hL h
    obtain⟨z,s3,_,h,l3⟩:=L1 hL h
    cases h
    exact((l1.trans l2).trans l3).trans ((Le.us.trans Le.us).trans Le.fl)
   ·cases h
  |_::_::_::_::_,h=>cases h
end
theorem f6 {ρs:List Ro} {roots:List Nat} {ho:Nat->Option Hm}:∀f,Lmo (jK ρs roots ho f)
 |0,p,s,q,s',h=>by cases h
 |f+ 1,p,s,q,s',h=>by
  unfold jK at h
  cases e:atZ ρs p with
  |none=>rw[e]at h;cases h
  |some ρ=>
   rw[e]at h
   have h:(match hX (jK ρs roots ho f) roots (ho p.toNat) p s.n (s.pt p) ρ with|some s2=>some (s.n,s2)|none=>none)=some (q,s'):=h
   cases e2:hX (jK ρs roots ho f) roots (ho p.toNat) p s.n (s.pt p) ρ with
   |none=>rw[e2]at h;cases h
   |some s2=>rw[e2]at h;cases h;exact Le.pt.trans (kf (f6 f) e2)
def hoD:Option Hm->Dt
 |none=> .flat .non
 |some h=>hmD h
theorem Ea {f:Str} {v:V} {r:List (Str×V)}:ay f ((f,v)::r)=some v:=by
 rw[aW,show(f==f)=true by simp]
theorem Ci {f g:Str} {v:V} {r:List (Str×V)} (h:(f==g)=false):ay f ((g,v)::r)=ay f r:=by
 rw[aW,h]
def fP (n r w:Addr):List (Str×V):=[("names",.ref n),("roots",.ref r),("rows",.ref w)]
theorem su (n r w:Addr):(fP n r w).lookup ("roots":Str)=some (.ref r):=(Ci fo).trans Ea
theorem Cj (n r w:Addr):(fP n r w).lookup ("rows":Str)=some (.ref w):=(Ci fo).trans ((Ci fo).trans Ea)
def nI (k:Nat):V:= .int (k:Int)
structure PrA (C:Addr) (H:Hp) (p n r w dx:Addr) (xs:List V) (names:List Str) (roots:List Nat) (ρs:List Ro):Prop where
 o:H p=some (.ins C dx (fP n r w))
 n:H n=some (.lst (names.map V.str))
 r:H r=some (.lst (roots.map nI))
 w:H w=some (.lst xs)
 i:Ims H xs (ρs.map Ro.d)
theorem PrA.same {C:Addr} {H H':Hp} {p n r w dx:Addr} {xs:List V} {names:List Str} {roots:List Nat} {ρs:List Ro} (h:PrA C H p n r w dx xs names roots ρs) (s:fG H H'):PrA C H' p n r w dx xs names roots ρs:=⟨s _ _ h.o,s _ _ h.n,s _ _ h.r,s _ _ h.w,h.i.mono (fG.tk s)⟩
theorem jy {H:Hp}:∀{xs:List V} {ds:List Dt} {j:Nat} {x:V},Ims H xs ds->xs[j]?=some x->∃d,ds[j]?=some d/\Im H x d
 |_,_,0,_,.cons h _,e=>⟨_,rfl,by cases e;exact h⟩
 |_,_,j+ 1,_,.cons _ t,e=>by
  rw[bg]at e
  obtain⟨d,e1,e2⟩:=jy t e
  exact⟨d,by rw[bg];exact e1,e2⟩
theorem yQ {H:Hp} {xs:List V} {ρs:List Ro} {k:Nat} {ρ:Ro} (h:Ims H xs (ρs.map Ro.d)) (e:ρs[k]?=some ρ):∃(t:Addr) (ys:List V),xs[k]?=some (.ref t)/\H t=some (.tup (.str ρ.s::ys))/\Ims H ys ρ.r/\Im H (.ref t) ρ.d:=by
 have lx:=h.length
 rw[aA]at lx
 have hk:=(ao.mp e).1
 obtain⟨d,hd,him⟩:=jy h (aZ (show k<xs.length by lia))
 rw[aI,e]at hd
 cases hd
 have h0:xs[k]?=some xs[k]:=aZ (by lia)
 generalize xs[k]=v at h0 him
 have him':=him
 cases him with
 |@tup t ys _ et hs=>
  cases hs with
  |cons a hs=>
   cases a
   exact⟨t,_,h0,et,hs,him'⟩
theorem jo {H:Hp} {t:Addr} {ρ:Ro} (h:Im H (.ref t) ρ.d):∃ys,H t=some (.tup (.str ρ.s::ys))/\Ims H ys ρ.r:=by
 unfold Ro.d at h
 cases h with
 |tup e i=>
  cases i with
  |cons a i=>cases a;exact⟨_,e,i⟩
abbrev hdT (i:Nat) (x:Str):TT:=cT (tOp (cEq false) (tOp zD (cV i) (tC (.int 0))) (tC (.str x)))
theorem vK {i:Nat} {x s:Str} {t:Addr} {ys:List V} {σ:St} {H:Hp} {k:Bool->Hp->Prop} {b:Bool} (hσ:σ[i]?=some (some (.ref t))) (et:H t=some (.tup (.str s::ys))) (e:decide (s=x)=b) (h:k b H):hdT i x σ H k:=by
 show onV σ[i]? _
 rw[hσ]
 refine⟨_,et,eP (eM (j:=0) rfl) ?_⟩
 dsimp only[tC,cEq,onB]
 rw[dO,e]
 exact h
theorem fQ {i:Nat} {x s:Str} {t:Addr} {ys:List V} {σ:St} {H:Hp} {T u:TS} {D:mh} (hσ:σ[i]?=some (some (.ref t))) (et:H t=some (.tup (.str s::ys))) (e:decide (s=x)=false) (h:u D σ H):rM (hdT i x) T u D σ H:=vK hσ et e (jP h)
theorem ij {i:Nat} {x s:Str} {t:Addr} {ys:List V} {σ:St} {H:Hp} {T u:TS} {D:mh} (hσ:σ[i]?=some (some (.ref t))) (et:H t=some (.tup (.str s::ys))) (e:decide (s=x)=true) (h:T D σ H):rM (hdT i x) T u D σ H:=vK hσ et e (kj h)
theorem sv {H:Hp} {x:V} {a b:Dt} (h:Im H x (.tup [a,b])):∃t y z,x= .ref t/\H t=some (.tup [y,z])/\Im H y a/\Im H z b:=by
 cases h with
 |tup e i=>
  cases i with
  |cons h1 i=>
   cases i with
   |cons h2 i=>cases i;exact⟨_,_,_,rfl,e,h1,h2⟩
theorem gR {α:Type} {l:List α} {i:Int} {a:α} (h:atZ l i=some a):∃k:Nat,i=(k:Int)/\l[k]?=some a:=by
 cases i with
 |ofNat k=>exact⟨k,rfl,h⟩
 |negSucc k=>cases h
theorem gA {H:Hp} {t:Addr} {xs:List V} {ds:List Dt} (h:H t=none) (i:Ims H xs ds):Im (L2.Internal.upd H t (.tup xs)) (.ref t) (.tup ds):= .tup eG (i.mono (fG.tk (eL h _)))
def Ro.few:Ro->Prop
 | .rcd l=>l.length<=10
 | .case _ l=>l.length<=10
 | .row ks=>ks.length<=1000
 |_=>True
structure Cp (CP:Addr) (H:Hp) (A:La) (names:List Str) (roots:List Nat) (ρs:List Ro) (ho:Nat->Option Hm):Prop where
 p:∃n r w dx xs,PrA CP H A.p n r w dx xs names roots ρs/\A.p∉A.ch/\n∉A.ch/\r∉A.ch/\w∉A.ch
 h:∃hs,H A.h=some (.lst hs)/\A.h∉A.ch/\∀(k:Nat) (ρ:Ro),ρs[k]?=some ρ->∃y,hs[k]?=some y/\Im H y (hoD (ho k))
 few:∀(k:Nat) (ρ:Ro),ρs[k]?=some ρ->ρ.few
 dom:∀(k:Nat) (h:Hm),ho k=some h->h.1="def"->∃d:Nat,h.2=(d:Int)/\d<roots.length
theorem Cp.fl {CL CP:Addr} {c:Cs} {H H':Hp} {A:La} {s:Ls} {names:List Str} {roots:List Nat} {ρs:List Ro} {ho:Nat->Option Hm} (x:Cp CP H A names roots ρs ho) (M:Lm CL c H A s) (F:FL A H H'):Cp CP H' A names roots ρs ho:=by
 have k:=M.tk F
 obtain⟨⟨n,r,w,dx,xs,pr,n1,n2,n3,n4⟩,⟨hs,e,n5,hh⟩,fw,dm⟩:=x
 exact⟨⟨n,r,w,dx,xs,⟨F _ _ pr.o n1,F _ _ pr.n n2,F _ _ pr.r n3,F _ _ pr.w n4,pr.i.mono k⟩,n1,n2,n3,n4⟩,⟨hs,F _ _ e n5,n5,fun j ρ hj=>let⟨y,a,b⟩:=hh j ρ hj;⟨y,a,b.mono k⟩⟩,fw,dm⟩
theorem DkI.put {H:Hp} {a:Addr} {g:Int->Option Int} {n:Nat} (h:DkI H a g n) (hn:n<10000000) (k v:Int):∃H',xO H a (.int k) (.int v) H'/\(∃o,H'=L2.Internal.upd H a (.dK o))/\DkI H' a (put g k v) (n+ 1):=by
 have sl:=sizeLine_eq
 obtain⟨kvs,e,l,r⟩:=h
 refine⟨_,xO.k (k:=(Sum.inl k:Key)) e (by lia),⟨_,rfl⟩,_,eG,bU (ml _ _ _) (by lia),fun x=>?_⟩
 rw[zN]
 unfold K27.Internal.put
 by_cases h:x=k
 ·rw[fY (by rw[h]),fY h];rfl
 ·rw[fJ (fun z=>h (by injection z)),fJ h];exact r x
theorem DkI.get {H:Hp} {a:Addr} {g:Int->Option Int} {n:Nat} (h:DkI H a g n) {k v:Int} (e:g k=some v):wy H a (.int k) (some (.int v)):=by
 obtain⟨kvs,e1,l,r⟩:=h
 have z:=wy.k (k:=(Sum.inl k:Key)) e1
 rw[r k,e]at z
 exact z
theorem Bw.dk {c:Cs} {H:Hp} {A:Ad} {r:V} {D:Bd} (B:Bw c H A r D) {a:Addr} {kvs:List (Key×V)} {o:List (Key×V)} (e:H a=some (.dK kvs)):Bw c (L2.Internal.upd H a (.dK o)) A r D:=by
 obtain⟨b,e0,⟨mv,m1,m2⟩,⟨uv,u1,u2⟩,⟨fv,g1,g2⟩,nd⟩:=B
 have k:FK H (L2.Internal.upd H a (.dK o)):=fun b u q f=>by rw[eN (fun z=>by rw[z,e]at q;cases q;exact f.elim)];exact q
 have ne:∀{b:Addr} {u:HO},H b=some u->(∀l,u≠ .dK l)->(L2.Internal.upd H a (.dK o)) b=some u:=fun q n=>by rw[eN (jh q e (n _))];exact q
 exact⟨ne b (fun _ z=>nomatch z),ne e0 (fun _ z=>nomatch z),⟨mv,ne m1 (fun _ z=>nomatch z),m2.imp fun _ _=>rX.mono k⟩,⟨uv,ne u1 (fun _ z=>nomatch z),u2.imp fun _ _=>pM.mono k⟩,⟨fv,ne g1 (fun _ z=>nomatch z),g2.mono k.tk⟩,nd⟩
theorem Lm.hold {CL:Addr} {c:Cs} {H:Hp} {A:La} {s:Ls} (M:Lm CL c H A (s.pt p0)) (hs:DkI H A.hd s.held s.D.pts.length) (hn:s.D.pts.length<1000000) (k v:Int):∃H',xO H A.hd (.int k) (.int v) H'/\Lm CL c H' A ((s.pt p0).hold k v)/\FL A H H':=by
 obtain⟨H',d,⟨o,rfl⟩,h⟩:=hs.put (by lia) k v
 obtain⟨kvs,e,_⟩:=hs
 obtain⟨o1,b,_,⟨k2,d2,r2⟩,ne⟩:=M
 have lp:(s.D.pts++[p0]).length=s.D.pts.length+ 1:=by rw[aM];rfl
 refine⟨_,d,⟨by rw[eN (jh o1 e (fun z=>nomatch z))];exact o1,Bw.dk b e,?_,⟨k2,by rw[eN ne.symm];exact d2,r2⟩,ne⟩,wW (by simp[La.ch])⟩
 show DkI _ A.hd (put s.held k v) (s.D.pts++[p0]).length
 rw[lp]
 exact h
inductive XLa (CL CP:Addr) (c:Cs) (f:Nat) (vs:List V) (H:Hp) (Q:VK):Prop
 |mk (A:La) (s s':Ls) (p r:Int) (names:List Str) (roots:List Nat) (ρs:List Ro) (ho:Nat->Option Hm) (e:vs=[.ref A.l,.int p]) (M:Lm CL c H A s) (C:Cp CP H A names roots ρs ho) (hl:jK ρs roots ho f p s=some (r,s')) (hz:Sz 1000000 s') (q:∀H',Lm CL c H' A s'->FL A H H'->Q (.int r) H')
def jL (CL CP:Addr) (c:Cs) (f:Nat):Sp:=fun vs H Q _=>XLa CL CP c f vs H Q
inductive XL (CL CP:Addr) (c:Cs) (f:Nat) (U:Ro->Prop) (vs:List V) (H:Hp) (Q:VK):Prop
 |mk (A:La) (s s':Ls) (p own:Int) (t:Addr) (ρ:Ro) (names:List Str) (roots:List Nat) (ρs:List Ro) (ho:Nat->Option Hm) (e:vs=[.ref A.l,.ref t,.int p,.int own]) (M:Lm CL c H A s) (C:Cp CP H A names roots ρs ho) (hk:atZ ρs p=some ρ) (hu:U ρ) (it:Im H (.ref t) ρ.d) (hl:hX (jK ρs roots ho f) roots (ho p.toNat) p own s ρ=some s') (hz:Sz 1000000 s') (q:∀H',Lm CL c H' A s'->FL A H H'->Q .non H')
def ir (CL CP:Addr) (c:Cs) (f:Nat) (U:Ro->Prop):Sp:=fun vs H Q _=>XL CL CP c f U vs H Q
theorem iG {H:Hp} {x:V} {k:Int} (h:Im H x (kD k)):x= .int k:=by cases h;rfl
theorem jz {H:Hp} {x:V} {k:Str} (h:Im H x (sD k)):x= .str k:=by cases h;rfl
theorem zF {H:Hp} {xs:List V} {d:Dt} (h:Ims H xs [d]):∃x,xs=[x]/\Im H x d:=by
 cases h with
 |cons a i=>cases i;exact⟨_,rfl,a⟩
theorem vL {H:Hp} {xs:List V} {d e:Dt} (h:Ims H xs [d,e]):∃x y,xs=[x,y]/\Im H x d/\Im H y e:=by
 cases h with
 |cons a i=>obtain⟨y,rfl,b⟩:=zF i;exact⟨_,_,rfl,a,b⟩
theorem Eb {H:Hp} {xs:List V} {d e g:Dt} (h:Ims H xs [d,e,g]):∃x y z,xs=[x,y,z]/\Im H x d/\Im H y e/\Im H z g:=by
 cases h with
 |cons a i=>obtain⟨y,z,rfl,b⟩:=vL i;exact⟨_,_,_,rfl,a,b⟩
theorem FL.tup {CL:Addr} {c:Cs} {H H':Hp} {A:La} {s:Ls} (F:FL A H H') (M:Lm CL c H A s) {t:Addr} {xs:List V} (e:H t=some (.tup xs)):H' t=some (.tup xs):=M.tk F _ _ e
theorem fE {p h b hd sd:Addr}:(fLy p h b hd sd).lookup ("board":Str)=some (.ref b):=oy.2.2.2.1
theorem uU {p h b hd sd:Addr}:(fLy p h b hd sd).lookup ("held":Str)=some (.ref hd):=oy.2.2.2.2.1
theorem ip {CL CP:Addr} {c:Cs} {f:Nat} {H:Hp} {A:La} {s s':Ls} {p r:Int} {names:List Str} {roots:List Nat} {ρs:List Ro} {ho:Nat->Option Hm} {Q:VK} (M:Lm CL c H A s) (C:Cp CP H A names roots ρs ho) (hl:jK ρs roots ho f p s=some (r,s')) (hz:Sz 1000000 s') (q:∀H',Lm CL c H' A s'->FL A H H'->Cp CP H' A names roots ρs ho->TK H H'->Q (.int r) H'):jL CL CP c f [.ref A.l,.int p] H Q E0:=
 ⟨A,s,s',p,r,names,roots,ρs,ho,rfl,M,C,hl,hz,fun H' M' F'=>q H' M' F' (C.fl M F') (M.tk F')⟩
theorem iX {CL:Addr} {c:Cs} {H:Hp} {A:La} {s:Ls} {Q:VK} {a:Addr} {xs:List V} {ds:List Dt} {w:Str} {o p:Int} (M:Lm CL c H A s) (hz:Sz 1000000 s) (ha:H a=none) (i:Ims H xs ds) (hd:lX (.tup ds)<=2) (ho:okD (.tup ds)) (q:∀H',Lm CL c H' A (s.mk' ⟨w,.tup ds,o,p⟩)->FL A H H'->Q .non H'):kH c.B c.M [.ref A.B.b,.str w,.ref a,.int o,.int p] (L2.Internal.upd H a (.tup xs)) Q E0:=
 Cg (m:=⟨w,.tup ds,o,p⟩) (M.same (eL ha _)) (by have:=hz.m;lia) (gA ha i) hd ho fun H' M' F'=>q H' M' ((FL.same (eL ha _)).trans F')
theorem kg {CL:Addr} {c:Cs} {H:Hp} {A:La} {s:Ls} {Q:VK} {x dx:Addr} {o:HO} {u:Us} (M:Lm CL c H A s) (hz:Sz 1000000 s) (hx:H x=none) (hd:H dx=none) (hu:pM c (L2.Internal.upd (L2.Internal.upd H dx (.own x)) x o) (.ref x) u) (q:∀H',Lm CL c H' A (s.us u)->FL A H H'->Q .non H'):lE c.B [.ref A.B.b,.ref x] (L2.Internal.upd (L2.Internal.upd H dx (.own x)) x o) Q E0:=
 D5 (M.same (iV hx hd)) (by have:=hz.u;lia) hu fun H' M' F'=>q H' M' ((FL.same (iV hx hd)).trans F')
theorem l6 {L:Lf} {roots:List Nat} {h:Option Hm} {p own:Int} {s s':Ls} {o:Str} {ks:List Int} (h1:o≠"size") (h2:o≠"at") (hl:hX L roots h p own s (.op o ks)=some s'):∃a b,ks=[a,b]:=by
 match ks,hl with
 |[],hl=>exact nomatch(show(none:Option Ls)=some s' from hl)
 |[a],hl=>exact nomatch((fJ h1).symm.trans hl)
 |[a,b],_=>exact⟨a,b,rfl⟩
 |[a,b,c],hl=>exact nomatch((fJ h2).symm.trans hl)
 |_::_::_::_::_,hl=>exact nomatch(show(none:Option Ls)=some s' from hl)
def cs (T:Txt K mg):Cs:=⟨T.c1.a,T.c3.a,T.c4.a,T.c5.a,T.c6.a,T.c7.a,T.c8.a⟩
theorem wX (T:Txt K mg) (f:Nat):FO P w base (5*f+ 7) T.d8 (ir T.c9.a T.c10.a (cs T) f fun ρ=>∃n,ρ= .num n):=by
 have gE67:=gh (P:=P) (w:=w) (base:=base) T
 refine T.d8.F.ok wK (fun vs H Q E h=>?_) (fun cdv A0 outer s0 H vs Q E hr h=>?_)
 ·obtain⟨A,s,s',p,own,t,ρ,names,roots,ρs,ho,rfl,_⟩:=h
  rfl
 obtain⟨A,s,s',p,own,t,ρ,names,roots,ρs,ho,rfl,M,C,hk,⟨n,rfl⟩,it,hl,hz,q⟩:=h
 refine⟨_,(eO (eW (eY (fi (PE.mono (fj T.c9.cl T.n9board (cv 0))) T.c8.cl T.e67.me gE67 (hr.mono (by lia)) T.e67.b .nil fH (eE eZ (eE (fe eF) (eE (cv 3) (eE (cv 2) eF)))))))),?_⟩
 cases cf.inj hl
 exact⟨_,⟨_,_,M.o,fE⟩,⟨_,_,M.b.b,gE _ _ _ _ _⟩,ki,fun a ha=>iX M (Le.mk'.sz hz) ha .nil (by decide) ⟨by decide,trivial⟩ q⟩
theorem wY (T:Txt K mg) (f:Nat) (gE73:MO P w base mg (5*f+ 3) T.e73 (jL T.c9.a T.c10.a (cs T) f)):FO P w base (5*f+ 7) T.d17 (ir T.c9.a T.c10.a (cs T) f fun ρ=>X2 fun n k=>ρ= .tag n k):=by
 have gE67:=gh (P:=P) (w:=w) (base:=base) T
 refine T.d17.F.ok rn (fun vs H Q E h=>?_) (fun cdv A0 outer s0 H vs Q E hr h=>?_)
 ·obtain⟨A,s,s',p,own,t,ρ,names,roots,ρs,ho,rfl,_⟩:=h
  rfl
 obtain⟨A,s,s',p,own,t,ρ,names,roots,ρs,ho,rfl,M,C,hk,⟨n,k,rfl⟩,it,hl,hz,q⟩:=h
 refine⟨_,(eJ (pS (i:=4) rn.nd (eY (fi (PE.mono (cv 0)) T.c9.cl T.e73.me gE73 (hr.mono (by lia)) T.e73.b .nil fH (eE (eU fc (cv 1) eK) eF))))
  (eO (eW (eY (fi (PE.mono (fj T.c9.cl T.n9board (cv 0))) T.c8.cl T.e67.me gE67 (hr.mono (by lia)) T.e67.b .nil fH (eE eZ (eE (fe (eE (eU fc (cv 1) eK) (eE (cv 4) eF))) (eE (cv 3) (eE (cv 2) eF))))))))),?_⟩
 obtain⟨ys,et,iy⟩:=jo it
 obtain⟨y1,y2,rfl,i1,i2⟩:=vL iy
 cases jz i1
 cases iG i2
 obtain⟨x,s1,h1,hl,_⟩:=L1 (f6 f) hl
 have l1:Le s1 s':=by cases cf.inj hl;exact Le.mk'
 refine⟨⟨_,_,M.o,g9 fo⟩,_,et,eP (eM (j:=2) rfl) (ip M C h1 (l1.sz hz) fun H1 M1 F1 C1 k1=>?_)⟩
 cases cf.inj hl
 exact⟨_,⟨_,_,M1.o,fE⟩,⟨_,_,M1.b.b,gE _ _ _ _ _⟩,_,k1 _ _ et,eP (eM (j:=1) rfl) ⟨jO,fun a ha=>iX M1 (Le.mk'.sz hz) ha (.cons (.flat rfl) (.cons (.flat rfl) .nil)) (by simp[lX,iF,sD,kD]) (by simp[okD,yq,sD,kD]) fun H' M' F'=>q H' M' (F1.trans F')⟩⟩
theorem wZ (T:Txt K mg) (f:Nat) (gE73:MO P w base mg (5*f+ 3) T.e73 (jL T.c9.a T.c10.a (cs T) f)):FO P w base (5*f+ 7) T.d16 (ir T.c9.a T.c10.a (cs T) f fun ρ=>X2 fun k n=>ρ= .get k n):=by
 have gE68:=g0 (P:=P) (w:=w) (base:=base) T
 have gE59:=mV (P:=P) (w:=w) (base:=base) T
 refine T.d16.F.ok rm (fun vs H Q E h=>?_) (fun cdv A0 outer s0 H vs Q E hr h=>?_)
 ·obtain⟨A,s,s',p,own,t,ρ,names,roots,ρs,ho,rfl,_⟩:=h
  rfl
 obtain⟨A,s,s',p,own,t,ρ,names,roots,ρs,ho,rfl,M,C,hk,⟨k,n,rfl⟩,it,hl,hz,q⟩:=h
 refine⟨_,(eJ (pS (i:=4) rm.nd (eY (fi (PE.mono (cv 0)) T.c9.cl T.e73.me gE73 (hr.mono (by lia)) T.e73.b .nil fH (eE (eU fc (cv 1) eK) eF))))
  (eO (eW (eY (fi (PE.mono (fj T.c9.cl T.n9board (cv 0))) T.c8.cl T.e68.me gE68 (hr.mono (by lia)) T.e68.b .nil fH (eE (jj T.mk5 gE59 (hr.mono (by lia)) rfl T.c5.m T.e59.b .nil fH (eE (cv 4) (eE (cv 2) (eE eK (eE (fe (eE (fe (eE (eU fc (cv 1) eK) (eE (cv 3) eF))) eF)) eF))))) eF)))))),?_⟩
 obtain⟨ys,et,iy⟩:=jo it
 obtain⟨y1,y2,rfl,i1,i2⟩:=vL iy
 cases iG i1
 cases jz i2
 obtain⟨x,s1,h1,hl,_⟩:=L1 (f6 f) hl
 have l1:Le s1 s':=by cases cf.inj hl;exact Le.us
 refine⟨⟨_,_,M.o,g9 fo⟩,_,et,eP (eM (j:=1) rfl) (ip M C h1 (l1.sz hz) fun H1 M1 F1 C1 k1=>?_)⟩
 cases cf.inj hl
 refine⟨_,⟨_,_,M1.o,fE⟩,⟨_,_,M1.b.b,ig _ _ _ _ _⟩,_,k1 _ _ et,eP (eM (j:=2) rfl) ⟨jO,fun a ha=>⟨kO,fun b hb x dx hx hdx nx=>⟨x,dx,_,_,_,_,rfl,eG,rfl,?_⟩⟩⟩⟩
 rw[f7]
 have S1:=eL ha (.tup [.str n,.int own])
 have S2:=eL hb (.tup [.ref a])
 have S3:=S1.trans S2
 have i3:=gA hb (.cons (gA ha (.cons (.flat rfl) (.cons (.flat rfl) .nil))) .nil)
 exact kg (u:= .take _ _ _ [(n,own)]) (M1.same S3) (Le.us.sz hz) hx hdx ⟨x,dx,_,rfl,eG,i3.mono (fG.tk (iV hx hdx)),by show 1<=10;decide⟩ fun H' M' F'=>q H' M' (F1.trans ((FL.same S3).trans F'))
theorem uV (T:Txt K mg) (f:Nat) (gE73:MO P w base mg (5*f+ 3) T.e73 (jL T.c9.a T.c10.a (cs T) f)):FO P w base (5*f+ 7) T.d13 (ir T.c9.a T.c10.a (cs T) f fun ρ=>∃ks,ρ= .op "call" ks):=by
 have gE68:=g0 (P:=P) (w:=w) (base:=base) T
 have gE57:=mU (P:=P) (w:=w) (base:=base) T
 refine T.d13.F.ok mK (fun vs H Q E h=>?_) (fun cdv A0 outer s0 H vs Q E hr h=>?_)
 ·obtain⟨A,s,s',p,own,t,ρ,names,roots,ρs,ho,rfl,_⟩:=h
  rfl
 obtain⟨A,s,s',p,own,t,ρ,names,roots,ρs,ho,rfl,M,C,hk,⟨ks,rfl⟩,it,hl,hz,q⟩:=h
 refine⟨_,(eJ (pS (i:=4) mK.nd (eY (fi (PE.mono (cv 0)) T.c9.cl T.e73.me gE73 (hr.mono (by lia)) T.e73.b .nil fH (eE (eU fc (cv 1) eK) eF))))
  (eJ (pS (i:=5) mK.nd (eY (fi (PE.mono (cv 0)) T.c9.cl T.e73.me gE73 (hr.mono (by lia)) T.e73.b .nil fH (eE (eU fc (cv 1) eK) eF))))
  (eO (eW (eY (fi (PE.mono (fj T.c9.cl T.n9board (cv 0))) T.c8.cl T.e68.me gE68 (hr.mono (by lia)) T.e68.b .nil fH (eE (jj T.mk4 gE57 (hr.mono (by lia)) rfl T.c4.m T.e57.b .nil fH (eE (cv 4) (eE (cv 2) (eE eK (eE (cv 5) (eE (cv 3) eF)))))) eF))))))),?_⟩
 obtain⟨k1,k2,rfl⟩:=l6 fo fo hl
 obtain⟨ys,et,iy⟩:=jo it
 obtain⟨y1,y2,rfl,i1,i2⟩:=vL iy
 cases iG i1
 cases iG i2
 obtain⟨x,s1,h1,hl,_⟩:=L1 (f6 f) hl
 obtain⟨y,s2,h2,hl,l2⟩:=L1 (f6 f) hl
 have l1:Le s2 s':=by cases cf.inj hl;exact Le.us
 refine⟨⟨_,_,M.o,g9 fo⟩,_,et,eP (eM (j:=1) rfl) (ip M C h1 ((l2.trans l1).sz hz) fun H1 M1 F1 C1 k1=>?_)⟩
 have e1:=k1 _ _ et
 refine⟨⟨_,_,M1.o,g9 fo⟩,_,e1,eP (eM (j:=2) rfl) (ip M1 C1 h2 (l1.sz hz) fun H2 M2 F2 C2 k2=>?_)⟩
 cases cf.inj hl
 refine⟨_,⟨_,_,M2.o,fE⟩,⟨_,_,M2.b.b,ig _ _ _ _ _⟩,fun x dx hx hdx nx=>⟨x,dx,_,_,_,_,_,rfl,eG,rfl,?_⟩⟩
 rw[f7]
 exact kg (u:= .call _ _ _ _ _) M2 (Le.us.sz hz) hx hdx ⟨x,dx,rfl,eG⟩ fun H' M' F'=>q H' M' (F1.trans (F2.trans F'))
theorem xa (T:Txt K mg) (f:Nat) (gE73:MO P w base mg (5*f+ 3) T.e73 (jL T.c9.a T.c10.a (cs T) f)):FO P w base (5*f+ 7) T.d14 (ir T.c9.a T.c10.a (cs T) f fun ρ=>X3 fun n a b=>ρ= .lt n a b):=by
 have gE69:=hV (P:=P) (w:=w) (base:=base) T
 refine T.d14.F.ok wL (fun vs H Q E h=>?_) (fun cdv A0 outer s0 H vs Q E hr h=>?_)
 ·obtain⟨A,s,s',p,own,t,ρ,names,roots,ρs,ho,rfl,_⟩:=h
  rfl
 obtain⟨A,s,s',p,own,t,ρ,names,roots,ρs,ho,rfl,M,C,hk,⟨n,a,b,rfl⟩,it,hl,hz,q⟩:=h
 refine⟨_,(eJ (eW (eY (fi (PE.mono (cv 0)) T.c9.cl T.e73.me gE73 (hr.mono (by lia)) T.e73.b .nil fH (eE (eU fc (cv 1) eK) eF))))
  (eO (eW (eY (fi (PE.mono (fj T.c9.cl T.n9board (cv 0))) T.c8.cl T.e69.me gE69 (hr.mono (by lia)) T.e69.b .nil fH (eE (eY (fi (PE.mono (cv 0)) T.c9.cl T.e73.me gE73 (hr.mono (by lia)) T.e73.b .nil fH (eE (eU fc (cv 1) eK) eF))) (eE (cv 3) eF))))))),?_⟩
 obtain⟨ys,et,iy⟩:=jo it
 obtain⟨y1,y2,y3,rfl,i1,i2,i3⟩:=Eb iy
 cases jz i1
 cases iG i2
 cases iG i3
 obtain⟨x,s1,h1,hl,_⟩:=L1 (f6 f) hl
 obtain⟨y,s2,h2,hl,l2⟩:=L1 (f6 f) hl
 have l1:Le s2 s':=by cases cf.inj hl;exact Le.fl
 refine⟨⟨_,_,M.o,g9 fo⟩,_,et,eP (eM (j:=2) rfl) (ip M C h1 ((l2.trans l1).sz hz) fun H1 M1 F1 C1 k1=>?_)⟩
 have e1:=k1 _ _ et
 refine⟨_,⟨_,_,M1.o,fE⟩,⟨_,_,M1.b.b,jB _ _ _ _ _⟩,⟨_,_,M1.o,g9 fo⟩,_,e1,eP (eM (j:=3) rfl) (ip M1 C1 h2 (l1.sz hz) fun H2 M2 F2 C2 k2=>?_)⟩
 cases cf.inj hl
 exact oz M2 (by have:=(Le.fl.sz hz:Sz _ s2).f;lia) fun H' M' F'=>q H' M' (F1.trans (F2.trans F'))
theorem A4 {L:Lf} {roots:List Nat} {h:Option Hm} {p own:Int} {s s':Ls} {ks:List Int} (hl:hX L roots h p own s (.op "size" ks)=some s'):∃a,ks=[a]:=by
 match ks,hl with
 |[],hl=>exact nomatch(show(none:Option Ls)=some s' from hl)
 |[a],hl=>exact⟨a,rfl⟩
 |[a,b],hl=>exact nomatch(show(none:Option Ls)=some s' from hl)
 |[a,b,c],hl=>exact nomatch(show(none:Option Ls)=some s' from hl)
 |_::_::_::_::_,hl=>exact nomatch(show(none:Option Ls)=some s' from hl)
theorem vM {L:Lf} {roots:List Nat} {h:Option Hm} {p own:Int} {s s':Ls} {ks:List Int} (hl:hX L roots h p own s (.op "at" ks)=some s'):∃a b c,ks=[a,b,c]:=by
 match ks,hl with
 |[],hl=>exact nomatch(show(none:Option Ls)=some s' from hl)
 |[a],hl=>exact nomatch(show(none:Option Ls)=some s' from hl)
 |[a,b],hl=>exact nomatch(show(none:Option Ls)=some s' from hl)
 |[a,b,c],hl=>exact⟨a,b,c,rfl⟩
 |_::_::_::_::_,hl=>exact nomatch(show(none:Option Ls)=some s' from hl)
theorem lF {L:Lf} (hL:Lmo L) {a b p:Int} {s s':Ls} (h:jQ L a b p s=some s'):∃x s1 y s2,L a s=some (x,s1)/\L b s1=some (y,s2)/\s'=(s2.us (.num x p 0)).us (.num y p 1)/\Le s1 s2/\Le s s1:=by
 obtain⟨x,s1,h1,hl,l1⟩:=L1 hL h
 obtain⟨y,s2,h2,hl,l2⟩:=L1 hL hl
 exact⟨x,s1,y,s2,h1,h2,(cf.inj hl).symm,l2,l1⟩
theorem N1 {L:Lf} (hL:Lmo L) {a b p:Int} {s s':Ls} {g:Ls->Option Ls} (h:(match jQ L a b p s with|some s=>g s|none=>none)=some s'):∃s1,jQ L a b p s=some s1/\g s1=some s':=by
 cases e:jQ L a b p s with
 |none=>rw[e]at h;cases h
 |some z=>rw[e]at h;exact⟨z,rfl,h⟩
theorem tn1 {σ:St} {H:Hp} {k:List V->Hp->Prop} (h:k [] H):sS σ H k:=h
theorem tc1 {i:Nat} {v:V} {σ:St} {H:Hp} {k:List V->Hp->Prop} (e:σ[i]?=some (some v)) (h:k [v] H):jw (cV i) sS σ H k:=by
 show onV σ[i]? _
 rw[e]
 exact h
theorem tc2 {i j:Nat} {v u:V} {σ:St} {H:Hp} {k:List V->Hp->Prop} (e:σ[i]?=some (some v)) (e2:σ[j]?=some (some u)) (h:k [v,u] H):jw (cV i) (jw (cV j) sS) σ H k:=by
 show onV σ[i]? _
 rw[e]
 exact tc1 (k:=fun xs H2=>k (v::xs) H2) e2 h
theorem xb {s:Ls} {p:Int} (h:(s.pt p).D.pts.length<=1000000):s.D.pts.length<1000000:=by
 have h:(s.D.pts++[p]).length<=1000000:=h
 rw[aM,aU]at h
 lia
inductive XNu (CL CP:Addr) (c:Cs) (f:Nat) (vs:List V) (H:Hp) (Q:VK):Prop
 |mk (A:La) (s s':Ls) (p a b:Int) (t:Addr) (o:V) (names:List Str) (roots:List Nat) (ρs:List Ro) (ho:Nat->Option Hm) (e:vs=[.ref A.l,.ref t,.int p]) (M:Lm CL c H A s) (C:Cp CP H A names roots ρs ho) (it:H t=some (.tup [o,.int a,.int b])) (hl:jQ (jK ρs roots ho f) a b p s=some s') (hz:Sz 1000000 s') (q:∀H',Lm CL c H' A s'->FL A H H'->Q .non H')
def FN (CL CP:Addr) (c:Cs) (f:Nat):Sp:=fun vs H Q _=>XNu CL CP c f vs H Q
theorem l9 (T:Txt K mg) (f:Nat) (gE73:MO P w base mg (5*f+ 3) T.e73 (jL T.c9.a T.c10.a (cs T) f)):FO P w base (5*f+ 5) T.d25 (FN T.c9.a T.c10.a (cs T) f):=by
 have gE68:=g0 (P:=P) (w:=w) (base:=base) T
 have gE55:=gF (P:=P) (w:=w) (base:=base) T
 refine T.d25.F.ok ka (fun vs H Q E h=>?_) (fun cdv A0 outer s0 H vs Q E hr h=>?_)
 ·obtain⟨A,s,s',p,a,b,t,o,names,roots,ρs,ho,rfl,_⟩:=h
  rfl
 obtain⟨A,s,s',p,a,b,t,o,names,roots,ρs,ho,rfl,M,C,et,hl,hz,q⟩:=h
 refine⟨_,(eJ (pS (i:=3) ka.nd (eY (fi (PE.mono (cv 0)) T.c9.cl T.e73.me gE73 (hr.mono (by lia)) T.e73.b .nil fH (eE (eU fc (cv 1) eK) eF))))
  (eJ (pS (i:=4) ka.nd (eY (fi (PE.mono (cv 0)) T.c9.cl T.e73.me gE73 (hr.mono (by lia)) T.e73.b .nil fH (eE (eU fc (cv 1) eK) eF))))
  (eJ (eW (eY (fi (PE.mono (fj T.c9.cl T.n9board (cv 0))) T.c8.cl T.e68.me gE68 (hr.mono (by lia)) T.e68.b .nil fH (eE (jj T.mk3 gE55 (hr.mono (by lia)) rfl T.c3.m T.e55.b .nil fH (eE (cv 3) (eE (cv 2) (eE eK eF)))) eF))))
  (eO (eW (eY (fi (PE.mono (fj T.c9.cl T.n9board (cv 0))) T.c8.cl T.e68.me gE68 (hr.mono (by lia)) T.e68.b .nil fH (eE (jj T.mk3 gE55 (hr.mono (by lia)) rfl T.c3.m T.e55.b .nil fH (eE (cv 4) (eE (cv 2) (eE eK eF)))) eF)))))))),?_⟩
 obtain⟨x,s1,y,s2,h1,h2,rfl,l2,l1⟩:=lF (f6 f) hl
 have l3:Le s2 ((s2.us (.num x p 0)).us (.num y p 1)):=Le.us.trans Le.us
 refine⟨⟨_,_,M.o,g9 fo⟩,_,et,eP (eM (j:=1) rfl) (ip M C h1 ((l2.trans l3).sz hz) fun H1 M1 F1 C1 k1=>?_)⟩
 have e1:=k1 _ _ et
 refine⟨⟨_,_,M1.o,g9 fo⟩,_,e1,eP (eM (j:=2) rfl) (ip M1 C1 h2 (l3.sz hz) fun H2 M2 F2 C2 k2=>?_)⟩
 refine⟨_,⟨_,_,M2.o,fE⟩,⟨_,_,M2.b.b,ig _ _ _ _ _⟩,fun z dz hx hdx nx=>⟨z,_,dz,_,_,_,rfl,eG,T.c3.cl,T.n3at,T.n3place,T.n3slot,rfl,?_⟩⟩
 rw[f7]
 refine tn1 (kg (u:= .num x p 0) M2 (l3.sz hz) hx hdx ⟨z,dz,rfl,eG⟩ fun H3 M3 F3=>?_)
 refine⟨_,⟨_,_,M3.o,fE⟩,⟨_,_,M3.b.b,ig _ _ _ _ _⟩,fun z dz hx hdx nx=>⟨z,_,dz,_,_,_,rfl,eG,T.c3.cl,T.n3at,T.n3place,T.n3slot,rfl,?_⟩⟩
 rw[f7]
 exact kg (u:= .num _ _ _) M3 (Le.us.sz hz) hx hdx ⟨z,dz,rfl,eG⟩ fun H' M' F'=>q H' M' (F1.trans (F2.trans (F3.trans F')))
theorem xf (T:Txt K mg) (f:Nat) (gE73:MO P w base mg (5*f+ 3) T.e73 (jL T.c9.a T.c10.a (cs T) f)):FO P w base (5*f+ 7) T.d23 (ir T.c9.a T.c10.a (cs T) f fun ρ=>X2 fun o ks=>ρ= .op o ks/\(o="add"\/o="sub")):=by
 have gE67:=gh (P:=P) (w:=w) (base:=base) T
 have gD25:=l9 (P:=P) (w:=w) (base:=base) T f gE73
 refine T.d23.F.ok wM (fun vs H Q E h=>?_) (fun cdv A0 outer s0 H vs Q E hr h=>?_)
 ·obtain⟨A,s,s',p,own,t,ρ,names,roots,ρs,ho,rfl,_⟩:=h
  rfl
 obtain⟨A,s,s',p,own,t,ρ,names,roots,ρs,ho,rfl,M,C,hk,⟨o,ks,rfl,ho2⟩,it,hl,hz,q⟩:=h
 refine⟨_,(eJ (eW (pF T.d25 gD25 (hr.mono (by lia)) (eE (cv 0) (eE (cv 1) (eE (cv 2) eF)))))
  (eO (eW (eY (fi (PE.mono (fj T.c9.cl T.n9board (cv 0))) T.c8.cl T.e67.me gE67 (hr.mono (by lia)) T.e67.b .nil fH (eE eZ (eE (fe eF) (eE (cv 3) (eE (cv 2) eF))))))))),?_⟩
 have two:∃a b,ks=[a,b]:=by rcases ho2 with rfl|rfl<;>exact l6 fo fo hl
 obtain⟨a,b,rfl⟩:=two
 obtain⟨ys,et,iy⟩:=jo it
 obtain⟨y1,y2,rfl,i1,i2⟩:=vL iy
 cases iG i1
 cases iG i2
 obtain⟨s1,h1,hl⟩:∃s1,jQ (jK ρs roots ho f) a b p s=some s1/\some (s1.mk' (mkN own p))=some s':=by
  rcases ho2 with rfl|rfl<;>exact N1 (g:=fun s1=>some (s1.mk' (mkN own p))) (f6 f) hl
 cases cf.inj hl
 refine⟨A,s,s1,p,a,b,t,_,names,roots,ρs,ho,rfl,M,C,et,h1,Le.mk'.sz hz,fun H1 M1 F1=>?_⟩
 exact⟨_,⟨_,_,M1.o,fE⟩,⟨_,_,M1.b.b,gE _ _ _ _ _⟩,ki,fun a ha=>iX M1 (Le.mk'.sz hz) ha .nil (by decide) ⟨by decide,trivial⟩ fun H' M' F'=>q H' M' (F1.trans F')⟩
theorem uW (T:Txt K mg) (f:Nat) (gE73:MO P w base mg (5*f+ 3) T.e73 (jL T.c9.a T.c10.a (cs T) f)):FO P w base (5*f+ 7) T.d22 (ir T.c9.a T.c10.a (cs T) f fun ρ=>∃ks,ρ= .op "size" ks):=by
 have gE67:=gh (P:=P) (w:=w) (base:=base) T
 have gE68:=g0 (P:=P) (w:=w) (base:=base) T
 have gE66:=gj (P:=P) (w:=w) (base:=base) T
 have gE63:=iU (P:=P) (w:=w) (base:=base) T
 refine T.d22.F.ok mL (fun vs H Q E h=>?_) (fun cdv A0 outer s0 H vs Q E hr h=>?_)
 ·obtain⟨A,s,s',p,own,t,ρ,names,roots,ρs,ho,rfl,_⟩:=h
  rfl
 obtain⟨A,s,s',p,own,t,ρ,names,roots,ρs,ho,rfl,M,C,hk,⟨ks,rfl⟩,it,hl,hz,q⟩:=h
 refine⟨_,(eJ (pS (i:=4) mL.nd (eY (fi (PE.mono (fj T.c9.cl T.n9board (cv 0))) T.c8.cl T.e66.me gE66 (hr.mono (by lia)) T.e66.b .nil fH (eE (cv 2) eF))))
  (eJ (pS (i:=5) mL.nd (eY (fi (PE.mono (cv 0)) T.c9.cl T.e73.me gE73 (hr.mono (by lia)) T.e73.b .nil fH (eE (eU fc (cv 1) eK) eF))))
  (eJ (eW (eY (fi (PE.mono (fj T.c9.cl T.n9board (cv 0))) T.c8.cl T.e68.me gE68 (hr.mono (by lia)) T.e68.b .nil fH (eE (jj T.mk7 gE63 (hr.mono (by lia)) rfl T.c7.m T.e63.b .nil fH (eE (cv 5) (eE (cv 2) (eE eK (eE (cv 4) eF))))) eF))))
  (eO (eW (eY (fi (PE.mono (fj T.c9.cl T.n9board (cv 0))) T.c8.cl T.e67.me gE67 (hr.mono (by lia)) T.e67.b .nil fH (eE eZ (eE (fe eF) (eE (cv 3) (eE (cv 2) eF))))))))))),?_⟩
 obtain⟨a,rfl⟩:=A4 hl
 obtain⟨ys,et,iy⟩:=jo it
 obtain⟨y1,rfl,i1⟩:=zF iy
 cases iG i1
 obtain⟨x,s2,h2,hl,l2⟩:=L1 (f6 f) hl
 have l3:Le s2 s':=by cases cf.inj hl;exact Le.us.trans Le.mk'
 refine⟨_,⟨_,_,M.o,fE⟩,⟨_,_,M.b.b,gZ _ _ _ _ _⟩,?_⟩
 refine tc1 (v:= .int p) rfl (yO M (by have:=((Le.pt.trans (l2.trans l3)).sz hz).p;lia) fun H1 M1 F1=>?_)
 have C1:=C.fl M F1
 have e1:=F1.tup M et
 refine⟨⟨_,_,M1.o,g9 fo⟩,_,e1,eP (eM (j:=1) rfl) (ip M1 C1 h2 (l3.sz hz) fun H2 M2 F2 C2 k2=>?_)⟩
 cases cf.inj hl
 refine⟨_,⟨_,_,M2.o,fE⟩,⟨_,_,M2.b.b,ig _ _ _ _ _⟩,fun z dz hx hdx nx=>⟨z,dz,_,_,_,_,rfl,eG,rfl,?_⟩⟩
 rw[f7]
 refine tn1 (kg (u:= .row _ _ _ _) M2 (l3.sz hz) hx hdx ⟨z,dz,rfl,eG⟩ fun H3 M3 F3=>?_)
 exact⟨_,⟨_,_,M3.o,fE⟩,⟨_,_,M3.b.b,gE _ _ _ _ _⟩,ki,fun a ha=>iX M3 (Le.mk'.sz hz) ha .nil (by decide) ⟨by decide,trivial⟩ fun H' M' F'=>q H' M' (F1.trans (F2.trans (F3.trans F')))⟩
theorem uX (T:Txt K mg) (f:Nat) (gE73:MO P w base mg (5*f+ 3) T.e73 (jL T.c9.a T.c10.a (cs T) f)):FO P w base (5*f+ 7) T.d21 (ir T.c9.a T.c10.a (cs T) f fun ρ=>∃ks,ρ= .op "join" ks):=by
 have gE67:=gh (P:=P) (w:=w) (base:=base) T
 have gE68:=g0 (P:=P) (w:=w) (base:=base) T
 have gE66:=gj (P:=P) (w:=w) (base:=base) T
 have gE63:=iU (P:=P) (w:=w) (base:=base) T
 refine T.d21.F.ok kF (fun vs H Q E h=>?_) (fun cdv A0 outer s0 H vs Q E hr h=>?_)
 ·obtain⟨A,s,s',p,own,t,ρ,names,roots,ρs,ho,rfl,_⟩:=h
  rfl
 obtain⟨A,s,s',p,own,t,ρ,names,roots,ρs,ho,rfl,M,C,hk,⟨ks,rfl⟩,it,hl,hz,q⟩:=h
 refine⟨_,(eJ (pS (i:=4) kF.nd (eY (fi (PE.mono (fj T.c9.cl T.n9board (cv 0))) T.c8.cl T.e66.me gE66 (hr.mono (by lia)) T.e66.b .nil fH (eE (cv 2) eF))))
  (eJ (pS (i:=5) kF.nd (eY (fi (PE.mono (cv 0)) T.c9.cl T.e73.me gE73 (hr.mono (by lia)) T.e73.b .nil fH (eE (eU fc (cv 1) eK) eF))))
  (eJ (pS (i:=6) kF.nd (eY (fi (PE.mono (cv 0)) T.c9.cl T.e73.me gE73 (hr.mono (by lia)) T.e73.b .nil fH (eE (eU fc (cv 1) eK) eF))))
  (eJ (eW (eY (fi (PE.mono (fj T.c9.cl T.n9board (cv 0))) T.c8.cl T.e68.me gE68 (hr.mono (by lia)) T.e68.b .nil fH (eE (jj T.mk7 gE63 (hr.mono (by lia)) rfl T.c7.m T.e63.b .nil fH (eE (cv 5) (eE (cv 2) (eE eK (eE (cv 4) eF))))) eF))))
  (eJ (eW (eY (fi (PE.mono (fj T.c9.cl T.n9board (cv 0))) T.c8.cl T.e68.me gE68 (hr.mono (by lia)) T.e68.b .nil fH (eE (jj T.mk7 gE63 (hr.mono (by lia)) rfl T.c7.m T.e63.b .nil fH (eE (cv 6) (eE (cv 2) (eE eK (eE (cv 4) eF))))) eF))))
  (eO (eW (eY (fi (PE.mono (fj T.c9.cl T.n9board (cv 0))) T.c8.cl T.e67.me gE67 (hr.mono (by lia)) T.e67.b .nil fH (eE eZ (eE (fe (eE (cv 4) eF)) (eE (cv 3) (eE (cv 2) eF))))))))))))),?_⟩
 obtain⟨a,b,rfl⟩:=l6 fo fo hl
 obtain⟨ys,et,iy⟩:=jo it
 obtain⟨y1,y2,rfl,i1,i2⟩:=vL iy
 cases iG i1
 cases iG i2
 obtain⟨x,s2,h2,hl,l2⟩:=L1 (f6 f) hl
 obtain⟨y,s3,h3,hl,l3⟩:=L1 (f6 f) hl
 have l4:Le s3 s':=by cases cf.inj hl;exact Le.us.trans (Le.us.trans Le.mk')
 refine⟨_,⟨_,_,M.o,fE⟩,⟨_,_,M.b.b,gZ _ _ _ _ _⟩,?_⟩
 refine tc1 (v:= .int p) rfl (yO M (by have:=((Le.pt.trans (l2.trans (l3.trans l4))).sz hz).p;lia) fun H1 M1 F1=>?_)
 have C1:=C.fl M F1
 have e1:=F1.tup M et
 refine⟨⟨_,_,M1.o,g9 fo⟩,_,e1,eP (eM (j:=1) rfl) (ip M1 C1 h2 ((l3.trans l4).sz hz) fun H2 M2 F2 C2 k2=>?_)⟩
 have e2:=k2 _ _ e1
 refine⟨⟨_,_,M2.o,g9 fo⟩,_,e2,eP (eM (j:=2) rfl) (ip M2 C2 h3 (l4.sz hz) fun H3 M3 F3 C3 k3=>?_)⟩
 cases cf.inj hl
 refine⟨_,⟨_,_,M3.o,fE⟩,⟨_,_,M3.b.b,ig _ _ _ _ _⟩,fun z dz hx hdx nx=>⟨z,dz,_,_,_,_,rfl,eG,rfl,?_⟩⟩
 rw[f7]
 refine tn1 (kg (u:= .row _ _ _ _) M3 (l4.sz hz) hx hdx ⟨z,dz,rfl,eG⟩ fun H4 M4 F4=>?_)
 refine⟨_,⟨_,_,M4.o,fE⟩,⟨_,_,M4.b.b,ig _ _ _ _ _⟩,fun z dz hx hdx nx=>⟨z,dz,_,_,_,_,rfl,eG,rfl,?_⟩⟩
 rw[f7]
 refine tn1 (kg (u:= .row _ _ _ _) M4 ((Le.us.trans Le.mk').sz hz) hx hdx ⟨z,dz,rfl,eG⟩ fun H5 M5 F5=>?_)
 exact⟨_,⟨_,_,M5.o,fE⟩,⟨_,_,M5.b.b,gE _ _ _ _ _⟩,kO,fun a ha=>iX M5 (Le.mk'.sz hz) ha (.cons (.flat rfl) .nil) (by simp[lX,iF,sD,kD]) (by simp[okD,yq,sD,kD]) fun H' M' F'=>q H' M' (F1.trans (F2.trans (F3.trans (F4.trans (F5.trans F')))))⟩
theorem yR (T:Txt K mg) (f:Nat) (gE73:MO P w base mg (5*f+ 3) T.e73 (jL T.c9.a T.c10.a (cs T) f)):FO P w base (5*f+ 7) T.d20 (ir T.c9.a T.c10.a (cs T) f fun ρ=>∃ks,ρ= .op "at" ks):=by
 have gE69:=hV (P:=P) (w:=w) (base:=base) T
 have gE68:=g0 (P:=P) (w:=w) (base:=base) T
 have gE55:=gF (P:=P) (w:=w) (base:=base) T
 have gE63:=iU (P:=P) (w:=w) (base:=base) T
 refine T.d20.F.ok ng (fun vs H Q E h=>?_) (fun cdv A0 outer s0 H vs Q E hr h=>?_)
 ·obtain⟨A,s,s',p,own,t,ρ,names,roots,ρs,ho,rfl,_⟩:=h
  rfl
 obtain⟨A,s,s',p,own,t,ρ,names,roots,ρs,ho,rfl,M,C,hk,⟨ks,rfl⟩,it,hl,hz,q⟩:=h
 refine⟨_,(eJ (pS (i:=4) ng.nd (eY (fi (PE.mono (cv 0)) T.c9.cl T.e73.me gE73 (hr.mono (by lia)) T.e73.b .nil fH (eE (eU fc (cv 1) eK) eF))))
  (eJ (pS (i:=5) ng.nd (eY (fi (PE.mono (cv 0)) T.c9.cl T.e73.me gE73 (hr.mono (by lia)) T.e73.b .nil fH (eE (eU fc (cv 1) eK) eF))))
  (eJ (pS (i:=6) ng.nd (eY (fi (PE.mono (cv 0)) T.c9.cl T.e73.me gE73 (hr.mono (by lia)) T.e73.b .nil fH (eE (eU fc (cv 1) eK) eF))))
  (eJ (eW (eY (fi (PE.mono (fj T.c9.cl T.n9board (cv 0))) T.c8.cl T.e68.me gE68 (hr.mono (by lia)) T.e68.b .nil fH (eE (jj T.mk7 gE63 (hr.mono (by lia)) rfl T.c7.m T.e63.b .nil fH (eE (cv 4) (eE (cv 2) (eE eK (eE (cv 3) eF))))) eF))))
  (eJ (eW (eY (fi (PE.mono (fj T.c9.cl T.n9board (cv 0))) T.c8.cl T.e68.me gE68 (hr.mono (by lia)) T.e68.b .nil fH (eE (jj T.mk3 gE55 (hr.mono (by lia)) rfl T.c3.m T.e55.b .nil fH (eE (cv 5) (eE (cv 2) (eE eK eF)))) eF))))
  (eO (eW (eY (fi (PE.mono (fj T.c9.cl T.n9board (cv 0))) T.c8.cl T.e69.me gE69 (hr.mono (by lia)) T.e69.b .nil fH (eE (cv 6) (eE (cv 3) eF))))))))))),?_⟩
 obtain⟨a,b,c,rfl⟩:=vM hl
 obtain⟨ys,et,iy⟩:=jo it
 obtain⟨y1,y2,y3,rfl,i1,i2,i3⟩:=Eb iy
 cases iG i1
 cases iG i2
 cases iG i3
 obtain⟨x,s1,h1,hl,l1⟩:=L1 (f6 f) hl
 obtain⟨y,s2,h2,hl,l2⟩:=L1 (f6 f) hl
 obtain⟨z,s3,h3,hl,l3⟩:=L1 (f6 f) hl
 have l4:Le s3 s':=by cases cf.inj hl;exact Le.us.trans (Le.us.trans Le.fl)
 refine⟨⟨_,_,M.o,g9 fo⟩,_,et,eP (eM (j:=1) rfl) (ip M C h1 ((l2.trans (l3.trans l4)).sz hz) fun H1 M1 F1 C1 k1=>?_)⟩
 have e1:=k1 _ _ et
 refine⟨⟨_,_,M1.o,g9 fo⟩,_,e1,eP (eM (j:=2) rfl) (ip M1 C1 h2 ((l3.trans l4).sz hz) fun H2 M2 F2 C2 k2=>?_)⟩
 have e2:=k2 _ _ e1
 refine⟨⟨_,_,M2.o,g9 fo⟩,_,e2,eP (eM (j:=3) rfl) (ip M2 C2 h3 (l4.sz hz) fun H3 M3 F3 C3 k3=>?_)⟩
 cases cf.inj hl
 refine⟨_,⟨_,_,M3.o,fE⟩,⟨_,_,M3.b.b,ig _ _ _ _ _⟩,fun z dz hx hdx nx=>⟨z,dz,_,_,_,_,rfl,eG,rfl,?_⟩⟩
 rw[f7]
 refine tn1 (kg (u:= .row _ _ _ _) M3 (l4.sz hz) hx hdx ⟨z,dz,rfl,eG⟩ fun H4 M4 F4=>?_)
 refine⟨_,⟨_,_,M4.o,fE⟩,⟨_,_,M4.b.b,ig _ _ _ _ _⟩,fun z dz hx hdx nx=>⟨z,_,dz,_,_,_,rfl,eG,T.c3.cl,T.n3at,T.n3place,T.n3slot,rfl,?_⟩⟩
 rw[f7]
 refine tn1 (kg (u:= .num y p 1) M4 ((Le.us.trans Le.fl).sz hz) hx hdx ⟨z,dz,rfl,eG⟩ fun H5 M5 F5=>?_)
 exact⟨_,⟨_,_,M5.o,fE⟩,⟨_,_,M5.b.b,jB _ _ _ _ _⟩,oz M5 (by have:=(Le.fl.sz hz:Sz _ _).f;lia) fun H' M' F'=>q H' M' (F1.trans (F2.trans (F3.trans (F4.trans (F5.trans F')))))⟩
theorem uY (T:Txt K mg) (f:Nat) (gE73:MO P w base mg (5*f+ 3) T.e73 (jL T.c9.a T.c10.a (cs T) f)):FO P w base (5*f+ 7) T.d24 (ir T.c9.a T.c10.a (cs T) f fun ρ=>∃ks,ρ= .op "less" ks):=by
 have gE67:=gh (P:=P) (w:=w) (base:=base) T
 have gE66:=gj (P:=P) (w:=w) (base:=base) T
 have gD25:=l9 (P:=P) (w:=w) (base:=base) T f gE73
 refine T.d24.F.ok p6 (fun vs H Q E h=>?_) (fun cdv A0 outer s0 H vs Q E hr h=>?_)
 ·obtain⟨A,s,s',p,own,t,ρ,names,roots,ρs,ho,rfl,_⟩:=h
  rfl
 obtain⟨A,s,s',p,own,t,ρ,names,roots,ρs,ho,rfl,M,C,hk,⟨ks,rfl⟩,it,hl,hz,q⟩:=h
 refine⟨_,(eJ (pS (i:=4) p6.nd (eY (fi (PE.mono (fj T.c9.cl T.n9board (cv 0))) T.c8.cl T.e66.me gE66 (hr.mono (by lia)) T.e66.b .nil fH (eE (cv 2) eF))))
  (eJ (eW (pF T.d25 gD25 (hr.mono (by lia)) (eE (cv 0) (eE (cv 1) (eE (cv 2) eF)))))
  (eJ (eW (eY (fi (PE.mono (fj T.c9.cl T.n9board (cv 0))) T.c8.cl T.e67.me gE67 (hr.mono (by lia)) T.e67.b .nil fH (eE eZ (eE (fe eF) (eE (cv 4) (eE (cv 2) eF)))))))
  (eJ (eW (eY (fi (PE.mono (fj T.c9.cl T.n9board (cv 0))) T.c8.cl T.e67.me gE67 (hr.mono (by lia)) T.e67.b .nil fH (eE eZ (eE (fe (eE eZ (eE (cv 4) eF))) (eE (cv 3) (eE (cv 2) eF)))))))
  (eO (eW (eY (fi (PE.mono (fj T.c9.cl T.n9board (cv 0))) T.c8.cl T.e67.me gE67 (hr.mono (by lia)) T.e67.b .nil fH (eE eZ (eE (fe (eE eZ (eE (cv 4) eF))) (eE (cv 3) (eE (cv 2) eF)))))))))))),?_⟩
 obtain⟨a,b,rfl⟩:=l6 fo fo hl
 obtain⟨ys,et,iy⟩:=jo it
 obtain⟨y1,y2,rfl,i1,i2⟩:=vL iy
 cases iG i1
 cases iG i2
 obtain⟨s2,h2,hl⟩:=N1 (f6 f) hl
 obtain⟨_,_,_,s3,_,_,e2,l3,l2⟩:=lF (f6 f) h2
 have l5:Le s3 s2:=by rw[e2];exact Le.us.trans Le.us
 have l4:Le s2 s':=by cases cf.inj hl;exact Le.mk'.trans (Le.mk'.trans Le.mk')
 refine⟨_,⟨_,_,M.o,fE⟩,⟨_,_,M.b.b,gZ _ _ _ _ _⟩,?_⟩
 refine tc1 (v:= .int p) rfl (yO M (by have:=((Le.pt.trans (l2.trans (l3.trans (l5.trans l4)))).sz hz).p;lia) fun H1 M1 F1=>?_)
 have C1:=C.fl M F1
 have e1:=F1.tup M et
 refine⟨A,_,s2,p,a,b,t,_,names,roots,ρs,ho,rfl,M1,C1,e1,h2,l4.sz hz,fun H2 M2 F2=>?_⟩
 cases cf.inj hl
 refine⟨_,⟨_,_,M2.o,fE⟩,⟨_,_,M2.b.b,gE _ _ _ _ _⟩,ki,fun a ha=>tc2 rfl rfl (iX M2 (l4.sz hz) ha .nil (by decide) ⟨by decide,trivial⟩ fun H3 M3 F3=>?_)⟩
 refine⟨_,⟨_,_,M3.o,fE⟩,⟨_,_,M3.b.b,gE _ _ _ _ _⟩,jO,fun a ha=>tc2 rfl rfl (iX M3 ((Le.mk'.trans Le.mk').sz hz) ha (.cons (.flat rfl) (.cons (.flat rfl) .nil)) (by simp[lX,iF,sD,kD]) (by simp[okD,yq,sD,kD]) fun H4 M4 F4=>?_)⟩
 exact⟨_,⟨_,_,M4.o,fE⟩,⟨_,_,M4.b.b,gE _ _ _ _ _⟩,jO,fun a ha=>iX M4 (Le.mk'.sz hz) ha (.cons (.flat rfl) (.cons (.flat rfl) .nil)) (by simp[lX,iF,sD,kD]) (by simp[okD,yq,sD,kD]) fun H' M' F'=>q H' M' (F1.trans (F2.trans (F3.trans (F4.trans F'))))⟩
theorem yS (T:Txt K mg) (f:Nat) (gE73:MO P w base mg (5*f+ 3) T.e73 (jL T.c9.a T.c10.a (cs T) f)):FO P w base (5*f+ 7) T.d12 (ir T.c9.a T.c10.a (cs T) f fun ρ=>X2 fun n k=>ρ= .fn n k):=by
 have gE67:=gh (P:=P) (w:=w) (base:=base) T
 have gE66:=gj (P:=P) (w:=w) (base:=base) T
 refine T.d12.F.ok p4 (fun vs H Q E h=>?_) (fun cdv A0 outer s0 H vs Q E hr h=>?_)
 ·obtain⟨A,s,s',p,own,t,ρ,names,roots,ρs,ho,rfl,_⟩:=h
  rfl
 obtain⟨A,s,s',p,own,t,ρ,names,roots,ρs,ho,rfl,M,C,hk,⟨n,k,rfl⟩,it,hl,hz,q⟩:=h
 have hu:=qD hr
 refine⟨_,(eJ (pS (i:=4) p4.nd (eY (fi (PE.mono (fj T.c9.cl T.n9board (cv 0))) T.c8.cl T.e66.me gE66 (hr.mono (by lia)) T.e66.b .nil fH (eE (cv 2) eF))))
  (eJ (mq hu (fj T.c9.cl T.n9held (cv 0)) (eU fc (cv 1) eK) (cv 4) rfl)
  (eJ (pS (i:=5) p4.nd (eY (fi (PE.mono (cv 0)) T.c9.cl T.e73.me gE73 (hr.mono (by lia)) T.e73.b .nil fH (eE (eU fc (cv 1) eK) eF))))
  (eO (eW (eY (fi (PE.mono (fj T.c9.cl T.n9board (cv 0))) T.c8.cl T.e67.me gE67 (hr.mono (by lia)) T.e67.b .nil fH (eE eZ (eE (fe (eE (cv 4) (eE (cv 5) eF))) (eE (cv 3) (eE (cv 2) eF))))))))))),?_⟩
 obtain⟨ys,et,iy⟩:=jo it
 obtain⟨y1,y2,rfl,i1,i2⟩:=vL iy
 cases jz i1
 cases iG i2
 obtain⟨x,s2,h2,hl,l2⟩:=L1 (f6 f) hl
 have l3:Le s2 s':=by cases cf.inj hl;exact Le.mk'
 have lp:=((Le.pt.trans (Le.ho.trans (l2.trans l3))).sz hz).p
 have lq:=((Le.ho.trans (l2.trans l3)).sz hz).p
 refine⟨_,⟨_,_,M.o,fE⟩,⟨_,_,M.b.b,gZ _ _ _ _ _⟩,?_⟩
 refine tc1 (v:= .int p) rfl (vI M (by lia) fun H1 M1 F1 d1 _=>?_)
 have C1:=C.fl M F1
 have e1:=F1.tup M et
 obtain⟨H2,dp,M2,F2⟩:=M1.hold d1 (xb lq) k s.n
 have C2:=C1.fl M1 F2
 have e2:=F2.tup M1 e1
 refine⟨_,⟨_,_,M1.o,uU⟩,_,e1,eP (eM (j:=2) rfl) ⟨A.hd,H2,rfl,dp,?_⟩⟩
 refine⟨⟨_,_,M2.o,g9 fo⟩,_,e2,eP (eM (j:=2) rfl) (ip M2 C2 h2 (l3.sz hz) fun H3 M3 F3 C3 k3=>?_)⟩
 cases cf.inj hl
 exact⟨_,⟨_,_,M3.o,fE⟩,⟨_,_,M3.b.b,gE _ _ _ _ _⟩,jO,fun a ha=>iX M3 (l3.sz hz) ha (.cons (.flat rfl) (.cons (.flat rfl) .nil)) (by simp[lX,iF,sD,kD]) (by simp[okD,yq,sD,kD]) fun H' M' F'=>q H' M' (F1.trans (F2.trans (F3.trans F')))⟩
theorem O1 {α:Type} {o:Option Ls} {g:Ls->Option α} {a:α} (h:(match o with|some s=>g s|none=>none)=some a):∃s1,o=some s1/\g s1=some a:=by
 cases e:o with
 |none=>rw[e]at h;cases h
 |some z=>rw[e]at h;exact⟨z,rfl,h⟩
theorem oA {α:Type} {l:List α} {i:Nat} {a:α} (h:l[i]?=some a):l.drop i=a::l.drop (i+ 1):=by
 obtain⟨h1,rfl⟩:=ao.mp h
 exact List.drop_eq_getElem_cons h1
theorem vN {H:Hp}:∀{ks:List Int} {xs:List V},Ims H xs (ks.map kD)->xs=ks.map V.int
 |[],_,.nil=>rfl
 |k::ks,_,.cons h t=>by rw[iG h,vN t];rfl
theorem mf {H:Hp} {x:V} {ds:List Dt} (h:Im H x (.tup ds)):∃t xs,x= .ref t/\H t=some (.tup xs)/\Ims H xs ds:=by
 cases h with
 |tup e i=>exact⟨_,_,rfl,e,i⟩
section
variable {CL:Addr} {c:Cs} {H H':Hp} {A:La} {s:Ls}
theorem Lm.out (M:Lm CL c H A s) {a:Addr} (h:H a=none):a∉A.ch:=fun m=>by
 obtain⟨_,b,⟨k1,d1,_⟩,⟨k2,d2,_⟩,_⟩:=M
 rcases aj.mp m with m|m
 ·exact b.out h m
 ·rcases ai.mp m with rfl|m
  ·rw[h]at d1;cases d1
  ·rcases ai.mp m with rfl|m
   ·rw[h]at d2;cases d2
   ·cases m
theorem Lm.other (M:Lm CL c H A s) {a:Addr} {xs ys:List V} (e:H a=some (.lst xs)) (n:a∉A.ch):Lm CL c (L2.Internal.upd H a (.lst ys)) A s:=by
 obtain⟨n1,r1,r2⟩:=M.nl (o:= .lst ys) e
 exact⟨n1,M.b.other e fun z=>n (ak _ z),r1,r2,M.ne⟩
theorem FL.put {H0:Hp} (F:FL A H0 H) {a:Addr} (h:H0 a=none) (o:HO):FL A H0 (L2.Internal.upd H a o):=fun b u e n=>by
 rw[eN (eT e h)]
 exact F b u e n
end
theorem Ec {H:Hp} {xs:List V} {l:List (Str×Int)} {i:Nat} {v:V} (h:Ims H xs (l.map fdD)) (e:xs[i]?=some v):∃p t,l[i]?=some p/\v= .ref t/\H t=some (.tup [.str p.1,.int p.2]):=by
 obtain⟨d,e1,e2⟩:=jy h e
 rw[aI]at e1
 obtain⟨p,hp,rfl⟩:=cm.mp e1
 obtain⟨t,y,z,rfl,et,i1,i2⟩:=sv e2
 cases jz i1
 cases iG i2
 exact⟨p,t,hp,rfl,et⟩
theorem Ed {H:Hp} {xs:List V} {l:List (Str×Str×Int)} {i:Nat} {v:V} (h:Ims H xs (l.map amD)) (e:xs[i]?=some v):∃p t,l[i]?=some p/\v= .ref t/\H t=some (.tup [.str p.1,.str p.2.1,.int p.2.2]):=by
 obtain⟨d,e1,e2⟩:=jy h e
 rw[aI]at e1
 obtain⟨p,hp,rfl⟩:=cm.mp e1
 obtain⟨t,xs,rfl,et,i1⟩:=mf e2
 obtain⟨x,y,z,rfl,i1,i2,i3⟩:=Eb i1
 cases jz i1
 cases jz i2
 cases iG i3
 exact⟨p,t,hp,rfl,et⟩
theorem xg (T:Txt K mg) (f:Nat) (gE73:MO P w base mg (5*f+ 3) T.e73 (jL T.c9.a T.c10.a (cs T) f)):FO P w base (5*f+ 7) T.d19 (ir T.c9.a T.c10.a (cs T) f fun ρ=>∃ks,ρ= .row ks):=by
 have gE67:=gh (P:=P) (w:=w) (base:=base) T
 have gE66:=gj (P:=P) (w:=w) (base:=base) T
 have gE69:=hV (P:=P) (w:=w) (base:=base) T
 refine T.d19.F.ok oq (fun vs H Q E h=>?_) (fun cdv A0 outer s0 H vs Q E hr h=>?_)
 ·obtain⟨A,s,s',p,own,t,ρ,names,roots,ρs,ho,rfl,_⟩:=h
  rfl
 obtain⟨A,s,s',p,own,t,ρ,names,roots,ρs,ho,rfl,M,C,hk,⟨ks,rfl⟩,it,hl,hz,q⟩:=h
 refine⟨_,(eJ (pS (i:=4) oq.nd (eY (fi (PE.mono (fj T.c9.cl T.n9board (cv 0))) T.c8.cl T.e66.me gE66 (hr.mono (by lia)) T.e66.b .nil fH (eE (cv 2) eF))))
  (eJ (jb PassesOwn.never rfl (pB (eU fc (cv 1) eK)) (pN (i:=5) oq.nd)
   (eO (eW (eY (fi (PE.mono (fj T.c9.cl T.n9board (cv 0))) T.c8.cl T.e69.me gE69 (hr.mono (by lia)) T.e69.b .nil fH (eE (eY (fi (PE.mono (cv 0)) T.c9.cl T.e73.me gE73 (hr.mono (by lia)) T.e73.b .nil fH (eE (cv 5) eF))) (eE (cv 4) eF)))))))
  (eO (eW (eY (fi (PE.mono (fj T.c9.cl T.n9board (cv 0))) T.c8.cl T.e67.me gE67 (hr.mono (by lia)) T.e67.b .nil fH (eE eZ (eE (fe (eE (cv 4) eF)) (eE (cv 3) (eE (cv 2) eF)))))))))),?_⟩
 obtain⟨ys,et,iy⟩:=jo it
 obtain⟨y1,rfl,i1⟩:=zF iy
 obtain⟨tl,xs,rfl,el,il⟩:=mf i1
 cases vN il
 obtain⟨s1,h1,hl⟩:=O1 hl
 have l1:=rp (f6 f) h1
 have l3:Le s1 s':=by cases cf.inj hl;exact Le.mk'
 refine⟨_,⟨_,_,M.o,fE⟩,⟨_,_,M.b.b,gZ _ _ _ _ _⟩,?_⟩
 refine tc1 (v:= .int p) rfl (yO M (by have:=((Le.pt.trans (l1.trans l3)).sz hz).p;lia) fun H1 M1 F1=>?_)
 have C1:=C.fl M F1
 have e1:=F1.tup M et
 have el1:=F1.tup M el
 refine⟨_,e1,eP (eM (j:=1) rfl) ⟨tl,rfl,⟨_,SqT.of el1⟩,pD (xs:=ks.map V.int) (fun i σ H2=>X2 fun(o5:Option V) (si:Ls)=>Y4 (σ=[some (.ref A.l),some (.ref t),some (.int p),some (.int own),some (.int s.n),o5]) (Lm T.c9.a (cs T) H2 A si) (sT (jK ρs roots ho f) s.n (ks.drop i) si=some s1) (FL A H1 H2))
   ⟨none,_,rfl,M1,h1,FL.refl⟩ (fun i σ H2 _ ⟨_,_,_,_,_,F⟩=>SqT.of (F.tup M1 el1)) ?_ ?_⟩⟩
 ·rintro i v σ H2 hv ⟨o5,si,rfl,M2,h2,F2⟩
  rw[aI]at hv
  obtain⟨k,hk,rfl⟩:=cm.mp hv
  rw[oA hk]at h2
  obtain⟨x,s2,h3,h2,l2⟩:=L1 (f6 f) h2
  have l4:=rp (f6 f) h2
  have C2:=C1.fl M1 F2
  dsimp only[fu]
  refine⟨_,⟨_,_,M2.o,fE⟩,⟨_,_,M2.b.b,jB _ _ _ _ _⟩,⟨_,_,M2.o,g9 fo⟩,?_⟩
  refine tc1 (v:= .int k) rfl (ip M2 C2 h3 ((Le.fl.trans (l4.trans l3)).sz hz) fun H3 M3 F3 C3 k3=>?_)
  refine tc1 (v:= .int s.n) rfl (oz M3 (by have:=((Le.fl.trans (l4.trans l3)).sz hz).f;lia) fun H4 M4 F4=>?_)
  exact⟨_,_,rfl,M4,h2,F2.trans (F3.trans F4)⟩
 ·rintro σ H2 ⟨o5,si,rfl,M2,h2,F2⟩
  rw[aA,bC]at h2
  cases cf.inj h2
  cases cf.inj hl
  exact⟨_,⟨_,_,M2.o,fE⟩,⟨_,_,M2.b.b,gE _ _ _ _ _⟩,kO,fun a ha=>iX M2 (l3.sz hz) ha (.cons (.flat rfl) .nil) (by simp[lX,iF,sD,kD]) (by simp[okD,yq,sD,kD]) fun H' M' F'=>q H' M' (F1.trans (F2.trans F'))⟩
theorem xh (T:Txt K mg) (f:Nat) (gE73:MO P w base mg (5*f+ 3) T.e73 (jL T.c9.a T.c10.a (cs T) f)):FO P w base (5*f+ 7) T.d15 (ir T.c9.a T.c10.a (cs T) f fun ρ=>∃l,ρ= .rcd l):=by
 have gE67:=gh (P:=P) (w:=w) (base:=base) T
 refine T.d15.F.ok oj (fun vs H Q E h=>?_) (fun cdv A0 outer s0 H vs Q E hr h=>?_)
 ·obtain⟨A,s,s',p,own,t,ρ,names,roots,ρs,ho,rfl,_⟩:=h
  rfl
 obtain⟨A,s,s',p,own,t,ρ,names,roots,ρs,ho,rfl,M,C,hk,⟨l,rfl⟩,it,hl,hz,q⟩:=h
 refine⟨_,(eJ (pS (i:=4) oj.nd (fq eF))
  (eJ (jb PassesOwn.never rfl (pB (eU fc (cv 1) eK)) (pN (i:=5) oj.nd)
   (eO (eW (fN (gu dD dE dF fh (PE.mono (cv 4)) (eE (PE.mono (fe (eE (eU fc (cv 5) eK) (eE (eY (fi (PE.mono (cv 0)) T.c9.cl T.e73.me gE73 (hr.mono (by lia)) T.e73.b .nil fH (eE (eU fc (cv 5) eK) eF))) eF)))) eF))))))
  (eO (eW (eY (fi (PE.mono (fj T.c9.cl T.n9board (cv 0))) T.c8.cl T.e67.me gE67 (hr.mono (by lia)) T.e67.b .nil fH (eE eZ (eE (fW f9 rfl T.z_tuple iM (eE (cv 4) eF)) (eE (cv 3) (eE (cv 2) eF)))))))))),?_⟩
 have sl:=sizeLine_eq
 obtain⟨k0,rfl,hk0⟩:=gR hk
 have fw:l.length<=10:=C.few _ _ hk0
 obtain⟨ys,et,iy⟩:=jo it
 obtain⟨y1,rfl,i1⟩:=zF iy
 obtain⟨tl,xs,rfl,el,il⟩:=mf i1
 obtain⟨fs,s1,h1,hl⟩:∃fs s1,qO (jK ρs roots ho f) l [] s=some (fs,s1)/\some (s1.mk' ⟨"rec",prD fs,own,k0⟩)=some s':=by
  unfold hX at hl
  dsimp only at hl
  cases e:qO (jK ρs roots ho f) l [] s with
  |none=>rw[e]at hl;cases hl
  |some z=>obtain⟨fs,s1⟩:=z;rw[e]at hl;exact⟨fs,s1,rfl,hl⟩
 obtain⟨l1,n1⟩:=tV (f6 f) h1
 have n1:fs.length=0+l.length:=n1
 have l3:Le s1 s':=by cases cf.inj hl;exact Le.mk'
 refine⟨ki,fun d hd=>?_⟩
 have nd:=M.out hd
 have S1:=eL hd (.lst [])
 refine⟨_,S1 _ _ et,eP (eM (j:=1) rfl) ⟨tl,rfl,⟨_,SqT.of (S1 _ _ el)⟩,pD (xs:=xs) (fun i σ H2=>X4 fun(o5:Option V) (si:Ls) (acc:List (Str×Int)) (zs:List V)=>Y6 (σ=[some (.ref A.l),some (.ref t),some (.int k0),some (.int own),some (.ref d),o5]) (Lm T.c9.a (cs T) H2 A si) (qO (jK ρs roots ho f) (l.drop i) acc si=some (fs,s1)) (FL A H H2) (H2 d=some (.lst zs)) (Ims H2 zs (acc.map prL)))
   ⟨none,_,[],[],rfl,M.same S1,h1,FL.same S1,eG,.nil⟩ (fun i σ H2 _ ⟨_,_,_,_,_,_,_,F,_,_⟩=>SqT.of (F.tup M el)) ?_ ?_⟩⟩
 ·rintro i v σ H2 hv ⟨o5,si,acc,zs,rfl,M2,h2,F2,ez,iz⟩
  obtain⟨p,t',hp,rfl,et'⟩:=Ec (il.mono (M.tk F2)) hv
  rw[oA hp]at h2
  obtain⟨x,s2,h3,h2,l2⟩:=L1 (f6 f) h2
  obtain⟨l4,n4⟩:=tV (f6 f) h2
  have n4:fs.length=_:=n4
  rw[aM,aU]at n4
  have lz:=iz.length
  rw[aA]at lz
  have C2:=C.fl M F2
  dsimp only[fu]
  refine⟨⟨_,ez⟩,_,et',eP (eM (j:=0) rfl) ⟨⟨_,_,M2.o,g9 fo⟩,_,et',eP (eM (j:=1) rfl) (ip M2 C2 h3 ((l4.trans l3).sz hz) fun H3 M3 F3 C3 k3=>?_)⟩⟩
  refine⟨jO,fun t2 h2'=>⟨zs,?_,by lia,?_⟩⟩
  ·exact eL h2' _ _ _ (F3 _ _ ez nd)
  have S4:=eL h2' (.tup [.str p.1,.int x])
  have e4:=S4 _ _ (F3 _ _ ez nd)
  refine⟨_,_,_,_,rfl,(M3.same S4).other e4 nd,h2,((F2.trans F3).trans (FL.same S4)).put hd _,eG,?_⟩
  rw[bz]
  exact(((iz.mono k3).mono (fG.tk S4)).app (.cons (gA h2' (.cons (.flat rfl) (.cons (.flat rfl) .nil))) .nil)).mono (gH e4).tk
 ·rintro σ H2 ⟨o5,si,acc,zs,rfl,M2,h2,F2,ez,iz⟩
  have lx:=il.length
  rw[aA]at lx
  rw[lx,bC]at h2
  cases cf.inj h2
  cases cf.inj hl
  refine⟨_,⟨_,_,M2.o,fE⟩,⟨_,_,M2.b.b,gE _ _ _ _ _⟩,d,zs,rfl,.inl ⟨SqL.of ez,fun a ha=>?_⟩⟩
  exact tc2 rfl rfl (iX M2 (l3.sz hz) ha iz (uP _) (yr (by lia)) fun H' M' F'=>q H' M' (F2.trans F'))
theorem uZ (T:Txt K mg) (f:Nat) (gE73:MO P w base mg (5*f+ 3) T.e73 (jL T.c9.a T.c10.a (cs T) f)):FO P w base (5*f+ 7) T.d18 (ir T.c9.a T.c10.a (cs T) f fun ρ=>X2 fun k l=>ρ= .case k l):=by
 have gE66:=gj (P:=P) (w:=w) (base:=base) T
 have gE69:=hV (P:=P) (w:=w) (base:=base) T
 have gE68:=g0 (P:=P) (w:=w) (base:=base) T
 have gE61:=mW (P:=P) (w:=w) (base:=base) T
 refine T.d18.F.ok jH (fun vs H Q E h=>?_) (fun cdv A0 outer s0 H vs Q E hr h=>?_)
 ·obtain⟨A,s,s',p,own,t,ρ,names,roots,ρs,ho,rfl,_⟩:=h
  rfl
 obtain⟨A,s,s',p,own,t,ρ,names,roots,ρs,ho,rfl,M,C,hk,⟨k,l,rfl⟩,it,hl,hz,q⟩:=h
 have hu:=qD hr
 refine⟨_,(eJ (pS (i:=4) jH.nd (eY (fi (PE.mono (cv 0)) T.c9.cl T.e73.me gE73 (hr.mono (by lia)) T.e73.b .nil fH (eE (eU fc (cv 1) eK) eF))))
  (eJ (pS (i:=5) jH.nd (fq eF))
  (eJ (jb PassesOwn.never rfl (pB (eU fc (cv 1) eK)) (pN (i:=6) jH.nd)
   (eJ (pS (i:=7) jH.nd (eY (fi (PE.mono (fj T.c9.cl T.n9board (cv 0))) T.c8.cl T.e66.me gE66 (hr.mono (by lia)) T.e66.b .nil fH (eE (cv 2) eF))))
   (eJ (mq hu (fj T.c9.cl T.n9held (cv 0)) (eU fc (cv 6) eK) (cv 7) rfl)
   (eJ (eW (eY (fi (PE.mono (fj T.c9.cl T.n9board (cv 0))) T.c8.cl T.e69.me gE69 (hr.mono (by lia)) T.e69.b .nil fH (eE (eY (fi (PE.mono (cv 0)) T.c9.cl T.e73.me gE73 (hr.mono (by lia)) T.e73.b .nil fH (eE (eU fc (cv 6) eK) eF))) (eE (cv 3) eF)))))
   (eO (eW (fN (gu dD dE dF fh (PE.mono (cv 5)) (eE (PE.mono (fe (eE (eU fc (cv 6) eK) (eE (cv 7) eF)))) eF)))))))))
  (eO (eW (eY (fi (PE.mono (fj T.c9.cl T.n9board (cv 0))) T.c8.cl T.e68.me gE68 (hr.mono (by lia)) T.e68.b .nil fH (eE (jj T.mk6 gE61 (hr.mono (by lia)) rfl T.c6.m T.e61.b .nil fH (eE (cv 4) (eE (cv 2) (eE eK (eE (fW f9 rfl T.z_tuple iM (eE (cv 5) eF)) eF))))) eF)))))))),?_⟩
 have sl:=sizeLine_eq
 obtain⟨k0,rfl,hk0⟩:=gR hk
 have fw:l.length<=10:=C.few _ _ hk0
 obtain⟨ys,et,iy⟩:=jo it
 obtain⟨y1,y2,rfl,i0,i1⟩:=vL iy
 cases iG i0
 obtain⟨tl,xs,rfl,el,il⟩:=mf i1
 obtain⟨x0,s0',h0,hl,_⟩:=L1 (f6 f) hl
 obtain⟨fs,s1,h1,hl⟩:∃fs s1,vH (jK ρs roots ho f) k0 own l [] s0'=some (fs,s1)/\some (s1.us (.case x0 k0 0 fs))=some s':=by
  cases e:vH (jK ρs roots ho f) k0 own l [] s0' with
  |none=>rw[e]at hl;cases hl
  |some z=>obtain⟨fs,s1⟩:=z;rw[e]at hl;exact⟨fs,s1,rfl,hl⟩
 obtain⟨l1,n1⟩:=vJ (f6 f) h1
 have n1:fs.length=0+l.length:=n1
 have l1:Le s0' s1:=l1
 have l3:Le s1 s':=by cases cf.inj hl;exact Le.us
 refine⟨⟨_,_,M.o,g9 fo⟩,_,et,eP (eM (j:=1) rfl) (ip M C h0 ((l1.trans l3).sz hz) fun H0 M0 F0 C0 k0'=>?_)⟩
 have et0:=k0' _ _ et
 have el0:=k0' _ _ el
 have il0:=il.mono k0'
 refine⟨ki,fun d hd=>?_⟩
 have nd:=M0.out hd
 have S1:=eL hd (.lst [])
 refine⟨_,S1 _ _ et0,eP (eM (j:=2) rfl) ⟨tl,rfl,⟨_,SqT.of (S1 _ _ el0)⟩,pD (xs:=xs) (fun i σ H2=>X5 fun(o6 o7:Option V) (si:Ls) (acc:List (Str×Int)) (zs:List V)=>Y6 (σ=[some (.ref A.l),some (.ref t),some (.int k0),some (.int own),some (.int x0),some (.ref d),o6,o7]) (Lm T.c9.a (cs T) H2 A si) (vH (jK ρs roots ho f) k0 own (l.drop i) acc si=some (fs,s1)) (FL A H0 H2) (H2 d=some (.lst zs)) (Ims H2 zs (acc.map prL)))
   ⟨none,none,_,[],[],rfl,M0.same S1,h1,FL.same S1,eG,.nil⟩ (fun i σ H2 _ ⟨_,_,_,_,_,_,_,_,F,_,_⟩=>SqT.of (F.tup M0 el0)) ?_ ?_⟩⟩
 ·rintro i v σ H2 hv ⟨o6,o7,si,acc,zs,rfl,M2,h2,F2,ez,iz⟩
  obtain⟨p,t',hp,rfl,et'⟩:=Ed (il0.mono (M0.tk F2)) hv
  rw[oA hp]at h2
  obtain⟨x,s2,h3,h2,l2⟩:=L1 (f6 f) h2
  obtain⟨l4,n4⟩:=vJ (f6 f) h2
  have n4:fs.length=_:=n4
  rw[aM,aU]at n4
  have lz:=iz.length
  rw[aA]at lz
  have C2:=C0.fl M0 F2
  have l5:Le s2 s':=Le.fl.trans (Le.trans l4 l3)
  have lp:=((Le.pt.trans (Le.ho.trans (l2.trans l5))).sz hz).p
  have lq:=((Le.ho.trans (l2.trans l5)).sz hz).p
  dsimp only[fu]
  refine⟨_,⟨_,_,M2.o,fE⟩,⟨_,_,M2.b.b,gZ _ _ _ _ _⟩,?_⟩
  refine tc1 (v:= .int k0) rfl (vI M2 (by lia) fun H3 M3 F3 d3 _=>?_)
  have e3:=F3.tup M2 et'
  obtain⟨H4,dp,M4,F4⟩:=M3.hold d3 (xb lq) p.2.2 si.n
  have e4:=F4.tup M3 e3
  have C4:=(C2.fl M2 F3).fl M3 F4
  refine⟨_,⟨_,_,M3.o,uU⟩,_,e3,eP (eM (j:=2) rfl) ⟨A.hd,H4,rfl,dp,?_⟩⟩
  refine⟨_,⟨_,_,M4.o,fE⟩,⟨_,_,M4.b.b,jB _ _ _ _ _⟩,⟨_,_,M4.o,g9 fo⟩,_,e4,eP (eM (j:=2) rfl) (ip M4 C4 h3 (l5.sz hz) fun H5 M5 F5 C5 k5=>?_)⟩
  refine tc1 (v:= .int own) rfl (oz M5 (by have:=(l5.sz hz).f;lia) fun H6 M6 F6=>?_)
  have e6:=F6.tup M5 (k5 _ _ e4)
  have F26:=F3.trans (F4.trans (F5.trans F6))
  have ez6:=F26 _ _ ez nd
  refine⟨⟨_,ez6⟩,_,e6,eP (eM (j:=0) rfl) ⟨jO,fun t2 h2'=>⟨zs,?_,by lia,?_⟩⟩⟩
  ·exact eL h2' _ _ _ ez6
  have S7:=eL h2' (.tup [.str p.1,.int si.n])
  have e7:=S7 _ _ ez6
  refine⟨_,_,_,_,_,rfl,(M6.same S7).other e7 nd,h2,((F2.trans F26).trans (FL.same S7)).put hd _,eG,?_⟩
  rw[bz]
  exact(((iz.mono (M2.tk F26)).mono (fG.tk S7)).app (.cons (gA h2' (.cons (.flat rfl) (.cons (.flat rfl) .nil))) .nil)).mono (gH e7).tk
 ·rintro σ H2 ⟨o6,o7,si,acc,zs,rfl,M2,h2,F2,ez,iz⟩
  have lx:=il.length
  rw[aA]at lx
  rw[lx,bC]at h2
  cases cf.inj h2
  cases cf.inj hl
  refine⟨_,⟨_,_,M2.o,fE⟩,⟨_,_,M2.b.b,ig _ _ _ _ _⟩,d,zs,rfl,.inl ⟨SqL.of ez,fun a ha x dx hx hdx nx=>⟨x,dx,_,_,_,_,rfl,eG,rfl,?_⟩⟩⟩
  rw[f7]
  have S3:=eL ha (.tup zs)
  exact tn1 (kg (u:= .case _ _ _ fs) (M2.same S3) (l3.sz hz) hx hdx ⟨x,dx,_,rfl,eG,(gA ha iz).mono (fG.tk (iV hx hdx)),by lia⟩ fun H' M' F'=>q H' M' (F0.trans (F2.trans ((FL.same S3).trans F'))))
theorem tW {p h b hd sd:Addr}:(fLy p h b hd sd).lookup ("starts":Str)=some (.ref sd):=oy.2.2.2.2.2
theorem oB {p h b hd sd:Addr}:(fLy p h b hd sd).lookup ("program":Str)=some (.ref p):=oy.1
theorem Af {p h b hd sd:Addr}:(fLy p h b hd sd).lookup ("homes":Str)=some (.ref h):=oy.2.1
theorem yT {p h b hd sd:Addr}:(fLy p h b hd sd).lookup ("papers":Str)=some .non:=oy.2.2.1
theorem Lm.start {CL:Addr} {c:Cs} {H:Hp} {A:La} {s:Ls} {p0:Int} (M:Lm CL c H A (s.pt p0)) (hs:DkI H A.sd s.st s.D.pts.length) (hn:s.D.pts.length<1000000) (k v:Int):∃H',xO H A.sd (.int k) (.int v) H'/\Lm CL c H' A ((s.pt p0).begin k v)/\FL A H H':=by
 obtain⟨H',d,⟨o,rfl⟩,h⟩:=hs.put (by lia) k v
 obtain⟨kvs,e,_⟩:=hs
 obtain⟨o1,b,⟨k2,d2,r2⟩,_,ne⟩:=M
 have lp:(s.D.pts++[p0]).length=s.D.pts.length+ 1:=by rw[aM];rfl
 refine⟨_,d,⟨by rw[eN (jh o1 e (fun z=>nomatch z))];exact o1,Bw.dk b e,⟨k2,by rw[eN ne];exact d2,r2⟩,?_,ne⟩,wW (by simp[La.ch])⟩
 show DkI _ A.sd (put s.st k v) (s.D.pts++[p0]).length
 rw[lp]
 exact h
inductive XSt (CP:Addr) (vs:List V) (H:Hp) (Q:VK):Prop
 |mk (a n r w dx:Addr) (xs:List V) (names:List Str) (roots:List Nat) (ρs:List Ro) (p:Int) (d:Nat) (e:vs=[.ref a,.int p,.int (d:Int)]) (pr:PrA CP H a n r w dx xs names roots ρs) (hd:d<roots.length) (q:Q (.bl (inF roots p d)) H)
def FP (CP:Addr):Sp:=fun vs H Q _=>XSt CP vs H Q
theorem sx {L:Lf} {roots:List Nat} {d r:Int} {s s':Ls} (h:wV L roots d s=some (r,s')):∃r0 q0 s2,atZ roots d=some r0/\L (r0:Int) ((s.pt r0).begin d s.n)=some (q0,s2)/\r=s.n/\s'=s2.fl q0 s.n:=by
 unfold wV at h
 cases e:atZ roots d with
 |none=>rw[e]at h;cases h
 |some r0=>
  rw[e]at h
  dsimp only at h
  cases e2:L (r0:Int) ((s.pt r0).begin d s.n)with
  |none=>rw[e2]at h;cases h
  |some z=>obtain⟨q0,s2⟩:=z;rw[e2]at h;cases h;exact⟨r0,q0,s2,rfl,e2,rfl,rfl⟩
inductive XLd (CL CP:Addr) (c:Cs) (f:Nat) (vs:List V) (H:Hp) (Q:VK):Prop
 |mk (A:La) (s s':Ls) (d r:Int) (names:List Str) (roots:List Nat) (ρs:List Ro) (ho:Nat->Option Hm) (e:vs=[.ref A.l,.int d]) (M:Lm CL c H A s) (C:Cp CP H A names roots ρs ho) (hl:wV (jK ρs roots ho f) roots d s=some (r,s')) (hz:Sz 1000000 s') (q:∀H',Lm CL c H' A s'->FL A H H'->Q (.int r) H')
def FQ (CL CP:Addr) (c:Cs) (f:Nat):Sp:=fun vs H Q _=>XLd CL CP c f vs H Q
theorem tX (T:Txt K mg):FO P w base 1 T.d1 (FP T.c10.a):=by
 refine T.d1.F.ok oH (fun vs H Q E h=>?_) (fun cdv A0 outer s0 H vs Q E hr h=>?_)
 ·obtain⟨a,n,r,w,dx,xs,names,roots,ρs,p,d,rfl,_⟩:=h
  rfl
 obtain⟨a,n,r,w,dx,xs,names,roots,ρs,p,d,rfl,pr,hd,q⟩:=h
 refine⟨_,(eJ (pS (i:=3) oH.nd (fC ia (cv 2) eK))
  (eO (fm (Dp (nL gQ (cv 3) (fD fz rfl T.z_len gU (eE (fj T.c10.cl T.n10roots (cv 0)) eF))) (sX (nL qE (cv 1) (eU eR (fj T.c10.cl T.n10roots (cv 0)) (cv 3)))))))),?_⟩
 refine⟨_,⟨dx,_,pr.o,su _ _ _⟩,r,_,rfl,.inl (SqL.of pr.r),_,rfl,?_⟩
 show if(false ^^ decide ((d:Int)+ 1=(((roots.map nI).length:Nat):Int)))=true then _ else _
 rw[dO,aA,show decide ((d:Int)+ 1=(roots.length:Int))=decide (d+ 1=roots.length)from decide_eq_decide.mpr (by lia)]
 have ea:atZ roots ((d:Int)+ 1)=roots[d+ 1]?:=rfl
 unfold inF at q
 rw[ea]at q
 by_cases e:d+ 1=roots.length
 ·rw[List.getElem?_eq_none (by lia)]at q
  rw[gM e]
  exact kj q
 ·have h1:roots[d+ 1]?=some (roots[d+ 1]'(by lia)):=aZ (by lia)
  rw[h1]at q
  rw[gk e]
  refine jP ⟨_,⟨dx,_,pr.o,su _ _ _⟩,_,pr.r,eP (v:=nI (roots[d+ 1]'(by lia))) (eM (j:=d+ 1) (by rw[aI,h1];rfl)) ?_⟩
  exact q
theorem iE (T:Txt K mg) (f:Nat) (gE73:MO P w base mg (5*f+ 3) T.e73 (jL T.c9.a T.c10.a (cs T) f)):MO P w base mg (5*f+ 4) T.e72 (FQ T.c9.a T.c10.a (cs T) f):=by
 have gE66:=gj (P:=P) (w:=w) (base:=base) T
 have gE69:=hV (P:=P) (w:=w) (base:=base) T
 refine T.e72.F.ok gD (fun vs H Q E h=>?_) (fun cdv A0 outer s0 H vs Q E hr h=>?_)
 ·obtain⟨A,s,s',d,r,names,roots,ρs,ho,rfl,_⟩:=h
  rfl
 obtain⟨A,s,s',d,r,names,roots,ρs,ho,rfl,M,C,hl,hz,q⟩:=h
 have hu:=qD hr
 refine⟨_,(eJ (pS (i:=2) gD.nd (eU eR (fj T.c10.cl T.n10roots (fj T.c9.cl T.n9program (cv 0))) (cv 1)))
  (eJ (pS (i:=3) gD.nd (eY (fi (PE.mono (fj T.c9.cl T.n9board (cv 0))) T.c8.cl T.e66.me gE66 (hr.mono (by lia)) T.e66.b .nil fH (eE (cv 2) eF))))
  (eJ (mq hu (fj T.c9.cl T.n9starts (cv 0)) (cv 1) (cv 3) rfl)
  (eJ (eW (eY (fi (PE.mono (fj T.c9.cl T.n9board (cv 0))) T.c8.cl T.e69.me gE69 (hr.mono (by lia)) T.e69.b .nil fH (eE (eY (fi (PE.mono (cv 0)) T.c9.cl T.e73.me gE73 (hr.mono (by lia)) T.e73.b .nil fH (eE (cv 2) eF))) (eE (cv 3) eF)))))
  (eO (fm (cv 3))))))),?_⟩
 obtain⟨r0,q0,s2,hd,h2,rfl,rfl⟩:=sx hl
 obtain⟨d,rfl,hd3⟩:=gR hd
 obtain⟨n,rr,w',dx,xs,pr,_⟩:=C.p
 have l2:=f6 f _ _ _ _ h2
 have lp:=((Le.pt.trans (Le.be.trans (l2.trans Le.fl))).sz hz).p
 have lq:=((Le.be.trans (l2.trans Le.fl)).sz hz).p
 refine⟨_,⟨_,_,M.o,oB⟩,_,⟨_,_,pr.o,su _ _ _⟩,?_⟩
 refine⟨_,pr.r,eP (v:=nI r0) (eM (j:=d) (by rw[aI,hd3];rfl)) ?_⟩
 dsimp only[fu]
 refine⟨_,⟨_,_,M.o,fE⟩,⟨_,_,M.b.b,gZ _ _ _ _ _⟩,?_⟩
 refine tc1 (v:= .int r0) rfl (vI M (by lia) fun H1 M1 F1 _ d1=>?_)
 obtain⟨H2,dp,M2,F2⟩:=M1.start d1 (xb lq) d s.n
 have C2:=(C.fl M F1).fl M1 F2
 refine⟨_,⟨_,_,M1.o,tW⟩,A.sd,H2,rfl,dp,?_⟩
 refine⟨_,⟨_,_,M2.o,fE⟩,⟨_,_,M2.b.b,jB _ _ _ _ _⟩,⟨_,_,M2.o,g9 fo⟩,?_⟩
 refine tc1 (v:= .int r0) rfl (ip M2 C2 h2 (Le.fl.sz hz) fun H3 M3 F3 C3 k3=>?_)
 refine tc1 (v:= .int s.n) rfl (oz M3 (by have:=(Le.fl.sz hz:Sz _ s2).f;lia) fun H4 M4 F4=>?_)
 exact q _ M4 (F1.trans (F2.trans (F3.trans F4)))
def dpF (L:Lf) (roots:List Nat) (p d:Int) (s:Ls):Option (Int×Ls):=if inF roots p d then(s.st d).map fun q=>(q,s)else wV L roots d s
inductive XDp (CL CP:Addr) (c:Cs) (f:Nat) (vs:List V) (H:Hp) (Q:VK):Prop
 |mk (A:La) (s s':Ls) (p:Int) (d:Nat) (r:Int) (names:List Str) (roots:List Nat) (ρs:List Ro) (ho:Nat->Option Hm) (e:vs=[.ref A.l,.int p,.int (d:Int)]) (M:Lm CL c H A s) (C:Cp CP H A names roots ρs ho) (hd:d<roots.length) (hl:dpF (jK ρs roots ho f) roots p d s=some (r,s')) (hz:Sz 1000000 s') (q:∀H',Lm CL c H' A s'->FL A H H'->Q (.int r) H')
def FT (CL CP:Addr) (c:Cs) (f:Nat):Sp:=fun vs H Q _=>XDp CL CP c f vs H Q
inductive XMp (CL CP:Addr) (c:Cs) (f:Nat) (vs:List V) (H:Hp) (Q:VK):Prop
 |mk (A:La) (s s':Ls) (k:Nat) (r:Int) (ρ:Ro) (h:Hm) (names:List Str) (roots:List Nat) (ρs:List Ro) (ho:Nat->Option Hm) (e:vs=[.ref A.l,.int (k:Int)]) (M:Lm CL c H A s) (C:Cp CP H A names roots ρs ho) (hk:ρs[k]?=some ρ) (hh:ho k=some h) (hl:iW (jK ρs roots ho f) roots h k s=some (r,s')) (hz:Sz 1000000 s') (q:∀H',Lm CL c H' A s'->FL A H H'->Q (.int r) H')
def FU (CL CP:Addr) (c:Cs) (f:Nat):Sp:=fun vs H Q _=>XMp CL CP c f vs H Q
def FV:Sp:=fun _ _ _ _=>False
theorem yU (T:Txt K mg):FO P w base 1 T.d2 FV:=
 T.d2.F.ok yF (fun vs H Q E h=>h.elim) (fun cdv A0 outer s0 H vs Q E hr h=>h.elim)
theorem mX (T:Txt K mg) (f:Nat) (gE73:MO P w base mg (5*f+ 3) T.e73 (jL T.c9.a T.c10.a (cs T) f)):FO P w base (5*f+ 5) T.d11 (FT T.c9.a T.c10.a (cs T) f):=by
 have gE72:=iE (P:=P) (w:=w) (base:=base) T f gE73
 have gD1:=tX (P:=P) (w:=w) (base:=base) T
 have gD2:=yU (P:=P) (w:=w) (base:=base) T
 refine T.d11.F.ok mJ (fun vs H Q E h=>?_) (fun cdv A0 outer s0 H vs Q E hr h=>?_)
 ·obtain⟨A,s,s',p,d,r,names,roots,ρs,ho,rfl,_⟩:=h
  rfl
 obtain⟨A,s,s',p,d,r,names,roots,ρs,ho,rfl,M,C,hd,hl,hz,q⟩:=h
 have hu:=qD hr
 refine⟨_,(eJ (fV (oF (pF T.d1 gD1 (hr.mono (by lia)) (eE (fj T.c9.cl T.n9program (cv 0)) (eE (cv 1) (eE (cv 2) eF)))))
   (eO (fm (kn hu (fj T.c9.cl T.n9starts (cv 0)) (cv 2))))
   fF)
  (eJ (fV (AF (xu (fj T.c9.cl T.n9papers (cv 0))))
   (eO (fm (eY (fi (PE.mono (cv 0)) T.c9.cl T.e72.me gE72 (hr.mono (by lia)) T.e72.b .nil fH (eE (cv 2) eF)))))
   fF)
  (eO (fm (pF T.d2 gD2 (hr.mono (by lia)) (eE (fj T.c9.cl T.n9board (cv 0)) (eE (eU eR (fj T.c9.cl T.n9papers (cv 0)) (cv 2)) (eE (cv 1) eF)))))))),?_⟩
 obtain⟨n,rr,w',dx,xs,pr,_⟩:=C.p
 refine⟨_,⟨_,_,M.o,oB⟩,A.p,n,rr,w',dx,xs,names,roots,ρs,p,d,rfl,pr,hd,_,rfl,?_⟩
 unfold dpF at hl
 cases e:inF roots p d with
 |true=>
  rw[e,fY rfl]at hl
  obtain⟨v,hv,e2⟩:=cm.mp hl
  cases e2
  exact kj ⟨_,⟨_,_,M.o,tW⟩,A.sd,_,rfl,M.sd.get hv,q _ M FL.refl⟩
 |false=>
  rw[e,fJ (by decide)]at hl
  refine jP ⟨_,⟨_,_,M.o,yT⟩,_,rfl,kj ⟨⟨_,_,M.o,g9 fo⟩,?_⟩⟩
  exact⟨A,s,s',d,r,names,roots,ρs,ho,rfl,M,C,hl,hz,q⟩
theorem qP (T:Txt K mg) (f:Nat) (gE73:MO P w base mg (5*f+ 3) T.e73 (jL T.c9.a T.c10.a (cs T) f)):FO P w base (5*f+ 6) T.d10 (FU T.c9.a T.c10.a (cs T) f):=by
 have gD11:=mX (P:=P) (w:=w) (base:=base) T f gE73
 refine T.d10.F.ok lY (fun vs H Q E h=>?_) (fun cdv A0 outer s0 H vs Q E hr h=>?_)
 ·obtain⟨A,s,s',k,r,ρ,h,names,roots,ρs,ho,rfl,_⟩:=h
  rfl
 obtain⟨A,s,s',k,r,ρ,h,names,roots,ρs,ho,rfl,M,C,hk,hh,hl,hz,q⟩:=h
 have hu:=qD hr
 refine⟨_,(eJ (pS (i:=2) lY.nd (eU eR (fj T.c9.cl T.n9homes (cv 0)) (cv 1)))
  (eJ (fV (fg gQ (eU fc (cv 2) eK) eZ)
   (eO (fm (eY (fi (PE.mono (cv 0)) T.c9.cl T.e73.me gE73 (hr.mono (by lia)) T.e73.b .nil fH (eE (eU fc (cv 2) eK) eF)))))
   fF)
  (eJ (fV (fg gQ (eU fc (cv 2) eK) eZ)
   (eO (fm (pF T.d11 gD11 (hr.mono (by lia)) (eE (cv 0) (eE (cv 1) (eE (eU fc (cv 2) eK) eF))))))
   fF)
  (eO (fm (kn hu (fj T.c9.cl T.n9held (cv 0)) (eU fc (cv 2) eK))))))),?_⟩
 obtain⟨hs,eh,_,hy⟩:=C.h
 obtain⟨y,ey,iy⟩:=hy _ _ hk
 rw[hh]at iy
 obtain⟨t,y1,y2,rfl,et,j1,j2⟩:=sv (show Im H y (.tup [sD h.1,kD h.2])from iy)
 cases jz j1
 cases iG j2
 refine⟨_,⟨_,_,M.o,Af⟩,_,eh,eP (eM ey) ?_⟩
 dsimp only[fu]
 unfold iW at hl
 by_cases e1:h.1="let"
 ·rw[fY e1]at hl
  refine ij (i:=2) (x:="let") ?_ et (gM e1) ?_
  ·rfl
  exact⟨⟨_,_,M.o,g9 fo⟩,_,et,eP (eM (j:=1) rfl) (ip M C hl hz fun H' M' F' _ _=>q H' M' F')⟩
 rw[fJ e1]at hl
 refine fQ (i:=2) (x:="let") ?_ et (gk e1) ?_
 ·rfl
 dsimp only[ji]
 by_cases e2:h.1="def"
 ·rw[fY e2]at hl
  obtain⟨d,hd,ld⟩:=C.dom _ _ hh e2
  rw[hd]at hl et
  refine ij (i:=2) (x:="def") ?_ et (gM e2) ?_
  ·rfl
  exact⟨_,et,eP (eM (j:=1) rfl) ⟨A,s,s',k,d,r,names,roots,ρs,ho,rfl,M,C,ld,hl,hz,q⟩⟩
 rw[fJ e2]at hl
 refine fQ (i:=2) (x:="def") ?_ et (gk e2) ?_
 ·rfl
 obtain⟨v,hv,e3⟩:=cm.mp hl
 cases e3
 exact⟨_,⟨_,_,M.o,uU⟩,_,et,eP (eM (j:=1) rfl) ⟨A.hd,_,rfl,M.hd.get hv,q _ M FL.refl⟩⟩
theorem u4 (T:Txt K mg) (f:Nat) (gE73:MO P w base mg (5*f+ 3) T.e73 (jL T.c9.a T.c10.a (cs T) f)):FO P w base (5*f+ 7) T.d9 (ir T.c9.a T.c10.a (cs T) f fun ρ=>∃n,ρ= .name n):=by
 have gE69:=hV (P:=P) (w:=w) (base:=base) T
 have gD10:=qP (P:=P) (w:=w) (base:=base) T f gE73
 refine T.d9.F.ok uQ (fun vs H Q E h=>?_) (fun cdv A0 outer s0 H vs Q E hr h=>?_)
 ·obtain⟨A,s,s',p,own,t,ρ,names,roots,ρs,ho,rfl,_⟩:=h
  rfl
 obtain⟨A,s,s',p,own,t,ρ,names,roots,ρs,ho,rfl,M,C,hk,⟨n,rfl⟩,it,hl,hz,q⟩:=h
 refine⟨_,(eO (eW (eY (fi (PE.mono (fj T.c9.cl T.n9board (cv 0))) T.c8.cl T.e69.me gE69 (hr.mono (by lia)) T.e69.b .nil fH (eE (pF T.d10 gD10 (hr.mono (by lia)) (eE (cv 0) (eE (cv 2) eF))) (eE (cv 3) eF)))))),?_⟩
 obtain⟨k,rfl,hk⟩:=gR hk
 obtain⟨h,r,s1,hh,h1,hl⟩:∃h r s1,ho k=some h/\iW (jK ρs roots ho f) roots h k s=some (r,s1)/\some (s1.fl r own)=some s':=by
  unfold hX at hl
  dsimp only at hl
  rw[show((k:Int)).toNat=k from rfl]at hl
  cases e:ho k with
  |none=>rw[e]at hl;cases hl
  |some h=>
   rw[e]at hl
   dsimp only at hl
   cases e2:iW (jK ρs roots ho f) roots h k s with
   |none=>rw[e2]at hl;cases hl
   |some z=>obtain⟨r,s1⟩:=z;rw[e2]at hl;exact⟨h,r,s1,rfl,e2,hl⟩
 cases cf.inj hl
 refine⟨_,⟨_,_,M.o,fE⟩,⟨_,_,M.b.b,jB _ _ _ _ _⟩,A,s,s1,k,r,_,h,names,roots,ρs,ho,rfl,M,C,hk,hh,h1,Le.fl.sz hz,fun H1 M1 F1=>?_⟩
 exact tc1 (v:= .int own) rfl (oz M1 (by have:=(Le.fl.sz hz:Sz _ s1).f;lia) fun H' M' F'=>q H' M' (F1.trans F'))
def U1:Ro->Prop
 | .op o _=>o="call"\/o="at"\/o="join"\/o="size"\/o="add"\/o="sub"\/o="less"
 |_=>True
theorem Ee {L:Lf} {roots:List Nat} {h:Option Hm} {p own:Int} {s s':Ls} {ρ:Ro} (hl:hX L roots h p own s ρ=some s'):U1 ρ:=by
 cases ρ with
 |op o ks=>
  show o="call"\/o="at"\/o="join"\/o="size"\/o="add"\/o="sub"\/o="less"
  by_cases h1:o="call"
  ·exact .inl h1
  by_cases h2:o="at"
  ·exact .inr (.inl h2)
  by_cases h3:o="join"
  ·exact .inr (.inr (.inl h3))
  by_cases h4:o="size"
  ·exact .inr (.inr (.inr (.inl h4)))
  by_cases h5:o="add"\/o="sub"
  ·rcases h5 with h5|h5
   ·exact .inr (.inr (.inr (.inr (.inl h5))))
   ·exact .inr (.inr (.inr (.inr (.inr (.inl h5)))))
  by_cases h6:o="less"
  ·exact .inr (.inr (.inr (.inr (.inr (.inr h6)))))
  obtain⟨a,b,rfl⟩:=l6 h4 h2 hl
  unfold hX at hl
  dsimp only at hl
  rw[fJ h1,fJ h3,fJ h6,fJ h5]at hl
  cases hl
 |_=>trivial
theorem sy {ρs:List Ro} {roots:List Nat} {ho:Nat->Option Hm} {f:Nat} {p r:Int} {s s':Ls} (h:jK ρs roots ho (f+ 1) p s=some (r,s')):∃ρ,atZ ρs p=some ρ/\hX (jK ρs roots ho f) roots (ho p.toNat) p s.n (s.pt p) ρ=some s'/\r=s.n:=by
 unfold jK at h
 cases e:atZ ρs p with
 |none=>rw[e]at h;cases h
 |some ρ=>
  rw[e]at h
  dsimp only at h
  cases e2:hX (jK ρs roots ho f) roots (ho p.toNat) p s.n (s.pt p) ρ with
  |none=>rw[e2]at h;cases h
  |some z=>rw[e2]at h;cases h;exact⟨ρ,rfl,e2,rfl⟩
inductive LyS (T:Txt K mg) (f:Nat):Addr->Sp->Prop
 |num:LyS T f T.d8.a (ir T.c9.a T.c10.a (cs T) f fun ρ=>∃n,ρ= .num n)
 |name:LyS T f T.d9.a (ir T.c9.a T.c10.a (cs T) f fun ρ=>∃n,ρ= .name n)
 |fn:LyS T f T.d12.a (ir T.c9.a T.c10.a (cs T) f fun ρ=>X2 fun n k=>ρ= .fn n k)
 |call:LyS T f T.d13.a (ir T.c9.a T.c10.a (cs T) f fun ρ=>∃ks,ρ= .op "call" ks)
 |lt:LyS T f T.d14.a (ir T.c9.a T.c10.a (cs T) f fun ρ=>X3 fun n a b=>ρ= .lt n a b)
 |rcd:LyS T f T.d15.a (ir T.c9.a T.c10.a (cs T) f fun ρ=>∃l,ρ= .rcd l)
 |get:LyS T f T.d16.a (ir T.c9.a T.c10.a (cs T) f fun ρ=>X2 fun k n=>ρ= .get k n)
 |tag:LyS T f T.d17.a (ir T.c9.a T.c10.a (cs T) f fun ρ=>X2 fun n k=>ρ= .tag n k)
 |case:LyS T f T.d18.a (ir T.c9.a T.c10.a (cs T) f fun ρ=>X2 fun k l=>ρ= .case k l)
 |row:LyS T f T.d19.a (ir T.c9.a T.c10.a (cs T) f fun ρ=>∃ks,ρ= .row ks)
 |ix:LyS T f T.d20.a (ir T.c9.a T.c10.a (cs T) f fun ρ=>∃ks,ρ= .op "at" ks)
 |join:LyS T f T.d21.a (ir T.c9.a T.c10.a (cs T) f fun ρ=>∃ks,ρ= .op "join" ks)
 |size:LyS T f T.d22.a (ir T.c9.a T.c10.a (cs T) f fun ρ=>∃ks,ρ= .op "size" ks)
 |sum:LyS T f T.d23.a (ir T.c9.a T.c10.a (cs T) f fun ρ=>X2 fun o ks=>ρ= .op o ks/\(o="add"\/o="sub"))
 |less:LyS T f T.d24.a (ir T.c9.a T.c10.a (cs T) f fun ρ=>∃ks,ρ= .op "less" ks)
theorem LyS.ok {T:Txt K mg} {f:Nat} {X:Cx} (e1:X.prog=P) (e2:X.w=w) (e3:X.K=K) (e4:X.mg=mg) (e5:X.base=base) (G:MO P w base mg (5*f+ 3) T.e73 (jL T.c9.a T.c10.a (cs T) f)) {a:Addr} {sp:Sp} (h:LyS T f a sp):GO X CX0 (5*f+ 7) a sp:=by
 subst e1 e2 e3 e4 e5
 cases h with
 |num=>exact⟨_,_,wX T f,T.d8.k,T.d8.b⟩
 |name=>exact⟨_,_,u4 T f G,T.d9.k,T.d9.b⟩
 |fn=>exact⟨_,_,yS T f G,T.d12.k,T.d12.b⟩
 |call=>exact⟨_,_,uV T f G,T.d13.k,T.d13.b⟩
 |lt=>exact⟨_,_,xa T f G,T.d14.k,T.d14.b⟩
 |rcd=>exact⟨_,_,xh T f G,T.d15.k,T.d15.b⟩
 |get=>exact⟨_,_,wZ T f G,T.d16.k,T.d16.b⟩
 |tag=>exact⟨_,_,wY T f G,T.d17.k,T.d17.b⟩
 |case=>exact⟨_,_,uZ T f G,T.d18.k,T.d18.b⟩
 |row=>exact⟨_,_,xg T f G,T.d19.k,T.d19.b⟩
 |ix=>exact⟨_,_,yR T f G,T.d20.k,T.d20.b⟩
 |join=>exact⟨_,_,uX T f G,T.d21.k,T.d21.b⟩
 |size=>exact⟨_,_,uW T f G,T.d22.k,T.d22.b⟩
 |sum=>exact⟨_,_,xf T f G,T.d23.k,T.d23.b⟩
 |less=>exact⟨_,_,uY T f G,T.d24.k,T.d24.b⟩
structure Lk (P:Program) (w:World) (T:Txt K mg) where
 a:Addr
 m:mg "LAYERS"=some (.ref a)
 kvs:List (Key×V)
 kd:BW P w K a kvs
 yes:∀ρ,U1 ρ->∃g,kN kvs (Sum.inr ρ.s)=some (.ref g)/\∀f,∃U,LyS T f g (ir T.c9.a T.c10.a (cs T) f U)/\U ρ
theorem qQ (T:Txt K mg) (W:Lk P w T) (f:Nat) (gE73:MO P w base mg (5*f+ 3) T.e73 (jL T.c9.a T.c10.a (cs T) f)):MO P w base mg (5*(f+ 1)+ 3) T.e73 (jL T.c9.a T.c10.a (cs T) (f+ 1)):=by
 have gE66:=gj (P:=P) (w:=w) (base:=base) T
 refine T.e73.F.ok jx (fun vs H Q E h=>?_) (fun cdv A0 outer s0 H vs Q E hr h=>?_)
 ·obtain⟨A,s,s',p,r,names,roots,ρs,ho,rfl,_⟩:=h
  rfl
 obtain⟨A,s,s',p,r,names,roots,ρs,ho,rfl,M,C,hl,hz,q⟩:=h
 refine⟨_,(eJ (pS (i:=2) jx.nd (eU eR (fj T.c10.cl T.n10rows (fj T.c9.cl T.n9program (cv 0))) (cv 1)))
  (eJ (pS (i:=3) jx.nd (eY (fi (PE.mono (fj T.c9.cl T.n9board (cv 0))) T.c8.cl T.e66.me gE66 (hr.mono (by lia)) T.e66.b .nil fH (eE (cv 1) eF))))
  (eJ (eW (zW (fun g sp (h:LyS T f g sp)=>h.ok rfl rfl rfl rfl rfl gE73) (hr.mono (by lia)) fH (BX W.kd (ya rfl W.m) (eU fc (cv 2) eK)) (eE (cv 0) (eE (cv 2) (eE (cv 1) (eE (cv 3) eF))))))
  (eO (fm (cv 3)))))),?_⟩
 obtain⟨ρ,hk,h1,e1⟩:=sy hl
 cases e1
 obtain⟨k,rfl,hk'⟩:=gR hk
 obtain⟨n,rr,w',dx,xs,pr,_⟩:=C.p
 obtain⟨tr,ys,hxt,etr,_,him⟩:=yQ pr.i hk'
 obtain⟨g,hv,hS⟩:=W.yes ρ (Ee h1)
 obtain⟨U,hS,hU⟩:=hS f
 have lp:=((Le.pt.trans (kf (f6 f) h1)).sz hz).p
 refine⟨_,⟨_,_,M.o,oB⟩,_,⟨_,_,pr.o,Cj _ _ _⟩,_,pr.w,eP (eM hxt) ?_⟩
 dsimp only[fu]
 refine⟨_,⟨_,_,M.o,fE⟩,⟨_,_,M.b.b,gZ _ _ _ _ _⟩,?_⟩
 refine tc1 (v:= .int k) rfl (yO M (by lia) fun H1 M1 F1=>?_)
 refine⟨_,F1.tup M etr,eP (eM (j:=0) rfl) ⟨Sum.inr ρ.s,_,rfl,rfl,hv,g,_,rfl,hS,?_⟩⟩
 exact⟨A,_,s',k,s.n,tr,ρ,names,roots,ρs,ho,rfl,M1,C.fl M F1,hk,hU,him.mono (M.tk F1),h1,hz,fun H' M' F'=>q H' M' (F1.trans F')⟩
theorem nB (T:Txt K mg) (W:Lk P w T):∀f:Nat,MO P w base mg (5*f+ 3) T.e73 (jL T.c9.a T.c10.a (cs T) f)
 |0=>by
  refine T.e73.F.ok jx (fun vs H Q E h=>?_) (fun cdv A0 outer s0 H vs Q E hr h=>?_)
  ·obtain⟨A,s,s',p,r,names,roots,ρs,ho,rfl,_⟩:=h
   rfl
  ·obtain⟨A,s,s',p,r,names,roots,ρs,ho,rfl,M,C,hl,_⟩:=h
   cases hl
 |f+ 1=>qQ T W f (nB T W f)
def s00:Ls:=⟨⟨[],[],[],[],0⟩,fun _=>none,fun _=>none⟩
structure Jx (CL dx x:Addr) (H0 H:Hp) (fs:List (Str×V)) (ks:List (Addr×HO)):Prop where
 x0:∃u,H0 x=some u
 o:H x=some (.ins CL dx fs)
 k:∀b u,H0 b=some u->b≠x->H b=some u
 m:∀q∈ks,H q.1=some q.2/\H0 q.1=none
section
variable {CL dx x:Addr} {H0 H H':Hp} {fs:List (Str×V)} {ks:List (Addr×HO)}
theorem Jx.fld (j:Jx CL dx x H0 H fs ks) (gs:List (Str×V)):Jx CL dx x H0 (L2.Internal.upd H x (.ins CL dx gs)) gs ks:=
 let⟨_,e⟩:=j.x0
 ⟨j.x0,eG,fun b u h n=>by rw[eN n];exact j.k b u h n,fun q hq=>⟨by rw[eN (fun z=>by have:=(j.m q hq).2;rw[z,e]at this;cases this)];exact(j.m q hq).1,(j.m q hq).2⟩⟩
theorem Jx.non0 (j:Jx CL dx x H0 H fs ks) {a:Addr} (h:H a=none):H0 a=none:=by
 cases e:H0 a with
 |none=>rfl
 |some u=>
  have n:a≠x:=fun z=>by rw[z,j.o]at h;cases h
  rw[j.k a u e n]at h
  cases h
theorem Jx.add (j:Jx CL dx x H0 H fs ks) (S:fG H H') (l:List (Addr×HO)) (hl:∀q∈l,H q.1=none/\H' q.1=some q.2):Jx CL dx x H0 H' fs (l++ks):=
 ⟨j.x0,S _ _ j.o,fun b u h n=>S _ _ (j.k b u h n),fun q hq=>by
  rcases aj.mp hq with h|h
  ·exact⟨(hl q h).2,j.non0 (hl q h).1⟩
  ·exact⟨S _ _ (j.m q h).1,(j.m q h).2⟩⟩
end
inductive XLi (CL:Addr) (c:Cs) (vs:List V) (H:Hp) (Q:VK):Prop
 |mk (x dx p h:Addr) (e:vs=[.ref x,.ref p,.ref h,.non]) (o:H x=some (.ins CL dx [])) (q:∀(A:La) (H':Hp),A.l=x->A.p=p->A.h=h->Lm CL c H' A s00->(∀b o,H b=some o->b≠x->H' b=some o)->(∀a∈A.B.b::A.ch,H a=none)->Q .non H')
def FW (CL:Addr) (c:Cs):Sp:=fun vs H Q _=>XLi CL c vs H Q
theorem nE (T:Txt K mg):MO P w base mg 3 T.e71 (FW T.c9.a (cs T)):=by
 have gE65:=ox (P:=P) (w:=w) (base:=base) T
 refine T.e71.F.ok nv (fun vs H Q E h=>?_) (fun cdv A0 outer s0 H vs Q E hr h=>?_)
 ·obtain⟨x,dx,p,h,rfl,_⟩:=h
  rfl
 obtain⟨x,dx,p,h,rfl,o,q⟩:=h
 refine⟨_,(eJ (kq T.c9.cl T.n9program (gC (PE.mono (cv 0)) (PE.mono (cv 1)) rfl))
  (eJ (kq T.c9.cl T.n9homes (gC (PE.mono (cv 0)) (PE.mono (cv 2)) rfl))
  (eJ (kq T.c9.cl T.n9papers (gC (PE.mono (cv 0)) (PE.mono (cv 3)) rfl))
  (eJ (kq T.c9.cl T.n9board (gC (PE.mono (cv 0)) (PE.mono (zM T.mk8 gE65 hr.m rfl T.c8.m T.e65.b .nil fH)) rfl))
  (eJ (kq T.c9.cl T.n9held (gC (PE.mono (cv 0)) (PE.mono rP) rfl))
  (eO (kq T.c9.cl T.n9starts (gC (PE.mono (cv 0)) (PE.mono rP) rfl)))))))),?_⟩
 have j0:Jx T.c9.a dx x H H [] []:=⟨⟨_,o⟩,o,fun _ _ e _=>e,fun q hq=>by cases hq⟩
 refine⟨_,_,o,(by show 0<1000;decide),?_⟩
 have j1:=j0.fld (ja "program" (.ref p) [])
 dsimp only
 generalize L2.Internal.upd H x (.ins T.c9.a dx (ja "program" (.ref p) []))=H1 at j1⊢
 refine⟨_,_,j1.o,(by show 1<1000;decide),?_⟩
 have j2:=j1.fld (ja "homes" (.ref h) (ja "program" (.ref p) []))
 dsimp only
 generalize L2.Internal.upd H1 x _=H2 at j2⊢
 refine⟨_,_,j2.o,(by show 2<1000;decide),?_⟩
 have j3:=j2.fld (ja "papers" .non (ja "homes" (.ref h) (ja "program" (.ref p) [])))
 dsimp only
 generalize L2.Internal.upd H2 x _=H3 at j3⊢
 rw[show ja "papers" .non (ja "homes" (.ref h) (ja "program" (.ref p) []))=([("program",.ref p),("homes",.ref h),("papers",.non)]:List (Str×V)) by kernel_rfl]at j3
 refine fun b bx hb hbx nx=>⟨b,bx,rfl,eG,fun p0 p1 p2 p3 H4 hn nd eb el hk=>⟨rfl,?_⟩⟩
 have Sm:=iV (o:= .ins T.c8.a bx []) hb hbx
 have S4:fG H3 H4:=fun y u e=>hk y u (Sm _ _ e) (eT e hb)
 have hn3:∀a∈[p0,p1,p2,p3],H3 a=none:=fun a ha=>by
  cases e:H3 a with
  |none=>rfl
  |some u=>have:=hn a ha;rw[Sm _ _ e]at this;cases this
 obtain⟨l0,l1,l2,l3⟩:H4 p0=some (.lst [])/\H4 p1=some (.lst [])/\H4 p2=some (.lst [])/\H4 p3=some (.lst []):=by
  cases el with
  |cons a0 el=>cases el with
   |cons a1 el=>cases el with
    |cons a2 el=>cases el with
     |cons a3 el=>exact⟨a0,a1,a2,a3⟩
 have j4:=j3.add S4 [(b,.ins T.c8.a bx (fB p0 p1 p2 p3 (.int 0))),(p0,.lst []),(p1,.lst []),(p2,.lst []),(p3,.lst [])] (fun q hq=>by
  simp only[ai,bf,or_false]at hq
  rcases hq with rfl|rfl|rfl|rfl|rfl
  ·exact⟨hb,eb⟩
  ·exact⟨hn3 p0 (by simp),l0⟩
  ·exact⟨hn3 p1 (by simp),l1⟩
  ·exact⟨hn3 p2 (by simp),l2⟩
  ·exact⟨hn3 p3 (by simp),l3⟩)
 clear hn3 hn hk Sm
 refine⟨_,_,j4.o,(by show 3<1000;decide),?_⟩
 have j5:=j4.fld (ja "board" (.ref b) [("program",.ref p),("homes",.ref h),("papers",.non)])
 dsimp only
 generalize L2.Internal.upd H4 x _=H5 at j5⊢
 rw[show ja "board" (.ref b) [("program",.ref p),("homes",.ref h),("papers",.non)]=([("program",.ref p),("homes",.ref h),("papers",.non),("board",.ref b)]:List (Str×V)) by kernel_rfl]at j5
 refine fun d hd=>?_
 have j6:=j5.add (eL hd (.dK [])) [(d,.dK [])] (fun q hq=>by
  rcases aY.mp hq with rfl
  exact⟨hd,eG⟩)
 refine⟨_,_,j6.o,(by show 4<1000;decide),?_⟩
 have j7:=j6.fld (ja "held" (.ref d) [("program",.ref p),("homes",.ref h),("papers",.non),("board",.ref b)])
 dsimp only
 generalize L2.Internal.upd (L2.Internal.upd H5 d _) x _=H7 at j7⊢
 rw[show ja "held" (.ref d) [("program",.ref p),("homes",.ref h),("papers",.non),("board",.ref b)]=([("program",.ref p),("homes",.ref h),("papers",.non),("board",.ref b),("held",.ref d)]:List (Str×V)) by kernel_rfl]at j7
 refine fun e he=>?_
 have ne:d≠e:=eT (j7.m (d,.dK []) (by simp)).1 he
 have j8:=j7.add (eL he (.dK [])) [(e,.dK [])] (fun q hq=>by
  rcases aY.mp hq with rfl
  exact⟨he,eG⟩)
 refine⟨_,_,j8.o,(by show 5<1000;decide),?_⟩
 have j9:=j8.fld (ja "starts" (.ref e) [("program",.ref p),("homes",.ref h),("papers",.non),("board",.ref b),("held",.ref d)])
 dsimp only
 generalize L2.Internal.upd (L2.Internal.upd H7 e _) x _=H9 at j9⊢
 rw[show ja "starts" (.ref e) [("program",.ref p),("homes",.ref h),("papers",.non),("board",.ref b),("held",.ref d)]=fLy p h b d e by kernel_rfl]at j9
 have m:=fun q hq=>(j9.m q hq).1
 have mb:=m (b,.ins T.c8.a bx (fB p0 p1 p2 p3 (.int 0))) (by simp)
 have m0:=m (p0,.lst []) (by simp)
 have m1:=m (p1,.lst []) (by simp)
 have m2:=m (p2,.lst []) (by simp)
 have m3:=m (p3,.lst []) (by simp)
 have md:=m (d,.dK []) (by simp)
 have me:=m (e,.dK []) (by simp)
 refine q ⟨x,dx,p,h,⟨b,bx,p0,p1,p2,p3⟩,d,e⟩ H9 rfl rfl rfl ⟨j9.o,⟨mb,m0,⟨[],m1,.nil⟩,⟨[],m2,.nil⟩,⟨[],m3,.nil⟩,nd⟩,⟨[],md,bX _,fun _=>rfl⟩,⟨[],me,bX _,fun _=>rfl⟩,ne⟩ j9.k ?_
 intro a ha
 simp only[La.ch,Ad.ls,aQ,List.nil_append,ai,bf,or_false]at ha
 rcases ha with rfl|rfl|rfl|rfl|rfl|rfl|rfl
 ·exact(j9.m (_,.ins T.c8.a bx (fB p0 p1 p2 p3 (.int 0))) (by simp)).2
 ·exact(j9.m (_,.lst []) (by simp)).2
 ·exact(j9.m (_,.lst []) (by simp)).2
 ·exact(j9.m (_,.lst []) (by simp)).2
 ·exact(j9.m (_,.lst []) (by simp)).2
 ·exact(j9.m (_,.dK []) (by simp)).2
 ·exact(j9.m (_,.dK []) (by simp)).2
structure Cq (CP:Addr) (H:Hp) (p h:Addr) (names:List Str) (roots:List Nat) (ρs:List Ro) (ho:Nat->Option Hm):Prop where
 p:∃n r w dx xs,PrA CP H p n r w dx xs names roots ρs
 h:∃hs,H h=some (.lst hs)/\∀(k:Nat) (ρ:Ro),ρs[k]?=some ρ->∃y,hs[k]?=some y/\Im H y (hoD (ho k))
 few:∀(k:Nat) (ρ:Ro),ρs[k]?=some ρ->ρ.few
 dom:∀(k:Nat) (h:Hm),ho k=some h->h.1="def"->∃d:Nat,h.2=(d:Int)/\d<roots.length
theorem Cq.cp {CP:Addr} {H H':Hp} {A:La} {names:List Str} {roots:List Nat} {ρs:List Ro} {ho:Nat->Option Hm} (x:Cq CP H A.p A.h names roots ρs ho) (S:fG H H') (hn:∀a∈A.ch,H a=none):Cp CP H' A names roots ρs ho:=by
 obtain⟨⟨n,r,w,dx,xs,pr⟩,⟨hs,e,hh⟩,fw,dm⟩:=x
 have no:∀{a:Addr} {o:HO},H a=some o->a∉A.ch:=fun e z=>by rw[hn _ z]at e;cases e
 exact⟨⟨n,r,w,dx,xs,pr.same S,no pr.o,no pr.n,no pr.r,no pr.w⟩,⟨hs,S _ _ e,no e,fun j ρ hj=>let⟨y,a,b⟩:=hh j ρ hj;⟨y,a,b.mono (fG.tk S)⟩⟩,fw,dm⟩
inductive XLd2 (CP:Addr) (c:Cs) (f:Nat) (vs:List V) (H:Hp) (Q:VK):Prop
 |mk (p h:Addr) (d r:Int) (s':Ls) (names:List Str) (roots:List Nat) (ρs:List Ro) (ho:Nat->Option Hm) (e:vs=[.ref p,.ref h,.int d,.non]) (C:Cq CP H p h names roots ρs ho) (hl:wV (jK ρs roots ho f) roots d s00=some (r,s')) (hz:Sz 1000000 s') (q:∀B H',fG H H'->(∀a∈B.b::B.ls,H a=none)->Bw c H' B (.int r) s'.D->Q (.ref B.b) H')
def Cn (CP:Addr) (c:Cs) (f:Nat):Sp:=fun vs H Q _=>XLd2 CP c f vs H Q
theorem Co (T:Txt K mg) (W:Lk P w T) (f:Nat):qA P w K mg base CX0 (5*f+ 5) T.y7.a T.y7.fd ["program","homes","which","papers"] (Cn T.c10.a (cs T) f):=by
 have gE72:=iE (P:=P) (w:=w) (base:=base) T f (nB T W f)
 have gE71:=nE (P:=P) (w:=w) (base:=base) T
 have gE70:=qo (P:=P) (w:=w) (base:=base) T
 refine T.y7.F.ok yG (fun vs H Q E h=>?_) (fun cdv A0 outer s0 H vs Q E hr h=>?_)
 ·obtain⟨p,h,d,r,s',names,roots,ρs,ho,rfl,_⟩:=h
  rfl
 obtain⟨p,h,d,r,s',names,roots,ρs,ho,rfl,C,hl,hz,q⟩:=h
 refine⟨_,(eJ (pS (i:=4) yG.nd (jj T.mk9 gE71 (hr.mono (by lia)) rfl T.c9.m T.e71.b .nil fH (eE (cv 0) (eE (cv 1) (eE (cv 3) eF)))))
  (eJ (eW (eY (fi (PE.mono (fj T.c9.cl T.n9board (cv 4))) T.c8.cl T.e70.me gE70 (hr.mono (by lia)) T.e70.b .nil fH (eE (eY (fi (PE.mono (cv 4)) T.c9.cl T.e72.me gE72 (hr.mono (by lia)) T.e72.b .nil fH (eE (cv 2) eF))) eF))))
  (eO (fm (fj T.c9.cl T.n9board (cv 4)))))),?_⟩
 refine fun x dx hx hdx nx=>⟨x,dx,p,h,rfl,eG,fun A H1 eA ep eh M1 k1 n1=>⟨rfl,?_⟩⟩
 have Sm:=iV (o:= .ins T.c9.a dx []) hx hdx
 have S1:fG H H1:=fun y u e=>k1 y u (Sm _ _ e) (eT e hx)
 have hn:∀a∈A.B.b::A.ch,H a=none:=fun a ha=>by
  cases e:H a with
  |none=>rfl
  |some u=>have:=n1 a ha;rw[Sm _ _ e]at this;cases this
 clear n1 k1 Sm
 subst eA ep eh
 have C1:=C.cp S1 (fun a ha=>hn a (ah _ ha))
 dsimp only[fu]
 refine⟨_,⟨_,_,M1.o,fE⟩,⟨_,_,M1.b.b,tP _ _ _ _ _⟩,⟨_,_,M1.o,g9 fo⟩,?_⟩
 refine tc1 (v:= .int d) rfl ⟨A,s00,s',d,r,names,roots,ρs,ho,rfl,M1,C1,hl,hz,fun H2 M2 F2=>?_⟩
 refine⟨A.B.b,A.B.bx,A.B.p0,A.B.p1,A.B.p2,A.B.p3,.int 0,.int r,rfl,M2.b.b,?_⟩
 have nb:A.l≠A.B.b:=jh M2.o M2.b.b (fun z=>by
  injection z with _ _ z
  exact absurd (congrArg List.length z) (by show ¬(6:Nat)=5;decide))
 refine⟨_,⟨_,_,(by rw[eN nb];exact M2.o),fE⟩,?_⟩
 refine q A.B _ (fun y u e=>?_) (fun a ha=>hn a ?_) (M2.b.root (.int r))
 ·have ny:y∉A.B.b::A.ch:=fun z=>by rw[hn y z]at e;cases e
  rw[eN (fun z=>ny (by rw[z];exact ag))]
  exact F2 _ _ (S1 _ _ e) fun z=>ny (ah _ z)
 ·rcases ai.mp ha with rfl|ha
  ·exact ag
  ·exact ah _ (ak _ ha)
def Ah (L:Lf) (p own:Int) (h:Int->Option Int):List (Str×Str×Int)->List (Str×Int)->Ls->Option (List (Str×Int)×Ls)
 |[],acc,s=>some (acc,s)
 |a::l,acc,s=>match L a.2.2 {s.pt p with held:=put h a.2.2 s.n}with
  |some (q,s')=>Ah L p own h l (acc++[(a.1,s.n)]) (s'.fl q own)
  |none=>none
def Ai (L:Lf) (roots:List Nat) (d:Int) (s:Ls):Option (Int×Ls):=match atZ roots d with
 |some r=>match L (r:Int) (((s.pt r).hold (-1) s.n).hold (-2) d)with
  |some (q,s')=>some (s.n,s'.fl q s.n)
  |none=>none
 |none=>none
def nF (L:Lf) (roots:List Nat) (h:Hm) (s:Ls):Option (Int×Ls):=
 if h.1="let" then L h.2 s
 else if h.1="def" then if s.held (-2)=some h.2 then(s.held (-1)).map fun q=>(q,s)else Ai L roots h.2 s
 else(s.held h.2).map fun q=>(q,s)
def lG (L:Lf) (roots:List Nat) (ho:Option Hm) (p own:Int) (s:Ls) (ρ:Ro):Option Ls:=match ρ with
 | .name _=>match ho with
  |some h=>match nF L roots h s with
   |some (q,s)=>some (s.fl q own)
   |none=>none
  |none=>none
 | .case k l=>match L k s with
  |some (q,s)=>match Ah L p own s.held l [] s with
   |some (as,s)=>some (s.us (.case q p 0 as))
   |none=>none
  |none=>none
 |ρ=>hX L roots ho p own s ρ
def nG (ρs:List Ro) (roots:List Nat) (ho:Nat->Option Hm):Nat->Lf
 |0,_,_=>none
 |f+ 1,p,s=>match atZ ρs p with
  |some ρ=>match lG (nG ρs roots ho f) roots (ho p.toNat) p s.n (s.pt p) ρ with
   |some s'=>some (s.n,{s' with held:=s.held,st:=s.st})
   |none=>none
  |none=>none
def Wr (en:Int->Int) (p:Int) (h h':Int->Option Int):Prop:=∀k,h' k≠h k->(p<k/\k<en p)\/(k<p/\en k<=p)
def Nst (en:Int->Int):Prop:=∀k p,k<p->en k<=p\/en p<=en k
theorem Wr.refl {en:Int->Int} {p:Int} {h:Int->Option Int}:Wr en p h h:=fun _ n=>absurd rfl n
theorem Wr.trans {en:Int->Int} {p:Int} {h h1 h2:Int->Option Int} (a:Wr en p h h1) (b:Wr en p h1 h2):Wr en p h h2:=fun k n=>by
 by_cases e:h1 k=h k
 ·exact b k (by rw[e];exact n)
 ·exact a k e
theorem Wr.part {en:Int->Int} (N:Nst en) {p c:Int} {h h1:Int->Option Int} (a:Wr en c h h1) (z1:p<c) (z2:en c<=en p) (z3:c<en c):Wr en p h h1:=fun k n=>by
 rcases a k n with⟨x,y⟩|⟨x,y⟩
 ·exact .inl ⟨by lia,by lia⟩
 ·by_cases e:p<k
  ·exact .inl ⟨e,by lia⟩
  ·by_cases e2:k=p
   ·subst e2;lia
   ·have kp:k<p:=by lia
    rcases N k p kp with z|z
    ·exact .inr ⟨kp,z⟩
    ·lia
theorem Wr.ahead {en:Int->Int} {p c:Int} {h h1:Int->Option Int} (N:Nst en) (a:Wr en c h h1) (h2:en c<=p) (h3:c<en c):Wr en p h h1:=fun k n=>by
 rcases a k n with⟨x,y⟩|⟨x,y⟩
 ·rcases N k p (by lia)with z|z
  ·exact .inr ⟨by lia,z⟩
  ·rcases N c k x with u|u
   ·lia
   ·exact .inr ⟨by lia,by lia⟩
 ·exact .inr ⟨by lia,by lia⟩
theorem Wr.enc {en:Int->Int} {p k:Int} {h h1:Int->Option Int} (a:Wr en p h h1) (z1:k<=p) (z2:p<en k):h1 k=h k:=by
 by_cases e:h1 k=h k
 ·exact e
 ·rcases a k e with⟨x,y⟩|⟨x,y⟩<;>lia
def iY:Ro->List Int
 | .fn _ k=>[k]
 | .tag _ k=>[k]
 | .lt _ a b=>[a,b]
 | .get k _=>[k]
 | .rcd l=>l.map fun x=>x.2
 | .case k l=>k::l.map fun x=>x.2.2
 | .row ks=>ks
 | .op _ ks=>ks
 |_=>[]
def Rw (en df:Int->Int) (p:Int) (s s':Ls):Prop:=Wr en p s.held s'.held/\∀d,s'.st d≠s.st d->d<df p
section
variable {en df:Int->Int} {p0:Int}
theorem Rw.eq {s s':Ls} (h:s'.held=s.held) (k:s'.st=s.st):Rw en df p0 s s':=⟨by rw[h];exact Wr.refl,fun d n=>absurd (by rw[k]) n⟩
theorem Rw.refl (s:Ls):Rw en df p0 s s:=Rw.eq rfl rfl
theorem Rw.trans {a b c:Ls} (h:Rw en df p0 a b) (k:Rw en df p0 b c):Rw en df p0 a c:=⟨h.1.trans k.1,fun d n=>by
 by_cases e:b.st d=a.st d
 ·exact k.2 d (by rw[e];exact n)
 ·exact h.2 d e⟩
theorem Rw.pt {s:Ls} {p:Int}:Rw en df p0 s (s.pt p):=Rw.eq rfl rfl
theorem Rw.mk' {s:Ls} {p:Mkg}:Rw en df p0 s (s.mk' p):=Rw.eq rfl rfl
theorem Rw.us {s:Ls} {p:Us}:Rw en df p0 s (s.us p):=Rw.eq rfl rfl
theorem Rw.fl {s:Ls} {p q:Int}:Rw en df p0 s (s.fl p q):=Rw.eq rfl rfl
theorem Rw.ho {s:Ls} {k v:Int} (h1:p0<k) (h2:k<en p0):Rw en df p0 s (s.hold k v):=⟨fun x n=>by
 by_cases e:x=k
 ·subst e;exact .inl ⟨h1,h2⟩
 ·exact absurd (fJ e) n,fun d n=>absurd rfl n⟩
def Ok (L:Lf) (en df:Int->Int) (p0 c:Int):Prop:=p0<c/\c<en p0/\∀s q s',L c s=some (q,s')->Rw en df p0 s s'
theorem K1 {L:Lf} {c:Int} (hL:Ok L en df p0 c) {s:Ls} {α:Type} {g:Int->Ls->Option α} {a:α} (h:(match L c s with|some (q,s)=>g q s|none=>none)=some a):∃q s1,L c s=some (q,s1)/\g q s1=some a/\Rw en df p0 s s1:=by
 cases e:L c s with
 |none=>rw[e]at h;cases h
 |some z=>obtain⟨q,s1⟩:=z;rw[e]at h;exact⟨q,s1,rfl,h,hL.2.2 _ _ _ e⟩
variable {L:Lf}
theorem A5:∀{l acc:List (Str×Int)} {s:Ls} {r:List (Str×Int)×Ls},(∀x∈l,Ok L en df p0 x.2)->qO L l acc s=some r->Rw en df p0 s r.2
 |[],acc,s,r,_,h=>by cases h;exact Rw.refl _
 |p::l,acc,s,r,hk,h=>by
  obtain⟨q,s1,_,h2,l1⟩:=K1 (hk p (by simp)) h
  exact l1.trans (A5 (fun x hx=>hk x (by simp[hx])) h2)
theorem A6 {p own:Int}:∀{l:List (Str×Str×Int)} {acc:List (Str×Int)} {s:Ls} {r:List (Str×Int)×Ls},(∀x∈l,Ok L en df p0 x.2.2)->vH L p own l acc s=some r->Rw en df p0 s r.2
 |[],acc,s,r,_,h=>by cases h;exact Rw.refl _
 |a::l,acc,s,r,hk,h=>by
  have ha:=hk a (by simp)
  obtain⟨q,s1,_,h2,l1⟩:=K1 ha h
  exact((Rw.pt.trans (Rw.ho ha.1 ha.2.1)).trans l1).trans (Rw.fl.trans (A6 (fun x hx=>hk x (by simp[hx])) h2))
theorem A7 {th:Int}:∀{l:List Int} {s s':Ls},(∀x∈l,Ok L en df p0 x)->sT L th l s=some s'->Rw en df p0 s s'
 |[],s,s',_,h=>by cases h;exact Rw.refl _
 |k::l,s,s',hk,h=>by
  obtain⟨q,s1,_,h2,l1⟩:=K1 (hk k (by simp)) h
  exact l1.trans (Rw.fl.trans (A7 (fun x hx=>hk x (by simp[hx])) h2))
theorem yV {a b p:Int} {s s':Ls} (ha:Ok L en df p0 a) (hb:Ok L en df p0 b) (h:jQ L a b p s=some s'):Rw en df p0 s s':=by
 obtain⟨x,s1,_,h,l1⟩:=K1 ha h
 obtain⟨y,s2,_,h,l2⟩:=K1 hb h
 cases h
 exact(l1.trans l2).trans (Rw.us.trans Rw.us)
theorem Cr {roots:List Nat} {ho:Option Hm} {p own:Int} {s s':Ls} {ρ:Ro} (hk:∀c∈iY ρ,Ok L en df p0 c) (hm:∀h0,ho=some h0->∀s r,iW L roots h0 p s=some r->Rw en df p0 s r.2) (h:hX L roots ho p own s ρ=some s'):Rw en df p0 s s':=by
 cases ρ with
 |num n=>cases h;exact Rw.mk'
 |name w=>
  cases ho with
  |none=>cases h
  |some h0=>
   have h:(match iW L roots h0 p s with|some (q,s)=>some (s.fl q own)|none=>none)=some s':=h
   cases e:iW L roots h0 p s with
   |none=>rw[e]at h;cases h
   |some z=>rw[e]at h;cases h;exact(hm _ rfl _ _ e).trans Rw.fl
 |fn w k=>
  obtain⟨q,s1,_,h,l1⟩:=K1 (hk _ (by simp[iY])) h
  cases h
  exact((Rw.pt.trans (Rw.ho (hk k (by simp[iY])).1 (hk k (by simp[iY])).2.1)).trans l1).trans Rw.mk'
 |lt w a b=>
  obtain⟨_,s1,_,h,l1⟩:=K1 (hk _ (by simp[iY])) h
  obtain⟨q,s2,_,h,l2⟩:=K1 (hk _ (by simp[iY])) h
  cases h
  exact(l1.trans l2).trans Rw.fl
 |rcd l=>
  have h:(match qO L l [] s with|some (fs,s)=>some (s.mk' ⟨"rec",prD fs,own,p⟩)|none=>none)=some s':=h
  cases e:qO L l [] s with
  |none=>rw[e]at h;cases h
  |some z=>rw[e]at h;cases h;exact(A5 (fun x hx=>hk x.2 (by simp only[iY];exact bD hx)) e).trans Rw.mk'
 |get k w=>
  obtain⟨q,s1,_,h,l1⟩:=K1 (hk _ (by simp[iY])) h
  cases h
  exact l1.trans Rw.us
 |tag w k=>
  obtain⟨q,s1,_,h,l1⟩:=K1 (hk _ (by simp[iY])) h
  cases h
  exact l1.trans Rw.mk'
 |case k l=>
  obtain⟨q,s1,_,h,l1⟩:=K1 (hk _ (by simp[iY])) h
  cases e:vH L p own l [] s1 with
  |none=>rw[e]at h;cases h
  |some z=>rw[e]at h;cases h;exact(l1.trans (A6 (fun x hx=>hk x.2.2 (by simp only[iY];exact ah _ (bD hx))) e)).trans Rw.us
 |row ks=>
  have h:(match sT L s.n ks (s.pt p)with|some s2=>some (s2.mk' (mkR s.n own p))|none=>none)=some s':=h
  cases e:sT L s.n ks (s.pt p)with
  |none=>rw[e]at h;cases h
  |some z=>rw[e]at h;cases h;exact(Rw.pt.trans (A7 (fun x hx=>hk x hx) e)).trans Rw.mk'
 |op o ks=>
  match ks,h with
  |[],h=>cases h
  |[a],h=>
   simp only[hX]at h
   split at h
   ·obtain⟨q,s1,_,h,l1⟩:=K1 (hk _ (by simp[iY])) h
    cases h
    exact(Rw.pt.trans l1).trans (Rw.us.trans Rw.mk')
   ·cases h
  |[a,b],h=>
   simp only[hX]at h
   split at h
   ·obtain⟨x,s1,_,h,l1⟩:=K1 (hk _ (by simp[iY])) h
    obtain⟨y,s2,_,h,l2⟩:=K1 (hk _ (by simp[iY])) h
    cases h
    exact(l1.trans l2).trans Rw.us
   ·split at h
    ·obtain⟨x,s1,_,h,l1⟩:=K1 (hk _ (by simp[iY])) h
     obtain⟨y,s2,_,h,l2⟩:=K1 (hk _ (by simp[iY])) h
     cases h
     exact((Rw.pt.trans l1).trans l2).trans ((Rw.us.trans Rw.us).trans Rw.mk')
    ·split at h
     ·cases e:jQ L a b p (s.pt p)with
      |none=>rw[e]at h;cases h
      |some z=>rw[e]at h;cases h;exact(Rw.pt.trans (yV (hk a (by simp[iY])) (hk b (by simp[iY])) e)).trans ((Rw.mk'.trans Rw.mk').trans Rw.mk')
     ·split at h
      ·cases e:jQ L a b p s with
       |none=>rw[e]at h;cases h
       |some z=>rw[e]at h;cases h;exact(yV (hk a (by simp[iY])) (hk b (by simp[iY])) e).trans Rw.mk'
      ·cases h
  |[a,b,c],h=>
   simp only[hX]at h
   split at h
   ·obtain⟨x,s1,_,h,l1⟩:=K1 (hk _ (by simp[iY])) h
    obtain⟨y,s2,_,h,l2⟩:=K1 (hk _ (by simp[iY])) h
    obtain⟨z,s3,_,h,l3⟩:=K1 (hk _ (by simp[iY])) h
    cases h
    exact((l1.trans l2).trans l3).trans ((Rw.us.trans Rw.us).trans Rw.fl)
   ·cases h
  |_::_::_::_::_,h=>cases h
end
structure Nt (en df:Int->Int) (ρs:List Ro) (roots:List Nat) (ho:Nat->Option Hm):Prop where
 n:Nst en
 kid:∀p ρ c,atZ ρs p=some ρ->c∈iY ρ->p<c/\en c<=en p/\c<en c/\df c=df p
 lt:∀(k:Nat) h,ho k=some h->h.1="let"->en h.2<=k/\h.2<en h.2/\df h.2=df k
 dn:∀(k:Nat) h,ho k=some h->h.1="def"->inF roots k h.2=false->h.2<df k/\∀r,atZ roots h.2=some r->(r:Int)<en r/\en r<=k/\df r=h.2
theorem vO {en df:Int->Int} {ρs:List Ro} {roots:List Nat} {ho:Nat->Option Hm} (N:Nt en df ρs roots ho):∀f p s q s',jK ρs roots ho f p s=some (q,s')->Rw en df p s s'
 |0,p,s,q,s',h=>by cases h
 |f+ 1,p,s,q,s',h=>by
  obtain⟨ρ,hk,h1,rfl⟩:=sy h
  obtain⟨k,rfl,hk'⟩:=gR hk
  refine Rw.pt.trans (Cr (fun c hc=>?_) (fun h0 e0 s r hm=>?_) h1)
  ·obtain⟨z1,z2,z3,z4⟩:=N.kid _ _ _ hk hc
   refine⟨z1,by lia,fun s q s' hl=>?_⟩
   have w:=vO N f _ _ _ _ hl
   exact⟨w.1.part N.n z1 z2 z3,fun d n=>by rw[<-z4];exact w.2 d n⟩
  ·have e0:ho k=some h0:=e0
   unfold iW at hm
   split at hm
   ·rename_i e1
    obtain⟨z1,z2,z3⟩:=N.lt _ _ e0 e1
    have w:=vO N f _ _ _ _ (show jK ρs roots ho f h0.2 s=some (r.1,r.2)from hm)
    exact⟨w.1.ahead N.n z1 z2,fun d n=>by rw[<-z3];exact w.2 d n⟩
   ·split at hm
    ·rename_i e1
     split at hm
     ·obtain⟨q,_,rfl⟩:=cm.mp hm;exact Rw.refl _
     ·rename_i e2
      obtain⟨z1,z2⟩:=N.dn _ _ e0 e1 (by simpa using e2)
      obtain⟨r0,q0,s2,hd,h2,_,e3⟩:=sx (show wV (jK ρs roots ho f) roots h0.2 s=some (r.1,r.2)from hm)
      obtain⟨z3,z4,z5⟩:=z2 _ hd
      have w:=vO N f _ _ _ _ h2
      rw[e3]
      refine Rw.trans (b:=(s.pt r0).begin h0.2 s.n) ⟨Wr.refl,fun d n=>?_⟩ (Rw.trans ⟨w.1.ahead N.n z4 z3,fun d n=>?_⟩ Rw.fl)
      ·by_cases e:d=h0.2
       ·rw[e];exact z1
       ·exact absurd (fJ e) n
      ·have:=w.2 d n
       rw[z5]at this
       lia
    ·obtain⟨q,_,rfl⟩:=cm.mp hm;exact Rw.refl _
def bnd:Ro->List Int
 | .fn _ k=>[k]
 | .case _ l=>l.map fun x=>x.2.2
 |_=>[]
structure Vs (vi:Int->Int->Prop) (en df:Int->Int) (ρs:List Ro) (roots:List Nat) (ho:Nat->Option Hm):Prop where
 enc:∀p k,vi p k->0<=k/\k<=p/\p<en k
 kid:∀p ρ c k,atZ ρs p=some ρ->c∈iY ρ->vi c k->vi p k\/(k=c/\c∈bnd ρ)
 lt:∀(p:Nat) h k,ho p=some h->h.1="let"->vi h.2 k->vi p k
 root:∀d r k,atZ roots d=some r->¬vi r k
 held:∀(p:Nat) h,ho p=some h->h.1≠"let"->h.1≠"def"->vi p h.2
 inn:∀(p:Nat) h,ho p=some h->h.1="def"->(inF roots p h.2=true↔h.2=df p)
 dr:∀d r,atZ roots d=some r->df r=d
 sub:∀p a l,atZ ρs p=some (.case a l)->a∉bnd (.case a l)
structure Ag (vi:Int->Int->Prop) (df:Int->Int) (p:Int) (s t:Ls):Prop where
 d:t.D=s.D
 h:∀k,vi p k->t.held k=s.held k
 a:t.held (-1)=s.st (df p)
 b:t.held (-2)=some (df p)
section
variable {vi:Int->Int->Prop} {en df:Int->Int} {ρs:List Ro} {roots:List Nat} {ho:Nat->Option Hm} {p:Int} {s t s' t':Ls}
theorem Ag.n (g:Ag vi df p s t):t.n=s.n:=by unfold Ls.n;rw[g.d]
theorem Ag.pt (g:Ag vi df p s t) {x:Int}:Ag vi df p (s.pt x) (t.pt x):=⟨by unfold Ls.pt;rw[g.d],g.h,g.a,g.b⟩
theorem Ag.mk' (g:Ag vi df p s t) {x:Mkg}:Ag vi df p (s.mk' x) (t.mk' x):=⟨by unfold Ls.mk';rw[g.d],g.h,g.a,g.b⟩
theorem Ag.us (g:Ag vi df p s t) {x:Us}:Ag vi df p (s.us x) (t.us x):=⟨by unfold Ls.us;rw[g.d],g.h,g.a,g.b⟩
theorem Ag.fl (g:Ag vi df p s t) {x y:Int}:Ag vi df p (s.fl x y) (t.fl x y):=⟨by unfold Ls.fl;rw[g.d],g.h,g.a,g.b⟩
theorem Ag.step (V:Vs vi en df ρs roots ho) (g:Ag vi df p s t) (w:Rw en df p s s') (e1:t'.D=s'.D) (e2:t'.held=t.held):Ag vi df p s' t':=
 ⟨e1,fun k hk=>by
  obtain⟨_,z1,z2⟩:=V.enc _ _ hk
  rw[e2,g.h k hk,w.1.enc z1 z2],by
  rw[e2,g.a]
  by_cases e:s'.st (df p)=s.st (df p)
  ·exact e.symm
  ·have:=w.2 _ e;lia,by rw[e2];exact g.b⟩
theorem Ag.kid (V:Vs vi en df ρs roots ho) (g:Ag vi df p s t) {ρ:Ro} {c:Int} (hk:atZ ρs p=some ρ) (hc:c∈iY ρ) (hb:c∉bnd ρ) (hd:df c=df p):Ag vi df c s t:=
 ⟨g.d,fun k h=>by
  rcases V.kid _ _ _ _ hk hc h with h|h
  ·exact g.h k h
  ·exact absurd h.2 hb,by rw[hd];exact g.a,by rw[hd];exact g.b⟩
theorem Ag.bind (V:Vs vi en df ρs roots ho) (g:Ag vi df p s t) {ρ:Ro} {c v:Int} (hk:atZ ρs p=some ρ) (hc:c∈iY ρ) (h0:0<=c) (hd:df c=df p):Ag vi df c (s.hold c v) (t.hold c v):=
 ⟨g.d,fun k h=>by
  show put t.held c v k=put s.held c v k
  unfold put
  by_cases e:k=c
  ·rw[fY e,fY e]
  ·rw[fJ e,fJ e]
   rcases V.kid _ _ _ _ hk hc h with h|h
   ·exact g.h k h
   ·exact absurd h.1 e,by
  show put t.held c v (-1)=_
  unfold put
  rw[fJ (by lia),hd];exact g.a,by
  show put t.held c v (-2)=_
  unfold put
  rw[fJ (by lia),hd];exact g.b⟩
end
def OkA (L M:Lf) (vi:Int->Int->Prop) (df:Int->Int) (p c:Int):Prop:=∀s t q s',Ag vi df p s t->L c s=some (q,s')->∃t',M c t=some (q,t')/\Ag vi df p s' t'
section
variable {vi:Int->Int->Prop} {df:Int->Int} {L M:Lf} {p:Int}
theorem K2 {c:Int} (hL:OkA L M vi df p c) {s t:Ls} (g:Ag vi df p s t) {α:Type} {k:Int->Ls->Option α} {a:α} (h:(match L c s with|some (q,s)=>k q s|none=>none)=some a):∃q s1 t1,M c t=some (q,t1)/\k q s1=some a/\Ag vi df p s1 t1:=by
 cases e:L c s with
 |none=>rw[e]at h;cases h
 |some z=>obtain⟨q,s1⟩:=z;rw[e]at h;obtain⟨t1,e1,e2⟩:=hL _ _ _ _ g e;exact⟨q,s1,t1,e1,h,e2⟩
theorem A8:∀{l acc:List (Str×Int)} {s t:Ls} {fs:List (Str×Int)} {s':Ls},(∀x∈l,OkA L M vi df p x.2)->Ag vi df p s t->qO L l acc s=some (fs,s')->∃t',qO M l acc t=some (fs,t')/\Ag vi df p s' t'
 |[],acc,s,t,fs,s',_,g,h=>by cases h;exact⟨t,rfl,g⟩
 |x::l,acc,s,t,fs,s',hk,g,h=>by
  obtain⟨q,s1,t1,e1,h,g1⟩:=K2 (hk x (by simp)) g h
  obtain⟨t',e2,g2⟩:=A8 (fun y hy=>hk y (by simp[hy])) g1 h
  refine⟨t',?_,g2⟩
  unfold qO
  rw[e1]
  exact e2
theorem A9 {th:Int}:∀{l:List Int} {s t s':Ls},(∀x∈l,OkA L M vi df p x)->Ag vi df p s t->sT L th l s=some s'->∃t',sT M th l t=some t'/\Ag vi df p s' t'
 |[],s,t,s',_,g,h=>by cases h;exact⟨t,rfl,g⟩
 |x::l,s,t,s',hk,g,h=>by
  obtain⟨q,s1,t1,e1,h,g1⟩:=K2 (hk x (by simp)) g h
  obtain⟨t',e2,g2⟩:=A9 (fun y hy=>hk y (by simp[hy])) g1.fl h
  refine⟨t',?_,g2⟩
  unfold sT
  rw[e1]
  exact e2
theorem yW {a b x:Int} {s t s':Ls} (ha:OkA L M vi df p a) (hb:OkA L M vi df p b) (g:Ag vi df p s t) (h:jQ L a b x s=some s'):∃t',jQ M a b x t=some t'/\Ag vi df p s' t':=by
 obtain⟨q,s1,t1,e1,h,g1⟩:=K2 ha g h
 obtain⟨r,s2,t2,e2,h,g2⟩:=K2 hb g1 h
 cases h
 refine⟨_,?_,g2.us.us⟩
 unfold jQ
 rw[e1]
 dsimp only
 rw[e2]
def pln:Ro->Prop
 | .name _=>False
 | .fn _ _=>False
 | .case _ _=>False
 |_=>True
theorem Ct {roots:List Nat} {ho:Option Hm} {own:Int} {s t s':Ls} {ρ:Ro} (hp:pln ρ) (hk:∀c∈iY ρ,OkA L M vi df p c) (g:Ag vi df p s t) (h:hX L roots ho p own s ρ=some s'):∃t',hX M roots ho p own t ρ=some t'/\Ag vi df p s' t':=by
 cases ρ with
 |name w=>exact hp.elim
 |fn w k=>exact hp.elim
 |case k l=>exact hp.elim
 |num n=>cases h;exact⟨_,rfl,g.mk'⟩
 |lt w a b=>
  obtain⟨q,s1,t1,e1,h,g1⟩:=K2 (hk _ (by simp[iY])) g h
  obtain⟨r,s2,t2,e2,h,g2⟩:=K2 (hk _ (by simp[iY])) g1 h
  cases h
  refine⟨_,?_,g2.fl⟩
  simp only[hX,e1,e2]
 |get k w=>
  obtain⟨q,s1,t1,e1,h,g1⟩:=K2 (hk _ (by simp[iY])) g h
  cases h
  refine⟨_,?_,g1.us⟩
  simp only[hX,e1]
 |tag w k=>
  obtain⟨q,s1,t1,e1,h,g1⟩:=K2 (hk _ (by simp[iY])) g h
  cases h
  refine⟨_,?_,g1.mk'⟩
  simp only[hX,e1]
 |rcd l=>
  have h:(match qO L l [] s with|some (fs,s)=>some (s.mk' ⟨"rec",prD fs,own,p⟩)|none=>none)=some s':=h
  cases e:qO L l [] s with
  |none=>rw[e]at h;cases h
  |some z=>
   obtain⟨fs,s1⟩:=z
   rw[e]at h;cases h
   obtain⟨t1,e1,g1⟩:=A8 (fun x hx=>hk x.2 (by simp only[iY];exact bD hx)) g e
   refine⟨_,?_,g1.mk'⟩
   simp only[hX,e1]
 |row ks=>
  have h:(match sT L s.n ks (s.pt p)with|some s2=>some (s2.mk' (mkR s.n own p))|none=>none)=some s':=h
  cases e:sT L s.n ks (s.pt p)with
  |none=>rw[e]at h;cases h
  |some z=>
   rw[e]at h;cases h
   obtain⟨t1,e1,g1⟩:=A9 (l:=ks) (fun x hx=>hk x hx) g.pt e
   refine⟨_,?_,g1.mk'⟩
   simp only[hX,g.n,e1]
 |op o ks=>
  match ks,h,hk with
  |[],h,_=>cases h
  |[a],h,hk=>
   simp only[hX]at h⊢
   split at h
   ·rename_i e0
    obtain⟨q,s1,t1,e1,h,g1⟩:=K2 (hk a (by simp[iY])) g.pt h
    cases h
    refine⟨_,?_,g1.us.mk'⟩
    simp only[e0,if_true,e1,g.n]
   ·cases h
  |[a,b],h,hk=>
   have ha:=hk a (by simp[iY])
   have hb:=hk b (by simp[iY])
   simp only[hX]at h⊢
   split at h
   ·rename_i e0
    obtain⟨q,s1,t1,e1,h,g1⟩:=K2 ha g h
    obtain⟨r,s2,t2,e2,h,g2⟩:=K2 hb g1 h
    cases h
    refine⟨_,?_,g2.us⟩
    rw[fY e0]
    simp only[e1,e2]
   ·rename_i n0
    rw[fJ n0]
    split at h
    ·rename_i e0
     obtain⟨q,s1,t1,e1,h,g1⟩:=K2 ha g.pt h
     obtain⟨r,s2,t2,e2,h,g2⟩:=K2 hb g1 h
     cases h
     refine⟨_,?_,g2.us.us.mk'⟩
     rw[fY e0]
     simp only[e1,e2,g.n]
    ·rename_i n1
     rw[fJ n1]
     split at h
     ·rename_i e0
      cases e:jQ L a b p (s.pt p)with
      |none=>rw[e]at h;cases h
      |some z=>
       rw[e]at h;cases h
       obtain⟨t1,e1,g1⟩:=yW ha hb g.pt e
       refine⟨_,?_,g1.mk'.mk'.mk'⟩
       rw[fY e0]
       simp only[e1,g.n]
     ·rename_i n2
      rw[fJ n2]
      split at h
      ·rename_i e0
       cases e:jQ L a b p s with
       |none=>rw[e]at h;cases h
       |some z=>
        rw[e]at h;cases h
        obtain⟨t1,e1,g1⟩:=yW ha hb g e
        refine⟨_,?_,g1.mk'⟩
        rw[fY e0]
        simp only[e1]
      ·cases h
  |[a,b,c],h,hk=>
   simp only[hX]at h⊢
   split at h
   ·rename_i e0
    obtain⟨q,s1,t1,e1,h,g1⟩:=K2 (hk a (by simp[iY])) g h
    obtain⟨r,s2,t2,e2,h,g2⟩:=K2 (hk b (by simp[iY])) g1 h
    obtain⟨u,s3,t3,e3,h,g3⟩:=K2 (hk c (by simp[iY])) g2 h
    cases h
    refine⟨_,?_,g3.us.us.fl⟩
    rw[fY e0]
    simp only[e1,e2,e3]
   ·cases h
  |_::_::_::_::_,h,_=>cases h
end
section
variable {vi:Int->Int->Prop} {en df:Int->Int} {ρs:List Ro} {roots:List Nat} {ho:Nat->Option Hm}
def AgF (vi:Int->Int->Prop) (df:Int->Int) (L M:Lf):Prop:=∀p s t q s',Ag vi df p s t->L p s=some (q,s')->∃t',M p t=some (q,t')/\t'.D=s'.D/\t'.held=t.held
theorem Ba (N:Nt en df ρs roots ho) {f:Nat} {p c:Int} {ρ:Ro} (hk:atZ ρs p=some ρ) (hc:c∈iY ρ) {s s':Ls} {q:Int} (hl:jK ρs roots ho f c s=some (q,s')):Rw en df p s s':=by
 obtain⟨z1,z2,z3,z4⟩:=N.kid _ _ _ hk hc
 have w:=vO N f _ _ _ _ hl
 exact⟨w.1.part N.n z1 z2 z3,fun d n=>by rw[<-z4];exact w.2 d n⟩
theorem Bb (N:Nt en df ρs roots ho) (V:Vs vi en df ρs roots ho) {f:Nat} {M:Lf} (hA:AgF vi df (jK ρs roots ho f) M) {p c:Int} {ρ:Ro} (hk:atZ ρs p=some ρ) (hc:c∈iY ρ) (hb:c∉bnd ρ):OkA (jK ρs roots ho f) M vi df p c:=fun s t q s' g hl=>by
 obtain⟨t',e1,e2,e3⟩:=hA _ _ _ _ _ (g.kid V hk hc hb (N.kid _ _ _ hk hc).2.2.2) hl
 exact⟨t',e1,g.step V (Ba N hk hc hl) e2 e3⟩
theorem Bc (N:Nt en df ρs roots ho) (V:Vs vi en df ρs roots ho) {f:Nat} {M:Lf} (hA:AgF vi df (jK ρs roots ho f) M) {p own:Int} {ρ:Ro} {h:Int->Option Int} (hk:atZ ρs p=some ρ) (h0:0<=p):∀{l:List (Str×Str×Int)} {acc:List (Str×Int)} {s t:Ls} {fs:List (Str×Int)} {s':Ls},(∀x∈l,x.2.2∈iY ρ)->Ag vi df p s ⟨t.D,h,t.st⟩->vH (jK ρs roots ho f) p own l acc s=some (fs,s')->∃t',Ah M p own h l acc t=some (fs,t')/\t'.D=s'.D
 |[],acc,s,t,fs,s',_,g,e=>by cases e;exact⟨t,rfl,g.d⟩
 |a::l,acc,s,t,fs,s',hl,g,e=>by
  have hc:=hl a (by simp)
  obtain⟨z1,z2,z3,z4⟩:=N.kid _ _ _ hk hc
  obtain⟨q,s1,h1,e,_⟩:=L1 (f6 f) e
  have g1:Ag vi df a.2.2 ((s.pt p).hold a.2.2 s.n) {t.pt p with held:=put h a.2.2 s.n}:=g.pt.bind V hk hc (by lia) z4
  obtain⟨t1,e1,e2,e3⟩:=hA _ _ _ _ _ g1 h1
  have w:Rw en df p s s1:=(Rw.pt.trans (Rw.ho z1 (by lia))).trans (Ba N hk hc h1)
  have en':t.n=s.n:=g.n
  obtain⟨t',e4,e5⟩:=Bc N V hA hk h0 (h:=h) (t:=t1.fl q own) (fun x hx=>hl x (by simp[hx])) (g.step V (w.trans Rw.fl) (show(t1.fl q own).D=(s1.fl q own).D by unfold Ls.fl;rw[e2]) rfl) e
  refine⟨t',?_,e5⟩
  unfold Ah
  rw[en',e1]
  exact e4
theorem Aj (V:Vs vi en df ρs roots ho) (N:Nt en df ρs roots ho) {L M:Lf} (hA:AgF vi df L M) {k:Nat} {h:Hm} {s t s':Ls} {q:Int} (hh:ho k=some h) (g:Ag vi df k s t) (hm:iW L roots h k s=some (q,s')):∃t',nF M roots h t=some (q,t')/\t'.D=s'.D:=by
 unfold iW at hm
 unfold nF
 by_cases e1:h.1="let"
 ·rw[fY e1]at hm⊢
  obtain⟨z1,z2,z3⟩:=N.lt _ _ hh e1
  obtain⟨t',a,b,c⟩:=hA _ _ _ _ _ ⟨g.d,fun x hx=>g.h x (V.lt _ _ _ hh e1 hx),by rw[z3];exact g.a,by rw[z3];exact g.b⟩ hm
  exact⟨t',a,b⟩
 rw[fJ e1]at hm⊢
 by_cases e2:h.1="def"
 ·rw[fY e2]at hm⊢
  have iw:=V.inn _ _ hh e2
  by_cases e3:inF roots k h.2=true
  ·have e4:=iw.mp e3
   rw[fY e3]at hm
   rw[g.b,fY (by rw[e4]),g.a,<-e4]
   obtain⟨v,hv,e5⟩:=cm.mp hm
   cases e5
   exact⟨t,by rw[hv];rfl,g.d⟩
  ·rw[fJ e3]at hm
   rw[g.b,fJ (fun z=>e3 (iw.mpr (cf.inj z).symm))]
   obtain⟨r0,q0,s2,hd,h2,e5,e6⟩:=sx hm
   have e7:=V.dr _ _ hd
   obtain⟨t2,a,b,c⟩:=hA (r0:Int) ((s.pt r0).begin h.2 s.n) (((t.pt r0).hold (-1) t.n).hold (-2) h.2) _ _ ⟨g.pt.d,fun x hx=>absurd hx (V.root _ _ _ hd),by
    rw[e7,g.n]
    show put (put t.held (-1) s.n) (-2) h.2 (-1)=put s.st h.2 s.n h.2
    simp[put],by
    rw[e7]
    show put (put t.held (-1) t.n) (-2) h.2 (-2)=some h.2
    simp[put]⟩ h2
   refine⟨t2.fl q0 t.n,?_,by rw[e6,g.n];unfold Ls.fl;rw[b]⟩
   unfold Ai
   rw[hd]
   dsimp only
   rw[a,e5,g.n]
 rw[fJ e2]at hm⊢
 obtain⟨v,hv,e5⟩:=cm.mp hm
 cases e5
 exact⟨t,by rw[g.h _ (V.held _ _ hh e1 e2),hv];rfl,g.d⟩
theorem Ef (N:Nt en df ρs roots ho) (V:Vs vi en df ρs roots ho):∀f,AgF vi df (jK ρs roots ho f) (nG ρs roots ho f)
 |0=>fun p s t q s' _ h=>by cases h
 |f+ 1=>fun p s t q s' g h=>by
  have hA:=Ef N V f
  obtain⟨ρ,hk,h1,rfl⟩:=sy h
  obtain⟨k,rfl,hk'⟩:=gR hk
  have key:∃t2,lG (nG ρs roots ho f) roots (ho k) k s.n (t.pt k) ρ=some t2/\t2.D=s'.D:=by
   have pl:pln ρ->(∀c∈iY ρ,c∉bnd ρ)->(∀u,lG (nG ρs roots ho f) roots (ho k) k s.n u ρ=hX (nG ρs roots ho f) roots (ho k) k s.n u ρ)->∃t2,lG (nG ρs roots ho f) roots (ho k) k s.n (t.pt k) ρ=some t2/\t2.D=s'.D:=fun a b c=>by
    obtain⟨t2,x,y⟩:=Ct (ho:=ho k) a (fun c hc=>Bb N V hA hk hc (b c hc)) g.pt h1
    exact⟨t2,by rw[c];exact x,y.d⟩
   cases ρ with
   |num n=>exact pl trivial (fun c _ z=>by cases z) fun _=>rfl
   |lt w a b=>exact pl trivial (fun c _ z=>by cases z) fun _=>rfl
   |get a w=>exact pl trivial (fun c _ z=>by cases z) fun _=>rfl
   |tag w a=>exact pl trivial (fun c _ z=>by cases z) fun _=>rfl
   |rcd l=>exact pl trivial (fun c _ z=>by cases z) fun _=>rfl
   |row ks=>exact pl trivial (fun c _ z=>by cases z) fun _=>rfl
   |op o ks=>exact pl trivial (fun c _ z=>by cases z) fun _=>rfl
   |fn w c=>
    have hc:c∈iY (.fn w c):=by simp[iY]
    obtain⟨z1,z2,z3,z4⟩:=N.kid _ _ _ hk hc
    obtain⟨q,s1,h2,h1,_⟩:=L1 (f6 f) h1
    cases h1
    obtain⟨t1,e1,e2,e3⟩:=hA _ _ _ _ _ (g.pt.pt.bind V hk hc (by lia) z4 (v:=(s.pt k).n)) h2
    refine⟨t1.mk' ⟨"fn",.tup [kD (s.pt k).n,kD q],s.n,k⟩,?_,by unfold Ls.mk';rw[e2]⟩
    simp only[lG,hX]
    rw[(g.pt (x:=(k:Int))).n,e1]
   |case a l=>
    obtain⟨q,s1,h2,h1,_⟩:=L1 (f6 f) h1
    obtain⟨fs,s2,h3,h1⟩:∃fs s2,vH (jK ρs roots ho f) k s.n l [] s1=some (fs,s2)/\some (s2.us (.case q k 0 fs))=some s':=by
     cases e:vH (jK ρs roots ho f) k s.n l [] s1 with
     |none=>rw[e]at h1;cases h1
     |some z=>obtain⟨fs,s2⟩:=z;rw[e]at h1;exact⟨fs,s2,rfl,h1⟩
    cases h1
    obtain⟨t1,e1,g1⟩:=Bb N V hA hk (by simp[iY]) (V.sub _ _ _ hk) _ _ _ _ g.pt h2
    obtain⟨t2,e2,e3⟩:=Bc N V hA hk (by lia) (h:=t1.held) (t:=t1) (fun x hx=>by simp only[iY];exact ah _ (bD hx)) g1 h3
    refine⟨t2.us (.case q k 0 fs),?_,by unfold Ls.us;rw[e3]⟩
    simp only[lG,e1,e2]
   |name w=>
    obtain⟨h0,r,s1,hh,h2,h3⟩:∃h0 r s1,ho k=some h0/\iW (jK ρs roots ho f) roots h0 k (s.pt k)=some (r,s1)/\some (s1.fl r s.n)=some s':=by
     unfold hX at h1
     dsimp only at h1
     rw[show((k:Int)).toNat=k from rfl]at h1
     cases e:ho k with
     |none=>rw[e]at h1;cases h1
     |some h0=>
      rw[e]at h1
      dsimp only at h1
      cases e2:iW (jK ρs roots ho f) roots h0 k (s.pt k)with
      |none=>rw[e2]at h1;cases h1
      |some z=>obtain⟨r,s1⟩:=z;rw[e2]at h1;exact⟨h0,r,s1,rfl,e2,h1⟩
    cases h3
    obtain⟨t1,e1,e2⟩:=Aj V N hA hh g.pt h2
    refine⟨t1.fl r s.n,?_,by unfold Ls.fl;rw[e2]⟩
    simp only[lG,hh,e1]
  obtain⟨t2,a,b⟩:=key
  refine⟨{t2 with held:=t.held,st:=t.st},?_,b,rfl⟩
  unfold nG
  rw[hk]
  dsimp only
  rw[show((k:Int)).toNat=k from rfl,g.n,a]
end
def FD (A:Ad) (H H':Hp):Prop:=∀a o,H a=some o->a∉A.ls->H' a=some o
theorem FD.refl {A:Ad} {H:Hp}:FD A H H:=fun _ _ e _=>e
theorem FD.trans {A:Ad} {H H1 H2:Hp} (f:FD A H H1) (g:FD A H1 H2):FD A H H2:=fun a o e n=>g a o (f a o e n) n
theorem FD.same {A:Ad} {H H':Hp} (S:fG H H'):FD A H H':=fun a o e _=>S a o e
theorem xi {A:Ad} {H:Hp} {a:Addr} {o:HO} (h:a∈A.ls):FD A H (L2.Internal.upd H a o):=fun b u e n=>by rw[eN (fun z=>n (by rw[z];exact h))];exact e
theorem FD.put {A:Ad} {H0 H:Hp} (F:FD A H0 H) {a:Addr} (h:H0 a=none) (o:HO):FD A H0 (L2.Internal.upd H a o):=fun b u e n=>by
 rw[eN (eT e h)]
 exact F b u e n
theorem DkI.le {H:Hp} {a:Addr} {g:Int->Option Int} {n m:Nat} (h:DkI H a g n) (l:n<=m):DkI H a g m:=by
 obtain⟨k,e,z,r⟩:=h
 exact⟨k,e,bU z l,r⟩
structure Lw (H:Hp) (A:Ad) (e:Addr) (s:Ls):Prop where
 b:Dw H A s.D
 e:DkI H e s.held (2*s.D.pts.length)
section
variable {H H':Hp} {A:Ad} {e:Addr} {s s':Ls} {D:Bd}
theorem Dw.ins (B:Dw H A D) {a:Addr} {o:HO} (h:H a=some o) (hl:∀xs,o≠ .lst xs):a∉A.ls:=fun z=>by
 obtain⟨_,_,e0,⟨_,m1,_⟩,⟨_,u1,_⟩,⟨_,g1,_⟩,_⟩:=B
 simp only[Ad.ls,ai,bf,or_false]at z
 rcases z with rfl|rfl|rfl|rfl
 ·rw[e0]at h;exact hl _ (cf.inj h).symm
 ·rw[m1]at h;exact hl _ (cf.inj h).symm
 ·rw[u1]at h;exact hl _ (cf.inj h).symm
 ·rw[g1]at h;exact hl _ (cf.inj h).symm
theorem Dw.tk (B:Dw H A D) (F:FD A H H'):TK H H':=fun a xs h=>F a _ h (Dw.ins B h fun _ z=>nomatch z)
theorem Dw.dk (B:Dw H A D) (F:FD A H H') {g:Int->Option Int} {n:Nat} (d:DkI H e g n):DkI H' e g n:=by
 obtain⟨k,h,z,r⟩:=d
 exact⟨k,F _ _ h (Dw.ins B h fun _ z=>nomatch z),z,r⟩
theorem Lw.same (M:Lw H A e s) (S:fG H H'):Lw H' A e s:=⟨M.b.same S,Dw.dk M.b (FD.same S) M.e⟩
theorem Dw.new (B:Dw H A D) {a:Addr} {kvs o:List (Key×V)} (h:H a=some (.dK kvs)):Dw (L2.Internal.upd H a (.dK o)) A D:=by
 have ne:∀{b:Addr} {u:HO},H b=some u->(∀l,u≠ .dK l)->(L2.Internal.upd H a (.dK o)) b=some u:=fun q n=>by rw[eN (jh q h (n _))];exact q
 have k:TK H (L2.Internal.upd H a (.dK o)):=fun b xs q=>ne q (fun _ z=>nomatch z)
 obtain⟨b,nb,e0,⟨mv,m1,m2⟩,⟨uv,u1,u2⟩,⟨fv,g1,g2⟩,nd⟩:=B
 exact⟨ne b (fun _ z=>nomatch z),nb,ne e0 (fun _ z=>nomatch z),⟨mv,ne m1 (fun _ z=>nomatch z),m2.mono k⟩,⟨uv,ne u1 (fun _ z=>nomatch z),u2.mono k⟩,⟨fv,ne g1 (fun _ z=>nomatch z),g2.mono k⟩,nd⟩
end
structure Cl (H:Hp) (A:Ad) (bh:Addr) (roots:List Nat) (ρs:List Ro) (ho:Nat->Option Hm):Prop where
 p:∃n r w h xs hs,H bh=some (.lst [.ref n,.ref r,.ref w,.ref h])/\H r=some (.lst (roots.map nI))/\H w=some (.lst xs)/\Ims H xs (ρs.map Ro.d)/\H h=some (.lst hs)/\(∀(k:Nat) (ρ:Ro),ρs[k]?=some ρ->∃y,hs[k]?=some y/\Im H y (hoD (ho k)))/\bh∉A.ls/\r∉A.ls/\w∉A.ls/\h∉A.ls
 few:∀(k:Nat) (ρ:Ro),ρs[k]?=some ρ->ρ.few
theorem Cl.fd {H H':Hp} {A:Ad} {D:Bd} {bh:Addr} {roots:List Nat} {ρs:List Ro} {ho:Nat->Option Hm} (C:Cl H A bh roots ρs ho) (B:Dw H A D) (F:FD A H H'):Cl H' A bh roots ρs ho:=by
 have k:=Dw.tk B F
 obtain⟨⟨n,r,w,h,xs,hs,e0,e1,e2,i2,e3,hh,n0,n1,n2,n3⟩,fw⟩:=C
 exact⟨⟨n,r,w,h,xs,hs,F _ _ e0 n0,F _ _ e1 n1,F _ _ e2 n2,i2.mono k,F _ _ e3 n3,fun j ρ hj=>let⟨y,a,b⟩:=hh j ρ hj;⟨y,a,b.mono k⟩,n0,n1,n2,n3⟩,fw⟩
inductive XS (f:Nat) (vs:List V) (H:Hp) (Q:VK):Prop
 |mk (A:Ad) (bh e:Addr) (s s':Ls) (p r:Int) (roots:List Nat) (ρs:List Ro) (ho:Nat->Option Hm) (ev:vs=[.ref bh,.ref A.b,.ref e,.int p]) (M:Lw H A e s) (C:Cl H A bh roots ρs ho) (h2:∃v,s.held (-2)=some v) (hl:nG ρs roots ho f p s=some (r,s')) (hz:Sz 1000000 s') (q:∀H',Lw H' A e s'->FD A H H'->Q (.int r) H')
def Ak (f:Nat):Sp:=fun vs H Q _=>XS f vs H Q
inductive XSd (f:Nat) (vs:List V) (H:Hp) (Q:VK):Prop
 |mk (A:Ad) (bh e:Addr) (s s':Ls) (d r:Int) (roots:List Nat) (ρs:List Ro) (ho:Nat->Option Hm) (ev:vs=[.ref bh,.ref A.b,.ref e,.int d]) (M:Lw H A e s) (C:Cl H A bh roots ρs ho) (hl:Ai (nG ρs roots ho f) roots d s=some (r,s')) (hz:Sz 1000000 s') (q:∀H',Dw H' A s'.D->FD A H H'->Q (.int r) H')
def FX (f:Nat):Sp:=fun vs H Q _=>XSd f vs H Q
theorem u5 {L:Lf} (hL:Lmo L) {p own:Int} {h:Int->Option Int}:∀{l:List (Str×Str×Int)} {acc:List (Str×Int)} {s:Ls} {r:List (Str×Int)×Ls},Ah L p own h l acc s=some r->Le s r.2/\r.1.length=acc.length+l.length
 |[],acc,s,r,h=>by cases h;exact⟨Le.refl _,rfl⟩
 |a::l,acc,s,r,h=>by
  obtain⟨q,s1,_,h2,l1⟩:=L1 hL h
  obtain⟨x,b⟩:=u5 hL h2
  exact⟨(Le.pt.trans (⟨l1.p,l1.m,l1.u,l1.f⟩:Le (s.pt p) s1)).trans (Le.fl.trans x),by rw[b,aM,aU,ax];lia⟩
theorem tY {L:Lf} {roots:List Nat} {d r:Int} {s s':Ls} (h:Ai L roots d s=some (r,s')):∃r0 q0 s2,atZ roots d=some r0/\L (r0:Int) (((s.pt r0).hold (-1) s.n).hold (-2) d)=some (q0,s2)/\r=s.n/\s'=s2.fl q0 s.n:=by
 unfold Ai at h
 cases e:atZ roots d with
 |none=>rw[e]at h;cases h
 |some r0=>
  rw[e]at h
  dsimp only at h
  cases e2:L (r0:Int) (((s.pt r0).hold (-1) s.n).hold (-2) d)with
  |none=>rw[e2]at h;cases h
  |some z=>obtain⟨q0,s2⟩:=z;rw[e2]at h;cases h;exact⟨r0,q0,s2,rfl,e2,rfl,rfl⟩
theorem Cu {L:Lf} (hL:Lmo L) {roots:List Nat} {d r:Int} {s s':Ls} (h:Ai L roots d s=some (r,s')):Le s s':=by
 obtain⟨r0,q0,s2,_,h2,_,rfl⟩:=tY h
 exact Le.pt.trans (Le.ho.trans (Le.ho.trans ((hL _ _ _ _ h2).trans Le.fl)))
theorem tZ {L:Lf} (hL:Lmo L) {roots:List Nat} {h0:Hm} {s:Ls} {r:Int×Ls} (h:nF L roots h0 s=some r):Le s r.2:=by
 unfold nF at h
 split at h
 ·exact hL _ _ _ _ h
 ·split at h
  ·split at h
   ·obtain⟨q,_,rfl⟩:=cm.mp h;exact Le.refl _
   ·exact Cu hL (r:=r.1) (s':=r.2) h
  ·obtain⟨q,_,rfl⟩:=cm.mp h;exact Le.refl _
theorem rq {L:Lf} {roots:List Nat} {ho:Option Hm} {p own:Int} {s s':Ls} {w:Str} (h:lG L roots ho p own s (.name w)=some s'):∃h0 q s1,ho=some h0/\nF L roots h0 s=some (q,s1)/\s'=s1.fl q own:=by
 unfold lG at h
 dsimp only at h
 cases ho with
 |none=>cases h
 |some h0=>
  dsimp only at h
  cases e:nF L roots h0 s with
  |none=>rw[e]at h;cases h
  |some z=>obtain⟨q,s1⟩:=z;rw[e]at h;exact⟨h0,q,s1,rfl,e,(cf.inj h).symm⟩
theorem rA {L:Lf} (hL:Lmo L) {roots:List Nat} {ho:Option Hm} {p own k:Int} {s s':Ls} {l:List (Str×Str×Int)} (h:lG L roots ho p own s (.case k l)=some s'):∃q s1 fs s2,L k s=some (q,s1)/\Ah L p own s1.held l [] s1=some (fs,s2)/\s'=s2.us (.case q p 0 fs)/\Le s s1/\Le s1 s2/\fs.length=l.length:=by
 obtain⟨q,s1,h1,h,l1⟩:=L1 hL (show(match L k s with|some (q,s)=>(match Ah L p own s.held l [] s with|some (as,s)=>some (s.us (.case q p 0 as))|none=>none)|none=>none)=some s' from h)
 cases e:Ah L p own s1.held l [] s1 with
 |none=>rw[e]at h;cases h
 |some z=>
  obtain⟨fs,s2⟩:=z
  rw[e]at h
  obtain⟨x,y⟩:=u5 hL e
  exact⟨q,s1,fs,s2,h1,e,(cf.inj h).symm,l1,x,by rw[show fs.length=_ from y];simp⟩
theorem vP {L:Lf} (hL:Lmo L) {roots:List Nat} {ho:Option Hm} {p own:Int} {s s':Ls} {ρ:Ro} (h:lG L roots ho p own s ρ=some s'):Le s s':=by
 cases ρ with
 |name w=>
  obtain⟨h0,q,s1,_,h1,rfl⟩:=rq h
  exact(tZ hL h1).trans Le.fl
 |case k l=>
  obtain⟨q,s1,fs,s2,_,_,rfl,l1,l2,_⟩:=rA hL h
  exact(l1.trans l2).trans Le.us
 |num n=>exact kf hL (roots:=roots) (ho:=ho) (ρ:= .num n) h
 |fn n k=>exact kf hL (roots:=roots) (ho:=ho) (ρ:= .fn n k) h
 |tag n k=>exact kf hL (roots:=roots) (ho:=ho) (ρ:= .tag n k) h
 |lt n a b=>exact kf hL (p:=p) (roots:=roots) (ho:=ho) (ρ:= .lt n a b) h
 |get k n=>exact kf hL (roots:=roots) (ho:=ho) (ρ:= .get k n) h
 |rcd l=>exact kf hL (roots:=roots) (ho:=ho) (ρ:= .rcd l) h
 |row l=>exact kf hL (roots:=roots) (ho:=ho) (ρ:= .row l) h
 |op o l=>exact kf hL (roots:=roots) (ho:=ho) (ρ:= .op o l) h
theorem qq {ρs:List Ro} {roots:List Nat} {ho:Nat->Option Hm} {f:Nat} {p r:Int} {s s':Ls} (h:nG ρs roots ho (f+ 1) p s=some (r,s')):∃ρ s2,atZ ρs p=some ρ/\lG (nG ρs roots ho f) roots (ho p.toNat) p s.n (s.pt p) ρ=some s2/\r=s.n/\s'={s2 with held:=s.held,st:=s.st}:=by
 unfold nG at h
 cases e:atZ ρs p with
 |none=>rw[e]at h;cases h
 |some ρ=>
  rw[e]at h
  dsimp only at h
  cases e2:lG (nG ρs roots ho f) roots (ho p.toNat) p s.n (s.pt p) ρ with
  |none=>rw[e2]at h;cases h
  |some z=>rw[e2]at h;cases h;exact⟨ρ,z,rfl,e2,rfl,rfl⟩
theorem gB {ρs:List Ro} {roots:List Nat} {ho:Nat->Option Hm}:∀f,Lmo (nG ρs roots ho f)
 |0,p,s,q,s',h=>by cases h
 |f+ 1,p,s,q,s',h=>by
  obtain⟨ρ,s2,_,h2,_,rfl⟩:=qq h
  have:=vP (gB f) h2
  exact Le.pt.trans ⟨this.p,this.m,this.u,this.f⟩
theorem km {ρs:List Ro} {roots:List Nat} {ho:Nat->Option Hm} {f:Nat} {p r:Int} {s s':Ls} (h:nG ρs roots ho f p s=some (r,s')):s'.held=s.held:=by
 cases f with
 |zero=>cases h
 |succ f=>
  obtain⟨ρ,s2,_,_,_,rfl⟩:=qq h
  rfl
theorem x1 {H:Hp} {A:Ad} {D:Bd} (B:Dw H A D):∃xs,H A.p1=some (.lst xs):=let⟨x,h,_⟩:=B.e1;⟨x,h⟩
theorem x2 {H:Hp} {A:Ad} {D:Bd} (B:Dw H A D):∃xs,H A.p2=some (.lst xs):=let⟨x,h,_⟩:=B.e2;⟨x,h⟩
theorem x3 {H:Hp} {A:Ad} {D:Bd} (B:Dw H A D):∃xs,H A.p3=some (.lst xs):=let⟨x,h,_⟩:=B.e3;⟨x,h⟩
section
variable {H:Hp} {A:Ad} {e:Addr} {s:Ls} {k:Hp->Prop}
theorem Lw.of {H':Hp} {D':Bd} (M:Lw H A e s) (B:Dw H' A D') (F:FD A H H') (l:s.D.pts.length<=D'.pts.length):Lw H' A e {s with D:=D'}:=⟨B,(Dw.dk M.b F M.e).le (by show 2*s.D.pts.length<=2*D'.pts.length;lia)⟩
theorem yX {p:Int} (M:Lw H A e s) (hz:s.D.pts.length<10000000) (q:∀H',Lw H' A e (s.pt p)->FD A H H'->k H'):∃xs,H A.p0=some (.lst xs)/\xs.length<sizeLine/\k (L2.Internal.upd H A.p0 (.lst (xs++[.int p]))):=by
 have sl:=sizeLine_eq
 have F:FD A H (L2.Internal.upd H A.p0 (.lst (s.D.pts.map V.int++[.int p]))):=xi (by simp[Ad.ls])
 exact⟨_,M.b.e0,by rw[aA];lia,q _ (M.of (M.b.pt p) F (by show _<=(s.D.pts++[p]).length;simp)) F⟩
theorem rB {x y:Int} {t:Addr} (M:Lw H A e s) (ht:H t=none) (hz:s.D.fls.length<10000000) (q:∀H',Lw H' A e (s.fl x y)->FD A H H'->k H'):∃xs,(L2.Internal.upd H t (.tup [.int x,.int y])) A.p3=some (.lst xs)/\xs.length<sizeLine/\k (L2.Internal.upd (L2.Internal.upd H t (.tup [.int x,.int y])) A.p3 (.lst (xs++[.ref t]))):=by
 have sl:=sizeLine_eq
 have S:=eL ht (.tup [.int x,.int y])
 have M1:=M.same S
 obtain⟨fv,g1,g2⟩:=M.b.e3
 have lf:=g2.length
 rw[aA]at lf
 have F:FD A (L2.Internal.upd H t (.tup [.int x,.int y])) (L2.Internal.upd (L2.Internal.upd H t (.tup [.int x,.int y])) A.p3 (.lst (fv++[.ref t]))):=xi (by simp[Ad.ls])
 exact⟨fv,S _ _ g1,by lia,q _ (M1.of (M1.b.fl (S _ _ g1) (gA ht (.cons (.flat rfl) (.cons (.flat rfl) .nil)))) F (bX _)) ((FD.same S).trans F)⟩
theorem oK {t:Addr} {xs:List V} {u:Us} {ds:List Dt} (M:Lw H A e s) (ht:H t=none) (hd:u.d= .tup ds) (i:Ims H xs ds) (hz:s.D.uss.length<10000000) (q:∀H',Lw H' A e (s.us u)->FD A H H'->k H'):∃ys,(L2.Internal.upd H t (.tup xs)) A.p2=some (.lst ys)/\ys.length<sizeLine/\k (L2.Internal.upd (L2.Internal.upd H t (.tup xs)) A.p2 (.lst (ys++[.ref t]))):=by
 have sl:=sizeLine_eq
 have S:=eL ht (.tup xs)
 have M1:=M.same S
 obtain⟨fv,g1,g2⟩:=M.b.e2
 have lf:=g2.length
 rw[aA]at lf
 have F:FD A (L2.Internal.upd H t (.tup xs)) (L2.Internal.upd (L2.Internal.upd H t (.tup xs)) A.p2 (.lst (fv++[.ref t]))):=xi (by simp[Ad.ls])
 exact⟨fv,S _ _ g1,by lia,q _ (M1.of (M1.b.us (S _ _ g1) (by rw[hd];exact gA ht i)) F (bX _)) ((FD.same S).trans F)⟩
theorem lH {t:Addr} {m:Mkg} {v:V} (M:Lw H A e s) (ht:H t=none) (i:Im H v m.f) (hz:s.D.mks.length<10000000) (q:∀H',Lw H' A e (s.mk' m)->FD A H H'->k H'):∃ys,(L2.Internal.upd H t (.tup [.str m.s,v,.int m.a,.int m.p])) A.p1=some (.lst ys)/\ys.length<sizeLine/\k (L2.Internal.upd (L2.Internal.upd H t (.tup [.str m.s,v,.int m.a,.int m.p])) A.p1 (.lst (ys++[.ref t]))):=by
 have sl:=sizeLine_eq
 have S:=eL ht (.tup [.str m.s,v,.int m.a,.int m.p])
 have M1:=M.same S
 obtain⟨fv,g1,g2⟩:=M.b.e1
 have lf:=g2.length
 rw[aA]at lf
 have F:FD A (L2.Internal.upd H t (.tup [.str m.s,v,.int m.a,.int m.p])) (L2.Internal.upd (L2.Internal.upd H t (.tup [.str m.s,v,.int m.a,.int m.p])) A.p1 (.lst (fv++[.ref t]))):=xi (by simp[Ad.ls])
 exact⟨fv,S _ _ g1,by lia,q _ (M1.of (M1.b.addM (S _ _ g1) (gA ht (.cons (.flat rfl) (.cons i (.cons (.flat rfl) (.cons (.flat rfl) .nil)))))) F (bX _)) ((FD.same S).trans F)⟩
theorem Lw.copy {i:Addr} {kvs:List (Key×V)} (M:Lw H A e s) (hn:s.D.pts.length<1000000) (ek:H e=some (.dK kvs)) (hi:H i=none) (k v:Int):∃H',xO (L2.Internal.upd H i (.dK kvs)) i (.int k) (.int v) H'/\Dw H' A s.D/\DkI H' i (put s.held k v) (2*s.D.pts.length+ 1)/\FD A H H'/\Dw (L2.Internal.upd H i (.dK kvs)) A s.D:=by
 obtain⟨kvs',ek',lk,rk⟩:=M.e
 rw[ek]at ek'
 cases ek'
 have S1:=eL hi (.dK kvs)
 have B1:=M.b.same S1
 have D1:DkI (L2.Internal.upd H i (.dK kvs)) i s.held (2*s.D.pts.length):=⟨kvs,eG,lk,rk⟩
 obtain⟨H2,dp,⟨o,rfl⟩,D2⟩:=D1.put (by lia) k v
 exact⟨_,dp,Dw.new B1 eG,D2,(FD.same S1).put hi _,B1⟩
end
theorem jM {f:Nat} {H:Hp} {A:Ad} {bh e:Addr} {s s':Ls} {p r:Int} {roots:List Nat} {ρs:List Ro} {ho:Nat->Option Hm} {Q:VK} (M:Lw H A e s) (C:Cl H A bh roots ρs ho) (h2:∃v,s.held (-2)=some v) (hl:nG ρs roots ho f p s=some (r,s')) (hz:Sz 1000000 s') (q:∀H',Lw H' A e s'->FD A H H'->Cl H' A bh roots ρs ho->TK H H'->Q (.int r) H'):Ak f [.ref bh,.ref A.b,.ref e,.int p] H Q E0:=
 ⟨A,bh,e,s,s',p,r,roots,ρs,ho,rfl,M,C,h2,hl,hz,fun H' M' F'=>q H' M' F' (C.fd M.b F') (Dw.tk M.b F')⟩
abbrev hdN (i:Nat) (x:Str):TT:=cT (tOp (cEq true) (tOp zD (cV i) (tC (.int 0))) (tC (.str x)))
theorem Be {i:Nat} {x s:Str} {t:Addr} {ys:List V} {σ:St} {H:Hp} {k:Bool->Hp->Prop} {b:Bool} (hσ:σ[i]?=some (some (.ref t))) (et:H t=some (.tup (.str s::ys))) (e:decide (s=x)=!b) (h:k b H):hdN i x σ H k:=by
 show onV σ[i]? _
 rw[hσ]
 refine⟨_,et,eP (eM (j:=0) rfl) ?_⟩
 dsimp only[tC,cEq,onB]
 rw[e,dP,Bool.not_not]
 exact h
theorem Eg {i:Nat} {x s:Str} {t:Addr} {ys:List V} {σ:St} {H:Hp} {T u:TS} {D:mh} (hσ:σ[i]?=some (some (.ref t))) (et:H t=some (.tup (.str s::ys))) (e:decide (s=x)=true) (h:u D σ H):rM (hdN i x) T u D σ H:=Be (b:=false) hσ et e (jP h)
theorem Eh {i:Nat} {x s:Str} {t:Addr} {ys:List V} {σ:St} {H:Hp} {T u:TS} {D:mh} (hσ:σ[i]?=some (some (.ref t))) (et:H t=some (.tup (.str s::ys))) (e:decide (s=x)=false) (h:T D σ H):rM (hdN i x) T u D σ H:=Be (b:=true) hσ et e (kj h)
theorem jg (T:Txt K mg) (f:Nat) (gD52:FO P w base (4*f+ 2) T.d52 (Ak f)):FO P w base (4*f+ 3) T.d47 (FX f):=by
 refine T.d47.F.ok je (fun vs H Q E h=>?_) (fun cdv A0 outer s0 H vs Q E hr h=>?_)
 ·obtain⟨A,bh,e,s,s',d,r,roots,ρs,ho,rfl,_⟩:=h
  rfl
 obtain⟨A,bh,e,s,s',d,r,roots,ρs,ho,rfl,M,C,hl,hz,q⟩:=h
 have hu:=qD hr
 refine⟨_,(eJ (pS (i:=4) je.nd (fW nP rfl T.z_dict uN (eE (cv 2) eF)))
  (eJ (mq hu (cv 4) (kM jc eK) (fD fz rfl T.z_len gU (eE (eU eR (cv 1) eK) eF)) rfl)
  (eJ (mq hu (cv 4) (kM jc eK) (cv 3) rfl)
  (eJ (eW (fN (gu dD dE dF fh (PE.mono (eU eR (cv 1) eK)) (eE (PE.mono (eU eR (eU eR (cv 0) eK) (cv 3))) eF))))
  (eJ (eW (fN (gu dD dE dF fh (PE.mono (eU eR (cv 1) eK)) (eE (PE.mono (fe (eE (pF T.d52 gD52 (hr.mono (by lia)) (eE (cv 0) (eE (cv 1) (eE (cv 4) (eE (eU eR (eU eR (cv 0) eK) (cv 3)) eF))))) (eE (kn hu (cv 4) (kM jc eK)) eF)))) eF))))
  (eO (fm (kn hu (cv 4) (kM jc eK))))))))),?_⟩
 obtain⟨r0,q0,s2,hd,h2,rfl,rfl⟩:=tY hl
 obtain⟨d,rfl,hd3⟩:=gR hd
 obtain⟨kvs,ek,lk,rk⟩:=M.e
 have l2:=gB f _ _ _ _ h2
 have lq:=((Le.ho.trans (Le.ho.trans (l2.trans Le.fl))).sz hz).p
 have lp:=xb lq
 have en:((bc V.int s.D.pts).length:Int)=s.n:=by rw[aA];rfl
 refine⟨e,kvs,rfl,ek,fun i hi=>?_⟩
 dsimp only[fu]
 obtain⟨H2,dp,B2,D2,F2,B1⟩:=M.copy lp ek hi (-1) ((bc V.int s.D.pts).length:Int)
 rw[en]at D2
 refine⟨_,B1.b,eP (eM (j:=0) rfl) ⟨_,_,rfl,.inl (SqL.of B1.e0),1,rfl,i,H2,rfl,dp,?_⟩⟩
 obtain⟨H3,dp3,⟨o3,rfl⟩,D3⟩:=D2.put (by lia) (-2) d
 obtain⟨kv2,ek2,_⟩:=D2
 have B3:=Dw.new (o:=o3) B2 ek2
 have F3:=F2.put hi (.dK o3)
 have C3:=C.fd M.b F3
 obtain⟨nn,rr,ww,hh,xs,hs,c0,c1,_⟩:=C3.p
 refine⟨2,rfl,i,_,rfl,dp3,?_⟩
 have er:(roots.map nI)[d]?=some (nI r0):=by rw[aI,hd3];rfl
 refine⟨_,B3.b,eP (eM (j:=0) rfl) ⟨⟨_,B3.e0⟩,_,c0,eP (eM (j:=1) rfl) ⟨_,c1,eP (eM er) ⟨_,B3.e0,by rw[aA,sizeLine_eq];lia,?_⟩⟩⟩⟩
 have F4:FD A (L2.Internal.upd H2 i (.dK o3)) (L2.Internal.upd (L2.Internal.upd H2 i (.dK o3)) A.p0 (.lst (s.D.pts.map V.int++[nI r0]))):=xi (by simp[Ad.ls])
 have lpt:(s.D.pts++[(r0:Int)]).length=s.D.pts.length+ 1:=by simp
 have M4:Lw _ A i (((s.pt r0).hold (-1) s.n).hold (-2) d):=⟨B3.pt r0,(Dw.dk B3 F4 D3).le (by show _<=2*(s.D.pts++[(r0:Int)]).length;lia)⟩
 have C4:=C3.fd B3 F4
 obtain⟨nn,rr,ww,hh,xs,hs,c0,c1,_⟩:=C4.p
 refine⟨_,M4.b.b,eP (eM (j:=3) rfl) ⟨x3 M4.b,_,c0,eP (eM (j:=1) rfl) ⟨_,c1,eP (eM er) ?_⟩⟩⟩
 refine jM M4 C4 ⟨d,by show put (put s.held (-1) s.n) (-2) d (-2)=_;simp[put]⟩ h2 (Le.fl.sz hz) fun H5 M5 F5 C5 k5=>?_
 have hg:s2.held (-1)=some s.n:=by rw[km h2];show put (put s.held (-1) s.n) (-2) d (-1)=_;simp[put]
 refine⟨1,rfl,i,_,rfl,M5.e.get hg,jO,fun t ht=>?_⟩
 refine rB M5 ht (by have:=(Le.fl.sz hz:Sz _ s2).f;lia) fun H6 M6 F6=>?_
 exact⟨1,rfl,i,_,rfl,M6.e.get hg,q _ M6.b (F3.trans (F4.trans (F5.trans F6)))⟩
inductive XSn (f:Nat) (vs:List V) (H:Hp) (Q:VK):Prop
 |mk (A:Ad) (bh e:Addr) (s s':Ls) (t:Addr) (h:Hm) (r:Int) (roots:List Nat) (ρs:List Ro) (ho:Nat->Option Hm) (ev:vs=[.ref bh,.ref A.b,.ref e,.ref t]) (et:H t=some (.tup [.str h.1,.int h.2])) (M:Lw H A e s) (C:Cl H A bh roots ρs ho) (h2:∃v,s.held (-2)=some v) (hl:nF (nG ρs roots ho f) roots h s=some (r,s')) (hz:Sz 1000000 s') (q:∀H',Dw H' A s'.D->FD A H H'->Q (.int r) H')
def FY (f:Nat):Sp:=fun vs H Q _=>XSn f vs H Q
theorem oW (T:Txt K mg) (f:Nat) (gD52:FO P w base (4*f+ 2) T.d52 (Ak f)):FO P w base (4*f+ 4) T.d48 (FY f):=by
 have gD47:=jg (P:=P) (w:=w) (base:=base) T f gD52
 refine T.d48.F.ok oS (fun vs H Q E h=>?_) (fun cdv A0 outer s0 H vs Q E hr h=>?_)
 ·obtain⟨A,bh,e,s,s',t,h,r,roots,ρs,ho,rfl,_⟩:=h
  rfl
 obtain⟨A,bh,e,s,s',t,h,r,roots,ρs,ho,rfl,et,M,C,h2,hl,hz,q⟩:=h
 have hu:=qD hr
 refine⟨_,(eJ (fV (fg gQ (eU fc (cv 3) eK) eZ)
   (eO (fm (pF T.d52 gD52 (hr.mono (by lia)) (eE (cv 0) (eE (cv 1) (eE (cv 2) (eE (eU fc (cv 3) eK) eF)))))))
   fF)
  (eJ (fV (fg DQ (eU fc (cv 3) eK) eZ)
   (eO (fm (kn hu (cv 2) (eU fc (cv 3) eK))))
   fF)
  (eJ (fV (fg gQ (eU fc (cv 3) eK) (kn hu (cv 2) (kM jc eK)))
   (eO (fm (kn hu (cv 2) (kM jc eK))))
   fF)
  (eO (fm (pF T.d47 gD47 (hr.mono (by lia)) (eE (cv 0) (eE (cv 1) (eE (cv 2) (eE (eU fc (cv 3) eK) eF)))))))))),?_⟩
 unfold nF at hl
 by_cases e1:h.1="let"
 ·rw[fY e1]at hl
  refine ij (i:=3) (x:="let") ?_ et (gM e1) ?_
  ·rfl
  exact⟨_,et,eP (eM (j:=1) rfl) (jM M C h2 hl hz fun H' M' F' _ _=>q H' M'.b F')⟩
 rw[fJ e1]at hl
 refine fQ (i:=3) (x:="let") ?_ et (gk e1) ?_
 ·rfl
 dsimp only[ji]
 by_cases e2:h.1="def"
 ·rw[fY e2]at hl
  obtain⟨v2,hv2⟩:=h2
  refine Eg (i:=3) (x:="def") ?_ et (gM e2) ?_
  ·rfl
  dsimp only[ji]
  refine⟨_,et,eP (eM (j:=1) rfl) ⟨2,rfl,e,_,rfl,M.e.get hv2,?_⟩⟩
  show if(false ^^ decide (h.2=v2))=true then _ else _
  rw[dO]
  by_cases e3:h.2=v2
  ·rw[hv2,fY (by rw[e3])]at hl
   obtain⟨v,hv,e5⟩:=cm.mp hl
   cases e5
   rw[gM e3]
   exact kj ⟨1,rfl,e,_,rfl,M.e.get hv,q _ M.b FD.refl⟩
  ·rw[hv2,fJ (fun z=>e3 (cf.inj z).symm)]at hl
   rw[gk e3]
   exact jP ⟨_,et,eP (eM (j:=1) rfl) ⟨A,bh,e,s,s',h.2,r,roots,ρs,ho,rfl,M,C,hl,hz,q⟩⟩
 rw[fJ e2]at hl
 refine Eh (i:=3) (x:="def") ?_ et (gk e2) ?_
 ·rfl
 obtain⟨v,hv,e5⟩:=cm.mp hl
 cases e5
 exact⟨_,et,eP (eM (j:=1) rfl) ⟨e,_,rfl,M.e.get hv,q _ M.b FD.refl⟩⟩
inductive XSr (f:Nat) (U:Ro->Prop) (vs:List V) (H:Hp) (Q:VK):Prop
 |mk (A:Ad) (bh e t:Addr) (s s':Ls) (p own:Int) (ρ:Ro) (h:Option Hm) (roots:List Nat) (ρs:List Ro) (ho:Nat->Option Hm) (ev:vs=[.ref bh,.ref A.b,.ref e,.ref t,.int p,.int own]) (M:Lw H A e s) (C:Cl H A bh roots ρs ho) (h2:∃v,s.held (-2)=some v) (hu:U ρ) (fw:ρ.few) (it:Im H (.ref t) ρ.d) (hl:lG (nG ρs roots ho f) roots h p own s ρ=some s') (hz:Sz 1000000 s') (q:∀H',Dw H' A s'.D->FD A H H'->Q .non H')
def Cv (f:Nat) (U:Ro->Prop):Sp:=fun vs H Q _=>XSr f U vs H Q
theorem yY {H:Hp} {A:Ad} {D:Bd} {k:Hp->Prop} {p:Int} (B:Dw H A D) (hz:D.pts.length<10000000) (q:∀H',Dw H' A {D with pts:=D.pts++[p]}->FD A H H'->k H'):∃xs,H A.p0=some (.lst xs)/\xs.length<sizeLine/\k (L2.Internal.upd H A.p0 (.lst (xs++[.int p]))):=by
 have sl:=sizeLine_eq
 exact⟨_,B.e0,by rw[aA];lia,q _ (B.pt p) (xi (by simp[Ad.ls]))⟩
def Umk:Ro->Prop
 | .num _=>True
 | .fn _ _=>True
 | .rcd _=>True
 | .tag _ _=>True
 | .row _=>True
 |_=>False
theorem FD.tup {H H':Hp} {A:Ad} {D:Bd} (F:FD A H H') (B:Dw H A D) {t:Addr} {xs:List V} (e:H t=some (.tup xs)):H' t=some (.tup xs):=Dw.tk B F _ _ e
theorem Lw.other {H:Hp} {A:Ad} {e:Addr} {s:Ls} (M:Lw H A e s) {a:Addr} {xs ys:List V} (h:H a=some (.lst xs)) (n:a∉A.ls) (nb:a≠A.b):Lw (L2.Internal.upd H a (.lst ys)) A e s:=by
 obtain⟨b,⟨k,d,r⟩⟩:=M
 exact⟨b.other h n nb,⟨k,by rw[eN (jh d h (fun z=>nomatch z))];exact d,r⟩⟩
theorem Cw {J:It} {i:Nat} {tt:TT} {te:TE} {Q:VK} {τ:St} {H1:Hp} {D:Addr} (xs:List V) (W:Nat->List V->Hp->Prop) (hn:xs.length<sizeLine) (hτ:τ.set i none=τ) (h0:W 0 [] (L2.Internal.upd H1 D (.lst [])))
  (hgo:∀k zs H,W k zs H->k<xs.length->J.go k H) (hst:∀zs H,W xs.length zs H->J.stop xs.length H) (hy:∀k zs H v H',W k zs H->J.yld k H v H'->H'=H/\xs[k]?=some v)
  (step:∀k v zs H (Z:VK) (Z':Hp->Prop),W k zs H->H D=some (.lst zs)->xs[k]?=some v->(∀y H5,H5 D=some (.lst zs)->W (k+ 1) (zs++[y]) (L2.Internal.upd H5 D (.lst (zs++[y])))->Z y H5)->(∀H4,H4 D=some (.lst zs)->W (k+ 1) zs H4->Z' H4)->tt (τ.set i (some v)) H fun ok H4=>if ok=true then te (τ.set i (some v)) H4 Z else Z' H4)
  (hq:∀H' zs,W xs.length zs H'->H' D=some (.lst zs)->Q (.ref D) H'):LcP J i tt te Q τ H1 D:=by
 refine⟨fun k m σ' H2=>Y4 (m=xs.length-k) (k<=xs.length) ((∃o,σ'=τ.set i o)) (∃zs,Y3 (H2 D=some (.lst zs)) (zs.length<=k) (W k zs H2)),⟨xs.length,by simp,bY _,⟨none,hτ.symm⟩,[],eG,bX _,h0⟩,?_⟩
 rintro k m σ' H2 ⟨rfl,hk,⟨o,rfl⟩,zs,e,hl,hw⟩
 by_cases hlt:k<xs.length
 ·refine .inr ⟨hgo k zs H2 hw hlt,fun v H3 y=>?_⟩
  obtain⟨rfl,hv⟩:=hy k zs H2 v H3 hw y
  rw[bw]
  refine step k v zs _ _ _ hw e hv (fun y H5 e5 w5=>?_) fun H4 e4 w4=>?_
  ·exact⟨zs,e5,by lia,xs.length-(k+ 1),by lia,rfl,hlt,⟨some v,rfl⟩,zs++[y],eG,by rw[aM,aU];lia,w5⟩
  ·exact⟨xs.length-(k+ 1),by lia,rfl,hlt,⟨some v,rfl⟩,zs,e4,by lia,w4⟩
 ·have e1:k=xs.length:=by lia
  subst e1
  exact .inl ⟨hst zs H2 hw,hq H2 zs hw e⟩
theorem vQ {K:PySem.W.Frag} {a:Addr} {i:Nat} {tt:TT} {te:TE} {Q:VK} {τ:St} {H1:Hp} {D:Addr} (xs:List V) (W:Nat->List V->Hp->Prop) (hn:xs.length<sizeLine) (hτ:τ.set i none=τ) (hx:∀k zs H,W k zs H->H a=some (.tup xs)) (h0:W 0 [] (L2.Internal.upd H1 D (.lst [])))
  (step:∀k v zs H (Z:VK) (Z':Hp->Prop),W k zs H->H D=some (.lst zs)->xs[k]?=some v->(∀y H5,H5 D=some (.lst zs)->W (k+ 1) (zs++[y]) (L2.Internal.upd H5 D (.lst (zs++[y])))->Z y H5)->(∀H4,H4 D=some (.lst zs)->W (k+ 1) zs H4->Z' H4)->tt (τ.set i (some v)) H fun ok H4=>if ok=true then te (τ.set i (some v)) H4 Z else Z' H4)
  (hq:∀H' zs,W xs.length zs H'->H' D=some (.lst zs)->Q (.ref D) H'):LcP (Itt K a) i tt te Q τ H1 D:=
 Cw xs W hn hτ h0 (fun k zs H w l=>⟨xs,xs[k],SqT.of (hx _ _ _ w),aZ l⟩) (fun zs H w=>⟨xs,SqT.of (hx _ _ _ w),bX _⟩) (fun k zs H v H' w y=>⟨y.1,y.2 xs (SqT.of (hx _ _ _ w))⟩) step hq
theorem Bg {g:Int->Option Int} (h:∃v,g (-2)=some v) (k x:Int):∃v,put g k x (-2)=some v:=by
 obtain⟨v,hv⟩:=h
 by_cases z:(-2:Int)=k
 ·exact⟨x,by simp[put,z]⟩
 ·exact⟨v,by simp[put,z,hv]⟩
theorem oX (T:Txt K mg) (f:Nat) (gD52:FO P w base (4*f+ 2) T.d52 (Ak f)):FO P w base (4*f+ 5) T.d49 (Cv f Umk):=by
 refine T.d49.F.ok fX (fun vs H Q E h=>?_) (fun cdv A0 outer s H vs Q E hr h=>?_)
 ·obtain⟨A,bh,e,t,s,s',p,own,ρ,h,roots,ρs,ho,rfl,_⟩:=h
  rfl
 obtain⟨A,bh,e,t,st,s',p,own,ρ,h,roots,ρs,ho,rfl,M,C,h2,hU,fw,it,hl,hz,q⟩:=h
 have hu:=qD hr
 refine⟨_,(eJ (pS (i:=6) fX.nd (fe eF))
  (eJ (fV (fg gQ (eU fc (cv 3) eK) eZ)
   (eJ (pS (i:=7) fX.nd (fW nP rfl T.z_dict uN (eE (cv 2) eF)))
   (eJ (mq hu (cv 7) (eU fc (cv 3) eK) (fD fz rfl T.z_len gU (eE (eU eR (cv 1) eK) eF)) rfl)
   (eJ (eW (fN (gu dD dE dF fh (PE.mono (eU eR (cv 1) eK)) (eE (PE.mono (cv 4)) eF))))
   (eO (pS (i:=6) fX.nd (fe (eE (kn hu (cv 7) (eU fc (cv 3) eK)) (eE (pF T.d52 gD52 (hr.mono (by lia)) (eE (cv 0) (eE (cv 1) (eE (cv 7) (eE (eU fc (cv 3) eK) eF))))) eF))))))))
   (eO (fV (fg gQ (eU fc (cv 3) eK) eZ)
    (eO (pS (i:=6) fX.nd (fW f9 rfl T.z_tuple iM (eE (uO rfl (A3 (x:="_law_part") ["_law_told_here","_law_held","_law_built_here"] [("_law_told_here",1,s.heap.objs.size+ 2),("_law_held",2,s.heap.objs.size+ 3),("_law_built_here",0,s.heap.objs.size+ 1)]) (pB (eU fc (cv 3) eK)) (fun _ _ _ _ _=>jr) (fun _ _ _ _ _=>(fe (eE (eU fc (cv 0) eK) (eE (pF T.d52 gD52 (hr.mono (by lia)) (eE (cv 3) (eE (cv 1) (eE (cv 2) (eE (eU fc (cv 0) eK) eF))))) eF))))) eF))))
    (eO (fV (fg gQ (eU fc (cv 3) eK) eZ)
     (eO (pS (i:=6) fX.nd (fe (eE (eU fc (cv 3) eK) (eE (pF T.d52 gD52 (hr.mono (by lia)) (eE (cv 0) (eE (cv 1) (eE (cv 2) (eE (eU fc (cv 3) eK) eF))))) eF)))))
     (eO (fV (fg gQ (eU fc (cv 3) eK) eZ)
      (eJ (pS (i:=6) fX.nd (fe (eE (fD fz rfl T.z_len gU (eE (eU eR (cv 1) eK) eF)) eF)))
      (eJ (eW (fN (gu dD dE dF fh (PE.mono (eU eR (cv 1) eK)) (eE (PE.mono (cv 4)) eF))))
      (eO (jb PassesOwn.never rfl (pB (eU fc (cv 3) eK)) (pN (i:=8) fX.nd)
       (eO (eW (fN (gu dD dE dF fh (PE.mono (eU eR (cv 1) eK)) (eE (PE.mono (fe (eE (pF T.d52 gD52 (hr.mono (by lia)) (eE (cv 0) (eE (cv 1) (eE (cv 2) (eE (cv 8) eF))))) (eE (eU fc (cv 6) eK) eF)))) eF)))))))))
      fF)))))))
  (eO (eW (fN (gu dD dE dF fh (PE.mono (eU eR (cv 1) eK)) (eE (PE.mono (fe (eE (eU fc (cv 3) eK) (eE (cv 6) (eE (cv 5) (eE (cv 4) eF)))))) eF))))))),?_⟩
 refine⟨ki,fun a ha=>?_⟩
 dsimp only[fu]
 have S1:=eL ha (.tup [])
 have M1:=M.same S1
 have C1:=C.fd M.b (FD.same S1)
 obtain⟨ys,et,iy⟩:=jo (it.mono (fG.tk S1))
 cases ρ with
 |num n=>
  refine fQ (i:=3) (x:="fn") (s:="num") rfl et fo ?_
  refine fQ (i:=3) (x:="rec") (s:="num") rfl et fo ?_
  refine fQ (i:=3) (x:="tag") (s:="num") rfl et fo ?_
  refine fQ (i:=3) (x:="row") (s:="num") rfl et fo ?_
  cases cf.inj hl
  refine⟨_,M1.b.b,eP (eM (j:=1) rfl) ⟨x1 M1.b,_,et,eP (eM (j:=0) rfl) ⟨qB,fun t1 ht=>?_⟩⟩⟩
  exact lH (m:=⟨"num",.tup [],own,p⟩) M1 ht (.tup eG .nil) (by have:=(Le.mk'.sz hz:Sz _ st).m;lia) fun H' M' F'=>q H' M'.b ((FD.same S1).trans F')
 |fn n k=>
  obtain⟨y1,y2,rfl,i1,i2⟩:=vL iy
  cases jz i1
  cases iG i2
  obtain⟨x,s1,hx,hl,l1⟩:=L1 (gB f) hl
  cases cf.inj hl
  have lq:=((Le.ho.trans (l1.trans Le.mk')).sz hz).p
  have lp:=xb lq
  have en:((bc V.int st.D.pts).length:Int)=st.n:=by rw[aA];rfl
  refine ij (i:=3) (x:="fn") (s:="fn") rfl et fo ?_
  obtain⟨kvs,ek,lk,rk⟩:=M1.e
  refine⟨e,kvs,rfl,ek,fun i hi=>?_⟩
  dsimp only[fu]
  obtain⟨H2,dp,B2,D2,F2,B1⟩:=M1.copy lp ek hi k ((bc V.int st.D.pts).length:Int)
  rw[en]at D2
  have et1:=(eL hi (.dK kvs)) _ _ et
  have et2:=F2.tup M1.b et
  refine⟨_,B1.b,eP (eM (j:=0) rfl) ⟨_,_,rfl,.inl (SqL.of B1.e0),_,et1,eP (eM (j:=2) rfl) ⟨i,H2,rfl,dp,?_⟩⟩⟩
  refine⟨_,B2.b,eP (eM (j:=0) rfl) ⟨⟨_,B2.e0⟩,yY B2 (by lia) fun H3 B3 F3=>?_⟩⟩
  have et3:=F3.tup B2 et2
  have lpt:(st.D.pts++[p]).length=st.D.pts.length+ 1:=by simp
  have M3:Lw H3 A i ((st.pt p).hold k st.n):=⟨B3,(Dw.dk B2 F3 D2).le (by show _<=2*(st.D.pts++[p]).length;lia)⟩
  have C3:=(C1.fd M1.b F2).fd B2 F3
  have hg:put st.held k st.n k=some st.n:=by simp[put]
  have h23:=Bg h2 k st.n
  refine⟨_,et3,eP (eM (j:=2) rfl) ⟨i,_,rfl,M3.e.get hg,_,et3,eP (eM (j:=2) rfl) (jM M3 C3 h23 hx (Le.mk'.sz hz) fun H4 M4 F4 C4 k4=>⟨jO,fun a2 ha2=>?_⟩)⟩⟩
  dsimp only[fu]
  have S5:=eL ha2 (.tup [.int st.n,.int x])
  have M5:=M4.same S5
  have et5:=S5 _ _ (k4 _ _ et3)
  refine⟨_,M5.b.b,eP (eM (j:=1) rfl) ⟨x1 M5.b,_,et5,eP (eM (j:=0) rfl) ⟨qB,fun t1 ht=>?_⟩⟩⟩
  exact lH (m:=⟨"fn",.tup [kD st.n,kD x],own,p⟩) M5 ht (gA ha2 (.cons (.flat rfl) (.cons (.flat rfl) .nil))) (by have:=(Le.mk'.sz hz:Sz _ s1).m;lia) fun H' M' F'=>q H' M'.b ((FD.same S1).trans (F2.trans (F3.trans (F4.trans ((FD.same S5).trans F')))))
 |rcd l=>
  refine fQ (i:=3) (x:="fn") (s:="rec") rfl et fo ?_
  refine ij (i:=3) (x:="rec") (s:="rec") rfl et fo ?_
  have sl:=sizeLine_eq
  obtain⟨y1,rfl,i1⟩:=zF iy
  obtain⟨tl,xs,rfl,el,il⟩:=mf i1
  have lx:=il.length
  rw[aA]at lx
  have fw:l.length<=10:=fw
  obtain⟨fs,s1,hx,hl⟩:∃fs s1,qO (nG ρs roots ho f) l [] st=some (fs,s1)/\some (s1.mk' ⟨"rec",prD fs,own,p⟩)=some s':=by
   unfold lG at hl
   simp only[hX]at hl
   cases e:qO (nG ρs roots ho f) l [] st with
   |none=>rw[e]at hl;cases hl
   |some z=>obtain⟨fs,s1⟩:=z;rw[e]at hl;exact⟨fs,s1,rfl,hl⟩
  cases cf.inj hl
  refine⟨_,et,eP (eM (j:=1) rfl) ⟨tl,rfl,⟨_,SqT.of el⟩,fun D hD=>?_⟩⟩
  have nD:=M1.b.out hD
  have nDb:D≠A.b:=fun z=>by rw[z,M1.b.b]at hD;cases hD
  refine vQ xs (fun k zs H2=>X2 fun(si:Ls) (acc:List (Str×Int))=>Y5 (Lw H2 A e si) ((∃v,si.held (-2)=some v)) (qO (nG ρs roots ho f) (l.drop k) acc si=some (fs,s1)) (FD A (L2.Internal.upd H a (.tup [])) H2) (Ims H2 zs (acc.map prL))) (by lia) rfl (fun k zs H2 ⟨_,_,_,_,_,F,_⟩=>F.tup M1.b el) ⟨st,[],M1.same (eL hD _),h2,hx,FD.same (eL hD _),.nil⟩ ?_ ?_
  ·rintro k v zs H2 Z Z' ⟨si,acc,M2,h22,hx2,F2,iz⟩ ez hv hZ _
   obtain⟨p1,t',hp,rfl,et'⟩:=Ec (il.mono (Dw.tk M1.b F2)) hv
   rw[oA hp]at hx2
   obtain⟨x,s2,h3,hx2,l2⟩:=L1 (gB f) hx2
   have l4:=(tV (gB f) hx2).1
   have C2:=C1.fd M1.b F2
   dsimp only[kS]
   rw[fY rfl]
   refine⟨_,et',eP (eM (j:=0) rfl) ⟨_,et',eP (eM (j:=1) rfl) (jM M2 C2 h22 h3 ((l4.trans Le.mk').sz hz) fun H3 M3 F3 C3 k3=>⟨jO,fun t2 ht2=>?_⟩)⟩⟩
   have S4:=eL ht2 (.tup [.str p1.1,.int x])
   have e3:=S4 _ _ (F3 _ _ ez nD)
   refine hZ _ _ e3 ⟨s2,_,(M3.same S4).other e3 nD nDb,by rw[km h3];exact h22,hx2,((F2.trans F3).trans (FD.same S4)).put hD _,?_⟩
   rw[bz]
   exact(((iz.mono k3).mono (fG.tk S4)).app (.cons (gA ht2 (.cons (.flat rfl) (.cons (.flat rfl) .nil))) .nil)).mono (gH e3).tk
  ·rintro H2 zs ⟨si,acc,M2,h22,hx2,F2,iz⟩ ez
   rw[lx,bC]at hx2
   cases cf.inj hx2
   refine⟨D,zs,rfl,.inl ⟨SqL.of ez,fun a3 ha3=>?_⟩⟩
   dsimp only[fu]
   have S3:=eL ha3 (.tup zs)
   have M3:=M2.same S3
   refine⟨_,M3.b.b,eP (eM (j:=1) rfl) ⟨x1 M3.b,_,S3 _ _ (F2.tup M1.b et),eP (eM (j:=0) rfl) ⟨qB,fun t1 ht=>?_⟩⟩⟩
   exact lH (m:=⟨"rec",prD fs,own,p⟩) M3 ht (gA ha3 iz) (by have:=(Le.mk'.sz hz:Sz _ s1).m;lia) fun H' M' F'=>q H' M'.b ((FD.same S1).trans (F2.trans ((FD.same S3).trans F')))
 |tag n k=>
  obtain⟨y1,y2,rfl,i1,i2⟩:=vL iy
  cases jz i1
  cases iG i2
  obtain⟨x,s1,hx,hl,l1⟩:=L1 (gB f) hl
  cases cf.inj hl
  refine fQ (i:=3) (x:="fn") (s:="tag") rfl et fo ?_
  refine fQ (i:=3) (x:="rec") (s:="tag") rfl et fo ?_
  refine ij (i:=3) (x:="tag") (s:="tag") rfl et fo ?_
  refine⟨_,et,eP (eM (j:=1) rfl) ⟨_,et,eP (eM (j:=2) rfl) (jM M1 C1 h2 hx (Le.mk'.sz hz) fun H4 M4 F4 C4 k4=>⟨jO,fun a2 ha2=>?_⟩)⟩⟩
  dsimp only[fu]
  have S5:=eL ha2 (.tup [.str n,.int x])
  have M5:=M4.same S5
  have et5:=S5 _ _ (k4 _ _ et)
  refine⟨_,M5.b.b,eP (eM (j:=1) rfl) ⟨x1 M5.b,_,et5,eP (eM (j:=0) rfl) ⟨qB,fun t1 ht=>?_⟩⟩⟩
  exact lH (m:=⟨"tag",.tup [sD n,kD x],own,p⟩) M5 ht (gA ha2 (.cons (.flat rfl) (.cons (.flat rfl) .nil))) (by have:=(Le.mk'.sz hz:Sz _ s1).m;lia) fun H' M' F'=>q H' M'.b ((FD.same S1).trans (F4.trans ((FD.same S5).trans F')))
 |row ks=>
  obtain⟨y1,rfl,i1⟩:=zF iy
  obtain⟨tl,xs,rfl,el,il⟩:=mf i1
  cases vN il
  obtain⟨s1,h1,hl⟩:=O1 (show(match sT (nG ρs roots ho f) st.n ks (st.pt p)with|some s'=>some (s'.mk' (mkR st.n own p))|none=>none)=some s' from hl)
  have l1:=rp (gB f) h1
  cases cf.inj hl
  refine fQ (i:=3) (x:="fn") (s:="row") rfl et fo ?_
  refine fQ (i:=3) (x:="rec") (s:="row") rfl et fo ?_
  refine fQ (i:=3) (x:="tag") (s:="row") rfl et fo ?_
  refine ij (i:=3) (x:="row") (s:="row") rfl et fo ?_
  have en:((bc V.int st.D.pts).length:Int)=st.n:=by rw[aA];rfl
  refine⟨_,M1.b.b,eP (eM (j:=0) rfl) ⟨_,_,rfl,.inl (SqL.of M1.b.e0),kO,fun a2 ha2=>?_⟩⟩
  dsimp only[fu]
  rw[en]
  have S2:=eL ha2 (.tup [.int st.n])
  have M2:=M1.same S2
  refine⟨_,M2.b.b,eP (eM (j:=0) rfl) ⟨⟨_,M2.b.e0⟩,yX M2 (by have:=((Le.pt.trans (l1.trans Le.mk')).sz hz).p;lia) fun H3 M3 F3=>?_⟩⟩
  have et3:=F3.tup M2.b (S2 _ _ et)
  have el3:=F3.tup M2.b (S2 _ _ el)
  have C3:=(C1.fd M1.b (FD.same S2)).fd M2.b F3
  have e63:=F3.tup M2.b (show(L2.Internal.upd (L2.Internal.upd H a (.tup [])) a2 (.tup [.int st.n])) a2=some (.tup [.int st.n])from eG)
  refine⟨_,et3,eP (eM (j:=1) rfl) ⟨tl,rfl,⟨_,SqT.of el3⟩,pD (xs:=ks.map V.int) (fun i σ H2=>X2 fun(o8:Option V) (si:Ls)=>Y5 (σ=[some (.ref bh),some (.ref A.b),some (.ref e),some (.ref t),some (.int p),some (.int own),some (.ref a2),none,o8]) (Lw H2 A e si) ((∃v,si.held (-2)=some v)) (sT (nG ρs roots ho f) st.n (ks.drop i) si=some s1) (FD A H3 H2))
   ⟨none,_,rfl,M3,h2,h1,FD.refl⟩ (fun i σ H2 _ ⟨_,_,_,_,_,_,F⟩=>SqT.of (F.tup M3.b el3)) ?_ ?_⟩⟩
  ·rintro i v σ H4 hv ⟨o8,si,rfl,M4,h24,h4,F4⟩
   rw[aI]at hv
   obtain⟨k,hk,rfl⟩:=cm.mp hv
   rw[oA hk]at h4
   obtain⟨x,s2,h5,h4,l2⟩:=L1 (gB f) h4
   have l4:=rp (gB f) h4
   have C4:=C3.fd M3.b F4
   dsimp only[fu]
   refine⟨_,M4.b.b,eP (eM (j:=3) rfl) ⟨x3 M4.b,jM M4 C4 h24 h5 ((Le.fl.trans (l4.trans Le.mk')).sz hz) fun H5 M5 F5 C5 k5=>?_⟩⟩
   refine⟨_,k5 _ _ (F4.tup M3.b e63),eP (eM (j:=0) rfl) ⟨jO,fun t1 ht=>?_⟩⟩
   refine rB M5 ht (by have:=((Le.fl.trans (l4.trans Le.mk')).sz hz:Sz _ s2).f;lia) fun H6 M6 F6=>?_
   exact⟨_,_,rfl,M6,by show ∃v,s2.held (-2)=some v;rw[km h5];exact h24,h4,F4.trans (F5.trans F6)⟩
  ·rintro σ H4 ⟨o8,si,rfl,M4,h24,h4,F4⟩
   rw[aA,bC]at h4
   cases cf.inj h4
   have S5:=FD.tup F4 M3.b e63
   refine⟨_,M4.b.b,eP (eM (j:=1) rfl) ⟨x1 M4.b,_,F4.tup M3.b et3,eP (eM (j:=0) rfl) ⟨qB,fun t1 ht=>?_⟩⟩⟩
   exact lH (m:=⟨"row",.tup [kD st.n],own,p⟩) M4 ht (.tup S5 (.cons (.flat rfl) .nil)) (by have:=(Le.mk'.sz hz:Sz _ s1).m;lia) fun H' M' F'=>q H' M'.b ((FD.same S1).trans ((FD.same S2).trans (F3.trans (F4.trans F'))))
 |_=>exact hU.elim
theorem ph {K:PySem.W.Frag} {H:Hp} {a b:Addr} {xs ys:List V} {Q:VK} (ha:H a=some (.tup xs)) (hb:H b=some (.tup ys)) (hz:xs.length+ys.length<=sizeLine) (h:∀c H',fG H H'->H' c=some (.tup (xs++ys))->Q (.ref c) H'):DU K (.ref a) (.ref b) H Q:=
 ⟨a,b,xs,ys,rfl,rfl,SqT.of ha,SqT.of hb,hz,fun z=>h b H (fun _ _ e=>e) (by rw[z];exact hb),fun z=>h a H (fun _ _ e=>e) (by rw[z,aB];exact ha),fun p hp=>h p _ (eL hp _) eG⟩
theorem oY (T:Txt K mg) (f:Nat) (gD52:FO P w base (4*f+ 2) T.d52 (Ak f)):FO P w base (4*f+ 5) T.d50 (Cv f fun ρ=>X2 fun k l=>ρ= .case k l):=by
 refine T.d50.F.ok gw (fun vs H Q E h=>?_) (fun cdv A0 outer s0 H vs Q E hr h=>?_)
 ·obtain⟨A,bh,e,t,s,s',p,own,ρ,h,roots,ρs,ho,rfl,_⟩:=h
  rfl
 obtain⟨A,bh,e,t,st,s',p,own,ρ,h,roots,ρs,ho,rfl,M,C,h2,⟨k,l,rfl⟩,fw,it,hl,hz,q⟩:=h
 have hu:=qD hr
 refine⟨_,(eJ (pS (i:=6) gw.nd (pF T.d52 gD52 (hr.mono (by lia)) (eE (cv 0) (eE (cv 1) (eE (cv 2) (eE (eU fc (cv 3) eK) eF))))))
  (eJ (pS (i:=7) gw.nd (fe eF))
  (eJ (jb PassesOwn.never rfl (pB (eU fc (cv 3) eK)) (pN (i:=8) gw.nd)
   (eJ (pS (i:=9) gw.nd (fW nP rfl T.z_dict uN (eE (cv 2) eF)))
   (eJ (mq hu (cv 9) (eU fc (cv 8) eK) (fD fz rfl T.z_len gU (eE (eU eR (cv 1) eK) eF)) rfl)
   (eJ (eW (fN (gu dD dE dF fh (PE.mono (eU eR (cv 1) eK)) (eE (PE.mono (cv 4)) eF))))
   (eJ (pS (i:=7) gw.nd (fC rZ (cv 7) (fe (eE (fe (eE (eU fc (cv 8) eK) (eE (kn hu (cv 9) (eU fc (cv 8) eK)) eF))) eF))))
   (eO (eW (fN (gu dD dE dF fh (PE.mono (eU eR (cv 1) eK)) (eE (PE.mono (fe (eE (pF T.d52 gD52 (hr.mono (by lia)) (eE (cv 0) (eE (cv 1) (eE (cv 9) (eE (eU fc (cv 8) eK) eF))))) (eE (cv 5) eF)))) eF))))))))))
  (eO (eW (fN (gu dD dE dF fh (PE.mono (eU eR (cv 1) eK)) (eE (PE.mono (fe (eE eZ (eE (cv 6) (eE (cv 4) (eE eK (eE (cv 7) eF))))))) eF)))))))),?_⟩
 have sl:=sizeLine_eq
 have fw:l.length<=10:=fw
 obtain⟨ys,et,iy⟩:=jo it
 obtain⟨y1,y2,rfl,i0,i1⟩:=vL iy
 cases iG i0
 obtain⟨tl,xs,rfl,el,il⟩:=mf i1
 obtain⟨x0,s1,fs,s2,h0,h1,rfl,l0,l1,lf⟩:=rA (gB f) hl
 have es1:=km h0
 refine⟨_,et,eP (eM (j:=1) rfl) (jM M C h2 h0 ((l1.trans Le.us).sz hz) fun H0 M0 F0 C0 k0=>?_)⟩
 dsimp only[fu]
 refine⟨ki,fun a ha=>?_⟩
 dsimp only[fu]
 have S1:=eL ha (.tup [])
 have M1:=M0.same S1
 have C1:=C0.fd M0.b (FD.same S1)
 have et1:=S1 _ _ (k0 _ _ et)
 have el1:=S1 _ _ (k0 _ _ el)
 have il1:=(il.mono k0).mono (fG.tk S1)
 have lx:=il.length
 rw[aA]at lx
 refine⟨_,et1,eP (eM (j:=2) rfl) ⟨tl,rfl,⟨_,SqT.of el1⟩,pD (xs:=xs) (fun i σ H2=>X6 fun(o8 o9:Option V) (si:Ls) (acc:List (Str×Int)) (a7:Addr) (zs:List V)=>Y8 (σ=[some (.ref bh),some (.ref A.b),some (.ref e),some (.ref t),some (.int p),some (.int own),some (.int x0),some (.ref a7),o8,o9]) (Dw H2 A si.D) (s1.D.pts.length<=si.D.pts.length) (Ah (nG ρs roots ho f) p own s1.held (l.drop i) acc si=some (fs,s2)) (FD A (L2.Internal.upd H0 a (.tup [])) H2) (H2 a7=some (.tup zs)) (zs.length=i) (Ims H2 zs (acc.map prL)))
   ⟨none,none,s1,[],a,[],rfl,M1.b,bX _,h1,FD.refl,eG,rfl,.nil⟩ (fun i σ H2 _ ⟨_,_,_,_,_,_,_,_,_,_,F,_,_,_⟩=>SqT.of (F.tup M1.b el1)) ?_ ?_⟩⟩
 ·rintro i v σ H2 hv ⟨o8,o9,si,acc,a7,zs,rfl,B2,lsi,h3,F2,e7,lz,iz⟩
  have li:i<l.length:=by rw[<-lx];exact(ao.mp hv).1
  obtain⟨p1,t',hp,rfl,et'⟩:=Ed (il1.mono (Dw.tk M1.b F2)) hv
  rw[oA hp]at h3
  obtain⟨x,s3,h4,h3,l3⟩:=L1 (gB f) h3
  have l5:Le s3 (s2.us (.case x0 p 0 fs)):=Le.fl.trans ((u5 (gB f) h3).1.trans Le.us)
  have lq:(si.pt p).D.pts.length<=1000000:=((⟨l3.p,l3.m,l3.u,l3.f⟩:Le (si.pt p) s3).trans l5 |>.sz hz).p
  have lp:=xb lq
  have De:DkI H2 e s1.held (2*si.D.pts.length):=(Dw.dk M1.b F2 M1.e).le (by lia)
  have M2:Lw H2 A e ⟨si.D,s1.held,si.st⟩:=⟨B2,De⟩
  have en:((bc V.int si.D.pts).length:Int)=si.n:=by rw[aA];rfl
  dsimp only[fu]
  obtain⟨kvs,ek,lk,rk⟩:=De
  refine⟨e,kvs,rfl,ek,fun j hj=>?_⟩
  dsimp only[fu]
  obtain⟨H3,dp,B3,D3,F3,B1⟩:=M2.copy lp ek hj p1.2.2 ((bc V.int si.D.pts).length:Int)
  rw[en]at D3
  have S2:=eL hj (.dK kvs)
  refine⟨_,B1.b,eP (eM (j:=0) rfl) ⟨_,_,rfl,.inl (SqL.of B1.e0),_,S2 _ _ et',eP (eM (j:=2) rfl) ⟨j,H3,rfl,dp,?_⟩⟩⟩
  refine⟨_,B3.b,eP (eM (j:=0) rfl) ⟨⟨_,B3.e0⟩,yY B3 (by show si.D.pts.length<_;lia) fun H4 B4 F4=>?_⟩⟩
  have lpt:(si.D.pts++[p]).length=si.D.pts.length+ 1:=by simp
  have M4:Lw H4 A j {si.pt p with held:=put s1.held p1.2.2 si.n}:=⟨B4,(Dw.dk B3 F4 D3).le (by show _<=2*(si.D.pts++[p]).length;show 2*si.D.pts.length+ 1<=_;lia)⟩
  have F24:FD A H2 H4:=F3.trans F4
  have e74:=F24.tup B2 e7
  have et4:=F24.tup B2 et'
  have hg:put s1.held p1.2.2 si.n p1.2.2=some si.n:=by simp[put]
  refine⟨_,et4,eP (eM (j:=0) rfl) ⟨_,et4,eP (eM (j:=2) rfl) ⟨j,_,rfl,M4.e.get hg,jO,fun t5 ht5=>⟨kO,fun t6 ht6=>?_⟩⟩⟩⟩
  have S5:=eL ht5 (.tup [.str p1.1,.int si.n])
  have S6:=eL ht6 (.tup [.ref t5])
  have S56:=S5.trans S6
  refine ph (S56 _ _ e74) eG (by show zs.length+ 1<=_;lia) fun a8 H7 S7 e8=>?_
  dsimp only[fu]
  have S47:=S56.trans S7
  have M7:=M4.same S47
  have C7:=(C1.fd M1.b F2).fd B2 (F24.trans (FD.same S47))
  refine⟨_,M7.b.b,eP (eM (j:=3) rfl) ⟨x3 M7.b,_,S47 _ _ et4,eP (eM (j:=2) rfl) (jM M7 C7 (Bg (by rw[es1];exact h2) _ _) h4 (l5.sz hz) fun H8 M8 F8 C8 k8=>⟨jO,fun t9 ht9=>?_⟩)⟩⟩
  refine rB M8 ht9 (by have:=(l5.sz hz:Sz _ s3).f;lia) fun H9 M9 F9=>?_
  have F29:=F24.trans ((FD.same S47).trans (F8.trans F9))
  have F79:=F8.trans F9
  refine⟨_,_,s3.fl x own,acc++[(p1.1,si.n)],a8,zs++[.ref t5],rfl,M9.b,?_,h3,F2.trans F29,F79.tup M7.b e8,by simp[lz],?_⟩
  ·have:=l3.p
   have:(si.D.pts++[p]).length<=s3.D.pts.length:=this
   show s1.D.pts.length<=s3.D.pts.length
   lia
  ·rw[bz]
   exact(iz.mono (Dw.tk B2 F29)).app (.cons (((gA ht5 (.cons (.flat rfl) (.cons (.flat rfl) .nil))).mono (fG.tk (S6.trans S7))).mono (Dw.tk M7.b F79)) .nil)
 ·rintro σ H2 ⟨o8,o9,si,acc,a7,zs,rfl,B2,lsi,h3,F2,e7,lz,iz⟩
  rw[lx,bC]at h3
  cases cf.inj h3
  have M2:Lw H2 A e ⟨s2.D,s1.held,s2.st⟩:=⟨B2,(Dw.dk M1.b F2 M1.e).le (by show _<=2*s2.D.pts.length;lia)⟩
  refine⟨_,B2.b,eP (eM (j:=2) rfl) ⟨x2 B2,AE,fun t1 ht=>?_⟩⟩
  exact oK (u:= .case x0 p 0 fs) M2 ht rfl (.cons (.flat rfl) (.cons (.flat rfl) (.cons (.flat rfl) (.cons (.flat rfl) (.cons (.tup e7 iz) .nil))))) (by have:=(Le.us.sz hz:Sz _ s2).u;show s2.D.uss.length<_;lia) fun H' M' F'=>q H' M'.b (F0.trans ((FD.same S1).trans (F2.trans F')))
def uA (L:Lf):List Int->List Int->Ls->Option (List Int×Ls)
 |[],acc,s=>some (acc,s)
 |k::l,acc,s=>match L k s with
  |some (q,s)=>uA L l (acc++[q]) s
  |none=>none
theorem yZ {L:Lf} (hL:Lmo L):∀{l acc:List Int} {s:Ls} {r:List Int×Ls},uA L l acc s=some r->Le s r.2
 |[],acc,s,r,h=>by cases h;exact Le.refl _
 |k::l,acc,s,r,h=>by
  obtain⟨q,s1,_,h2,l1⟩:=L1 hL h
  exact l1.trans (yZ hL h2)
def fI:List V->List Int
 |[]=>[]
 | .int k::l=>k::fI l
 |_::l=>fI l
def Uus:Ro->Prop
 | .get _ _=>True
 | .op o _=>o="call"\/o="at"\/o="join"\/o="size"\/o="add"\/o="sub"\/o="less"
 |_=>False
def uK:Ro->List Int
 | .get k _=>[k]
 | .op _ ks=>ks
 |_=>[]
def uI (o:Str):Bool:=o=="join"||o=="size"||o=="less"
def uE (p own n:Int) (qs:List Int) (s:Ls):Ro->Option Ls
 | .get _ w=>match qs with
  |[q]=>some (s.us (.take q p 0 [(w,own)]))
  |_=>none
 | .op o _=>match qs with
  |[q]=>if o="size" then some ((s.us (.row q p 0 n)).mk' (mkN own p))else none
  |[x,y]=>if o="call" then some (s.us (.call x p 0 y own))
   else if o="join" then some (((s.us (.row x p 0 n)).us (.row y p 1 n)).mk' (mkR n own p))
   else if o="less" then some (((((s.us (.num x p 0)).us (.num y p 1)).mk' ⟨"rec",.tup [],n,p⟩).mk' ⟨"tag",.tup [sD "yes",kD n],own,p⟩).mk' ⟨"tag",.tup [sD "no",kD n],own,p⟩)
   else if o="add"\/o="sub" then some (((s.us (.num x p 0)).us (.num y p 1)).mk' (mkN own p))else none
  |[x,y,z]=>if o="at" then some (((s.us (.row x p 0 own)).us (.num y p 1)).fl z own)else none
  |_=>none
 |_=>none
theorem GP {L:Lf} {a:Int} {s s1:Ls} {x:Int} (h:L a s=some (x,s1)) (acc:List Int):uA L [a] acc s=some (acc++[x],s1):=by simp only[uA,h]
theorem Ei {L:Lf} {a b:Int} {s s1 s2:Ls} {x y:Int} (h:L a s=some (x,s1)) (h2:L b s1=some (y,s2)):uA L [a,b] [] s=some ([x,y],s2):=by simp only[uA,h,h2];rfl
theorem Cy {p own n:Int} {qs:List Int} {s s':Ls} {ρ:Ro} (h:uE p own n qs s ρ=some s'):Le s s':=by
 unfold uE at h
 repeat' split at h
 all_goals first
  |cases h;done
  |(cases h;constructor<;>(try simp only[Ls.us,Ls.mk',Ls.fl,aM,aU])<;>lia)
theorem vR {K:PySem.W.Frag} {a:Addr} {xs:List V} {g:TG} {tb:TS} {D:mh} {σ:St} {H:Hp} (Pv:Nat->St->Hp->Prop) (h0:Pv 0 σ H) (hl:∀i σ H,i<=xs.length->Pv i σ H->SqL K H a xs)
  (hs:∀(i:Nat) (x:V) (σ:St) (H:Hp) (T:Addr),xs[i]?=some x->Pv i σ H->H T=none->g (.ref T) σ (upd H T (.tup [.int (i:Int),x])) fun σ2 H2=>tb {D with nx:=Pv (i+ 1),ct:=Pv (i+ 1),bk:=D.nx} σ2 H2) (hd:∀σ H,Pv xs.length σ H->D.nx σ H):
  ∃W:Nat->Nat->St->Hp->Prop,(∃m,W 0 m σ H)/\∀i m σ H,W i m σ H->
   ((Ite K a).stop i H/\D.nx σ H)\/((Ite K a).go i H/\∃N:St->Hp->Prop,(∀σ' H',N σ' H'->∃m',m'<m/\W (i+ 1) m' σ' H')/\∀x H',(Ite K a).yld i H x H'->g x σ H' fun σ2 H2=>tb {D with nx:=N,ct:=N,bk:=D.nx} σ2 H2):=by
 refine⟨fun i m σ H=>Y3 (m=xs.length-i) (i<=xs.length) (Pv i σ H),⟨xs.length,by simp,bY _,h0⟩,?_⟩
 rintro i m σ H ⟨rfl,hi,p⟩
 have q:=hl i σ H hi p
 by_cases hlt:i<xs.length
 ·refine .inr ⟨⟨xs,xs[i],q,by simp[hlt]⟩,Pv (i+ 1),fun σ' H' p'=>⟨xs.length-(i+ 1),by lia,rfl,hlt,p'⟩,fun v H' y=>?_⟩
  obtain⟨T,x,rfl,hT,rfl,hx⟩:=y
  exact hs i x σ H T (hx xs q) p hT
 ·have e:i=xs.length:=by lia
  subst e
  exact .inl ⟨⟨xs,q,rfl⟩,hd σ H p⟩
theorem GQ {p own n:Int} {qs:List Int} {s s':Ls} {o:Str} {ks:List Int} (h:uE p own n qs s (.op o ks)=some s'):(∃x,qs=[x]/\o="size")\/(∃x y z,qs=[x,y,z]/\o="at")\/∃x y,qs=[x,y]/\o≠"size"/\o≠"at":=by
 match qs,h with
 |[],h=>exact nomatch(show(none:Option Ls)=some s' from h)
 |[x],h=>
  by_cases e:o="size"
  ·exact .inl ⟨x,rfl,e⟩
  ·exact nomatch((fJ e).symm.trans h)
 |[x,y,z],h=>
  by_cases e:o="at"
  ·exact .inr (.inl ⟨x,y,z,rfl,e⟩)
  ·exact nomatch((fJ e).symm.trans h)
 |[x,y],h=>
  refine .inr (.inr ⟨x,y,rfl,fun e=>?_,fun e=>?_⟩)
  ·subst e;exact nomatch(show(none:Option Ls)=some s' from h)
  ·subst e;exact nomatch(show(none:Option Ls)=some s' from h)
 |_::_::_::_::_,h=>exact nomatch(show(none:Option Ls)=some s' from h)
def usA (p n:Int):Nat->List Int->Ls->Ls
 |_,[],s=>s
 |k,q::l,s=>usA p n (k+ 1) l (s.us (.row q p (k:Int) n))
theorem Bh {p n:Int}:∀{k:Nat} {l:List Int} {s:Ls},Le s (usA p n k l s)
 |_,[],s=>Le.refl _
 |k,q::l,s=>Le.us.trans Bh
theorem Ej {p own n:Int} {qs:List Int} {s s':Ls} {ρ:Ro} (h:uE p own n qs s ρ=some s'):qs.length<=3:=by
 unfold uE at h
 repeat' split at h
 all_goals first
  |cases h;done
  |simp
theorem uno {L:Lf} {o:Str} {l:List Int} {p:Int} {s:Ls} {r:Option (List Int×Ls)} (e:uI o=false) (h:uA L l [] s=r):uA L l [] (if uI o=true then s.pt p else s)=r:=by rw[e,fJ (by decide)];exact h
theorem uye {L:Lf} {o:Str} {l:List Int} {p:Int} {s:Ls} {r:Option (List Int×Ls)} (e:uI o=true) (h:uA L l [] (s.pt p)=r):uA L l [] (if uI o=true then s.pt p else s)=r:=by rw[e,fY rfl];exact h
theorem y0 {L:Lf} (hL:Lmo L) {roots:List Nat} {h:Option Hm} {p own:Int} {s s':Ls} {ρ:Ro} (hu:Uus ρ) (hl:lG L roots h p own s ρ=some s'):∃qs s1,uA L (uK ρ) [] (if uI ρ.s=true then s.pt p else s)=some (qs,s1)/\uE p own s.n qs s1 ρ=some s':=by
 cases ρ with
 |get k w=>
  obtain⟨x,s1,h1,hl,_⟩:=L1 hL (show(match L k s with|some (q,s)=>some (s.us (.take q p 0 [(w,own)]))|none=>none)=some s' from hl)
  exact⟨[x],s1,uno (o:="get") fo (GP h1 []),hl⟩
 |op o ks=>
  have hl:hX L roots h p own s (.op o ks)=some s':=hl
  rcases hu with rfl|rfl|rfl|rfl|rfl|rfl|rfl
  ·obtain⟨a,b,rfl⟩:=l6 fo fo hl
   obtain⟨x,s1,h1,hl,_⟩:=L1 hL hl
   obtain⟨y,s2,h2,hl,_⟩:=L1 hL hl
   exact⟨[x,y],s2,uno (o:="call") fo (Ei h1 h2),hl⟩
  ·obtain⟨a,b,c,rfl⟩:=vM hl
   obtain⟨x,s1,h1,hl,_⟩:=L1 hL hl
   obtain⟨y,s2,h2,hl,_⟩:=L1 hL hl
   obtain⟨z,s3,h3,hl,_⟩:=L1 hL hl
   exact⟨[x,y,z],s3,uno (o:="at") fo (show uA L [a,b,c] [] s=some ([x,y,z],s3) by simp only[uA,h1,h2,h3];rfl),hl⟩
  ·obtain⟨a,b,rfl⟩:=l6 fo fo hl
   obtain⟨x,s1,h1,hl,_⟩:=L1 hL hl
   obtain⟨y,s2,h2,hl,_⟩:=L1 hL hl
   exact⟨[x,y],s2,uye (o:="join") fo (Ei h1 h2),hl⟩
  ·obtain⟨a,rfl⟩:=A4 hl
   obtain⟨x,s1,h1,hl,_⟩:=L1 hL hl
   exact⟨[x],s1,uye (o:="size") fo (GP h1 []),hl⟩
  ·obtain⟨a,b,rfl⟩:=l6 fo fo hl
   obtain⟨s1,h1,hl⟩:=N1 (g:=fun s1=>some (s1.mk' (mkN own p))) hL hl
   obtain⟨x,s1,y,s2,h3,h2,rfl,_⟩:=lF hL h1
   exact⟨[x,y],s2,uno (o:="add") fo (Ei h3 h2),hl⟩
  ·obtain⟨a,b,rfl⟩:=l6 fo fo hl
   obtain⟨s1,h1,hl⟩:=N1 (g:=fun s1=>some (s1.mk' (mkN own p))) hL hl
   obtain⟨x,s1,y,s2,h3,h2,rfl,_⟩:=lF hL h1
   exact⟨[x,y],s2,uno (o:="sub") fo (Ei h3 h2),hl⟩
  ·obtain⟨a,b,rfl⟩:=l6 fo fo hl
   obtain⟨s1,h1,hl⟩:=N1 (g:=fun s1=>some (((s1.mk' ⟨"rec",.tup [],s.n,p⟩).mk' ⟨"tag",.tup [sD "yes",kD s.n],own,p⟩).mk' ⟨"tag",.tup [sD "no",kD s.n],own,p⟩)) hL hl
   obtain⟨x,s1,y,s2,h3,h2,rfl,_⟩:=lF hL h1
   exact⟨[x,y],s2,uye (o:="less") fo (Ei h3 h2),hl⟩
 |_=>exact hu.elim
theorem Ek:∀ks:List Int,fI (ks.map V.int)=ks
 |[]=>rfl
 |k::ks=>by rw[az,fI,Ek ks]
theorem Cz {H:Hp} {ρ:Ro} {ys:List V} (hu:Uus ρ) (iy:Ims H ys ρ.r):fI ys=uK ρ/\(∀v∈ys,(∃k,v= .int k)\/∃w,v= .str w)/\ys.length<=(uK ρ).length+ 1:=by
 cases ρ with
 |get k w=>
  obtain⟨y1,y2,rfl,i1,i2⟩:=vL iy
  cases iG i1
  cases jz i2
  exact⟨rfl,fun v hv=>by
   rcases ai.mp hv with rfl|hv
   ·exact .inl ⟨_,rfl⟩
   ·rw[aY.mp hv];exact .inr ⟨_,rfl⟩,by simp[uK]⟩
 |op o ks=>
  cases vN iy
  exact⟨Ek ks,fun v hv=>by obtain⟨k,_,rfl⟩:=ba.mp hv;exact .inl ⟨k,rfl⟩,by simp[uK]⟩
 |_=>exact hu.elim
theorem Bj {L:Lf}:∀{l acc:List Int} {s:Ls} {r:List Int×Ls},uA L l acc s=some r->r.1.length=acc.length+l.length
 |[],acc,s,r,h=>by cases h;rfl
 |k::l,acc,s,r,h=>by
  unfold uA at h
  cases e:L k s with
  |none=>rw[e]at h;cases h
  |some z=>rw[e]at h;rw[Bj h,aM,aU,ax];lia
def xj:List Str->TA
 |[]=>sS
 |x::l=>jw (tC (.str x)) (xj l)
theorem y4 {σ:St} {H:Hp}:∀{l:List Str} {k:List V->Hp->Prop},k (l.map V.str) H->xj l σ H k
 |[],k,h=>h
 |x::l,k,h=>y4 (l:=l) (k:=fun xs H2=>k (.str x::xs) H2) h
theorem ifI {K:PySem.W.Frag} {H:Hp} {i:Nat} {t:Addr} {o:Str} {ys:List V} {T u:TS} {D:mh} {σ:St} {b:Bool} (l:List Str) (hσ:σ[i]?=some (some (.ref t))) (et:H t=some (.tup (.str o::ys))) (e:inV (.str o) (l.map V.str)=b) (hl:l.length<=10) (h:∀H',fG H H'->if b=true then T D σ H' else u D σ H'):rM (cT (tOp (rIn K false) (tOp zD (cV i) (tC (.int 0))) (AJ (xj l)))) T u D σ H:=by
 have sl:=sizeLine_eq
 show onV σ[i]? _
 rw[hσ]
 refine⟨_,et,eP (eM (j:=0) rfl) (y4 ⟨by rw[aA];lia,fun a ha=>⟨a,_,rfl,.inl (SqL.of eG),rfl,by simp[oR],?_⟩⟩)⟩
 show if inV (.str o) (l.map V.str)=true then _ else _
 rw[e]
 exact h _ (eL ha _)
theorem qr {K:PySem.W.Frag} {H:Hp} {i:Nat} {t:Addr} {o:Str} {ys:List V} {T u:TS} {D:mh} {σ:St} (l:List Str) (hσ:σ[i]?=some (some (.ref t))) (et:H t=some (.tup (.str o::ys))) (e:inV (.str o) (l.map V.str)=false) (hl:l.length<=10) (h:∀H',fG H H'->u D σ H'):rM (cT (tOp (rIn K false) (tOp zD (cV i) (tC (.int 0))) (AJ (xj l)))) T u D σ H:=ifI (b:=false) l hσ et e hl fun H' S=>jP (h H' S)
theorem vS {K:PySem.W.Frag} {H:Hp} {i:Nat} {t:Addr} {o:Str} {ys:List V} {T u:TS} {D:mh} {σ:St} (l:List Str) (hσ:σ[i]?=some (some (.ref t))) (et:H t=some (.tup (.str o::ys))) (e:inV (.str o) (l.map V.str)=true) (hl:l.length<=10) (h:∀H',fG H H'->T D σ H'):rM (cT (tOp (rIn K false) (tOp zD (cV i) (tC (.int 0))) (AJ (xj l)))) T u D σ H:=ifI (b:=true) l hσ et e hl fun H' S=>kj (h H' S)
theorem in3 (o:Str):inV (.str o) ((["join","size","less"]:List Str).map V.str)=uI o:=by
 have c:∀x:Str,(x==o)=(o==x):=fun x=>by
  by_cases h:x=o
  ·rw[h]
  ·rw[beq_false_of_ne h,beq_false_of_ne (Ne.symm h)]
 simp only[inV,az,aR,aP,List.any_nil,dN,uI,eqV,Bool.or_assoc,c]
theorem Al {K:PySem.W.Frag} {H:Hp} {A:Ad} {e t:Addr} {st:Ls} {p:Int} {o:Str} {ys:List V} {R:TS} {D:mh} {σ:St} (M:Lw H A e st) (hz:st.D.pts.length<10000000) (et:H t=some (.tup (.str o::ys))) (h1:σ[1]?=some (some (.ref A.b))) (h3:σ[3]?=some (some (.ref t))) (h4:σ[4]?=some (some (.int p))) (h:∀H',Lw H' A e (if uI o=true then st.pt p else st)->FD A H H'->R D σ H'):
  zI (rM (cT (tOp (rIn K false) (tOp zD (cV 3) (tC (.int 0))) (AJ (xj ["join","size","less"])))) (Ds (GN (tOp zC (cV 1) (tC (.int 0))) (cV 4))) ji) R D σ H:=by
 refine ifI (b:=uI o) _ h3 et (in3 o) (by decide) fun H1 S=>?_
 have M1:=M.same S
 cases e:uI o with
 |true=>
  rw[e,fY rfl]at h
  refine kj ?_
  show onV σ[1]? _
  rw[h1]
  refine⟨_,M1.b.b,eP (eM (j:=0) rfl) ⟨⟨_,M1.b.e0⟩,?_⟩⟩
  show onV σ[4]? _
  rw[h4]
  exact yX M1 hz fun H' M' F'=>h H' M' ((FD.same S).trans F')
 |false=>
  rw[e,fJ (by decide)]at h
  exact jP (h _ M1 (FD.same S))
theorem oZ (T:Txt K mg) (f:Nat) (gD52:FO P w base (4*f+ 2) T.d52 (Ak f)):FO P w base (4*f+ 5) T.d51 (Cv f Uus):=by
 refine T.d51.F.ok gP (fun vs H Q E h=>?_) (fun cdv A0 outer s H vs Q E hr h=>?_)
 ·obtain⟨A,bh,e,t,s,s',p,own,ρ,h,roots,ρs,ho,rfl,_⟩:=h
  rfl
 obtain⟨A,bh,e,t,st,s',p,own,ρ,h,roots,ρs,ho,rfl,M,C,h2,hU,fw,it,hl,hz,q⟩:=h
 have hu:=qD hr
 refine⟨_,(eJ (pS (i:=6) gP.nd (fD fz rfl T.z_len gU (eE (eU eR (cv 1) eK) eF)))
  (eJ (fV (fg m8 (eU fc (cv 3) eK) (fq (eE eZ (eE eZ (eE eZ eF)))) rfl)
   (eO (eW (fN (gu dD dE dF fh (PE.mono (eU eR (cv 1) eK)) (eE (PE.mono (cv 4)) eF)))))
   fF)
  (eJ (lO (j:=7) rfl (A3 (x:="_law_part") ["_law_told_here","_law_held","_law_built_here"] [("_law_told_here",1,s.heap.objs.size+ 2),("_law_held",2,s.heap.objs.size+ 3),("_law_built_here",0,s.heap.objs.size+ 1)]) (pB (lM DG (cv 3) (nN eK) nM)) (fun _ _ _ _ _=>(BU (oF (fD (r:=rIsi K) ko rfl T.z_isinstance gb (eE (cv 0) (eE (kR rfl T.z_int yb) eF)))))) (fun _ _ _ _ _=>(pF T.d52 gD52 (hr.mono (by lia)) (eE (cv 3) (eE (cv 1) (eE (cv 2) (eE (cv 0) eF)))))) gP.nd rfl (.inl rfl))
  (eJ (fV (fg gQ (eU fc (cv 3) eK) eZ)
   (eO (eW (fN (gu dD dE dF fh (PE.mono (eU eR (cv 1) eK)) (eE (PE.mono (fe (eE eZ (eE (eU eR (cv 7) eK) (eE (cv 4) (eE eK (eE (eU eR (cv 7) eK) (eE (cv 5) eF)))))))) eF)))))
   (eO (fV (fg gQ (eU fc (cv 3) eK) eZ)
    (eO (eW (fN (gu dD dE dF fh (PE.mono (eU eR (cv 1) eK)) (eE (PE.mono (fe (eE eZ (eE (eU eR (cv 7) eK) (eE (cv 4) (eE eK (eE (fe (eE (fe (eE (eU fc (cv 3) eK) (eE (cv 5) eF))) eF)) eF))))))) eF)))))
    (eO (fV (fg gQ (eU fc (cv 3) eK) eZ)
     (eJ (eW (fN (gu dD dE dF fh (PE.mono (eU eR (cv 1) eK)) (eE (PE.mono (fe (eE eZ (eE (eU eR (cv 7) eK) (eE (cv 4) (eE eK (eE (cv 5) eF))))))) eF))))
     (eJ (eW (fN (gu dD dE dF fh (PE.mono (eU eR (cv 1) eK)) (eE (PE.mono (fe (eE eZ (eE (eU eR (cv 7) eK) (eE (cv 4) (eE eK eF)))))) eF))))
     (eO (eW (fN (gu dD dE dF fh (PE.mono (eU eR (cv 1) eK)) (eE (PE.mono (fe (eE (eU eR (cv 7) eK) (eE (cv 5) eF)))) eF)))))))
     (eO (fV (fg m8 (eU fc (cv 3) eK) (fq (eE eZ (eE eZ eF))) rfl)
      (eO (jb PassesOwn.never rfl (yj rfl T.z_enumerate (eE (cv 7) eF)) (sY rfl (jm (pN (i:=8) gP.nd) (jm (pN (i:=9) gP.nd) pA)))
       (eO (eW (fN (gu dD dE dF fh (PE.mono (eU eR (cv 1) eK)) (eE (PE.mono (fe (eE eZ (eE (cv 9) (eE (cv 4) (eE (cv 8) (eE (cv 6) eF))))))) eF)))))))
      (eJ (eW (fN (gu dD dE dF fh (PE.mono (eU eR (cv 1) eK)) (eE (PE.mono (fe (eE eZ (eE (eU eR (cv 7) eK) (eE (cv 4) (eE eK eF)))))) eF))))
      (eO (eW (fN (gu dD dE dF fh (PE.mono (eU eR (cv 1) eK)) (eE (PE.mono (fe (eE eZ (eE (eU eR (cv 7) eK) (eE (cv 4) (eE eK eF)))))) eF)))))))))))))
  (eO (fV (fg m8 (eU fc (cv 3) eK) (fq (eE eZ (eE eZ (eE eZ eF)))) rfl)
   (eO (eW (fN (gu dD dE dF fh (PE.mono (eU eR (cv 1) eK)) (eE (PE.mono (fe (eE eZ (eE (fe eF) (eE (cv 5) (eE (cv 4) eF)))))) eF)))))
   (eO (fV (fg gQ (eU fc (cv 3) eK) eZ)
    (eO (eW (fN (gu dD dE dF fh (PE.mono (eU eR (cv 1) eK)) (eE (PE.mono (fe (eE eZ (eE (fe (eE (cv 6) eF)) (eE (cv 5) (eE (cv 4) eF)))))) eF)))))
    (eO (fV (fg gQ (eU fc (cv 3) eK) eZ)
     (eJ (eW (fN (gu dD dE dF fh (PE.mono (eU eR (cv 1) eK)) (eE (PE.mono (fe (eE eZ (eE (fe eF) (eE (cv 6) (eE (cv 4) eF)))))) eF))))
     (eJ (eW (fN (gu dD dE dF fh (PE.mono (eU eR (cv 1) eK)) (eE (PE.mono (fe (eE eZ (eE (fe (eE eZ (eE (cv 6) eF))) (eE (cv 5) (eE (cv 4) eF)))))) eF))))
     (eO (eW (fN (gu dD dE dF fh (PE.mono (eU eR (cv 1) eK)) (eE (PE.mono (fe (eE eZ (eE (fe (eE eZ (eE (cv 6) eF))) (eE (cv 5) (eE (cv 4) eF)))))) eF)))))))
     fF)))))))))),?_⟩
 have sl:=sizeLine_eq
 obtain⟨ys,et,iy⟩:=jo it
 obtain⟨eI,eV,lV⟩:=Cz hU iy
 obtain⟨qs,s1,hs,he⟩:=y0 (gB f) hU hl
 have ls:=yZ (gB f) hs
 have en:((bc V.int st.D.pts).length:Int)=st.n:=by rw[aA];rfl
 refine⟨_,M.b.b,eP (eM (j:=0) rfl) ⟨_,_,rfl,.inl (SqL.of M.b.e0),?_⟩⟩
 dsimp only[fu]
 rw[en]
 have lp:st.D.pts.length<10000000:=by
  have h:=ls.p
  have h':s1.D.pts.length<=1000000:=((Cy he).sz hz).p
  have h:_<=s1.D.pts.length:=h
  have h3:=(Le.pt (s:=st) (p:=p)).p
  split at h<;>lia
 refine Al M lp et rfl rfl rfl fun H1 M1 F1=>?_
 have C1:=C.fd M.b F1
 have et1:=F1.tup M.b et
 refine⟨1,rfl,t,_,rfl,SqT.of et1,?_,fun a ha=>?_⟩
 ·rintro⟨z,_⟩
  rw[show(some (1:Int))=some ((1:Nat):Int)from rfl,HT.Internal.sIx_nat]at z
  simp at z
 have ec:uH (.str ρ.s::ys) (some 1) none=ys:=by
  unfold uH
  rw[show(some (1:Int))=some ((1:Nat):Int)from rfl,HT.Internal.sIx_nat,HT.Internal.sIx_none]
  simp
 rw[ec]
 have S2:=eL ha (.tup ys)
 have M2:=M1.same S2
 refine⟨a,rfl,⟨_,SqT.of eG⟩,fun D hD=>?_⟩
 have nD:=M2.b.out hD
 have nDb:D≠A.b:=fun z=>by rw[z,M2.b.b]at hD;cases hD
 have h21:∃v,(if uI ρ.s=true then st.pt p else st).held (-2)=some v:=by split<;>exact h2
 have C2:=C1.fd M1.b (FD.same S2)
 have et2:=S2 _ _ et1
 refine vQ ys (fun k zs H2=>X2 fun(si:Ls) (acc:List Int)=>Y5 (Lw H2 A e si) ((∃v,si.held (-2)=some v)) (uA (nG ρs roots ho f) (fI (ys.drop k)) acc si=some (qs,s1)) (FD A (L2.Internal.upd H1 a (.tup ys)) H2) (zs=acc.map V.int)) (by have h1:=Bj hs;have h2:=Ej he;have h1:qs.length=0+_:=h1;lia) rfl (fun k zs H2 ⟨_,_,_,_,_,F,_⟩=>F.tup M2.b eG) ⟨_,[],M2.same (eL hD _),h21,by rw[List.drop_zero,eI];exact hs,FD.same (eL hD _),rfl⟩ ?_ ?_
 ·rintro k v zs H2 Z Z' ⟨si,acc,M3,h23,hs3,F3,rfl⟩ ez hv hZ hZ'
  rw[oA hv]at hs3
  rcases eV v (aK hv)with⟨i,rfl⟩|⟨w',rfl⟩
  ·obtain⟨x,s2,h4,hs3,l4⟩:=L1 (gB f) hs3
   have l5:=yZ (gB f) hs3
   have C3:=C2.fd M2.b F3
   refine⟨_,_,.type "int",.type "int",true,rfl,fun u hu=>by cases hu;rfl,.int i,rfl,true,rfl,?_⟩
   dsimp only
   rw[fY rfl]
   refine jM M3 C3 h23 h4 ((l5.trans (Cy he)).sz hz) fun H4 M4 F4 C4 k4=>?_
   have e4:=F4 _ _ ez nD
   refine hZ _ _ e4 ⟨s2,acc++[x],M4.other e4 nD nDb,by rw[km h4];exact h23,hs3,(F3.trans F4).put hD _,by simp⟩
  ·refine⟨_,_,.type "int",.type "str",false,rfl,fun u hu=>by cases hu;rfl,.str w',rfl,false,rfl,?_⟩
   dsimp only
   rw[fJ (by decide)]
   exact hZ' _ ez ⟨si,acc,M3,h23,hs3,F3,rfl⟩
 rintro H2 zs ⟨si,acc,M3,h23,hs3,F3,rfl⟩ eD
 rw[bC]at hs3
 cases cf.inj hs3
 dsimp only[fu]
 have F2:FD A H H2:=F1.trans ((FD.same S2).trans F3)
 have et3:=F3.tup M2.b et2
 have lz:=Cy he
 have zu:=fun{s:Ls} (l:Le s s')=>(show s.D.uss.length<10000000 by have:=(l.sz hz).u;lia)
 have zm:=fun{s:Ls} (l:Le s s')=>(show s.D.mks.length<10000000 by have:=(l.sz hz).m;lia)
 have zf:=fun{s:Ls} (l:Le s s')=>(show s.D.fls.length<10000000 by have:=(l.sz hz).f;lia)
 cases ρ with
 |get k w'=>
  match qs,he with
  |[x],he=>
   cases cf.inj he
   obtain⟨y1,y2,rfl,i1,i2⟩:=vL iy
   cases iG i1
   cases jz i2
   refine fQ (i:=3) (x:="call") (s:="get") rfl et3 fo ?_
   refine ij (i:=3) (x:="get") (s:="get") rfl et3 fo ?_
   refine⟨_,M3.b.b,eP (eM (j:=2) rfl) ⟨x2 M3.b,_,eD,eP (eM (j:=0) rfl) ⟨_,et3,eP (eM (j:=2) rfl) ⟨jO,fun t4 h4=>⟨kO,fun t5 h5=>⟨AE,fun t6 h6=>?_⟩⟩⟩⟩⟩⟩
   have S4:=eL h4 (.tup [.str w',.int own])
   have S5:=eL h5 (.tup [.ref t4])
   have S45:=S4.trans S5
   refine oK (u:= .take x p 0 [(w',own)]) (M3.same S45) h6 rfl (.cons (.flat rfl) (.cons (.flat rfl) (.cons (.flat rfl) (.cons (.flat rfl) (.cons (gA h5 (.cons (gA h4 (.cons (.flat rfl) (.cons (.flat rfl) .nil))) .nil)) .nil))))) (zu lz) fun H7 M7 F7=>?_
   have F37:=(FD.same S45).trans F7
   have et7:=F37.tup M3.b et3
   dsimp only
   refine qr (i:=3) (o:="get") ["size","add","sub"] rfl et7 fo (by decide) fun H8 S8=>?_
   refine fQ (i:=3) (x:="join") (s:="get") rfl (S8 _ _ et7) fo ?_
   refine fQ (i:=3) (x:="less") (s:="get") rfl (S8 _ _ et7) fo ?_
   exact q _ (M7.same S8).b (F2.trans (F37.trans (FD.same S8)))
 |op o ks=>
  have et3:H2 t=some (.tup (.str o::ys)):=et3
  have e0:∀o':Str,o'=o->H2 t=some (.tup (.str o'::ys)):=fun _ h=>by rw[h];exact et3
  by_cases hJ:o="size"\/o="join"
  ·obtain⟨m,eS,hm⟩:∃m,s'=(usA p st.n 0 qs s1).mk' m/\((o="size"/\m=mkN own p)\/(o="join"/\m=mkR st.n own p)):=by
    rcases GQ he with⟨x,rfl,rfl⟩|⟨x,y,z,rfl,rfl⟩|⟨x,y,rfl,n1,n2⟩
    ·exact⟨_,(cf.inj he).symm,.inl ⟨rfl,rfl⟩⟩
    ·rcases hJ with h|h<;>exact absurd h fo
    ·rcases hJ with h|rfl
     ·exact absurd h n1
     ·exact⟨_,(cf.inj he).symm,.inr ⟨rfl,rfl⟩⟩
   subst eS
   refine fQ (i:=3) (x:="call") (s:=o) rfl et3 (by rcases hJ with rfl|rfl<;>decide+kernel) ?_
   refine fQ (i:=3) (x:="get") (s:=o) rfl et3 (by rcases hJ with rfl|rfl<;>decide+kernel) ?_
   refine fQ (i:=3) (x:="at") (s:=o) rfl et3 (by rcases hJ with rfl|rfl<;>decide+kernel) ?_
   refine vS (i:=3) (o:=o) ["join","size"] rfl et3 (by rcases hJ with rfl|rfl<;>decide+kernel) (by decide) fun H4 S4=>?_
   have M4:=M3.same S4
   have eD4:=S4 _ _ eD
   have et4:=S4 _ _ et3
   refine⟨D,rfl,⟨_,SqL.of eD4⟩,vR (xs:=qs.map V.int) (fun i σ H5=>X3 fun(o8 o9:Option V) (si:Ls)=>Y4 (σ=[some (.ref bh),some (.ref A.b),some (.ref e),some (.ref t),some (.int p),some (.int own),some (.int st.n),some (.ref D),o8,o9]) (Lw H5 A e si) (usA p st.n i (qs.drop i) si=usA p st.n 0 qs s1) (FD A H4 H5))
    ⟨none,none,s1,rfl,M4,rfl,FD.refl⟩ (fun i σ H5 _ ⟨_,_,_,_,_,_,F⟩=>SqL.of (F _ _ eD4 nD)) ?_ ?_⟩
   ·rintro i v σ H5 t5 hx ⟨o8,o9,si,rfl,M5,eu,F5⟩ h5
    rw[aI]at hx
    obtain⟨x,hx2,rfl⟩:=cm.mp hx
    rw[oA hx2]at eu
    have S5:=eL h5 (.tup [.int (i:Int),.int x])
    have M6:=M5.same S5
    refine⟨t5,_,rfl,SqT.of eG,rfl,_,_,rfl,_,_,rfl,rfl,?_⟩
    refine⟨_,M6.b.b,eP (eM (j:=2) rfl) ⟨x2 M6.b,AE,fun t6 h6=>?_⟩⟩
    have lsi:Le si (usA p st.n 0 qs s1):=by rw[<-eu];exact Le.us.trans Bh
    refine oK (u:= .row x p (i:Int) st.n) M6 h6 rfl (.cons (.flat rfl) (.cons (.flat rfl) (.cons (.flat rfl) (.cons (.flat rfl) (.cons (.flat rfl) .nil))))) (zu (lsi.trans Le.mk')) fun H7 M7 F7=>?_
    exact⟨_,_,_,rfl,M7,eu,F5.trans ((FD.same S5).trans F7)⟩
   ·rintro σ H5 ⟨o8,o9,si,rfl,M5,eu,F5⟩
    rw[aA,bC]at eu
    have eu:si=_:=eu
    subst eu
    have et5:=F5.tup M4.b et4
    have FH:=F2.trans ((FD.same S4).trans F5)
    dsimp only
    rcases hm with⟨rfl,rfl⟩|⟨rfl,rfl⟩
    ·refine vS (i:=3) (o:="size") ["size","add","sub"] rfl et5 fo (by decide) fun H7 S7=>?_
     have M7:=M5.same S7
     refine⟨_,M7.b.b,eP (eM (j:=1) rfl) ⟨x1 M7.b,ki,fun t8 h8=>⟨qB,fun t9 h9=>?_⟩⟩⟩
     have S8:=eL h8 (.tup [])
     exact lH (m:=mkN own p) (M7.same S8) h9 (.tup eG .nil) (zm Le.mk') fun H' M' F'=>q H' M'.b (FH.trans ((FD.same (S7.trans S8)).trans F'))
    ·refine qr (i:=3) (o:="join") ["size","add","sub"] rfl et5 fo (by decide) fun H7 S7=>?_
     have M7:=M5.same S7
     refine ij (i:=3) (x:="join") (s:="join") rfl (S7 _ _ et5) fo ?_
     refine⟨_,M7.b.b,eP (eM (j:=1) rfl) ⟨x1 M7.b,kO,fun t8 h8=>⟨qB,fun t9 h9=>?_⟩⟩⟩
     have S8:=eL h8 (.tup [.int st.n])
     exact lH (m:=mkR st.n own p) (M7.same S8) h9 (gA h8 (.cons (.flat rfl) .nil)) (zm Le.mk') fun H' M' F'=>q H' M'.b (FH.trans ((FD.same (S7.trans S8)).trans F'))
  have hJ1:o≠"size":=fun h=>hJ (.inl h)
  have e3:o≠"join":=fun h=>hJ (.inr h)
  rcases GQ he with⟨x,rfl,e1⟩|⟨x,y,z,rfl,rfl⟩|⟨x,y,rfl,n1,n2⟩
  ·exact absurd e1 hJ1
  ·cases cf.inj he
   refine fQ (i:=3) (x:="call") (s:="at") rfl et3 fo ?_
   refine fQ (i:=3) (x:="get") (s:="at") rfl et3 fo ?_
   refine ij (i:=3) (x:="at") (s:="at") rfl et3 fo ?_
   refine⟨_,M3.b.b,eP (eM (j:=2) rfl) ⟨x2 M3.b,_,eD,eP (eM (j:=0) rfl) ⟨AE,fun t4 h4=>?_⟩⟩⟩
   refine oK (u:= .row x p 0 own) M3 h4 rfl (.cons (.flat rfl) (.cons (.flat rfl) (.cons (.flat rfl) (.cons (.flat rfl) (.cons (.flat rfl) .nil))))) (zu lz) fun H5 M5 F5=>?_
   have eD5:=F5 _ _ eD nD
   refine⟨_,M5.b.b,eP (eM (j:=2) rfl) ⟨x2 M5.b,_,eD5,eP (eM (j:=1) rfl) ⟨qB,fun t5 h5=>?_⟩⟩⟩
   refine oK (u:= .num y p 1) M5 h5 rfl (.cons (.flat rfl) (.cons (.flat rfl) (.cons (.flat rfl) (.cons (.flat rfl) .nil)))) (zu (Le.us.trans Le.fl)) fun H6 M6 F6=>?_
   have eD6:=F6 _ _ eD5 nD
   refine⟨_,M6.b.b,eP (eM (j:=3) rfl) ⟨x3 M6.b,_,eD6,eP (eM (j:=2) rfl) ⟨jO,fun t6 h6=>?_⟩⟩⟩
   refine rB M6 h6 (zf Le.fl) fun H7 M7 F7=>?_
   have F37:=F5.trans (F6.trans F7)
   have et7:=F37.tup M3.b et3
   dsimp only
   refine qr (i:=3) (o:="at") ["size","add","sub"] rfl et7 fo (by decide) fun H8 S8=>?_
   refine fQ (i:=3) (x:="join") (s:="at") rfl (S8 _ _ et7) fo ?_
   refine fQ (i:=3) (x:="less") (s:="at") rfl (S8 _ _ et7) fo ?_
   exact q _ (M7.same S8).b (F2.trans (F37.trans (FD.same S8)))
  by_cases e2:o="call"
  ·subst e2
   cases cf.inj he
   refine ij (i:=3) (x:="call") (s:="call") rfl et3 fo ?_
   refine⟨_,M3.b.b,eP (eM (j:=2) rfl) ⟨x2 M3.b,_,eD,eP (eM (j:=0) rfl) ⟨_,eD,eP (eM (j:=1) rfl) ⟨EO,fun t6 h6=>?_⟩⟩⟩⟩
   refine oK (u:= .call x p 0 y own) M3 h6 rfl (.cons (.flat rfl) (.cons (.flat rfl) (.cons (.flat rfl) (.cons (.flat rfl) (.cons (.flat rfl) (.cons (.flat rfl) .nil)))))) (zu lz) fun H7 M7 F7=>?_
   have et7:=F7.tup M3.b et3
   dsimp only
   refine qr (i:=3) (o:="call") ["size","add","sub"] rfl et7 fo (by decide) fun H8 S8=>?_
   refine fQ (i:=3) (x:="join") (s:="call") rfl (S8 _ _ et7) fo ?_
   refine fQ (i:=3) (x:="less") (s:="call") rfl (S8 _ _ et7) fo ?_
   exact q _ (M7.same S8).b (F2.trans (F7.trans (FD.same S8)))
  have hU:o="add"\/o="sub"\/o="less":=by
   rcases hU with h|h|h|h|h|h|h
   ·exact absurd h e2
   ·exact absurd h n2
   ·exact absurd h e3
   ·exact absurd h n1
   ·exact .inl h
   ·exact .inr (.inl h)
   ·exact .inr (.inr h)
  refine fQ (i:=3) (x:="call") (s:=o) rfl et3 (gk e2) ?_
  refine fQ (i:=3) (x:="get") (s:=o) rfl et3 (by rcases hU with rfl|rfl|rfl<;>decide+kernel) ?_
  refine fQ (i:=3) (x:="at") (s:=o) rfl et3 (by rcases hU with rfl|rfl|rfl<;>decide+kernel) ?_
  refine qr (i:=3) (o:=o) ["join","size"] rfl et3 (by rcases hU with rfl|rfl|rfl<;>decide+kernel) (by decide) fun H4 S4=>?_
  have M4:=M3.same S4
  have eD4:=S4 _ _ eD
  have et4:=S4 _ _ et3
  have lu:Le ((s1.us (.num x p 0)).us (.num y p 1)) s':=by
   rcases hU with rfl|rfl|rfl
   ·cases cf.inj he;exact Le.mk'
   ·cases cf.inj he;exact Le.mk'
   ·cases cf.inj he;exact Le.mk'.trans (Le.mk'.trans Le.mk')
  refine⟨_,M4.b.b,eP (eM (j:=2) rfl) ⟨x2 M4.b,_,eD4,eP (eM (j:=0) rfl) ⟨qB,fun t5 h5=>?_⟩⟩⟩
  refine oK (u:= .num x p 0) M4 h5 rfl (.cons (.flat rfl) (.cons (.flat rfl) (.cons (.flat rfl) (.cons (.flat rfl) .nil)))) (zu lz) fun H5 M5 F5=>?_
  have eD5:=F5 _ _ eD4 nD
  refine⟨_,M5.b.b,eP (eM (j:=2) rfl) ⟨x2 M5.b,_,eD5,eP (eM (j:=1) rfl) ⟨qB,fun t6 h6=>?_⟩⟩⟩
  refine oK (u:= .num y p 1) M5 h6 rfl (.cons (.flat rfl) (.cons (.flat rfl) (.cons (.flat rfl) (.cons (.flat rfl) .nil)))) (zu (Le.us.trans lu)) fun H6 M6 F6=>?_
  have F46:=(FD.same S4).trans (F5.trans F6)
  have et6:=F46.tup M3.b et3
  have FH6:=F2.trans F46
  dsimp only
  have done1:(o="add"\/o="sub")\/o="less":=by
   rcases hU with h|h|h
   ·exact .inl (.inl h)
   ·exact .inl (.inr h)
   ·exact .inr h
  rcases done1 with hU|rfl
  ·have eS:s'=((s1.us (.num x p 0)).us (.num y p 1)).mk' (mkN own p):=by rcases hU with rfl|rfl<;>exact(cf.inj he).symm
   subst eS
   refine vS (i:=3) (o:=o) ["size","add","sub"] rfl et6 (by rcases hU with rfl|rfl<;>decide+kernel) (by decide) fun H7 S7=>?_
   have M7:=M6.same S7
   refine⟨_,M7.b.b,eP (eM (j:=1) rfl) ⟨x1 M7.b,ki,fun t8 h8=>⟨qB,fun t9 h9=>?_⟩⟩⟩
   have S8:=eL h8 (.tup [])
   exact lH (m:=mkN own p) (M7.same S8) h9 (.tup eG .nil) (zm Le.mk') fun H' M' F'=>q H' M'.b (FH6.trans ((FD.same (S7.trans S8)).trans F'))
  ·cases cf.inj he
   refine qr (i:=3) (o:="less") ["size","add","sub"] rfl et6 fo (by decide) fun H7 S7=>?_
   have M7:=M6.same S7
   refine fQ (i:=3) (x:="join") (s:="less") rfl (S7 _ _ et6) fo ?_
   refine ij (i:=3) (x:="less") (s:="less") rfl (S7 _ _ et6) fo ?_
   refine⟨_,M7.b.b,eP (eM (j:=1) rfl) ⟨x1 M7.b,ki,fun t8 h8=>⟨qB,fun t9 h9=>?_⟩⟩⟩
   have S8:=eL h8 (.tup [])
   refine lH (m:=⟨"rec",.tup [],st.n,p⟩) (M7.same S8) h9 (.tup eG .nil) (zm (Le.mk'.trans (Le.mk'.trans Le.mk'))) fun HA MA FA=>?_
   refine⟨_,MA.b.b,eP (eM (j:=1) rfl) ⟨x1 MA.b,jO,fun tA hA=>⟨qB,fun tB hB=>?_⟩⟩⟩
   have SA:=eL hA (.tup [.str "yes",.int st.n])
   refine lH (m:=⟨"tag",.tup [sD "yes",kD st.n],own,p⟩) (MA.same SA) hB (gA hA (.cons (.flat rfl) (.cons (.flat rfl) .nil))) (zm (Le.mk'.trans Le.mk')) fun HB MB FB=>?_
   refine⟨_,MB.b.b,eP (eM (j:=1) rfl) ⟨x1 MB.b,jO,fun tC hC=>⟨qB,fun tE hE=>?_⟩⟩⟩
   have SB:=eL hC (.tup [.str "no",.int st.n])
   exact lH (m:=⟨"tag",.tup [sD "no",kD st.n],own,p⟩) (MB.same SB) hE (gA hC (.cons (.flat rfl) (.cons (.flat rfl) .nil))) (zm Le.mk') fun H' M' F'=>q H' M'.b (FH6.trans ((FD.same (S7.trans S8)).trans (FA.trans ((FD.same SA).trans (FB.trans ((FD.same SB).trans F'))))))
 |_=>exact hU.elim
theorem El {L:Lf} (hL:Lmo L) {roots:List Nat} {h:Option Hm} {p own:Int} {s s':Ls} {o:Str} {ks:List Int} (hl:lG L roots h p own s (.op o ks)=some s'):Uus (.op o ks):=Ee (ρ:= .op o ks) (show hX L roots h p own s (.op o ks)=some s' from hl)
theorem ub (T:Txt K mg) (f:Nat) (gD52:FO P w base (4*f+ 2) T.d52 (Ak f)):FO P w base (4*(f+ 1)+ 2) T.d52 (Ak (f+ 1)):=by
 have gD48:=oW (P:=P) (w:=w) (base:=base) T f gD52
 have gD49:=oX (P:=P) (w:=w) (base:=base) T f gD52
 have gD50:=oY (P:=P) (w:=w) (base:=base) T f gD52
 have gD51:=oZ (P:=P) (w:=w) (base:=base) T f gD52
 refine T.d52.F.ok kG (fun vs H Q E h=>?_) (fun cdv A0 outer s0 H vs Q E hr h=>?_)
 ·obtain⟨A,bh,e,s,s',p,r,roots,ρs,ho,rfl,_⟩:=h
  rfl
 obtain⟨A,bh,e,s,s',p,r,roots,ρs,ho,rfl,M,C,h2,hl,hz,q⟩:=h
 refine⟨_,(eJ (pS (i:=4) kG.nd (eU eR (eU eR (cv 0) eK) (cv 3)))
  (eJ (pS (i:=5) kG.nd (fD fz rfl T.z_len gU (eE (eU eR (cv 1) eK) eF)))
  (eJ (eW (fN (gu dD dE dF fh (PE.mono (eU eR (cv 1) eK)) (eE (PE.mono (cv 3)) eF))))
  (eJ (fV (fg gQ (eU fc (cv 4) eK) eZ)
   (eO (eW (fN (gu dD dE dF fh (PE.mono (eU eR (cv 1) eK)) (eE (PE.mono (fe (eE (pF T.d48 gD48 (hr.mono (by lia)) (eE (cv 0) (eE (cv 1) (eE (cv 2) (eE (eU eR (eU eR (cv 0) eK) (cv 3)) eF))))) (eE (cv 5) eF)))) eF)))))
   (eO (fV (fg gQ (eU fc (cv 4) eK) eZ)
    (eJ (eW (pF T.d52 gD52 (hr.mono (by lia)) (eE (cv 0) (eE (cv 1) (eE (cv 2) (eE (eU fc (cv 4) eK) eF))))))
    (eO (eW (fN (gu dD dE dF fh (PE.mono (eU eR (cv 1) eK)) (eE (PE.mono (fe (eE (pF T.d52 gD52 (hr.mono (by lia)) (eE (cv 0) (eE (cv 1) (eE (cv 2) (eE (eU fc (cv 4) eK) eF))))) (eE (cv 5) eF)))) eF))))))
    (eO (fV (fg gQ (eU fc (cv 4) eK) eZ)
     (eO (eW (pF T.d50 gD50 (hr.mono (by lia)) (eE (cv 0) (eE (cv 1) (eE (cv 2) (eE (cv 4) (eE (cv 3) (eE (cv 5) eF)))))))))
     (eO (fV (fg m8 (eU fc (cv 4) eK) (fq (eE eZ (eE eZ (eE eZ (eE eZ (eE eZ eF)))))) rfl)
      (eO (eW (pF T.d49 gD49 (hr.mono (by lia)) (eE (cv 0) (eE (cv 1) (eE (cv 2) (eE (cv 4) (eE (cv 3) (eE (cv 5) eF)))))))))
      (eO (eW (pF T.d51 gD51 (hr.mono (by lia)) (eE (cv 0) (eE (cv 1) (eE (cv 2) (eE (cv 4) (eE (cv 3) (eE (cv 5) eF))))))))))))))))
  (eO (fm (cv 5))))))),?_⟩
 obtain⟨ρ,s2,hk,h1,rfl,rfl⟩:=qq hl
 obtain⟨k,rfl,hk'⟩:=gR hk
 obtain⟨nn,rr,ww,hh,xs,hs,c0,c1,c2,i2,c3,hy,n0,n1,n2,n3⟩:=C.p
 obtain⟨tr,ys,hxt,etr,_,him⟩:=yQ i2 hk'
 have lr:=vP (gB f) h1
 have hz2:Sz 1000000 s2:=⟨hz.p,hz.m,hz.u,hz.f⟩
 have lp:=((Le.pt.trans lr).sz hz2).p
 have en:((bc V.int s.D.pts).length:Int)=s.n:=by rw[aA];rfl
 refine⟨_,c0,eP (eM (j:=2) rfl) ⟨_,c2,eP (eM hxt) ?_⟩⟩
 dsimp only[fu]
 refine⟨_,M.b.b,eP (eM (j:=0) rfl) ⟨_,_,rfl,.inl (SqL.of M.b.e0),?_⟩⟩
 dsimp only[fu]
 rw[en]
 refine⟨_,M.b.b,eP (eM (j:=0) rfl) ⟨⟨_,M.b.e0⟩,yX M (by lia) fun H1 M1 F1=>?_⟩⟩
 have et:=F1.tup M.b etr
 have him1:=him.mono (Dw.tk M.b F1)
 have C1:=C.fd M.b F1
 have c01:=F1 _ _ c0 n0
 have c31:=F1 _ _ c3 n3
 dsimp only
 have fin:∀H',Dw H' A s2.D->FD A H1 H'->Q (.int s.n) H':=fun H' B' F'=>q H' ⟨B',(Dw.dk M.b (F1.trans F') M.e).le (by have:=(Le.pt.trans lr).p;show 2*s.D.pts.length<=2*s2.D.pts.length;lia)⟩ (F1.trans F')
 have mk:Umk ρ->(ρ.s="num"\/ρ.s="fn"\/ρ.s="rec"\/ρ.s="tag"\/ρ.s="row"):=fun u=>by
  cases ρ with
  |num=>exact .inl rfl
  |fn=>exact .inr (.inl rfl)
  |rcd=>exact .inr (.inr (.inl rfl))
  |tag=>exact .inr (.inr (.inr (.inl rfl)))
  |row=>exact .inr (.inr (.inr (.inr rfl)))
  |_=>exact u.elim
 have us:Uus ρ->(ρ.s="get"\/ρ.s="call"\/ρ.s="at"\/ρ.s="join"\/ρ.s="size"\/ρ.s="add"\/ρ.s="sub"\/ρ.s="less"):=fun u=>by
  cases ρ with
  |get=>exact .inl rfl
  |op o ks=>exact .inr u
  |_=>exact u.elim
 have hM:Umk ρ->_:=fun u=>mk u
 by_cases u1:Umk ρ
 ·have m:=mk u1
  refine fQ (i:=4) (x:="name") (s:=ρ.s) rfl et (by rcases m with m|m|m|m|m<;>rw[m]<;>decide+kernel) ?_
  refine fQ (i:=4) (x:="let") (s:=ρ.s) rfl et (by rcases m with m|m|m|m|m<;>rw[m]<;>decide+kernel) ?_
  refine fQ (i:=4) (x:="case") (s:=ρ.s) rfl et (by rcases m with m|m|m|m|m<;>rw[m]<;>decide+kernel) ?_
  refine vS (i:=4) (o:=ρ.s) ["num","fn","rec","tag","row"] rfl et (by rcases m with m|m|m|m|m<;>rw[m]<;>decide+kernel) (by decide) fun H2 S2=>?_
  refine⟨A,bh,e,tr,s.pt k,s2,k,s.n,ρ,ho k,roots,ρs,ho,rfl,M1.same S2,C1.fd M1.b (FD.same S2),h2,u1,C.few _ _ hk',him1.mono (fG.tk S2),h1,hz2,fun H' B' F'=>fin H' B' ((FD.same S2).trans F')⟩
 by_cases u2:Uus ρ
 ·have m:=us u2
  refine fQ (i:=4) (x:="name") (s:=ρ.s) rfl et (by rcases m with m|m|m|m|m|m|m|m<;>rw[m]<;>decide+kernel) ?_
  refine fQ (i:=4) (x:="let") (s:=ρ.s) rfl et (by rcases m with m|m|m|m|m|m|m|m<;>rw[m]<;>decide+kernel) ?_
  refine fQ (i:=4) (x:="case") (s:=ρ.s) rfl et (by rcases m with m|m|m|m|m|m|m|m<;>rw[m]<;>decide+kernel) ?_
  refine qr (i:=4) (o:=ρ.s) ["num","fn","rec","tag","row"] rfl et (by rcases m with m|m|m|m|m|m|m|m<;>rw[m]<;>decide+kernel) (by decide) fun H2 S2=>?_
  refine⟨A,bh,e,tr,s.pt k,s2,k,s.n,ρ,ho k,roots,ρs,ho,rfl,M1.same S2,C1.fd M1.b (FD.same S2),h2,u2,C.few _ _ hk',him1.mono (fG.tk S2),h1,hz2,fun H' B' F'=>fin H' B' ((FD.same S2).trans F')⟩
 cases ρ with
 |name n=>
  obtain⟨h0,q0,s3,hh0,h3,rfl⟩:=rq h1
  have hh0:ho k=some h0:=hh0
  obtain⟨y,ey,iy⟩:=hy _ _ hk'
  rw[hh0]at iy
  obtain⟨t,y1,y2,rfl,et2,j1,j2⟩:=sv (show Im H y (.tup [sD h0.1,kD h0.2])from iy)
  cases jz j1
  cases iG j2
  refine ij (i:=4) (x:="name") (s:="name") rfl et fo ?_
  refine⟨_,M1.b.b,eP (eM (j:=3) rfl) ⟨x3 M1.b,_,c01,eP (eM (j:=3) rfl) ⟨_,c31,eP (eM ey) ?_⟩⟩⟩
  refine⟨A,bh,e,s.pt k,s3,t,h0,q0,roots,ρs,ho,rfl,F1.tup M.b et2,M1,C1,h2,h3,Le.fl.sz hz2,fun H3 B3 F3=>⟨jO,fun t4 h4=>?_⟩⟩
  have M3:Lw H3 A e ⟨s3.D,s.held,s3.st⟩:=⟨B3,(Dw.dk M1.b F3 M1.e).le (by have:=(tZ (gB f) h3).p;show 2*_<=2*s3.D.pts.length;exact Nat.mul_le_mul_left 2 this)⟩
  exact rB M3 h4 (by have:=(Le.fl.sz hz2:Sz _ s3).f;show s3.D.fls.length<_;lia) fun H5 M5 F5=>fin H5 M5.b (F3.trans F5)
 |lt n a b=>
  obtain⟨ys,et',iy⟩:=jo him1
  obtain⟨y1,y2,y3,rfl,i1,i2,i3⟩:=Eb iy
  cases jz i1
  cases iG i2
  cases iG i3
  obtain⟨x,s3,h3,h1,_⟩:=L1 (gB f) (show(match nG ρs roots ho f a (s.pt k)with|some (_,s)=>(match nG ρs roots ho f b s with|some (q,s')=>some (s'.fl q (Ls.n _))|none=>none)|none=>none)=some s2 from h1)
  obtain⟨y,s4,h4,h1,l4⟩:=L1 (gB f) h1
  cases cf.inj h1
  refine fQ (i:=4) (x:="name") (s:="let") rfl et' fo ?_
  refine ij (i:=4) (x:="let") (s:="let") rfl et' fo ?_
  refine⟨_,et',eP (eM (j:=2) rfl) (jM M1 C1 h2 h3 ((l4.trans Le.fl).sz hz2) fun H3 M3 F3 C3 k3=>?_)⟩
  refine⟨_,M3.b.b,eP (eM (j:=3) rfl) ⟨x3 M3.b,_,k3 _ _ et',eP (eM (j:=3) rfl) (jM M3 C3 (by rw[km h3];exact h2) h4 (Le.fl.sz hz2) fun H4 M4 F4 C4 k4=>⟨jO,fun t5 h5=>?_⟩)⟩⟩
  exact rB M4 h5 (by have:=(Le.fl.sz hz2:Sz _ s4).f;lia) fun H5 M5 F5=>fin H5 M5.b (F3.trans (F4.trans F5))
 |case a l=>
  refine fQ (i:=4) (x:="name") (s:="case") rfl et fo ?_
  refine fQ (i:=4) (x:="let") (s:="case") rfl et fo ?_
  refine ij (i:=4) (x:="case") (s:="case") rfl et fo ?_
  exact⟨A,bh,e,tr,s.pt k,s2,k,s.n,_,ho k,roots,ρs,ho,rfl,M1,C1,h2,⟨a,l,rfl⟩,C.few _ _ hk',him1,h1,hz2,fin⟩
 |get=>exact absurd trivial u2
 |op o ks=>exact absurd (El (gB f) h1) u2
 |_=>exact absurd trivial u1
theorem qt (T:Txt K mg):∀f:Nat,FO P w base (4*f+ 2) T.d52 (Ak f)
 |0=>by
  refine T.d52.F.ok kG (fun vs H Q E h=>?_) (fun cdv A0 outer s0 H vs Q E hr h=>?_)
  ·obtain⟨A,bh,e,s,s',p,r,roots,ρs,ho,rfl,_⟩:=h
   rfl
  ·obtain⟨A,bh,e,s,s',p,r,roots,ρs,ho,rfl,M,C,h2,hl,_⟩:=h
   cases hl
 |f+ 1=>ub T f (qt T f)
open TM.Internal (Kn Tr gy szs)
def roK:Kn->List Nat->Ro
 | .num n,_=> .num n
 | .name w,_=> .name w
 | .fn w,p::_=> .fn w p
 | .tag w,p::_=> .tag w p
 | .lt w,p::q::_=> .lt w p q
 | .get w,p::_=> .get p w
 | .rcd l,ps=> .rcd ((l.zip ps).map fun q=>(q.1,(q.2:Int)))
 | .case l,p::ps=> .case p ((l.zip ps).map fun q=>(q.1.1,q.1.2,(q.2:Int)))
 | .row _,ps=> .row (ps.map fun p:Nat=>(p:Int))
 | .op s _,ps=> .op s (ps.map fun p:Nat=>(p:Int))
 |_,_=> .num 0
structure En where
 w:Str
 h:Hm
 v:Nat
abbrev Sc:=List En
def lkE (sc:Sc) (w:Str):Option En:=sc.foldl (fun a x=>if x.w=w then some x else a) none
theorem kI (sc:Sc) (x:En) (w:Str):lkE (sc++[x]) w=if x.w=w then some x else lkE sc w:=by
 unfold lkE
 rw[List.foldl_append]
 rfl
theorem vT {w:Str} {e:En}:∀{sc:Sc} {a:Option En},sc.foldl (fun a x=>if x.w=w then some x else a) a=some e->a=some e\/(e∈sc/\e.w=w)
 |[],a,h=> .inl h
 |x::sc,a,h=>by
  rcases vT (sc:=sc) h with h1|⟨h1,h2⟩
  ·dsimp only at h1
   split at h1
   ·cases h1;exact .inr ⟨by simp,by assumption⟩
   ·exact .inl h1
  ·exact .inr ⟨ah _ h1,h2⟩
theorem y6 {sc:Sc} {w:Str} {e:En} (h:lkE sc w=some e):e∈sc/\e.w=w:=by
 rcases vT h with h|h
 ·cases h
 ·exact h
def val (sc:Sc) (w:Str):Nat:=match lkE sc w with
 |some e=>e.v
 |none=>0
abbrev Ex:=Option (Str×Str)
def exN:Kn->List Ex
 | .fn w=>[some (w,"fn")]
 | .lt w=>[none,some (w,"let")]
 | .case l=>none::l.map fun a=>some (a.2,"arm")
 |_=>[]
def hdX (xs:List Ex):Ex:=xs.headD none
def exS (sc:Sc) (x:Ex) (p pp pw:Nat):Sc:=match x with
 |none=>sc
 |some (w,k)=>sc++[if k="let" then⟨w,("let",(pp:Int)),pw⟩else⟨w,(k,(p:Int)),0⟩]
def upE (e:Str->Nat) (x:Ex) (pw:Nat):Str->Nat:=match x with
 |none=>e
 |some (w,k)=>fun u=>if w=u then(if k="let" then pw else 0)else e u
theorem y8 (sc:Sc) (x:Ex) (p pp pw:Nat):val (exS sc x p pp pw)=upE (val sc) x pw:=by
 cases x with
 |none=>rfl
 |some z=>
  obtain⟨w,k⟩:=z
  funext u
  show val (sc++[_]) u=_
  unfold val upE
  rw[kI]
  by_cases h:k="let"
  ·rw[fY h]
   by_cases e:w=u
   ·rw[fY e];simp[e,h]
   ·rw[fJ e];simp[e]
  ·rw[fJ h]
   by_cases e:w=u
   ·rw[fY e];simp[e,h]
   ·rw[fJ e];simp[e]
def nmW:Kn->(Str->Nat)->Nat
 | .name w,e=>e w
 |_,_=>0
mutual
def wT:Tr->(Str->Nat)->Nat
 | .mk κ ks,e=>1+nmW κ e+wTs ks (exN κ) e 0
def wTs:List Tr->List Ex->(Str->Nat)->Nat->Nat
 |[],_,_,_=>0
 |t::ts,xs,e,pw=>wT t (upE e (hdX xs) pw)+wTs ts xs.tail e (wT t (upE e (hdX xs) pw))
end
def adN (N:Str->Prop) (x:Ex):Str->Prop:=match x with
 |none=>N
 |some (w,_)=>fun u=>u=w\/N u
def okK:Kn->Nat->(Str->Prop)->Prop
 | .num _,n,_=>n=0
 | .name w,n,N=>n=0/\N w
 | .fn _,n,_=>n=1
 | .tag _,n,_=>n=1
 | .lt _,n,_=>n=2
 | .get _,n,_=>n=1
 | .rcd l,n,_=>n=l.length/\l.length<=10
 | .case l,n,_=>n=l.length+ 1/\l.length<=10
 | .row m,n,_=>n=m/\m<=1000
 | .op s m,n,_=>n=m/\(s,m)∈TM.Internal.ops
mutual
def okT:Tr->(Str->Prop)->Prop
 | .mk κ ks,N=>okK κ ks.length N/\sA ks (exN κ) N
def sA:List Tr->List Ex->(Str->Prop)->Prop
 |[],_,_=>True
 |t::ts,xs,N=>okT t (adN N (hdX xs))/\sA ts xs.tail N
end
theorem Am {N M:Str->Prop} (h:∀w,N w->M w) (x:Ex):∀w,adN N x w->adN M x w:=fun w a=>by
 cases x with
 |none=>exact h w a
 |some z=>
  rcases a with a|a
  ·exact .inl a
  ·exact .inr (h w a)
mutual
theorem sC:∀(t:Tr) {N M:Str->Prop},(∀w,N w->M w)->okT t N->okT t M
 | .mk κ ks,N,M,h,a=>by
  unfold okT at a⊢
  refine⟨?_,uc ks h a.2⟩
  have a1:=a.1
  cases κ with
  |name w=>exact⟨a1.1,h w a1.2⟩
  |_=>exact a1
theorem uc:∀(ts:List Tr) {xs:List Ex} {N M:Str->Prop},(∀w,N w->M w)->sA ts xs N->sA ts xs M
 |[],xs,N,M,_,_=>by unfold sA;trivial
 |t::ts,xs,N,M,h,a=>by
  unfold sA at a⊢
  exact⟨sC t (Am h _) a.1,uc ts h a.2⟩
end
structure Pc where
 ρ:Ro
 sc:Sc
 en:Nat
 df:Nat
 wt:Nat
mutual
def pcT:Tr->Nat->Sc->Nat->List Pc
 | .mk κ ks,p,sc,d=>⟨roK κ (gy ks (p+ 1)),sc,p+(Tr.mk κ ks).sz,d,wT (.mk κ ks) (val sc)⟩::y9 ks (p+ 1) 0 0 (exN κ) sc d
def y9:List Tr->Nat->Nat->Nat->List Ex->Sc->Nat->List Pc
 |[],_,_,_,_,_,_=>[]
 |t::ts,p,pp,pw,xs,sc,d=>pcT t p (exS sc (hdX xs) p pp pw) d++y9 ts (p+t.sz) p (wT t (upE (val sc) (hdX xs) pw)) xs.tail sc d
end
mutual
def Pl (G:List Pc):Tr->Nat->Sc->Nat->Prop
 | .mk κ ks,p,sc,d=>G[p]?=some ⟨roK κ (gy ks (p+ 1)),sc,p+(Tr.mk κ ks).sz,d,wT (.mk κ ks) (val sc)⟩/\Pls G ks (p+ 1) 0 0 (exN κ) sc d
def Pls (G:List Pc):List Tr->Nat->Nat->Nat->List Ex->Sc->Nat->Prop
 |[],_,_,_,_,_,_=>True
 |t::ts,p,pp,pw,xs,sc,d=>Pl G t p (exS sc (hdX xs) p pp pw) d/\Pls G ts (p+t.sz) p (wT t (upE (val sc) (hdX xs) pw)) xs.tail sc d
end
mutual
theorem jN:∀(t:Tr) (p:Nat) (sc:Sc) (d:Nat),(pcT t p sc d).length=t.sz
 | .mk κ ks,p,sc,d=>by rw[pcT,ax,vU,Tr.sz];lia
theorem vU:∀(ts:List Tr) (p pp pw:Nat) (xs:List Ex) (sc:Sc) (d:Nat),(y9 ts p pp pw xs sc d).length=szs ts
 |[],_,_,_,_,_,_=>rfl
 |t::ts,p,pp,pw,xs,sc,d=>by rw[y9,aM,jN,vU,szs]
end
theorem oM:∀t:Tr,0<t.sz
 | .mk κ ks=>by rw[Tr.sz];lia
mutual
theorem CA:∀(t:Tr) {p:Nat} {sc:Sc} {d:Nat} {G l1 l2:List Pc},G=l1++(pcT t p sc d++l2)->l1.length=p->Pl G t p sc d
 | .mk κ ks,p,sc,d,G,l1,l2,e,h=>by
  rw[pcT]at e
  refine⟨?_,Bk ks (l1:=l1++[_]) (l2:=l2) (by rw[e,bE];rfl) (by rw[aM,h];rfl)⟩
  rw[e,aG (by lia),h,b0]
  rfl
theorem Bk:∀(ts:List Tr) {p pp pw:Nat} {xs:List Ex} {sc:Sc} {d:Nat} {G l1 l2:List Pc},G=l1++(y9 ts p pp pw xs sc d++l2)->l1.length=p->Pls G ts p pp pw xs sc d
 |[],_,_,_,_,_,_,_,_,_,_,_=>trivial
 |t::ts,p,pp,pw,xs,sc,d,G,l1,l2,e,h=>by
  rw[y9,bE]at e
  exact⟨CA t e h,Bk ts (l1:=l1++_) (l2:=l2) (by rw[e,bE]) (by rw[aM,h,jN])⟩
end
theorem Pl.at {G:List Pc} {t:Tr} {p:Nat} {sc:Sc} {d:Nat} (h:Pl G t p sc d):∃ρ,G[p]?=some ⟨ρ,sc,p+t.sz,d,wT t (val sc)⟩:=by
 cases t with
 |mk κ ks=>exact⟨_,h.1⟩
theorem Bl {G:List Pc}:∀{ts:List Tr} {p pp pw:Nat} {xs:List Ex} {sc:Sc} {d j c:Nat},Pls G ts p pp pw xs sc d->(gy ts p)[j]?=some c->∃t pp' pw',ts[j]?=some t/\Pl G t c (exS sc (xs[j]?.getD none) c pp' pw') d/\p<=c/\c+t.sz<=p+szs ts/\(0<j->p<c)
 |[],p,pp,pw,xs,sc,d,j,c,_,h=>by cases h
 |t::ts,p,pp,pw,xs,sc,d,0,c,a,h=>by
  cases h
  refine⟨t,pp,pw,rfl,?_,bX _,by rw[szs];lia,fun z=>absurd z (bS _)⟩
  have e:xs[0]?.getD none=hdX xs:=by cases xs<;>rfl
  rw[e]
  exact a.1
 |t::ts,p,pp,pw,xs,sc,d,j+ 1,c,a,h=>by
  obtain⟨t',pp',pw',e,b,l1,l2,_⟩:=Bl a.2 (show(gy ts (p+t.sz))[j]?=some c from h)
  have:=oM t
  refine⟨t',pp',pw',e,?_,by lia,by rw[szs];lia,fun _=>by lia⟩
  have e:xs.tail[j]?=xs[j+ 1]?:=by cases xs<;>simp
  rw[<-e]
  exact b
open TM.Internal (Kn Tr gy szs)
def Bi (sc:Sc) (k:Int):Prop:=∃e∈sc,(e.h.1="fn"\/e.h.1="arm")/\e.h.2=k
def SE (G:List Pc) (roots:List Nat) (sc:Sc) (p q d:Nat) (e:En):Prop:=
 (e.h.1="let"/\∃(a:Nat) (ca:Pc),e.h.2=(a:Int)/\G[a]?=some ca/\ca.en<=p/\a<ca.en/\ca.df=d/\ca.wt<=e.v/\∀k,Bi ca.sc k->Bi sc k)
 \/(e.h.1="def"/\∃j:Nat,e.h.2=(j:Int)/\j<=d/\(j<d->∃(r:Nat) (c:Pc),roots[j]?=some r/\G[r]?=some c/\c.df=j/\c.en<=p/\r<c.en/\c.wt<=e.v/\∀k,¬Bi c.sc k))
 \/((e.h.1="fn"\/e.h.1="arm")/\∃(a:Nat) (ca:Pc),e.h.2=(a:Int)/\G[a]?=some ca/\a<=p/\q<=ca.en)
def Sok (G:List Pc) (roots:List Nat) (sc:Sc) (p q d:Nat):Prop:=∀e∈sc,SE G roots sc p q d e
def Nm (sc:Sc) (w:Str):Prop:=∃e,lkE sc w=some e
theorem Bi.ex {sc:Sc} {x:Ex} {p pp pw:Nat} {k:Int} (h:Bi sc k):Bi (exS sc x p pp pw) k:=by
 cases x with
 |none=>exact h
 |some z=>
  obtain⟨e,he,h⟩:=h
  exact⟨e,ak _ he,h⟩
theorem Nm.ex {sc:Sc} {x:Ex} {p pp pw:Nat} (w:Str) (h:adN (Nm sc) x w):Nm (exS sc x p pp pw) w:=by
 cases x with
 |none=>exact h
 |some z=>
  obtain⟨u,k⟩:=z
  obtain⟨y,hy,ew⟩:∃y:En,exS sc (some (u,k)) p pp pw=sc++[y]/\y.w=u:=⟨_,rfl,by split<;>rfl⟩
  unfold Nm
  rw[hy,kI,ew]
  by_cases e:u=w
  ·rw[fY e];exact⟨_,rfl⟩
  ·rw[fJ e]
   rcases h with h|h
   ·exact absurd h.symm e
   ·exact h
structure Ft (G:List Pc) (roots:List Nat) (i:Nat) (c:Pc):Prop where
 t:∃t,Pl G t i c.sc c.df/\c.en=i+t.sz/\c.wt=wT t (val c.sc)/\okT t (Nm c.sc)
 s:Sok G roots c.sc i c.en c.df
def nol (xs:List Ex):Prop:=∀w,some (w,("let":Str))∉xs
theorem Em {xs:List Ex} (h:nol xs) (w:Str):hdX xs≠some (w,("let":Str)):=fun e=>by
 cases xs with
 |nil=>cases e
 |cons x xs=>exact h w (by rw[show x=_ from e];simp)
section
variable {G:List Pc} {roots:List Nat}
theorem Sok.in {sc:Sc} {p q p' q' d:Nat} (h:Sok G roots sc p q d) (z1:p<=p') (z2:q'<=q):Sok G roots sc p' q' d:=fun e he=>by
 rcases h e he with⟨a,x,c,y,g,l1,l2,l3,l4,l5⟩|⟨a,j,y,l,r⟩|⟨a,x,c,y,g,l1,l2⟩
 ·exact .inl ⟨a,x,c,y,g,by lia,l2,l3,l4,l5⟩
 ·exact .inr (.inl ⟨a,j,y,l,fun z=>let⟨r,c,h1,h2,h3,h4,h5⟩:=r z;⟨r,c,h1,h2,h3,by lia,h5⟩⟩)
 ·exact .inr (.inr ⟨a,x,c,y,g,by lia,by lia⟩)
theorem Sok.bind {sc:Sc} {p q d pp pw:Nat} {x:Ex} {cp:Pc} (h:Sok G roots sc p q d) (nl:∀w,x≠some (w,("let":Str))) (nd:∀w k,x=some (w,k)->k="fn"\/k="arm") (hp:G[p]?=some cp) (hq:q<=cp.en):Sok G roots (exS sc x p pp pw) p q d:=by
 cases x with
 |none=>exact h
 |some z=>
  obtain⟨u,k⟩:=z
  have nk:k≠"let":=fun e=>nl u (by rw[e])
  intro e he
  rcases aj.mp he with he|he
  ·rcases h e he with⟨a,x,c,y,g,l1,l2,l3,l4,l5⟩|r|r
   ·exact .inl ⟨a,x,c,y,g,l1,l2,l3,l4,fun k hk=>(l5 k hk).ex⟩
   ·exact .inr (.inl r)
   ·exact .inr (.inr r)
  ·rw[fJ nk]at he
   rw[aY.mp he]
   exact .inr (.inr ⟨nd u k rfl,p,cp,rfl,hp,bX _,hq⟩)
theorem Sok.lt {sc:Sc} {p q d pp pw:Nat} {w:Str} {ca:Pc} (h:Sok G roots sc p q d) (ha:G[pp]?=some ca) (h1:ca.en<=p) (h2:pp<ca.en) (h3:ca.df=d) (h4:ca.wt<=pw) (h5:ca.sc=sc):Sok G roots (exS sc (some (w,("let":Str))) p pp pw) p q d:=by
 intro e he
 rcases aj.mp he with he|he
 ·rcases h e he with⟨a,x,c,y,g,l1,l2,l3,l4,l5⟩|r|r
  ·exact .inl ⟨a,x,c,y,g,l1,l2,l3,l4,fun k hk=>(l5 k hk).ex⟩
  ·exact .inr (.inl r)
  ·exact .inr (.inr r)
 ·rw[fY rfl]at he
  rw[aY.mp he]
  exact .inl ⟨rfl,pp,ca,rfl,ha,h1,h2,h3,h4,fun k hk=>by rw[h5]at hk;exact hk.ex⟩
def ndx (xs:List Ex):Prop:=∀w k,some (w,k)∈xs->k="fn"\/k="arm"
theorem Eo {xs:List Ex} (h:ndx xs):ndx xs.tail:=fun w k m=>h w k (List.mem_of_mem_tail m)
theorem Ep {xs:List Ex} (h:ndx xs) (w k:Str) (e:hdX xs=some (w,k)):k="fn"\/k="arm":=by
 cases xs with
 |nil=>cases e
 |cons x xs=>exact h w k (by rw[show x=_ from e];simp)
theorem CB {xs:List Ex} (h:ndx xs):nol xs:=fun w m=>by
 rcases h w "let" m with h|h<;>exact absurd h fo
def Fts (G:List Pc) (roots:List Nat) (p q d:Nat):Prop:=(∀i,p<=i->i<q->∃c,G[i]?=some c/\Ft G roots i c/\c.df=d/\c.en<=q)/\∀i j ci cj,p<=i->i<j->j<q->G[i]?=some ci->G[j]?=some cj->ci.en<=j\/cj.en<=ci.en
theorem Fts.app {p q r d:Nat} (a:Fts G roots p q d) (b:Fts G roots q r d) (h1:p<=q) (h2:q<=r):Fts G roots p r d:=by
 refine⟨fun i l1 l2=>?_,fun i j ci cj l1 l2 l3 e1 e2=>?_⟩
 ·by_cases z:i<q
  ·obtain⟨c,h1,h2,h3,h4⟩:=a.1 i l1 z
   exact⟨c,h1,h2,h3,by lia⟩
  ·exact b.1 i (by lia) l2
 ·by_cases z:j<q
  ·exact a.2 i j ci cj l1 l2 z e1 e2
  ·by_cases y:i<q
   ·obtain⟨c,h1,h2,h3,h4⟩:=a.1 i l1 y
    rw[h1]at e1
    cases e1
    exact .inl (by lia)
   ·exact b.2 i j ci cj (by lia) l2 l3 e1 e2
mutual
theorem An:∀(t:Tr) {p:Nat} {sc:Sc} {d:Nat},Pl G t p sc d->okT t (Nm sc)->Sok G roots sc p (p+t.sz) d->Fts G roots p (p+t.sz) d
 | .mk κ ks,p,sc,d,h,o,s=>by
  have es:(Tr.mk κ ks).sz=1+szs ks:=by rw[Tr.sz]
  have hf:Ft G roots p ⟨roK κ (gy ks (p+ 1)),sc,p+(Tr.mk κ ks).sz,d,wT (.mk κ ks) (val sc)⟩:=⟨⟨_,h,rfl,rfl,o⟩,s⟩
  have hr:Fts G roots (p+ 1) (p+(Tr.mk κ ks).sz) d:=by
   rw[es,<-b6]
   have s':Sok G roots sc (p+ 1) (p+ 1+szs ks) d:=s.in (by lia) (by lia)
   by_cases hk:∃w,κ= .lt w
   ·obtain⟨w,rfl⟩:=hk
    have l2:ks.length=2:=o.1
    match ks,l2,h,o with
    |[a,b],_,h,o=>
     have h2:=h.2
     have o2:=o.2
     obtain⟨ha,hb,_⟩:=h2
     obtain⟨oa,ob,_⟩:=o2
     have ss:szs [a,b]=a.sz+b.sz:=by simp[szs]
     rw[ss]at s'⊢
     have fa:Fts G roots (p+ 1) (p+ 1+a.sz) d:=An a ha oa (s'.in (bX _) (by lia))
     obtain⟨ρa,ga⟩:=ha.at
     have:=oM a
     have sb:=Sok.lt (w:=w) (pw:=wT a (upE (val sc) (hdX (exN (.lt w))) 0)) (s'.in (p':=p+ 1+a.sz) (q':=p+ 1+a.sz+b.sz) (by lia) (by lia)) ga (bX _) (by show p+ 1<p+ 1+a.sz;lia) rfl (bX _) rfl
     have fb:=An b hb (sC b (fun w h=>Nm.ex w h) ob) sb
     rw[<-b6]
     exact fa.app fb (by lia) (by lia)
   ·have nx:ndx (exN κ):=fun w k m=>by
     cases κ with
     |fn u=>simp only[exN,aY,cf.injEq,Prod.mk.injEq]at m;exact .inl m.2
     |lt u=>exact absurd ⟨u,rfl⟩ hk
     |case l=>
      simp only[exN,ai,ba]at m
      rcases m with m|⟨a,_,m⟩
      ·cases m
      ·cases m;exact .inr rfl
     |_=>cases m
    exact Bm ks h.2 o.2 nx s'
  refine⟨fun i l1 l2=>?_,fun i j ci cj l1 l2 l3 e1 e2=>?_⟩
  ·by_cases z:i=p
   ·subst z;exact⟨_,h.1,hf,rfl,bX _⟩
   ·exact hr.1 i (by lia) l2
  ·by_cases z:i=p
   ·subst z
    rw[h.1]at e1
    cases e1
    obtain⟨c,g1,_,_,g4⟩:=hr.1 j (by lia) l3
    rw[g1]at e2
    cases e2
    exact .inr g4
   ·exact hr.2 i j ci cj (by lia) l2 l3 e1 e2
theorem Bm:∀(ts:List Tr) {p pp pw:Nat} {xs:List Ex} {sc:Sc} {d:Nat},Pls G ts p pp pw xs sc d->sA ts xs (Nm sc)->ndx xs->Sok G roots sc p (p+szs ts) d->Fts G roots p (p+szs ts) d
 |[],p,pp,pw,xs,sc,d,_,_,_,_=>⟨fun i l1 l2=>by rw[szs]at l2;lia,fun i j ci cj l1 l2 l3=>by rw[szs]at l3;lia⟩
 |t::ts,p,pp,pw,xs,sc,d,h,o,n,s=>by
  rw[szs]at s⊢
  obtain⟨ρ,ga⟩:=h.1.at
  have f1:=An t h.1 (sC t (fun w h=>Nm.ex w h) o.1) (Sok.bind (s.in (q':=p+t.sz) (bX _) (by lia)) (Em (CB n)) (Ep n) ga (bX _))
  have f2:=Bm ts h.2 o.2 (Eo n) (s.in (by lia) (by lia))
  rw[<-b6]
  exact f1.app f2 (by lia) (by lia)
end
end
open TM.Internal (Kn Tr gy szs)
def dfE (wd:Nat->Str) (d v:Nat):En:=⟨wd d,("def",(d:Int)),v⟩
def pcD (wd:Nat->Str):List Tr->Nat->Nat->Sc->List Pc
 |[],_,_,_=>[]
 |t::ts,d,p,sc=>pcT t p (sc++[dfE wd d 0]) d++pcD wd ts (d+ 1) (p+t.sz) (sc++[dfE wd d (wT t (val (sc++[dfE wd d 0])))])
def ET (wd:Nat->Str):List Tr->Nat->Sc->Prop
 |[],_,_=>True
 |t::ts,d,sc=>okT t (Nm (sc++[dfE wd d 0]))/\ET wd ts (d+ 1) (sc++[dfE wd d (wT t (val (sc++[dfE wd d 0])))])
structure FtD (G:List Pc) (roots:List Nat) (d p q:Nat):Prop where
 a:∀i,p<=i->i<q->∃c,G[i]?=some c/\Ft G roots i c/\c.en<=q/\(∃r,roots[c.df]?=some r/\r<=i)/\∀r',roots[c.df+ 1]?=some r'->c.en<=r'
 n:∀i j ci cj,p<=i->i<j->j<q->G[i]?=some ci->G[j]?=some cj->ci.en<=j\/cj.en<=ci.en
 r:∀j r,d<=j->roots[j]?=some r->r<q/\∃c,G[r]?=some c/\c.df=j/\∀k,¬Bi c.sc k
def Sdf (G:List Pc) (roots:List Nat) (sc:Sc) (p d:Nat):Prop:=∀e∈sc,e.h.1="def"/\∃j:Nat,e.h.2=(j:Int)/\j<d/\∃(r:Nat) (c:Pc),roots[j]?=some r/\G[r]?=some c/\c.df=j/\c.en<=p/\r<c.en/\c.wt<=e.v/\∀k,¬Bi c.sc k
theorem Sdf.nob {G:List Pc} {roots:List Nat} {sc:Sc} {p d:Nat} {wd:Nat->Str} {v:Nat} (h:Sdf G roots sc p d) (k:Int):¬Bi (sc++[dfE wd d v]) k:=by
 rintro⟨e,he,h1,_⟩
 have z:e.h.1="def":=by
  rcases aj.mp he with he|he
  ·exact(h e he).1
  ·rw[aY.mp he];rfl
 rw[z]at h1
 rcases h1 with h1|h1<;>exact absurd h1 fo
theorem Er {G:List Pc} {roots:List Nat} {wd:Nat->Str}:∀{ts:List Tr} {d p:Nat} {sc:Sc} {l1:List Pc},G=l1++pcD wd ts d p sc->l1.length=p->roots.drop d=gy ts p->ET wd ts d sc->Sdf G roots sc p d->FtD G roots d p (p+szs ts)
 |[],d,p,sc,l1,_,_,hr,_,_=>⟨fun i h1 h2=>by rw[szs]at h2;lia,fun i j ci cj h1 h2 h3=>by rw[szs]at h3;lia,fun j r h1 h2=>by
   have h3:(roots.drop d)[j-d]?=some r:=by rw[bF,Nat.add_sub_cancel' h1];exact h2
   rw[hr]at h3
   cases h3⟩
 |t::ts,d,p,sc,l1,e,hl,hr,ok,sd=>by
  have h0:roots[d]?=some p:=by
   have h3:(roots.drop d)[0]?=some p:=by rw[hr];rfl
   rwa[bF,Nat.add_zero]at h3
  have h1:roots.drop (d+ 1)=gy ts (p+t.sz):=by
   rw[<-List.tail_drop,hr];rfl
  have hp:Pl G t p (sc++[dfE wd d 0]) d:=CA t (l2:=pcD wd ts (d+ 1) (p+t.sz) (sc++[dfE wd d (wT t (val (sc++[dfE wd d 0])))])) (by rw[e];rfl) hl
  obtain⟨ρ,gp⟩:=hp.at
  have tp:=oM t
  have so:Sok G roots (sc++[dfE wd d 0]) p (p+t.sz) d:=fun x hx=>by
   refine .inr (.inl ?_)
   rcases aj.mp hx with hx|hx
   ·obtain⟨a,j,b,l,r⟩:=sd x hx
    exact⟨a,j,b,by lia,fun _=>r⟩
   ·rw[aY.mp hx]
    exact⟨rfl,d,rfl,bX _,fun z=>absurd z (bS _)⟩
  have f1:=An t hp ok.1 so
  have sd2:Sdf G roots (sc++[dfE wd d (wT t (val (sc++[dfE wd d 0])))]) (p+t.sz) (d+ 1):=fun x hx=>by
   rcases aj.mp hx with hx|hx
   ·obtain⟨a,j,b,l,r,c,h1,h2,h3,h4,h5⟩:=sd x hx
    exact⟨a,j,b,by lia,r,c,h1,h2,h3,by lia,h5⟩
   ·rw[aY.mp hx]
    exact⟨rfl,d,rfl,by lia,p,_,h0,gp,rfl,bX _,by show p<p+t.sz;lia,bX _,fun k=>sd.nob k⟩
  have f2:=Er (l1:=l1++pcT t p (sc++[dfE wd d 0]) d) (by rw[e,pcD,bE]) (by rw[aM,hl,jN]) h1 ok.2 sd2
  have es:p+szs (t::ts)=p+t.sz+szs ts:=by rw[szs];lia
  rw[es]
  refine⟨fun i l1 l2=>?_,fun i j ci cj l1 l2 l3 e1 e2=>?_,fun j r l hj=>?_⟩
  ·by_cases z:i<p+t.sz
   ·obtain⟨c,g1,g2,g3,g4⟩:=f1.1 i l1 z
    refine⟨c,g1,g2,by lia,⟨p,by rw[g3];exact h0,l1⟩,fun r' hr'=>?_⟩
    rw[g3]at hr'
    have h3:(roots.drop (d+ 1))[0]?=some r':=by rw[bF];exact hr'
    rw[h1]at h3
    cases ts with
    |nil=>cases h3
    |cons u us=>cases h3;exact g4
   ·exact f2.a i (by lia) l2
  ·by_cases z:j<p+t.sz
   ·exact f1.2 i j ci cj l1 l2 z e1 e2
   ·by_cases y:i<p+t.sz
    ·obtain⟨c,g1,_,_,g4⟩:=f1.1 i l1 y
     rw[g1]at e1
     cases e1
     exact .inl (by lia)
    ·exact f2.n i j ci cj (by lia) l2 l3 e1 e2
  ·by_cases z:j=d
   ·subst z
    rw[h0]at hj
    cases hj
    exact⟨by lia,_,gp,rfl,fun k=>sd.nob k⟩
   ·exact f2.r j r (by lia) hj
theorem za {wd:Nat->Str}:∀{ts:List Tr} {d p:Nat} {sc:Sc},(pcD wd ts d p sc).length=szs ts
 |[],_,_,_=>rfl
 |t::ts,d,p,sc=>by rw[pcD,aM,jN,za,szs]
theorem CC {wd:Nat->Str} {ts:List Tr} (ok:ET wd ts 0 []):FtD (pcD wd ts 0 0 []) (gy ts 0) 0 0 (szs ts):=by
 have h:=Er (l1:=[]) (G:=pcD wd ts 0 0 []) (roots:=gy ts 0) rfl rfl rfl ok (fun _ h=>by cases h)
 rwa[b9]at h
def enG (G:List Pc) (k:Int):Int:=match atZ G k with
 |some c=>(c.en:Int)
 |none=>k+ 1
def dfG (G:List Pc) (k:Int):Int:=match atZ G k with
 |some c=>(c.df:Int)
 |none=> -1
def viG (G:List Pc) (p k:Int):Prop:=∃c,atZ G p=some c/\Bi c.sc k
def hoC (c:Pc):Option Hm:=match c.ρ with
 | .name w=>(lkE c.sc w).map En.h
 |_=>none
def hoG (G:List Pc) (k:Nat):Option Hm:=(G[k]?).bind hoC
theorem FZ {c:Pc} {h:Hm} (e:hoC c=some h):∃w x,c.ρ= .name w/\lkE c.sc w=some x/\x.h=h:=by
 unfold hoC at e
 split at e
 ·rename_i w hw
  obtain⟨x,hx,rfl⟩:=cm.mp e
  exact⟨w,x,hw,hx,rfl⟩
 ·cases e
theorem Ga {G:List Pc} {k:Nat} {h:Hm} (e:hoG G k=some h):∃c w x,G[k]?=some c/\c.ρ= .name w/\x∈c.sc/\lkE c.sc w=some x/\x.h=h:=by
 unfold hoG at e
 obtain⟨c,hc,e⟩:=Option.bind_eq_some_iff.mp e
 obtain⟨w,x,h1,h2,h3⟩:=FZ e
 exact⟨c,w,x,hc,h1,(y6 h2).1,h2,h3⟩
theorem Ao {κ:Kn} {ps:List Nat} {c:Int} (h:c∈iY (roK κ ps)):∃j n:Nat,ps[j]?=some n/\c=(n:Int):=by
 have mm:∀{n:Nat} {ps:List Nat},n∈ps->∃j:Nat,ps[j]?=some n:=fun h=>bA.mp h
 unfold roK at h
 split at h
 ·cases h
 ·cases h
 ·simp only[iY,aY]at h;exact⟨0,_,rfl,h⟩
 ·simp only[iY,aY]at h;exact⟨0,_,rfl,h⟩
 ·simp only[iY,ai,bf,or_false]at h
  rcases h with h|h
  ·exact⟨0,_,rfl,h⟩
  ·exact⟨1,_,rfl,h⟩
 ·simp only[iY,aY]at h;exact⟨0,_,rfl,h⟩
 ·simp only[iY,bb,ba,Function.comp]at h
  obtain⟨q,hq,rfl⟩:=h
  obtain⟨j,hj⟩:=mm (aD hq).2
  exact⟨j,_,hj,rfl⟩
 ·simp only[iY,bb,ai,ba,Function.comp]at h
  rcases h with h|⟨q,hq,rfl⟩
  ·exact⟨0,_,rfl,h⟩
  ·obtain⟨j,hj⟩:=mm (aD hq).2
   exact⟨j+ 1,_,hj,rfl⟩
 ·simp only[iY,ba]at h
  obtain⟨n,hn,rfl⟩:=h
  obtain⟨j,hj⟩:=mm hn
  exact⟨j,_,hj,rfl⟩
 ·simp only[iY,ba]at h
  obtain⟨n,hn,rfl⟩:=h
  obtain⟨j,hj⟩:=mm hn
  exact⟨j,_,hj,rfl⟩
 ·cases h
theorem u9:∀{ts:List Tr} {p i a:Nat},(gy ts p)[i]?=some a->p<=a
 |[],_,_,_,h=>by cases h
 |t::ts,p,0,a,h=>by cases h;exact bX _
 |t::ts,p,i+ 1,a,h=>by have:=u9 (show(gy ts (p+t.sz))[i]?=some a from h);lia
theorem ud:∀{ts:List Tr} {p i j a b:Nat},(gy ts p)[i]?=some a->(gy ts p)[j]?=some b->i<=j->a<=b
 |[],_,_,_,_,_,h,_,_=>by cases h
 |t::ts,p,0,j,a,b,h,h2,_=>by cases h;exact u9 h2
 |t::ts,p,i+ 1,0,a,b,_,_,l=>by lia
 |t::ts,p,i+ 1,j+ 1,a,b,h,h2,l=>ud (show(gy ts (p+t.sz))[i]?=some a from h) (show(gy ts (p+t.sz))[j]?=some b from h2) (by lia)
open TM.Internal (Kn Tr gy szs)
theorem dfn {s:Str}:s="def"->s≠"let"/\s≠"fn"/\s≠"arm":=fun h=>by subst h;exact⟨fo,fo,fo⟩
theorem ltn {s:Str}:s="let"->s≠"def"/\s≠"fn"/\s≠"arm":=fun h=>by subst h;exact⟨fo,fo,fo⟩
section
variable {G:List Pc} {roots:List Nat} {q:Nat}
theorem qu {k:Nat} {c:Pc} (h:G[k]?=some c):enG G (k:Int)=c.en:=by
 unfold enG;rw[show atZ G (k:Int)=some c from h]
theorem nH {k:Nat} {c:Pc} (h:G[k]?=some c):dfG G (k:Int)=c.df:=by
 unfold dfG;rw[show atZ G (k:Int)=some c from h]
theorem qv {k:Nat} {c:Pc} (h:G[k]?=some c) {x:Int}:viG G (k:Int) x↔Bi c.sc x:=
 ⟨fun⟨c',h',b⟩=>by rw[show atZ G (k:Int)=some c from h]at h';cases h';exact b,fun b=>⟨c,h,b⟩⟩
theorem FtD.at (F:FtD G roots 0 0 q) (hq:q=G.length) {i:Nat} {c:Pc} (h:G[i]?=some c):Ft G roots i c/\c.en<=q/\i<c.en/\(∃r,roots[c.df]?=some r/\r<=i)/\∀r',roots[c.df+ 1]?=some r'->c.en<=r':=by
 obtain⟨c',g,f,a,b,d⟩:=F.a i (bY _) (by rw[hq];exact(ao.mp h).1)
 rw[h]at g
 cases g
 obtain⟨t,_,e,_⟩:=f.t
 have:=oM t
 exact⟨f,a,by lia,b,d⟩
theorem FtD.kid (F:FtD G roots 0 0 q) (hq:q=G.length) {p:Int} {ρ:Ro} {c:Int} (h:atZ (G.map Pc.ρ) p=some ρ) (hc:c∈iY ρ):∃(i n:Nat) (ci cn:Pc) (κ:Kn) (ks:List Tr) (j pp pw:Nat),p=(i:Int)/\c=(n:Int)/\G[i]?=some ci/\G[n]?=some cn/\ρ=roK κ (gy ks (i+ 1))/\(gy ks (i+ 1))[j]?=some n/\cn.sc=exS ci.sc ((exN κ)[j]?.getD none) n pp pw/\i<n/\cn.en<=ci.en/\n<cn.en/\cn.df=ci.df/\(0<j->i+ 1<n)/\okK κ ks.length (Nm ci.sc):=by
 obtain⟨i,rfl,h'⟩:=gR h
 clear h
 have h:=h'
 rw[aI]at h
 obtain⟨ci,hi,rfl⟩:=cm.mp h
 obtain⟨f,_⟩:=F.at hq hi
 obtain⟨⟨κ,ks⟩,pl,en,_,ok⟩:=f.t
 have p1:=pl.1
 rw[hi]at p1
 have eρ:ci.ρ=roK κ (gy ks (i+ 1)):=by rw[cf.inj p1]
 rw[eρ]at hc
 obtain⟨j,n,hj,rfl⟩:=Ao hc
 obtain⟨t,pp,pw,_,pt,l1,l2,l3⟩:=Bl pl.2 hj
 obtain⟨ρn,gn⟩:=pt.at
 have:=oM t
 have es:(Tr.mk κ ks).sz=1+szs ks:=by rw[Tr.sz]
 exact⟨i,n,ci,_,κ,ks,j,pp,pw,rfl,rfl,hi,gn,eρ,hj,rfl,by lia,by show n+t.sz<=ci.en;lia,by show n<n+t.sz;lia,rfl,fun z=>by have:=l3 z;lia,ok.1⟩
theorem FtD.en (F:FtD G roots 0 0 q) (hq:q=G.length) {k:Nat} {h:Hm} (e:hoG G k=some h):∃c x,G[k]?=some c/\x∈c.sc/\x.h=h/\SE G roots c.sc k c.en c.df x/\k<c.en/\(∃r,roots[c.df]?=some r/\r<=k)/\∀r',roots[c.df+ 1]?=some r'->c.en<=r':=by
 obtain⟨c,w,x,hc,_,hx,_,rfl⟩:=Ga e
 obtain⟨f,_,l,a,b⟩:=F.at hq hc
 exact⟨c,x,hc,hx,rfl,f.s x hx,l,a,b⟩
theorem sE {roots:List Nat} {k:Nat} {c:Pc} {ts:List Tr} (er:roots=gy ts 0) (l:k<c.en) (a:∃r,roots[c.df]?=some r/\r<=k) (b:∀r',roots[c.df+ 1]?=some r'->c.en<=r') {j:Nat} (hj:j<=c.df):inF roots (k:Int) (j:Int)=true↔j=c.df:=by
 unfold inF
 rw[show atZ roots ((j:Int)+ 1)=roots[j+ 1]? from rfl]
 constructor
 ·intro h
  by_cases e:j=c.df
  ·exact e
  ·exfalso
   obtain⟨r,hr,lr⟩:=a
   have ll:=(ao.mp hr).1
   obtain⟨r',hr'⟩:∃r',roots[j+ 1]?=some r':=⟨_,aZ (by lia)⟩
   rw[hr']at h
   have:=of_decide_eq_true h
   rw[er]at hr hr'
   have:=ud hr' hr (by lia)
   lia
 ·rintro rfl
  split
  ·rename_i r' hr'
   have:=b r' hr'
   exact gM (by lia)
  ·rfl
theorem Gb {ts:List Tr} (er:roots=gy ts 0) (F:FtD G roots 0 0 q) (hq:q=G.length):Nt (enG G) (dfG G) (G.map Pc.ρ) roots (hoG G) where
 n:=fun k p l=>by
  cases e:atZ G k with
  |none=>left;unfold enG;rw[e];show k+ 1<=p;lia
  |some c=>
   obtain⟨i,rfl,hi⟩:=gR e
   obtain⟨_,le,_⟩:=F.at hq hi
   have:∃j:Nat,p=(j:Int):=⟨p.toNat,by lia⟩
   obtain⟨j,rfl⟩:=this
   rw[qu hi]
   by_cases z:j<G.length
   ·have hj:G[j]?=some G[j]:=aZ z
    rw[qu hj]
    rcases F.n i j c _ (bY _) (by lia) (by lia) hi hj with h|h
    ·left;lia
    ·right;lia
   ·left;lia
 kid:=fun p ρ c h hc=>by
  obtain⟨i,n,ci,cn,κ,ks,j,pp,pw,rfl,rfl,gi,gn,_,_,_,l1,l2,l3,l4,_⟩:=F.kid hq h hc
  rw[qu gi,qu gn,nH gi,nH gn,l4]
  exact⟨by lia,by lia,by lia,rfl⟩
 lt:=fun k h e h1=>by
  obtain⟨c,x,gc,hx,rfl,s,l,_⟩:=F.en hq e
  rcases s with⟨_,a,ca,e2,ga,l1,l2,l3,_⟩|⟨z,_⟩|⟨z,_⟩
  ·rw[e2,qu ga,nH ga,nH gc,l3]
   exact⟨by lia,by lia,rfl⟩
  ·exact absurd z (ltn h1).1
  ·rcases z with z|z
   ·exact absurd z (ltn h1).2.1
   ·exact absurd z (ltn h1).2.2
 dn:=fun k h e h1 h2=>by
  obtain⟨c,x,gc,hx,rfl,s,l,a,b⟩:=F.en hq e
  rcases s with⟨z,_⟩|⟨_,j,ej,lj,hj⟩|⟨z,_⟩
  ·exact absurd h1 (ltn z).1
  ·rw[ej]at h2⊢
   have nj:j≠c.df:=fun z=>by rw[(sE er l a b lj).mpr z]at h2;cases h2
   obtain⟨r,cr,r1,r2,r3,r4,r5,r6,r7⟩:=hj (by lia)
   rw[nH gc]
   refine⟨by lia,fun r' hr'=>?_⟩
   rw[show atZ roots (j:Int)=roots[j]? from rfl,r1]at hr'
   cases hr'
   rw[qu r2,nH r2,r3]
   exact⟨by lia,by lia,rfl⟩
  ·rcases z with z|z
   ·exact absurd z (dfn h1).2.1
   ·exact absurd z (dfn h1).2.2
theorem Es {κ:Kn} {j n i:Nat} {w k:Str} {ks:List Tr} {N:Str->Prop} (ok:okK κ ks.length N) (h:(exN κ)[j]?.getD none=some (w,k)) (hk:k≠"let") (hj:(gy ks (i+ 1))[j]?=some n):(n:Int)∈bnd (roK κ (gy ks (i+ 1))):=by
 have hl:(gy ks (i+ 1)).length=ks.length:=TM.Internal.offs_len ks (i+ 1)
 cases κ with
 |fn u=>
  have l1:ks.length=1:=ok
  match gy ks (i+ 1),hl,hj with
  |[a],_,hj=>
   cases j with
   |zero=>cases hj;simp[roK,bnd]
   |succ j=>simp at hj
  |[],hl,_=>rw[l1]at hl;cases hl
  |_::_::_,hl,_=>rw[l1]at hl;simp at hl
 |lt u=>
  exfalso
  match j,h with
  |0,h=>cases h
  |1,h=>cases h;exact hk rfl
  |j+ 2,h=>cases h
 |case l=>
  have l1:ks.length=l.length+ 1:=ok.1
  cases j with
  |zero=>cases h
  |succ j=>
   match gy ks (i+ 1),hl,hj with
   |[],hl,_=>rw[l1]at hl;cases hl
   |a::ps,hl,hj=>
    have hj:ps[j]?=some n:=hj
    have lj:j<l.length:=by
     have:=(ao.mp hj).1
     rw[ax,l1]at hl
     lia
    show(n:Int)∈(((l.zip ps).map fun q=>(q.1.1,q.1.2,(q.2:Int))).map fun x=>x.2.2)
    rw[bb]
    refine ba.mpr ⟨(l[j],n),?_,rfl⟩
    refine bA.mpr ⟨j,?_⟩
    rw[bG]
    exact⟨aZ lj,hj⟩
 |_=>cases j<;>cases h
theorem Gd {ts:List Tr} (er:roots=gy ts 0) (F:FtD G roots 0 0 q) (hq:q=G.length):Vs (viG G) (enG G) (dfG G) (G.map Pc.ρ) roots (hoG G) where
 enc:=fun p k ⟨c,hc,e,he,hk,ek⟩=>by
  obtain⟨i,rfl,hc⟩:=gR hc
  obtain⟨f,_,l,_⟩:=F.at hq hc
  rcases f.s e he with⟨z,_⟩|⟨z,_⟩|⟨_,a,ca,e2,ga,l1,l2⟩
  ·rcases hk with hk|hk
   ·exact absurd hk (ltn z).2.1
   ·exact absurd hk (ltn z).2.2
  ·rcases hk with hk|hk
   ·exact absurd hk (dfn z).2.1
   ·exact absurd hk (dfn z).2.2
  ·rw[<-ek,e2,qu ga]
   exact⟨by lia,by lia,by lia⟩
 kid:=fun p ρ c k h hc hv=>by
  obtain⟨i,n,ci,cn,κ,ks,j,pp,pw,rfl,rfl,gi,gn,eρ,hj,es,l1,l2,l3,l4,l5,ok⟩:=F.kid hq h hc
  rw[qv gn]at hv
  rw[qv gi]
  obtain⟨e,he,hk,ek⟩:=hv
  rw[es]at he
  cases hx:(exN κ)[j]?.getD none with
  |none=>rw[hx]at he;exact .inl ⟨e,he,hk,ek⟩
  |some z=>
   obtain⟨w,kk⟩:=z
   rw[hx]at he
   rcases aj.mp he with he|he
   ·exact .inl ⟨e,he,hk,ek⟩
   ·have he:=aY.mp he
    by_cases z:kk="let"
    ·rw[fY z]at he
     rw[he]at hk
     rcases hk with hk|hk
     ·exact absurd hk (ltn rfl).2.1
     ·exact absurd hk (ltn rfl).2.2
    ·rw[fJ z]at he
     rw[he]at ek
     exact .inr ⟨ek.symm,by rw[eρ];exact Es ok hx z hj⟩
 lt:=fun p h k e h1 hv=>by
  obtain⟨c,x,gc,hx,rfl,s,l,_⟩:=F.en hq e
  rw[qv gc]
  rcases s with⟨_,a,ca,e2,ga,l1,l2,l3,_,l5⟩|⟨z,_⟩|⟨z,_⟩
  ·rw[e2,qv ga]at hv;exact l5 k hv
  ·exact absurd z (ltn h1).1
  ·rcases z with z|z
   ·exact absurd z (ltn h1).2.1
   ·exact absurd z (ltn h1).2.2
 root:=fun d r k h hv=>by
  obtain⟨j,rfl,h⟩:=gR h
  obtain⟨_,c,gc,_,nb⟩:=F.r j r (bY _) h
  rw[qv gc]at hv
  exact nb k hv
 held:=fun p h e h1 h2=>by
  obtain⟨c,x,gc,hx,rfl,s,l,_⟩:=F.en hq e
  rw[qv gc]
  rcases s with⟨z,_⟩|⟨z,_⟩|⟨z,_⟩
  ·exact absurd z h1
  ·exact absurd z h2
  ·exact⟨x,hx,z,rfl⟩
 inn:=fun p h e h1=>by
  obtain⟨c,x,gc,hx,rfl,s,l,a,b⟩:=F.en hq e
  rcases s with⟨z,_⟩|⟨_,j,ej,lj,hj⟩|⟨z,_⟩
  ·exact absurd h1 (ltn z).1
  ·rw[ej,nH gc,sE er l a b lj]
   lia
  ·rcases z with z|z
   ·exact absurd z (dfn h1).2.1
   ·exact absurd z (dfn h1).2.2
 dr:=fun d r h=>by
  obtain⟨j,rfl,h⟩:=gR h
  obtain⟨_,c,gc,e,_⟩:=F.r j r (bY _) h
  rw[nH gc,e]
 sub:=fun p a l h=>by
  obtain⟨i,n,ci,cn,κ,ks,j,pp,pw,rfl,rfl,gi,gn,eρ,hj,_⟩:=F.kid hq h (show a∈iY (.case a l) by simp[iY])
  intro hb
  have key:∀(b:Int),b∈bnd (roK κ (gy ks (i+ 1)))->∀a l,roK κ (gy ks (i+ 1))= .case a l->a<b:=by
   intro b hb a l e
   cases κ with
   |case l'=>
    cases ks with
    |nil=>cases e
    |cons t ts=>
     have e:Ro.case ((i+ 1:Nat):Int) ((l'.zip (gy ts (i+ 1+t.sz))).map fun q=>(q.1.1,q.1.2,(q.2:Int)))= .case a l:=e
     have hb:b∈(((l'.zip (gy ts (i+ 1+t.sz))).map fun q=>(q.1.1,q.1.2,(q.2:Int))).map fun x=>x.2.2):=hb
     rw[bb]at hb
     obtain⟨z,hz,rfl⟩:=ba.mp hb
     obtain⟨m,hm⟩:=bA.mp (aD hz).2
     have:=u9 hm
     have:=oM t
     cases e
     show((i+ 1:Nat):Int)<(z.2:Int)
     lia
   |num=>cases e
   |name=>cases e
   |row=>cases e
   |op=>cases e
   |rcd=>cases e
   |fn=>cases ks<;>cases e
   |tag=>cases ks<;>cases e
   |get=>cases ks<;>cases e
   |lt=>
    cases ks with
    |nil=>cases e
    |cons t ts=>cases ts<;>cases e
  rw[eρ]at hb
  exact absurd (key _ hb _ _ eρ.symm) (by lia)
end
open TM.Internal (Kn Tr gy szs)
def nS (s:Ls):Nat:=s.D.pts.length+s.D.mks.length+s.D.uss.length+s.D.fls.length
theorem oE (s:Ls) (p:Int):nS (s.pt p)=nS s+ 1:=by simp only[nS,Ls.pt,aM,aU];lia
theorem pd (s:Ls) (m:Mkg):nS (s.mk' m)=nS s+ 1:=by simp only[nS,Ls.mk',aM,aU];lia
theorem nJ (s:Ls) (u:Us):nS (s.us u)=nS s+ 1:=by simp only[nS,Ls.us,aM,aU];lia
theorem va (s:Ls) (p q:Int):nS (s.fl p q)=nS s+ 1:=by simp only[nS,Ls.fl,aM,aU];lia
theorem Et (s:Ls) (p q:Int):nS (s.hold p q)=nS s:=rfl
theorem Eu (s:Ls) (p q:Int):nS (s.begin p q)=nS s:=rfl
def Gr (s s':Ls):Prop:=(∀b,(∃v,s.held b=some v)->∃v,s'.held b=some v)/\∀b,(∃v,s.st b=some v)->∃v,s'.st b=some v
theorem Gr.refl (s:Ls):Gr s s:=⟨fun _ h=>h,fun _ h=>h⟩
theorem Gr.trans {a b c:Ls} (h:Gr a b) (k:Gr b c):Gr a c:=⟨fun x z=>k.1 x (h.1 x z),fun x z=>k.2 x (h.2 x z)⟩
theorem vV {g:Int->Option Int} {b:Int} (k x:Int) (h:∃v,g b=some v):∃v,put g k x b=some v:=by
 unfold put
 by_cases e:b=k
 ·exact⟨x,fY e⟩
 ·rw[fJ e];exact h
theorem Gr.ho (s:Ls) (k v:Int):Gr s (s.hold k v):=⟨fun _ h=>vV k v h,fun _ h=>h⟩
theorem Gr.be (s:Ls) (k v:Int):Gr s (s.begin k v):=⟨fun _ h=>h,fun _ h=>vV k v h⟩
theorem Gr.eq {s s':Ls} (h:s'.held=s.held) (k:s'.st=s.st):Gr s s':=⟨fun _ z=>by rw[h];exact z,fun _ z=>by rw[k];exact z⟩
def HS (sc:Sc) (d:Nat) (s:Ls):Prop:=(∀b,Bi sc b->∃v,s.held b=some v)/\∃v,s.st (d:Int)=some v
theorem HS.gr {sc:Sc} {d:Nat} {s s':Ls} (h:HS sc d s) (g:Gr s s'):HS sc d s':=⟨fun b z=>g.1 b (h.1 b z),g.2 _ h.2⟩
theorem HS.eq {sc:Sc} {d:Nat} {s s':Ls} (h:HS sc d s) (a:s'.held=s.held) (k:s'.st=s.st):HS sc d s':=h.gr (Gr.eq a k)
theorem HS.bind {sc:Sc} {d:Nat} {s:Ls} (h:HS sc d s) (w k:Str) (n pp pw:Nat) (v:Int):HS (exS sc (some (w,k)) n pp pw) d (s.hold n v):=⟨fun b ⟨e,he,z,eb⟩=>by
 rcases aj.mp he with he|he
 ·exact(Gr.ho s n v).1 b (h.1 b ⟨e,he,z,eb⟩)
 ·have he:=aY.mp he
  by_cases l:k="let"
  ·rw[fY l]at he
   rw[he]at z
   rcases z with z|z
   ·exact absurd z (ltn rfl).2.1
   ·exact absurd z (ltn rfl).2.2
  ·rw[fJ l]at he
   rw[he]at eb
   exact⟨v,fY eb.symm⟩,h.2⟩
theorem HS.lt {sc:Sc} {d:Nat} {s:Ls} (h:HS sc d s) (w:Str) (n pp pw:Nat):HS (exS sc (some (w,"let")) n pp pw) d s:=⟨fun b ⟨e,he,z,eb⟩=>by
 rcases aj.mp he with he|he
 ·exact h.1 b ⟨e,he,z,eb⟩
 ·have he:=aY.mp he
  rw[fY rfl]at he
  rw[he]at z
  rcases z with z|z
  ·exact absurd z (ltn rfl).2.1
  ·exact absurd z (ltn rfl).2.2,h.2⟩
section
variable {G:List Pc} {f d:Nat} {L:Lf}
def Kd1 (G:List Pc) (f d:Nat) (L:Lf):Prop:=∀t n sc s,Pl G t n sc d->wT t (val sc)<=f->HS sc d s->∃q s',L (n:Int) s=some (q,s')/\nS s'+ 2<=nS s+ 10*wT t (val sc)/\Gr s s'
variable (K:Kd1 G f d L)
include K
theorem Bn {sc:Sc}:∀{ts:List Tr} {l:List Str} {p pp pw:Nat} {acc:List (Str×Int)} {s:Ls},Pls G ts p pp pw [] sc d->wTs ts [] (val sc) pw<=f->HS sc d s->∃fs s',qO L ((l.zip (gy ts p)).map fun q=>(q.1,(q.2:Int))) acc s=some (fs,s')/\nS s'<=nS s+ 10*wTs ts [] (val sc) pw/\Gr s s'
 |[],l,p,pp,pw,acc,s,_,_,_=>⟨acc,s,by cases l<;>rfl,by lia,Gr.refl _⟩
 |t::ts,[],p,pp,pw,acc,s,_,_,_=>⟨acc,s,rfl,by lia,Gr.refl _⟩
 |t::ts,w::l,p,pp,pw,acc,s,h,hw,hs=>by
  have ew:wTs (t::ts) [] (val sc) pw=wT t (val sc)+wTs ts [] (val sc) (wT t (val sc)):=by rw[wTs];rfl
  rw[ew]at hw⊢
  obtain⟨q,s1,h1,n1,g1⟩:=K t p sc s h.1 (by lia) hs
  obtain⟨fs,s2,h2,n2,g2⟩:=Bn (l:=l) (acc:=acc++[(w,q)]) h.2 (show wTs ts [] (val sc) (wT t (val sc))<=f by lia) (hs.gr g1)
  refine⟨fs,s2,?_,by have:nS s2<=nS s1+ 10*wTs ts [] (val sc) (wT t (val sc)):=n2;lia,g1.trans g2⟩
  show(match L (p:Int) s with|some (q,s)=>qO L ((l.zip (gy ts (p+t.sz))).map fun q:Str×Nat=>(q.1,(q.2:Int))) (acc++[(w,q)]) s|none=>none)=_
  rw[h1]
  exact h2
theorem Bo {sc:Sc} {th:Int}:∀{ts:List Tr} {p pp pw:Nat} {s:Ls},Pls G ts p pp pw [] sc d->wTs ts [] (val sc) pw<=f->HS sc d s->∃s',sT L th ((gy ts p).map fun p:Nat=>(p:Int)) s=some s'/\nS s'<=nS s+ 10*wTs ts [] (val sc) pw/\Gr s s'
 |[],p,pp,pw,s,_,_,_=>⟨s,rfl,by lia,Gr.refl _⟩
 |t::ts,p,pp,pw,s,h,hw,hs=>by
  have ew:wTs (t::ts) [] (val sc) pw=wT t (val sc)+wTs ts [] (val sc) (wT t (val sc)):=by rw[wTs];rfl
  rw[ew]at hw⊢
  obtain⟨q,s1,h1,n1,g1⟩:=K t p sc s h.1 (by lia) hs
  obtain⟨s2,h2,n2,g2⟩:=Bo (th:=th) (s:=s1.fl q th) h.2 (show wTs ts [] (val sc) (wT t (val sc))<=f by lia) ((hs.gr g1).eq rfl rfl)
  have n2:nS s2<=nS (s1.fl q th)+ 10*wTs ts [] (val sc) (wT t (val sc)):=n2
  rw[va]at n2
  refine⟨s2,?_,by lia,(g1.trans (Gr.eq rfl rfl)).trans g2⟩
  show(match L (p:Int) s with|some (q,s)=>sT L th ((gy ts (p+t.sz)).map fun p:Nat=>(p:Int)) (s.fl q th)|none=>none)=_
  rw[h1]
  exact h2
theorem Bp {sc:Sc} {p0 own:Int}:∀{ts:List Tr} {l:List (Str×Str)} {p pp pw:Nat} {acc:List (Str×Int)} {s:Ls},ts.length=l.length->Pls G ts p pp pw (l.map fun a=>some (a.2,"arm")) sc d->wTs ts (l.map fun a=>some (a.2,"arm")) (val sc) pw<=f->HS sc d s->∃fs s',vH L p0 own ((l.zip (gy ts p)).map fun q=>(q.1.1,q.1.2,(q.2:Int))) acc s=some (fs,s')/\nS s'<=nS s+ 10*wTs ts (l.map fun a=>some (a.2,"arm")) (val sc) pw/\Gr s s'
 |[],l,p,pp,pw,acc,s,_,_,_,_=>⟨acc,s,by cases l<;>rfl,by lia,Gr.refl _⟩
 |t::ts,[],p,pp,pw,acc,s,e,_,_,_=>by cases e
 |t::ts,w::l,p,pp,pw,acc,s,e,h,hw,hs=>by
  have ew:wTs (t::ts) ((w::l).map fun a=>some (a.2,"arm")) (val sc) pw=wT t (upE (val sc) (some (w.2,"arm")) pw)+wTs ts (l.map fun a=>some (a.2,"arm")) (val sc) (wT t (upE (val sc) (some (w.2,"arm")) pw)):=by rw[wTs];rfl
  rw[ew]at hw⊢
  have hh:Pl G t p (exS sc (some (w.2,"arm")) p pp pw) d:=h.1
  have K1:=K t p _ ((s.pt p0).hold p s.n) hh
  rw[y8]at K1
  obtain⟨q,s1,h1,n1,g1⟩:=K1 (by lia) ((hs.eq (s':=s.pt p0) rfl rfl).bind w.2 "arm" p pp pw s.n)
  rw[Et,oE]at n1
  have g1:=(Gr.eq (s':=s.pt p0) (s:=s) rfl rfl).trans ((Gr.ho (s.pt p0) p s.n).trans g1)
  obtain⟨fs,s2,h2,n2,g2⟩:=Bp (l:=l) (acc:=acc++[(w.1,s.n)]) (p0:=p0) (own:=own) (s:=s1.fl q own) (by simpa using e) h.2 (show wTs ts (l.map fun a=>some (a.2,"arm")) (val sc) (wT t (upE (val sc) (some (w.2,"arm")) pw))<=f by lia) ((hs.gr g1).eq rfl rfl)
  have n2:nS s2<=nS (s1.fl q own)+ 10*wTs ts (l.map fun a=>some (a.2,"arm")) (val sc) (wT t (upE (val sc) (some (w.2,"arm")) pw)):=n2
  rw[va]at n2
  refine⟨fs,s2,?_,by lia,(g1.trans (Gr.eq rfl rfl)).trans g2⟩
  show(match L (p:Int) ((s.pt p0).hold p s.n)with|some (q,s')=>vH L p0 own ((l.zip (gy ts (p+t.sz))).map fun q:(Str×Str)×Nat=>(q.1.1,q.1.2,(q.2:Int))) (acc++[(w.1,s.n)]) (s'.fl q own)|none=>none)=_
  rw[h1]
  exact h2
end
open TM.Internal (Kn Tr gy szs)
section
variable {G:List Pc} {f d:Nat} {L:Lf}
theorem ue (κ:Kn) (ks:List Tr) (e:Str->Nat):wT (.mk κ ks) e=1+nmW κ e+wTs ks (exN κ) e 0:=by rw[wT]
theorem kJ (xs:List Ex) (e:Str->Nat) (pw:Nat):wTs [] xs e pw=0:=by rw[wTs]
theorem iZ (t:Tr) (ts:List Tr) (xs:List Ex) (e:Str->Nat) (pw:Nat):wTs (t::ts) xs e pw=wT t (upE e (hdX xs) pw)+wTs ts xs.tail e (wT t (upE e (hdX xs) pw)):=by rw[wTs]
variable (K:Kd1 G f d L)
include K
theorem vW {sc:Sc} {a:Tr} {p pp pw:Nat} {s:Ls} (h:Pls G [a] p pp pw [] sc d) (hw:wTs [a] [] (val sc) pw<=f) (hs:HS sc d s):∃q s',L (p:Int) s=some (q,s')/\nS s'+ 2<=nS s+ 10*wTs [a] [] (val sc) pw/\Gr s s':=by
 rw[iZ,kJ]at hw⊢
 exact K a p sc s h.1 hw hs
theorem rC {sc:Sc} {a b:Tr} {p pp pw:Nat} {s:Ls} (h:Pls G [a,b] p pp pw [] sc d) (hw:wTs [a,b] [] (val sc) pw<=f) (hs:HS sc d s):∃q s1 r s',L (p:Int) s=some (q,s1)/\L ((p+a.sz:Nat):Int) s1=some (r,s')/\nS s'+ 4<=nS s+ 10*wTs [a,b] [] (val sc) pw/\Gr s s':=by
 rw[iZ]at hw⊢
 obtain⟨q,s1,h1,n1,g1⟩:=K a p sc s h.1 (by have:wT a (upE (val sc) none pw)=wT a (val sc):=rfl;change wT a (val sc)+_<=f at hw;lia) hs
 obtain⟨r,s2,h2,n2,g2⟩:=vW K (s:=s1) h.2 (by change wT a (val sc)+wTs [b] [] (val sc) (wT a (val sc))<=f at hw;change wTs [b] [] (val sc) (wT a (val sc))<=f;lia) (hs.gr g1)
 refine⟨q,s1,r,s2,h1,h2,?_,g1.trans g2⟩
 change _<=nS s+ 10*(wT a (val sc)+wTs [b] [] (val sc) (wT a (val sc)))
 change nS s2+ 2<=nS s1+ 10*wTs [b] [] (val sc) (wT a (val sc))at n2
 lia
theorem Ap {sc:Sc} {a b c:Tr} {p pp pw:Nat} {s:Ls} (h:Pls G [a,b,c] p pp pw [] sc d) (hw:wTs [a,b,c] [] (val sc) pw<=f) (hs:HS sc d s):∃q s1 r s2 u s',L (p:Int) s=some (q,s1)/\L ((p+a.sz:Nat):Int) s1=some (r,s2)/\L ((p+a.sz+b.sz:Nat):Int) s2=some (u,s')/\nS s'+ 6<=nS s+ 10*wTs [a,b,c] [] (val sc) pw/\Gr s s':=by
 rw[iZ]at hw⊢
 obtain⟨q,s1,h1,n1,g1⟩:=K a p sc s h.1 (by change wT a (val sc)+_<=f at hw;lia) hs
 obtain⟨r,s2,u,s3,h2,h3,n2,g2⟩:=rC K (s:=s1) h.2 (by change wT a (val sc)+wTs [b,c] [] (val sc) (wT a (val sc))<=f at hw;change wTs [b,c] [] (val sc) (wT a (val sc))<=f;lia) (hs.gr g1)
 refine⟨q,s1,r,s2,u,s3,h1,h2,h3,?_,g1.trans g2⟩
 change _<=nS s+ 10*(wT a (val sc)+wTs [b,c] [] (val sc) (wT a (val sc)))
 change nS s3+ 4<=nS s1+ 10*wTs [b,c] [] (val sc) (wT a (val sc))at n2
 lia
theorem CD {roots:List Nat} {h0:Option Hm} {κ:Kn} {ks:List Tr} {i:Nat} {sc:Sc} {own:Int} {s:Ls} {N:Str->Prop} (h:Pls G ks (i+ 1) 0 0 (exN κ) sc d) (ok:okK κ ks.length N) (hw:wTs ks (exN κ) (val sc) 0<=f) (hs:HS sc d s) (nn:∀w,κ≠ .name w):∃s',hX L roots h0 (i:Int) own s (roK κ (gy ks (i+ 1)))=some s'/\nS s'<=nS s+ 7+ 10*wTs ks (exN κ) (val sc) 0/\Gr s s':=by
 cases κ with
 |num n=>exact⟨_,rfl,by rw[pd];lia,Gr.eq rfl rfl⟩
 |name w=>exact absurd rfl (nn w)
 |fn w=>
  match ks,(show ks.length=1 from ok),h,hw with
  |[a],_,h,hw=>
   have ew:wTs [a] (exN (.fn w)) (val sc) 0=wT a (upE (val sc) (some (w,"fn")) 0):=by rw[iZ,kJ];rfl
   rw[ew]at hw⊢
   have K1:=K a (i+ 1) _ ((s.pt i).hold ((i+ 1:Nat):Int) s.n) (show Pl G a (i+ 1) (exS sc (some (w,"fn")) (i+ 1) 0 0) d from h.1)
   rw[y8]at K1
   obtain⟨q,s1,h1,n1,g1⟩:=K1 hw ((hs.eq (s':=s.pt i) rfl rfl).bind w "fn" (i+ 1) 0 0 s.n)
   rw[Et,oE]at n1
   refine⟨s1.mk' ⟨"fn",.tup [kD s.n,kD q],own,i⟩,?_,by rw[pd];lia,((Gr.eq (s':=s.pt i) (s:=s) rfl rfl).trans ((Gr.ho (s.pt i) ((i+ 1:Nat):Int) s.n).trans g1)).trans (Gr.eq rfl rfl)⟩
   show hX L roots h0 (i:Int) own s (.fn w ((i+ 1:Nat):Int))=_
   simp only[hX,h1]
 |tag w=>
  match ks,(show ks.length=1 from ok),h,hw with
  |[a],_,h,hw=>
   obtain⟨q,s1,h1,n1,g1⟩:=vW K h hw hs
   have n1:nS s1+ 2<=nS s+ 10*wTs [a] (exN (.tag w)) (val sc) 0:=n1
   refine⟨s1.mk' ⟨"tag",.tup [sD w,kD q],own,i⟩,?_,by rw[pd];lia,g1.trans (Gr.eq rfl rfl)⟩
   show hX L roots h0 (i:Int) own s (.tag w ((i+ 1:Nat):Int))=_
   simp only[hX,h1]
 |get w=>
  match ks,(show ks.length=1 from ok),h,hw with
  |[a],_,h,hw=>
   obtain⟨q,s1,h1,n1,g1⟩:=vW K h hw hs
   have n1:nS s1+ 2<=nS s+ 10*wTs [a] (exN (.get w)) (val sc) 0:=n1
   refine⟨s1.us (.take q i 0 [(w,own)]),?_,by rw[nJ];lia,g1.trans (Gr.eq rfl rfl)⟩
   show hX L roots h0 (i:Int) own s (.get ((i+ 1:Nat):Int) w)=_
   simp only[hX,h1]
 |lt w=>
  match ks,(show ks.length=2 from ok),h,hw with
  |[a,b],_,h,hw=>
   have ew:wTs [a,b] (exN (.lt w)) (val sc) 0=wT a (val sc)+wT b (upE (val sc) (some (w,"let")) (wT a (val sc))):=by rw[iZ,iZ,kJ];rfl
   rw[ew]at hw⊢
   obtain⟨x,s1,h1,n1,g1⟩:=K a (i+ 1) sc s h.1 (by lia) hs
   have K1:=K b (i+ 1+a.sz) _ s1 (show Pl G b (i+ 1+a.sz) (exS sc (some (w,"let")) (i+ 1+a.sz) (i+ 1) (wT a (val sc))) d from h.2.1)
   rw[y8]at K1
   obtain⟨q,s2,h2,n2,g2⟩:=K1 (by lia) ((hs.gr g1).lt w _ _ _)
   refine⟨s2.fl q own,?_,by rw[va];lia,(g1.trans g2).trans (Gr.eq rfl rfl)⟩
   show hX L roots h0 (i:Int) own s (.lt w ((i+ 1:Nat):Int) ((i+ 1+a.sz:Nat):Int))=_
   simp only[hX,h1,h2]
 |rcd l=>
  obtain⟨fs,s1,h1,n1,g1⟩:=Bn K (l:=l) (acc:=[]) h hw hs
  have n1:nS s1<=nS s+ 10*wTs ks (exN (.rcd l)) (val sc) 0:=n1
  refine⟨s1.mk' ⟨"rec",prD fs,own,i⟩,?_,by rw[pd];lia,g1.trans (Gr.eq rfl rfl)⟩
  show hX L roots h0 (i:Int) own s (.rcd _)=_
  simp only[hX,h1]
 |row m=>
  obtain⟨s1,h1,n1,g1⟩:=Bo K (th:=s.n) (s:=s.pt i) h hw (hs.eq rfl rfl)
  have n1:nS s1<=nS (s.pt i)+ 10*wTs ks (exN (.row m)) (val sc) 0:=n1
  rw[oE]at n1
  refine⟨s1.mk' (mkR s.n own i),?_,by rw[pd];lia,(Gr.eq (s':=s.pt i) (s:=s) rfl rfl).trans (g1.trans (Gr.eq rfl rfl))⟩
  show hX L roots h0 (i:Int) own s (.row _)=_
  simp only[hX,h1]
 |case l=>
  match ks,ok,h,hw with
  |[],ok,_,_=>exact absurd ok.1 (by simp)
  |a::bs,ok,h,hw=>
   have lb:bs.length=l.length:=by have:=ok.1;simpa using this
   have ew:wTs (a::bs) (exN (.case l)) (val sc) 0=wT a (val sc)+wTs bs (l.map fun a=>some (a.2,"arm")) (val sc) (wT a (val sc)):=by rw[iZ];rfl
   rw[ew]at hw⊢
   obtain⟨x,s1,h1,n1,g1⟩:=K a (i+ 1) sc s h.1 (by lia) hs
   obtain⟨fs,s2,h2,n2,g2⟩:=Bp K (l:=l) (acc:=[]) (p0:=(i:Int)) (own:=own) (s:=s1) (pw:=wT a (val sc)) lb h.2 (by lia) (hs.gr g1)
   refine⟨s2.us (.case x i 0 fs),?_,by rw[nJ];lia,(g1.trans g2).trans (Gr.eq rfl rfl)⟩
   show hX L roots h0 (i:Int) own s (.case ((i+ 1:Nat):Int) _)=_
   simp only[hX,h1,h2]
 |op o m=>
  obtain⟨lk,ho⟩:ks.length=m/\(o,m)∈TM.Internal.ops:=ok
  have ex:exN (.op o m)=[]:=rfl
  rw[ex]at h hw⊢
  have gp:Gr s (s.pt i):=Gr.eq rfl rfl
  have hsp:HS sc d (s.pt i):=hs.eq rfl rfl
  simp only[TM.Internal.ops,ai,Prod.mk.injEq,bf,or_false]at ho
  rcases ho with⟨rfl,rfl⟩|⟨rfl,rfl⟩|⟨rfl,rfl⟩|⟨rfl,rfl⟩|⟨rfl,rfl⟩|⟨rfl,rfl⟩|⟨rfl,rfl⟩
  ·match ks,lk,h,hw with
   |[a,b],_,h,hw=>
    obtain⟨x,s1,y,s2,h1,h2,n2,g2⟩:=rC K h hw hs
    exact⟨s2.us (.call x i 0 y own),(by show hX L roots h0 (i:Int) own s (.op "call" [((i+ 1:Nat):Int),((i+ 1+a.sz:Nat):Int)])=_;unfold hX;dsimp only;rw[fY rfl];simp only[h1,h2]),by rw[nJ];lia,g2.trans (Gr.eq rfl rfl)⟩
  ·match ks,lk,h,hw with
   |[a,b,c],_,h,hw=>
    obtain⟨x,s1,y,s2,z,s3,h1,h2,h3,n2,g2⟩:=Ap K h hw hs
    exact⟨((s3.us (.row x i 0 own)).us (.num y i 1)).fl z own,(by show hX L roots h0 (i:Int) own s (.op "at" [((i+ 1:Nat):Int),((i+ 1+a.sz:Nat):Int),((i+ 1+a.sz+b.sz:Nat):Int)])=_;unfold hX;dsimp only;rw[fY rfl];simp only[h1,h2,h3]),by rw[va,nJ,nJ];lia,g2.trans (Gr.eq rfl rfl)⟩
  ·match ks,lk,h,hw with
   |[a,b],_,h,hw=>
    obtain⟨x,s1,y,s2,h1,h2,n2,g2⟩:=rC K h hw hsp
    rw[oE]at n2
    exact⟨((s2.us (.row x i 0 s.n)).us (.row y i 1 s.n)).mk' (mkR s.n own i),(by show hX L roots h0 (i:Int) own s (.op "join" [((i+ 1:Nat):Int),((i+ 1+a.sz:Nat):Int)])=_;unfold hX;dsimp only;rw[fJ fo,fY rfl];simp only[h1,h2]),by rw[pd,nJ,nJ];lia,gp.trans (g2.trans (Gr.eq rfl rfl))⟩
  ·match ks,lk,h,hw with
   |[a],_,h,hw=>
    obtain⟨x,s1,h1,n2,g2⟩:=vW K h hw hsp
    rw[oE]at n2
    exact⟨(s1.us (.row x i 0 s.n)).mk' (mkN own i),(by show hX L roots h0 (i:Int) own s (.op "size" [((i+ 1:Nat):Int)])=_;unfold hX;dsimp only;rw[fY rfl];simp only[h1]),by rw[pd,nJ];lia,gp.trans (g2.trans (Gr.eq rfl rfl))⟩
  ·match ks,lk,h,hw with
   |[a,b],_,h,hw=>
    obtain⟨x,s1,y,s2,h1,h2,n2,g2⟩:=rC K h hw hs
    exact⟨((s2.us (.num x i 0)).us (.num y i 1)).mk' (mkN own i),(by show hX L roots h0 (i:Int) own s (.op "add" [((i+ 1:Nat):Int),((i+ 1+a.sz:Nat):Int)])=_;unfold hX;dsimp only;rw[fJ fo,fJ fo,fJ fo,fY (.inl rfl)];simp only[jQ,h1,h2]),by rw[pd,nJ,nJ];lia,g2.trans (Gr.eq rfl rfl)⟩
  ·match ks,lk,h,hw with
   |[a,b],_,h,hw=>
    obtain⟨x,s1,y,s2,h1,h2,n2,g2⟩:=rC K h hw hs
    exact⟨((s2.us (.num x i 0)).us (.num y i 1)).mk' (mkN own i),(by show hX L roots h0 (i:Int) own s (.op "sub" [((i+ 1:Nat):Int),((i+ 1+a.sz:Nat):Int)])=_;unfold hX;dsimp only;rw[fJ fo,fJ fo,fJ fo,fY (.inr rfl)];simp only[jQ,h1,h2]),by rw[pd,nJ,nJ];lia,g2.trans (Gr.eq rfl rfl)⟩
  ·match ks,lk,h,hw with
   |[a,b],_,h,hw=>
    obtain⟨x,s1,y,s2,h1,h2,n2,g2⟩:=rC K h hw hsp
    rw[oE]at n2
    exact⟨((((s2.us (.num x i 0)).us (.num y i 1)).mk' ⟨"rec",.tup [],s.n,i⟩).mk' ⟨"tag",.tup [sD "yes",kD s.n],own,i⟩).mk' ⟨"tag",.tup [sD "no",kD s.n],own,i⟩,(by show hX L roots h0 (i:Int) own s (.op "less" [((i+ 1:Nat):Int),((i+ 1+a.sz:Nat):Int)])=_;unfold hX;dsimp only;rw[fJ fo,fJ fo,fY rfl];simp only[jQ,h1,h2]),by rw[pd,pd,pd,nJ,nJ];lia,gp.trans (g2.trans (Gr.eq rfl rfl))⟩
end
theorem Br {G:List Pc} {roots:List Nat} {q:Nat} {ts:List Tr} (er:roots=gy ts 0) (F:FtD G roots 0 0 q) (hq:q=G.length):∀(f:Nat) (i:Nat) (c:Pc) (s:Ls),G[i]?=some c->c.wt<=f->HS c.sc c.df s->∃r s',jK (G.map Pc.ρ) roots (hoG G) f (i:Int) s=some (r,s')/\nS s'+ 2<=nS s+ 10*c.wt/\Gr s s'
 |0,i,c,s,hc,hw,_=>by
  obtain⟨⟨⟨κ,ks⟩,_,_,e,_⟩,_⟩:=(F.at hq hc).1
  rw[ue]at e
  lia
 |f+ 1,i,c,s,hc,hw,hs=>by
  have IH:=Br er F hq f
  obtain⟨ft,_,li,ra,rb⟩:=F.at hq hc
  obtain⟨⟨κ,ks⟩,pl,_,e,ok⟩:=ft.t
  rw[ue]at e
  have p1:=pl.1
  rw[hc]at p1
  have eρ:c.ρ=roK κ (gy ks (i+ 1)):=by rw[cf.inj p1]
  have ez:atZ (G.map Pc.ρ) (i:Int)=some c.ρ:=by show(G.map Pc.ρ)[i]?=_;rw[aI,hc];rfl
  have key:∃s',hX (jK (G.map Pc.ρ) roots (hoG G) f) roots (hoG G i) (i:Int) s.n (s.pt i) c.ρ=some s'/\nS s'+ 2<=nS s+ 10*c.wt/\Gr s s':=by
   have K:Kd1 G f c.df (jK (G.map Pc.ρ) roots (hoG G) f):=fun t n sc s h w z=>by
    obtain⟨ρ,g⟩:=h.at
    exact IH n _ s g w z
   by_cases nn:∃w,κ= .name w
   ·obtain⟨w,rfl⟩:=nn
    have eρ:c.ρ= .name w:=eρ
    obtain⟨x,hx⟩:Nm c.sc w:=ok.1.2
    have eh:hoG G i=some x.h:=by unfold hoG;rw[hc];show hoC c=_;unfold hoC;rw[eρ];dsimp only;rw[hx];rfl
    have ev:nmW (.name w) (val c.sc)=x.v:=by show val c.sc w=_;unfold val;rw[hx]
    rw[ev]at e
    have xm:=(y6 hx).1
    have hsp:HS c.sc c.df (s.pt i):=hs.eq rfl rfl
    have m:∃r s',iW (jK (G.map Pc.ρ) roots (hoG G) f) roots x.h (i:Int) (s.pt i)=some (r,s')/\nS s'<=nS s+ 3+ 10*x.v/\Gr s s':=by
     unfold iW
     rcases ft.s x xm with⟨z,a,ca,e2,ga,l1,l2,l3,l4,l5⟩|⟨z,j,ej,lj,hj⟩|⟨z,a,ca,e2,_⟩
     ·rw[fY z,e2]
      obtain⟨r,s',h1,n1,g1⟩:=IH a ca (s.pt i) ga (by lia) ⟨fun b hb=>hsp.1 b (l5 b hb),by rw[l3];exact hsp.2⟩
      rw[oE]at n1
      exact⟨r,s',h1,by lia,(Gr.eq (s':=s.pt i) (s:=s) rfl rfl).trans g1⟩
     ·rw[fJ (dfn z).1,fY z,ej]
      by_cases y:j=c.df
      ·rw[fY ((sE er li ra rb lj).mpr y),y]
       obtain⟨v,hv⟩:=hsp.2
       rw[hv]
       exact⟨v,s.pt i,rfl,by rw[oE];lia,Gr.eq rfl rfl⟩
      ·rw[fJ (fun u=>y ((sE er li ra rb lj).mp u))]
       obtain⟨r,cr,r1,r2,r3,r4,r5,r6,r7⟩:=hj (by lia)
       obtain⟨u,s',h1,n1,g1⟩:=IH r cr (((s.pt i).pt r).begin j (s.pt i).n) r2 (by lia) ⟨fun b hb=>absurd hb (r7 b),(s.pt i).n,by rw[r3];exact fY rfl⟩
       rw[Eu,oE,oE]at n1
       refine⟨(s.pt i).n,s'.fl u (s.pt i).n,?_,by rw[va];lia,?_⟩
       ·unfold wV
        rw[show atZ roots (j:Int)=roots[j]? from rfl,r1]
        dsimp only
        rw[h1]
       ·exact(Gr.eq (s':=(s.pt i).pt r) (s:=s) rfl rfl).trans ((Gr.be _ j (s.pt i).n).trans (g1.trans (Gr.eq rfl rfl)))
     ·have z1:x.h.1≠"let":=fun u=>by rcases z with z|z;exact(ltn u).2.1 z;exact(ltn u).2.2 z
      have z2:x.h.1≠"def":=fun u=>by rcases z with z|z;exact(dfn u).2.1 z;exact(dfn u).2.2 z
      rw[fJ z1,fJ z2]
      obtain⟨v,hv⟩:=hsp.1 x.h.2 ⟨x,xm,z,rfl⟩
      rw[hv]
      exact⟨v,s.pt i,rfl,by rw[oE];lia,Gr.eq rfl rfl⟩
    obtain⟨r,s',h1,n1,g1⟩:=m
    refine⟨s'.fl r s.n,?_,by rw[va];lia,g1.trans (Gr.eq rfl rfl)⟩
    rw[eρ,eh]
    simp only[hX,h1]
   ·have e0:nmW κ (val c.sc)=0:=by
     cases κ with
     |name w=>exact absurd ⟨w,rfl⟩ nn
     |_=>rfl
    obtain⟨s',h1,n1,g1⟩:=CD (own:=s.n) (s:=s.pt i) (roots:=roots) (h0:=hoG G i) K pl.2 ok.1 (by lia) (hs.eq rfl rfl) (fun w h=>nn ⟨w,h⟩)
    rw[oE]at n1
    exact⟨s',by rw[eρ];exact h1,by lia,(Gr.eq (s':=s.pt i) (s:=s) rfl rfl).trans g1⟩
  obtain⟨s',h1,n1,g1⟩:=key
  refine⟨s.n,s',?_,n1,g1⟩
  unfold jK
  rw[ez]
  dsimp only
  rw[show((i:Int)).toNat=i from rfl,h1]
open TM.Internal (Kn Tr gy szs)
def wsD:Kn->List Dt
 | .num n=>[kD n]
 | .name w=>[sD w]
 | .fn w=>[sD w]
 | .tag w=>[sD w]
 | .lt w=>[sD w]
 | .get w=>[sD w]
 | .rcd l=>l.map sD
 | .case l=>l.flatMap fun a=>[sD a.1,sD a.2]
 |_=>[]
mutual
def ndD:Tr->Dt
 | .mk κ ks=> .tup [sD κ.s,.tup (wsD κ),.tup (Aq ks)]
def Aq:List Tr->List Dt
 |[]=>[]
 |t::ts=>ndD t::Aq ts
end
theorem zc:∀{ts:List Tr} {k:Nat} {d:Dt},(Aq ts)[k]?=some d->∃t,ts[k]?=some t/\d=ndD t
 |[],_,_,h=>by cases h
 |t::ts,0,d,h=>by cases h;exact⟨t,rfl,rfl⟩
 |t::ts,k+ 1,d,h=>zc (ts:=ts) (k:=k) h
theorem sF:∀ts:List Tr,(Aq ts).length=ts.length
 |[]=>rfl
 |t::ts=>by rw[Aq,ax,sF ts,ax]
def enD (e:En):Dt:= .tup [sD e.w,hmD e.h]
theorem uf {H:Hp} {x:V} {κ:Kn} {ks:List Tr} (h:Im H x (ndD (.mk κ ks))):∃a b c xs ys,x= .ref a/\H a=some (.tup [.str κ.s,.ref b,.ref c])/\H b=some (.tup xs)/\Ims H xs (wsD κ)/\H c=some (.tup ys)/\Ims H ys (Aq ks):=by
 rw[ndD]at h
 obtain⟨a,zs,rfl,e,i⟩:=mf h
 obtain⟨x,y,z,rfl,i1,i2,i3⟩:=Eb i
 cases jz i1
 obtain⟨b,xs,rfl,eb,ib⟩:=mf i2
 obtain⟨c,ys,rfl,ec,ic⟩:=mf i3
 exact⟨a,b,c,xs,ys,rfl,e,eb,ib,ec,ic⟩
theorem Ge {H:Hp} {xs:List V} {sc:Sc} {i:Nat} {v:V} (h:Ims H xs (sc.map enD)) (e:xs[i]?=some v):∃p t y,sc[i]?=some p/\v= .ref t/\H t=some (.tup [.str p.w,y])/\Im H y (hmD p.h):=by
 obtain⟨d,e1,e2⟩:=jy h e
 rw[aI]at e1
 obtain⟨p,hp,rfl⟩:=cm.mp e1
 obtain⟨t,y,z,rfl,et,i1,i2⟩:=sv e2
 cases jz i1
 exact⟨p,t,z,hp,rfl,et,i2⟩
inductive XHo (vs:List V) (H:Hp) (Q:VK):Prop
 |mk (l:Addr) (w:Str) (xs:List V) (sc:Sc) (e:vs=[.ref l,.str w]) (hl:H l=some (.lst xs)) (i:Ims H xs (sc.map enD)) (q:∀v,Im H v (hoD ((lkE sc w).map En.h))->Q v H)
def Ew:Sp:=fun vs H Q _=>XHo vs H Q
theorem vX {sc:Sc} {i:Nat} {p:En} {w:Str} (h:sc[i]?=some p):lkE (sc.take (i+ 1)) w=if p.w=w then some p else lkE (sc.take i) w:=by
 rw[bH,h]
 exact kI _ _ _
def exL (x:Ex) (p pp pw:Nat):List En:=match x with
 |none=>[]
 |some (w,k)=>[if k="let" then⟨w,("let",(pp:Int)),pw⟩else⟨w,(k,(p:Int)),0⟩]
theorem CF (sc:Sc) (x:Ex) (p pp pw:Nat):exS sc x p pp pw=sc++exL x p pp pw:=by
 cases x with
 |none=>exact(aB _).symm
 |some z=>rfl
inductive XSc (vs:List V) (H:Hp) (Q:VK):Prop
 |mk (n:V) (κ:Kn) (ks:List Tr) (k:Nat) (l:Addr) (ps:List Nat) (p pp pw:Nat) (N:Str->Prop) (e:vs=[n,.int (k:Int),.ref l]) (i:Im H n (ndD (.mk κ ks))) (hk:k<ks.length) (ok:okK κ ks.length N) (hl:H l=some (.lst (ps.map nI))) (hp:ps[k]?=some p) (hpp:∀j,j+ 1=k->ps[j]?=some pp) (q:∀H' a xs,fG H H'->H' a=some (.lst xs)->H a=none->Ims H' xs ((exL ((exN κ)[k]?.getD none) p pp pw).map enD)->Q (.ref a) H')
def Gf:Sp:=fun vs H Q _=>XSc vs H Q
theorem sG:∀{l:List (Str×Str)} {k:Nat} {a:Str×Str},l[k]?=some a->(l.flatMap fun a=>[sD a.1,sD a.2])[2*k]?=some (sD a.1)/\(l.flatMap fun a=>[sD a.1,sD a.2])[2*k+ 1]?=some (sD a.2)
 |[],_,_,h=>by cases h
 |b::l,0,a,h=>by cases h;exact⟨rfl,rfl⟩
 |b::l,k+ 1,a,h=>by
  have:=sG (l:=l) (k:=k) h
  rw[List.flatMap_cons]
  exact⟨by rw[show 2*(k+ 1)=2*k+ 1+ 1 by lia];exact this.1,by rw[show 2*(k+ 1)+ 1=2*k+ 1+ 1+ 1 by lia];exact this.2⟩
theorem ug {H:Hp} {xs:List V} {ds:List Dt} {j:Nat} {d:Dt} (h:Ims H xs ds) (e:ds[j]?=some d):∃x,xs[j]?=some x/\Im H x d:=by
 have l:=h.length
 have lj:=(ao.mp e).1
 have ex:xs[j]?=some (xs[j]'(by lia)):=aZ (by lia)
 obtain⟨d',e1,e2⟩:=jy h ex
 rw[e]at e1
 cases e1
 exact⟨_,ex,e2⟩
theorem Gg {κ:Kn} {n:Nat} {N:Str->Prop} (ok:okK κ n N):(κ.s="fn"->∃w,κ= .fn w)/\(κ.s="let"->∃w,κ= .lt w)/\(κ.s="case"->∃l,κ= .case l)/\(κ.s="name"->∃w,κ= .name w)/\(κ.s="get"->∃w,κ= .get w)/\(κ.s="rec"->∃l,κ= .rcd l)/\(κ.s="row"->∃m,κ= .row m):=by
 cases κ with
 |op o m=>
  have ho:(o,m)∈TM.Internal.ops:=ok.2
  simp only[TM.Internal.ops,ai,Prod.mk.injEq,bf,or_false]at ho
  simp only[Kn.s]
  rcases ho with⟨rfl,rfl⟩|⟨rfl,rfl⟩|⟨rfl,rfl⟩|⟨rfl,rfl⟩|⟨rfl,rfl⟩|⟨rfl,rfl⟩|⟨rfl,rfl⟩<;>refine⟨fun h=>?_,fun h=>?_,fun h=>?_,fun h=>?_,fun h=>?_,fun h=>?_,fun h=>?_⟩<;>exact absurd h fo
 |_=>
  simp only[Kn.s]
  refine⟨fun h=>?_,fun h=>?_,fun h=>?_,fun h=>?_,fun h=>?_,fun h=>?_,fun h=>?_⟩<;>first
   |exact⟨_,rfl⟩
   |exact absurd h fo
theorem zd {i:Nat} {x s:Str} {t:Addr} {ys:List V} {σ:St} {H:Hp} {c:TT} {T u:TS} {D:mh} (hσ:σ[i]?=some (some (.ref t))) (et:H t=some (.tup (.str s::ys))) (e:decide (s=x)=false) (h:u D σ H):rM (EU (hdT i x) c) T u D σ H:=vK hσ et e (jP (jP h))
theorem ze {i:Nat} {x s:Str} {t:Addr} {ys:List V} {σ:St} {H:Hp} {c:TT} {T u:TS} {D:mh} (hσ:σ[i]?=some (some (.ref t))) (et:H t=some (.tup (.str s::ys))) (e:decide (s=x)=true) (h:rM c T u D σ H):rM (EU (hdT i x) c) T u D σ H:=vK hσ et e (kj h)
theorem rE {i:Nat} {n m:Int} {σ:St} {H:Hp} {T u:TS} {D:mh} (hσ:σ[i]?=some (some (.int n))) (e:n=m) (h:T D σ H):rM (cT (tOp (cEq false) (cV i) (tC (.int m)))) T u D σ H:=by
 show onV σ[i]? _
 rw[hσ]
 show if(false ^^ decide (n=m))=true then _ else _
 rw[gM e]
 exact kj h
theorem rF {i:Nat} {n m:Int} {σ:St} {H:Hp} {T u:TS} {D:mh} (hσ:σ[i]?=some (some (.int n))) (e:n≠m) (h:u D σ H):rM (cT (tOp (cEq false) (cV i) (tC (.int m)))) T u D σ H:=by
 show onV σ[i]? _
 rw[hσ]
 show if(false ^^ decide (n=m))=true then _ else _
 rw[gk e]
 exact jP h
theorem ifG {i:Nat} {n m:Int} {σ:St} {H:Hp} {T u:TS} {D:mh} (hσ:σ[i]?=some (some (.int n))) (h:if m<n then T D σ H else u D σ H):rM (cT (tOp (cI0 fun i j=> .bl (decide (j<i))) (cV i) (tC (.int m)))) T u D σ H:=by
 show onV σ[i]? _
 rw[hσ]
 show if decide (m<n)=true then _ else _
 by_cases e:m<n
 ·rw[gM e];rw[fY e]at h;exact kj h
 ·rw[gk e];rw[fJ e]at h;exact jP h
theorem uh (T:Txt K mg):FO P w base 1 T.d42 Ew:=by
 refine T.d42.F.ok jR (fun vs H Q E h=>?_) (fun cdv A0 outer s0 H vs Q E hr h=>?_)
 ·obtain⟨l,w,xs,sc,rfl,_⟩:=h
  rfl
 obtain⟨l,w',xs,sc,rfl,hl,i,q⟩:=h
 refine⟨_,(eJ (pS (i:=2) jR.nd xt)
  (eJ (jb PassesOwn.never rfl (kP (cv 0)) (pN (i:=3) jR.nd)
   (eO (fV (fg gQ (eU fc (cv 3) eK) (cv 1))
    (eO (pS (i:=2) jR.nd (eU fc (cv 3) eK)))
    fF)))
  (eO (fm (cv 2))))),?_⟩
 dsimp only[fu]
 have lx:=i.length
 rw[aA]at lx
 refine⟨l,rfl,⟨_,SqL.of hl⟩,rN (xs:=xs) (fun k σ H2=>X2 fun(v:V) (o3:Option V)=>Y3 (σ=[some (.ref l),some (.str w'),some v,o3]) (H2=H) (Im H v (hoD ((lkE (sc.take k) w').map En.h))))
  ⟨.non,none,rfl,rfl,.flat rfl⟩ (fun k σ H2 _ ⟨_,_,_,e,_⟩=>SqL.of (by rw[e];exact hl)) ?_ ?_⟩
 ·rintro k x σ H2 hx ⟨v,o3,rfl,rfl,iv⟩
  obtain⟨p,t,y,hp,rfl,et,iy⟩:=Ge i hx
  dsimp only[fu]
  refine⟨_,et,eP (eM (j:=0) rfl) ?_⟩
  show if(false ^^ decide (p.w=w'))=true then _ else _
  rw[dO]
  by_cases e:p.w=w'
  ·rw[gM e]
   refine kj ⟨_,et,eP (eM (j:=1) rfl) ⟨y,_,rfl,rfl,?_⟩⟩
   rw[vX hp,fY e]
   exact iy
  ·rw[gk e]
   refine jP ⟨v,_,rfl,rfl,?_⟩
   rw[vX hp,fJ e]
   exact iv
 ·rintro σ H2 ⟨v,o3,rfl,rfl,iv⟩
  rw[lx,bI]at iv
  exact q v iv
theorem qR (T:Txt K mg):FO P w base 1 T.d41 Gf:=by
 refine T.d41.F.ok qG (fun vs H Q E h=>?_) (fun cdv A0 outer s0 H vs Q E hr h=>?_)
 ·obtain⟨n,κ,ks,k,l,ps,p,pp,pw,N,rfl,_⟩:=h
  rfl
 obtain⟨n,κ,ks,k,l,ps,p,pp,pw,N,rfl,i,hk,ok,hl,hp,hpp,q⟩:=h
 refine⟨_,(eJ (fV (fg gQ (eU fc (cv 0) eK) eZ)
   (eO (fm (fq (eE (fe (eE (eU fc (eU fc (cv 0) eK) eK) (eE (fe (eE eZ (eE (eU eR (cv 2) eK) eF))) eF))) eF))))
   fF)
  (eJ (fV (PW.pt (sV (fg gQ (eU fc (cv 0) eK) eZ) (rL (fg gQ (cv 1) eK))))
   (eO (fm (fq (eE (fe (eE (eU fc (eU fc (cv 0) eK) eK) (eE (fe (eE eZ (eE (eU eR (cv 2) eK) eF))) eF))) eF))))
   fF)
  (eJ (fV (PW.pt (sV (fg gQ (eU fc (cv 0) eK) eZ) (rL (fg wH (cv 1) eK))))
   (eO (fm (fq (eE (fe (eE (eU fc (eU fc (cv 0) eK) (fC tK (fC pP eK (cv 1)) eK)) (eE (fe (eE eZ (eE (eU eR (cv 2) (cv 1)) eF))) eF))) eF))))
   fF)
  (eO (fm (fq eF)))))),?_⟩
 obtain⟨a,b,c,xs,ys,rfl,ea,eb,ib,ec,ic⟩:=uf i
 have er:∀{j m:Nat},ps[j]?=some m->(ps.map nI)[j]?=some (.int (m:Int)):=fun h=>by rw[aI,h];rfl
 have nn:∀{H2:Hp} {a:Addr},fG H H2->H2 a=none->H a=none:=fun{H2 a} S h=>by cases z:H a with|none=>rfl|some u=>rw[S _ _ z]at h;cases h
 have fin2:∀{H2:Hp} {a:Addr} {v:V},fG H H2->H2 a=none->Ims H2 [v] ((exL ((exN κ)[k]?.getD none) p pp pw).map enD)->Q (.ref a) (L2.Internal.upd H2 a (.lst [v])):=fun{H2 a v} S h i=>q _ a [v] (S.trans (eL h _)) eG (nn S h) (i.mono (fG.tk (eL h _)))
 have fin:∀{H2:Hp} {a:Addr},fG H H2->H2 a=none->exL ((exN κ)[k]?.getD none) p pp pw=[]->Q (.ref a) (L2.Internal.upd H2 a (.lst [])):=fun{H2 a} S h e=>q _ a [] (S.trans (eL h _)) eG (by cases z:H a with|none=>rfl|some u=>rw[S _ _ z]at h;cases h) (by rw[e];exact .nil)
 obtain⟨k1,k2,k3,_⟩:=Gg ok
 by_cases e1:κ.s="fn"
 ·obtain⟨w0,rfl⟩:=k1 e1
  have hk0:k=0:=by have:ks.length=1:=ok;lia
  subst hk0
  obtain⟨x,rfl,ix⟩:=zF ib
  cases jz ix
  refine ij (i:=0) (x:="fn") (s:="fn") rfl ea fo ?_
  refine⟨_,ea,eP (eM (j:=1) rfl) ⟨_,eb,eP (eM (j:=0) rfl) ⟨_,hl,eP (eM (er hp)) ⟨jO,fun t1 h1=>⟨jO,fun t2 h2=>⟨kO,fun t3 h3=>?_⟩⟩⟩⟩⟩⟩
  have S1:=eL h1 (.tup [.str "fn",.int (p:Int)])
  have S2:=eL h2 (.tup [.str w0,.ref t1])
  exact fin2 (S1.trans S2) h3 (.cons (gA h2 (.cons (.flat rfl) (.cons (gA h1 (.cons (.flat rfl) (.cons (.flat rfl) .nil))) .nil))) .nil)
 refine fQ (i:=0) (x:="fn") (s:=κ.s) rfl ea (gk e1) ?_
 dsimp only[ji]
 by_cases e2:κ.s="let"
 ·obtain⟨w0,rfl⟩:=k2 e2
  have lk:ks.length=2:=ok
  obtain⟨x,rfl,ix⟩:=zF ib
  cases jz ix
  by_cases hk0:k=1
  ·subst hk0
   refine ze (i:=0) (x:="let") (s:="let") rfl ea fo ?_
   refine rE (i:=1) (n:=((1:Nat):Int)) rfl rfl ?_
   refine⟨_,ea,eP (eM (j:=1) rfl) ⟨_,eb,eP (eM (j:=0) rfl) ⟨_,hl,eP (eM (er (hpp 0 rfl))) ⟨jO,fun t1 h1=>⟨jO,fun t2 h2=>⟨kO,fun t3 h3=>?_⟩⟩⟩⟩⟩⟩
   have S1:=eL h1 (.tup [.str "let",.int (pp:Int)])
   have S2:=eL h2 (.tup [.str w0,.ref t1])
   exact fin2 (S1.trans S2) h3 (.cons (gA h2 (.cons (.flat rfl) (.cons (gA h1 (.cons (.flat rfl) (.cons (.flat rfl) .nil))) .nil))) .nil)
  ·have hk0:k=0:=by lia
   subst hk0
   refine ze (i:=0) (x:="let") (s:="let") rfl ea fo ?_
   refine rF (i:=1) (n:=((0:Nat):Int)) rfl (by decide) ?_
   dsimp only[ji]
   refine zd (i:=0) (x:="case") (s:="let") rfl ea fo ?_
   exact⟨ki,fun t1 h1=>fin (fun _ _ e=>e) h1 rfl⟩
 refine zd (i:=0) (x:="let") (s:=κ.s) rfl ea (gk e2) ?_
 dsimp only[ji]
 by_cases e3:κ.s="case"
 ·obtain⟨l0,rfl⟩:=k3 e3
  obtain⟨lk,lk2⟩:ks.length=l0.length+ 1/\l0.length<=10:=ok
  refine ze (i:=0) (x:="case") (s:="case") rfl ea fo ?_
  refine ifG (i:=1) (n:=(k:Int)) rfl ?_
  cases k with
  |zero=>
   rw[fJ (by decide)]
   exact⟨ki,fun t1 h1=>fin (fun _ _ e=>e) h1 rfl⟩
  |succ j=>
   rw[fY (by lia)]
   have hj:l0[j]?=some (l0[j]'(by lia)):=aZ (by lia)
   obtain⟨x,ex,ix⟩:=ug ib (sG hj).2
   cases jz ix
   have e5:(2*((j+ 1:Nat):Int)-1)=((2*j+ 1:Nat):Int):=by lia
   refine⟨_,ea,eP (eM (j:=1) rfl) ⟨.inl ⟨by decide,by decide⟩,_,eb,eP (show atI xs (2*((j+ 1:Nat):Int)-1)=_ by rw[e5];exact eM ex) ⟨_,hl,eP (eM (er hp)) ⟨jO,fun t1 h1=>⟨jO,fun t2 h2=>⟨kO,fun t3 h3=>?_⟩⟩⟩⟩⟩⟩
   have S1:=eL h1 (.tup [.str "arm",.int (p:Int)])
   have S2:=eL h2 (.tup [.str (l0[j]'(by lia)).2,.ref t1])
   refine fin2 (S1.trans S2) h3 ?_
   have exx:(exN (.case l0))[j+ 1]?.getD none=some ((l0[j]'(by lia)).2,("arm":Str)):=by
    show((l0.map fun a=>some (a.2,("arm":Str)))[j]?).getD none=_
    rw[aI,hj]
    rfl
   rw[exx]
   exact .cons (gA h2 (.cons (.flat rfl) (.cons (gA h1 (.cons (.flat rfl) (.cons (.flat rfl) .nil))) .nil))) .nil
 refine zd (i:=0) (x:="case") (s:=κ.s) rfl ea (gk e3) ?_
 refine⟨ki,fun t1 h1=>fin (fun _ _ e=>e) h1 ?_⟩
 have ex:exN κ=[]:=by
  cases κ with
  |fn=>exact absurd rfl e1
  |lt=>exact absurd rfl e2
  |case=>exact absurd rfl e3
  |_=>rfl
 rw[ex]
 rfl
open TM.Internal (Kn Tr gy szs)
inductive XRw (vs:List V) (H:Hp) (Q:VK):Prop
 |mk (n:V) (κ:Kn) (ks:List Tr) (l:Addr) (ps:List Nat) (N:Str->Prop) (e:vs=[n,.ref l]) (i:Im H n (ndD (.mk κ ks))) (ok:okK κ ks.length N) (hl:H l=some (.lst (ps.map nI))) (hp:ps.length=ks.length) (q:∀H' v,fG H H'->Im H' v (roK κ ps).d->Q v H')
def Gh:Sp:=fun vs H Q _=>XRw vs H Q
theorem zg {H:Hp}:∀ps:List Nat,Ims H (ps.map nI) ((ps.map fun p:Nat=>(p:Int)).map kD)
 |[]=> .nil
 |p::ps=> .cons (.flat rfl) (zg ps)
theorem zh {K:PySem.W.Frag} {b l D:Addr} {Q:VK} {H1:Hp} {xs ys:List V} {u0 v0:Option V} (eb:H1 b=some (.tup xs)) (el:H1 l=some (.lst ys)) (hD:H1 D=none) (hn:xs.length<1000) (heq:ys.length=xs.length)
  (hq:∀H' zs,fG H1 H'->H' D=some (.lst zs)->zs.length=xs.length->(∀(i:Nat) x y,xs[i]?=some x->ys[i]?=some y->∃t,zs[i]?=some (.ref t)/\H' t=some (.tup [x,y]))->Q (.ref D) H'):LcG (Fy K b l) (Dd K 2 (pq (fu 0) (pq (fu 1) Dc))) (GF (jw (cV 0) (jw (cV 1) sS))) Q [u0,v0] H1 D:=by
 have sl:=sizeLine_eq
 refine⟨fun k m σ' H2=>Y5 (m=xs.length-k) (k<=xs.length) ((∃u v,σ'=[u,v])) (fG H1 H2) (∃zs,Y3 (H2 D=some (.lst zs)) (zs.length=k) (∀(i:Nat) x y,i<k->xs[i]?=some x->ys[i]?=some y->∃t,zs[i]?=some (.ref t)/\H2 t=some (.tup [x,y]))),⟨xs.length,by simp,bY _,⟨_,_,rfl⟩,eL hD _,[],eG,rfl,fun i x y h=>absurd h (cb _)⟩,?_⟩
 rintro k m σ' H2 ⟨rfl,hk,⟨u,v,rfl⟩,S,zs,ez,lz,hz⟩
 by_cases hlt:k<xs.length
 ·refine .inr ⟨⟨xs,ys,xs[k],ys[k]'(by lia),SqT.of (S _ _ eb),SqL.of (S _ _ el),aZ hlt,aZ (by lia)⟩,?_⟩
  rintro y H3 ⟨T,x,y,rfl,hT,rfl,hx,hy⟩
  have hx:=hx xs (SqT.of (S _ _ eb))
  have hy:=hy ys (SqL.of (S _ _ el))
  have S3:=eL hT (.tup [x,y])
  refine⟨T,_,rfl,SqT.of eG,rfl,_,_,rfl,_,_,rfl,rfl,?_⟩
  refine⟨jO,fun t ht=>?_⟩
  have S4:=eL ht (.tup [x,y])
  have e4:=(S3.trans S4) _ _ ez
  refine⟨zs,e4,by lia,xs.length-(k+ 1),by lia,rfl,hlt,⟨_,_,rfl⟩,?_,zs++[.ref t],eG,by rw[aM,lz];rfl,?_⟩
  ·intro q u e
   rw[eN (eT e hD)]
   exact S4 _ _ (S3 _ _ (S _ _ e))
  ·have nt:∀{a:Addr} {ws:List V},(L2.Internal.upd (L2.Internal.upd H2 T (.tup [x,y])) t (.tup [x,y])) a=some (.tup ws)->(L2.Internal.upd (L2.Internal.upd (L2.Internal.upd H2 T (.tup [x,y])) t (.tup [x,y])) D (.lst (zs++[.ref t]))) a=some (.tup ws):=fun e=>by rw[eN (jh e e4 (fun z=>nomatch z))];exact e
   intro i x' y' hi hx' hy'
   by_cases z:i<k
   ·obtain⟨t',h1,h2⟩:=hz i x' y' z hx' hy'
    exact⟨t',by rw[aH (by lia)];exact h1,nt (S4 _ _ (S3 _ _ h2))⟩
   ·have ik:i=k:=by lia
    subst ik
    rw[hx]at hx'
    rw[hy]at hy'
    cases hx'
    cases hy'
    exact⟨t,by rw[aG (by lia),lz,b0];rfl,nt eG⟩
 ·have e1:k=xs.length:=by lia
  subst e1
  exact .inl ⟨⟨xs,ys,SqT.of (S _ _ eb),SqL.of (S _ _ el),by lia⟩,hq H2 zs S ez lz fun i x y hx hy=>hz i x y (ao.mp hx).1 hx hy⟩
theorem Bs {H:Hp}:∀{zs:List V} {ds:List Dt},zs.length=ds.length->(∀(i:Nat) d,ds[i]?=some d->∃z,zs[i]?=some z/\Im H z d)->Ims H zs ds
 |[],[],_,_=> .nil
 |z::zs,[],h,_=>by cases h
 |[],d::ds,h,_=>by cases h
 |z::zs,d::ds,h,k=>by
  obtain⟨z',e,i⟩:=k 0 d rfl
  cases e
  exact .cons i (Bs (by simpa using h) fun i d hd=>k (i+ 1) d hd)
theorem Ar {H:Hp} {zs xs:List V} {l0:List Str} {ps:List Nat} (ib:Ims H xs (l0.map sD)) (lz:zs.length=xs.length) (hp:ps.length=l0.length) (h:∀(i:Nat) x y,xs[i]?=some x->(ps.map nI)[i]?=some y->∃t,zs[i]?=some (.ref t)/\H t=some (.tup [x,y])):Ims H zs (((l0.zip ps).map fun q=>(q.1,(q.2:Int))).map fdD):=by
 have lx:=ib.length
 rw[aA]at lx
 refine Bs (by rw[aA,aA,bJ];lia) fun i d hd=>?_
 rw[aI,aI]at hd
 obtain⟨q,hq,rfl⟩:=cm.mp hd
 obtain⟨q',hq',rfl⟩:=cm.mp hq
 obtain⟨h1,h2⟩:=bG.mp hq'
 obtain⟨x,hx,ix⟩:=ug ib (show(l0.map sD)[i]?=some (sD q'.1) by rw[aI,h1];rfl)
 cases jz ix
 obtain⟨t,e1,e2⟩:=h i _ _ hx (show(ps.map nI)[i]?=some (nI q'.2) by rw[aI,h2];rfl)
 exact⟨_,e1,.tup e2 (.cons (.flat rfl) (.cons (.flat rfl) .nil))⟩
theorem vb (T:Txt K mg):FO P w base 2 T.d43 Gh:=by
 refine T.d43.F.rd p7 fun cdv A0 outer s H vs Q E hr h=>?_
 obtain⟨n,κ,ks,l,ps,N,rfl,i,ok,hl,hp,q⟩:=h
 refine⟨_,(eJ (fV (fg gQ (eU fc (cv 0) eK) eZ)
   (eO (fm (fe (eE eZ (eE (eU eR (cv 1) eK) (eE (eU fc (eU fc (cv 0) eK) eK) eF))))))
   fF)
  (eJ (fV (fg gQ (eU fc (cv 0) eK) eZ)
   (eO (fm (fe (eE eZ (eE (fW f9 rfl T.z_tuple iM (eE (yk (g:=Dd K 2 (pq (fu 0) (pq (fu 1) Dc))) rfl (BY (x:="_law_word") (y:="_law_place") rfl fo fo rfl (by decide) rfl) (B6 rfl T.z_zip (eE (eU fc (cv 0) eK) (eE (cv 1) eF))) (pgP rfl fo rfl rfl) (fun _ _ _ _ _=>(fe (eE (cv 0) (eE (cv 1) eF))))) eF)) eF)))))
   fF)
  (eJ (fV (fg gQ (eU fc (cv 0) eK) eZ)
   (eJ (lO (j:=2) rfl (A3 (x:="_law_k") ["_law_places","_law_node"] [("_law_places",1,s.heap.objs.size+ 2),("_law_node",0,s.heap.objs.size+ 1)]) (gS rfl T.z_range (eE (fC tK (fD fz rfl T.z_len gU (eE (cv 1) eF)) eK) eF)) (fun _ _ _ _ _=>jr) (fun _ _ _ _ _=>(fe (eE (eU fc (eU fc (cv 2) eK) (fC pP eK (cv 0))) (eE (eU fc (eU fc (cv 2) eK) (fC ia (fC pP eK (cv 0)) eK)) (eE (eU eR (cv 1) (fC ia (cv 0) eK)) eF))))) p7.nd rfl (.inl rfl))
   (eO (fm (fe (eE eZ (eE (eU eR (cv 1) eK) (eE (fW f9 rfl T.z_tuple iM (eE (cv 2) eF)) eF)))))))
   fF)
  (eJ (fV (fg gQ (eU fc (cv 0) eK) eZ)
   (eO (fm (fe (eE eZ (eE (fW f9 rfl T.z_tuple iM (eE (cv 1) eF)) eF)))))
   fF)
  (eO (fm (fC rZ (fC rZ (fe (eE (eU fc (cv 0) eK) eF)) (eU fc (cv 0) eK)) (fW f9 rfl T.z_tuple iM (eE (cv 1) eF))))))))),?_⟩
 have sl:=sizeLine_eq
 obtain⟨a,b,c,xs,ys,rfl,ea,eb,ib,ec,ic⟩:=uf i
 have er:∀{j m:Nat},ps[j]?=some m->(ps.map nI)[j]?=some (.int (m:Int)):=fun h=>by rw[aI,h];rfl
 obtain⟨k1,k2,k3,k4,k5,k6,k7⟩:=Gg ok
 by_cases e5:κ.s="get"
 ·obtain⟨w0,rfl⟩:=k5 e5
  have lk:ks.length=1:=ok
  obtain⟨x,rfl,ix⟩:=zF ib
  cases jz ix
  match ps,(show ps.length=1 by lia)with
  |[p],_=>
   refine ij (i:=0) (x:="get") (s:="get") rfl ea fo ?_
   refine⟨_,hl,eP (eM (j:=0) rfl) ⟨_,ea,eP (eM (j:=1) rfl) ⟨_,eb,eP (eM (j:=0) rfl) ⟨sU,fun t1 h1=>?_⟩⟩⟩⟩
   exact q _ _ (eL h1 _) (gA h1 (.cons (.flat rfl) (.cons (.flat rfl) (.cons (.flat rfl) .nil))))
 refine fQ (i:=0) (x:="get") (s:=κ.s) rfl ea (gk e5) ?_
 dsimp only[ji]
 by_cases e6:κ.s="rec"
 ·obtain⟨l0,rfl⟩:=k6 e6
  obtain⟨lk,lk2⟩:ks.length=l0.length/\l0.length<=10:=ok
  refine ij (i:=0) (x:="rec") (s:="rec") rfl ea fo ?_
  have lx:xs.length=l0.length:=by rw[ib.length];simp[wsD]
  refine⟨_,ea,eP (eM (j:=1) rfl) ⟨b,l,rfl,⟨_,SqT.of eb⟩,⟨_,SqL.of hl⟩,fun D hD=>?_⟩⟩
  refine zh eb hl hD (by lia) (by rw[aA];lia) fun H2 zs S2 ez lz hz=>?_
  refine⟨D,zs,rfl,.inl ⟨SqL.of ez,fun t1 h1=>⟨jO,fun t2 h2=>?_⟩⟩⟩
  have S3:=eL h1 (.tup zs)
  have i2:=Ar (ib.mono (fG.tk S2)) lz (by lia) hz
  exact q _ _ ((S2.trans S3).trans (eL h2 _)) (gA h2 (.cons (.flat rfl) (.cons (gA h1 i2) .nil)))
 refine fQ (i:=0) (x:="rec") (s:=κ.s) rfl ea (gk e6) ?_
 dsimp only[ji]
 by_cases e3:κ.s="case"
 ·obtain⟨l0,rfl⟩:=k3 e3
  obtain⟨lk,lk2⟩:ks.length=l0.length+ 1/\l0.length<=10:=ok
  refine ij (i:=0) (x:="case") (s:="case") rfl ea fo ?_
  match ps,(show ps.length=l0.length+ 1 by lia)with
  |p0::ps,lps=>
   have lps:ps.length=l0.length:=by simpa using lps
   have en:((((p0::ps).map nI).length:Nat):Int)-1=(l0.length:Int):=by rw[aA,ax,lps];lia
   refine⟨l,_,rfl,.inl (SqL.of hl),_,rfl,by rw[en];lia,by rw[en];lia,fun D hD=>?_⟩
   rw[en,dR]
   refine m9 l0.length (by lia) (fun zs H2=>Ims H2 zs (((l0.zip ps).map fun q:(Str×Str)×Nat=>(q.1.1,q.1.2,(q.2:Int))).map amD |>.take zs.length)) (fun _ _ _ h k=>h.mono k) hD rfl (fun k H2 _ h=>h) (fun H2 _=>bX _) .nil ?_ ?_
   ·rintro k H2 v H3 zs Z S hk ⟨rfl,rfl⟩ iz lz hZ
    have hj:l0[k]?=some l0[k]:=aZ hk
    have hj2:ps[k]?=some (ps[k]'(by lia)):=aZ (by lia)
    have ib2:=ib.mono (fG.tk S)
    obtain⟨x,ex,ix⟩:=ug ib2 (sG hj).1
    cases jz ix
    obtain⟨y,ey,iy⟩:=ug ib2 (sG hj).2
    cases jz iy
    have c1:2*(0+(k:Int))=((2*k:Nat):Int):=by lia
    have c2:2*(0+(k:Int))+ 1=((2*k+ 1:Nat):Int):=by lia
    have c3:0+(k:Int)+ 1=((k+ 1:Nat):Int):=by lia
    have ea2:=S _ _ ea
    have eb2:=S _ _ eb
    have hl2:=S _ _ hl
    have q1:atI xs (2*(0+(k:Int)))=some (.str l0[k].1):=by rw[c1];exact eM ex
    have q2:atI xs (2*(0+(k:Int))+ 1)=some (.str l0[k].2):=by rw[c2];exact eM ey
    have q3:atI ((p0::ps).map nI) (0+(k:Int)+ 1)=some (nI (ps[k]'(by lia))):=by rw[c3];exact eM (by rw[aI];show Option.map nI ps[k]?=_;rw[hj2];rfl)
    refine⟨_,ea2,eP (eM (j:=1) rfl) ⟨.inl ⟨by decide,by decide⟩,_,eb2,eP q1 ⟨_,ea2,eP (eM (j:=1) rfl) ⟨.inl ⟨by decide,by decide⟩,_,eb2,eP q2 ⟨_,hl2,eP q3 ⟨sU,fun t1 h1=>?_⟩⟩⟩⟩⟩⟩
    refine hZ _ _ (eL h1 _) ?_
    rw[aM,aU,bH,aI,aI,lz]
    rw[lz]at iz
    have hzip:(l0.zip ps)[k]?=some (l0[k],ps[k]'(by lia)):=bG.mpr ⟨hj,hj2⟩
    rw[hzip]
    exact(iz.mono (fG.tk (eL h1 _))).app (.cons (gA h1 (.cons (.flat rfl) (.cons (.flat rfl) (.cons (.flat rfl) .nil)))) .nil)
   ·intro H2 zs S iz lz ez
    dsimp only[fu]
    rw[bK (by rw[aA,aA,bJ];lia)]at iz
    refine⟨_,S _ _ hl,eP (eM (j:=0) rfl) ⟨D,zs,rfl,.inl ⟨SqL.of ez,fun t1 h1=>⟨sU,fun t2 h2=>?_⟩⟩⟩⟩
    exact q _ _ ((S.trans (eL h1 _)).trans (eL h2 _)) (gA h2 (.cons (.flat rfl) (.cons (.flat rfl) (.cons (gA h1 iz) .nil))))
 refine fQ (i:=0) (x:="case") (s:=κ.s) rfl ea (gk e3) ?_
 dsimp only[ji]
 by_cases e7:κ.s="row"
 ·obtain⟨m,rfl⟩:=k7 e7
  refine ij (i:=0) (x:="row") (s:="row") rfl ea fo ?_
  refine⟨l,_,rfl,.inl ⟨SqL.of hl,fun t1 h1=>⟨jO,fun t2 h2=>?_⟩⟩⟩
  have S1:=eL h1 (.tup (ps.map nI))
  exact q _ _ (S1.trans (eL h2 _)) (gA h2 (.cons (.flat rfl) (.cons (gA h1 (zg ps)) .nil)))
 refine fQ (i:=0) (x:="row") (s:=κ.s) rfl ea (gk e7) ?_
 dsimp only[ji]
 refine⟨_,ea,eP (eM (j:=0) rfl) ⟨kO,fun t1 h1=>?_⟩⟩
 have S1:=eL h1 (.tup [.str κ.s])
 refine⟨_,S1 _ _ ea,eP (eM (j:=1) rfl) ?_⟩
 have lw:xs.length<=1:=by
  rw[ib.length]
  cases κ with
  |rcd=>exact absurd rfl e6
  |case=>exact absurd rfl e3
  |_=>simp[wsD]
 refine ph eG (S1 _ _ eb) (by show 1+xs.length<=_;lia) fun t2 H2 S2 e2=>?_
 refine⟨l,_,rfl,.inl ⟨SqL.of (S2 _ _ (S1 _ _ hl)),fun t3 h3=>?_⟩⟩
 have S3:=eL h3 (.tup (ps.map nI))
 have lps:ps.length<=3:=by
  rw[hp]
  cases κ with
  |rcd=>exact absurd rfl e6
  |case=>exact absurd rfl e3
  |row=>exact absurd rfl e7
  |op o m=>
   obtain⟨h1,h2⟩:ks.length=m/\(o,m)∈TM.Internal.ops:=ok
   simp only[TM.Internal.ops,ai,Prod.mk.injEq,bf,or_false]at h2
   lia
  |num=>have:ks.length=0:=ok;lia
  |name=>have:ks.length=0:=ok.1;lia
  |fn=>have:ks.length=1:=ok;lia
  |tag=>have:ks.length=1:=ok;lia
  |lt=>have:ks.length=2:=ok;lia
  |get=>have:ks.length=1:=ok;lia
 refine ph (S3 _ _ e2) eG (by rw[aM,aA];show 1+xs.length+_<=_;lia) fun t4 H4 S4 e4=>?_
 have S14:fG H H4:=S1.trans (S2.trans (S3.trans S4))
 refine q _ _ S14 (.tup e4 ?_)
 have ib4:=ib.mono (fG.tk S14)
 cases κ with
 |rcd=>exact absurd rfl e6
 |case=>exact absurd rfl e3
 |row=>exact absurd rfl e7
 |get=>exact absurd rfl e5
 |op o m=>
  cases ib4
  exact .cons (.flat rfl) (zg ps)
 |num n=>
  match ps,(show ps.length=0 from hp.trans ok)with
  |[],_=>exact .cons (.flat rfl) (by show Ims H4 (xs++[]) _;rw[aB];exact ib4)
 |name n=>
  match ps,(show ps.length=0 from hp.trans ok.1)with
  |[],_=>exact .cons (.flat rfl) (by show Ims H4 (xs++[]) _;rw[aB];exact ib4)
 |fn n=>
  match ps,(show ps.length=1 from hp.trans ok)with
  |[p],_=>exact .cons (.flat rfl) (ib4.app (.cons (.flat rfl) .nil))
 |tag n=>
  match ps,(show ps.length=1 from hp.trans ok)with
  |[p],_=>exact .cons (.flat rfl) (ib4.app (.cons (.flat rfl) .nil))
 |lt n=>
  match ps,(show ps.length=2 from hp.trans ok)with
  |[p,p2],_=>exact .cons (.flat rfl) (ib4.app (.cons (.flat rfl) (.cons (.flat rfl) .nil)))
open TM.Internal (Kn Tr gy szs)
def FR (r h:Addr) (H H':Hp):Prop:=∀a o,H a=some o->a≠r->a≠h->H' a=some o
theorem FR.refl {r h:Addr} {H:Hp}:FR r h H H:=fun _ _ e _ _=>e
theorem FR.trans {r h:Addr} {H H1 H2:Hp} (f:FR r h H H1) (g:FR r h H1 H2):FR r h H H2:=fun a o e n m=>g a o (f a o e n m) n m
theorem FR.same {r h:Addr} {H H':Hp} (S:fG H H'):FR r h H H':=fun a o e _ _=>S a o e
theorem GR {r h:Addr} {H:Hp} {o:HO}:FR r h H (L2.Internal.upd H r o):=fun a u e n _=>by rw[eN n];exact e
theorem GS {r h:Addr} {H:Hp} {o:HO}:FR r h H (L2.Internal.upd H h o):=fun a u e _ n=>by rw[eN n];exact e
theorem FR.tk {r h:Addr} {H H':Hp} {rs hs:List V} (F:FR r h H H') (e1:H r=some (.lst rs)) (e2:H h=some (.lst hs)):TK H H':=fun a xs e=>F a _ e (jh e e1 fun z=>nomatch z) (jh e e2 fun z=>nomatch z)
theorem FR.put {r h:Addr} {H0 H:Hp} (F:FR r h H0 H) {a:Addr} (z:H0 a=none) (o:HO):FR r h H0 (L2.Internal.upd H a o):=fun b u e n m=>by
 rw[eN (eT e z)]
 exact F b u e n m
theorem zi {K:PySem.W.Frag} {a:Addr} {xs:List V} {g:TG} {tb:TS} {D:mh} {σ:St} {H:Hp} (Pv:Nat->St->Hp->Prop) (h0:Pv 0 σ H) (hl:∀i σ H,i<=xs.length->Pv i σ H->SqT K H a xs)
  (hs:∀(i:Nat) (x:V) (σ:St) (H:Hp) (T:Addr),xs[i]?=some x->Pv i σ H->H T=none->g (.ref T) σ (L2.Internal.upd H T (.tup [.int (i:Int),x])) fun σ2 H2=>tb {D with nx:=Pv (i+ 1),ct:=Pv (i+ 1),bk:=D.nx} σ2 H2) (hd:∀σ H,Pv xs.length σ H->D.nx σ H):
  ∃W:Nat->Nat->St->Hp->Prop,(∃m,W 0 m σ H)/\∀i m σ H,W i m σ H->
   ((DV K a).stop i H/\D.nx σ H)\/((DV K a).go i H/\∃N:St->Hp->Prop,(∀σ' H',N σ' H'->∃m',m'<m/\W (i+ 1) m' σ' H')/\∀x H',(DV K a).yld i H x H'->g x σ H' fun σ2 H2=>tb {D with nx:=N,ct:=N,bk:=D.nx} σ2 H2):=by
 refine⟨fun i m σ H=>Y3 (m=xs.length-i) (i<=xs.length) (Pv i σ H),⟨xs.length,by simp,bY _,h0⟩,?_⟩
 rintro i m σ H ⟨rfl,hi,p⟩
 have q:=hl i σ H hi p
 by_cases hlt:i<xs.length
 ·refine .inr ⟨⟨xs,xs[i],q,by simp[hlt]⟩,Pv (i+ 1),fun σ' H' p'=>⟨xs.length-(i+ 1),by lia,rfl,hlt,p'⟩,fun v H' y=>?_⟩
  obtain⟨T,x,rfl,hT,rfl,hx⟩:=y
  exact hs i x σ H T (hx xs q) p hT
 ·have e:i=xs.length:=by lia
  subst e
  exact .inl ⟨⟨xs,q,rfl⟩,hd σ H p⟩
def rD (c:Pc):Dt:=c.ρ.d
def hD' (c:Pc):Dt:=hoD (hoC c)
inductive XFl (f:Nat) (vs:List V) (H:Hp) (Q:VK):Prop
 |mk (n:V) (t:Tr) (s r h:Addr) (ss rs hs:List V) (sc:Sc) (p d:Nat) (N:Str->Prop) (e:vs=[n,.ref s,.ref r,.ref h]) (i:Im H n (ndD t)) (hf:t.nest<=f) (es:H s=some (.lst ss)) (is:Ims H ss (sc.map enD)) (er:H r=some (.lst rs)) (eh:H h=some (.lst hs)) (lr:rs.length=p) (lh:hs.length=p) (nrh:r≠h) (nsr:s≠r) (nsh:s≠h) (ok:okT t N) (lp:p+t.sz<=100000) (ls:ss.length+t.nest<=1000) (q:∀H' rs' hs',FR r h H H'->H' r=some (.lst (rs++rs'))->Ims H' rs' ((pcT t p sc d).map rD)->H' h=some (.lst (hs++hs'))->Ims H' hs' ((pcT t p sc d).map hD')->Q .non H')
def CG (f:Nat):Sp:=fun vs H Q _=>XFl f vs H Q
theorem As (l:List Ex) (k:Nat):hdX (l.drop k)=l[k]?.getD none:=by
 unfold hdX
 rw[List.headD_eq_head?_getD,List.head?_drop]
theorem zj:∀{ts:List Tr} {k:Nat} {t:Tr},ts[k]?=some t->t.nest<=TM.Internal.nests ts
 |[],_,_,h=>by cases h
 |t::ts,0,_,h=>by cases h;rw[TM.Internal.nests];lia
 |t::ts,k+ 1,u,h=>by have:=zj (ts:=ts) (k:=k) h;rw[TM.Internal.nests];lia
theorem CH:∀{ts:List Tr} {k:Nat} {t:Tr},ts[k]?=some t->szs (ts.take k)+t.sz<=szs ts
 |[],_,_,h=>by cases h
 |t::ts,0,_,h=>by cases h;simp only[List.take_zero,szs];lia
 |t::ts,k+ 1,u,h=>by have:=CH (ts:=ts) (k:=k) h;simp only[bL,szs];lia
theorem zk:∀{ts:List Tr} {xs:List Ex} {N:Str->Prop} {k:Nat} {t:Tr},sA ts xs N->ts[k]?=some t->∃M,okT t M
 |[],_,_,_,_,_,h=>by cases h
 |t::ts,xs,N,0,_,o,h=>by cases h;exact⟨_,o.1⟩
 |t::ts,xs,N,k+ 1,u,o,h=>zk (ts:=ts) (k:=k) o.2 h
theorem Ey {κ:Kn} {ps:List Nat} {sc:Sc} {e d v:Nat} (h:∀w,κ≠ .name w):hoC ⟨roK κ ps,sc,e,d,v⟩=none:=by
 cases κ with
 |name w=>exact absurd rfl (h w)
 |num=>rfl
 |row=>rfl
 |op=>rfl
 |rcd=>rfl
 |fn=>cases ps<;>rfl
 |tag=>cases ps<;>rfl
 |get=>cases ps<;>rfl
 |case=>cases ps<;>rfl
 |lt=>
  cases ps with
  |nil=>rfl
  |cons p ps=>cases ps<;>rfl
theorem Au {H:Hp} {κ:Kn} {ks:List Tr} {a s r h:Addr} {ss hs:List V} {sc:Sc} {p e d v:Nat} {ps:List Nat} {N:Str->Prop} {R:TS} {D:mh} {σ:St} (i:Im H (.ref a) (ndD (.mk κ ks))) (ok:okK κ ks.length N) (es:H s=some (.lst ss)) (is:Ims H ss (sc.map enD)) (eh:H h=some (.lst (hs++[.non]))) (lh:hs.length=p)
  (h0:σ[0]?=some (some (.ref a))) (h1:σ[1]?=some (some (.ref s))) (h3:σ[3]?=some (some (.ref h))) (h4:σ[4]?=some (some (.int (p:Int)))) (q:∀H' x,FR r h H H'->(r≠h->H' r=H r)->H' h=some (.lst (hs++[x]))->Im H' x (hD' ⟨roK κ ps,sc,e,d,v⟩)->R D σ H'):
  zI (rM (hdT 0 "name") (zB (qC Ew [] E0 (jw (cV 1) (jw (tOp zD (tOp zD (cV 0) (tC (.int 1))) (tC (.int 0))) sS))) (Gz (cV 3) (cV 4) DI)) ji) R D σ H:=by
 obtain⟨a',b,c,xs,ys,e1,ea,eb,ib,ec,ic⟩:=uf i
 cases e1
 obtain⟨_,_,_,k4,_⟩:=Gg ok
 by_cases z:κ.s="name"
 ·obtain⟨w,rfl⟩:=k4 z
  obtain⟨x,rfl,ix⟩:=zF ib
  cases jz ix
  refine ij (s:="name") h0 ea fo ?_
  show onV σ[1]? _
  rw[h1]
  show onV σ[0]? _
  rw[h0]
  refine⟨_,ea,eP (eM (j:=1) rfl) ⟨_,eb,eP (eM (j:=0) rfl) ⟨s,w,ss,sc,rfl,es,is,fun x ix=>?_⟩⟩⟩
  show onV σ[3]? _
  rw[h3]
  show onV σ[4]? _
  rw[h4]
  have ej:ixN (hs++[V.non]).length (p:Int)=some p:=by
   unfold ixN
   rw[fY (by lia),fY (by rw[aM,aU];lia)]
   rfl
  refine⟨h,_,_,p,rfl,rfl,eh,ej,?_⟩
  have et:(hs++[V.non]).set p x=hs++[x]:=by rw[bM _ _ (by lia),lh,b0];rfl
  rw[et]
  exact q _ x GS (fun n=>eN n) eG (ix.mono (gH eh).tk)
 ·refine fQ (s:=κ.s) h0 ea (gk z) ?_
  refine q H .non FR.refl (fun _=>rfl) eh ?_
  unfold hD'
  rw[Ey (fun w u=>z (by rw[u];rfl))]
  exact .flat rfl
theorem zl:∀ts:List Tr,ts.length<=szs ts
 |[]=>bX _
 |t::ts=>by have:=zl ts;have:=oM t;rw[ax,szs];lia
theorem sH:∀{ts:List Tr} {k:Nat} {t:Tr},ts[k]?=some t->szs (ts.take (k+ 1))=szs (ts.take k)+t.sz
 |[],_,_,h=>by cases h
 |t::ts,0,_,h=>by cases h;simp only[List.take_zero,bL,szs];lia
 |t::ts,k+ 1,u,h=>by have:=sH (ts:=ts) (k:=k) h;rw[bL,szs,this,bL,szs];lia
theorem CI (x:Ex) (p pp pw:Nat):(exL x p pp pw).length<=1:=by
 cases x with
 |none=>exact bY _
 |some z=>exact bX _
theorem sI (T:Txt K mg) (f:Nat) (gD44:FO P w base (f+ 2) T.d44 (CG f)):FO P w base (f+ 1+ 2) T.d44 (CG (f+ 1)):=by
 have gD42:=uh (P:=P) (w:=w) (base:=base) T
 have gD41:=qR (P:=P) (w:=w) (base:=base) T
 have gD43:=vb (P:=P) (w:=w) (base:=base) T
 refine T.d44.F.ok iC (fun vs H Q E h=>?_) (fun cdv A0 outer s0 H vs Q E hr h=>?_)
 ·obtain⟨n,t,s,r,h,ss,rs,hs,sc,p,d,N,rfl,_⟩:=h
  rfl
 obtain⟨n,t,s,r,h,ss,rs,hs,sc,p,d,N,rfl,i,hf,es,is,er,eh,lr,lh,nrh,nsr,nsh,ok,lp,ls,q⟩:=h
 refine⟨_,(eJ (pS (i:=4) iC.nd (fD fz rfl T.z_len gU (eE (cv 2) eF)))
  (eJ (eW (fN (gu dD dE dF fh (PE.mono (cv 2)) (eE (PE.mono xt) eF))))
  (eJ (eW (fN (gu dD dE dF fh (PE.mono (cv 3)) (eE (PE.mono xt) eF))))
  (eJ (fV (fg gQ (eU fc (cv 0) eK) eZ)
   (eO (qW (pF T.d42 gD42 (hr.mono (by lia)) (eE (cv 1) (eE (eU fc (eU fc (cv 0) eK) eK) eF))) (qV (cv 3) (cv 4) lN)))
   fF)
  (eJ (pS (i:=5) iC.nd (fq eF))
  (eJ (jb PassesOwn.never rfl (zX rfl T.z_enumerate (eE (eU fc (cv 0) eK) eF)) (sY rfl (jm (pN (i:=6) iC.nd) (jm (pN (i:=7) iC.nd) pA)))
   (eJ (eW (fN (gu dD dE dF fh (PE.mono (cv 5)) (eE (PE.mono (fD fz rfl T.z_len gU (eE (cv 2) eF))) eF))))
   (eO (eW (pF T.d44 gD44 (hr.mono (by lia)) (eE (cv 7) (eE (fC rh (cv 1) (pF T.d41 gD41 (hr.mono (by lia)) (eE (cv 0) (eE (cv 6) (eE (cv 5) eF))))) (eE (cv 2) (eE (cv 3) eF)))))))))
  (eO (qW (pF T.d43 gD43 (hr.mono (by lia)) (eE (cv 0) (eE (cv 5) eF))) (qV (cv 2) (cv 4) lN))))))))),?_⟩
 have sl:=sizeLine_eq
 obtain⟨κ,ks⟩:=t
 have hsz:(Tr.mk κ ks).sz=1+szs ks:=by rw[Tr.sz]
 have hne:(Tr.mk κ ks).nest=1+TM.Internal.nests ks:=by rw[Tr.nest]
 rw[hne]at hf ls
 rw[hsz]at lp
 obtain⟨a,b,c,xs,ys,rfl,ea,eb,ib,ec,ic⟩:=uf i
 refine⟨r,_,rfl,.inl (SqL.of er),?_⟩
 dsimp only[fu]
 rw[lr]
 refine⟨⟨_,er⟩,rs,er,by lia,?_⟩
 have eh1:(L2.Internal.upd H r (.lst (rs++[.non]))) h=some (.lst hs):=by rw[eN nrh.symm];exact eh
 refine⟨⟨_,eh1⟩,hs,eh1,by lia,?_⟩
 have F1:FR r h H (L2.Internal.upd (L2.Internal.upd H r (.lst (rs++[.non]))) h (.lst (hs++[.non]))):=GR.trans GS
 have er1:(L2.Internal.upd (L2.Internal.upd H r (.lst (rs++[.non]))) h (.lst (hs++[.non]))) r=some (.lst (rs++[.non])):=by rw[eN nrh];exact eG
 have eh2:(L2.Internal.upd (L2.Internal.upd H r (.lst (rs++[.non]))) h (.lst (hs++[.non]))) h=some (.lst (hs++[.non])):=eG
 generalize(L2.Internal.upd (L2.Internal.upd H r (.lst (rs++[.non]))) h (.lst (hs++[.non])))=H1 at F1 er1 eh2
 have k1:=F1.tk er eh
 have es1:=F1 _ _ es nsr nsh
 have is1:=is.mono k1
 dsimp only
 refine Au (r:=r) (ps:=gy ks (p+ 1)) (e:=p+(Tr.mk κ ks).sz) (d:=d) (v:=wT (.mk κ ks) (val sc)) (i.mono k1) ok.1 es1 is1 eh2 lh rfl rfl rfl rfl fun H2 x F2 fr2 eh3 ix=>?_
 have er2:H2 r=some (.lst (rs++[.non])):=(fr2 nrh).trans er1
 have k2:=F2.tk er1 eh2
 refine⟨ki,fun pl hpl=>?_⟩
 dsimp only[fu]
 have S3:=eL hpl (.lst [])
 have nr:pl≠r:=fun z=>by rw[z,er2]at hpl;cases hpl
 have nh:pl≠h:=fun z=>by rw[z,eh3]at hpl;cases hpl
 have F3:FR r h H (L2.Internal.upd H2 pl (.lst [])):=F1.trans (F2.trans (FR.same S3))
 have k3:=F3.tk er eh
 have ea3:=k3 _ _ ea
 have ec3:=k3 _ _ ec
 have hpl0:H pl=none:=by
  cases z:H pl with
  |none=>rfl
  |some o=>rw[(F1.trans F2) _ _ z nr nh]at hpl;cases hpl
 have ly:=ic.length
 rw[sF]at ly
 have k03:TK H2 (L2.Internal.upd H2 pl (.lst [])):=fG.tk S3
 refine⟨_,ea3,eP (eM (j:=2) rfl) ⟨c,rfl,⟨_,SqT.of ec3⟩,zi (xs:=ys) (fun k σ H4=>X8 fun(o6 o7:Option V) (dn:List Pc) (ps:List Nat) (pp pw:Nat) (rr hh:List V)=>Y12 (σ=[some (.ref a),some (.ref s),some (.ref r),some (.ref h),some (.int (p:Int)),some (.ref pl),o6,o7]) (FR r h H H4) (dn++y9 (ks.drop k) (p+ 1+dn.length) pp pw ((exN κ).drop k) sc d=y9 ks (p+ 1) 0 0 (exN κ) sc d) (ps++gy (ks.drop k) (p+ 1+dn.length)=gy ks (p+ 1)) (ps.length=k) ((∀j,j+ 1=k->ps[j]?=some pp)) (dn.length=szs (ks.take k)) (H4 pl=some (.lst (ps.map nI))) (H4 r=some (.lst (rs++(.non::rr)))) (Ims H4 rr (dn.map rD)) (H4 h=some (.lst (hs++(x::hh)))) (Ims H4 (x::hh) (hD' ⟨roK κ (gy ks (p+ 1)),sc,p+(Tr.mk κ ks).sz,d,wT (.mk κ ks) (val sc)⟩::dn.map hD'))) ?_ ?_ ?_ ?_⟩⟩
 ·exact⟨none,none,[],[],0,0,[],[],rfl,F3,rfl,rfl,rfl,fun j z=>by lia,rfl,eG,S3 _ _ er2,.nil,S3 _ _ eh3,.cons (ix.mono k03) .nil⟩
 ·rintro k σ H4 _ ⟨o6,o7,dn,ps,pp,pw,rr,hh,_,F4,_⟩
  exact SqT.of (F4.tk er eh _ _ ec)
 ·rintro k v σ H4 t4 hv ⟨o6,o7,dn,ps,pp,pw,rr,hh,rfl,F4,hdn,hps,lps,hpp,ldn,epl,er4,ir4,eh4,ih4⟩ h4
  obtain⟨dv,e1,iv⟩:=jy ic hv
  obtain⟨t,ht,rfl⟩:=zc e1
  have hk:k<ks.length:=(ao.mp ht).1
  rw[oA ht]at hdn hps
  have S4:=eL h4 (.tup [.int (k:Int),v])
  refine⟨t4,_,rfl,SqT.of eG,rfl,_,_,rfl,_,_,rfl,rfl,?_⟩
  have epl4:=S4 _ _ epl
  have er5:=S4 _ _ er4
  have eh5:=S4 _ _ eh4
  have lrr:=ir4.length
  rw[aA]at lrr
  have ih5:=ih4.length
  rw[ax,ax,aA]at ih5
  have lsz:=CH ht
  have tp:=oM t
  have elen:(rs++(V.non::rr)).length=p+ 1+dn.length:=by rw[aM,ax];lia
  refine⟨⟨_,epl4⟩,r,_,rfl,.inl (SqL.of er5),_,epl4,by rw[aA];have:=zl ks;lia,?_⟩
  rw[elen]
  have F5:FR r h H (L2.Internal.upd (L2.Internal.upd H4 t4 (.tup [.int (k:Int),v])) pl (.lst (ps.map nI++[.int ((p+ 1+dn.length:Nat):Int)]))):=(F4.trans (FR.same S4)).put hpl0 _
  have epl5:(L2.Internal.upd (L2.Internal.upd H4 t4 (.tup [.int (k:Int),v])) pl (.lst (ps.map nI++[.int ((p+ 1+dn.length:Nat):Int)]))) pl=some (.lst ((ps++[p+ 1+dn.length]).map nI)):=by rw[eG,bz];rfl
  have er6:(L2.Internal.upd (L2.Internal.upd H4 t4 (.tup [.int (k:Int),v])) pl (.lst (ps.map nI++[.int ((p+ 1+dn.length:Nat):Int)]))) r=some (.lst (rs++(V.non::rr))):=by rw[eN nr.symm];exact er5
  have eh6:(L2.Internal.upd (L2.Internal.upd H4 t4 (.tup [.int (k:Int),v])) pl (.lst (ps.map nI++[.int ((p+ 1+dn.length:Nat):Int)]))) h=some (.lst (hs++(x::hh))):=by rw[eN nh.symm];exact eh5
  have k45:TK H4 (L2.Internal.upd (L2.Internal.upd H4 t4 (.tup [.int (k:Int),v])) pl (.lst (ps.map nI++[.int ((p+ 1+dn.length:Nat):Int)]))):=fun b ws e=>by rw[eN (jh (S4 _ _ e) epl4 fun z=>nomatch z)];exact S4 _ _ e
  generalize(L2.Internal.upd (L2.Internal.upd H4 t4 (.tup [.int (k:Int),v])) pl (.lst (ps.map nI++[.int ((p+ 1+dn.length:Nat):Int)])))=H5 at F5 epl5 er6 eh6 k45
  have k5:=F5.tk er eh
  have hpk:(ps++[p+ 1+dn.length])[k]?=some (p+ 1+dn.length):=by rw[aG (by lia),lps,b0];rfl
  refine⟨.ref a,κ,ks,k,pl,ps++[p+ 1+dn.length],p+ 1+dn.length,pp,pw,N,rfl,i.mono k5,hk,ok.1,epl5,hpk,fun j hj=>by rw[aH (by lia)];exact hpp j hj,fun H6 a6 xs6 S6 e6 n6 i6=>?_⟩
  have es6:=S6 _ _ (F5 _ _ es nsr nsh)
  have lx6:xs6.length<=1:=by rw[i6.length,aA];exact CI _ _ _ _
  refine⟨s,a6,ss,xs6,rfl,rfl,es6,e6,by lia,fun s7 h7=>?_⟩
  have S7:=eL h7 (.lst (ss++xs6))
  have S57:=S6.trans S7
  obtain⟨M,okt⟩:=zk ok.2 ht
  have nt:=zj ht
  have er7:=S57 _ _ er6
  have eh7:=S57 _ _ eh6
  have k57:TK H H6:=fun b ws e=>S6 _ _ (k5 _ _ e)
  have k7:TK H (L2.Internal.upd H6 s7 (.lst (ss++xs6))):=fun b ws e=>S57 _ _ (k5 _ _ e)
  have is7:Ims (L2.Internal.upd H6 s7 (.lst (ss++xs6))) (ss++xs6) ((sc++exL ((exN κ)[k]?.getD none) (p+ 1+dn.length) pp pw).map enD):=by
   rw[bz]
   exact(is.mono k7).app (i6.mono (fG.tk S7))
  have n1:s7≠r:=fun z=>by rw[z,S6 _ _ er6]at h7;cases h7
  have n2:s7≠h:=fun z=>by rw[z,S6 _ _ eh6]at h7;cases h7
  refine⟨v,t,s7,r,h,ss++xs6,_,_,sc++exL ((exN κ)[k]?.getD none) (p+ 1+dn.length) pp pw,p+ 1+dn.length,d,M,rfl,iv.mono k7,by lia,eG,is7,er7,eh7,elen,by rw[aM,ax];lia,nrh,n1,n2,okt,by lia,by rw[aM];lia,fun H8 rs' hs' F8 er8 ir8 eh8 ih8=>?_⟩
  have e9:exS sc (hdX ((exN κ).drop k)) (p+ 1+dn.length) pp pw=sc++exL ((exN κ)[k]?.getD none) (p+ 1+dn.length) pp pw:=by rw[CF,As]
  have k78:=F8.tk er7 eh7
  have k48:TK H4 H8:=fun b ws e=>k78 _ _ (S57 _ _ (k45 _ _ e))
  rw[y9,e9,<-bE,List.tail_drop]at hdn
  refine⟨_,_,dn++pcT t (p+ 1+dn.length) (sc++exL ((exN κ)[k]?.getD none) (p+ 1+dn.length) pp pw) d,ps++[p+ 1+dn.length],p+ 1+dn.length,wT t (upE (val sc) (hdX ((exN κ).drop k)) pw),rr++rs',hh++hs',rfl,F5.trans ((FR.same S57).trans F8),?_,?_,by rw[aM,lps];rfl,fun j hj=>by rw[show j=k by lia];exact hpk,by rw[aM,jN,sH ht,ldn],?_,?_,?_,?_,?_⟩
  ·rw[aM,jN,<-b6]
   exact hdn
  ·rw[aM,jN,<-b6,bE]
   exact hps
  ·exact F8 _ _ (S57 _ _ epl5) nr nh
  ·rw[er8,bE];rfl
  ·rw[bz];exact(ir4.mono k48).app ir8
  ·rw[eh8,bE];rfl
  ·rw[bz];exact(ih4.mono k48).app ih8
 ·rintro σ H4 ⟨o6,o7,dn,ps,pp,pw,rr,hh,rfl,F4,hdn,hps,lps,hpp,ldn,epl,er4,ir4,eh4,ih4⟩
  rw[ly,bC]at hdn hps
  rw[show y9 [] (p+ 1+dn.length) pp pw ((exN κ).drop ks.length) sc d=[] by rw[y9],aB]at hdn
  rw[show gy [] (p+ 1+dn.length)=[]from rfl,aB]at hps
  subst hdn hps
  have k4:=F4.tk er eh
  refine⟨.ref a,κ,ks,pl,gy ks (p+ 1),N,rfl,i.mono k4,ok.1,epl,TM.Internal.offs_len _ _,fun H5 v S5 iv=>?_⟩
  have er5:=S5 _ _ er4
  have ej:ixN (rs++(V.non::rr)).length (p:Int)=some p:=by
   unfold ixN
   rw[fY (by lia),fY (by rw[aM,ax];lia)]
   rfl
  refine⟨r,_,_,p,rfl,rfl,er5,ej,?_⟩
  have et:(rs++(V.non::rr)).set p v=rs++(v::rr):=by rw[bM _ _ (by lia),lr,b0];rfl
  rw[et]
  have k6:TK H5 (L2.Internal.upd H5 r (.lst (rs++(v::rr)))):=(gH er5).tk
  refine q _ (v::rr) (x::hh) (F4.trans ((FR.same S5).trans GR)) eG ?_ (by rw[eN nrh.symm];exact S5 _ _ eh4) ?_
  ·rw[pcT]
   exact .cons (iv.mono k6) ((ir4.mono (fG.tk S5)).mono k6)
  ·rw[pcT]
   exact(ih4.mono (fG.tk S5)).mono k6
theorem oN (T:Txt K mg):∀f:Nat,FO P w base (f+ 2) T.d44 (CG f)
 |0=>by
  refine T.d44.F.ok iC (fun vs H Q E h=>?_) (fun cdv A0 outer s0 H vs Q E hr h=>?_)
  ·obtain⟨n,t,s,r,h,ss,rs,hs,sc,p,d,N,rfl,_⟩:=h
   rfl
  ·obtain⟨n,⟨κ,ks⟩,s,r,h,ss,rs,hs,sc,p,d,N,rfl,i,hf,_⟩:=h
   rw[Tr.nest]at hf
   lia
 |f+ 1=>sI T f (oN T f)
open TM.Internal (Kn Tr gy szs)
def wdE (wl:List Str) (d:Nat):Str:=wl.getD (3+d) ""
structure Bt (H H':Hp) (wl:List Str) (ts:List Tr) (b n r w h:Addr):Prop where
 sm:fG H H'
 eb:H' b=some (.lst [.ref n,.ref r,.ref w,.ref h])
 en:∃ns:List Str,H' n=some (.lst (ns.map V.str))/\ns.length=ts.length
 er:H' r=some (.lst ((gy ts 0).map nI))
 ew:∃xs,H' w=some (.lst xs)/\Ims H' xs ((pcD (wdE wl) ts 0 0 []).map rD)
 eh:∃xs,H' h=some (.lst xs)/\Ims H' xs ((pcD (wdE wl) ts 0 0 []).map hD')
 nw:∀a∈[b,n,r,w,h],H a=none
inductive XBu (vs:List V) (H:Hp) (Q:VK):Prop
 |mk (wa l:Addr) (wl:List Str) (xs:List V) (ts:List Tr) (e:vs=[.ref wa,.ref l]) (hw:H wa=some (.lst (wl.map V.str))) (lw:wl.length=16) (hl:H l=some (.lst xs)) (ix:Ims H xs (ts.map ndD)) (lt:ts.length<=12) (ok:∀t∈ts,(∃N,okT t N)/\t.nest<=40) (sz:szs ts<=10000) (q:∀H' b n r w h,Bt H H' wl ts b n r w h->Q (.ref b) H')
def Gi:Sp:=fun vs H Q _=>XBu vs H Q
theorem Av {H:Hp} {t1 t2:Addr} {w:Str} {d:Nat} {H1:Hp} (h1:H t1=none) (h2:(L2.Internal.upd H t1 (.tup [.str "def",.int (d:Int)])) t2=none):Im (L2.Internal.upd (L2.Internal.upd H t1 (.tup [.str "def",.int (d:Int)])) t2 (.tup [.str w,.ref t1])) (.ref t2) (.tup [sD w,hmD ("def",(d:Int))]):=gA h2 (.cons (.flat rfl) (.cons (gA h1 (.cons (.flat rfl) (.cons (.flat rfl) .nil))) .nil))
theorem sJ (T:Txt K mg):FO P w base 43 T.d45 Gi:=by
 have gD44:=oN (P:=P) (w:=w) (base:=base) T 40
 refine T.d45.F.ok gf (fun vs H Q E h=>?_) (fun cdv A0 outer s0 H vs Q E hr h=>?_)
 ·obtain⟨wa,l,wl,xs,ts,rfl,_⟩:=h
  rfl
 obtain⟨wa,l,wl,xs,ts,rfl,hw,lw,hl,ix,lt,ok,sz,q⟩:=h
 refine⟨_,(eJ (pS (i:=2) gf.nd (fq eF))
  (eJ (pS (i:=3) gf.nd (fq eF))
  (eJ (pS (i:=4) gf.nd (fq eF))
  (eJ (pS (i:=5) gf.nd (fq eF))
  (eJ (pS (i:=6) gf.nd (fq eF))
  (eJ (jb PassesOwn.never rfl (yj rfl T.z_enumerate (eE (cv 1) eF)) (sY rfl (jm (pN (i:=7) gf.nd) (jm (pN (i:=8) gf.nd) pA)))
   (eJ (pS (i:=6) gf.nd (fC rh (cv 6) (fq (eE (fe (eE (eU eR (cv 0) (fC ia eK (cv 7))) (eE (fe (eE eZ (eE (cv 7) eF))) eF))) eF))))
   (eJ (eW (fN (gu dD dE dF fh (PE.mono (cv 2)) (eE (PE.mono (eU eR (cv 0) (fC ia eK (cv 7)))) eF))))
   (eJ (eW (fN (gu dD dE dF fh (PE.mono (cv 3)) (eE (PE.mono (fD fz rfl T.z_len gU (eE (cv 4) eF))) eF))))
   (eO (eW (pF T.d44 gD44 (hr.mono (by lia)) (eE (cv 8) (eE (cv 6) (eE (cv 4) (eE (cv 5) eF)))))))))))
  (eO (fm (fq (eE (cv 2) (eE (cv 3) (eE (cv 4) (eE (cv 5) eF))))))))))))),?_⟩
 have sl:=sizeLine_eq
 refine⟨ki,fun n hn=>?_⟩
 dsimp only[fu]
 refine⟨ki,fun r hr'=>?_⟩
 dsimp only[fu]
 refine⟨ki,fun rw' hrw=>?_⟩
 dsimp only[fu]
 refine⟨ki,fun hm hhm=>?_⟩
 dsimp only[fu]
 refine⟨ki,fun sa hsa=>?_⟩
 dsimp only[fu]
 have S1:=eL hn (.lst [])
 have S2:=eL hr' (.lst [])
 have S3:=eL hrw (.lst [])
 have S4:=eL hhm (.lst [])
 have S5:=eL hsa (.lst [])
 have en0:=S5 _ _ (S4 _ _ (S3 _ _ (S2 _ _ (show(L2.Internal.upd H n (.lst [])) n=some (.lst [])from eG))))
 have er0:=S5 _ _ (S4 _ _ (S3 _ _ (show(L2.Internal.upd (L2.Internal.upd H n (.lst [])) r (.lst [])) r=some (.lst [])from eG)))
 have ew0:=S5 _ _ (S4 _ _ (show(L2.Internal.upd (L2.Internal.upd (L2.Internal.upd H n (.lst [])) r (.lst [])) rw' (.lst [])) rw'=some (.lst [])from eG))
 have eh0:=S5 _ _ (show(L2.Internal.upd (L2.Internal.upd (L2.Internal.upd (L2.Internal.upd H n (.lst [])) r (.lst [])) rw' (.lst [])) hm (.lst [])) hm=some (.lst [])from eG)
 have es0:(L2.Internal.upd (L2.Internal.upd (L2.Internal.upd (L2.Internal.upd (L2.Internal.upd H n (.lst [])) r (.lst [])) rw' (.lst [])) hm (.lst [])) sa (.lst [])) sa=some (.lst []):=eG
 have S0:=S1.trans (S2.trans (S3.trans (S4.trans S5)))
 have n0:∀a∈[n,r,rw',hm],H a=none:=fun a ha=>by
  simp only[ai,bf,or_false]at ha
  have nn:∀{H2:Hp} {a:Addr},fG H H2->H2 a=none->H a=none:=fun{H2 a} S h=>by cases z:H a with|none=>rfl|some u=>rw[S _ _ z]at h;cases h
  rcases ha with rfl|rfl|rfl|rfl
  ·exact hn
  ·exact nn S1 hr'
  ·exact nn (S1.trans S2) hrw
  ·exact nn (S1.trans (S2.trans S3)) hhm
 have d1:r≠n:=fun z=>by rw[z,show(L2.Internal.upd H n (.lst [])) n=some (.lst [])from eG]at hr';cases hr'
 have d2:rw'≠n:=fun z=>by rw[z,S2 _ _ (show(L2.Internal.upd H n (.lst [])) n=some (.lst [])from eG)]at hrw;cases hrw
 have d3:rw'≠r:=fun z=>by rw[z,show(L2.Internal.upd (L2.Internal.upd H n (.lst [])) r (.lst [])) r=some (.lst [])from eG]at hrw;cases hrw
 have d4:hm≠n:=fun z=>by rw[z,S3 _ _ (S2 _ _ (show(L2.Internal.upd H n (.lst [])) n=some (.lst [])from eG))]at hhm;cases hhm
 have d5:hm≠r:=fun z=>by rw[z,S3 _ _ (show(L2.Internal.upd (L2.Internal.upd H n (.lst [])) r (.lst [])) r=some (.lst [])from eG)]at hhm;cases hhm
 have d6:hm≠rw':=fun z=>by rw[z,show(L2.Internal.upd (L2.Internal.upd (L2.Internal.upd H n (.lst [])) r (.lst [])) rw' (.lst [])) rw'=some (.lst [])from eG]at hhm;cases hhm
 have ds:sa≠n/\sa≠r/\sa≠rw'/\sa≠hm:=by
  refine⟨fun z=>?_,fun z=>?_,fun z=>?_,fun z=>?_⟩
  ·rw[z,S4 _ _ (S3 _ _ (S2 _ _ (show(L2.Internal.upd H n (.lst [])) n=some (.lst [])from eG)))]at hsa;cases hsa
  ·rw[z,S4 _ _ (S3 _ _ (show(L2.Internal.upd (L2.Internal.upd H n (.lst [])) r (.lst [])) r=some (.lst [])from eG))]at hsa;cases hsa
  ·rw[z,S4 _ _ (show(L2.Internal.upd (L2.Internal.upd (L2.Internal.upd H n (.lst [])) r (.lst [])) rw' (.lst [])) rw'=some (.lst [])from eG)]at hsa;cases hsa
  ·rw[z,show(L2.Internal.upd (L2.Internal.upd (L2.Internal.upd (L2.Internal.upd H n (.lst [])) r (.lst [])) rw' (.lst [])) hm (.lst [])) hm=some (.lst [])from eG]at hsa;cases hsa
 clear hn hr' hrw hhm hsa S1 S2 S3 S4 S5
 generalize(L2.Internal.upd (L2.Internal.upd (L2.Internal.upd (L2.Internal.upd (L2.Internal.upd H n (.lst [])) r (.lst [])) rw' (.lst [])) hm (.lst [])) sa (.lst []))=H0 at*
 have lx:=ix.length
 rw[aA]at lx
 refine⟨l,rfl,⟨_,SqL.of (S0 _ _ hl)⟩,vR (xs:=xs) (fun k σ H4=>X10 fun(o7 o8:Option V) (sa:Addr) (ss:List V) (sc:Sc) (dn:List Pc) (ps:List Nat) (ns:List Str) (rr hh:List V)=>Y17 (σ=[some (.ref wa),some (.ref l),some (.ref n),some (.ref r),some (.ref rw'),some (.ref hm),some (.ref sa),o7,o8]) (fG H H4) (dn++pcD (wdE wl) (ts.drop k) k dn.length sc=pcD (wdE wl) ts 0 0 []) (ps++gy (ts.drop k) dn.length=gy ts 0) (ps.length=k) (dn.length=szs (ts.take k)) (H4 sa=some (.lst ss)) (Ims H4 ss (sc.map enD)) (ss.length=k) ((sa≠n/\sa≠r/\sa≠rw'/\sa≠hm)) (H4 n=some (.lst (ns.map V.str))) (ns.length=k) (H4 r=some (.lst (ps.map nI))) (H4 rw'=some (.lst rr)) (Ims H4 rr (dn.map rD)) (H4 hm=some (.lst hh)) (Ims H4 hh (dn.map hD'))) ?_ ?_ ?_ ?_⟩
 ·exact⟨none,none,sa,[],[],[],[],[],[],[],rfl,S0,rfl,rfl,rfl,rfl,es0,.nil,rfl,ds,en0,rfl,er0,ew0,.nil,eh0,.nil⟩
 ·rintro k σ H4 _ ⟨o7,o8,sa,ss,sc,dn,ps,ns,rr,hh,_,S,_⟩
  exact SqL.of (S _ _ hl)
 ·rintro k v σ H4 t4 hv ⟨o7,o8,sa,ss,sc,dn,ps,ns,rr,hh,rfl,S,hdn,hps,lps,ldn,es,is,lss,⟨m1,m2,m3,m4⟩,en,lns,er,ew,iw,eh,ih⟩ h4
  obtain⟨dv,e1,iv⟩:=jy ix hv
  rw[aI]at e1
  obtain⟨t,ht,rfl⟩:=cm.mp e1
  have hk:k<ts.length:=(ao.mp ht).1
  rw[oA ht]at hdn hps
  obtain⟨⟨N,okt⟩,nt⟩:=ok t (aK ht)
  have lsz:=CH ht
  have T4:=eL h4 (.tup [.int (k:Int),v])
  refine⟨t4,_,rfl,SqT.of eG,rfl,_,_,rfl,_,_,rfl,rfl,?_⟩
  have ek:(wl.map V.str)[3+k]?=some (.str (wdE wl k)):=by
   rw[aI,aZ (show 3+k<wl.length by lia)]
   show some (V.str _)=_
   unfold wdE
   rw[bj,aZ (show 3+k<wl.length by lia)]
   rfl
  have c3:(3:Int)+(k:Int)=((3+k:Nat):Int):=by lia
  have ea:atI (wl.map V.str) ((3:Int)+(k:Int))=some (.str (wdE wl k)):=by rw[c3];exact eM ek
  have S4:=S.trans T4
  have hw4:=S4 _ _ hw
  refine⟨_,hw4,eP ea ⟨jO,fun t1 h1=>⟨jO,fun t2 h2=>⟨kO,fun l3 h3=>?_⟩⟩⟩⟩
  have T1:=eL h1 (.tup [.str "def",.int (k:Int)])
  have T2:=eL h2 (.tup [.str (wdE wl k),.ref t1])
  have T3:=eL h3 (.lst [.ref t2])
  have T13:=T4.trans (T1.trans (T2.trans T3))
  refine⟨sa,l3,ss,_,rfl,rfl,T13 _ _ es,eG,by rw[lss];show k+ 1<=_;lia,fun s5 h5=>?_⟩
  dsimp only[fu]
  have T5:=eL h5 (.lst (ss++[.ref t2]))
  have T45:=T13.trans T5
  have is5:Ims (L2.Internal.upd (L2.Internal.upd (L2.Internal.upd (L2.Internal.upd (L2.Internal.upd H4 t4 (.tup [.int (k:Int),v])) t1 (.tup [.str "def",.int (k:Int)])) t2 (.tup [.str (wdE wl k),.ref t1])) l3 (.lst [.ref t2])) s5 (.lst (ss++[.ref t2]))) (ss++[.ref t2]) ((sc++[dfE (wdE wl) k 0]).map enD):=by
   rw[bz]
   exact(is.mono (fG.tk T45)).app (.cons ((Av (H1:=H4) h1 h2).mono (fG.tk (T3.trans T5))) .nil)
  have es5:(L2.Internal.upd (L2.Internal.upd (L2.Internal.upd (L2.Internal.upd (L2.Internal.upd H4 t4 (.tup [.int (k:Int),v])) t1 (.tup [.str "def",.int (k:Int)])) t2 (.tup [.str (wdE wl k),.ref t1])) l3 (.lst [.ref t2])) s5 (.lst (ss++[.ref t2]))) s5=some (.lst (ss++[.ref t2])):=eG
  have nx:∀{a:Addr} {o:HO},H4 a=some o->s5≠a:=fun e z=>by rw[<-z]at e;rw[T13 _ _ e]at h5;cases h5
  have m1:=nx en
  have m2:=nx er
  have m3:=nx ew
  have m4:=nx eh
  generalize(L2.Internal.upd (L2.Internal.upd (L2.Internal.upd (L2.Internal.upd (L2.Internal.upd H4 t4 (.tup [.int (k:Int),v])) t1 (.tup [.str "def",.int (k:Int)])) t2 (.tup [.str (wdE wl k),.ref t1])) l3 (.lst [.ref t2])) s5 (.lst (ss++[.ref t2])))=H5 at T45 is5 es5
  have en5:=T45 _ _ en
  refine⟨⟨_,en5⟩,_,T45 _ _ (S _ _ hw),eP ea ⟨_,en5,by rw[aA];lia,?_⟩⟩
  have k6:TK H5 (L2.Internal.upd H5 n (.lst (ns.map V.str++[.str (wdE wl k)]))):=(gH en5).tk
  have er6:(L2.Internal.upd H5 n (.lst (ns.map V.str++[.str (wdE wl k)]))) r=some (.lst (ps.map nI)):=by rw[eN d1];exact T45 _ _ er
  have ew6:(L2.Internal.upd H5 n (.lst (ns.map V.str++[.str (wdE wl k)]))) rw'=some (.lst rr):=by rw[eN d2];exact T45 _ _ ew
  refine⟨⟨_,er6⟩,rw',_,rfl,.inl (SqL.of ew6),_,er6,by rw[aA];lia,?_⟩
  have lrr:=iw.length
  have lhh:=ih.length
  rw[aA]at lrr lhh
  rw[lrr]
  have k7:TK H5 (L2.Internal.upd (L2.Internal.upd H5 n (.lst (ns.map V.str++[.str (wdE wl k)]))) r (.lst (ps.map nI++[.int (dn.length:Int)]))):=fun a ws e=>(gH er6).tk _ _ (k6 _ _ e)
  have es7:(L2.Internal.upd (L2.Internal.upd H5 n (.lst (ns.map V.str++[.str (wdE wl k)]))) r (.lst (ps.map nI++[.int (dn.length:Int)]))) s5=some (.lst (ss++[.ref t2])):=by rw[eN m2,eN m1];exact es5
  have ew7:(L2.Internal.upd (L2.Internal.upd H5 n (.lst (ns.map V.str++[.str (wdE wl k)]))) r (.lst (ps.map nI++[.int (dn.length:Int)]))) rw'=some (.lst rr):=by rw[eN d3];exact ew6
  have eh7:(L2.Internal.upd (L2.Internal.upd H5 n (.lst (ns.map V.str++[.str (wdE wl k)]))) r (.lst (ps.map nI++[.int (dn.length:Int)]))) hm=some (.lst hh):=by rw[eN d5,eN d4];exact T45 _ _ eh
  have en7:(L2.Internal.upd (L2.Internal.upd H5 n (.lst (ns.map V.str++[.str (wdE wl k)]))) r (.lst (ps.map nI++[.int (dn.length:Int)]))) n=some (.lst ((ns++[wdE wl k]).map V.str)):=by rw[eN d1.symm,eG,bz];rfl
  have er7:(L2.Internal.upd (L2.Internal.upd H5 n (.lst (ns.map V.str++[.str (wdE wl k)]))) r (.lst (ps.map nI++[.int (dn.length:Int)]))) r=some (.lst ((ps++[dn.length]).map nI)):=by rw[eG,bz];rfl
  have S7:fG H (L2.Internal.upd (L2.Internal.upd H5 n (.lst (ns.map V.str++[.str (wdE wl k)]))) r (.lst (ps.map nI++[.int (dn.length:Int)]))):=fun a u e=>by
   rw[eN (eT e (n0 r (by simp))),eN (eT e (n0 n (by simp)))]
   exact T45 _ _ (S _ _ e)
  generalize(L2.Internal.upd (L2.Internal.upd H5 n (.lst (ns.map V.str++[.str (wdE wl k)]))) r (.lst (ps.map nI++[.int (dn.length:Int)])))=H7 at k7 es7 ew7 eh7 en7 er7 S7
  have k47:TK H4 H7:=fun a ws e=>k7 _ _ (T45 _ _ e)
  refine⟨v,t,s5,rw',hm,ss++[.ref t2],rr,hh,sc++[dfE (wdE wl) k 0],dn.length,k,N,rfl,iv.mono (fG.tk S7),nt,es7,is5.mono k7,ew7,eh7,lrr,lhh,d6.symm,m3,m4,okt,by lia,by rw[aM,lss];show k+ 1+_<=_;lia,fun H8 rs' hs' F8 er8 ir8 eh8 ih8=>?_⟩
  have k78:=F8.tk ew7 eh7
  have k48:TK H4 H8:=fun a ws e=>k78 _ _ (k47 _ _ e)
  have k58:TK H5 H8:=fun a ws e=>k78 _ _ (k7 _ _ e)
  rw[pcD,<-bE]at hdn
  refine⟨_,_,s5,ss++[.ref t2],sc++[dfE (wdE wl) k (wT t (val (sc++[dfE (wdE wl) k 0])))],dn++pcT t dn.length (sc++[dfE (wdE wl) k 0]) k,ps++[dn.length],ns++[wdE wl k],rr++rs',hh++hs',rfl,fun a u e=>F8 _ _ (S7 _ _ e) (eT e (n0 rw' (by simp))) (eT e (n0 hm (by simp))),?_,?_,by rw[aM,lps];rfl,by rw[aM,jN,sH ht,ldn],F8 _ _ es7 m3 m4,?_,by rw[aM,lss];rfl,⟨m1,m2,m3,m4⟩,F8 _ _ en7 d2.symm d4.symm,by rw[aM,lns];rfl,F8 _ _ er7 d3.symm d5.symm,er8,?_,eh8,?_⟩
  ·rw[aM,jN];exact hdn
  ·rw[aM,jN,bE];exact hps
  ·have e0:(sc++[dfE (wdE wl) k (wT t (val (sc++[dfE (wdE wl) k 0])))]).map enD=(sc++[dfE (wdE wl) k 0]).map enD:=by rw[bz,bz];rfl
   rw[e0]
   exact is5.mono k58
  ·rw[bz];exact(iw.mono k48).app ir8
  ·rw[bz];exact(ih.mono k48).app ih8
 ·rintro σ H4 ⟨o7,o8,sa,ss,sc,dn,ps,ns,rr,hh,rfl,S,hdn,hps,lps,ldn,es,is,lss,ms,en,lns,er,ew,iw,eh,ih⟩
  rw[lx,bC]at hdn hps
  rw[show pcD (wdE wl) [] ts.length dn.length sc=[]from rfl,aB]at hdn
  rw[show gy [] dn.length=[]from rfl,aB]at hps
  subst hdn hps
  refine⟨qB,fun b hb=>?_⟩
  have Tb:=eL hb (.lst [.ref n,.ref r,.ref rw',.ref hm])
  have kb:=fG.tk Tb
  refine q _ b n r rw' hm ⟨S.trans Tb,eG,⟨ns,Tb _ _ en,lns.trans lx⟩,Tb _ _ er,⟨rr,Tb _ _ ew,iw.mono kb⟩,⟨hh,Tb _ _ eh,ih.mono kb⟩,fun a ha=>?_⟩
  rcases ai.mp ha with rfl|ha
  ·cases z:H a with
   |none=>rfl
   |some u=>rw[S _ _ z]at hb;cases hb
  ·exact n0 a ha
def ui:Sp:=fun vs H Q _=>∃c m:Int,vs=[.int c,.int m]/\0<=m/\m<=100/\∀x:Str,x.length<=100->Q (.str x) H
theorem sg36:("abcdefghijklmnopqrstuvwxyz0123456789":Str).cps.toList.length=36:=fo
theorem lI (c:Nat):(⟨#[c]⟩:Str).length=1:=rfl
theorem uj (T:Txt K mg):FO P w base 1 T.d26 ui:=by
 refine T.d26.F.rd gJ fun cdv A outer s H vs Q E hr h=>?_
 obtain⟨c,m,rfl,h0,h1,q⟩:=h
 refine⟨_,(eJ (pS (i:=2) gJ.nd eZ)
  (eJ (pS (i:=3) gJ.nd eZ)
  (eJ (jb PassesOwn.never rfl (gS rfl T.z_range (eE (pv 1) eF)) (pN (i:=4) gJ.nd)
   (eJ (pS (i:=5) gJ.nd eK)
   (eJ (fV (rO wk (pv 4) eK)
    (eO (pS (i:=5) gJ.nd eK))
    fF)
   (eJ (pS (i:=3) gJ.nd (fC lJ (pv 3) (eU xV (pv 2) (fC pE (pv 0) (pv 5)))))
   (eO (pS (i:=0) gJ.nd (fC mi (pv 0) eK)))))))
  (eO (fm (pv 3)))))),?_⟩
 have sl:=sizeLine_eq
 refine⟨_,rfl,_,rfl,by lia,by lia,kl (fun i σ H2=>∃(y:Str) (c:Int) (o o2:Option V),σ=[some (.int c),some (.int m),some (.str "abcdefghijklmnopqrstuvwxyz0123456789"),some (.str y),o,o2]/\H2=H/\y.length<=i)
  ⟨"",c,none,none,rfl,rfl,bX _⟩ ?_ ?_⟩
 ·rintro i σ H2 hi ⟨y,c,o,o2,rfl,rfl,hy⟩
  have step:∀n:Int,(n=26\/n=36)->∃ch:Nat,atI ("abcdefghijklmnopqrstuvwxyz0123456789":Str).cps.toList (c%n)=some ch:=fun n hn=>by
   have hp:(0:Int)<n:=by lia
   have a0:=dS c (Int.ne_of_gt hp)
   have a1:=dU c hp
   obtain⟨ch,e,_⟩:=AW ("abcdefghijklmnopqrstuvwxyz0123456789":Str).cps.toList (c%n) a0 (by rw[sg36];lia)
   exact⟨ch,e⟩
  refine⟨_,rfl,rfl,_,rfl,GH (fun _=>?_) (fun _=>?_)⟩
  ·obtain⟨ch,e⟩:=step 26 (.inl rfl)
   refine⟨_,rfl,_,rfl,_,rfl,_,rfl,_,_,rfl,rfl,(by show(0:Int)<26;decide),_,_,_,rfl,rfl,sz fo,e,_,_,rfl,rfl,by rw[lI];lia,?_⟩
   refine⟨_,rfl,_,_,rfl,rfl,⟨by decide,by decide⟩,?_⟩
   exact⟨_,_,_,_,rfl,rfl,by rw[Str.length_append,lI];lia⟩
  ·obtain⟨ch,e⟩:=step 36 (.inr rfl)
   refine⟨_,rfl,_,rfl,_,rfl,_,rfl,_,_,rfl,rfl,(by show(0:Int)<36;decide),_,_,_,rfl,rfl,sz fo,e,_,_,rfl,rfl,by rw[lI];lia,?_⟩
   refine⟨_,rfl,_,_,rfl,rfl,⟨by decide,by decide⟩,?_⟩
   exact⟨_,_,_,_,rfl,rfl,by rw[Str.length_append,lI];lia⟩
 ·rintro σ H2 ⟨y,c,o,o2,rfl,rfl,hy⟩
  exact⟨_,rfl,q y (by lia)⟩
def sgn (k:Nat):Nat:=("abcdefghijklmnop":Str).cps.toList.getD k 0
def w1 (A B:Str) (k:Nat):Str:=A++⟨#[sgn k]⟩++B
def t7 (z:Int):Nat:=(atI ("t7":Str).cps.toList z).getD 0
def part (j:Nat):Int:=([8,4,2,1]:List Int).getD j 1
def bit (k j:Nat):Nat:=t7 ((0+(k:Int))/part j%2)
def w2 (x:Str) (k:Nat):Nat->Str
 |0=>x
 |j+ 1=>w2 x k j++⟨#[bit k j]⟩
theorem CJ {l:List Nat} {i:Nat} (h:i<l.length):atI l (0+(i:Int))=some (l.getD i 0):=by
 rw[dW,bj,aZ h]
 exact eM (aZ h)
theorem vY (a b:Str):(a++b).cps.toList=a.cps.toList++b.cps.toList:=Array.toList_append
theorem uk {f:Nat->Str} (h:∀a,a<16->∀b,b<16->a≠b->f a≠f b):((aa 16).map f).Nodup:=by
 rw[List.Nodup,List.pairwise_map]
 refine List.Pairwise.imp_of_mem (fun{a b} ha hb hlt=>?_) List.pairwise_lt_range
 exact h a (ae.mp ha) b (ae.mp hb) (bT hlt)
theorem Ez:∀a,a<16->∀b,b<16->a≠b->sgn a≠sgn b:=fo
theorem EA:∀a,a<16->∀b,b<16->a≠b->[bit a 0,bit a 1,bit a 2,bit a 3]≠[bit b 0,bit b 1,bit b 2,bit b 3]:=fo
theorem Aw (A B:Str):((aa 16).map (w1 A B)).Nodup:=uk fun a ha b hb hn e=>by
 have h:=congrArg (fun z:Str=>z.cps.toList) e
 simp only[w1,vY]at h
 have h2:=bN (List.append_cancel_right h)
 injection h2 with h3 _
 exact Ez a ha b hb hn h3
theorem Ax (x:Str):((aa 16).map fun k=>w2 x k 4).Nodup:=uk fun a ha b hb hn e=>by
 have h:=congrArg (fun z:Str=>z.cps.toList) e
 simp only[w2,vY,bE]at h
 have h2:=bN h
 exact EA a ha b hb hn h2
theorem rG {f:Nat->Str} (i:Nat):(aa (i+ 1)).map f=(aa i).map f++[f i]:=by
 rw[bO,bz]
 rfl
def Wd (H:Hp) (l:Addr):Prop:=∃ws:List Str,H l=some (.lst (ws.map V.str))/\ws.length=16/\ws.Nodup
def sL:Sp:=fun vs H Q _=>∃c:Int,vs=[.int c]/\∀l H',fG H H'->H l=none->Wd H' l->Q (.ref l) H'
theorem sM (T:Txt K mg):FO P w base 2 T.d27 sL:=by
 have gD26:=uj (P:=P) (w:=w) (base:=base) T
 refine T.d27.F.rd fR fun cdv A outer s H vs Q E hr h=>?_
 obtain⟨c,rfl,q⟩:=h
 refine⟨_,(eJ (pS (i:=0) fR.nd (fC pE (pv 0) (fC AH eK eK)))
  (eJ (pS (i:=1) fR.nd (fC vp (fC pE (pv 0) eK) eK))
  (eJ (pS (i:=2) fR.nd (fq eF))
  (eJ (fV (rO wk (fC pE (fC mi (pv 0) eK) eK) eK)
   (eJ (pS (i:=3) fR.nd (pF T.d26 gD26 hr.m (eE (fC mi (pv 0) eK) (eE (fC vp (pv 1) eK) eF))))
   (eJ (pS (i:=4) fR.nd (fC pE (fC mi (pv 0) eK) (fC vp (pv 1) eK)))
   (eJ (jb PassesOwn.never rfl (gS rfl T.z_range (eE eK eF)) (pN (i:=5) fR.nd)
    (eO (eW (gu dD dE dF fh (pv 2) (eE (fC lJ (fC lJ (lM AU (pv 3) nM (nN (pv 4))) (eU xV eZ (pv 5))) (lM AU (pv 3) (nN (pv 4)) nM)) eF)))))
   (eO (fm (pv 2))))))
   fF)
  (eJ (pS (i:=3) fR.nd (pF T.d26 gD26 hr.m (eE (fC mi (pv 0) eK) (eE (pv 1) eF))))
  (eJ (jb PassesOwn.never rfl (gS rfl T.z_range (eE eK eF)) (pN (i:=5) fR.nd)
   (eJ (pS (i:=6) fR.nd (pv 3))
   (eJ (jb PassesOwn.never rfl (kP (fq (eE eK (eE eK (eE eK (eE eK eF)))))) (pN (i:=7) fR.nd)
    (eO (pS (i:=6) fR.nd (fC lJ (pv 6) (eU xV eZ (fC pE (fC mi (pv 5) (pv 7)) eK))))))
   (eO (eW (gu dD dE dF fh (pv 2) (eE (pv 6) eF)))))))
  (eO (fm (pv 2))))))))),?_⟩
 have sl:=sizeLine_eq
 refine⟨_,rfl,_,_,rfl,rfl,⟨by decide,by decide,by decide⟩,_,_,rfl,rfl,(by show(0:Int)<10^(24:Int).toNat;decide+kernel),?_⟩
 dsimp only
 generalize c%10^(24:Int).toNat=c
 refine⟨_,rfl,_,_,rfl,rfl,(by show(0:Int)<8;decide),_,_,rfl,rfl,?_⟩
 have s0:=dS c (show(8:Int)≠0 by decide)
 have s1:=dU c (show(0:Int)<8 by decide)
 refine⟨ki,fun l hl=>?_⟩
 have fin:∀(f:Nat->Str) (H2:Hp),fG H H2->H2 l=some (.lst (((aa 16).map f).map V.str))->((aa 16).map f).Nodup->Q (.ref l) H2:=fun f H2 S e hw=>q l H2 S hl ⟨_,e,by rw[aA,bP],hw⟩
 have S1:fG H (upd H l (.lst [])):=eL hl _
 refine⟨_,rfl,_,_,rfl,rfl,⟨by decide,by decide⟩,_,_,rfl,rfl,(by show(0:Int)<2;decide),rfl,_,rfl,GH (fun _=>?_) (fun _=>?_)⟩
 ·refine⟨_,rfl,_,_,rfl,rfl,⟨by decide,by decide⟩,_,rfl,_,_,rfl,rfl,_,_,rfl,by lia,by lia,fun x hx=>?_⟩
  refine⟨_,rfl,_,_,rfl,rfl,⟨by decide,by decide⟩,_,rfl,_,_,rfl,rfl,_,_,rfl,rfl,(by show(0:Int)<c%8+ 1+ 4;lia),?_⟩
  dsimp only
  generalize c/16%(c%8+ 1+ 4)=at_
  refine⟨16,rfl,by decide,by decide,kl (fun i σ H2=>∃(o:Option V),σ=[some (.int c),some (.int (c%8+ 1)),some (.ref l),some (.str x),some (.int at_),o,none,none]/\fG H H2/\H2 l=some (.lst (((aa i).map (w1 (Txt.slice x none (some at_)) (Txt.slice x (some at_) none))).map V.str)))
   ⟨none,rfl,S1,eG⟩ ?_ ?_⟩
  ·rintro i σ H2 hi ⟨o,rfl,S,e⟩
   have hi16:i<16:=hi
   have e1:=CJ (l:=("abcdefghijklmnop":Str).cps.toList) (i:=i) (by rw[show("abcdefghijklmnop":Str).cps.toList.length=16 by decide+kernel];lia)
   have la:=Txt.slice_le x none (some at_)
   have lb:=Txt.slice_le x (some at_) none
   refine⟨_,rfl,.inl ⟨rfl,_,SqL.of e⟩,_,rfl,_,rfl,_,rfl,_,rfl,by lia,_,rfl,_,_,_,rfl,rfl,sz fo,e1,_,_,rfl,rfl,by rw[lI];lia,_,rfl,_,rfl,_,rfl,_,rfl,by lia,_,_,rfl,rfl,by rw[Str.length_append,lI];lia,l,_,_,rfl,rfl,e,by rw[aA,aA,bP];lia,?_⟩
   refine⟨_,rfl,sr S hl _,?_⟩
   rw[eG,rG,bz]
   rfl
  ·rintro σ H2 ⟨o,rfl,S,e⟩
   exact⟨_,rfl,fin _ H2 S e (Aw _ _)⟩
 ·refine⟨_,rfl,_,_,rfl,rfl,⟨by decide,by decide⟩,_,rfl,_,_,rfl,by lia,by lia,fun x hx=>?_⟩
  refine⟨16,rfl,by decide,by decide,kl (fun i σ H2=>∃(o o2 o3:Option V),σ=[some (.int c),some (.int (c%8+ 1)),some (.ref l),some (.str x),none,o,o2,o3]/\fG H H2/\H2 l=some (.lst (((aa i).map fun k=>w2 x k 4).map V.str)))
   ⟨none,none,none,rfl,S1,eG⟩ ?_ ?_⟩
  ·rintro i σ H2 hi ⟨o,o2,o3,rfl,S,e⟩
   have hi16:i<16:=hi
   refine⟨_,rfl,qB,fun p hp=>⟨p,rfl,⟨_,SqL.of eG⟩,?_⟩⟩
   have S2:fG H (upd H2 p (.lst [V.int 8,V.int 4,V.int 2,V.int 1])):=S.trans (eL hp _)
   have nlp:l≠p:=eT e hp
   refine rN (xs:=[V.int 8,V.int 4,V.int 2,V.int 1]) (fun j σ H3=>∃(o3:Option V),σ=[some (.int c),some (.int (c%8+ 1)),some (.ref l),some (.str x),none,some (.int (0+(i:Int))),some (.str (w2 x i j)),o3]/\H3=upd H2 p (.lst [V.int 8,V.int 4,V.int 2,V.int 1])/\(w2 x i j).length<=100+j)
    ⟨o3,rfl,rfl,hx⟩ (fun j σ H3 _ ⟨o4,_,e3,_⟩=>by rw[e3];exact SqL.of eG) ?_ ?_
   ·rintro j v σ H3 hv ⟨o4,rfl,rfl,hy⟩
    have hj:j<4:=(ao.mp hv).1
    have hn:v= .int (part j)/\0<part j/\part j<1073741824:=by
     match j,hj,hv with
     |0,_,hv=>cases hv;exact⟨rfl,by decide,by decide⟩
     |1,_,hv=>cases hv;exact⟨rfl,by decide,by decide⟩
     |2,_,hv=>cases hv;exact⟨rfl,by decide,by decide⟩
     |3,_,hv=>cases hv;exact⟨rfl,by decide,by decide⟩
    obtain⟨rfl,n0,n1⟩:=hn
    obtain⟨ch,e1,_⟩:=AW ("t7":Str).cps.toList ((0+(i:Int))/part j%2) (dS _ (by decide)) (by rw[show("t7":Str).cps.toList.length=2 by decide+kernel];exact dU _ (by decide))
    have ech:ch=bit i j:=by rw[bit,t7,e1];rfl
    subst ech
    refine⟨_,rfl,_,rfl,_,rfl,_,_,rfl,rfl,⟨n0,n1⟩,_,_,rfl,rfl,(by show(0:Int)<2;decide),_,_,_,rfl,rfl,sz fo,e1,_,_,rfl,rfl,by rw[lI];lia,?_⟩
    exact⟨_,rfl,rfl,by rw[w2,Str.length_append,lI];lia⟩
   ·rintro σ H3 ⟨o4,rfl,rfl,hy⟩
    have e4:(upd H2 p (.lst [V.int 8,V.int 4,V.int 2,V.int 1])) l=some (.lst (((aa i).map fun k=>w2 x k 4).map V.str)):=by rw[eN nlp];exact e
    refine⟨_,rfl,.inl ⟨rfl,_,SqL.of e4⟩,_,rfl,l,_,_,rfl,rfl,e4,by rw[aA,aA,bP];lia,?_⟩
    refine⟨_,_,_,rfl,sr S2 hl _,?_⟩
    rw[eG,rG,bz]
    rfl
  ·rintro σ H2 ⟨o,o2,o3,rfl,S,e⟩
   exact⟨_,rfl,fin _ H2 S e (Ax x)⟩
def Ay:Nat->Sp
 |0=>fun _ _ _ _=>False
 |n+ 1=>fun vs H Q _=>X3 fun(x y:V) (d:Dt)=>Y6 (vs=[x,y]) (Dta H x d) (Dta H y d) (lX d<=n) (okD d) (∀H',fG H H'->Q (.bl true) H')
theorem zo {K:PySem.W.Frag} {H:Hp} {a:Addr} {xs:List V} (h:H a=some (.tup xs)):Fc K (.ref a) H xs.length:= .inr ⟨xs,SqT.of h,rfl⟩
theorem zp {K:PySem.W.Frag} {H:Hp} {a:Addr} {xs:List V} (h:H a=some (.lst xs)):Fc K (.ref a) H xs.length:= .inl ⟨xs,SqL.of h,rfl⟩
theorem sN (n:Nat):(aE n true).all id=true:=by
 rw[List.all_eq_true]
 intro b hb
 exact(List.mem_replicate.mp hb).2
theorem vc {J:It} {g:TG} {te:TE} {Q:VK} {τ:St} {H1:Hp} {D:Addr} (n:Nat) (hn:n<sizeLine) (hD:H1 D=none)
  (hgo:∀k H,fG H1 H->k<n->J.go k H) (hst:∀H,fG H1 H->J.stop n H)
  (step:∀(k:Nat) (H:Hp) (v:V) (H3:Hp) (R:St->V->Hp->Prop),fG H1 H->k<n->J.yld k H v H3->∀σ':St,σ'.length=τ.length->(∀(σ4:St) (H5:Hp),σ4.length=τ.length->fG H H5->R σ4 (.bl true) H5)->g v σ' H3 fun σ4 H4=>te σ4 H4 (R σ4))
  (hq:∀H',fG H1 H'->H' D=some (.lst ((aE n true).map V.bl))->Q (.ref D) H'):LcG J g te Q τ H1 D:=by
 refine⟨fun k m σ' H2=>m=n-k/\k<=n/\σ'.length=τ.length/\fG H1 H2/\H2 D=some (.lst ((aE k true).map V.bl)),⟨n,by simp,bY _,rfl,eL hD _,eG⟩,?_⟩
 rintro k m σ' H2 ⟨rfl,hk,hl,S,e⟩
 by_cases hlt:k<n
 ·refine .inr ⟨hgo k H2 S hlt,fun v H3 y=>step k H2 v H3 (fun(σ4:St) (x:V) (H5:Hp)=>∃xs,H5 D=some (.lst xs)/\xs.length<sizeLine/\∃m',m'<n-k/\m'=n-(k+ 1)/\k+ 1<=n/\σ4.length=τ.length/\fG H1 (upd H5 D (.lst (xs++[x])))/\(upd H5 D (.lst (xs++[x]))) D=some (.lst ((aE (k+ 1) true).map V.bl))) S hlt y σ' hl fun σ4 H5 h4 S5=>?_⟩
  refine⟨_,S5 D _ e,by rw[aA,aN];lia,n-(k+ 1),by lia,rfl,hlt,h4,sr (S.trans S5) hD _,?_⟩
  rw[eG,bQ,bz]
  rfl
 ·have e1:k=n:=by lia
  subst e1
  exact .inl ⟨hst H2 S,hq H2 S e⟩
theorem nK (T:Txt K mg):∀n,FO P w base (n+ 1) T.d28 (Ay n)
 |0=>T.d28.F.ok nq (fun vs H Q E h=>h.elim) (fun cdv A outer s H vs Q E hr h=>h.elim)
 |n+ 1=>by
  have gD28:=nK (P:=P) (w:=w) (base:=base) T n
  refine T.d28.F.rd nq fun cdv A outer s H vs Q E hr h=>?_
  obtain⟨x,y,d,rfl,hx,hy,hd,ho,q⟩:=h
  refine⟨_,(eJ (fV (oF (fD tI rfl T.z_isinstance gb (eE (pv 1) (eE (fe (eE (kR rfl T.z_list jT) (eE (kR rfl T.z_tuple iM) eF))) eF))))
   (eJ (fV (PW.pt (xw (xx (oF (fD tI rfl T.z_isinstance gb (eE (pv 0) (eE (fe (eE (kR rfl T.z_list jT) (eE (kR rfl T.z_tuple iM) eF))) eF))))) (vm (rO Dz (fD ko rfl T.z_isinstance gb (eE (pv 0) (eE (kR rfl T.z_list jT) eF))) (fD ko rfl T.z_isinstance gb (eE (pv 1) (eE (kR rfl T.z_list jT) eF)))))))
    (eO (fm xr))
    fF)
   (eO (fm (vn (nL wk (fD vq rfl T.z_len gU (eE (pv 0) eF)) (fD vq rfl T.z_len gU (eE (pv 1) eF))) (sX (fD (vy rfl) rfl T.z_all AR (eE (yk (g:=Dd K 2 (pq (fu 0) (pq (fu 1) Dc))) rfl (BY (x:="_law_one") (y:="_law_other") rfl fo fo rfl (by decide) rfl) (PI.or (yh rfl T.z_zip (eE (pv 0) (eE (pv 1) eF))) (B0 rfl T.z_zip (eE (pv 0) (eE (pv 1) eF)))) (pgP rfl fo rfl rfl) (fun _ _ _ _ _=>(pF T.d28 gD28 (hr.mono (by lia)) (eE (pv 0) (eE (pv 1) eF))))) eF)))))))
   fF)
  (eJ (fV (oF (fD ko rfl T.z_isinstance gb (eE (pv 1) (eE (kR rfl T.z_str AS) eF))))
   (eO (fm (vn (fD ko rfl T.z_isinstance gb (eE (pv 0) (eE (kR rfl T.z_str AS) eF))) (sX (nL wk (pv 0) (pv 1))))))
   fF)
  (eJ (fV (AF (xu (pv 1)))
   (eO (fm (Dn (xu (pv 0)))))
   fF)
  (eO (fm (vn (fD ko rfl T.z_isinstance gb (eE (pv 0) (eE (kR rfl T.z_int yb) eF))) (vn (Dr (fD ko rfl T.z_isinstance gb (eE (pv 0) (eE (kR rfl T.z_bool BS) eF)))) (sX (nL wk (pv 0) (pv 1)))))))))),?_⟩
  have sl:=sizeLine_eq
  cases hy with
  |flat h=>
   cases hx
   cases x with
   |non=>
    refine⟨_,rfl,jO,fun t ht=>⟨_,t,["list","tuple"],_,false,rfl,eG,.non,rfl,_,rfl,jP ?_⟩⟩
    refine⟨_,rfl,_,_,_,_,false,rfl,fun _ r=>r,.non,rfl,_,rfl,jP ?_⟩
    refine⟨_,rfl,_,rfl,?_⟩
    rw[gM rfl]
    refine kj ⟨_,rfl,?_⟩
    dsimp only
    rw[gM rfl]
    exact q _ (eL ht _)
   |int i=>
    refine⟨_,rfl,jO,fun t ht=>⟨_,t,["list","tuple"],_,false,rfl,eG,.int i,rfl,_,rfl,jP ?_⟩⟩
    refine⟨_,rfl,_,_,_,_,false,rfl,fun _ r=>r,.int i,rfl,_,rfl,jP ?_⟩
    refine⟨_,rfl,_,rfl,?_⟩
    rw[gk (fun z=>nomatch z)]
    refine jP ⟨_,rfl,_,_,_,_,true,rfl,fun _ r=>r,.int i,rfl,_,rfl,kj ⟨_,rfl,_,_,_,_,false,rfl,fun _ r=>r,.int i,rfl,_,rfl,_,rfl,kj ⟨_,rfl,_,rfl,rfl,?_⟩⟩⟩
    dsimp only
    rw[gM rfl]
    exact q _ (eL ht _)
   |str z=>
    refine⟨_,rfl,jO,fun t ht=>⟨_,t,["list","tuple"],_,false,rfl,eG,.str z,rfl,_,rfl,jP ?_⟩⟩
    refine⟨_,rfl,_,_,_,_,true,rfl,fun _ r=>r,.str z,rfl,_,rfl,kj ?_⟩
    refine⟨_,rfl,_,_,_,_,true,rfl,fun _ r=>r,.str z,rfl,_,rfl,kj ⟨_,rfl,_,rfl,rfl,?_⟩⟩
    dsimp only
    rw[gM rfl]
    exact q _ (eL ht _)
   |bl b=>cases h
   |byt b=>cases h
   |flt b=>cases h
   |ref a=>cases h
   |ty n=>cases h
  |@tup b ys ds hb hys=>
   cases hx with
   |@tup a xs _ ha hxs=>
   have lx:=hxs.length
   have ly:=hys.length
   have dd:iF ds+ 1<=n:=hd
   refine⟨_,rfl,jO,fun t ht=>⟨_,t,["list","tuple"],_,true,rfl,eG,.tup (eL ht _ _ _ hb),rfl,_,rfl,kj ?_⟩⟩
   have S1:fG H (upd H t (.tup [V.ty "list",V.ty "tuple"])):=eL ht _
   generalize upd H t (.tup [V.ty "list",V.ty "tuple"])=H1 at S1⊢
   refine⟨_,rfl,jO,fun t2 ht2=>⟨_,t2,["list","tuple"],_,true,rfl,eG,.tup (eL ht2 _ _ _ (S1 _ _ ha)),rfl,_,rfl,?_⟩⟩
   have S2:fG H (upd H1 t2 (.tup [V.ty "list",V.ty "tuple"])):=S1.trans (eL ht2 _)
   generalize upd H1 t2 (.tup [V.ty "list",V.ty "tuple"])=H2 at S2⊢
   refine jP ⟨_,rfl,_,_,_,_,false,rfl,fun _ r=>r,.tup (S2 _ _ ha),rfl,_,rfl,_,_,_,_,false,rfl,fun _ r=>r,.tup (S2 _ _ hb),rfl,rfl,_,rfl,jP ?_⟩
   refine⟨_,rfl,_,xs.length,rfl,zo (S2 _ _ ha),_,rfl,_,ys.length,rfl,zo (S2 _ _ hb),rfl,_,rfl,?_⟩
   rw[gM (show V.int (xs.length:Int)=V.int (ys.length:Int) by rw[lx,ly])]
   cases n with
   |zero=>lia
   |succ m=>
   refine kj (.inr ⟨_,rfl,_,rfl,a,b,rfl,⟨_,SqT.of (S2 _ _ ha)⟩,⟨_,SqT.of (S2 _ _ hb)⟩,fun D hD=>?_⟩)
   refine vc xs.length (by have:=ho.1;lia) hD (fun k H3 S3 hk=>⟨xs,ys,xs[k],ys[k]'(by lia),SqT.of (S3 _ _ (S2 _ _ ha)),SqT.of (S3 _ _ (S2 _ _ hb)),aZ hk,aZ (by lia)⟩)
    (fun H3 S3=>⟨xs,ys,SqT.of (S3 _ _ (S2 _ _ ha)),SqT.of (S3 _ _ (S2 _ _ hb)),by lia⟩) ?_ ?_
   ·rintro k H3 v H4 R S3 hk ⟨p,x1,y1,rfl,hp,rfl,e1,e2⟩ σ' hl r
    obtain⟨u1,u2,rfl⟩:∃u1 u2,σ'=[u1,u2]:=by
     match σ',hl with
     |[u1,u2],_=>exact⟨u1,u2,rfl⟩
    have S4:fG H (upd H3 p (.tup [x1,y1])):=(S2.trans S3).trans (eL hp _)
    obtain⟨d1,f1,g1⟩:=hxs.get (e1 xs (SqT.of (S3 _ _ (S2 _ _ ha))))
    obtain⟨d2,f2,g2⟩:=hys.get (e2 ys (SqT.of (S3 _ _ (S2 _ _ hb))))
    have ed:d2=d1:=by rw[f1]at f2;exact(cf.inj f2).symm
    subst ed
    have dp:=BO.Internal.depDs_get f1
    refine⟨p,[x1,y1],rfl,SqT.of eG,rfl,x1,[y1],rfl,y1,[],rfl,rfl,_,rfl,_,rfl,x1,y1,d2,rfl,g1.same S4,g2.same S4,by lia,rW ho.2 f1,fun H5 S5=>?_⟩
    exact r _ _ rfl ((eL hp _).trans S5)
   ·intro H3 S3 hD3
    refine⟨D,aE xs.length true,rfl,SqL.of hD3,?_⟩
    rw[sN]
    exact q _ (S2.trans S3)
  |@lst b ys ds hb hys=>
   cases hx with
   |@lst a xs _ ha hxs=>
   have lx:=hxs.length
   have ly:=hys.length
   have dd:iF ds+ 1<=n:=hd
   refine⟨_,rfl,jO,fun t ht=>⟨_,t,["list","tuple"],_,true,rfl,eG,.lst (eL ht _ _ _ hb),rfl,_,rfl,kj ?_⟩⟩
   have S1:fG H (upd H t (.tup [V.ty "list",V.ty "tuple"])):=eL ht _
   generalize upd H t (.tup [V.ty "list",V.ty "tuple"])=H1 at S1⊢
   refine⟨_,rfl,jO,fun t2 ht2=>⟨_,t2,["list","tuple"],_,true,rfl,eG,.lst (eL ht2 _ _ _ (S1 _ _ ha)),rfl,_,rfl,?_⟩⟩
   have S2:fG H (upd H1 t2 (.tup [V.ty "list",V.ty "tuple"])):=S1.trans (eL ht2 _)
   generalize upd H1 t2 (.tup [V.ty "list",V.ty "tuple"])=H2 at S2⊢
   refine jP ⟨_,rfl,_,_,_,_,true,rfl,fun _ r=>r,.lst (S2 _ _ ha),rfl,_,rfl,_,_,_,_,true,rfl,fun _ r=>r,.lst (S2 _ _ hb),rfl,rfl,_,rfl,jP ?_⟩
   refine⟨_,rfl,_,xs.length,rfl,zp (S2 _ _ ha),_,rfl,_,ys.length,rfl,zp (S2 _ _ hb),rfl,_,rfl,?_⟩
   rw[gM (show V.int (xs.length:Int)=V.int (ys.length:Int) by rw[lx,ly])]
   cases n with
   |zero=>lia
   |succ m=>
   refine kj (.inl ⟨_,rfl,_,rfl,a,b,rfl,⟨_,SqL.of (S2 _ _ ha)⟩,⟨_,SqL.of (S2 _ _ hb)⟩,fun D hD=>?_⟩)
   refine vc xs.length (by have:=ho.1;lia) hD (fun k H3 S3 hk=>⟨xs,ys,xs[k],ys[k]'(by lia),SqL.of (S3 _ _ (S2 _ _ ha)),SqL.of (S3 _ _ (S2 _ _ hb)),aZ hk,aZ (by lia)⟩)
    (fun H3 S3=>⟨xs,ys,SqL.of (S3 _ _ (S2 _ _ ha)),SqL.of (S3 _ _ (S2 _ _ hb)),by lia⟩) ?_ ?_
   ·rintro k H3 v H4 R S3 hk ⟨p,x1,y1,rfl,hp,rfl,e1,e2⟩ σ' hl r
    obtain⟨u1,u2,rfl⟩:∃u1 u2,σ'=[u1,u2]:=by
     match σ',hl with
     |[u1,u2],_=>exact⟨u1,u2,rfl⟩
    have S4:fG H (upd H3 p (.tup [x1,y1])):=(S2.trans S3).trans (eL hp _)
    obtain⟨d1,f1,g1⟩:=hxs.get (e1 xs (SqL.of (S3 _ _ (S2 _ _ ha))))
    obtain⟨d2,f2,g2⟩:=hys.get (e2 ys (SqL.of (S3 _ _ (S2 _ _ hb))))
    have ed:d2=d1:=by rw[f1]at f2;exact(cf.inj f2).symm
    subst ed
    have dp:=BO.Internal.depDs_get f1
    refine⟨p,[x1,y1],rfl,SqT.of eG,rfl,x1,[y1],rfl,y1,[],rfl,rfl,_,rfl,_,rfl,x1,y1,d2,rfl,g1.same S4,g2.same S4,by lia,rW ho.2 f1,fun H5 S5=>?_⟩
    exact r _ _ rfl ((eL hp _).trans S5)
   ·intro H3 S3 hD3
    refine⟨D,aE xs.length true,rfl,SqL.of hD3,?_⟩
    rw[sN]
    exact q _ (S2.trans S3)
open TM.Internal (Kn Tr gy szs)
structure It where
 t:Tr
 w:Nat
 c:Nat->Nat
 own:Bool
def vr (wl:List Str) (k:Nat):Str:=wl.getD k ""
def Ev (wl:List Str) (made:List Nat) (e:Str->Nat):Prop:=(∀d,d<made.length->e (wdE wl d)=made.getD d 0)/\e (wdE wl made.length)=0
def cw (c:Nat->Nat) (wl:List Str) (e:Str->Nat):Nat:=c 0*e (vr wl 0)+c 1*e (vr wl 1)+c 2*e (vr wl 2)
structure JI (wl:List Str) (made:List Nat) (I:It):Prop where
 w:∀e,Ev wl made e->wT I.t e=I.w+cw I.c wl e
 o:∀N:Str->Prop,(∀d,d<made.length->N (wdE wl d))->(I.own=true->N (wdE wl made.length))->(∀k,k<3->0<I.c k->N (vr wl k))->okT I.t N
 c:∀k,k<3->I.c k<=I.w
def knC:List It->List (Option Nat)->Nat->Nat
 |I::l,v::vs,k=>(if v=some k then 0 else I.c k)+knC l vs k
 |_,_,_=>0
def knW:List It->Nat
 |[]=>0
 |I::l=>I.w+knW l
def knO:List It->Bool
 |[]=>false
 |I::l=>I.own||knO l
def knI (κ:Kn) (its:List It) (vs:List (Option Nat)):It:=⟨.mk κ (its.map It.t),1+knW its,knC its vs,knO its⟩
def Mxs (wl:List Str):List Ex->List (Option Nat)->Prop
 |_,[]=>True
 |xs,none::vs=>hdX xs=none/\Mxs wl xs.tail vs
 |xs,some v::vs=>v<3/\(∃k:Str,k≠"let"/\hdX xs=some (vr wl v,k))/\Mxs wl xs.tail vs
section
variable {wl:List Str} {made:List Nat} (lw:wl.length=16) (nd:wl.Nodup) (lm:made.length<=12)
include lw nd
theorem CK {i j:Nat} (hi:i<16) (hj:j<16) (h:i≠j):wl.getD i ""≠wl.getD j "":=by
 rw[bj,bj,aZ (by lia),aZ (by lia)]
 intro e
 have k:=List.pairwise_iff_getElem.mp nd
 rcases Nat.lt_or_gt_of_ne h with z|z
 ·exact k i j (by lia) (by lia) z e
 ·exact k j i (by lia) (by lia) z e.symm
theorem Gj {i j:Nat} (hi:i<3) (hj:j<3) (h:i≠j):vr wl i≠vr wl j:=CK lw nd (by lia) (by lia) h
include lm
theorem EB {v d:Nat} (hv:v<3) (hd:d<=made.length):vr wl v≠wdE wl d:=CK lw nd (by lia) (by lia) (by lia)
theorem Ev.up {e:Str->Nat} (h:Ev wl made e) {v:Nat} (hv:v<3) (k:Str) (pw:Nat):Ev wl made (upE e (some (vr wl v,k)) pw):=by
 refine⟨fun d hd=>?_,?_⟩
 ·show(if vr wl v=wdE wl d then _ else _)=_
  rw[fJ (EB lw nd lm hv (by lia))]
  exact h.1 d hd
 ·show(if vr wl v=wdE wl made.length then _ else _)=_
  rw[fJ (EB lw nd lm hv (by lia))]
  exact h.2
omit lm in
theorem xk {e:Str->Nat} {v j:Nat} (hv:v<3) (hj:j<3) (k:Str) (pw:Nat):upE e (some (vr wl v,k)) pw (vr wl j)=if v=j then(if k="let" then pw else 0)else e (vr wl j):=by
 show(if vr wl v=vr wl j then _ else _)=_
 by_cases h:v=j
 ·rw[fY (by rw[h]),fY h]
 ·rw[fJ (Gj lw nd hv hj h),fJ h]
theorem zq:∀{its:List It} {vs:List (Option Nat)} {xs:List Ex} {e:Str->Nat} {pw:Nat},its.length=vs.length->Mxs wl xs vs->(∀I∈its,JI wl made I)->Ev wl made e->wTs (its.map It.t) xs e pw=knW its+cw (knC its vs) wl e
 |[],[],xs,e,pw,_,_,_,_=>by rw[aR,kJ];simp[knW,knC,cw]
 |I::its,none::vs,xs,e,pw,hl,m,hJ,he=>by
  rw[az,iZ,zq (by simpa using hl) m.2 (fun J h=>hJ J (by simp[h])) he,m.1]
  have h1:=(hJ I (by simp)).w e he
  rw[show upE e none pw=e from rfl,h1]
  simp only[knW,knC,cw,Nat.add_mul,reduceCtorEq,if_false]
  lia
 |I::its,some v::vs,xs,e,pw,hl,⟨hv,⟨k,nk,hx⟩,m⟩,hJ,he=>by
  rw[az,iZ,zq (by simpa using hl) m (fun J h=>hJ J (by simp[h])) he,hx]
  have h1:=(hJ I (by simp)).w _ (he.up lw nd lm hv k pw)
  rw[h1]
  simp only[knW,knC,cw,Nat.add_mul,cf.injEq]
  rw[xk lw nd hv (by lia),xk lw nd hv (by lia),xk lw nd hv (by lia),fJ nk]
  by_cases a0:v=0
  ·subst a0;simp;lia
  ·by_cases a1:v=1
   ·subst a1;simp;lia
   ·have a2:v=2:=by lia
    subst a2;simp;lia
 |[],_::_,_,_,_,h,_,_,_=>by cases h
 |_::_,[],_,_,_,h,_,_,_=>by cases h
omit lw nd lm in
theorem Bu {k:Nat} (hk:k<3):∀{its:List It} {vs:List (Option Nat)},(∀I∈its,JI wl made I)->knC its vs k<=knW its
 |[],vs,_=>by simp[knC]
 |I::its,[],_=>by simp[knC]
 |I::its,v::vs,hJ=>by
  have h1:=(hJ I (by simp)).c k hk
  have h2:=Bu hk (its:=its) (vs:=vs) fun J h=>hJ J (by simp[h])
  simp only[knC,knW]
  split<;>lia
omit lw nd lm in
theorem vd {N:Str->Prop} (hd:∀d,d<made.length->N (wdE wl d)):∀{its:List It} {vs:List (Option Nat)} {xs:List Ex},its.length=vs.length->Mxs wl xs vs->(∀I∈its,JI wl made I)->(knO its=true->N (wdE wl made.length))->(∀k,k<3->0<knC its vs k->N (vr wl k))->sA (its.map It.t) xs N
 |[],[],xs,_,_,_,_,_=>by unfold sA;exact trivial
 |I::its,none::vs,xs,hl,m,hJ,ho,hc=>by
  rw[az]
  unfold sA
  rw[m.1]
  refine⟨(hJ I (by simp)).o N hd (fun z=>ho (by simp[knO,z])) (fun k hk z=>hc k hk (by simp only[knC,reduceCtorEq,if_false];lia)),vd hd (by simpa using hl) m.2 (fun J h=>hJ J (by simp[h])) (fun z=>ho (by simp[knO,z])) fun k hk z=>hc k hk (by simp only[knC];lia)⟩
 |I::its,some v::vs,xs,hl,⟨hv,⟨k,nk,hx⟩,m⟩,hJ,ho,hc=>by
  rw[az]
  unfold sA
  rw[hx]
  refine⟨(hJ I (by simp)).o _ (fun d h=> .inr (hd d h)) (fun z=> .inr (ho (by simp[knO,z]))) (fun j hj z=>?_),vd hd (by simpa using hl) m (fun J h=>hJ J (by simp[h])) (fun z=>ho (by simp[knO,z])) fun k hk z=>hc k hk (by simp only[knC];lia)⟩
  by_cases e:v=j
  ·subst e;exact .inl rfl
  ·exact .inr (hc j hj (by simp only[knC,cf.injEq,e,if_false];lia))
 |[],_::_,_,h,_,_,_,_=>by cases h
 |_::_,[],_,h,_,_,_,_=>by cases h
theorem JI.knit {κ:Kn} {its:List It} {vs:List (Option Nat)} (hl:its.length=vs.length) (m:Mxs wl (exN κ) vs) (hJ:∀I∈its,JI wl made I) (nn:∀w,κ≠ .name w) (ok:∀N,okK κ its.length N):JI wl made (knI κ its vs):=by
 refine⟨fun e he=>?_,fun N hd ho hc=>?_,fun k hk=>?_⟩
 ·show wT (.mk κ (its.map It.t)) e=1+knW its+cw (knC its vs) wl e
  rw[ue,zq lw nd lm hl m hJ he]
  have e0:nmW κ e=0:=by
   cases κ with
   |name w=>exact absurd rfl (nn w)
   |_=>rfl
  lia
 ·show okT (.mk κ (its.map It.t)) N
  unfold okT
  exact⟨by rw[aA];exact ok N,vd hd hl m hJ ho hc⟩
 ·have:=Bu hk (vs:=vs) hJ
  show knC its vs k<=1+knW its
  lia
def ltI (wl:List Str) (v:Nat) (b y:It):It:=⟨.mk (.lt (vr wl v)) [b.t,y.t],1+knW [b,y]+y.c v*b.w,fun k=>knC [b,y] [none,some v] k+y.c v*b.c k,b.own||(y.own||false)⟩
theorem JI.let {v:Nat} {b y:It} (hv:v<3) (hb:JI wl made b) (hy:JI wl made y):JI wl made (ltI wl v b y):=by
 refine⟨fun e he=>?_,fun N hd ho hc=>?_,fun k hk=>?_⟩
 ·have h1:=hb.w e he
  have h2:=hy.w _ (he.up lw nd lm hv "let" (wT b.t e))
  show wT (.mk (.lt (vr wl v)) [b.t,y.t]) e=_
  rw[ue,iZ,iZ,kJ]
  change 1+ 0+(wT b.t e+(wT y.t (upE e (some (vr wl v,"let")) (wT b.t e))+ 0))=_
  rw[h2]
  show _=1+knW [b,y]+y.c v*b.w+cw (fun k=>knC [b,y] [none,some v] k+y.c v*b.c k) wl e
  simp only[knW,knC,cw,Nat.add_mul,cf.injEq,reduceCtorEq,if_false]
  rw[xk lw nd hv (by lia),xk lw nd hv (by lia),xk lw nd hv (by lia),fY rfl,h1]
  by_cases a0:v=0
  ·subst a0;simp[cw,Nat.mul_add,cc];lia
  ·by_cases a1:v=1
   ·subst a1;simp[cw,Nat.mul_add,cc];lia
   ·have a2:v=2:=by lia
    subst a2;simp[cw,Nat.mul_add,cc];lia
 ·show okT (.mk (.lt (vr wl v)) [b.t,y.t]) N
  unfold okT
  refine⟨rfl,?_⟩
  unfold sA sA sA
  refine⟨hb.o N hd (fun z=>ho (by simp[ltI,z])) (fun k hk z=>hc k hk (by simp only[ltI,knC,reduceCtorEq,if_false];lia)),hy.o _ (fun d h=> .inr (hd d h)) (fun z=> .inr (ho (by simp[ltI,z]))) (fun k hk z=>?_),trivial⟩
  by_cases e:v=k
  ·subst e;exact .inl rfl
  ·exact .inr (hc k hk (by simp only[ltI,knC,reduceCtorEq,if_false,cf.injEq,e];lia))
 ·have h1:=hb.c k hk
  have h2:=hy.c k hk
  have h3:=Nat.mul_le_mul_left (y.c v) h1
  simp only[ltI,knC,knW]
  split<;>split<;>lia
end
open TM.Internal (Kn Tr gy szs)
theorem CM {K:PySem.W.Frag} {a b:Addr} {xs ys:List V} {g:TG} {tb:TS} {D:mh} {σ:St} {H:Hp} (Pv:Nat->St->Hp->Prop) (h0:Pv 0 σ H) (hl:∀i σ H,i<=xs.length->Pv i σ H->SqL K H a xs/\SqL K H b ys) (hn:ys.length=xs.length)
  (hs:∀(i:Nat) (x y:V) (σ:St) (H:Hp) (T:Addr),xs[i]?=some x->ys[i]?=some y->Pv i σ H->H T=none->g (.ref T) σ (L2.Internal.upd H T (.tup [x,y])) fun σ2 H2=>tb {D with nx:=Pv (i+ 1),ct:=Pv (i+ 1),bk:=D.nx} σ2 H2) (hd:∀σ H,Pv xs.length σ H->D.nx σ H):
  ∃W:Nat->Nat->St->Hp->Prop,(∃m,W 0 m σ H)/\∀i m σ H,W i m σ H->
   ((Itz K a b).stop i H/\D.nx σ H)\/((Itz K a b).go i H/\∃N:St->Hp->Prop,(∀σ' H',N σ' H'->∃m',m'<m/\W (i+ 1) m' σ' H')/\∀x H',(Itz K a b).yld i H x H'->g x σ H' fun σ2 H2=>tb {D with nx:=N,ct:=N,bk:=D.nx} σ2 H2):=by
 refine⟨fun i m σ H=>Y3 (m=xs.length-i) (i<=xs.length) (Pv i σ H),⟨xs.length,by simp,bY _,h0⟩,?_⟩
 rintro i m σ H ⟨rfl,hi,p⟩
 obtain⟨q1,q2⟩:=hl i σ H hi p
 by_cases hlt:i<xs.length
 ·refine .inr ⟨⟨xs,ys,xs[i],ys[i]'(by lia),q1,q2,by simp[hlt],aZ (by lia)⟩,Pv (i+ 1),fun σ' H' p'=>⟨xs.length-(i+ 1),by lia,rfl,hlt,p'⟩,fun v H' y=>?_⟩
  obtain⟨T,x,y,rfl,hT,rfl,hx,hy⟩:=y
  exact hs i x y σ H T (hx xs q1) (hy ys q2) p hT
 ·have e:i=xs.length:=by lia
  subst e
  exact .inl ⟨⟨xs,ys,q1,q2,by lia⟩,hd σ H p⟩
def itV (n:V) (I:It) (cs:Addr):List V:=[n,.int (I.t.nest:Int),.int (I.w:Int),.ref cs,.bl I.own,.int (I.t.sz:Int)]
def cV3 (c:Nat->Nat):List V:=[.int (c 0:Int),.int (c 1:Int),.int (c 2:Int)]
def ItA (H:Hp) (x:V) (I:It):Prop:=X3 fun a n cs=>Y4 (x= .ref a) (H a=some (.lst (itV n I cs))) (H cs=some (.lst (cV3 I.c))) (Im H n (ndD I.t))
theorem ItA.same {H H':Hp} {x:V} {I:It} (h:ItA H x I) (S:fG H H'):ItA H' x I:=by
 obtain⟨a,n,cs,rfl,e1,e2,i⟩:=h
 exact⟨a,n,cs,rfl,S _ _ e1,S _ _ e2,i.mono (fG.tk S)⟩
structure ItN (H H':Hp) (a cs:Addr) (n:V) (I:It):Prop where
 sm:fG H H'
 na:H a=none
 nc:H cs=none
 ne:a≠cs
 ea:H' a=some (.lst (itV n I cs))
 ec:H' cs=some (.lst (cV3 I.c))
 im:Im H' n (ndD I.t)
theorem ItN.it {H H':Hp} {a cs:Addr} {n:V} {I:It} (h:ItN H H' a cs n I):ItA H' (.ref a) I:=⟨a,n,cs,rfl,h.ea,h.ec,h.im⟩
def hZ:Option Nat->Int
 |none=> -1
 |some v=>(v:Int)
def hI (v:Option Nat):V:= .int (hZ v)
theorem at3 {c:Nat->Nat} {k:Nat} (h:k<3):atI (cV3 c) (0+(k:Int))=some (.int (c k:Int)):=by
 rw[dW]
 refine eM ?_
 match k,h with
 |0,_=>rfl
 |1,_=>rfl
 |2,_=>rfl
def cA (c:Nat->Nat) (v:Option Nat) (d:Nat->Nat) (k:Nat):Nat:=c k+(if v=some k then 0 else d k)
theorem Gk (c d:Nat->Nat) (v:Option Nat) (k:Nat):(c k:Int)+(if(true ^^ decide (0+(k:Int)=hZ v))=true then 1 else 0)*(d k:Int)=(cA c v d k:Int):=by
 unfold cA
 cases v with
 |none=>
  rw[gk (by show ¬0+(k:Int)= -1;lia)]
  simp
 |some v=>
  by_cases h:v=k
  ·subst h
   rw[gM (by show 0+(v:Int)=(v:Int);lia)]
   simp
  ·rw[gk (by show ¬0+(k:Int)=(v:Int);lia)]
   simp[h]
theorem EC {i j n:Nat} {a b:Bool} {p:Addr} {xs:List V} {m:Int} {σ:St} {H:Hp} {Q:VK} (h1:σ[i]?=some (some (.bl a))) (h2:σ[j]?=some (some (.ref p))) (e:H p=some (.lst xs)) (hx:atI xs m=some (.bl b)) (q:Q (.bl (a||b)) H):EW (cV i) (tOp zC (cV j) (tC (.int m))) σ H Q:=by
 show onV σ[i]? _
 rw[h1]
 refine⟨a,rfl,?_⟩
 cases a with
 |true=>exact kj q
 |false=>
  refine jP ?_
  show onV σ[j]? _
  rw[h2]
  exact⟨_,e,eP hx q⟩
theorem ED {i j g:Nat} {a b:Bool} {p:Addr} {xs:List V} {m:Int} {σ:St} {H:Hp} {R:TS} {D:mh} (h1:σ[i]?=some (some (.bl a))) (h2:σ[j]?=some (some (.ref p))) (e:H p=some (.lst xs)) (hx:atI xs m=some (.bl b)) (q:R D (σ.set g (some (.bl (a||b)))) H):zI (zB (EW (cV i) (tOp zC (cV j) (tC (.int m)))) (fu g)) R D σ H:=EC (n:=0) h1 h2 e hx q
inductive XLf (vs:List V) (H:Hp) (Q:VK):Prop
 |mk (n:V) (w:Nat) (κ:Kn) (e:vs=[n,.int (w:Int)]) (i:Im H n (ndD (.mk κ []))) (q:∀H' a cs,ItN H H' a cs n ⟨.mk κ [],w,fun _=>0,false⟩->Q (.ref a) H')
def Gm:Sp:=fun vs H Q _=>XLf vs H Q
inductive XKn (vs:List V) (H:Hp) (Q:VK):Prop
 |mk (wt pl hl:Addr) (κ:Kn) (ws xs:List V) (its:List It) (ho:List (Option Nat)) (e:vs=[.str κ.s,.ref wt,.ref pl,.ref hl]) (ew:H wt=some (.tup ws)) (iw:Ims H ws (wsD κ)) (ep:H pl=some (.lst xs)) (ix:lT (ItA H) xs its) (eh:H hl=some (.lst (ho.map hI))) (hl':ho.length=its.length) (ln:its.length<=1000) (q:∀H' a cs n,ItN H H' a cs n (knI κ its ho)->Q (.ref a) H')
def CN:Sp:=fun vs H Q _=>XKn vs H Q
theorem sO {α β:Type} {R:α->β->Prop}:∀{xs:List α} {ys:List β} {i:Nat} {x:α},lT R xs ys->xs[i]?=some x->∃y,ys[i]?=some y/\R x y
 |_,_,0,_,.cons h _,e=>by cases e;exact⟨_,rfl,h⟩
 |_,_,i+ 1,_,.cons _ t,e=>sO (i:=i) t e
theorem jS (T:Txt K mg):FO P w base 1 T.d29 Gm:=by
 refine T.d29.F.ok tL (fun vs H Q E h=>?_) (fun cdv A0 outer s0 H vs Q E hr h=>?_)
 ·obtain⟨n,w,κ,rfl,_⟩:=h
  rfl
 obtain⟨n,w',κ,rfl,i,q⟩:=h
 refine⟨_,(eO (fm (fq (eE (cv 0) (eE eK (eE (cv 1) (eE (fq (eE eK (eE eK (eE eK eF)))) (eE xr (eE eK eF))))))))),?_⟩
 refine⟨sU,fun cs hc=>⟨EO,fun a ha=>?_⟩⟩
 have S1:=eL hc (.lst [.int 0,.int 0,.int 0])
 have S2:=eL ha (.lst [n,.int 1,.int (w':Int),.ref cs,.bl false,.int 1])
 have ne:a≠cs:=fun z=>by rw[z,eG]at ha;cases ha
 have sz:(Tr.mk κ []).sz=1:=by simp[Tr.sz,szs]
 have ns:(Tr.mk κ []).nest=1:=by simp[Tr.nest,TM.Internal.nests]
 refine q _ a cs ⟨S1.trans S2,?_,hc,ne,?_,S2 _ _ eG,i.mono (fG.tk (S1.trans S2))⟩
 ·cases z:H a with
  |none=>rfl
  |some u=>rw[S1 _ _ z]at ha;cases ha
 ·rw[eG]
  unfold itV
  rw[sz,ns]
  rfl
theorem jq (T:Txt K mg):FO P w base 2 T.d30 CN:=by
 refine T.d30.F.rd fS fun cdv A0 outer s H vs Q E hr h=>?_
 obtain⟨wt,pl,hl,κ,ws,xs,its,ho,rfl,ew,iw,ep,ix,eh,lh,ln,q⟩:=h
 refine⟨_,(eJ (pS (i:=4) fS.nd eK)
  (eJ (pS (i:=5) fS.nd eK)
  (eJ (pS (i:=6) fS.nd (fq (eE eK (eE eK (eE eK eF)))))
  (eJ (pS (i:=7) fS.nd xr)
  (eJ (pS (i:=8) fS.nd eK)
  (eJ (jb PassesOwn.never rfl (yh rfl T.z_zip (eE (cv 2) (eE (cv 3) eF))) (sY rfl (jm (pN (i:=9) fS.nd) (jm (pN (i:=10) fS.nd) pA)))
   (eJ (pS (i:=4) fS.nd (fD (sZ rfl) rfl T.z_max yl (eE (cv 4) (eE (eU eR (cv 9) eK) eF))))
   (eJ (pS (i:=5) fS.nd (fC ia (cv 5) (eU eR (cv 9) eK)))
   (eJ (pS (i:=6) fS.nd (uO rfl (A3 (x:="_law_k") ["_law_var","_law_part","_law_many"] [("_law_var",10,s.heap.objs.size+ 3),("_law_part",9,s.heap.objs.size+ 2),("_law_many",6,s.heap.objs.size+ 1)]) (gS rfl T.z_range (eE eK eF)) (fun _ _ _ _ _=>jr) (fun _ _ _ _ _=>(fC ia (eU eR (cv 3) (cv 0)) (fC pP (fW xG rfl T.z_int yb (eE (nL DQ (cv 0) (cv 1)) eF)) (eU eR (eU eR (cv 2) eK) (cv 0)))))))
   (eJ (pS (i:=7) fS.nd (Dp (cv 7) (sX (eU eR (cv 9) eK))))
   (eO (pS (i:=8) fS.nd (fC ia (cv 8) (eU eR (cv 9) eK)))))))))
  (eO (fm (fq (eE (fe (eE (cv 0) (eE (cv 1) (eE (fW f9 rfl T.z_tuple iM (eE (uO rfl (DM (x:="_law_part") rfl fo fo rfl rfl) (kP (cv 2)) (fun _ _ _ _ _=>jr) (fun _ _ _ _ _=>(eU eR (cv 0) eK))) eF)) eF)))) (eE (fC ia (cv 4) eK) (eE (cv 5) (eE (cv 6) (eE (cv 7) (eE (cv 8) eF))))))))))))))),?_⟩
 have sl:=sizeLine_eq
 dsimp only[fu]
 refine⟨sU,fun m hm=>?_⟩
 dsimp only[fu]
 have lx:=ix.length
 refine⟨pl,hl,rfl,⟨_,SqL.of (eL hm _ _ _ ep)⟩,⟨_,SqL.of (eL hm _ _ _ eh)⟩,CM (xs:=xs) (ys:=ho.map hI) (fun i σ H2=>X8 fun(o9 o10:Option V) (ne we pa:Nat) (ow:Bool) (mn:Addr) (c:Nat->Nat)=>Y9 (σ=[some (.str κ.s),some (.ref wt),some (.ref pl),some (.ref hl),some (.int (ne:Int)),some (.int (we:Int)),some (.ref mn),some (.bl ow),some (.int (pa:Int)),o9,o10]) (fG H H2) (H mn=none) (H2 mn=some (.lst (cV3 c))) (max ne (TM.Internal.nests ((its.drop i).map It.t))=TM.Internal.nests (its.map It.t)) (we+knW (its.drop i)=1+knW its) ((ow||knO (its.drop i))=knO its) (pa+szs ((its.drop i).map It.t)=1+szs (its.map It.t)) (∀k,k<3->c k+knC (its.drop i) (ho.drop i) k=knC its ho k)) ?_ ?_ ?_ ?_ ?_⟩
 ·exact⟨none,none,0,1,1,false,m,fun _=>0,rfl,eL hm _,hm,eG,by simp,rfl,by simp,rfl,fun k _=>by simp⟩
 ·rintro i σ H2 _ ⟨o9,o10,ne,we,pa,ow,mn,c,_,S,_⟩
  exact⟨SqL.of (S _ _ ep),SqL.of (S _ _ eh)⟩
 ·rw[aA,lh,lx]
 ·rintro i x y σ H2 t4 hx hy ⟨o9,o10,ne,we,pa,ow,mn,c,rfl,S,nm,em,h1,h2,h3,h4,h5⟩ ht4
  obtain⟨I,hI',a,n,cs,rfl,ea,ec,iN⟩:=sO ix hx
  rw[aI]at hy
  obtain⟨v,hv,rfl⟩:=cm.mp hy
  rw[oA hI']at h1 h2 h3 h4
  have T4:=eL ht4 (.tup [.ref a,hI v])
  have S4:=S.trans T4
  refine⟨t4,_,rfl,SqT.of eG,rfl,_,_,rfl,_,_,rfl,rfl,?_⟩
  have ea4:=S4 _ _ ea
  have ec4:=S4 _ _ ec
  have em4:=T4 _ _ em
  have emx:(if((I.t.nest:Nat):Int)>(ne:Int)then((I.t.nest:Nat):Int)else(ne:Int))=((max ne I.t.nest:Nat):Int):=by split<;>lia
  refine⟨_,ea4,eP (eM (j:=1) rfl) ⟨_,_,rfl,?_⟩⟩
  dsimp only[fu]
  rw[emx]
  refine⟨_,ea4,eP (eM (j:=2) rfl) ?_⟩
  dsimp only[fu]
  refine⟨3,rfl,by decide,by decide,fun D hD=>?_⟩
  refine m9 3 (by lia) (fun zs H5=>zs=(cV3 (cA c v I.c)).take zs.length) (fun _ _ _ h _=>h) hD rfl (fun k _ _ h=>h) (fun _ _=>bX _) rfl ?_ ?_
  ·rintro k H5 x H6 zs Z S5 hk ⟨rfl,rfl⟩ hz lz kZ
   refine⟨_,S5 _ _ em4,eP (at3 hk) ?_⟩
   refine .inr ⟨_,rfl,?_⟩
   refine⟨_,S5 _ _ ea4,eP (eM (j:=3) rfl) ⟨_,S5 _ _ ec4,eP (at3 hk) ⟨.inl (by split<;>exact⟨by decide,by decide⟩),?_⟩⟩⟩
   refine kZ _ _ (fun _ _ e=>e) ?_
   dsimp only
   rw[Gk,aM,aU,bH,lz]
   rw[lz]at hz
   have e3:(cV3 (cA c v I.c))[k]?=some (.int (cA c v I.c k:Int)):=by
    have:=at3 (c:=cA c v I.c) hk
    match k,hk with
    |0,_=>rfl
    |1,_=>rfl
    |2,_=>rfl
   rw[e3,<-hz]
   rfl
  ·intro H5 zs S5 hz lz ez
   dsimp only[fu]
   rw[lz]at hz
   have hz:zs=cV3 (cA c v I.c):=hz
   subst hz
   refine ED (i:=7) (j:=9) (a:=ow) (b:=I.own) rfl rfl (S5 _ _ ea4) (eM (j:=4) rfl) ?_
   refine⟨_,S5 _ _ ea4,eP (eM (j:=5) rfl) ?_⟩
   dsimp only[fu]
   have nD:H D=none:=by
    cases z:H D with
    |none=>rfl
    |some u=>rw[S4 _ _ z]at hD;cases hD
   have hv':=oA hv
   refine⟨_,_,max ne I.t.nest,we+I.w,pa+I.t.sz,ow||I.own,D,cA c v I.c,rfl,S4.trans S5,nD,ez,?_,?_,?_,?_,fun k hk=>?_⟩
   ·rw[az,TM.Internal.nests]at h1;lia
   ·rw[knW]at h2;lia
   ·rw[knO,<-Bool.or_assoc]at h3;exact h3
   ·rw[az,szs]at h4;lia
   ·have h6:=h5 k hk
    rw[oA hI',hv']at h6
    rw[knC]at h6
    unfold cA
    lia
 ·rintro σ H2 ⟨o9,o10,ne,we,pa,ow,mn,c,rfl,S,nm,em,h1,h2,h3,h4,h5⟩
  rw[lx,bC]at h1 h2 h3 h4
  have h5:∀k,k<3->c k=knC its ho k:=fun k hk=>by have:=h5 k hk;rw[lx,bC]at this;simpa[knC]using this
  dsimp only
  have epx:=S _ _ ep
  refine⟨pl,rfl,⟨_,SqL.of epx⟩,fun D hD=>?_⟩
  refine m9 xs.length (by lia) (fun zs H5=>Ims H5 zs ((Aq (its.map It.t)).take zs.length)) (fun _ _ _ h k=>h.mono k) hD rfl (fun k H5 S5 h=>vA epx S5 h) (fun H5 S5=>vB epx S5) .nil ?_ ?_
  ·rintro k H5 v H6 zs Z S5 hk ⟨rfl,hv⟩ hz lz kZ
   have hv:=hv xs (SqL.of (S5 _ _ epx))
   obtain⟨I,hI',a,n,cs,rfl,ea,ec,iN⟩:=sO ix hv
   have S6:=S.trans S5
   refine⟨_,S6 _ _ ea,eP (eM (j:=0) rfl) ?_⟩
   refine kZ _ _ (fun _ _ e=>e) ?_
   rw[aM,aU,bH,lz]
   rw[lz]at hz
   have e3:(Aq (its.map It.t))[k]?=some (ndD I.t):=by
    have:∀{l:List It} {k:Nat},l[k]?=some I->(Aq (l.map It.t))[k]?=some (ndD I.t):=by
     intro l
     induction l with
     |nil=>intro k h;cases h
     |cons J l ih=>
      intro k h
      cases k with
      |zero=>cases h;rfl
      |succ k=>exact ih h
    exact this hI'
   rw[e3]
   exact hz.app (.cons (iN.mono (fG.tk S6)) .nil)
  ·intro H5 zs S5 hz lz ez
   rw[lz,bK (by rw[sF,aA];lia)]at hz
   refine⟨D,zs,rfl,.inl ⟨SqL.of ez,fun t1 ht1=>⟨sU,fun t2 ht2=>⟨EO,fun a ha=>?_⟩⟩⟩⟩
   have U1:=eL ht1 (.tup zs)
   have U2:=eL ht2 (.tup [.str κ.s,.ref wt,.ref t1])
   have U3:=eL ha (.lst [.ref t2,.int ((ne:Int)+ 1),.int (we:Int),.ref mn,.bl ow,.int (pa:Int)])
   have U12:=U1.trans U2
   have S6:=S.trans (S5.trans U12)
   have em6:=(S5.trans U12) _ _ em
   have nea:a≠mn:=fun z=>by rw[z,em6]at ha;cases ha
   have iN:Im (L2.Internal.upd (L2.Internal.upd H5 t1 (.tup zs)) t2 (.tup [.str κ.s,.ref wt,.ref t1])) (.ref t2) (ndD (.mk κ (its.map It.t))):=by
    rw[ndD]
    exact gA ht2 (.cons (.flat rfl) (.cons (.tup ((S.trans (S5.trans U1)) _ _ ew) (iw.mono (fG.tk (S.trans (S5.trans U1))))) (.cons (gA ht1 hz) .nil)))
   refine q _ a mn (.ref t2) ⟨S6.trans U3,?_,nm,nea,?_,U3 _ _ ?_,iN.mono (fG.tk U3)⟩
   ·cases z:H a with
    |none=>rfl
    |some u=>rw[S6 _ _ z]at ha;cases ha
   ·rw[eG]
    have s1:((knI κ its ho).t.nest:Int)=(ne:Int)+ 1:=by
     show(((Tr.mk κ (its.map It.t)).nest:Nat):Int)=_
     rw[Tr.nest,<-h1]
     simp[TM.Internal.nests]
     lia
    have s2:((knI κ its ho).t.sz:Int)=(pa:Int):=by
     show(((Tr.mk κ (its.map It.t)).sz:Nat):Int)=_
     rw[Tr.sz,<-h4]
     simp[szs]
    have s3:(knI κ its ho).w=we:=by show 1+knW its=_;rw[<-h2];rfl
    have s4:(knI κ its ho).own=ow:=by show knO its=_;rw[<-h3];exact dN _
    unfold itV
    rw[s1,s2,s3,s4]
   ·rw[em6]
    show some (HO.lst (cV3 c))=some (.lst (cV3 (knC its ho)))
    unfold cV3
    rw[h5 0 (by lia),h5 1 (by lia),h5 2 (by lia)]
open TM.Internal (Kn Tr gy szs)
def FS (st:Addr) (H H':Hp):Prop:=∀a o,H a=some o->a≠st->H' a=some o
theorem FS.trans {st:Addr} {H H1 H2:Hp} (f:FS st H H1) (g:FS st H1 H2):FS st H H2:=fun a o e n=>g a o (f a o e n) n
theorem FS.same {st:Addr} {H H':Hp} (S:fG H H'):FS st H H':=fun a o e _=>S a o e
def Stk (H:Hp) (st:Addr) (sn:Nat) (J:It->Prop):Prop:=∃xs,Y3 (H st=some (.lst xs)) (xs.length<=sn) (∀x∈xs,∃I,ItA H x I/\J I)
theorem Stk.tk {H H':Hp} {st:Addr} {sn:Nat} {J:It->Prop} (h:Stk H st sn J) (F:FS st H H'):TK H H':=fun a xs e=>by
 obtain⟨ys,e1,_⟩:=h
 exact F a _ e (jh e e1 fun z=>nomatch z)
theorem ItA.fs {H H':Hp} {st:Addr} {sn:Nat} {J:It->Prop} {x:V} {I:It} (h:ItA H x I) (k:Stk H st sn J) (F:FS st H H'):ItA H' x I:=by
 have tk:=k.tk F
 obtain⟨xs,es,_,al⟩:=k
 obtain⟨a,n,cs,rfl,e1,e2,i⟩:=h
 have no:∀z:Int,V.int z∉xs:=fun z m=>by
  obtain⟨_,⟨_,_,_,e,_⟩,_⟩:=al _ m
  cases e
 refine⟨a,n,cs,rfl,F _ _ e1 fun z=>?_,F _ _ e2 fun z=>?_,i.mono tk⟩
 ·rw[z,es]at e1
  cases cf.inj e1
  exact no (I.t.nest:Int) (by simp[itV])
 ·rw[z,es]at e2
  cases cf.inj e2
  exact no (I.c 0:Int) (by simp[cV3])
theorem Stk.same {H H':Hp} {st:Addr} {sn:Nat} {J:It->Prop} (k:Stk H st sn J) (S:fG H H'):Stk H' st sn J:=by
 obtain⟨xs,es,l,al⟩:=k
 exact⟨xs,S _ _ es,l,fun x hx=>let⟨I,h,j⟩:=al x hx;⟨I,h.same S,j⟩⟩
def nuI (n:Int):It:=⟨.mk (.num n) [],1,fun _=>0,false⟩
def naI (wl:List Str) (v:Nat):It:=⟨.mk (.name (vr wl v)) [],1,fun k=>if k=v then 1 else 0,false⟩
theorem Bv {H:Hp} {t1 t2 t3:Addr} {n:Int} (h1:H t1=none) (h2:(L2.Internal.upd H t1 (.tup [.int n])) t2=none) (h3:(L2.Internal.upd (L2.Internal.upd H t1 (.tup [.int n])) t2 (.tup [])) t3=none):Im (L2.Internal.upd (L2.Internal.upd (L2.Internal.upd H t1 (.tup [.int n])) t2 (.tup [])) t3 (.tup [.str "num",.ref t1,.ref t2])) (.ref t3) (ndD (.mk (.num n) [])):=by
 rw[ndD]
 exact gA h3 (.cons (.flat rfl) (.cons ((gA h1 (.cons (.flat rfl) .nil)).mono (fG.tk (eL h2 _))) (.cons (gA h2 .nil) .nil)))
theorem ve {H:Hp} {t1 t2 t3:Addr} {n:Str} (h1:H t1=none) (h2:(L2.Internal.upd H t1 (.tup [.str n])) t2=none) (h3:(L2.Internal.upd (L2.Internal.upd H t1 (.tup [.str n])) t2 (.tup [])) t3=none):Im (L2.Internal.upd (L2.Internal.upd (L2.Internal.upd H t1 (.tup [.str n])) t2 (.tup [])) t3 (.tup [.str "name",.ref t1,.ref t2])) (.ref t3) (ndD (.mk (.name n) [])):=by
 rw[ndD]
 exact gA h3 (.cons (.flat rfl) (.cons ((gA h1 (.cons (.flat rfl) .nil)).mono (fG.tk (eL h2 _))) (.cons (gA h2 .nil) .nil)))
theorem xl {H:Hp} {t1 t2 t3:Addr} {a b c:HO} (h1:H t1=none) (h2:(L2.Internal.upd H t1 a) t2=none) (h3:(L2.Internal.upd (L2.Internal.upd H t1 a) t2 b) t3=none):fG H (L2.Internal.upd (L2.Internal.upd (L2.Internal.upd H t1 a) t2 b) t3 c):=(eL h1 _).trans ((eL h2 _).trans (eL h3 _))
inductive XPo (vs:List V) (H:Hp) (Q:VK):Prop
 |mk (st:Addr) (sn:Nat) (J:It->Prop) (e:vs=[.ref st]) (k:Stk H st sn J) (j:J (nuI 0)) (q:∀H' x I,FS st H H'->Stk H' st sn J->ItA H' x I->J I->Q x H')
def EE:Sp:=fun vs H Q _=>XPo vs H Q
inductive XNm (vs:List V) (H:Hp) (Q:VK):Prop
 |mk (n:Int) (e:vs=[.int n]) (q:∀H' x,fG H H'->ItA H' x (nuI (n%10^60))->Q x H')
def CO:Sp:=fun vs H Q _=>XNm vs H Q
inductive XNa (vs:List V) (H:Hp) (Q:VK):Prop
 |mk (wa:Addr) (wl:List Str) (v:Nat) (e:vs=[.ref wa,.int (v:Int)]) (hw:H wa=some (.lst (wl.map V.str))) (lw:wl.length=16) (hv:v<3) (q:∀H' x,fG H H'->ItA H' x (naI wl v)->Q x H')
def EF:Sp:=fun vs H Q _=>XNa vs H Q
inductive XMo (vs:List V) (H:Hp) (Q:VK):Prop
 |mk (x:V) (I:It) (k:Int) (e:vs=[x,.int k]) (i:ItA H x I) (q:∀v:Nat,v<3->Q (.int (v:Int)) H)
def Gn:Sp:=fun vs H Q _=>XMo vs H Q
theorem qS {wl:List Str} (lw:wl.length=16) {k:Nat} (hk:k<16):(wl.map V.str)[k]?=some (.str (vr wl k)):=by
 rw[aI,aZ (by lia)]
 unfold vr
 rw[bj,aZ (by lia)]
 rfl
theorem kh (T:Txt K mg):FO P w base 2 T.d32 CO:=by
 have gD29:=jS (P:=P) (w:=w) (base:=base) T
 refine T.d32.F.ok qF (fun vs H Q E h=>?_) (fun cdv A0 outer s0 H vs Q E hr h=>?_)
 ·obtain⟨n,rfl,_⟩:=h
  rfl
 obtain⟨n,rfl,q⟩:=h
 refine⟨_,(eO (fm (pF T.d29 gD29 (hr.mono (by lia)) (eE (fe (eE eZ (eE (fe (eE (fC iB (cv 0) (fC AY eK eK)) eF)) (eE (fe eF) eF)))) (eE eK eF))))),?_⟩
 refine⟨⟨by decide,by decide,by decide⟩,(by show(0:Int)<10^(60:Int).toNat;decide+kernel),kO,fun t1 h1=>⟨ki,fun t2 h2=>⟨sU,fun t3 h3=>?_⟩⟩⟩
 refine⟨_,1,.num (n%10^60),rfl,Bv h1 h2 h3,fun H' a cs N=>?_⟩
 exact q _ _ ((xl h1 h2 h3).trans N.sm) N.it
theorem kK (T:Txt K mg):FO P w base 2 T.d31 EE:=by
 have gD29:=jS (P:=P) (w:=w) (base:=base) T
 refine T.d31.F.ok uR (fun vs H Q E h=>?_) (fun cdv A0 outer s0 H vs Q E hr h=>?_)
 ·obtain⟨st,sn,J,rfl,_⟩:=h
  rfl
 obtain⟨st,sn,J,rfl,k,j,q⟩:=h
 refine⟨_,(eJ (fV (fg gQ (fD fz rfl T.z_len gU (eE (cv 0) eF)) eK)
   (eO (fm (pF T.d29 gD29 (hr.mono (by lia)) (eE (fe (eE eZ (eE (fe (eE eK eF)) (eE (fe eF) eF)))) (eE eK eF)))))
   fF)
  (eO (fm (AO dD dG dH AQ (cv 0))))),?_⟩
 obtain⟨xs,es,ls,al⟩:=id k
 refine⟨st,_,rfl,.inl (SqL.of es),?_⟩
 show if(false ^^ decide ((xs.length:Int)=0))=true then _ else _
 by_cases z:xs.length=0
 ·rw[gM (by lia)]
  refine kj ?_
  refine⟨kO,fun t1 h1=>⟨ki,fun t2 h2=>⟨sU,fun t3 h3=>?_⟩⟩⟩
  refine⟨_,1,.num 0,rfl,Bv h1 h2 h3,fun H' a cs N=>?_⟩
  have S:=(xl h1 h2 h3).trans N.sm
  exact q _ _ (nuI 0) (FS.same S) (k.same S) N.it j
 ·rw[gk (by lia)]
  refine jP ?_
  have hy:xs[xs.length-1]?=some (xs[xs.length-1]'(by lia)):=aZ (by lia)
  obtain⟨I,hI',hJ⟩:=al _ (aK hy)
  refine⟨.inl ⟨rfl,_,SqL.of es⟩,st,xs,_,rfl,rfl,es,hy,?_⟩
  have F:FS st H (L2.Internal.upd H st (.lst xs.dropLast)):=fun a o e n=>by rw[eN n];exact e
  exact q _ _ I F ⟨xs.dropLast,eG,by rw[aV];lia,fun x hx=>let⟨I',h,j⟩:=al x (List.dropLast_subset _ hx);⟨I',h.fs k F,j⟩⟩ (hI'.fs k F) hJ
theorem um (T:Txt K mg):FO P w base 2 T.d33 EF:=by
 have gD29:=jS (P:=P) (w:=w) (base:=base) T
 refine T.d33.F.ok oJ (fun vs H Q E h=>?_) (fun cdv A0 outer s0 H vs Q E hr h=>?_)
 ·obtain⟨wa,wl,v,rfl,_⟩:=h
  rfl
 obtain⟨wa,wl,v,rfl,hw,lw,hv,q⟩:=h
 refine⟨_,(eJ (pS (i:=2) oJ.nd (pF T.d29 gD29 (hr.mono (by lia)) (eE (fe (eE eZ (eE (fe (eE (eU eR (cv 0) (cv 1)) eF)) (eE (fe eF) eF)))) (eE eK eF))))
  (eJ (qW eK (qV (eU eR (cv 2) eK) (cv 1) lN))
  (eO (fm (cv 2))))),?_⟩
 refine⟨_,hw,eP (eM (qS lw (by lia))) ⟨kO,fun t1 h1=>⟨ki,fun t2 h2=>⟨sU,fun t3 h3=>?_⟩⟩⟩⟩
 refine⟨_,1,.name (vr wl v),rfl,ve h1 h2 h3,fun H' a cs N=>?_⟩
 dsimp only[fu]
 have S:=(xl h1 h2 h3).trans N.sm
 have nc:H cs=none:=by
  cases z:H cs with
  |none=>rfl
  |some u=>have:=N.nc;rw[xl h1 h2 h3 _ _ z]at this;cases this
 have ej:ixN (cV3 (fun _=>0)).length (v:Int)=some v:=by
  unfold ixN
  rw[fY (by lia),fY (by show(v:Int)<((3:Nat):Int);lia)]
  rfl
 refine⟨_,N.ea,eP (eM (j:=3) rfl) ⟨cs,_,_,v,rfl,rfl,N.ec,ej,?_⟩⟩
 have e3:(cV3 (fun _=>0)).set v (.int 1)=cV3 (fun k=>if k=v then 1 else 0):=by
  match v,hv with
  |0,_=>rfl
  |1,_=>rfl
  |2,_=>rfl
 have e3:(cV3 (It.c ⟨.mk (.name (vr wl v)) [],1,fun _=>0,false⟩)).set v (.int 1)=cV3 (naI wl v).c:=e3
 rw[e3]
 refine q _ _ (fun b o e=>by rw[eN (eT e nc)];exact S _ _ e) ⟨a,_,cs,rfl,by rw[eN N.ne];exact N.ea,eG,N.im.mono (gH N.ec).tk⟩
theorem uo (T:Txt K mg):FO P w base 2 T.d34 Gn:=by
 refine T.d34.F.ok tM (fun vs H Q E h=>?_) (fun cdv A0 outer s0 H vs Q E hr h=>?_)
 ·obtain⟨x,I,k,rfl,_⟩:=h
  rfl
 obtain⟨x,I,k,rfl,i,q⟩:=h
 refine⟨_,(eJ (fV (fg gQ (fC iB (cv 1) eK) eK)
   (eO (fm (fC iB (fC jU (cv 1) eK) eK)))
   fF)
  (eO (fm (gu dD dC PySem.F.type_list_index (yx hr) (eU eR (cv 0) eK) (eE (fD (yv rfl) rfl T.z_max yl (eE (eU eR (cv 0) eK) eF)) eF))))),?_⟩
 obtain⟨a,n,cs,rfl,e1,e2,iN⟩:=i
 refine⟨(by show(0:Int)<4;decide),?_⟩
 show if(false ^^ decide (k%4=0))=true then _ else _
 by_cases z:k%4=0
 ·rw[gM z]
  refine kj ⟨⟨by decide,by decide⟩,(by show(0:Int)<3;decide),?_⟩
  have e:k/4%3=(((k/4%3).toNat:Nat):Int):=by lia
  show Q (.int (k/4%3)) H
  rw[e]
  exact q _ (by lia)
 ·rw[gk z]
  refine jP ?_
  refine⟨_,e1,eP (eM (j:=3) rfl) ⟨.inl ⟨rfl,_,SqL.of e2⟩,_,e1,eP (eM (j:=3) rfl) ⟨cs,[(I.c 0:Int),(I.c 1:Int),(I.c 2:Int)],rfl,SqL.of e2,by simp,fun n hn _=>?_⟩⟩⟩
  have go:∀j:Nat,j<3->([(I.c 0:Int),(I.c 1:Int),(I.c 2:Int)]:List Int)[j]?=some n->(∀m:Nat,m<j->([(I.c 0:Int),(I.c 1:Int),(I.c 2:Int)]:List Int)[m]?≠some n)->yw K (.ref cs) [.int n] H Q:=fun j hj h1 h2=>⟨cs,[(I.c 0:Int),(I.c 1:Int),(I.c 2:Int)],n,j,rfl,rfl,SqL.of e2,by simp,h1,h2,q j hj⟩
  by_cases a0:(I.c 0:Int)=n
  ·exact go 0 (by lia) (by rw[<-a0];rfl) (fun m h=>absurd h (cb _))
  by_cases a1:(I.c 1:Int)=n
  ·exact go 1 (by lia) (by rw[<-a1];rfl) (fun m h=>by
    have:m=0:=by lia
    subst this
    intro z
    exact a0 (cf.inj z))
  have a2:(I.c 2:Int)=n:=by
   simp only[ai,bf,or_false]at hn
   lia
  exact go 2 (by lia) (by rw[<-a2];rfl) (fun m h z=>by
   match m,h with
   |0,_=>exact a0 (cf.inj z)
   |1,_=>exact a1 (cf.inj z))
inductive XLt (vs:List V) (H:Hp) (Q:VK):Prop
 |mk (wa:Addr) (wl:List Str) (v:Nat) (x y:V) (b d:It) (e:vs=[.ref wa,.int (v:Int),x,y]) (hw:H wa=some (.lst (wl.map V.str))) (lw:wl.length=16) (hv:v<3) (ix:ItA H x b) (iy:ItA H y d) (hb:b.w<=1000) (hd:d.c v<=1000) (q:∀H' x,fG H H'->ItA H' x (ltI wl v b d)->Q x H')
def Gp:Sp:=fun vs H Q _=>XLt vs H Q
theorem vf (T:Txt K mg):FO P w base 3 T.d37 Gp:=by
 have gD30:=jq (P:=P) (w:=w) (base:=base) T
 refine T.d37.F.rd mM fun cdv A0 outer s H vs Q E hr h=>?_
 obtain⟨wa,wl,v,x,y,b,d,rfl,hw,lw,hv,ix,iy,hb,hd,q⟩:=h
 refine⟨_,(eJ (pS (i:=4) mM.nd (pF T.d30 gD30 (hr.mono (by lia)) (eE eZ (eE (fe (eE (eU eR (cv 0) (cv 1)) eF)) (eE (fq (eE (cv 2) (eE (cv 3) eF))) (eE (fq (eE (kM jc eK) (eE (cv 1) eF))) eF))))))
  (eJ (pS (i:=5) mM.nd (eU eR (eU eR (cv 3) eK) (cv 1)))
  (eJ (qW (fC ia (eU eR (cv 4) eK) (fC pP (cv 5) (eU eR (cv 2) eK))) (qV (cv 4) eK lN))
  (eJ (qW (uO rfl (A3 (x:="_law_k") ["_law_times","_law_item","_law_bound"] [("_law_times",5,s.heap.objs.size+ 3),("_law_item",4,s.heap.objs.size+ 2),("_law_bound",2,s.heap.objs.size+ 1)]) (gS rfl T.z_range (eE eK eF)) (fun _ _ _ _ _=>jr) (fun _ _ _ _ _=>(fC ia (eU eR (eU eR (cv 2) eK) (cv 0)) (fC pP (cv 1) (eU eR (eU eR (cv 3) eK) (cv 0)))))) (qV (cv 4) eK lN))
  (eO (fm (cv 4))))))),?_⟩
 have sl:=sizeLine_eq
 refine⟨_,hw,eP (eM (qS lw (by lia))) ⟨kO,fun t1 h1=>⟨jO,fun l2 h2=>?_⟩⟩⟩
 refine⟨1,rfl,jO,fun l3 h3=>?_⟩
 have T1:=eL h1 (.tup [.str (vr wl v)])
 have T2:=eL h2 (.lst [x,y])
 have T3:=eL h3 (.lst [.int (-1),.int (v:Int)])
 have T13:=T1.trans (T2.trans T3)
 refine⟨t1,l2,l3,.lt (vr wl v),_,_,[b,d],[none,some v],rfl,(T2.trans T3) _ _ eG,.cons (.flat rfl) .nil,T3 _ _ eG,.cons (ix.same T13) (.cons (iy.same T13) .nil),eG,rfl,(by show 2<=1000;decide),fun H4 a cs n N=>?_⟩
 dsimp only[fu]
 have S4:=T13.trans N.sm
 obtain⟨a1,n1,c1,rfl,ea1,ec1,in1⟩:=ix
 obtain⟨a2,n2,c2,rfl,ea2,ec2,in2⟩:=iy
 have na:H a=none:=by
  cases z:H a with
  |none=>rfl
  |some u=>have:=N.na;rw[T13 _ _ z]at this;cases this
 have ea1':=S4 _ _ ea1
 have ec1':=S4 _ _ ec1
 have q3:=at3 (c:=d.c) hv
 rw[dW]at q3
 refine⟨_,S4 _ _ ea2,eP (eM (j:=3) rfl) ⟨_,S4 _ _ ec2,eP q3 ?_⟩⟩
 dsimp only[fu]
 refine⟨_,N.ea,eP (eM (j:=2) rfl) ⟨_,ea1',eP (eM (j:=2) rfl) ⟨.inl ⟨by lia,by lia⟩,?_⟩⟩⟩
 refine⟨a,_,2,2,rfl,rfl,N.ea,rfl,?_⟩
 have F5:∀{p:Addr} {o:HO},H p=some o->(L2.Internal.upd H4 a (.lst ((itV n (knI (.lt (vr wl v)) [b,d] [none,some v]) cs).set 2 (.int (((1+knW [b,d]:Nat):Int)+(d.c v:Int)*(b.w:Int)))))) p=some o:=fun e=>by rw[eN (eT e na)];exact S4 _ _ e
 have ea5:(L2.Internal.upd H4 a (.lst ((itV n (knI (.lt (vr wl v)) [b,d] [none,some v]) cs).set 2 (.int (((1+knW [b,d]:Nat):Int)+(d.c v:Int)*(b.w:Int)))))) a=some (.lst ((itV n (knI (.lt (vr wl v)) [b,d] [none,some v]) cs).set 2 (.int (((1+knW [b,d]:Nat):Int)+(d.c v:Int)*(b.w:Int))))):=eG
 have ec5:(L2.Internal.upd H4 a (.lst ((itV n (knI (.lt (vr wl v)) [b,d] [none,some v]) cs).set 2 (.int (((1+knW [b,d]:Nat):Int)+(d.c v:Int)*(b.w:Int)))))) cs=some (.lst (cV3 (knC [b,d] [none,some v]))):=by rw[eN N.ne.symm];exact N.ec
 have i5:=N.im.mono (gH (o:= .lst ((itV n (knI (.lt (vr wl v)) [b,d] [none,some v]) cs).set 2 (.int (((1+knW [b,d]:Nat):Int)+(d.c v:Int)*(b.w:Int))))) N.ea).tk
 show zI _ _ _ _ (L2.Internal.upd H4 a (.lst ((itV n (knI (.lt (vr wl v)) [b,d] [none,some v]) cs).set 2 (.int (((1+knW [b,d]:Nat):Int)+(d.c v:Int)*(b.w:Int))))))
 generalize(L2.Internal.upd H4 a (.lst ((itV n (knI (.lt (vr wl v)) [b,d] [none,some v]) cs).set 2 (.int (((1+knW [b,d]:Nat):Int)+(d.c v:Int)*(b.w:Int))))))=H5 at F5 ea5 ec5 i5
 refine⟨3,rfl,by decide,by decide,fun D hD=>?_⟩
 refine m9 3 (by lia) (fun zs H6=>zs=(cV3 (ltI wl v b d).c).take zs.length) (fun _ _ _ h _=>h) hD rfl (fun k _ _ h=>h) (fun _ _=>bX _) rfl ?_ ?_
 ·rintro k H6 x H7 zs Z S6 hk ⟨rfl,rfl⟩ hz lz kZ
  refine⟨_,S6 _ _ ea5,eP (eM (j:=3) rfl) ⟨_,S6 _ _ ec5,eP (at3 hk) ?_⟩⟩
  refine⟨_,S6 _ _ (F5 ea1),eP (eM (j:=3) rfl) ⟨_,S6 _ _ (F5 ec1),eP (at3 hk) ⟨.inl ⟨by lia,by lia⟩,?_⟩⟩⟩
  refine kZ _ _ (fun _ _ e=>e) ?_
  rw[aM,aU,bH,lz]
  rw[lz]at hz
  have e3:(cV3 (ltI wl v b d).c)[k]?=some (.int ((knC [b,d] [none,some v] k:Int)+(d.c v:Int)*(b.c k:Int))):=by
   match k,hk with
   |0,_=>rfl
   |1,_=>rfl
   |2,_=>rfl
  rw[e3,<-hz]
  rfl
 ·intro H6 zs S6 hz lz ez
  rw[lz]at hz
  have hz:zs=cV3 (ltI wl v b d).c:=hz
  subst hz
  have ea6:=S6 _ _ ea5
  refine⟨a,_,3,3,rfl,rfl,ea6,rfl,?_⟩
  have nea:D≠a:=fun z=>by rw[z,ea5]at hD;cases hD
  refine q _ _ (fun p o e=>by rw[eN (eT e na)];exact S6 _ _ (F5 e)) ⟨a,n,D,rfl,?_,by rw[eN nea];exact ez,(i5.mono (fG.tk S6)).mono (gH ea6).tk⟩
  rw[eG]
  rfl
open TM.Internal (Kn Tr gy szs)
def JS (wl:List Str) (made:List Nat) (I:It):Prop:=Y4 (JI wl made I) (I.w<=40) (I.t.nest<=16) (I.t.sz<=140)
theorem JI.num {wl:List Str} {made:List Nat} (n:Int):JI wl made (nuI n):=by
 refine⟨fun e _=>?_,fun N _ _ _=>?_,fun k _=>bY _⟩
 ·show wT (.mk (.num n) []) e=1+cw (fun _=>0) wl e
  rw[ue,kJ]
  simp[cw,nmW]
 ·show okT (.mk (.num n) []) N
  unfold okT sA
  exact⟨rfl,trivial⟩
theorem JS.num {wl:List Str} {made:List Nat} (n:Int):JS wl made (nuI n):=⟨JI.num n,by show 1<=40;decide,by show(Tr.mk (.num n) []).nest<=16;simp[Tr.nest,TM.Internal.nests],by show(Tr.mk (.num n) []).sz<=140;simp[Tr.sz,szs]⟩
theorem JI.name {wl:List Str} {made:List Nat} {v:Nat} (hv:v<3):JI wl made (naI wl v):=by
 refine⟨fun e _=>?_,fun N _ _ h=>?_,fun k _=>?_⟩
 ·show wT (.mk (.name (vr wl v)) []) e=1+cw (fun k=>if k=v then 1 else 0) wl e
  rw[ue,kJ]
  match v,hv with
  |0,_=>simp[cw,nmW]
  |1,_=>simp[cw,nmW]
  |2,_=>simp[cw,nmW]
 ·show okT (.mk (.name (vr wl v)) []) N
  unfold okT sA
  exact⟨⟨rfl,h v hv (by show 0<if v=v then 1 else 0;simp)⟩,trivial⟩
 ·show(if k=v then 1 else 0)<=1
  split<;>lia
def deI (wl:List Str) (made:List Nat) (d:Nat):It:=⟨.mk (.name (wdE wl d)) [],1+made.getD d 0,fun _=>0,false⟩
def owI (wl:List Str) (made:List Nat):It:=⟨.mk (.name (wdE wl made.length)) [],1,fun _=>0,true⟩
theorem JI.df {wl:List Str} {made:List Nat} {d:Nat} (hd:d<made.length):JI wl made (deI wl made d):=by
 refine⟨fun e he=>?_,fun N h _ _=>?_,fun k _=>bY _⟩
 ·show wT (.mk (.name (wdE wl d)) []) e=1+made.getD d 0+cw (fun _=>0) wl e
  rw[ue,kJ]
  simp only[nmW,cw]
  rw[he.1 d hd]
  lia
 ·show okT (.mk (.name (wdE wl d)) []) N
  unfold okT sA
  exact⟨⟨rfl,h d hd⟩,trivial⟩
theorem JI.ow {wl:List Str} {made:List Nat}:JI wl made (owI wl made):=by
 refine⟨fun e he=>?_,fun N _ h _=>?_,fun k _=>bY _⟩
 ·show wT (.mk (.name (wdE wl made.length)) []) e=1+cw (fun _=>0) wl e
  rw[ue,kJ]
  simp only[nmW,cw]
  rw[he.2]
  lia
 ·show okT (.mk (.name (wdE wl made.length)) []) N
  unfold okT sA
  exact⟨⟨rfl,h rfl⟩,trivial⟩
theorem zr {α β:Type} {R:α->β->Prop} {J:β->Prop}:∀{xs:List α},(∀x∈xs,∃y,R x y/\J y)->∃ys,lT R xs ys/\∀y∈ys,J y
 |[],_=>⟨[],.nil,fun _ h=>by cases h⟩
 |x::xs,h=>by
  obtain⟨y,r,j⟩:=h x (by simp)
  obtain⟨ys,rs,js⟩:=zr (xs:=xs) fun z hz=>h z (ah _ hz)
  refine⟨y::ys,.cons r rs,fun z hz=>?_⟩
  rcases ai.mp hz with rfl|hz
  ·exact j
  ·exact js z hz
theorem CQ {st D:Addr} {sn:Nat} {J:It->Prop} {n:Nat} {Q:VK} {H1:Hp} (hn:n<=50) (k0:Stk H1 st sn J) (j0:J (nuI 0)) (hD:H1 D=none) (hq:∀H' zs its,FS st H1 H'->Stk H' st sn J->H' D=some (.lst zs)->lT (ItA H') zs its->its.length=n->(∀I∈its,J I)->Q (.ref D) H'):LcP (Itr 0 n) 0 kS (qC EE [] E0 (jw (cV 1) sS)) Q [none,some (.ref st)] H1 D:=by
 have sl:=sizeLine_eq
 have nst:D≠st:=fun z=>by obtain⟨xs,e,_⟩:=k0;rw[z,e]at hD;cases hD
 refine⟨fun k m σ' H=>Y4 (m=n-k) (k<=n) ((∃o,σ'=[o,some (.ref st)])) (∃zs,Y5 (zs.length=k) (H D=some (.lst zs)) (Stk H st sn J) (FS st H1 H) (∀x∈zs,∃I,ItA H x I/\J I)),⟨n,rfl,bY _,⟨none,rfl⟩,[],rfl,eG,k0.same (eL hD _),FS.same (eL hD _),fun _ h=>by cases h⟩,?_⟩
 rintro k m σ' H ⟨rfl,hk,⟨o,rfl⟩,zs,lz,eD,ks,F,al⟩
 by_cases lk:k<n
 ·refine .inr ⟨lk,?_⟩
  rintro v H3 ⟨rfl,rfl⟩
  dsimp only[kS]
  rw[fY rfl]
  refine⟨st,sn,J,rfl,ks,j0,fun H5 x I F5 k5 i5 jI=>?_⟩
  have e5:=F5 _ _ eD nst
  have al5:∀x∈zs,∃I,ItA H5 x I/\J I:=fun x hx=>let⟨I,a,b⟩:=al x hx;⟨I,a.fs ks F5,b⟩
  have kD:Stk H5 D 100 J:=⟨zs,e5,by lia,al5⟩
  have F6:FS D H5 (L2.Internal.upd H5 D (.lst (zs++[x]))):=fun a o e n=>by rw[eN n];exact e
  refine⟨zs,e5,by lia,n-(k+ 1),by lia,rfl,lk,⟨_,rfl⟩,zs++[x],by rw[aM,lz];rfl,eG,?_,fun a o e n=>?_,fun y hy=>?_⟩
  ·obtain⟨xs,es,ls,als⟩:=k5
   exact⟨xs,F6 _ _ es nst.symm,ls,fun y hy=>let⟨I,a,b⟩:=als y hy;⟨I,a.fs kD F6,b⟩⟩
  ·rw[eN (eT e hD)]
   exact F5 _ _ (F _ _ e n) n
  ·rcases aj.mp hy with hy|hy
   ·obtain⟨I',a,b⟩:=al5 y hy
    exact⟨I',a.fs kD F6,b⟩
   ·rw[aY.mp hy]
    exact⟨I,i5.fs kD F6,jI⟩
 ·have e1:k=n:=by lia
  subst e1
  obtain⟨its,a2,js⟩:=zr al
  exact .inl ⟨bX _,hq H zs its F ks eD a2 (by rw[<-a2.length];exact lz) js⟩
inductive XWi (L:Int->Int->Prop) (vs:List V) (H:Hp) (Q:VK):Prop
 |mk (wa st:Addr) (sn:Nat) (wl:List Str) (made:List Nat) (op k:Int) (e:vs=[.ref wa,.ref st,.int op,.int k]) (ho:L op k) (hw:H wa=some (.lst (wl.map V.str))) (lw:wl.length=16) (nd:wl.Nodup) (lm:made.length<=12) (nws:wa≠st) (ks:Stk H st sn (JS wl made)) (q:∀H' x I,FS st H H'->Stk H' st sn (JS wl made)->ItA H' x I->JI wl made I->Q x H')
def EG (L:Int->Int->Prop):Sp:=fun vs H Q _=>XWi L vs H Q
def hs3:Nat->Str
 |0=>"get"
 |1=>"tag"
 |_=>"size"
def pk3 (a b c:Addr):Nat->Addr
 |0=>a
 |1=>b
 |_=>c
def hs5:Nat->Str
 |0=>"call"
 |1=>"join"
 |2=>"add"
 |3=>"sub"
 |_=>"less"
theorem qT {H:Hp} {Q:VK} {wt pl hl:Addr} {κ:Kn} {h:Str} {ws xs ys:List V} {its:List It} {ho:List (Option Nat)} (eh:h=κ.s) (ew:H wt=some (.tup ws)) (iw:Ims H ws (wsD κ)) (ep:H pl=some (.lst xs)) (ix:lT (ItA H) xs its) (e4:H hl=some (.lst ys)) (ey:ys=ho.map hI) (l:ho.length=its.length) (ln:its.length<=1000) (q:∀H' x,fG H H'->ItA H' x (knI κ its ho)->Q x H'):CN [.str h,.ref wt,.ref pl,.ref hl] H Q E0:=
 ⟨wt,pl,hl,κ,ws,xs,its,ho,by rw[eh],ew,iw,ep,ix,by rw[e4,ey],l,ln,fun H' a cs n N=>q H' _ N.sm N.it⟩
theorem qU (T:Txt K mg):FO P w base 3 T.d36 (EG fun op _=>op=0\/op=1\/op=2):=by
 have gD30:=jq (P:=P) (w:=w) (base:=base) T
 have gD31:=kK (P:=P) (w:=w) (base:=base) T
 refine T.d36.F.rd ie fun cdv A0 outer s H vs Q E hr h=>?_
 obtain⟨wa,st,sn,wl,made,op,k,rfl,ho,hw,lw,nd,lm,nws,ks,q⟩:=h
 refine⟨_,(eJ (pS (i:=4) ie.nd (pF T.d31 gD31 (hr.mono (by lia)) (eE (cv 1) eF)))
  (eJ (fV (fg gQ (cv 2) eK)
   (eJ (pS (i:=5) ie.nd (eU eR (fq (eE eZ (eE eZ (eE eZ eF)))) (fC iB (cv 3) eK)))
   (eJ (pS (i:=6) ie.nd (eU eR (fq (eE (fe (eE (eU eR (cv 0) (fC iB (fC jU (cv 3) eK) eK)) eF)) (eE (fe (eE (eU eR (cv 0) (fC iB (fC jU (cv 3) eK) eK)) eF)) (eE (fe eF) eF)))) (fC iB (cv 3) eK)))
   (eO (fm (pF T.d30 gD30 (hr.mono (by lia)) (eE (cv 5) (eE (cv 6) (eE (fq (eE (cv 4) eF)) (eE (fq (eE (kM jc eK) eF)) eF)))))))))
   fF)
  (eJ (fV (fg gQ (cv 2) eK)
   (eJ (pS (i:=7) ie.nd (fq (eE (pF T.d31 gD31 (hr.mono (by lia)) (eE (cv 1) eF)) (eE (pF T.d31 gD31 (hr.mono (by lia)) (eE (cv 1) eF)) (eE (cv 4) eF)))))
   (eO (fm (pF T.d30 gD30 (hr.mono (by lia)) (eE eZ (eE (fe eF) (eE (cv 7) (eE (fq (eE (kM jc eK) (eE (kM jc eK) (eE (kM jc eK) eF)))) eF))))))))
   fF)
  (eO (fm (pF T.d30 gD30 (hr.mono (by lia)) (eE (eU eR (fq (eE eZ (eE eZ (eE eZ (eE eZ (eE eZ eF)))))) (fC iB (cv 3) eK)) (eE (fe eF) (eE (fq (eE (pF T.d31 gD31 (hr.mono (by lia)) (eE (cv 1) eF)) (eE (cv 4) eF))) (eE (fq (eE (kM jc eK) (eE (kM jc eK) eF))) eF)))))))))),?_⟩
 have sl:=sizeLine_eq
 refine⟨st,sn,JS wl made,rfl,ks,JS.num 0,fun H1 x I F1 k1 i1 j1=>?_⟩
 dsimp only[fu]
 have hw1:=F1 _ _ hw nws
 by_cases e0:op=0
 ·refine rE (i:=2) (n:=op) rfl e0 ?_
  refine⟨sU,fun l1 h1=>?_⟩
  obtain⟨j,hj,ej⟩:∃j:Nat,j<3/\k%3=(j:Int):=⟨(k%3).toNat,by lia,by lia⟩
  obtain⟨i,hi,ei⟩:∃i:Nat,i<16/\k/3%16=(i:Int):=⟨(k/3%16).toNat,by lia,by lia⟩
  have qw:atI (wl.map V.str) (k/3%16)=some (.str (vr wl i)):=by rw[ei];exact eM (qS lw hi)
  have U1:=eL h1 (.lst [.str "get",.str "tag",.str "size"])
  have fin:∀(κ:Kn) (H2:Hp) (wt:Addr) (ws:List V),fG H1 H2->H2 wt=some (.tup ws)->Ims H2 ws (wsD κ)->exN κ=[]->(∀w,κ≠ .name w)->(∀N,okK κ 1 N)->∀(σ:St),σ[5]?=some (some (.str κ.s))->σ[6]?=some (some (.ref wt))->σ[4]?=some (some x)->EY (qC CN [] E0 (jw (cV 5) (jw (cV 6) (jw (AJ (jw (cV 4) sS)) (jw (AJ (jw (tUn (rU fun i=>V.int (-i)) (tC (V.int 1))) sS)) sS))))) {nx:=fun x H'=>Q V.non H',rt:=Q} σ H2:=by
   intro κ H2 wt ws U ew iw ex nn ok σ s5 s6 s4
   show onV σ[5]? _
   rw[s5]
   show onV σ[6]? _
   rw[s6]
   show onV σ[4]? _
   rw[s4]
   refine⟨kO,fun l3 h3=>⟨1,rfl,kO,fun l4 h4=>?_⟩⟩
   have U3:=eL h3 (.lst [x])
   have U4:=eL h4 (.lst [.int (-1)])
   have U34:=U3.trans U4
   refine qT (κ:=κ) (its:=[I]) (ho:=[none]) rfl (U34 _ _ ew) (iw.mono (fG.tk U34)) (U4 _ _ eG) (.cons (i1.same (U.trans U34)) .nil) eG rfl rfl (by show 1<=1000;decide) fun H' x' S' i'=>?_
   have U':=U.trans (U34.trans S')
   exact q H' x' _ (F1.trans (FS.same U')) (k1.same U') i' (JI.knit lw nd lm rfl (by rw[ex];exact⟨rfl,trivial⟩) (fun J hJ=>by rw[aY.mp hJ];exact j1.1) nn ok)
  have qh:atI [V.str "get",V.str "tag",V.str "size"] (k%3)=some (.str (hs3 j)):=by
   rw[ej]
   match j,hj with
   |0,_=>rfl
   |1,_=>rfl
   |2,_=>rfl
  refine⟨(by show(0:Int)<3;decide),_,eG,eP qh ?_⟩
  dsimp only[fu]
  have hw2:=U1 _ _ hw1
  refine⟨⟨by decide,by decide⟩,(by show(0:Int)<16;decide),_,hw2,eP qw ⟨kO,fun t1 g1=>?_⟩⟩
  have V1:=eL g1 (.tup [.str (vr wl i)])
  refine⟨⟨by decide,by decide⟩,(by show(0:Int)<16;decide),_,V1 _ _ hw2,eP qw ⟨kO,fun t2 g2=>⟨ki,fun t3 g3=>⟨sU,fun l2 g4=>?_⟩⟩⟩⟩
  have V2:=eL g2 (.tup [.str (vr wl i)])
  have V3:=eL g3 (.tup [])
  have V4:=eL g4 (.lst [.ref t1,.ref t2,.ref t3])
  have qp:atI [V.ref t1,V.ref t2,V.ref t3] (k%3)=some (.ref (pk3 t1 t2 t3 j)):=by
   rw[ej]
   match j,hj with
   |0,_=>rfl
   |1,_=>rfl
   |2,_=>rfl
  refine⟨(by show(0:Int)<3;decide),_,eG,eP qp ?_⟩
  dsimp only[fu]
  have UV:=U1.trans (V1.trans (V2.trans (V3.trans V4)))
  match j,hj with
  |0,_=>exact fin (.get (vr wl i)) _ t1 _ UV ((V2.trans (V3.trans V4)) _ _ eG) (.cons (.flat rfl) .nil) rfl (fun _ z=>nomatch z) (fun _=>rfl) _ rfl rfl rfl
  |1,_=>exact fin (.tag (vr wl i)) _ t2 _ UV ((V3.trans V4) _ _ eG) (.cons (.flat rfl) .nil) rfl (fun _ z=>nomatch z) (fun _=>rfl) _ rfl rfl rfl
  |2,_=>exact fin (.op "size" 1) _ t3 _ UV (V4 _ _ eG) .nil rfl (fun _ z=>nomatch z) (fun _=>⟨rfl,by simp[TM.Internal.ops]⟩) _ rfl rfl rfl
 refine rF (i:=2) (n:=op) rfl e0 ?_
 dsimp only[ji]
 by_cases e1:op=1
 ·refine rE (i:=2) (n:=op) rfl e1 ?_
  refine⟨st,sn,JS wl made,rfl,k1,JS.num 0,fun H2 x2 I2 F2 k2 i2 j2=>?_⟩
  refine⟨st,sn,JS wl made,rfl,k2,JS.num 0,fun H3 x3 I3 F3 k3 i3 j3=>?_⟩
  refine⟨sU,fun l3 h3=>?_⟩
  dsimp only[fu]
  refine⟨ki,fun t4 h4=>⟨1,rfl,1,rfl,1,rfl,sU,fun l5 h5=>?_⟩⟩
  have U3:=eL h3 (.lst [x2,x3,x])
  have U4:=eL h4 (.tup [])
  have U5:=eL h5 (.lst [.int (-1),.int (-1),.int (-1)])
  have U:=U3.trans (U4.trans U5)
  refine qT (κ:= .op "at" 3) (its:=[I2,I3,I]) (ho:=[none,none,none]) rfl (U5 _ _ eG) .nil ((U4.trans U5) _ _ eG) (.cons ((i2.fs k2 F3).same U) (.cons (i3.same U) (.cons (((i1.fs k1 F2).fs k2 F3).same U) .nil))) eG rfl rfl (by show 3<=1000;decide) fun H' x' S' i'=>?_
  have U':=U.trans S'
  exact q H' x' _ (F1.trans (F2.trans (F3.trans (FS.same U')))) (k3.same U') i' (JI.knit lw nd lm rfl ⟨rfl,rfl,rfl,trivial⟩ (fun J hJ=>by
   simp only[ai,bf,or_false]at hJ
   rcases hJ with rfl|rfl|rfl
   ·exact j2.1
   ·exact j3.1
   ·exact j1.1) (fun _ z=>nomatch z) (fun _=>⟨rfl,by simp[TM.Internal.ops]⟩))
 refine rF (i:=2) (n:=op) rfl e1 ?_
 dsimp only[ji]
 obtain⟨j,hj,ej⟩:∃j:Nat,j<5/\k%5=(j:Int):=⟨(k%5).toNat,by lia,by lia⟩
 have qh:atI [V.str "call",V.str "join",V.str "add",V.str "sub",V.str "less"] (k%5)=some (.str (hs5 j)):=by
  rw[ej]
  match j,hj with
  |0,_=>rfl
  |1,_=>rfl
  |2,_=>rfl
  |3,_=>rfl
  |4,_=>rfl
 have ho5:(hs5 j,2)∈TM.Internal.ops:=by
  match j,hj with
  |0,_=>simp[TM.Internal.ops,hs5]
  |1,_=>simp[TM.Internal.ops,hs5]
  |2,_=>simp[TM.Internal.ops,hs5]
  |3,_=>simp[TM.Internal.ops,hs5]
  |4,_=>simp[TM.Internal.ops,hs5]
 refine⟨AE,fun l1 h1=>⟨(by show(0:Int)<5;decide),_,eG,eP qh ⟨ki,fun t2 h2=>?_⟩⟩⟩
 have V1:=eL h1 (.lst [.str "call",.str "join",.str "add",.str "sub",.str "less"])
 have V2:=eL h2 (.tup [])
 have V:=V1.trans V2
 have k1':=k1.same V
 refine⟨st,sn,JS wl made,rfl,k1',JS.num 0,fun H2 x2 I2 F2 k2 i2 j2=>?_⟩
 refine⟨jO,fun l3 h3=>⟨1,rfl,1,rfl,jO,fun l5 h5=>?_⟩⟩
 have U3:=eL h3 (.lst [x2,x])
 have U5:=eL h5 (.lst [.int (-1),.int (-1)])
 have U:=U3.trans U5
 refine qT (κ:= .op (hs5 j) 2) (its:=[I2,I]) (ho:=[none,none]) rfl (U _ _ (k1'.tk F2 _ _ eG)) .nil (U5 _ _ eG) (.cons (i2.same U) (.cons (((i1.same V).fs k1' F2).same U) .nil)) eG rfl rfl (by show 2<=1000;decide) fun H' x' S' i'=>?_
 have U':=U.trans S'
 exact q H' x' _ (F1.trans ((FS.same V).trans (F2.trans (FS.same U')))) (k2.same U') i' (JI.knit lw nd lm rfl ⟨rfl,rfl,trivial⟩ (fun J hJ=>by
  simp only[ai,bf,or_false]at hJ
  rcases hJ with rfl|rfl
  ·exact j2.1
  ·exact j1.1) (fun _ z=>nomatch z) (fun _=>⟨rfl,ho5⟩))
open TM.Internal (Kn Tr gy szs)
theorem vg {wl:List Str}:∀n:Nat,Mxs wl [] (aE n none)
 |0=>trivial
 |n+ 1=>⟨rfl,vg n⟩
theorem zv {wl:List Str}:∀{l:List (Str×Str)} {vs:List Nat},(∀(i:Nat) a v,l[i]?=some a->vs[i]?=some v->v<3/\a.2=vr wl v)->l.length=vs.length->Mxs wl (l.map fun a=>some (a.2,("arm":Str))) (vs.map some)
 |[],[],_,_=>trivial
 |a::l,v::vs,h,e=>by
  obtain⟨h1,h2⟩:=h 0 a v rfl rfl
  exact⟨h1,⟨"arm",fo,by rw[<-h2];rfl⟩,zv (fun i a v ha hv=>h (i+ 1) a v ha hv) (by simpa using e)⟩
 |[],_::_,_,e=>by cases e
 |_::_,[],_,e=>by cases e
theorem EH {xs:List V} {n:Nat}:uH xs none (some (n:Int))=xs.take n:=by
 unfold uH
 rw[HT.Internal.sIx_none,HT.Internal.sIx_nat,List.drop_zero,Nat.sub_zero]
 by_cases h:n<=xs.length
 ·rw[Nat.min_eq_left h]
 ·rw[Nat.min_eq_right (by lia),bI,bK (by lia)]
theorem vZ (n:Nat):(aE n (none:Option Nat)).map hI=aE n (.int (-1)):=by rw[List.map_replicate];rfl
theorem Bx {K:PySem.W.Frag} {l D:Addr} {xs:List V} {Q:VK} {H1:Hp} (el:H1 l=some (.lst xs)) (hD:H1 D=none) (hn:xs.length<=1000) (hq:∀H',fG H1 H'->H' D=some (.lst (aE xs.length (.int (-1))))->Q (.ref D) H'):LcP (Itl K l) 0 kS (tUn (rU fun i=>V.int (-i)) (tC (V.int 1))) Q [none] H1 D:=by
 have sl:=sizeLine_eq
 refine m9 xs.length (by lia) (fun zs _=>zs=aE zs.length (.int (-1))) (fun _ _ _ h _=>h) hD rfl (fun k H5 S5 h=>vA el S5 h) (fun H5 S5=>vB el S5) rfl ?_ ?_
 ·rintro k H v H3 zs Z S hk ⟨rfl,_⟩ hz lz kZ
  refine⟨1,rfl,kZ _ _ (fun _ _ e=>e) ?_⟩
  rw[aM,aU,bQ,<-hz]
 ·intro H' zs S hz lz ez
  rw[lz]at hz
  exact hq H' S (by rw[ez,hz])
abbrev Dg (a b:TE):TE:=tOp (cI (fun _ j=>0<j) fun i j=>V.int (i%j)) a b
abbrev tDv (a b:TE):TE:=tOp (cI E6 fun i j=>V.int (i/j)) a b
theorem Az {σ:St} {R:TS} {D:mh} {H:Hp} {op k:Int} (h2:σ[2]?=some (some (.int op))) (h3:σ[3]?=some (some (.int k))) (ho:op=0\/op=1\/op=2) (h:∀(n:Nat) (H':Hp),n<=8->(op=2->n<=5)->fG H H'->R D (σ.set 4 (some (.int (n:Int)))) H'):
  zI (zB (Dg (tDv (cV 3) (tC (.int 3))) (tC (.int 3))) (fu 4)) (zI (rM (cT (tOp (cEq false) (Dg (tDv (cV 3) (tC (.int 9))) (tC (.int 4))) (tC (.int 0)))) (zB (Dg (tDv (cV 3) (tC (.int 36))) (tOp zC (AJ (jw (tC (.int 7)) (jw (tC (.int 9)) (jw (tC (.int 6)) sS)))) (cV 2))) (fu 4)) ji) R) D σ H:=by
 show onV σ[3]? _
 rw[h3]
 refine⟨⟨by decide,by decide⟩,(by show(0:Int)<3;decide),?_⟩
 have e1:k/3%3=(((k/3%3).toNat:Nat):Int):=by lia
 have s3:(σ.set 4 (some (.int (k/3%3))))[3]?=some (some (.int k)):=by rw[ar (by decide)];exact h3
 have s2:(σ.set 4 (some (.int (k/3%3))))[2]?=some (some (.int op)):=by rw[ar (by decide)];exact h2
 show onV (σ.set 4 (some (.int (k/3%3))))[3]? _
 rw[s3]
 refine⟨⟨by decide,by decide⟩,(by show(0:Int)<4;decide),?_⟩
 show if(false ^^ decide (k/9%4=0))=true then _ else _
 by_cases z:k/9%4=0
 ·rw[gM z]
  refine kj ?_
  show onV (σ.set 4 (some (.int (k/3%3))))[3]? _
  rw[s3]
  refine⟨⟨by decide,by decide⟩,sU,fun l hl=>?_⟩
  show onV (σ.set 4 (some (.int (k/3%3))))[2]? _
  rw[s2]
  obtain⟨m,em,h0,h9,h5⟩:∃m:Int,atI [V.int 7,V.int 9,V.int 6] op=some (.int m)/\0<m/\m<=9/\(op=2->m<=6):=by
   rcases ho with rfl|rfl|rfl
   ·exact⟨7,rfl,by decide,by decide,fun z=>by cases z⟩
   ·exact⟨9,rfl,by decide,by decide,fun z=>by cases z⟩
   ·exact⟨6,rfl,by decide,by decide,fun _=>by decide⟩
  refine⟨_,eG,eP em ⟨h0,?_⟩⟩
  have c0:=dS (k/36) (show m≠0 by lia)
  have c1:=dU (k/36) h0
  have e2:k/36%m=(((k/36%m).toNat:Nat):Int):=by lia
  have h':=h (k/36%m).toNat _ (by lia) (fun y=>by have:=h5 y;lia) (eL hl (.lst [.int 7,.int 9,.int 6]))
  rw[<-e2]at h'
  show R D ((σ.set 4 (some (.int (k/3%3)))).set 4 (some (.int (k/36%m)))) _
  rw[bw]
  exact h'
 ·rw[gk z]
  refine jP ?_
  have h':=h (k/3%3).toNat H (by lia) (fun _=>by lia) (fun _ _ e=>e)
  rw[<-e1]at h'
  exact h'
theorem AA {wa D:Addr} {wl:List Str} {n:Nat} {k:Int} {Q:VK} {H1:Hp} (hw:H1 wa=some (.lst (wl.map V.str))) (lw:wl.length=16) (hD:H1 D=none) (hn:n<=50) (hq:∀(H':Hp) (cs:List Str),fG H1 H'->H' D=some (.lst (cs.map V.str))->cs.length=n->Q (.ref D) H'):LcP (Itr 0 n) 0 kS (tOp zC (cV 1) (Dg (tOp (cI0 fun i j=>V.int (i+j)) (tDv (cV 2) (tC (V.int 189))) (tOp (cI Dv fun i j=>V.int (i*j)) (tC (V.int 3)) (cV 0))) (tC (V.int 16)))) Q [none,some (.ref wa),some (.int k)] H1 D:=by
 have sl:=sizeLine_eq
 refine m9 n (by lia) (fun zs _=>∃cs:List Str,zs=cs.map V.str) (fun _ _ _ h _=>h) hD rfl (fun j _ _ h=>h) (fun _ _=>bX _) ⟨[],rfl⟩ ?_ ?_
 ·rintro j H v H3 zs Z S hj ⟨rfl,rfl⟩ ⟨cs,rfl⟩ lz kZ
  obtain⟨i,hi,ei⟩:∃i:Nat,i<16/\(k/189+ 3*(0+(j:Int)))%16=(i:Int):=⟨((k/189+ 3*(0+(j:Int)))%16).toNat,by lia,by lia⟩
  refine⟨⟨by decide,by decide⟩,.inl ⟨by decide,by decide⟩,(by show(0:Int)<16;decide),_,S _ _ hw,eP (show atI _ ((k/189+ 3*(0+(j:Int)))%16)=some (.str (vr wl i)) by rw[ei];exact eM (qS lw hi)) ?_⟩
  exact kZ _ _ (fun _ _ e=>e) ⟨cs++[vr wl i],by rw[bz];rfl⟩
 ·rintro H' zs S ⟨cs,rfl⟩ lz ez
  exact hq H' cs S ez (by rw[aA]at lz;exact lz)
theorem CS {D:Addr} {n:Nat} {k:Int} {Q:VK} {H1:Hp} (hD:H1 D=none) (hn:n<=50) (hq:∀(H':Hp),fG H1 H'->H' D=some (.lst (((aa n).map fun j:Nat=>((k+(j:Int))%3).toNat).map fun v:Nat=> .int (v:Int)))->Q (.ref D) H'):LcP (Itr 0 n) 0 kS (Dg (tOp (cI0 fun i j=>V.int (i+j)) (cV 1) (cV 0)) (tC (V.int 3))) Q [none,some (.int k)] H1 D:=by
 have sl:=sizeLine_eq
 refine m9 n (by lia) (fun zs _=>zs=((aa zs.length).map fun j:Nat=>((k+(j:Int))%3).toNat).map fun v:Nat=> .int (v:Int)) (fun _ _ _ h _=>h) hD rfl (fun j _ _ h=>h) (fun _ _=>bX _) rfl ?_ ?_
 ·rintro j H v H3 zs Z S hj ⟨rfl,rfl⟩ hz lz kZ
  refine⟨(by show(0:Int)<3;decide),kZ _ _ (fun _ _ e=>e) ?_⟩
  rw[aM,aU,bO,bz,bz,<-hz,lz]
  have e:(k+(0+(j:Int)))%3=((((k+(j:Int))%3).toNat:Nat):Int):=by rw[dW];lia
  show zs++[V.int ((k+(0+(j:Int)))%3)]=_
  rw[e]
  rfl
 ·intro H' zs S hz lz ez
  rw[lz]at hz
  exact hq H' S (by rw[ez,hz])
theorem v5 {H:Hp}:∀l:List Str,Ims H (l.map V.str) (l.map sD)
 |[]=> .nil
 |x::l=> .cons (.flat rfl) (v5 l)
theorem v7 {H:Hp}:∀l:List (Str×Str),Ims H (l.flatMap fun a=>[V.str a.1,V.str a.2]) (l.flatMap fun a=>[sD a.1,sD a.2])
 |[]=> .nil
 |x::l=> .cons (.flat rfl) (.cons (.flat rfl) (v7 l))
def lsA (wl cs:List Str) (k:Int) (i:Nat):List (Str×Str):=(aa i).map fun j:Nat=>(cs.getD j "",vr wl ((k+(j:Int))%3).toNat)
theorem sP {wl cs:List Str} {k:Int} {i:Nat}:(lsA wl cs k i).length=i:=by unfold lsA;rw[aA,bP]
theorem v8:∀l:List (Str×Str),(l.flatMap fun a=>[V.str a.1,V.str a.2]).length=2*l.length
 |[]=>rfl
 |x::l=>by have e:=ax (a:=x) (as:=l);rw[List.flatMap_cons,aM,v8 l];show 2+ 2*l.length=_;lia
theorem uq (T:Txt K mg):FO P w base 3 T.d35 (EG fun op _=>op=0\/op=1\/op=2):=by
 have gD30:=jq (P:=P) (w:=w) (base:=base) T
 have gD31:=kK (P:=P) (w:=w) (base:=base) T
 refine T.d35.F.rd gx fun cdv A0 outer s H vs Q E hr h=>?_
 obtain⟨wa,st,sn,wl,made,op,k,rfl,ho,hw,lw,nd,lm,nws,ks,q⟩:=h
 refine⟨_,(eJ (pS (i:=4) gx.nd (fC iB (fC jU (cv 3) eK) eK))
  (eJ (fV (fg gQ (fC iB (fC jU (cv 3) eK) eK) eK)
   (eO (pS (i:=4) gx.nd (fC iB (fC jU (cv 3) eK) (eU eR (fq (eE eK (eE eK (eE eK eF)))) (cv 2)))))
   fF)
  (eJ (lO (j:=5) rfl (A3 (x:="_law_k") ["_law_words_here","_law_arg"] [("_law_words_here",0,s.heap.objs.size+ 1),("_law_arg",3,s.heap.objs.size+ 3)]) (gS rfl T.z_range (eE (fC ia (cv 4) eK) eF)) (fun _ _ _ _ _=>jr) (fun _ _ _ _ _=>(eU eR (cv 1) (fC iB (fC ia (fC jU (cv 2) eK) (fC pP eK (cv 0))) eK))) gx.nd rfl (.inl rfl))
  (eJ (lO (j:=6) rfl (A3 (x:="_law_k") ["_law_stack"] [("_law_stack",1,s.heap.objs.size+ 2)]) (gS rfl T.z_range (eE (cv 4) eF)) (fun _ _ _ _ _=>jr) (fun _ _ _ _ _=>(pF T.d31 gD31 (hr.mono (by lia)) (eE (cv 1) eF))) gx.nd rfl (.inl rfl))
  (eJ (fV (fg gQ (cv 2) eK)
   (eO (fm (pF T.d30 gD30 (hr.mono (by lia)) (eE eZ (eE (fW f9 rfl T.z_tuple iM (eE (lM uL (cv 5) nM (nN (cv 4))) eF)) (eE (cv 6) (eE (uO rfl (DM (x:="_law_part") rfl fo fo rfl rfl) (kP (cv 6)) (fun _ _ _ _ _=>jr) (fun _ _ _ _ _=>(kM jc eK))) eF)))))))
   fF)
  (eJ (fV (fg gQ (cv 2) eK)
   (eO (fm (pF T.d30 gD30 (hr.mono (by lia)) (eE eZ (eE (fe eF) (eE (cv 6) (eE (uO rfl (DM (x:="_law_part") rfl fo fo rfl rfl) (kP (cv 6)) (fun _ _ _ _ _=>jr) (fun _ _ _ _ _=>(kM jc eK))) eF)))))))
   fF)
  (eJ (pS (i:=7) gx.nd (fe eF))
  (eJ (jb PassesOwn.never rfl (gS rfl T.z_range (eE (fC ia (cv 4) eK) eF)) (pN (i:=8) gx.nd)
   (eO (pS (i:=7) gx.nd (fC rZ (cv 7) (fe (eE (eU eR (cv 5) (cv 8)) (eE (eU eR (cv 0) (fC iB (fC ia (cv 3) (cv 8)) eK)) eF)))))))
  (eJ (pS (i:=9) gx.nd (fC rh (cv 6) (fq (eE (pF T.d31 gD31 (hr.mono (by lia)) (eE (cv 1) eF)) eF))))
  (eO (fm (pF T.d30 gD30 (hr.mono (by lia)) (eE eZ (eE (cv 7) (eE (fC rh (fq (eE (pF T.d31 gD31 (hr.mono (by lia)) (eE (cv 1) eF)) eF)) (cv 9)) (eE (fC rh (fq (eE (kM jc eK) eF)) (uO rfl (A3 (x:="_law_k") ["_law_arg"] [("_law_arg",3,s.heap.objs.size+ 3)]) (gS rfl T.z_range (eE (fC ia (cv 4) eK) eF)) (fun _ _ _ _ _=>jr) (fun _ _ _ _ _=>(fC iB (fC ia (cv 1) (cv 0)) eK)))) eF)))))))))))))))),?_⟩
 have sl:=sizeLine_eq
 refine Az rfl rfl ho fun n H0 hn h5 S0=>?_
 have en:(n:Int)+ 1=((n+ 1:Nat):Int):=by lia
 refine⟨_,rfl,by lia,by lia,fun D1 hD1=>?_⟩
 rw[show((n:Int)+ 1).toNat=n+ 1 by lia]
 refine AA (S0 _ _ hw) lw hD1 (by lia) fun H1 cs S1 e1 lc=>?_
 dsimp only[fu]
 have S01:=S0.trans S1
 refine⟨_,rfl,by lia,by lia,fun D2 hD2=>?_⟩
 rw[show((n:Int)).toNat=n by lia]
 refine CQ (by lia) (ks.same S01) (JS.num 0) hD2 fun H2 zs its F2 k2 eD a2 li jI=>?_
 dsimp only[fu]
 have F02:FS st H H2:=(FS.same S01).trans F2
 have lz:zs.length=n:=by rw[a2.length];exact li
 have n1:D1≠st:=fun z=>by obtain⟨xs,e,_⟩:=ks;rw[z,S0 _ _ e]at hD1;cases hD1
 have e12:=F2 _ _ e1 n1
 by_cases e0:op=0
 ·refine rE (i:=2) (n:=op) rfl e0 ?_
  have ec:uH (cs.map V.str) none (some (n:Int))=(cs.take n).map V.str:=by rw[EH,List.map_take]
  refine⟨_,rfl,D1,_,rfl,SqL.of e12,fun l3 h3=>?_⟩
  rw[ec]
  refine⟨l3,_,rfl,.inl ⟨SqL.of eG,fun t4 h4=>?_⟩⟩
  have U3:=eL h3 (.lst ((cs.take n).map V.str))
  have U4:=eL h4 (.tup ((cs.take n).map V.str))
  have U34:=U3.trans U4
  refine⟨D2,rfl,⟨_,SqL.of (U34 _ _ eD)⟩,fun D3 hD3=>Bx (U34 _ _ eD) hD3 (by lia) fun H3 S3 e3=>?_⟩
  have U:=U34.trans S3
  have lt:(cs.take n).length=n:=by rw[aF];lia
  refine qT (κ:= .rcd (cs.take n)) (its:=its) (ho:=aE n none) rfl (S3 _ _ eG) (v5 _) (U _ _ eD) (a2.imp fun _ _ h=>h.same U) e3 (by rw[vZ,lz]) (by rw[aN,li]) (by lia) fun H' x' S' i'=>?_
  have U':=U.trans S'
  exact q H' x' _ (F02.trans (FS.same U')) (k2.same U') i' (JI.knit lw nd lm (by rw[aN,li]) (vg n) (fun I hI=>(jI I hI).1) (fun _ z=>nomatch z) (fun _=>⟨by rw[li,lt],by rw[lt];lia⟩))
 refine rF (i:=2) (n:=op) rfl e0 ?_
 dsimp only[ji]
 by_cases e1':op=1
 ·refine rE (i:=2) (n:=op) rfl e1' ?_
  refine⟨ki,fun t1 h1=>?_⟩
  have U1:=eL h1 (.tup [])
  refine⟨D2,rfl,⟨_,SqL.of (U1 _ _ eD)⟩,fun D3 hD3=>Bx (U1 _ _ eD) hD3 (by lia) fun H3 S3 e3=>?_⟩
  have U:=U1.trans S3
  refine qT (κ:= .row n) (its:=its) (ho:=aE n none) rfl (S3 _ _ eG) .nil (U _ _ eD) (a2.imp fun _ _ h=>h.same U) e3 (by rw[vZ,lz]) (by rw[aN,li]) (by lia) fun H' x' S' i'=>?_
  have U':=U.trans S'
  exact q H' x' _ (F02.trans (FS.same U')) (k2.same U') i' (JI.knit lw nd lm (by rw[aN,li]) (vg n) (fun I hI=>(jI I hI).1) (fun _ z=>nomatch z) (fun _=>⟨li,by lia⟩))
 refine rF (i:=2) (n:=op) rfl e1' ?_
 dsimp only[ji]
 have op2:op=2:=by rcases ho with h|h|h;exact absurd h e0;exact absurd h e1';exact h
 have n5:=h5 op2
 refine⟨ki,fun t1 h1=>?_⟩
 dsimp only[fu]
 have U1:=eL h1 (.tup [])
 have hw2:=F02 _ _ hw nws
 refine⟨_,rfl,by lia,by lia,?_⟩
 rw[show((n:Int)+ 1).toNat=n+ 1 by lia]
 refine kl (fun i σ H3=>X2 fun(o8:Option V) (th:Addr)=>Y3 (σ=[some (.ref wa),some (.ref st),some (.int op),some (.int k),some (.int (n:Int)),some (.ref D1),some (.ref D2),some (.ref th),o8,none]) (fG H2 H3) (H3 th=some (.tup ((lsA wl cs k i).flatMap fun a=>[V.str a.1,V.str a.2])))) ⟨none,t1,rfl,U1,eG⟩ ?_ ?_
 ·rintro i σ H3 hi ⟨o8,th,rfl,S3,eth⟩
  dsimp only[fu]
  have q1:atI (cs.map V.str) (0+(i:Int))=some (.str (cs.getD i "")):=by
   rw[dW]
   refine eM ?_
   rw[aI,bj,aZ (show i<cs.length by lia)]
   rfl
  obtain⟨j,hj,ej⟩:∃j:Nat,j<3/\(k+(0+(i:Int)))%3=(j:Int):=⟨((k+(0+(i:Int)))%3).toNat,by lia,by lia⟩
  have q2:atI (wl.map V.str) ((k+(0+(i:Int)))%3)=some (.str (vr wl j)):=by rw[ej];exact eM (qS lw (by lia))
  have ej2:((k+(i:Int))%3).toNat=j:=by rw[dW]at ej;lia
  refine⟨_,S3 _ _ e12,eP q1 ⟨(by show(0:Int)<3;decide),_,S3 _ _ hw2,eP q2 ⟨jO,fun t2 h2=>?_⟩⟩⟩
  have U2:=eL h2 (.tup [.str (cs.getD i ""),.str (vr wl j)])
  refine ph (U2 _ _ eth) eG (by rw[v8,sP];show 2*i+ 2<=_;lia) fun t4 H4 S4 e4=>?_
  dsimp only[fu]
  refine⟨_,t4,rfl,S3.trans (U2.trans S4),?_⟩
  rw[e4]
  unfold lsA
  rw[bO,bz,List.flatMap_append]
  simp[ej2]
 ·rintro σ H3 ⟨o8,th,rfl,S3,eth⟩
  dsimp only
  have k3:=k2.same S3
  have nD2:D2≠st:=fun z=>by obtain⟨ys,e',_⟩:=ks;rw[z,S01 _ _ e']at hD2;cases hD2
  have eD3:=S3 _ _ eD
  refine⟨st,sn,JS wl made,rfl,k3,JS.num 0,fun H4 x4 I4 F4 k4 i4 j4=>?_⟩
  refine⟨kO,fun l5 h5'=>?_⟩
  have U5:=eL h5' (.lst [x4])
  have eD5:=U5 _ _ (F4 _ _ eD3 nD2)
  refine⟨D2,l5,zs,[x4],rfl,rfl,eD5,eG,by show zs.length+ 1<=_;lia,fun D6 h6=>?_⟩
  dsimp only[fu]
  have U6:=eL h6 (.lst (zs++[x4]))
  have U56:=U5.trans U6
  have k6:=k4.same U56
  have n6:D6≠st:=fun z=>by obtain⟨xs,e,_⟩:=k4.same U5;rw[z,e]at h6;cases h6
  refine⟨st,sn,JS wl made,rfl,k6,JS.num 0,fun H7 x7 I7 F7 k7 i7 j7=>?_⟩
  refine⟨kO,fun l8 h8=>?_⟩
  have U8:=eL h8 (.lst [x7])
  refine⟨l8,D6,[x7],zs++[x4],rfl,rfl,eG,U8 _ _ (F7 _ _ eG n6),by rw[aM];show 1+(zs.length+ 1)<=_;lia,fun D9 h9=>?_⟩
  have U9:=eL h9 (.lst ([x7]++(zs++[x4])))
  refine⟨1,rfl,kO,fun l10 h10=>?_⟩
  have U10:=eL h10 (.lst [.int (-1)])
  refine⟨_,rfl,by lia,by lia,fun D11 hD11=>?_⟩
  rw[show((n:Int)+ 1).toNat=n+ 1 by lia]
  refine CS hD11 (by lia) fun H12 S12 e12'=>?_
  refine⟨l10,D11,_,_,rfl,rfl,S12 _ _ eG,e12',by rw[aA,aA,bP];show 1+(n+ 1)<=_;lia,fun D13 h13=>?_⟩
  have U13:=eL h13 (.lst ([.int (-1)]++((aa (n+ 1)).map fun j:Nat=>((k+(j:Int))%3).toNat).map fun v:Nat=> .int (v:Int)))
  have U7:=U8.trans (U9.trans (U10.trans (S12.trans U13)))
  have eth7:=U7 _ _ (k6.tk F7 _ _ (U56 _ _ (k3.tk F4 _ _ eth)))
  have a27:lT (ItA _) zs its:=a2.imp fun _ _ h=>((((h.same S3).fs k3 F4).same U56).fs k6 F7).same U7
  refine qT (κ:= .case (lsA wl cs k (n+ 1))) (its:=I7::(its++[I4])) (ho:=none::((aa (n+ 1)).map fun j:Nat=>((k+(j:Int))%3).toNat).map some) rfl eth7 (v7 _) ((U10.trans (S12.trans U13)) _ _ eG) (.cons (i7.same U7) (.snoc (((i4.same U56).fs k6 F7).same U7) a27)) eG ?_ ?_ ?_ fun H' x' S' i'=>?_
  ·show _=hI none::bc hI _
   rw[bb (f:=some) (g:=hI)]
   rfl
  ·rw[ax,aA,aA,bP,ax,aM,li]
   rfl
  ·rw[ax,aM,li]
   show n+ 1+ 1<=1000
   lia
  ·have U':=U7.trans S'
   refine q H' x' _ (F02.trans ((FS.same S3).trans (F4.trans ((FS.same U56).trans (F7.trans (FS.same U')))))) (k7.same U') i' (JI.knit lw nd lm ?_ ⟨rfl,zv (fun i a v ha hv=>?_) ?_⟩ (fun J hJ=>?_) (fun _ z=>nomatch z) (fun _=>⟨?_,?_⟩))
   ·simp only[ax,aA,bP,aM,li,List.length_nil]
   ·unfold lsA at ha
    rw[aI]at ha hv
    obtain⟨j,hj,rfl⟩:=cm.mp ha
    rw[hj]at hv
    cases hv
    exact⟨by show((k+(j:Int))%3).toNat<3;lia,rfl⟩
   ·rw[sP,aA,bP]
   ·rcases ai.mp hJ with rfl|hJ
    ·exact j7.1
    ·rcases aj.mp hJ with hJ|hJ
     ·exact(jI J hJ).1
     ·rw[aY.mp hJ];exact j4.1
   ·rw[ax,aM,li,sP]
    rfl
   ·rw[sP];lia
open TM.Internal (Kn Tr gy szs)
inductive XNe (vs:List V) (H:Hp) (Q:VK):Prop
 |mk (wa st ma:Addr) (sn:Nat) (wl:List Str) (made:List Nat) (op k:Int) (e:vs=[.ref wa,.ref st,.ref ma,.int op,.int k]) (h0:0<=op) (h1:op<22) (hw:H wa=some (.lst (wl.map V.str))) (hm:H ma=some (.lst (made.map nI))) (lw:wl.length=16) (nd:wl.Nodup) (lm:made.length<=12) (nws:wa≠st) (nms:ma≠st) (ks:Stk H st sn (JS wl made)) (q:∀H' x I,FS st H H'->Stk H' st sn (JS wl made)->ItA H' x I->JI wl made I->Q x H')
def Gq:Sp:=fun vs H Q _=>XNe vs H Q
theorem xn {i:Nat} {n m:Int} {σ:St} {H:Hp} {T u:TS} {D:mh} (hσ:σ[i]?=some (some (.int n))) (h:if n<m then T D σ H else u D σ H):rM (cT (tOp (cI0 fun i j=> .bl (decide (i<j))) (cV i) (tC (.int m)))) T u D σ H:=by
 show onV σ[i]? _
 rw[hσ]
 show if decide (n<m)=true then _ else _
 by_cases e:n<m
 ·rw[gM e];rw[fY e]at h;exact kj h
 ·rw[gk e];rw[fJ e]at h;exact jP h
theorem vh (T:Txt K mg):FO P w base 4 T.d38 Gq:=by
 have gD30:=jq (P:=P) (w:=w) (base:=base) T
 have gD31:=kK (P:=P) (w:=w) (base:=base) T
 have gD29:=jS (P:=P) (w:=w) (base:=base) T
 have gD32:=kh (P:=P) (w:=w) (base:=base) T
 have gD33:=um (P:=P) (w:=w) (base:=base) T
 have gD34:=uo (P:=P) (w:=w) (base:=base) T
 have gD37:=vf (P:=P) (w:=w) (base:=base) T
 have gD35:=uq (P:=P) (w:=w) (base:=base) T
 have gD36:=qU (P:=P) (w:=w) (base:=base) T
 refine T.d38.F.rd jJ fun cdv A0 outer s H vs Q E hr h=>?_
 obtain⟨wa,st,ma,sn,wl,made,op,k,rfl,h0,h1,hw,hm,lw,nd,lm,nws,nms,ks,q⟩:=h
 refine⟨_,(eJ (fV (fg qE (cv 3) eK)
   (eO (fm (pF T.d32 gD32 (hr.mono (by lia)) (eE (cv 4) eF))))
   fF)
  (eJ (fV (PW.pt (xw (fg qE (cv 3) eK) (vm (PW.pt (sV (fg qE (cv 3) eK) (rL (fg gQ (fD fz rfl T.z_len gU (eE (cv 2) eF)) eK)))))))
   (eO (fm (pF T.d33 gD33 (hr.mono (by lia)) (eE (cv 0) (eE (fC iB (cv 4) eK) eF)))))
   fF)
  (eJ (fV (fg qE (cv 3) eK)
   (eJ (pS (i:=5) jJ.nd (fC iB (cv 4) (fD fz rfl T.z_len gU (eE (cv 2) eF))))
   (eO (fm (pF T.d29 gD29 (hr.mono (by lia)) (eE (fe (eE eZ (eE (fe (eE (eU eR (cv 0) (fC ia eK (cv 5))) eF)) (eE (fe eF) eF)))) (eE (fC ia eK (eU eR (cv 2) (cv 5))) eF))))))
   fF)
  (eJ (fV (fg gQ (cv 3) eK)
   (eJ (pS (i:=6) jJ.nd (pF T.d29 gD29 (hr.mono (by lia)) (eE (fe (eE eZ (eE (fe (eE (eU eR (cv 0) (fC ia eK (fD fz rfl T.z_len gU (eE (cv 2) eF)))) eF)) (eE (fe eF) eF)))) (eE eK eF))))
   (eJ (qW xr (qV (cv 6) eK lN))
   (eO (fm (cv 6)))))
   fF)
  (eJ (fV (fg qE (cv 3) eK)
   (eJ (pS (i:=7) jJ.nd (pF T.d31 gD31 (hr.mono (by lia)) (eE (cv 1) eF)))
   (eJ (pS (i:=8) jJ.nd (pF T.d34 gD34 (hr.mono (by lia)) (eE (cv 7) (eE (cv 4) eF))))
   (eJ (fV (fg qE (cv 3) eK)
    (eO (fm (pF T.d30 gD30 (hr.mono (by lia)) (eE eZ (eE (fe (eE (eU eR (cv 0) (cv 8)) eF)) (eE (fq (eE (cv 7) eF)) (eE (fq (eE (cv 8) eF)) eF)))))))
    fF)
   (eO (fm (pF T.d37 gD37 (hr.mono (by lia)) (eE (cv 0) (eE (cv 8) (eE (pF T.d31 gD31 (hr.mono (by lia)) (eE (cv 1) eF)) (eE (cv 7) eF))))))))))
   fF)
  (eJ (fV (fg qE (cv 3) eK)
   (eO (fm (pF T.d35 gD35 (hr.mono (by lia)) (eE (cv 0) (eE (cv 1) (eE (fC tK (cv 3) eK) (eE (cv 4) eF)))))))
   fF)
  (eO (fm (pF T.d36 gD36 (hr.mono (by lia)) (eE (cv 0) (eE (cv 1) (eE (eU eR (fq (eE eK (eE eK (eE eK (eE eK eF))))) (fC tK (cv 3) eK)) (eE (cv 4) eF))))))))))))),?_⟩
 have sl:=sizeLine_eq
 have sm:∀{H':Hp} {x:V} {I:It},fG H H'->ItA H' x I->JI wl made I->Q x H':=fun S i j=>q _ _ _ (FS.same S) (ks.same S) i j
 refine xn (i:=3) (n:=op) rfl ?_
 by_cases c1:op<2
 ·rw[fY c1]
  exact⟨k,rfl,fun H' x S i=>sm S i (JI.num _)⟩
 rw[fJ c1]
 dsimp only[ji]
 have nam:∀(σ:St) (D:mh),D.rt=Q->σ[0]?=some (some (.ref wa))->σ[4]?=some (some (.int k))->EY (qC EF [] E0 (jw (cV 0) (jw (Dg (cV 4) (tC (V.int 3))) sS))) D σ H:=by
  intro σ D eD s0 s4
  show onV σ[0]? _
  rw[s0]
  show onV σ[4]? _
  rw[s4]
  obtain⟨v,hv,ev⟩:∃v:Nat,v<3/\k%3=(v:Int):=⟨(k%3).toNat,by lia,by lia⟩
  refine⟨(by show(0:Int)<3;decide),wa,wl,v,by show[V.ref wa,V.int (k%3)]=_;rw[ev],hw,lw,hv,fun H' x S i=>?_⟩
  rw[eD]
  exact sm S i (JI.name hv)
 have lm':(((made.map nI).length:Nat):Int)=(made.length:Int):=by rw[aA]
 show if decide (op<6)=true then _ else _
 by_cases c2:op<6
 ·rw[gM c2]
  exact kj (kj (nam _ _ rfl rfl rfl))
 rw[gk c2]
 refine jP ?_
 show if decide (op<8)=true then _ else _
 by_cases c3:op<8
 ·rw[gM c3]
  refine kj ⟨ma,_,rfl,.inl (SqL.of hm),?_⟩
  show if(false ^^ decide ((((made.map nI).length:Nat):Int)=0))=true then _ else _
  rw[lm']
  by_cases c4:made.length=0
  ·rw[gM (by lia)]
   exact kj (nam _ _ rfl rfl rfl)
  rw[gk (by lia)]
  refine jP ?_
  dsimp only[ji]
  refine xn (i:=3) (n:=op) rfl ?_
  rw[fY c3]
  refine⟨ma,_,rfl,.inl (SqL.of hm),?_⟩
  rw[lm']
  refine⟨(by lia),?_⟩
  dsimp only[fu]
  have c0:=dS k (show(made.length:Int)≠0 by lia)
  have c1':=dU k (show(0:Int)<(made.length:Int) by lia)
  obtain⟨d,hd,ed⟩:∃d:Nat,d<made.length/\k%(made.length:Int)=(d:Int):=⟨(k%(made.length:Int)).toNat,by lia,by lia⟩
  rw[ed]
  have q1:atI (wl.map V.str) (3+(d:Int))=some (.str (wdE wl d)):=by
   rw[show(3:Int)+(d:Int)=((3+d:Nat):Int) by lia]
   exact eM (qS lw (by lia))
  have q2:atI (made.map nI) (d:Int)=some (.int ((made.getD d 0:Nat):Int)):=by
   refine eM ?_
   rw[aI,bj,aZ hd]
   rfl
  refine⟨_,hw,eP q1 ⟨kO,fun t1 g1=>⟨ki,fun t2 g2=>⟨sU,fun t3 g3=>?_⟩⟩⟩⟩
  have S3:=xl (c:= .tup [.str "name",.ref t1,.ref t2]) g1 g2 g3
  refine⟨_,S3 _ _ hm,eP q2 ?_⟩
  refine⟨_,1+made.getD d 0,.name (wdE wl d),rfl,ve g1 g2 g3,fun H' a cs N=>?_⟩
  exact sm (S3.trans N.sm) N.it (JI.df hd)
 rw[gk c3]
 refine jP (jP ?_)
 dsimp only[ji]
 refine xn (i:=3) (n:=op) rfl ?_
 rw[fJ c3]
 dsimp only[ji]
 by_cases c5:op=8
 ·refine rE (i:=3) (n:=op) rfl c5 ?_
  have q1:atI (wl.map V.str) (3+(((made.map nI).length:Nat):Int))=some (.str (wdE wl made.length)):=by
   rw[lm',show(3:Int)+(made.length:Int)=((3+made.length:Nat):Int) by lia]
   exact eM (qS lw (by lia))
  refine⟨ma,_,rfl,.inl (SqL.of hm),_,hw,eP q1 ⟨kO,fun t1 g1=>⟨ki,fun t2 g2=>⟨sU,fun t3 g3=>?_⟩⟩⟩⟩
  have S3:=xl (c:= .tup [.str "name",.ref t1,.ref t2]) g1 g2 g3
  refine⟨_,1,.name (wdE wl made.length),rfl,ve g1 g2 g3,fun H' a cs N=>?_⟩
  dsimp only[fu]
  have na:H a=none:=by
   cases z:H a with
   |none=>rfl
   |some u=>have:=N.na;rw[S3 _ _ z]at this;cases this
  refine⟨a,_,4,4,rfl,rfl,N.ea,rfl,?_⟩
  refine sm (I:=owI wl made) (fun b o e=>by rw[eN (eT e na)];exact(S3.trans N.sm) _ _ e) ⟨a,_,cs,rfl,eG,by rw[eN N.ne.symm];exact N.ec,N.im.mono (gH N.ea).tk⟩ JI.ow
 refine rF (i:=3) (n:=op) rfl c5 ?_
 dsimp only[ji]
 refine xn (i:=3) (n:=op) rfl ?_
 by_cases c6:op<15
 ·rw[fY c6]
  refine⟨st,sn,JS wl made,rfl,ks,JS.num 0,fun H1 x I F1 k1 i1 j1=>?_⟩
  dsimp only[fu]
  have hw1:=F1 _ _ hw nws
  refine⟨x,I,k,rfl,i1,fun v hv=>?_⟩
  dsimp only[fu]
  refine xn (i:=3) (n:=op) rfl ?_
  by_cases c7:op<11
  ·rw[fY c7]
   refine⟨_,hw1,eP (eM (qS lw (by lia))) ⟨kO,fun t1 g1=>⟨kO,fun l2 g2=>⟨kO,fun l3 g3=>?_⟩⟩⟩⟩
   have T1:=eL g1 (.tup [.str (vr wl v)])
   have T2:=eL g2 (.lst [x])
   have T3:=eL g3 (.lst [.int (v:Int)])
   have U:=T1.trans (T2.trans T3)
   refine qT (κ:= .fn (vr wl v)) (its:=[I]) (ho:=[some v]) rfl ((T2.trans T3) _ _ eG) (.cons (.flat rfl) .nil) (T3 _ _ eG) (.cons (i1.same U) .nil) eG rfl rfl (by show 1<=1000;decide) fun H' x' S' i'=>?_
   have U':=U.trans S'
   exact q H' x' _ (F1.trans (FS.same U')) (k1.same U') i' (JI.knit lw nd lm rfl ⟨hv,⟨"fn",fo,rfl⟩,trivial⟩ (fun J hJ=>by rw[aY.mp hJ];exact j1.1) (fun _ z=>nomatch z) (fun _=>rfl))
  ·rw[fJ c7]
   dsimp only[ji]
   refine⟨st,sn,JS wl made,rfl,k1,JS.num 0,fun H2 x2 I2 F2 k2 i2 j2=>?_⟩
   have cv:=j1.1.c v hv
   refine⟨wa,wl,v,x2,x,I2,I,rfl,F2 _ _ hw1 nws,lw,hv,i2,i1.fs k1 F2,by have:=j2.2;lia,by have:=j1.2;lia,fun H' x' S' i'=>?_⟩
   exact q H' x' _ (F1.trans (F2.trans (FS.same S'))) (k2.same S') i' (JI.let lw nd lm hv j2.1 j1.1)
 rw[fJ c6]
 dsimp only[ji]
 refine xn (i:=3) (n:=op) rfl ?_
 by_cases c8:op<18
 ·rw[fY c8]
  exact⟨wa,st,sn,wl,made,op-15,k,rfl,by lia,hw,lw,nd,lm,nws,ks,q⟩
 rw[fJ c8]
 dsimp only[ji]
 obtain⟨m,em,hm3⟩:∃m:Int,atI [V.int 0,V.int 1,V.int 2,V.int 2] (op-18)=some (.int m)/\(m=0\/m=1\/m=2):=by
  have c9:op=18\/op=19\/op=20\/op=21:=by lia
  rcases c9 with rfl|rfl|rfl|rfl
  ·exact⟨0,rfl,.inl rfl⟩
  ·exact⟨1,rfl,.inr (.inl rfl)⟩
  ·exact⟨2,rfl,.inr (.inr rfl)⟩
  ·exact⟨2,rfl,.inr (.inr rfl)⟩
 refine⟨qB,fun l1 g1=>⟨_,eG,eP em ?_⟩⟩
 have T1:=eL g1 (.lst [.int 0,.int 1,.int 2,.int 2])
 exact⟨wa,st,sn,wl,made,m,k,rfl,hm3,T1 _ _ hw,lw,nd,lm,nws,ks.same T1,fun H' x I F' k' i' j'=>q H' x I ((FS.same T1).trans F') k' i' j'⟩
open TM.Internal (Kn Tr gy szs)
inductive XEd (vs:List V) (H:Hp) (Q:VK):Prop
 |mk (wa:Addr) (wl:List Str) (made:List Nat) (x:V) (I:It) (k:Int) (e:vs=[.ref wa,x,.int k]) (hw:H wa=some (.lst (wl.map V.str))) (lw:wl.length=16) (nd:wl.Nodup) (lm:made.length<=12) (i:ItA H x I) (j:JI wl made I) (q:∀H' x' I',fG H H'->ItA H' x' I'->JI wl made I'->(∀k,k<3->I'.c k=0)->I'.w<=I.w+ 10->I'.t.nest<=I.t.nest+ 10->I'.t.sz<=I.t.sz+ 10->Q x' H')
def Gs:Sp:=fun vs H Q _=>XEd vs H Q
theorem By {κ:Kn} {I:It} {ho:List (Option Nat)}:(knI κ [I] ho).w=1+I.w/\(knI κ [I] ho).t.nest=1+I.t.nest/\(knI κ [I] ho).t.sz=1+I.t.sz:=by
 refine⟨rfl,?_,?_⟩
 ·show(Tr.mk κ [I.t]).nest=_
  simp[Tr.nest,TM.Internal.nests]
 ·show(Tr.mk κ [I.t]).sz=_
  simp[Tr.sz,szs]
theorem EI {κ:Kn} {I J:It} {ho:List (Option Nat)} (h:J.t.nest<=1):(knI κ [I,J] ho).w=1+I.w+J.w/\(knI κ [I,J] ho).t.nest<=2+I.t.nest/\(knI κ [I,J] ho).t.sz=1+I.t.sz+J.t.sz:=by
 refine⟨by show 1+(I.w+(J.w+ 0))=_;lia,?_,?_⟩
 ·show(Tr.mk κ [I.t,J.t]).nest<=_
  simp[Tr.nest,TM.Internal.nests]
  lia
 ·show(Tr.mk κ [I.t,J.t]).sz=_
  simp[Tr.sz,szs]
  lia
theorem Gu:∀{v:Nat},v<3->∃m:Int,atI [V.int 1,V.int 2,V.int 4] (0+(v:Int))=some (.int m)/\0<m/\m<1073741824
 |0,_=>⟨1,rfl,by decide,by decide⟩
 |1,_=>⟨2,rfl,by decide,by decide⟩
 |2,_=>⟨4,rfl,by decide,by decide⟩
theorem sQ (T:Txt K mg):FO P w base 3 T.d39 Gs:=by
 have gD30:=jq (P:=P) (w:=w) (base:=base) T
 have gD32:=kh (P:=P) (w:=w) (base:=base) T
 refine T.d39.F.rd iT fun cdv A0 outer s H vs Q E hr h=>?_
 obtain⟨wa,wl,made,x,I,k,rfl,hw,lw,nd,lm,i,j,q⟩:=h
 refine⟨_,(eJ (jb PassesOwn.never rfl (gS rfl T.z_range (eE eK eF)) (pN (i:=3) iT.nd)
   (eO (fV (fg wH (eU eR (eU eR (cv 1) eK) (cv 3)) eK)
    (eJ (pS (i:=1) iT.nd (pF T.d30 gD30 (hr.mono (by lia)) (eE eZ (eE (fe (eE (eU eR (cv 0) (cv 3)) eF)) (eE (fq (eE (cv 1) eF)) (eE (fq (eE (cv 3) eF)) eF))))))
    (eO (fV (fg gQ (fC iB (fC jU (cv 2) (eU eR (fq (eE eK (eE eK (eE eK eF)))) (cv 3))) eK) eK)
     (eO (pS (i:=1) iT.nd (pF T.d30 gD30 (hr.mono (by lia)) (eE eZ (eE (fe eF) (eE (fq (eE (cv 1) (eE (pF T.d32 gD32 (hr.mono (by lia)) (eE (cv 2) eF)) eF))) (eE (fq (eE (kM jc eK) (eE (kM jc eK) eF))) eF)))))))
     fF)))
    fF)))
  (eJ (fV (oF (eU eR (cv 1) eK))
   (eO (pS (i:=1) iT.nd (pF T.d30 gD30 (hr.mono (by lia)) (eE eZ (eE (fe (eE (eU eR (cv 0) eK) eF)) (eE (fq (eE (cv 1) eF)) (eE (fq (eE eK eF)) eF)))))))
   fF)
  (eO (fm (cv 1))))),?_⟩
 have sl:=sizeLine_eq
 refine⟨3,rfl,by decide,by decide,?_⟩
 refine kl (fun v σ H1=>X3 fun(o3:Option V) (x':V) (I':It)=>Y8 (σ=[some (.ref wa),some x',some (.int k),o3]) (fG H H1) (ItA H1 x' I') (JI wl made I') ((∀k,k<v->I'.c k=0)) (I'.w<=I.w+ 3*v) (I'.t.nest<=I.t.nest+ 3*v) (I'.t.sz<=I.t.sz+ 3*v)) ⟨none,x,I,rfl,fun _ _ e=>e,i,j,fun k h=>absurd h (cb _),by lia,by lia,by lia⟩ ?_ ?_
 ·rintro v σ H1 hv ⟨o3,x',I',rfl,S1,i1,j1,z1,w1,n1,s1⟩
  have hv:v<3:=hv
  dsimp only[fu]
  obtain⟨a,n,cs,rfl,ea,ec,iN⟩:=id i1
  refine⟨_,ea,eP (eM (j:=3) rfl) ⟨_,ec,eP (at3 hv) ?_⟩⟩
  show if decide ((0:Int)<(I'.c v:Int))=true then _ else _
  by_cases c0:0<I'.c v
  ·rw[gM (by lia)]
   refine kj ?_
   have q1:atI (wl.map V.str) (0+(v:Int))=some (.str (vr wl v)):=by rw[dW];exact eM (qS lw (by lia))
   refine⟨_,S1 _ _ hw,eP q1 ⟨kO,fun t1 g1=>⟨kO,fun l2 g2=>⟨kO,fun l3 g3=>?_⟩⟩⟩⟩
   have T1:=eL g1 (.tup [.str (vr wl v)])
   have T2:=eL g2 (.lst [.ref a])
   have T3:=eL g3 (.lst [.int (0+(v:Int))])
   have U:=T1.trans (T2.trans T3)
   refine qT (κ:= .fn (vr wl v)) (its:=[I']) (ho:=[some v]) rfl ((T2.trans T3) _ _ eG) (.cons (.flat rfl) .nil) (T3 _ _ eG) (.cons (i1.same U) .nil) eG (by rw[dW];rfl) rfl (by show 1<=1000;decide) fun H2 x2 S2 i2=>?_
   dsimp only[fu]
   have j2:JI wl made (knI (.fn (vr wl v)) [I'] [some v]):=JI.knit lw nd lm rfl ⟨hv,⟨"fn",fo,rfl⟩,trivial⟩ (fun J hJ=>by rw[aY.mp hJ];exact j1) (fun _ z=>nomatch z) (fun _=>rfl)
   obtain⟨y1,y2,y3⟩:=By (κ:= .fn (vr wl v)) (I:=I') (ho:=[some v])
   have z2:∀k,k<v+ 1->(knI (.fn (vr wl v)) [I'] [some v]).c k=0:=fun k hk=>by
    show(if some v=some k then 0 else I'.c k)+ 0=0
    by_cases e:v=k
    ·rw[fY (by rw[e])]
    ·rw[fJ (fun h=>e (cf.inj h)),z1 k (by lia)]
   have S12:=S1.trans (U.trans S2)
   obtain⟨m,em,hm0,hm1⟩:=Gu hv
   refine⟨sU,fun l4 g4=>⟨_,eG,eP em ⟨⟨hm0,hm1⟩,(by show(0:Int)<2;decide),?_⟩⟩⟩
   have T4:=eL g4 (.lst [.int 1,.int 2,.int 4])
   show if(false ^^ decide (k/m%2=1))=true then _ else _
   by_cases c1:k/m%2=1
   ·rw[gM c1]
    refine kj ?_
    refine⟨ki,fun t5 g5=>?_⟩
    have T5:=eL g5 (.tup [])
    refine⟨k,rfl,fun H6 x6 S6 i6=>?_⟩
    refine⟨jO,fun l7 g7=>⟨1,rfl,1,rfl,jO,fun l8 g8=>?_⟩⟩
    have T7:=eL g7 (.lst [x2,x6])
    have T8:=eL g8 (.lst [.int (-1),.int (-1)])
    have U7:=T7.trans T8
    have U2:=T4.trans (T5.trans (S6.trans U7))
    refine qT (κ:= .op "call" 2) (its:=[_,_]) (ho:=[none,none]) rfl ((S6.trans U7) _ _ eG) .nil (T8 _ _ eG) (.cons (i2.same U2) (.cons (i6.same U7) .nil)) eG rfl rfl (by show 2<=1000;decide) fun H9 x9 S9 i9=>?_
    dsimp only[fu]
    obtain⟨r1,r2,r3⟩:=EI (κ:= .op "call" 2) (I:=knI (.fn (vr wl v)) [I'] [some v]) (J:=nuI (k%10^60)) (ho:=[none,none]) (by simp[nuI,Tr.nest,TM.Internal.nests])
    have r4:(nuI (k%10^60)).w=1:=rfl
    have r5:(nuI (k%10^60)).t.sz=1:=by simp[nuI,Tr.sz,szs]
    refine⟨_,x9,_,rfl,S12.trans (U2.trans S9),i9,JI.knit lw nd lm rfl ⟨rfl,rfl,trivial⟩ (fun J hJ=>?_) (fun _ z=>nomatch z) (fun _=>⟨rfl,by simp[TM.Internal.ops]⟩),fun k hk=>?_,by lia,by lia,by lia⟩
    ·simp only[ai,bf,or_false]at hJ
     rcases hJ with rfl|rfl
     ·exact j2
     ·exact JI.num _
    ·show(if(none:Option Nat)=some k then 0 else(knI (.fn (vr wl v)) [I'] [some v]).c k)+((if(none:Option Nat)=some k then 0 else 0)+ 0)=0
     rw[fJ (fun z=>nomatch z),fJ (fun z=>nomatch z),z2 k hk]
   ·rw[gk c1]
    exact jP ⟨_,x2,_,rfl,S12.trans T4,i2.same T4,j2,z2,by lia,by lia,by lia⟩
  ·rw[gk (by lia)]
   refine jP ⟨_,_,I',rfl,S1,i1,j1,fun k hk=>?_,by lia,by lia,by lia⟩
   by_cases e:k=v
   ·rw[e];lia
   ·exact z1 k (by lia)
 ·rintro σ H1 ⟨o3,x',I',rfl,S1,i1,j1,z1,w1,n1,s1⟩
  dsimp only
  obtain⟨a,n,cs,rfl,ea,ec,iN⟩:=id i1
  refine⟨_,ea,eP (eM (j:=4) rfl) ⟨I'.own,rfl,?_⟩⟩
  cases eo:I'.own with
  |false=>exact jP (q _ _ I' S1 i1 j1 z1 (by lia) (by lia) (by lia))
  |true=>
   refine kj ?_
   refine⟨_,S1 _ _ hw,eP (show atI (wl.map V.str) ((0:Nat):Int)=some (.str (vr wl 0))from eM (qS lw (by decide))) ⟨kO,fun t1 g1=>⟨kO,fun l2 g2=>⟨kO,fun l3 g3=>?_⟩⟩⟩⟩
   have T1:=eL g1 (.tup [.str (vr wl 0)])
   have T2:=eL g2 (.lst [.ref a])
   have T3:=eL g3 (.lst [.int 0])
   have U:=T1.trans (T2.trans T3)
   refine qT (κ:= .fn (vr wl 0)) (its:=[I']) (ho:=[some 0]) rfl ((T2.trans T3) _ _ eG) (.cons (.flat rfl) .nil) (T3 _ _ eG) (.cons (i1.same U) .nil) eG rfl rfl (by show 1<=1000;decide) fun H2 x2 S2 i2=>?_
   obtain⟨y1,y2,y3⟩:=By (κ:= .fn (vr wl 0)) (I:=I') (ho:=[some 0])
   refine q _ _ _ (S1.trans (U.trans S2)) i2 (JI.knit lw nd lm rfl ⟨by decide,⟨"fn",fo,rfl⟩,trivial⟩ (fun J hJ=>by rw[aY.mp hJ];exact j1) (fun _ z=>nomatch z) (fun _=>rfl)) (fun k hk=>?_) (by lia) (by lia) (by lia)
   show(if some 0=some k then 0 else I'.c k)+ 0=0
   split
   ·rfl
   ·rw[z1 k hk]
open TM.Internal (Kn Tr gy szs)
structure JD (wl:List Str) (md:List Nat) (t:Tr) (m:Nat):Prop where
 w:∀e,Ev wl md e->wT t e=m
 o:∀N:Str->Prop,(∀d,d<=md.length->N (wdE wl d))->okT t N
 b:m<=50
 n:t.nest<=30
 z:t.sz<=150
def JDs (wl:List Str) (ts:List Tr) (made:List Nat):Prop:=ts.length=made.length/\∀(d:Nat) t,ts[d]?=some t->JD wl (made.take d) t (made.getD d 0)
theorem JD.of {wl:List Str} {made:List Nat} {I:It} (j:JI wl made I) (z:∀k,k<3->I.c k=0) (h1:I.w<=50) (h2:I.t.nest<=30) (h3:I.t.sz<=150):JD wl made I.t I.w:=by
 refine⟨fun e he=>?_,fun N h=>?_,h1,h2,h3⟩
 ·rw[j.w e he]
  unfold cw
  rw[z 0 (by lia),z 1 (by lia),z 2 (by lia)]
  lia
 ·exact j.o N (fun d hd=>h d (by lia)) (fun _=>h _ (bX _)) (fun k hk u=>by rw[z k hk]at u;lia)
theorem JDs.snoc {wl:List Str} {ts:List Tr} {made:List Nat} {t:Tr} {w:Nat} (h:JDs wl ts made) (j:JD wl made t w):JDs wl (ts++[t]) (made++[w]):=by
 refine⟨by rw[aM,aM,h.1];rfl,fun d u hu=>?_⟩
 by_cases e:d<ts.length
 ·rw[aH e]at hu
  have:=h.2 d u hu
  rw[List.take_append_of_le_length (by rw[<-h.1];lia),bj,aH (by rw[<-h.1];exact e),<-bj]
  exact this
 ·rw[aG (by lia)]at hu
  have ed:d-ts.length=0:=by
   have:=(ao.mp hu).1
   simpa using this
  rw[ed]at hu
  cases hu
  have e2:d=made.length:=by rw[<-h.1];lia
  subst e2
  rw[List.take_left',bj,aG (bX _),b0]
  ·exact j
  ·rfl
def scD (wl:List Str) (made:List Nat) (d:Nat):Sc:=(aa d).map fun j=>dfE (wdE wl) j (made.getD j 0)
theorem sR (wl:List Str) (made:List Nat) (d:Nat):scD wl made (d+ 1)=scD wl made d++[dfE (wdE wl) d (made.getD d 0)]:=by
 unfold scD
 rw[bO,bz]
 rfl
section
variable {wl:List Str} {made:List Nat} (lw:wl.length=16) (nd:wl.Nodup)
include lw nd
theorem CT {i j:Nat} (hi:i<=12) (hj:j<=12) (h:i≠j):wdE wl i≠wdE wl j:=CK lw nd (by lia) (by lia) (by lia)
theorem zw {d j:Nat} (hd:d<=13) (hj:j<d):lkE (scD wl made d) (wdE wl j)=some (dfE (wdE wl) j (made.getD j 0)):=by
 induction d with
 |zero=>lia
 |succ d ih=>
  rw[sR,kI]
  by_cases e:d=j
  ·subst e;exact fY rfl
  ·rw[fJ (show ¬(dfE (wdE wl) d (made.getD d 0)).w=wdE wl j from CT lw nd (by lia) (by lia) e)]
   exact ih (by lia) (by lia)
theorem Bz {d:Nat} (hd:d<=12) (hm:d<=made.length):Ev wl (made.take d) (val (scD wl made d++[dfE (wdE wl) d 0])):=by
 have lt:(made.take d).length=d:=by rw[aF];lia
 refine⟨fun j hj=>?_,?_⟩
 ·rw[lt]at hj
  unfold val
  rw[kI,fJ (show ¬(dfE (wdE wl) d 0).w=wdE wl j from CT lw nd (by lia) (by lia) (show d≠j by lia)),zw lw nd (by lia) hj]
  show made.getD j 0=(made.take d).getD j 0
  rw[bj,bj,aJ hj]
 ·rw[lt]
  unfold val
  rw[kI,fY (show(dfE (wdE wl) d 0).w=wdE wl d from rfl)]
  rfl
theorem EJ {d j:Nat} (hd:d<=12) (hj:j<=d):Nm (scD wl made d++[dfE (wdE wl) d 0]) (wdE wl j):=by
 unfold Nm
 rw[kI]
 by_cases e:d=j
 ·rw[fY (by rw[<-e];rfl)];exact⟨_,rfl⟩
 ·rw[fJ (show ¬(dfE (wdE wl) d 0).w=wdE wl j from CT lw nd (by lia) (by lia) e),zw lw nd (by lia) (by lia)]
  exact⟨_,rfl⟩
theorem zx:∀{us:List Tr} {d:Nat},d+us.length<=12->d+us.length=made.length->(∀(k:Nat) t,us[k]?=some t->JD wl (made.take (d+k)) t (made.getD (d+k) 0))->ET (wdE wl) us d (scD wl made d)
 |[],_,_,_,_=>trivial
 |t::us,d,hd,hm,h=>by
  have hl:(t::us).length=us.length+ 1:=rfl
  have j:JD wl (made.take d) t (made.getD d 0):=h 0 t rfl
  have lt:(made.take d).length=d:=by rw[aF];lia
  refine⟨j.o _ fun k hk=>EJ lw nd (by lia) (by rw[lt]at hk;exact hk),?_⟩
  rw[j.w _ (Bz lw nd (by lia) (by lia)),<-sR]
  exact zx (d:=d+ 1) (by lia) (by lia) fun k t hk=>by
   have:=h (k+ 1) t hk
   rw[show d+ 1+k=d+(k+ 1) by lia]
   exact this
theorem zy:∀{us:List Tr} {d p j r:Nat} {G l1:List Pc},d+us.length<=12->d+us.length=made.length->(∀(k:Nat) t,us[k]?=some t->JD wl (made.take (d+k)) t (made.getD (d+k) 0))->G=l1++pcD (wdE wl) us d p (scD wl made d)->l1.length=p->(gy us p)[j]?=some r->∃c,G[r]?=some c/\c.wt=made.getD (d+j) 0
 |[],_,_,_,_,_,_,_,_,_,_,_,h=>by cases h
 |t::us,d,p,j,r,G,l1,hd,hm,h,e,hl,hr=>by
  have hl':(t::us).length=us.length+ 1:=rfl
  have jt:JD wl (made.take d) t (made.getD d 0):=h 0 t rfl
  have ew:=jt.w _ (Bz lw nd (show d<=12 by lia) (by lia))
  cases j with
  |zero=>
   cases hr
   have hp:Pl G t p (scD wl made d++[dfE (wdE wl) d 0]) d:=CA t (l2:=pcD (wdE wl) us (d+ 1) (p+t.sz) (scD wl made d++[dfE (wdE wl) d (wT t (val (scD wl made d++[dfE (wdE wl) d 0])))])) (by rw[e];rfl) hl
   obtain⟨ρ,g⟩:=hp.at
   exact⟨_,g,ew⟩
  |succ j=>
   have hr:(gy us (p+t.sz))[j]?=some r:=hr
   rw[pcD,ew,<-sR,<-bE]at e
   obtain⟨c,g,w⟩:=zy (d:=d+ 1) (by lia) (by lia) (fun k t hk=>by
    have:=h (k+ 1) t hk
    rw[show d+ 1+k=d+(k+ 1) by lia]
    exact this) e (by rw[aM,hl,jN]) hr
   exact⟨c,g,by rw[w,show d+ 1+j=d+(j+ 1) by lia]⟩
end
theorem BA:∀{ts:List Tr},(∀t∈ts,t.sz<=150)->szs ts<=150*ts.length
 |[],_=>bX _
 |t::ts,h=>by
  have h1:=h t (by simp)
  have h2:=BA (ts:=ts) fun u hu=>h u (by simp[hu])
  rw[szs,ax]
  lia
inductive XDf (vs:List V) (H:Hp) (Q:VK):Prop
 |mk (wa cl:Addr) (wl:List Str) (cells:List Int) (e:vs=[.ref wa,.ref cl]) (hw:H wa=some (.lst (wl.map V.str))) (lw:wl.length=16) (nd:wl.Nodup) (hc:H cl=some (.lst (cells.map V.int))) (lc:cells.length<=63) (q:∀H' l xs ts made,fG H H'->H' l=some (.lst xs)->Ims H' xs (ts.map ndD)->ts≠[]->ts.length<=12->JDs wl ts made->Q (.ref l) H')
def Gv:Sp:=fun vs H Q _=>XDf vs H Q
theorem v9 {α:Type}:∀{l:List α} {i:Nat} {v:α},l[i]?=some v->l.set i v=l
 |[],_,_,h=>by cases h
 |x::l,0,v,h=>by cases h;rfl
 |x::l,i+ 1,v,h=>by rw[List.set_cons_succ,v9 (l:=l) (i:=i) h]
theorem Stk.le {H:Hp} {st:Addr} {n m:Nat} {J:It->Prop} (h:Stk H st n J) (l:n<=m):Stk H st m J:=by
 obtain⟨xs,e,z,al⟩:=h
 exact⟨xs,e,by lia,al⟩
theorem Stk.push {H:Hp} {st:Addr} {n:Nat} {J:It->Prop} {xs:List V} {x:V} {I:It} (h:Stk H st n J) (e:H st=some (.lst xs)) (i:ItA H x I) (j:J I):Stk (L2.Internal.upd H st (.lst (xs++[x]))) st (n+ 1) J:=by
 have F:FS st H (L2.Internal.upd H st (.lst (xs++[x]))):=fun a o e n=>by rw[eN n];exact e
 obtain⟨ys,e',z,al⟩:=id h
 rw[e]at e'
 cases e'
 refine⟨_,eG,by rw[aM,aU];lia,fun y hy=>?_⟩
 rcases aj.mp hy with hy|hy
 ·obtain⟨I',a,b⟩:=al y hy
  exact⟨I',a.fs h F,b⟩
 ·rw[aY.mp hy]
  exact⟨I,i.fs h F,j⟩
theorem CU {H:Hp} {ns:List V} {ts:List Tr} (h:Ims H ns (ts.map ndD)) {x:V} (hx:x∈ns):∃p,x= .ref p:=by
 obtain⟨i,hi⟩:=bA.mp hx
 obtain⟨d,hd,im⟩:=jy h hi
 rw[aI]at hd
 obtain⟨⟨κ,ks⟩,_,rfl⟩:=cm.mp hd
 obtain⟨a,_,_,_,_,e,_⟩:=uf im
 exact⟨a,e⟩
theorem CV {wl:List Str} {made:List Nat} {a:Addr} {I:It} {k:Int} {dn:Nat} {σ:St} {R:TS} {D:mh} {H:Hp} (i:ItA H (.ref a) I) (j:JI wl made I) (s8:σ[8]?=some (some (.ref a))) (s7:σ[7]?=some (some (.int k))) (s5:σ[5]?=some (some (.int (dn:Int)))) (h:∀H' x' I',fG H H'->ItA H' x' I'->JS wl made I'->R D (σ.set 8 (some x')) H'):
  zI (rM (tOr (cT (tOp (cI0 fun i j=>V.bl (decide (j<i))) (tOp zC (cV 8) (tC (V.int 1))) (tC (V.int 16)))) (tOr (cT (tOp (cI0 fun i j=>V.bl (decide (j<i))) (tOp zC (cV 8) (tC (V.int 2))) (tC (V.int 40)))) (cT (tOp (cI0 fun i j=>V.bl (decide (j<i))) (tOp (cI0 fun i j=>V.int (i+j)) (tOp zC (cV 8) (tC (V.int 5))) (cV 5)) (tC (V.int 140)))))) (zB (qC CO [] E0 (jw (cV 7) sS)) (fu 8)) ji) R D σ H:=by
 obtain⟨a',n,cs,e',ea,ec,iN⟩:=id i
 cases e'
 have num:(zB (qC CO [] E0 (jw (cV 7) sS)) (fu 8)) {D with nx:=R D} σ H:=by
  show onV σ[7]? _
  rw[s7]
  exact⟨k,rfl,fun H' x S i=>h H' x _ S i (JS.num _)⟩
 show onV σ[8]? _
 rw[s8]
 refine⟨_,ea,eP (eM (j:=1) rfl) ?_⟩
 show if decide ((16:Int)<(I.t.nest:Int))=true then _ else _
 by_cases c1:(16:Int)<(I.t.nest:Int)
 ·rw[gM c1]
  exact kj (kj num)
 rw[gk c1]
 refine jP ?_
 show onV σ[8]? _
 rw[s8]
 refine⟨_,ea,eP (eM (j:=2) rfl) ?_⟩
 show if decide ((40:Int)<(I.w:Int))=true then _ else _
 by_cases c2:(40:Int)<(I.w:Int)
 ·rw[gM c2]
  exact kj (kj num)
 rw[gk c2]
 refine jP ?_
 show onV σ[8]? _
 rw[s8]
 refine⟨_,ea,eP (eM (j:=5) rfl) ?_⟩
 show onV σ[5]? _
 rw[s5]
 show if decide ((140:Int)<(I.t.sz:Int)+(dn:Int))=true then _ else _
 by_cases c3:(140:Int)<(I.t.sz:Int)+(dn:Int)
 ·rw[gM c3]
  exact kj num
 rw[gk c3]
 refine jP ?_
 have:=h H (.ref a) I (fun _ _ e=>e) i ⟨j,by lia,by lia,by lia⟩
 rw[v9 s8]at this
 exact this
theorem Stk.new {H:Hp} {st:Addr} {sn:Nat} {J:It->Prop} (h:H st=some (.lst [])):Stk H st sn J:=⟨[],h,bY _,fun _ m=>by cases m⟩
theorem qz (T:Txt K mg):FO P w base 5 T.d40 Gv:=by
 have gD38:=vh (P:=P) (w:=w) (base:=base) T
 have gD31:=kK (P:=P) (w:=w) (base:=base) T
 have gD32:=kh (P:=P) (w:=w) (base:=base) T
 have gD39:=sQ (P:=P) (w:=w) (base:=base) T
 refine T.d40.F.rd fO fun cdv A0 outer s H vs Q E hr h=>?_
 obtain⟨wa,cl,wl,cells,rfl,hw,lw,nd,hc,lc,q⟩:=h
 refine⟨_,(eJ (pS (i:=2) fO.nd (fq eF))
  (eJ (pS (i:=3) fO.nd (fq eF))
  (eJ (pS (i:=4) fO.nd (fq eF))
  (eJ (pS (i:=5) fO.nd eK)
  (eJ (jb PassesOwn.never rfl (kP (cv 1)) (pN (i:=6) fO.nd)
   (eJ (pS (i:=7) fO.nd (fC iB (cv 6) (fC AY eK eK)))
   (eO (fV (fg qE (fC iB (cv 7) eK) eK)
    (eJ (pS (i:=8) fO.nd (pF T.d38 gD38 (hr.mono (by lia)) (eE (cv 0) (eE (cv 2) (eE (cv 3) (eE (fC iB (cv 7) eK) (eE (fC jU (cv 7) eK) eF)))))))
    (eJ (fV (PW.pt (xw (fg wH (eU eR (cv 8) eK) eK) (xw (fg wH (eU eR (cv 8) eK) eK) (vm (fg wH (fC ia (eU eR (cv 8) eK) (cv 5)) eK)))))
     (eO (pS (i:=8) fO.nd (pF T.d32 gD32 (hr.mono (by lia)) (eE (cv 7) eF))))
     fF)
    (eO (eW (fN (gu dD dE dF fh (PE.mono (cv 2)) (eE (PE.mono (cv 8)) eF)))))))
    (eO (fV (PW.pt (sV (fg wH (fD fz rfl T.z_len gU (eE (cv 2) eF)) eK) (sV (fg qE (fD fz rfl T.z_len gU (eE (cv 4) eF)) eK) (rL (fg Fs (cv 5) eK)))))
     (eJ (pS (i:=9) fO.nd (pF T.d39 gD39 (hr.mono (by lia)) (eE (cv 0) (eE (AO dD dG dH AQ (cv 2)) (eE (fC jU (cv 7) eK) eF)))))
     (eJ (eW (fN (gu dD dE dF fh (PE.mono (cv 4)) (eE (PE.mono (eU eR (cv 9) eK)) eF))))
     (eJ (eW (fN (gu dD dE dF fh (PE.mono (cv 3)) (eE (PE.mono (eU eR (cv 9) eK)) eF))))
     (eJ (pS (i:=5) fO.nd (fC ia (cv 5) (eU eR (cv 9) eK)))
     (eO (pS (i:=2) fO.nd (fq eF)))))))
     fF))))))
  (eO (fm (fC rh (cv 4) (fq (eE (eU eR (pF T.d39 gD39 (hr.mono (by lia)) (eE (cv 0) (eE (pF T.d31 gD31 (hr.mono (by lia)) (eE (cv 2) eF)) (eE (fD fz rfl T.z_len gU (eE (cv 1) eF)) eF)))) eK) eF)))))))))),?_⟩
 have sl:=sizeLine_eq
 refine⟨ki,fun st hst=>?_⟩
 dsimp only[fu]
 refine⟨ki,fun ma hma=>?_⟩
 dsimp only[fu]
 refine⟨ki,fun no hno=>?_⟩
 dsimp only[fu]
 have S1:=eL hst (.lst [])
 have S2:=eL hma (.lst [])
 have S3:=eL hno (.lst [])
 have S0:=S1.trans (S2.trans S3)
 have nn:∀{H2:Hp} {a:Addr},fG H H2->H2 a=none->H a=none:=fun{H2 a} S h=>by cases z:H a with|none=>rfl|some u=>rw[S _ _ z]at h;cases h
 have nma:=nn S1 hma
 have nno:=nn (S1.trans S2) hno
 have d1:ma≠st:=fun z=>by rw[z,eG]at hma;cases hma
 have d2:no≠st:=fun z=>by rw[z,S2 _ _ (show(L2.Internal.upd H st (.lst [])) st=_ from eG)]at hno;cases hno
 have d3:no≠ma:=fun z=>by rw[z,eG]at hno;cases hno
 refine⟨cl,rfl,⟨_,SqL.of (S0 _ _ hc)⟩,rN (xs:=cells.map V.int) (fun i σ H1=>∃(o6 o7 o8 o9:Option V) (st:Addr) (dn:Nat) (ns:List V) (ts:List Tr) (made:List Nat),σ=[some (.ref wa),some (.ref cl),some (.ref st),some (.ref ma),some (.ref no),some (.int (dn:Int)),o6,o7,o8,o9]/\fG H H1/\H st=none/\ma≠st/\no≠st/\Stk H1 st i (JS wl made)/\H1 ma=some (.lst (made.map nI))/\H1 no=some (.lst ns)/\Ims H1 ns (ts.map ndD)/\ts.length<=11/\JDs wl ts made) ?_ ?_ ?_ ?_⟩
 ·exact⟨none,none,none,none,st,0,[],[],[],rfl,S0,hst,d1,d2,Stk.new (S3 _ _ (S2 _ _ eG)),S3 _ _ eG,eG,.nil,by decide,rfl,fun d t h=>by cases h⟩
 ·rintro i σ H1 _ ⟨o6,o7,o8,o9,st,dn,ns,ts,made,_,S,_⟩
  exact SqL.of (S _ _ hc)
 ·rintro i v σ H1 hv ⟨o6,o7,o8,o9,st,dn,ns,ts,made,rfl,S,nst,m1,m2,ks,ema,eno,ino,lts,jd⟩
  rw[aI]at hv
  obtain⟨c,hc',rfl⟩:=cm.mp hv
  have li:i<cells.length:=(ao.mp hc').1
  have lm:made.length<=11:=by rw[<-jd.1];exact lts
  have nws:wa≠st:=eT hw nst
  have hw1:=S _ _ hw
  dsimp only[fu]
  refine⟨⟨by decide,by decide,by decide⟩,(by show(0:Int)<10^(64:Int).toNat;decide+kernel),?_⟩
  dsimp only[fu]
  generalize c%10^(64:Int).toNat=k
  refine⟨(by show(0:Int)<24;decide),?_⟩
  show if decide (k%24<22)=true then _ else _
  by_cases c1:k%24<22
  ·rw[gM c1]
   refine kj ?_
   refine⟨(by show(0:Int)<24;decide),⟨by decide,by decide⟩,?_⟩
   refine⟨wa,st,ma,i,wl,made,k%24,k/24,rfl,by lia,c1,hw1,ema,lw,nd,by lia,nws,m1,ks,fun H2 x I F2 k2 i2 j2=>?_⟩
   dsimp only[fu]
   obtain⟨a,n,cs,rfl,ea,ec,iN⟩:=id i2
   refine CV i2 j2 rfl rfl rfl fun H3 x3 I3 S3 i3 j3=>?_
   have k3:=k2.same S3
   obtain⟨xs,es,ls,al⟩:=id k3
   refine⟨⟨_,es⟩,xs,es,by lia,?_⟩
   have F4:FS st H3 (L2.Internal.upd H3 st (.lst (xs++[x3]))):=fun a o e n=>by rw[eN n];exact e
   have F14:FS st H1 (L2.Internal.upd H3 st (.lst (xs++[x3]))):=F2.trans ((FS.same S3).trans F4)
   refine⟨_,_,_,_,st,dn,ns,ts,made,rfl,fun a o e=>F14 _ _ (S _ _ e) (eT e nst),nst,m1,m2,k3.push es i3 j3,F14 _ _ ema m1,F14 _ _ eno m2,ino.mono (ks.tk F14),lts,jd⟩
  ·rw[gk c1]
   refine jP ?_
   obtain⟨xs,es,ls,al⟩:=id ks
   have keep:∃(o6' o7' o8' o9':Option V) (st':Addr) (dn':Nat) (ns':List V) (ts':List Tr) (made':List Nat),[some (V.ref wa),some (V.ref cl),some (V.ref st),some (V.ref ma),some (V.ref no),some (V.int (dn:Int)),some (V.int c),some (V.int k),o8,o9]=[some (V.ref wa),some (V.ref cl),some (V.ref st'),some (V.ref ma),some (V.ref no),some (V.int (dn':Int)),o6',o7',o8',o9']/\fG H H1/\H st'=none/\ma≠st'/\no≠st'/\Stk H1 st' (i+ 1) (JS wl made')/\H1 ma=some (.lst (made'.map nI))/\H1 no=some (.lst ns')/\Ims H1 ns' (ts'.map ndD)/\ts'.length<=11/\JDs wl ts' made':=⟨_,_,_,_,st,dn,ns,ts,made,rfl,S,nst,m1,m2,ks.le (by lia),ema,eno,ino,lts,jd⟩
   refine⟨st,_,rfl,.inl (SqL.of es),?_⟩
   show if decide ((0:Int)<(xs.length:Int))=true then _ else _
   by_cases c2:0<xs.length
   ·rw[gM (by lia)]
    refine kj ⟨no,_,rfl,.inl (SqL.of eno),?_⟩
    have lns:=ino.length
    rw[aA]at lns
    show if decide ((ns.length:Int)<11)=true then _ else _
    by_cases c3:ns.length<11
    ·rw[gM (by lia)]
     refine kj ?_
     show if decide ((dn:Int)<=100)=true then _ else _
     by_cases c4:dn<=100
     ·rw[gM (by lia)]
      refine kj ?_
      have hy:xs[xs.length-1]?=some (xs[xs.length-1]'(by lia)):=aZ (by lia)
      obtain⟨I,hI',hJ⟩:=al _ (aK hy)
      refine⟨.inl ⟨rfl,_,SqL.of es⟩,st,xs,_,rfl,rfl,es,hy,?_⟩
      have F:FS st H1 (L2.Internal.upd H1 st (.lst xs.dropLast)):=fun a o e n=>by rw[eN n];exact e
      have tkF:=ks.tk F
      have hw2:=F _ _ hw1 nws
      have ema2:=F _ _ ema m1
      have eno2:=F _ _ eno m2
      have SH:fG H (L2.Internal.upd H1 st (.lst xs.dropLast)):=fun a o e=>F _ _ (S _ _ e) (eT e nst)
      have iI:=hI'.fs ks F
      refine⟨⟨by decide,by decide⟩,wa,wl,made,_,I,k/24,rfl,hw2,lw,nd,by lia,iI,hJ.1,fun H3 x3 I3 S3 i3 j3 z3 w3 n3 s3=>?_⟩
      dsimp only[fu]
      obtain⟨a,n,cs,rfl,ea,ec,iN⟩:=id i3
      have eno3:=S3 _ _ eno2
      refine⟨⟨_,eno3⟩,_,ea,eP (eM (j:=0) rfl) ⟨_,eno3,by lia,?_⟩⟩
      have na:a≠no:=fun z=>by
       rw[z,eno3]at ea
       cases cf.inj ea
       obtain⟨p,e⟩:=CU ino (show V.int (I3.t.nest:Int)∈itV n I3 cs by simp[itV])
       cases e
      have ema3:=S3 _ _ ema2
      have nb:a≠ma:=fun z=>by
       rw[z,ema3]at ea
       have e:=cf.inj ea
       injection e with e
       have hm:V.ref cs∈made.map nI:=by rw[e];simp[itV]
       obtain⟨u,_,hu⟩:=ba.mp hm
       cases hu
      have ea4:(L2.Internal.upd H3 no (.lst (ns++[n]))) a=some (.lst (itV n I3 cs)):=by rw[eN na];exact ea
      have ema4:(L2.Internal.upd H3 no (.lst (ns++[n]))) ma=some (.lst (made.map nI)):=by rw[eN d3.symm];exact ema3
      refine⟨⟨_,ema4⟩,_,ea4,eP (eM (j:=2) rfl) ⟨_,ema4,by rw[aA];lia,?_⟩⟩
      have ea5:(L2.Internal.upd (L2.Internal.upd H3 no (.lst (ns++[n]))) ma (.lst (made.map nI++[.int (I3.w:Int)]))) a=some (.lst (itV n I3 cs)):=by rw[eN nb];exact ea4
      have ema5:(L2.Internal.upd (L2.Internal.upd H3 no (.lst (ns++[n]))) ma (.lst (made.map nI++[.int (I3.w:Int)]))) ma=some (.lst ((made++[I3.w]).map nI)):=by rw[eG,bz];rfl
      have eno5:(L2.Internal.upd (L2.Internal.upd H3 no (.lst (ns++[n]))) ma (.lst (made.map nI++[.int (I3.w:Int)]))) no=some (.lst (ns++[n])):=by rw[eN d3];exact eG
      have k35:TK H3 (L2.Internal.upd (L2.Internal.upd H3 no (.lst (ns++[n]))) ma (.lst (made.map nI++[.int (I3.w:Int)]))):=fun b ws e=>(gH ema4).tk _ _ ((gH eno3).tk _ _ e)
      have S5:fG H (L2.Internal.upd (L2.Internal.upd H3 no (.lst (ns++[n]))) ma (.lst (made.map nI++[.int (I3.w:Int)]))):=fun b o e=>by
       rw[eN (eT e nma),eN (eT e nno)]
       exact S3 _ _ (SH _ _ e)
      show zI _ _ _ _ (L2.Internal.upd (L2.Internal.upd H3 no (.lst (ns++[n]))) ma (.lst (made.map nI++[.int (I3.w:Int)])))
      generalize(L2.Internal.upd (L2.Internal.upd H3 no (.lst (ns++[n]))) ma (.lst (made.map nI++[.int (I3.w:Int)])))=H5 at ea5 ema5 eno5 k35 S5
      refine⟨_,ea5,eP (eM (j:=5) rfl) ?_⟩
      dsimp only[fu]
      refine⟨ki,fun st6 h6=>?_⟩
      dsimp only[fu]
      have S6:=eL h6 (.lst [])
      have n6:∀{b:Addr} {o:HO},H5 b=some o->b≠st6:=fun e z=>by rw[<-z,e]at h6;cases h6
      refine⟨_,_,_,_,st6,dn+I3.t.sz,ns++[n],ts++[I3.t],made++[I3.w],rfl,S5.trans S6,nn S5 h6,n6 ema5,n6 eno5,Stk.new eG,S6 _ _ ema5,S6 _ _ eno5,?_,by rw[aM,<-lns];show ns.length+ 1<=11;lia,jd.snoc (JD.of j3 z3 (by have:=hJ.2;lia) (by have:=hJ.3;lia) (by have:=hJ.4;lia))⟩
      rw[bz]
      exact((((ino.mono tkF).mono (fG.tk S3)).app (.cons iN .nil)).mono k35).mono (fG.tk S6)
     ·rw[gk (by lia)]
      exact jP keep
    ·rw[gk (by lia)]
     exact jP (jP keep)
   ·rw[gk (by lia)]
    exact jP (jP keep)
 ·rintro σ H1 ⟨o6,o7,o8,o9,st,dn,ns,ts,made,rfl,S,nst,m1,m2,ks,ema,eno,ino,lts,jd⟩
  dsimp only
  have nws:wa≠st:=eT hw nst
  have lm:made.length<=11:=by rw[<-jd.1];exact lts
  refine⟨st,_,JS wl made,rfl,ks,JS.num 0,fun H2 x2 I2 F2 k2 i2 j2=>?_⟩
  have S2':fG H H2:=fun a o e=>F2 _ _ (S _ _ e) (eT e nst)
  refine⟨cl,_,rfl,.inl (SqL.of (S2' _ _ hc)),?_⟩
  refine⟨wa,wl,made,x2,I2,_,rfl,S2' _ _ hw,lw,nd,by lia,i2,j2.1,fun H3 x3 I3 S3 i3 j3 z3 w3 n3 s3=>?_⟩
  obtain⟨a,n,cs,rfl,ea,ec,iN⟩:=id i3
  refine⟨_,ea,eP (eM (j:=0) rfl) ⟨kO,fun l4 h4=>?_⟩⟩
  have S4:=eL h4 (.lst [n])
  have eno4:=S4 _ _ (S3 _ _ (F2 _ _ eno m2))
  have lns:=ino.length
  rw[aA]at lns
  refine⟨no,l4,ns,[n],rfl,rfl,eno4,eG,by show ns.length+ 1<=_;lia,fun l5 h5=>?_⟩
  have S5:=eL h5 (.lst (ns++[n]))
  have S35:=S3.trans (S4.trans S5)
  refine q _ l5 (ns++[n]) (ts++[I3.t]) (made++[I3.w]) (S2'.trans S35) eG ?_ (by simp) (by rw[aM];show ts.length+ 1<=12;lia) (jd.snoc (JD.of j3 z3 (by have:=j2.2;lia) (by have:=j2.3;lia) (by have:=j2.4;lia)))
  rw[bz]
  exact(((ino.mono (ks.tk F2)).mono (fG.tk S35))).app (.cons (iN.mono (fG.tk (S4.trans S5))) .nil)
def szB (D:Bd) (n:Nat):Prop:=Y4 (D.pts.length<=n) (D.mks.length<=n) (D.uss.length<=n) (D.fls.length<=n)
theorem oO {H:Hp} (n:Int):Im H (.int n) (.flat (.int n)):= .flat rfl
theorem BB {H:Hp} (s:Str):Im H (.str s) (.flat (.str s)):= .flat rfl
theorem rH {α:Type} {l:List α} {i:Nat} {a:α} (h:l[i]?=some a):l.take (i+ 1)=l.take i++[a]:=by
 rw[List.take_add_one,h]
 rfl
def bdW (D:Bd):Dt:= .lst [.lst (D.pts.map fun i=> .flat (.int i)),.lst (D.mks.map Mkg.d),.lst (D.uss.map Us.d),.lst (D.fls.map flD)]
theorem zz {c:Cs} {H:Hp} {A:Ad} {r:V} {D:Bd} (B:Bw c H A r D) {n:Nat} (h:szB D n) (hn:n<=900):lX (bdW D)<=6/\okD (bdW D):=by
 obtain⟨b,e0,⟨mv,e1,h1⟩,⟨uv,e2,h2⟩,⟨fv,e3,h3⟩,nd⟩:=B
 obtain⟨a0,a1,a2,a3⟩:=h
 have m1:∀m∈D.mks,lX m.f<=2/\okD m.f:=fun m hm=>by
  obtain⟨x,_,_,_,_,_,_,d,o⟩:=h1.right m hm
  exact⟨d,o⟩
 have m2:∀u∈D.uss,u.ok:=fun u hu=>by
  obtain⟨x,q⟩:=h2.right u hu
  exact q.ok
 have d0:iF (D.pts.map fun i=>Dt.flat (.int i))<=3:=kT fun x _=>bY _
 have d1:iF (D.mks.map Mkg.d)<=3:=kT fun m hm=>by
  have:=(m1 m hm).1
  simp[Mkg.d,lX,iF]
  lia
 have d2:iF (D.uss.map Us.d)<=3:=kT fun u _=>u.dep
 have d3:iF (D.fls.map flD)<=3:=kT fun p _=>by simp[flD,lX,iF]
 refine⟨?_,(by show 4<=100000;decide),⟨by rw[aA];lia,lQ fun _ _=>trivial⟩,⟨by rw[aA];lia,lQ fun m hm=>⟨by show 4<=100000;decide,trivial,(m1 m hm).2,trivial,trivial,trivial⟩⟩,⟨by rw[aA];lia,lQ fun u hu=>Us.okd (m2 u hu)⟩,⟨by rw[aA];lia,lQ fun p _=>⟨by show 2<=100000;decide,trivial,trivial,trivial⟩⟩,trivial⟩
 simp only[bdW,lX,iF]
 lia
theorem zA {H:Hp} {A:Ad} {D:Bd} (B:Dw H A D):Dta H (.ref A.b) (bdW D):=by
 obtain⟨mv,m1,m2⟩:=B.e1
 obtain⟨uv,u1,u2⟩:=B.e2
 obtain⟨fv,f1,f2⟩:=B.e3
 exact .lst B.b (.cons (.lst B.e0 (pO _ _)) (.cons (.lst m1 m2.das) (.cons (.lst u1 u2.das) (.cons (.lst f1 f2.das) .nil))))
def CW (c:Cs):Sp:=fun vs H Q _=>X4 fun(A:Ad) (r:V) (D:Bd) (n:Nat)=>Y5 (vs=[.ref A.b]) (Bw c H A r D) (szB D n) (n<=900) (∀v H',fG H H'->Dta H' v (bdW D)->Q v H')
theorem ur (T:Txt K mg):FO P w base 2 T.d46 (CW (cs T)):=by
 have gE54:=tU (P:=P) (w:=w) (base:=base) T
 have gE56:=qL (P:=P) (w:=w) (base:=base) T
 have gE58:=qg (P:=P) (w:=w) (base:=base) T
 have gE60:=qj (P:=P) (w:=w) (base:=base) T
 have gE62:=ql (P:=P) (w:=w) (base:=base) T
 have gE64:=qN (P:=P) (w:=w) (base:=base) T
 refine T.d46.F.rd lD fun cdv A0 outer s H vs Q E hr h=>?_
 obtain⟨A,r,D,n,rfl,B,sm,hn,q⟩:=h
 refine⟨_,(eJ (lO (j:=1) rfl (DM (x:="_law_one") rfl fo fo rfl rfl) (kP (fj T.c8.cl T.n8makes (cv 0))) (fun _ _ _ _ _=>jr) (fun _ _ _ _ _=>(eY (lK (PE.mono (cv 0)) T.c1.cl T.e54.me gE54 hr.m T.e54.b .nil fH))) lD.nd rfl (.inl rfl))
  (eJ (lO (j:=2) rfl (DM (x:="_law_one") rfl fo fo rfl rfl) (kP (fj T.c8.cl T.n8uses (cv 0))) (fun _ _ _ _ _=>jr) (fun _ _ _ _ _=>(PE.or (eY (lK (PE.mono (cv 0)) T.c3.cl T.e56.me gE56 hr.m T.e56.b .nil fH)) (PE.or (eY (lK (PE.mono (cv 0)) T.c4.cl T.e58.me gE58 hr.m T.e58.b .nil fH)) (PE.or (eY (lK (PE.mono (cv 0)) T.c5.cl T.e60.me gE60 hr.m T.e60.b .nil fH)) (PE.or (eY (lK (PE.mono (cv 0)) T.c6.cl T.e62.me gE62 hr.m T.e62.b .nil fH)) (eY (lK (PE.mono (cv 0)) T.c7.cl T.e64.me gE64 hr.m T.e64.b .nil fH))))))) lD.nd rfl (.inl rfl))
  (eO (fm (fq (eE (fW iA rfl T.z_list jT (eE (fj T.c8.cl T.n8points (cv 0)) eF)) (eE (cv 1) (eE (cv 2) (eE (fW iA rfl T.z_list jT (eE (fj T.c8.cl T.n8flows (cv 0)) eF)) eF))))))))),?_⟩
 have sl:=sizeLine_eq
 obtain⟨mv,em,am⟩:=B.e1
 obtain⟨uv,eu,au⟩:=B.e2
 have lm:=am.length
 have lu:=au.length
 have s1:=sm.2
 have s2:=sm.3
 refine⟨_,⟨_,_,B.b,vF _ _ _ _ _⟩,A.p1,rfl,⟨_,SqL.of em⟩,fun d hd=>?_⟩
 refine m9 mv.length (by lia) (fun xs H=>Ims H xs ((D.mks.take xs.length).map Mkg.d)) (fun xs H H' h k=>h.mono k) hd rfl (fun k H S hk=>vA em S hk) (fun H S=>vB em S) .nil ?_ ?_
 ·rintro k H2 v H3 xs Z S2 hk ⟨rfl,hv⟩ I2 hl z
  obtain⟨m,hm,x,dx,f,rfl,ex,hf,_⟩:=am.get (hv _ (SqL.of (S2 _ _ em)))
  have ex2:=S2 _ _ ex
  refine⟨⟨_,_,ex2,wO _ _ _ _⟩,x,dx,_,_,_,_,rfl,ex2,fun t ht=>z _ _ (eL ht _) ?_⟩
  show Ims _ (xs++[V.ref t]) ((D.mks.take (xs++[V.ref t]).length).map Mkg.d)
  rw[aM,aU,rH (by rw[hl];exact hm),bz]
  exact(Ims.mono (fG.tk (eL ht _)) I2).app (.cons (yt ht (.cons (BB _) (.cons (hf.mono (fG.tk S2)) (.cons (oO _) (.cons (oO _) .nil))))) .nil)
 rintro H2 xs S2 I2 hl eD
 have I2':Ims H2 xs ((D.mks.take xs.length).map Mkg.d):=I2
 rw[hl,lm,bI]at I2'
 have B2:=B.same S2
 have eu2:=S2 _ _ eu
 refine⟨_,⟨_,_,B2.b,yJ _ _ _ _ _⟩,A.p2,rfl,⟨_,SqL.of eu2⟩,fun d2 hd2=>?_⟩
 refine m9 uv.length (by lia) (fun xs H=>Ims H xs ((D.uss.take xs.length).map Us.d)) (fun xs H H' h k=>h.mono k) hd2 rfl (fun k H S hk=>vA eu2 S hk) (fun H S=>vB eu2 S) .nil ?_ ?_
 ·rintro k H3 v H4 ys Z S3 hk ⟨rfl,hv⟩ I3 hl3 z
  obtain⟨u,hu,ua⟩:=au.get (hv _ (SqL.of (S3 _ _ eu2)))
  have S:=S2.trans S3
  have fin:∀{t:Addr} {ts:List V} {ds:List Dt},H4 t=none->Ims H4 ts ds->Us.d u= .tup ds->Z (.ref t) (L2.Internal.upd H4 t (.tup ts)):=fun{t ts ds} ht i e=>z _ _ (eL ht _) (by
   show Ims _ (ys++[V.ref t]) ((D.uss.take (ys++[V.ref t]).length).map Us.d)
   rw[aM,aU,rH (by rw[hl3];exact hu),bz]
   refine(Ims.mono (fG.tk (eL ht _)) I3).app (.cons ?_ .nil)
   rw[e]
   exact yt ht i)
  have h4:∀(s:Str) (a p sl:Int),Ims H4 [.str s,.int a,.int p,.int sl] (hdD s a p sl):=fun s a p sl=> .cons (BB _) (.cons (oO _) (.cons (oO _) (.cons (oO _) .nil)))
  cases u with
  |num a p sl=>
   obtain⟨x,dx,rfl,ex⟩:=ua
   have ex2:=S _ _ ex
   exact .inl ⟨⟨_,_,ex2,wN _ _ _⟩,x,dx,_,_,_,rfl,ex2,fun t ht=>fin ht (h4 "num" a p sl) rfl⟩
  |call a p sl y1 y2=>
   obtain⟨x,dx,rfl,ex⟩:=ua
   have ex2:=S _ _ ex
   exact .inr (.inl ⟨⟨_,_,ex2,uS _ _ _ _ _⟩,x,dx,_,_,_,_,_,rfl,ex2,fun t ht=>fin ht ((h4 "call" a p sl).app (.cons (oO y1) (.cons (oO y2) .nil))) rfl⟩)
  |take a p sl l=>
   obtain⟨x,dx,f,rfl,ex,hf,_⟩:=ua
   have ex2:=S _ _ ex
   exact .inr (.inr (.inl ⟨⟨_,_,ex2,tQ _ _ _ _⟩,x,dx,_,_,_,_,rfl,ex2,fun t ht=>fin ht ((h4 "take" a p sl).app (.cons (hf.mono (fG.tk S)) .nil)) rfl⟩))
  |case a p sl l=>
   obtain⟨x,dx,f,rfl,ex,hf,_⟩:=ua
   have ex2:=S _ _ ex
   exact .inr (.inr (.inr (.inl ⟨⟨_,_,ex2,tR _ _ _ _⟩,x,dx,_,_,_,_,rfl,ex2,fun t ht=>fin ht ((h4 "case" a p sl).app (.cons (hf.mono (fG.tk S)) .nil)) rfl⟩)))
  |row a p sl y1=>
   obtain⟨x,dx,rfl,ex⟩:=ua
   have ex2:=S _ _ ex
   exact .inr (.inr (.inr (.inr ⟨⟨_,_,ex2,tS _ _ _ _⟩,x,dx,_,_,_,_,rfl,ex2,fun t ht=>fin ht ((h4 "row" a p sl).app (.cons (oO y1) .nil)) rfl⟩)))
 rintro H3 ys S3 I3 hl3 eD2
 have I3':Ims H3 ys ((D.uss.take ys.length).map Us.d):=I3
 rw[hl3,lu,bI]at I3'
 have S:=S2.trans S3
 have B3:=B.same S
 refine⟨_,⟨_,_,B3.b,qd _ _ _ _ _⟩,A.p0,_,rfl,.inl (SqL.of B3.e0),fun l0 h0=>?_⟩
 have S4:=eL h0 (.lst (D.pts.map V.int))
 obtain⟨fv,ef,jf⟩:=B3.e3
 refine⟨_,⟨_,_,S4 _ _ B3.b,vG _ _ _ _ _⟩,A.p3,_,rfl,.inl (SqL.of (S4 _ _ ef)),fun l3 h3=>⟨qB,fun l hl=>?_⟩⟩
 have S5:=eL h3 (.lst fv)
 have S6:=eL hl (.lst [.ref l0,.ref d,.ref d2,.ref l3])
 have S46:=S4.trans (S5.trans S6)
 refine q _ _ (S.trans S46) ?_
 exact .lst eG (.cons (.lst ((S5.trans S6) _ _ eG) (pO _ _)) (.cons (.lst ((S3.trans S46) _ _ eD) (I2'.mono (fG.tk (S3.trans S46))).das) (.cons (.lst (S46 _ _ eD2) (I3'.mono (fG.tk S46)).das) (.cons (.lst (S6 _ _ eG) (jf.mono (fG.tk S46)).das) .nil))))
open TM.Internal (Kn Tr gy szs)
theorem pj {f:Str} {v:V}:∀{fs:List (Str×V)} (ns:List Str),fs.map Prod.fst=ns->f∉ns->ja f v fs=fs++[(f,v)]
 |[],_,_,_=>rfl
 |p::t,_,rfl,h=>by
  rw[az,ai,not_or]at h
  have:¬p.1=f:=fun z=>h.1 z.symm
  simp only[ja,fJ this,aQ]
  rw[pj _ rfl h.2]
def mY (C:Addr):Sp:=fun vs H Q _=>X5 fun(x dx n r w:Addr)=>Y3 (vs=[.ref x,.ref n,.ref r,.ref w]) (H x=some (.ins C dx [])) (Q .non (L2.Internal.upd H x (.ins C dx (fP n r w))))
theorem mZ (T:Txt K mg):MO P w base mg 1 T.e74 (mY T.c10.a):=by
 refine T.e74.F.rd mQ fun cdv A outer s H vs Q E hr h=>?_
 obtain⟨x,dx,n,r,w,rfl,hx,q⟩:=h
 refine⟨_,(eJ (kq T.c10.cl T.n10names (gC (PE.mono (cv 0)) (PE.mono (cv 1)) rfl))
  (eJ (kq T.c10.cl T.n10roots (gC (PE.mono (cv 0)) (PE.mono (cv 2)) rfl))
  (eO (kq T.c10.cl T.n10rows (gC (PE.mono (cv 0)) (PE.mono (cv 3)) rfl))))),?_⟩
 refine⟨dx,_,hx,(by show 0<1000;decide),dx,_,eG,(by show 1<1000;decide),dx,_,eG,?_,?_⟩
 ·rw[pj (f:=("roots":Str)) ["names"] rfl fo];show 2<1000;decide
 ·rw[f7,f7,pj (f:=("roots":Str)) ["names"] rfl fo,pj (f:=("rows":Str)) ["names","roots"] rfl fo]
  exact q
theorem EK {κ:Kn} {n:Nat} {N:Str->Prop} {ps:List Nat} (ok:okK κ n N) (hp:ps.length=n):(roK κ ps).few:=by
 cases κ with
 |rcd l=>
  obtain⟨h1,h2⟩:n=l.length/\l.length<=10:=ok
  show(bc _ (l.zip ps)).length<=10
  rw[aA,bJ]
  lia
 |case l=>
  cases ps with
  |nil=>trivial
  |cons p ps=>
   obtain⟨h1,h2⟩:n=l.length+ 1/\l.length<=10:=ok
   show(bc _ (l.zip ps)).length<=10
   rw[aA,bJ]
   lia
 |row m=>
  obtain⟨h1,h2⟩:n=m/\m<=1000:=ok
  show(bc _ ps).length<=1000
  rw[aA]
  lia
 |lt w=>
  cases ps with
  |nil=>trivial
  |cons p ps=>cases ps<;>trivial
 |num=>trivial
 |name=>trivial
 |op=>trivial
 |_=>cases ps<;>trivial
section
variable {G:List Pc} {roots:List Nat} {q:Nat}
theorem FtD.few (F:FtD G roots 0 0 q) (hq:q=G.length) (k:Nat) (ρ:Ro) (h:(G.map Pc.ρ)[k]?=some ρ):ρ.few:=by
 rw[aI]at h
 obtain⟨c,hc,rfl⟩:=cm.mp h
 obtain⟨f,_⟩:=F.at hq hc
 obtain⟨⟨κ,ks⟩,pl,_,_,ok⟩:=f.t
 have p1:=pl.1
 rw[hc]at p1
 rw[cf.inj p1]
 exact EK ok.1 (TM.Internal.offs_len _ _)
theorem FtD.dom (F:FtD G roots 0 0 q) (hq:q=G.length) (k:Nat) (h:Hm) (e:hoG G k=some h) (hd:h.1="def"):∃d:Nat,h.2=(d:Int)/\d<roots.length:=by
 obtain⟨c,x,gc,hx,rfl,s,l,⟨r,hr,_⟩,_⟩:=F.en hq e
 rcases s with⟨z,_⟩|⟨_,j,ej,lj,_⟩|⟨z,_⟩
 ·exact absurd hd (ltn z).1
 ·exact⟨j,ej,by have:=(ao.mp hr).1;lia⟩
 ·rcases z with z|z
  ·exact absurd z (dfn hd).2.1
  ·exact absurd z (dfn hd).2.2
theorem AB {ts:List Tr} (er:roots=gy ts 0) (F:FtD G roots 0 0 q) (hq:q=G.length) {d r:Nat} {c:Pc} (hd:roots[d]?=some r) (hc:G[r]?=some c) (hw:c.wt<=50):∃s' t',wV (jK (G.map Pc.ρ) roots (hoG G) 50) roots (d:Int) s00=some (0,s')/\Ai (nG (G.map Pc.ρ) roots (hoG G) 50) roots (d:Int) s00=some (0,t')/\t'.D=s'.D/\nS s'<=600:=by
 have hz:atZ roots (d:Int)=some r:=hd
 obtain⟨_,c',gc,ec,nb⟩:=F.r d r (bY _) hd
 rw[hc]at gc
 cases gc
 obtain⟨u,s1,h1,n1,_⟩:=Br er F hq 50 r c ((s00.pt r).begin d s00.n) hc hw ⟨fun b hb=>absurd hb (nb b),s00.n,by rw[ec];exact fY rfl⟩
 have df:=nH hc
 obtain⟨t1,h2,e2,_⟩:=Ef (Gb er F hq) (Gd er F hq) 50 (r:Int) ((s00.pt r).begin d s00.n) (((s00.pt r).hold (-1) s00.n).hold (-2) d) u s1 ⟨rfl,fun k hk=>absurd ((qv hc).mp hk) (nb k),by
  rw[df,ec]
  show put (put s00.held (-1) s00.n) (-2) d (-1)=put s00.st d s00.n d
  simp[put],by
  rw[df,ec]
  show put (put s00.held (-1) s00.n) (-2) d (-2)=some (d:Int)
  simp[put]⟩ h1
 refine⟨s1.fl u 0,t1.fl u 0,?_,?_,by unfold Ls.fl;rw[e2],?_⟩
 ·unfold wV
  rw[hz]
  dsimp only
  rw[h1]
  rfl
 ·unfold Ai
  rw[hz]
  dsimp only
  rw[h2]
  rfl
 ·rw[va]
  have n1:nS s1+ 2<=nS ((s00.pt r).begin d s00.n)+ 10*c.wt:=n1
  rw[Eu,oE]at n1
  have e0:nS s00=0:=rfl
  lia
end
open TM.Internal (Kn Tr gy szs)
def PB (c:Cs) (H:Hp) (bl dl:Addr) (x y:V):Prop:=X3 fun(B A:Ad) (D:Bd)=>Y11 (x= .ref B.b) (y= .ref A.b) (Bw c H B (.int 0) D) (Dw H A D) (szB D 900) (bl∉B.ls) (dl∉B.ls) (bl∉A.ls) (dl∉A.ls) (bl≠A.b) (dl≠A.b)
theorem PB.same {c:Cs} {H H':Hp} {bl dl:Addr} {x y:V} (h:PB c H bl dl x y) (S:fG H H'):PB c H' bl dl x y:=by
 obtain⟨B,A,D,h1,h2,b,d,z,n1,n2,n3,n4,n5,n6⟩:=h
 exact⟨B,A,D,h1,h2,b.same S,d.same S,z,n1,n2,n3,n4,n5,n6⟩
theorem PB.upb {c:Cs} {H:Hp} {bl dl:Addr} {x y:V} {xs ys:List V} (h:PB c H bl dl x y) (e:H bl=some (.lst xs)):PB c (L2.Internal.upd H bl (.lst ys)) bl dl x y:=by
 obtain⟨B,A,D,h1,h2,b,d,z,n1,n2,n3,n4,n5,n6⟩:=h
 exact⟨B,A,D,h1,h2,b.other e n1,d.other e n3 n5,z,n1,n2,n3,n4,n5,n6⟩
theorem PB.upd {c:Cs} {H:Hp} {bl dl:Addr} {x y:V} {xs ys:List V} (h:PB c H bl dl x y) (e:H dl=some (.lst xs)):PB c (L2.Internal.upd H dl (.lst ys)) bl dl x y:=by
 obtain⟨B,A,D,h1,h2,b,d,z,n1,n2,n3,n4,n5,n6⟩:=h
 exact⟨B,A,D,h1,h2,b.other e n2,d.other e n4 n6,z,n1,n2,n3,n4,n5,n6⟩
theorem EM {H:Hp} {xs:List V} {G:List Pc} (h:Ims H xs (G.map rD)):Ims H xs ((G.map Pc.ρ).map Ro.d):=by
 rw[bb]
 exact h
theorem EN {H:Hp} {hs:List V} {G:List Pc} (h:Ims H hs (G.map hD')) (k:Nat) (ρ:Ro) (e:(G.map Pc.ρ)[k]?=some ρ):∃y,hs[k]?=some y/\Im H y (hoD (hoG G k)):=by
 rw[aI]at e
 obtain⟨c,hc,rfl⟩:=cm.mp e
 obtain⟨x,hx,ix⟩:=ug h (show(G.map hD')[k]?=some (hD' c) by rw[aI,hc];rfl)
 refine⟨x,hx,?_⟩
 have:hoG G k=hoC c:=by unfold hoG;rw[hc];rfl
 rw[this]
 exact ix
theorem CY {H:Hp} {q0 q1 q2 q3 dd:Addr} (h0:H q0=none) (h1:(L2.Internal.upd H q0 (.lst [])) q1=none) (h2:(L2.Internal.upd (L2.Internal.upd H q0 (.lst [])) q1 (.lst [])) q2=none) (h3:(L2.Internal.upd (L2.Internal.upd (L2.Internal.upd H q0 (.lst [])) q1 (.lst [])) q2 (.lst [])) q3=none)
  (h4:(L2.Internal.upd (L2.Internal.upd (L2.Internal.upd (L2.Internal.upd H q0 (.lst [])) q1 (.lst [])) q2 (.lst [])) q3 (.lst [])) dd=none):
  fG H (L2.Internal.upd (L2.Internal.upd (L2.Internal.upd (L2.Internal.upd (L2.Internal.upd H q0 (.lst [])) q1 (.lst [])) q2 (.lst [])) q3 (.lst [])) dd (.lst [.ref q0,.ref q1,.ref q2,.ref q3]))/\
  Dw (L2.Internal.upd (L2.Internal.upd (L2.Internal.upd (L2.Internal.upd (L2.Internal.upd H q0 (.lst [])) q1 (.lst [])) q2 (.lst [])) q3 (.lst [])) dd (.lst [.ref q0,.ref q1,.ref q2,.ref q3])) ⟨dd,dd,q0,q1,q2,q3⟩ (⟨[],[],[],[],0⟩)/\H dd=none/\∀a∈[q0,q1,q2,q3],H a=none:=by
 have S1:=eL h0 (.lst [])
 have e0:(L2.Internal.upd H q0 (.lst [])) q0=some (.lst []):=eG
 generalize L2.Internal.upd H q0 (.lst [])=H1 at*
 have S2:=eL h1 (.lst [])
 have e1:(L2.Internal.upd H1 q1 (.lst [])) q1=some (.lst []):=eG
 have n01:=eT e0 h1
 generalize L2.Internal.upd H1 q1 (.lst [])=H2 at*
 have S3:=eL h2 (.lst [])
 have e2:(L2.Internal.upd H2 q2 (.lst [])) q2=some (.lst []):=eG
 have n02:=eT (S2 _ _ e0) h2
 have n12:=eT e1 h2
 generalize L2.Internal.upd H2 q2 (.lst [])=H3 at*
 have S4:=eL h3 (.lst [])
 have e3:(L2.Internal.upd H3 q3 (.lst [])) q3=some (.lst []):=eG
 have n03:=eT (S3 _ _ (S2 _ _ e0)) h3
 have n13:=eT (S3 _ _ e1) h3
 have n23:=eT e2 h3
 generalize L2.Internal.upd H3 q3 (.lst [])=H4 at*
 have S5:=eL h4 (.lst [.ref q0,.ref q1,.ref q2,.ref q3])
 have S14:=S1.trans (S2.trans (S3.trans S4))
 have f0:=S4 _ _ (S3 _ _ (S2 _ _ e0))
 have f1:=S4 _ _ (S3 _ _ e1)
 have f2:=S4 _ _ e2
 refine⟨S14.trans S5,⟨eG,?_,S5 _ _ f0,⟨_,S5 _ _ f1,.nil⟩,⟨_,S5 _ _ f2,.nil⟩,⟨_,S5 _ _ e3,.nil⟩,?_⟩,S14.free h4,fun a ha=>?_⟩
 ·simp only[Ad.ls,ai,bf,or_false,not_or]
  exact⟨Ne.symm (eT f0 h4),Ne.symm (eT f1 h4),Ne.symm (eT f2 h4),Ne.symm (eT e3 h4)⟩
 ·simp only[Ad.ls,aC,ai,bf,or_false,not_or]
  exact⟨⟨n01,n02,n03⟩,⟨n12,n13⟩,n23,fun z=>z,List.nodup_nil⟩
 ·simp only[ai,bf,or_false]at ha
  rcases ha with rfl|rfl|rfl|rfl
  ·exact h0
  ·exact S1.free h1
  ·exact(S1.trans S2).free h2
  ·exact(S1.trans (S2.trans S3)).free h3
theorem AD:gG [V.non] [Value.none]:= .cons (show gN V.non Value.none from rfl) .nil
theorem uu (ns:List Int) (lo hi:Option Int):∃ms:List Int,uH (ns.map V.int) lo hi=ms.map V.int/\ms.length<=ns.length:=by
 unfold uH
 rw[<-List.map_drop,<-List.map_take]
 refine⟨_,rfl,?_⟩
 rw[aF,aS]
 lia
theorem CZ {f:Addr} {fd:FuncData} (T:Txt K mg) (W:Lk P w T) (F:Fun K "law" "law" sj f fd):qA P w K mg base CX0 300 f fd ["_law_script"] (vE K):=by
 have gD27:=sM (P:=P) (w:=w) (base:=base) T
 have gD45:=sJ (P:=P) (w:=w) (base:=base) T
 have gD40:=qz (P:=P) (w:=w) (base:=base) T
 have gE74:=mZ (P:=P) (w:=w) (base:=base) T
 have gD47:=jg (P:=P) (w:=w) (base:=base) T 50 (qt T 50)
 have gY7:=Co (P:=P) (w:=w) (base:=base) T W 50
 have gD46:=ur (P:=P) (w:=w) (base:=base) T
 have gD28:=nK (P:=P) (w:=w) (base:=base) T 8
 refine F.rd lZ fun cdv A0 outer s H vs Q E hr h=>?_
 obtain⟨a,ns,rfl,ha,ln,q⟩:=h
 refine⟨_,(eJ (pS (i:=1) lZ.nd (pF T.d27 gD27 hr.m (eE (fD (ym rfl) rfl T.z_sum DJ (eE (lM uL (cv 0) nM (nN eK)) eF)) eF)))
  (eJ (pS (i:=2) lZ.nd (pF T.d45 gD45 hr.m (eE (cv 1) (eE (pF T.d40 gD40 hr.m (eE (cv 1) (eE (lM uL (cv 0) (nN eK) nM) eF))) eF))))
  (eJ (pS (i:=3) lZ.nd (jj T.mk10 gE74 hr.m rfl T.c10.m T.e74.b .nil fH (eE (fW iA rfl T.z_list jT (eE (eU eR (cv 2) eK) eF)) (eE (fW iA rfl T.z_list jT (eE (eU eR (cv 2) eK) eF)) (eE (fW iA rfl T.z_list jT (eE (eU eR (cv 2) eK) eF)) eF)))))
  (eJ (pS (i:=4) lZ.nd (fW iA rfl T.z_list jT (eE (eU eR (cv 2) eK) eF)))
  (eJ (pS (i:=5) lZ.nd (fq eF))
  (eJ (pS (i:=6) lZ.nd (fq eF))
  (eJ (jb PassesOwn.never rfl (xA rfl T.z_range (eE (fD (sZ rfl) rfl T.z_max yl (eE eK (eE (fC tK (fD fz rfl T.z_len gU (eE (eU eR (cv 2) eK) eF)) eK) eF))) (eE (fD fz rfl T.z_len gU (eE (eU eR (cv 2) eK) eF)) eF))) (pN (i:=7) lZ.nd)
   (eJ (pS (i:=8) lZ.nd (fq (eE (fq eF) (eE (fq eF) (eE (fq eF) (eE (fq eF) eF))))))
   (eJ (eW (pF T.d47 gD47 hr.m (eE (cv 2) (eE (cv 8) (eE rP (eE (cv 7) eF))))))
   (eJ (pS (i:=9) lZ.nd (xK gY7 hr.m rfl T.y7.m T.y7.k T.y7.b AD fH (eE (cv 3) (eE (cv 4) (eE (cv 7) eF)))))
   (eJ (fV (PW.pt (xw (xx (oF (pF T.d28 gD28 hr.m (eE (pF T.d46 gD46 hr.m (eE (cv 9) eF)) (eE (cv 8) eF))))) (vm (xx (oF (pF T.d28 gD28 hr.m (eE (fj T.c8.cl T.n8root (cv 9)) (eE eK eF))))))))
    (eO (fm xr))
    fF)
   (eJ (eW (fN (gu dD dE dF fh (PE.mono (cv 5)) (eE (PE.mono (cv 9)) eF))))
   (eO (eW (fN (gu dD dE dF fh (PE.mono (cv 6)) (eE (PE.mono (cv 8)) eF)))))))))))
  (eO (fm (fD (vy rfl) rfl T.z_all AR (eE (yk (g:=Dd K 2 (pq (fu 0) (pq (fu 1) Dc))) rfl (BY (x:="_law_board") (y:="_law_due") rfl fo fo rfl (by decide) rfl) (yh rfl T.z_zip (eE (cv 5) (eE (cv 6) eF))) (pgP rfl fo rfl rfl) (fun _ _ _ _ _=>(pF T.d28 gD28 hr.m (eE (pF T.d46 gD46 hr.m (eE (cv 0) eF)) (eE (cv 1) eF))))) eF))))))))))),?_⟩
 have sl:=sizeLine_eq
 obtain⟨m1,em1,lm1⟩:=uu ns none (some 1)
 obtain⟨m2,em2,lm2⟩:=uu ns (some 1) none
 refine⟨_,rfl,a,_,rfl,ha,fun l1 h1=>⟨l1,m1,rfl,SqL.of (by rw[eG,em1]),fun n0=>?_⟩⟩
 have S1:=eL h1 (.lst (uH (ns.map V.int) none (some 1)))
 refine⟨n0,rfl,fun wa H2 S2 _ hw=>?_⟩
 dsimp only[fu]
 have S12:=S1.trans S2
 obtain⟨wl,hw,lw,nd⟩:=hw
 refine⟨_,rfl,a,_,rfl,S12.seq ha,fun l3 h3=>?_⟩
 have S3:=eL h3 (.lst (uH (ns.map V.int) (some 1) none))
 refine⟨wa,l3,wl,m2,rfl,S3 _ _ hw,lw,nd,by rw[eG,em2],by lia,fun H4 l4 xs ts made S4 e4 i4 ne4 lt4 jd=>?_⟩
 have hw4:=(S3.trans S4) _ _ hw
 have ltm:ts.length=made.length:=jd.1
 have jdt:∀t∈ts,∃d,JD wl (made.take d) t (made.getD d 0):=fun t ht=>by
  obtain⟨d,hd⟩:=bA.mp ht
  exact⟨d,jd.2 d t hd⟩
 have sz4:szs ts<=10000:=by
  have:=BA (ts:=ts) fun t ht=>let⟨d,j⟩:=jdt t ht;j.z
  lia
 refine⟨wa,l4,wl,xs,ts,rfl,hw4,lw,e4,i4,lt4,fun t ht=>?_,sz4,fun H5 b n r w' h Bt=>?_⟩
 ·obtain⟨d,j⟩:=jdt t ht
  exact⟨⟨fun _=>True,j.o _ fun _ _=>trivial⟩,by have:=j.n;lia⟩
 dsimp only[fu]
 obtain⟨sm,eb,⟨nms,en,lnm⟩,er',⟨rs,ew,iw⟩,⟨hs,eh,ih⟩,nw⟩:=Bt
 have ft:=CC (zx lw nd (us:=ts) (d:=0) (made:=made) (by lia) (by lia) fun k t hk=>by rw[b9];exact jd.2 k t hk)
 have hq:szs ts=(pcD (wdE wl) ts 0 0 []).length:=za.symm
 have few:=FtD.few ft hq
 have dom:=FtD.dom ft hq
 have iw':=EM iw
 have both:∀d:Nat,d<ts.length->∃s' t',wV (jK ((pcD (wdE wl) ts 0 0 []).map Pc.ρ) (gy ts 0) (hoG (pcD (wdE wl) ts 0 0 [])) 50) (gy ts 0) (d:Int) s00=some (0,s')/\Ai (nG ((pcD (wdE wl) ts 0 0 []).map Pc.ρ) (gy ts 0) (hoG (pcD (wdE wl) ts 0 0 [])) 50) (gy ts 0) (d:Int) s00=some (0,t')/\t'.D=s'.D/\nS s'<=600:=fun d hd=>by
  obtain⟨r,hr⟩:∃r,(gy ts 0)[d]?=some r:=⟨_,aZ (by rw[TM.Internal.offs_len];exact hd)⟩
  obtain⟨c,hc,wc⟩:=zy lw nd (us:=ts) (d:=0) (p:=0) (made:=made) (G:=pcD (wdE wl) ts 0 0 []) (l1:=[]) (by lia) (by lia) (fun k t hk=>by rw[b9];exact jd.2 k t hk) rfl rfl hr
  refine AB rfl ft hq hr hc ?_
  rw[wc,b9]
  exact(jd.2 d _ (aZ hd)).b
 have roL:(gy ts 0).length=ts.length:=TM.Internal.offs_len _ _
 generalize pcD (wdE wl) ts 0 0 []=G at*
 refine⟨_,eb,eP (eM (j:=0) rfl) ⟨n,_,rfl,.inl (SqL.of en),fun p1 g1=>?_⟩⟩
 have U1:=eL g1 (.lst (nms.map V.str))
 refine⟨_,U1 _ _ eb,eP (eM (j:=1) rfl) ⟨r,_,rfl,.inl (SqL.of (U1 _ _ er')),fun p2 g2=>?_⟩⟩
 have U2:=eL g2 (.lst ((gy ts 0).map nI))
 refine⟨_,U2 _ _ (U1 _ _ eb),eP (eM (j:=2) rfl) ⟨w',_,rfl,.inl (SqL.of (U2 _ _ (U1 _ _ ew))),fun p3 g3=>?_⟩⟩
 have U3:=eL g3 (.lst rs)
 refine fun x dx hx hdx nx=>⟨x,dx,p1,p2,p3,rfl,eG,rfl,?_⟩
 rw[f7]
 have U4:=iV (o:= .ins T.c10.a dx (fP p1 p2 p3)) hx hdx
 dsimp only[fu]
 have U14:=U1.trans (U2.trans (U3.trans U4))
 refine⟨_,U14 _ _ eb,eP (eM (j:=3) rfl) ⟨h,_,rfl,.inl (SqL.of (U14 _ _ eh)),fun p5 g5=>?_⟩⟩
 have U5:=eL g5 (.lst hs)
 dsimp only[fu]
 have U15:=U14.trans U5
 have Cq0:Cq T.c10.a _ x p5 nms (gy ts 0) (G.map Pc.ρ) (hoG G):=⟨⟨p1,p2,p3,dx,rs,U5 _ _ eG,(U2.trans (U3.trans (U4.trans U5))) _ _ eG,(U3.trans (U4.trans U5)) _ _ eG,(U4.trans U5) _ _ eG,iw'.mono (fG.tk U15)⟩,⟨hs,eG,fun k ρ e=>EN (ih.mono (fG.tk U15)) k ρ e⟩,few,dom⟩
 have eb6:=U15 _ _ eb
 have en6:=U15 _ _ en
 have er6:=U15 _ _ er'
 have ew6:=U15 _ _ ew
 have eh6:=U15 _ _ eh
 have iw6:=iw'.mono (fG.tk U15)
 have ih6:=ih.mono (fG.tk U15)
 generalize(L2.Internal.upd (L2.Internal.upd (L2.Internal.upd (L2.Internal.upd (L2.Internal.upd (L2.Internal.upd H5 p1 (.lst (nms.map V.str))) p2 (.lst ((gy ts 0).map nI))) p3 (.lst rs)) dx (.own x)) x (.ins T.c10.a dx (fP p1 p2 p3))) p5 (.lst hs))=H6 at Cq0 eb6 en6 er6 ew6 eh6 iw6 ih6⊢
 refine⟨ki,fun bl hbl=>?_⟩
 dsimp only[fu]
 refine⟨ki,fun dl hdl=>?_⟩
 dsimp only[fu]
 have Vb:=eL hbl (.lst [])
 have Vd:=eL hdl (.lst [])
 have nbd:bl≠dl:=fun z=>by rw[<-z,eG]at hdl;cases hdl
 have ndl:H6 dl=none:=by
  cases z:H6 dl with
  |none=>rfl
  |some u=>rw[Vb _ _ z]at hdl;cases hdl
 have V6:=Vb.trans Vd
 have ln6:((nms.map V.str).length:Int)=(ts.length:Int):=by rw[aA,lnm]
 refine⟨_,V6 _ _ eb6,eP (eM (j:=0) rfl) ⟨n,_,rfl,.inl (SqL.of (V6 _ _ en6)),_,_,rfl,_,V6 _ _ eb6,eP (eM (j:=0) rfl) ⟨n,_,rfl,.inl (SqL.of (V6 _ _ en6)),_,_,rfl,?_⟩⟩⟩
 rw[ln6]
 have elo:(if(ts.length:Int)-4>0 then(ts.length:Int)-4 else 0)=((ts.length-4:Nat):Int):=by split<;>lia
 rw[elo]
 refine⟨⟨by lia,by lia,by lia,by lia⟩,?_⟩
 rw[show((ts.length:Int)-((ts.length-4:Nat):Int)).toNat=ts.length-(ts.length-4) by lia]
 refine kl (fun i σ H7=>X5 fun(o7 o8 o9:Option V) (bs ds:List V)=>Y6 (σ=[some (.ref a),some (.ref wa),some (.ref b),some (.ref x),some (.ref p5),some (.ref bl),some (.ref dl),o7,o8,o9]) (fG H6 H7) (H7 bl=some (.lst bs)) (H7 dl=some (.lst ds)) (lT (PB (cs T) H7 bl dl) bs ds) (bs.length=i)) ⟨none,none,none,[],[],rfl,V6,Vd _ _ eG,eG,.nil,rfl⟩ ?_ ?_
 ·rintro i σ H7 hi ⟨o7,o8,o9,bs,ds,rfl,S7,ebl,edl,al,lb⟩
  dsimp only[fu]
  have ed:((ts.length-4:Nat):Int)+(i:Int)=((ts.length-4+i:Nat):Int):=by lia
  rw[ed]
  have hd:ts.length-4+i<ts.length:=by lia
  generalize ts.length-4+i=d at hd
  obtain⟨s',t',hF,hS,eD,nS'⟩:=both d hd
  have zs:Sz 1000000 s':=by unfold nS at nS';exact⟨by lia,by lia,by lia,by lia⟩
  have zt:Sz 1000000 t':=⟨by rw[eD];exact zs.p,by rw[eD];exact zs.m,by rw[eD];exact zs.u,by rw[eD];exact zs.f⟩
  have zb:szB s'.D 900:=by unfold nS at nS';exact⟨by lia,by lia,by lia,by lia⟩
  refine⟨ki,fun q0 j0=>⟨ki,fun q1 j1=>⟨ki,fun q2 j2=>⟨ki,fun q3 j3=>⟨qB,fun dd jd'=>?_⟩⟩⟩⟩⟩
  obtain⟨S8,D8,fd',fl'⟩:=CY j0 j1 j2 j3 jd'
  dsimp only[fu]
  generalize(L2.Internal.upd (L2.Internal.upd (L2.Internal.upd (L2.Internal.upd (L2.Internal.upd H7 q0 (.lst [])) q1 (.lst [])) q2 (.lst [])) q3 (.lst [])) dd (.lst [.ref q0,.ref q1,.ref q2,.ref q3]))=H8 at S8 D8
  refine fun e he=>?_
  have S9:=eL he (.dK [])
  have S79:=S8.trans S9
  have fA:∀a∈(⟨dd,dd,q0,q1,q2,q3⟩:Ad).ls,H7 a=none:=fl'
  have no:∀{p:Addr} {o:HO},H7 p=some o->p∉(⟨dd,dd,q0,q1,q2,q3⟩:Ad).ls:=fun e z=>by rw[fA _ z]at e;cases e
  have S69:=S7.trans S79
  have Cl0:Cl (L2.Internal.upd H8 e (.dK [])) ⟨dd,dd,q0,q1,q2,q3⟩ b (gy ts 0) (G.map Pc.ρ) (hoG G):=⟨⟨n,r,w',h,rs,hs,S69 _ _ eb6,S69 _ _ er6,S69 _ _ ew6,iw6.mono (fG.tk S69),S69 _ _ eh6,fun k ρ e=>EN (ih6.mono (fG.tk S69)) k ρ e,no (S7 _ _ eb6),no (S7 _ _ er6),no (S7 _ _ ew6),no (S7 _ _ eh6)⟩,few⟩
  refine⟨⟨dd,dd,q0,q1,q2,q3⟩,b,e,s00,t',d,0,gy ts 0,G.map Pc.ρ,hoG G,rfl,⟨D8.same S9,[],eG,bX _,fun _=>rfl⟩,Cl0,hS,zt,fun H10 D10 F10=>?_⟩
  have S10:fG H7 H10:=fun p o e=>F10 _ _ (S79 _ _ e) (no e)
  refine⟨x,p5,d,0,s',nms,gy ts 0,G.map Pc.ρ,hoG G,rfl,?_,hF,zs,fun B H11 S11 fB B11=>?_⟩
  ·obtain⟨⟨a1,a2,a3,a4,a5,pr⟩,⟨hs',e1,e2⟩,e3,e4⟩:=Cq0
   have S610:=S7.trans S10
   exact⟨⟨a1,a2,a3,a4,a5,pr.same S610⟩,⟨hs',S610 _ _ e1,fun k ρ hk=>let⟨y,u,v⟩:=e2 k ρ hk;⟨y,u,v.mono (fG.tk S610)⟩⟩,e3,e4⟩
  dsimp only[fu]
  rw[eD]at D10
  have D11:=D10.same S11
  have gd:=zz B11 zb (by decide)
  refine⟨B,.int 0,s'.D,900,rfl,B11,zb,by decide,fun v H12 S12' dv=>?_⟩
  refine⟨v,.ref dd,bdW s'.D,rfl,dv,(zA D11).same S12',bU gd.1 (by decide),gd.2,fun H13 S13=>⟨true,rfl,jP ?_⟩⟩
  have S1113:=S12'.trans S13
  have B13:=B11.same S1113
  refine⟨_,⟨_,_,B13.b,Cb _ _ _ _ _⟩,.int 0,.int 0,.flat (.int 0),rfl,.flat rfl,.flat rfl,bY _,trivial,fun H14 S14=>⟨true,rfl,jP ?_⟩⟩
  have S114:=S1113.trans S14
  have S714:=S10.trans (S11.trans S114)
  have ebl14:=S714 _ _ ebl
  have edl14:=S714 _ _ edl
  have noB:∀{p:Addr} {o:HO},H7 p=some o->p∉B.ls:=fun e z=>by have:=fB _ (ah _ z);rw[S10 _ _ e]at this;cases this
  have pb:PB (cs T) H14 bl dl (.ref B.b) (.ref dd):=⟨B,⟨dd,dd,q0,q1,q2,q3⟩,s'.D,rfl,rfl,B11.same S114,D11.same S114,zb,noB ebl,noB edl,no ebl,no edl,(fun z=>by rw[show bl=dd from z,fd']at ebl;cases ebl),(fun z=>by rw[show dl=dd from z,fd']at edl;cases edl)⟩
  refine⟨⟨_,ebl14⟩,bs,ebl14,by lia,?_⟩
  have edl15:(L2.Internal.upd H14 bl (.lst (bs++[.ref B.b]))) dl=some (.lst ds):=by rw[eN nbd.symm];exact edl14
  have ld:ds.length=i:=by rw[<-al.length];exact lb
  refine⟨⟨_,edl15⟩,ds,edl15,by lia,?_⟩
  have up:∀{u v:V},PB (cs T) H14 bl dl u v->PB (cs T) (L2.Internal.upd (L2.Internal.upd H14 bl (.lst (bs++[.ref B.b]))) dl (.lst (ds++[.ref dd]))) bl dl u v:=fun p=>(p.upb ebl14).upd edl15
  refine⟨_,_,_,bs++[.ref B.b],ds++[.ref dd],rfl,fun p o e=>?_,by rw[eN nbd];exact eG,eG,.snoc (up pb) (al.imp fun _ _ p=>up (p.same S714)),by rw[aM,lb];rfl⟩
  rw[eN (eT e ndl),eN (eT e hbl)]
  exact S714 _ _ (S7 _ _ e)
 ·rintro σ H7 ⟨o7,o8,o9,bs,ds,rfl,S7,ebl,edl,al,lb⟩
  dsimp only
  have ld:ds.length=bs.length:=al.length.symm
  refine⟨bl,dl,rfl,⟨_,SqL.of ebl⟩,⟨_,SqL.of edl⟩,fun D hD=>?_⟩
  refine vc bs.length (by lia) hD (fun k H3 S3 hk=>⟨bs,ds,bs[k],ds[k]'(by lia),SqL.of (S3 _ _ ebl),SqL.of (S3 _ _ edl),aZ hk,aZ (by lia)⟩)
   (fun H3 S3=>⟨bs,ds,SqL.of (S3 _ _ ebl),SqL.of (S3 _ _ edl),by lia⟩) ?_ ?_
  ·rintro k H3 v H4 R S3 hk ⟨p,x1,y1,rfl,hp,rfl,e1,e2⟩ σ' hl r
   obtain⟨u1,u2,rfl⟩:∃u1 u2,σ'=[u1,u2]:=by
    match σ',hl with
    |[u1,u2],_=>exact⟨u1,u2,rfl⟩
   have e1:=e1 bs (SqL.of (S3 _ _ ebl))
   have e2:=e2 ds (SqL.of (S3 _ _ edl))
   obtain⟨y,ey,pb⟩:=sO al e1
   rw[e2]at ey
   cases ey
   have S4:=eL hp (.tup [x1,y1])
   obtain⟨B,A,D',rfl,rfl,B4,D4,zb,_⟩:=pb.same (S3.trans S4)
   have gd:=zz B4 zb (by decide)
   refine⟨p,[.ref B.b,.ref A.b],rfl,SqT.of eG,rfl,_,[.ref A.b],rfl,_,[],rfl,rfl,?_⟩
   refine⟨B,.int 0,D',900,rfl,B4,zb,by decide,fun v H12 S12' dv=>?_⟩
   refine⟨v,.ref A.b,bdW D',rfl,dv,(zA D4).same S12',bU gd.1 (by decide),gd.2,fun H13 S13=>?_⟩
   exact r _ _ rfl (S4.trans (S12'.trans S13))
  ·intro H3 S3 hD3
   refine⟨D,aE bs.length true,rfl,SqL.of hD3,?_⟩
   rw[sN]
   exact q _
theorem jv {l:List (Str×Tok×Addr)}:(l.map (·.1)).Nodup->∀x∈l,kN (l.map fun p=>((Sum.inr p.1:Key),V.ref p.2.2)) (Sum.inr x.1)=some (.ref x.2.2):=by
 induction l with
 |nil=>exact fun _ x hx=>nomatch hx
 |cons y r ih=>
  intro hn x hx
  rw[az,aC]at hn
  unfold kN
  rw[az,aO]
  rcases ai.mp hx with e|hm
  ·subst e
   rw[gM rfl]
   rfl
  ·have ne:¬(Sum.inr y.1:Key)=Sum.inr x.1:=fun z=>hn.1 (by rw[Sum.inr.inj z];exact bD hm)
   rw[gk ne]
   exact ih hn.2 x hm
def Gw {P:Program} {w:World} {K:PySem.W.Frag} {mg:Str->Option Value} (T:Txt K mg) {a:Addr} {n:Nat} {t_num t_name t_fn t_call t_let t_rec t_get t_tag t_case t_row t_at t_join t_size t_add t_sub t_less:Tok} (m:mg "LAYERS"=some (.ref a)) (ha:(a==sysModules)=false) (hl:K.lookup a=some ⟨.type "dict",none,.dict #[⟨PyData.keyHash w.params "num",.str "num" t_num,.ref T.d8.a⟩,⟨PyData.keyHash w.params "name",.str "name" t_name,.ref T.d9.a⟩,⟨PyData.keyHash w.params "fn",.str "fn" t_fn,.ref T.d12.a⟩,⟨PyData.keyHash w.params "call",.str "call" t_call,.ref T.d13.a⟩,⟨PyData.keyHash w.params "let",.str "let" t_let,.ref T.d14.a⟩,⟨PyData.keyHash w.params "rec",.str "rec" t_rec,.ref T.d15.a⟩,⟨PyData.keyHash w.params "get",.str "get" t_get,.ref T.d16.a⟩,⟨PyData.keyHash w.params "tag",.str "tag" t_tag,.ref T.d17.a⟩,⟨PyData.keyHash w.params "case",.str "case" t_case,.ref T.d18.a⟩,⟨PyData.keyHash w.params "row",.str "row" t_row,.ref T.d19.a⟩,⟨PyData.keyHash w.params "at",.str "at" t_at,.ref T.d20.a⟩,⟨PyData.keyHash w.params "join",.str "join" t_join,.ref T.d21.a⟩,⟨PyData.keyHash w.params "size",.str "size" t_size,.ref T.d22.a⟩,⟨PyData.keyHash w.params "add",.str "add" t_add,.ref T.d23.a⟩,⟨PyData.keyHash w.params "sub",.str "sub" t_sub,.ref T.d23.a⟩,⟨PyData.keyHash w.params "less",.str "less" t_less,.ref T.d24.a⟩] n,#[]⟩):Lk P w T where
 a:=a
 m:=m
 kvs:=([("num",t_num,T.d8.a),("name",t_name,T.d9.a),("fn",t_fn,T.d12.a),("call",t_call,T.d13.a),("let",t_let,T.d14.a),("rec",t_rec,T.d15.a),("get",t_get,T.d16.a),("tag",t_tag,T.d17.a),("case",t_case,T.d18.a),("row",t_row,T.d19.a),("at",t_at,T.d20.a),("join",t_join,T.d21.a),("size",t_size,T.d22.a),("add",t_add,T.d23.a),("sub",t_sub,T.d23.a),("less",t_less,T.d24.a)]:List (Str×Tok×Addr)).map fun p=>((Sum.inr p.1:Key),V.ref p.2.2)
 kd:=zT ha hl rfl (by show(["num","name","fn","call","let","rec","get","tag","case","row","at","join","size","add","sub","less"]:List Str).Nodup;decide+kernel)
 yes:=fun ρ hu=>by
  have hn:(([("num",t_num,T.d8.a),("name",t_name,T.d9.a),("fn",t_fn,T.d12.a),("call",t_call,T.d13.a),("let",t_let,T.d14.a),("rec",t_rec,T.d15.a),("get",t_get,T.d16.a),("tag",t_tag,T.d17.a),("case",t_case,T.d18.a),("row",t_row,T.d19.a),("at",t_at,T.d20.a),("join",t_join,T.d21.a),("size",t_size,T.d22.a),("add",t_add,T.d23.a),("sub",t_sub,T.d23.a),("less",t_less,T.d24.a)]:List (Str×Tok×Addr)).map (·.1)).Nodup:=by show(["num","name","fn","call","let","rec","get","tag","case","row","at","join","size","add","sub","less"]:List Str).Nodup;decide+kernel
  cases ρ with
  |num _=>exact⟨_,jv hn ("num",t_num,T.d8.a) (aK (i:=0) rfl),fun f=>⟨_,.num,_,rfl⟩⟩
  |name _=>exact⟨_,jv hn ("name",t_name,T.d9.a) (aK (i:=1) rfl),fun f=>⟨_,.name,_,rfl⟩⟩
  |fn _ _=>exact⟨_,jv hn ("fn",t_fn,T.d12.a) (aK (i:=2) rfl),fun f=>⟨_,.fn,_,_,rfl⟩⟩
  |tag _ _=>exact⟨_,jv hn ("tag",t_tag,T.d17.a) (aK (i:=7) rfl),fun f=>⟨_,.tag,_,_,rfl⟩⟩
  |lt _ _ _=>exact⟨_,jv hn ("let",t_let,T.d14.a) (aK (i:=4) rfl),fun f=>⟨_,.lt,_,_,_,rfl⟩⟩
  |get _ _=>exact⟨_,jv hn ("get",t_get,T.d16.a) (aK (i:=6) rfl),fun f=>⟨_,.get,_,_,rfl⟩⟩
  |rcd _=>exact⟨_,jv hn ("rec",t_rec,T.d15.a) (aK (i:=5) rfl),fun f=>⟨_,.rcd,_,rfl⟩⟩
  |case _ _=>exact⟨_,jv hn ("case",t_case,T.d18.a) (aK (i:=8) rfl),fun f=>⟨_,.case,_,_,rfl⟩⟩
  |row _=>exact⟨_,jv hn ("row",t_row,T.d19.a) (aK (i:=9) rfl),fun f=>⟨_,.row,_,rfl⟩⟩
  |op o ks=>
   rcases hu with rfl|rfl|rfl|rfl|rfl|rfl|rfl
   ·exact⟨_,jv hn ("call",t_call,T.d13.a) (aK (i:=3) rfl),fun f=>⟨_,.call,_,rfl⟩⟩
   ·exact⟨_,jv hn ("at",t_at,T.d20.a) (aK (i:=10) rfl),fun f=>⟨_,.ix,_,rfl⟩⟩
   ·exact⟨_,jv hn ("join",t_join,T.d21.a) (aK (i:=11) rfl),fun f=>⟨_,.join,_,rfl⟩⟩
   ·exact⟨_,jv hn ("size",t_size,T.d22.a) (aK (i:=12) rfl),fun f=>⟨_,.size,_,rfl⟩⟩
   ·exact⟨_,jv hn ("add",t_add,T.d23.a) (aK (i:=13) rfl),fun f=>⟨_,.sum,_,_,rfl,.inl rfl⟩⟩
   ·exact⟨_,jv hn ("sub",t_sub,T.d23.a) (aK (i:=14) rfl),fun f=>⟨_,.sum,_,_,rfl,.inr rfl⟩⟩
   ·exact⟨_,jv hn ("less",t_less,T.d24.a) (aK (i:=15) rfl),fun f=>⟨_,.less,_,rfl⟩⟩
end K27.Internal
namespace PySem.W.Fast
def tw15330786984228056007:=0
def tw11838336335853551540:=0
def tw1152615596106053991:=0
def tw16361570013396743272:=0
def tw12999553281633192250:=0
def tw6150871000151589802:=0
def tw15933943194447373419:=0
def tw12670818277366219732:=0
def tw2946937365548928369:=0
def tw6699087658653350435:=0
def tw15544320002455219149:=0
def tw2856169074323367305:=0
def tw261822437344961502:=0
def tw6468249064421169727:=0
def tw7043082358012629764:=0
def tw1958729374528362593:=0
def tw18197651581372485153:=0
def tw2532392428104234158:=0
def tw12544458376605139781:=0
def tw8973127138602427414:=0
def tw18125362833438624456:=0
def tw15398940754615393341:=0
def tw4548618170790758992:=0
def tw10899516015032565948:=0
def tw10143562744579153781:=0
def tw7181361162750453334:=0
def tw4924481403631689175:=0
def tw8192087988204552407:=0
def tw4780735528116467365:=0
def tw1862524198332179560:=0
def tw10060935672930045255:=0
def tw17902134367464510768:=0
def tw2034887638018229976:=0
def tw17798291991117050202:=0
def tw16781993359482554375:=0
def tw2222071481837941680:=0
def tw12963132433943788126:=0
def tw16705882774592699540:=0
def tw3583004481514384498:=0
def tw5372689847041264374:=0
def tw12317070980461685835:=0
def tw3803556845460090037:=0
def tw13517696835442827560:=0
def tw9653043241871407924:=0
def tw2728868474056482223:=0
def tw15545812813456724863:=0
def tw65170616314016797:=0
def tw1555994054467180987:=0
def tw17349636230656031419:=0
def tw15540435981896135335:=0
def tw9414629857118828634:=0
def tw1863992934421550377:=0
def tw16304757031220328788:=0
def tw3616902972586503736:=0
def tw17820652956557057135:=0
def tw4526695809911995199:=0
def tw10479601316884956854:=0
def tw6975102153119211682:=0
def tw14856132793724792679:=0
def tw3726337166924276531:=0
def tw1935564196900606401:=0
def tw12824023001227195492:=0
def tw7598358877862773795:=0
def tw2526711493058313613:=0
def tw7399745164958242739:=0
def tw12362984700704380664:=0
def tw11747233804010691072:=0
def tw4577571206291635220:=0
def tw3384624812348934856:=0
def tw7849107722938866198:=0
def tw16035958486163078291:=0
def tw17236926020927644952:=0
def tw12411377925695005821:=0
def tw15383955123448710659:=0
def tw6281513180265810127:=0
def tw17800889614970813473:=0
def tw12993465398945381044:=0
def tw5018469514693527434:=0
def tw3457048942414274896:=0
def tw2942043196420699013:=0
def tw3008064878443949518:=0
def tw2611292796364935206:=0
def tw8578995540318393126:=0
def tw2214977159332981481:=0
def tw16918786921755203946:=0
def tw12895558452120006320:=0
def tw8133588556291824328:=0
def tw6354977449316907465:=0
def tw11247432514116510963:=0
def tw12180876991705895295:=0
def tw2575597471310349838:=0
def tw5038270322266584435:=0
def tw10077282285537159791:=0
def tw15725517439195231707:=0
def tw14255319425132427530:=0
def tw620210181726405080:=0
def tw13045591528816058680:=0
def tw8667553511490282832:=0
def tw2562149767353927997:=0
def tw11152945346862306840:=0
def tw10896173287498274938:=0
def tw13941320207015522599:=0
def tw15028310520787823336:=0
def tw14267048866150086355:=0
def tw8475050792675513022:=0
def tw17397349854437201379:=0
def tw13373494856751051578:=0
def tw10863956659497531125:=0
def tw6987038068201711610:=0
def tw1091368508731840510:=0
def tw10735777847958872167:=0
def tw14683127989184482760:=0
def tw6889839482437882608:=0
def tw3708178827529061568:=0
def tw16045129994899587893:=0
def tw9558359935132550922:=0
def tw2153750042786443378:=0
def tw11366687046344965514:=0
def tw7362905113995323364:=0
def tw3385656552151679811:=0
def tw2623812258086958564:=0
def tw840640262771312566:=0
def tw2812519080250863875:=0
def tw10145946654895704826:=0
def tw7042956508368531640:=0
def tw1590358506013755009:=0
def tw15607410266636186903:=0
def tw2680549776100596541:=0
def tw15769451536063627963:=0
def tw4901739722242559303:=0
def tw7289034105009320738:=0
def tw4244171849374716348:=0
def tw7393386743715659439:=0
def tw5165334373597720685:=0
def tw5018659176025676485:=0
def tw10145344639710857186:=0
def tw8682003019936237858:=0
def tw17081642328350240217:=0
def tw6606343854374081369:=0
def tw6092175920448923685:=0
def tw11721218734441131729:=0
def tw14821714826208883237:=0
def tw11611467384793901589:=0
def tw970988421517559687:=0
def tw16145564901868624290:=0
def tw12905510411117683977:=0
def tw2091917873015932611:=0
def tw3389373675054959865:=0
def tw10604377084264832815:=0
def tw2331381672051003296:=0
def tw1741188953712624554:=0
def tw4868132104708111621:=0
def tw13504160947102860622:=0
def tw595658859332170546:=0
def tw8734394960836511933:=0
def tw16457557811983751752:=0
def tw2975466652748234859:=0
def tw14746146716238626331:=0
def tw3844743987606564740:=0
def tw442681393248258178:=0
def tw5363639635389081215:=0
def tw13744998743850236855:=0
def tw6365926131008570872:=0
def tw6473076995916152919:=0
def tw11208203365392764716:=0
def tw18052140829201160245:=0
def tw14214298319360584791:=0
def tw16353580338749184188:=0
def tw3116202857813620359:=0
def tw838252554591242589:=0
def tw225140422742118464:=0
def tw18376244878858529582:=0
def tw1296654244871312085:=0
def tw7593677768444513253:=0
def tw17080550499694819735:=0
def tw15208836717308032146:=0
def tw15952893125260270871:=0
def tw2246255070156153822:=0
def tw12100394819714369883:=0
def tw9878202113381649379:=0
def tw8359162640012574793:=0
def tw17143435497081833085:=0
def tw4099741939269463337:=0
def tw14034482271051527724:=0
def tw9621568648556074870:=0
def tw7410270838988776877:=0
def tw14376907767072926961:=0
def tw17615066392335222296:=0
def tw4325229618716065833:=0
def tw5369711511213545142:=0
def tw5736581031591044073:=0
def tw1792493977926971646:=0
def tw16693940523833143243:=0
def tw65440087499479700:=0
def tw17989371198862050280:=0
def tw6286512182930149074:=0
def tw10962553322404594486:=0
def tw9447996557943968007:=0
def tw4726507273517089275:=0
def tw4722473691869927038:=0
def tw10205902290918908281:=0
def tw768716153848828114:=0
def tw17039237008849092663:=0
def tw17672546287356610728:=0
def tw9578932741651621425:=0
def tw8990743731534601783:=0
def tw7086911309713557970:=0
def tw17423507561543421048:=0
def tw13594182540905330147:=0
def tw1658144286996148985:=0
def tw13824225956474559325:=0
def tw4528726714971742409:=0
def tw10781979827658955052:=0
def tw1376292472544776614:=0
def tw7910598685161096832:=0
def tw2577395239730344465:=0
def tw5965723511126941208:=0
def tw3986161947433723499:=0
def tw3096199544840273217:=0
def tw14449565751130235538:=0
def tw9239552279921342619:=0
def tw6506820935766189166:=0
def tw16611377553571388343:=0
def tw4059382944990452449:=0
def tw5880583045172340359:=0
def tw11488923929365217584:=0
def tw7310663714459573555:=0
def tw9186881119556444608:=0
def tw14602724865006842166:=0
def tw9885306405703906378:=0
def tw5365981104356188035:=0
def tw10022661424373821448:=0
def tw1207509051787324300:=0
def tw17982607937892603980:=0
def tw9558374663312503194:=0
def tw14256023929633288109:=0
def tw14973984234133479638:=0
def tw4693605833689192504:=0
def tw16579647941803591819:=0
def tw10692172358250164448:=0
def tw9416442034467656862:=0
def tw18445646196695334562:=0
def tw17547893019033937852:=0
def tw4743083593203998459:=0
def tw18142810303939688844:=0
def tw12490654632195755717:=0
def tw15150425398383196022:=0
def tw5276726411227509557:=0
def tw17735234769079311839:=0
def tw1068934255922444859:=0
end PySem.W.Fast
namespace K27.Internal
open PySem L2.Internal
theorem all_mk {l:PySem.W.OpenLaw} {w:World} {K:PySem.W.Frag} {h:Heap} {mg:Str->Option Value} {fa fL:Addr} (X:K.In h) (G:h.Ns mainGlobals mg) (hfa:mg "law"=some (.ref fa))
  {pW:Addr} {nW:Nat} {tW0 tW1 tW2 tW3 tW4 tW5 tW6 tW7 tW8 tW9 tW10 tW11 tW12 tW13 tW14 tW15:Tok} {fW0 fW1 fW2 fW3 fW4 fW5 fW6 fW7 fW8 fW9 fW10 fW11 fW12 fW13 fW14:Addr}
  {fU C1 C2 C3 C4 C5 C6 C7 C8 C9 C10:Addr} {odL anL:Option Addr} {slL:Array (Option Value)} {ocL kVL dcL pmL cdL ctL:Value}
  (a1:Fm K "stands_in" mw)
  (a2:Fm K "pasted" r9)
  (a3:Fm K "new_points" kU)
  (a4:Fm K "parts_made" kW)
  (a5:Fm K "use_made" nQ)
  (a6:Fm K "with_points" kr)
  (a7:Dm K "laid" yE)
  (a8:Fm K "lay_num" pR)
  (a9:Fm K "lay_name" nR)
  (a10:Fm K "meant_point" ku)
  (a11:Fm K "definition_point" iO)
  (a12:Fm K "lay_fn" se)
  (a13:Fm K "lay_call" nT)
  (a14:Fm K "lay_let" pT)
  (a15:Fm K "lay_rec" pU)
  (a16:Fm K "lay_get" pV)
  (a17:Fm K "lay_tag" pX)
  (a18:Fm K "lay_case" nU)
  (a19:Fm K "lay_row" pY)
  (a20:Fm K "lay_at" sg)
  (a21:Fm K "lay_join" nV)
  (a22:Fm K "lay_size" nX)
  (a23:Fm K "lay_sum" pZ)
  (a24:Fm K "lay_less" nY)
  (a25:Fm K "lay_numbers" kx)
  (a26:Fm K "_law_stem" mx)
  (a27:Fm K "_law_words" kX)
  (a28:Fm K "_law_alike" kY)
  (a29:Fm K "_law_leaf" my)
  (a30:Fm K "_law_knit" mz)
  (a31:Fm K "_law_pop" nZ)
  (a32:Fm K "_law_number" ky)
  (a33:Fm K "_law_name" mB)
  (a34:Fm K "_law_most" mC)
  (a35:Fm K "_law_wide" mD)
  (a36:Fm K "_law_narrow" kz)
  (a37:Fm K "_law_let" n8)
  (a38:Fm K "_law_new" n9)
  (a39:Fm K "_law_ended" k9)
  (a40:Fm K "_law_defined" jV)
  (a41:Fm K "_law_scoped" kA)
  (a42:Fm K "_law_home" mE)
  (a43:Fm K "_law_row" oh)
  (a44:Fm K "_law_flat" mF)
  (a45:Fm K "_law_built" lg)
  (a46:Fm K "_law_told" mG)
  (a47:Fm K "_law_lay_definition" gX)
  (a48:Fm K "_law_lay_name" jC)
  (a49:Fm K "_law_lay_made" jD)
  (a50:Fm K "_law_lay_case" jE)
  (a51:Fm K "_law_lay_used" jF)
  (a52:Fm K "_law_lay" oi)
  (c1:Cm K "Make" C1)
  (n1shape:cB K (.ref C1) "shape"=some none)
  (n1parts:cB K (.ref C1) "parts"=some none)
  (n1at:cB K (.ref C1) "at"=some none)
  (n1place:cB K (.ref C1) "place"=some none)
  (e53:Mm K C1 "__init__" "Make.__init__" jG)
  (e54:Mm K C1 "told" "Make.told" mH)
  (c2:Cm K "Use" C2)
  (n2at:cB K (.ref C2) "at"=some none)
  (n2place:cB K (.ref C2) "place"=some none)
  (n2slot:cB K (.ref C2) "slot"=some none)
  (e55:Mm K C2 "__init__" "Use.__init__" jn)
  (cg55:cJ K (.ref C2) "__getattribute__"=some (some (.builtin "type.__getattribute__")))
  (cr55:PySem.W.readsIn K C2 (.type "type")=true)
  (i55:cB K (.ref C2) "__init__"=some (some (.ref fU)))
  (cf55:PySem.W.findCls K (.ref C2) (.type "type") "__init__"=some (.val (.ref fU)))
  (c3:Cm K "NumUse" C3)
  (n3at:cB K (.ref C3) "at"=some none)
  (n3place:cB K (.ref C3) "place"=some none)
  (n3slot:cB K (.ref C3) "slot"=some none)
  (e56:Mm K C3 "told" "NumUse.told" kB)
  (ii3:cB K (.ref C3) "__init__"=some (some (.ref fU)))
  (c4:Cm K "CallUse" C4)
  (n4arg:cB K (.ref C4) "arg"=some none)
  (n4out:cB K (.ref C4) "out"=some none)
  (n4at:cB K (.ref C4) "at"=some none)
  (n4place:cB K (.ref C4) "place"=some none)
  (n4slot:cB K (.ref C4) "slot"=some none)
  (e57:Mm K C4 "__init__" "CallUse.__init__" iP)
  (e58:Mm K C4 "told" "CallUse.told" jW)
  (c5:Cm K "TakeUse" C5)
  (n5fields:cB K (.ref C5) "fields"=some none)
  (n5at:cB K (.ref C5) "at"=some none)
  (n5place:cB K (.ref C5) "place"=some none)
  (n5slot:cB K (.ref C5) "slot"=some none)
  (e59:Mm K C5 "__init__" "TakeUse.__init__" iQ)
  (e60:Mm K C5 "told" "TakeUse.told" jX)
  (c6:Cm K "CaseUse" C6)
  (n6arms:cB K (.ref C6) "arms"=some none)
  (n6at:cB K (.ref C6) "at"=some none)
  (n6place:cB K (.ref C6) "place"=some none)
  (n6slot:cB K (.ref C6) "slot"=some none)
  (e61:Mm K C6 "__init__" "CaseUse.__init__" iR)
  (e62:Mm K C6 "told" "CaseUse.told" jY)
  (c7:Cm K "RowUse" C7)
  (n7out:cB K (.ref C7) "out"=some none)
  (n7at:cB K (.ref C7) "at"=some none)
  (n7place:cB K (.ref C7) "place"=some none)
  (n7slot:cB K (.ref C7) "slot"=some none)
  (e63:Mm K C7 "__init__" "RowUse.__init__" jk)
  (e64:Mm K C7 "told" "RowUse.told" kC)
  (c8:Cm K "Board" C8)
  (n8points:cB K (.ref C8) "points"=some none)
  (n8makes:cB K (.ref C8) "makes"=some none)
  (n8uses:cB K (.ref C8) "uses"=some none)
  (n8flows:cB K (.ref C8) "flows"=some none)
  (n8root:cB K (.ref C8) "root"=some none)
  (e65:Mm K C8 "__init__" "Board.__init__" ju)
  (e66:Mm K C8 "point" "Board.point" kE)
  (e67:Mm K C8 "make" "Board.make" lA)
  (e68:Mm K C8 "use" "Board.use" mI)
  (e69:Mm K C8 "flow" "Board.flow" lB)
  (e70:Mm K C8 "rooted" "Board.rooted" jZ)
  (c9:Cm K "Laying" C9)
  (n9program:cB K (.ref C9) "program"=some none)
  (n9homes:cB K (.ref C9) "homes"=some none)
  (n9papers:cB K (.ref C9) "papers"=some none)
  (n9board:cB K (.ref C9) "board"=some none)
  (n9held:cB K (.ref C9) "held"=some none)
  (n9starts:cB K (.ref C9) "starts"=some none)
  (e71:Mm K C9 "__init__" "Laying.__init__" jl)
  (e72:Mm K C9 "lay_definition" "Laying.lay_definition" gL)
  (e73:Mm K C9 "lay" "Laying.lay" lC)
  (c10:Cm K "Program" C10)
  (n10names:cB K (.ref C10) "names"=some none)
  (n10roots:cB K (.ref C10) "roots"=some none)
  (n10rows:cB K (.ref C10) "rows"=some none)
  (e74:Mm K C10 "__init__" "Program.__init__" iS)
  (z_all:dj K mainGlobals "all"=some none)
  (z_bool:dj K mainGlobals "bool"=some none)
  (z_dict:dj K mainGlobals "dict"=some none)
  (z_enumerate:dj K mainGlobals "enumerate"=some none)
  (z_int:dj K mainGlobals "int"=some none)
  (z_isinstance:dj K mainGlobals "isinstance"=some none)
  (z_len:dj K mainGlobals "len"=some none)
  (z_list:dj K mainGlobals "list"=some none)
  (z_max:dj K mainGlobals "max"=some none)
  (z_range:dj K mainGlobals "range"=some none)
  (z_str:dj K mainGlobals "str"=some none)
  (z_sum:dj K mainGlobals "sum"=some none)
  (z_tuple:dj K mainGlobals "tuple"=some none)
  (z_zip:dj K mainGlobals "zip"=some none)
  (w0:dj K mainGlobals "lay_num"=some (some (.ref fW0)))
  (w1:dj K mainGlobals "lay_name"=some (some (.ref fW1)))
  (w2:dj K mainGlobals "lay_fn"=some (some (.ref fW2)))
  (w3:dj K mainGlobals "lay_call"=some (some (.ref fW3)))
  (w4:dj K mainGlobals "lay_let"=some (some (.ref fW4)))
  (w5:dj K mainGlobals "lay_rec"=some (some (.ref fW5)))
  (w6:dj K mainGlobals "lay_get"=some (some (.ref fW6)))
  (w7:dj K mainGlobals "lay_tag"=some (some (.ref fW7)))
  (w8:dj K mainGlobals "lay_case"=some (some (.ref fW8)))
  (w9:dj K mainGlobals "lay_row"=some (some (.ref fW9)))
  (w10:dj K mainGlobals "lay_at"=some (some (.ref fW10)))
  (w11:dj K mainGlobals "lay_join"=some (some (.ref fW11)))
  (w12:dj K mainGlobals "lay_size"=some (some (.ref fW12)))
  (w13:dj K mainGlobals "lay_sum"=some (some (.ref fW13)))
  (w14:dj K mainGlobals "lay_less"=some (some (.ref fW14)))
  (gW:dj K mainGlobals "LAYERS"=some (some (.ref pW)))
  (sW:(pW==sysModules)=false)
  (hW:K.lookup pW=some ⟨.type "dict",none,.dict #[⟨PyData.keyHash w.params "num",.str "num" tW0,.ref fW0⟩,⟨PyData.keyHash w.params "name",.str "name" tW1,.ref fW1⟩,⟨PyData.keyHash w.params "fn",.str "fn" tW2,.ref fW2⟩,⟨PyData.keyHash w.params "call",.str "call" tW3,.ref fW3⟩,⟨PyData.keyHash w.params "let",.str "let" tW4,.ref fW4⟩,⟨PyData.keyHash w.params "rec",.str "rec" tW5,.ref fW5⟩,⟨PyData.keyHash w.params "get",.str "get" tW6,.ref fW6⟩,⟨PyData.keyHash w.params "tag",.str "tag" tW7,.ref fW7⟩,⟨PyData.keyHash w.params "case",.str "case" tW8,.ref fW8⟩,⟨PyData.keyHash w.params "row",.str "row" tW9,.ref fW9⟩,⟨PyData.keyHash w.params "at",.str "at" tW10,.ref fW10⟩,⟨PyData.keyHash w.params "join",.str "join" tW11,.ref fW11⟩,⟨PyData.keyHash w.params "size",.str "size" tW12,.ref fW12⟩,⟨PyData.keyHash w.params "add",.str "add" tW13,.ref fW13⟩,⟨PyData.keyHash w.params "sub",.str "sub" tW14,.ref fW13⟩,⟨PyData.keyHash w.params "less",.str "less" tW15,.ref fW14⟩] nW,#[]⟩)
  (aL:dj K mainGlobals "law"=some (some (.ref fL))) (lL:K.lookup fL=some ⟨ocL,odL,.func (dg "law" "law" (iL sj) (gT sj) (eQ sj) .none kVL dcL pmL anL cdL ctL),slL⟩) (cL:dh K cdL "law"=true) (kL:cK K (.ref fL)=true):
  ∃fd:FuncData,(∀(s:Shared) (v:Value),BindsTo s fd ⟨[v],[]⟩ [("_law_script",v)])/\∀base:Heap,K.In base->base.Ns mainGlobals mg->qA l.prog w K mg base CX0 300 fa fd ["_law_script"] (vE K):=by
 have e:=hfa.symm.trans (dq X G aL)
 cases e
 have x55:Mx K C2 "__init__" "Use.__init__" jn ["self","at","place","slot"]:=e55.x
 have T:Txt K mg:=⟨a1.x X G,a2.x X G,a3.x X G,a4.x X G,a5.x X G,a6.x X G,Classical.choice (by obtain⟨a,l,c,k,t⟩:=a7;exact⟨⟨_,_,yD l c k t,(yD l c k t).binds (ps:=["program","homes","which","papers"]) (fun _ _ _ _ _ _ _ us hl=>match us,hl with|[_,_,_],_=>⟨_,rfl,rfl⟩),dq X G a,k⟩⟩),a8.x X G,a9.x X G,a10.x X G,a11.x X G,a12.x X G,a13.x X G,a14.x X G,a15.x X G,a16.x X G,a17.x X G,a18.x X G,a19.x X G,a20.x X G,a21.x X G,a22.x X G,a23.x X G,a24.x X G,a25.x X G,a26.x X G,a27.x X G,a28.x X G,a29.x X G,a30.x X G,a31.x X G,a32.x X G,a33.x X G,a34.x X G,a35.x X G,a36.x X G,a37.x X G,a38.x X G,a39.x X G,a40.x X G,a41.x X G,a42.x X G,a43.x X G,a44.x X G,a45.x X G,a46.x X G,a47.x X G,a48.x X G,a49.x X G,a50.x X G,a51.x X G,a52.x X G,c1.x X G,n1shape,n1parts,n1at,n1place,e53.x,c1.k e53.x,e54.x,c2.x X G,n2at,n2place,n2slot,x55,⟨cg55,⟨_,cr55,sf i55 x55.me.at_▸cf55⟩,x55.me.kp⟩,c2.k x55,c3.x X G,n3at,n3place,n3slot,e56.x,⟨c3.ms,sf i55 x55.me.at_▸ii3,x55.me.fn,c3.kc⟩,c4.x X G,n4arg,n4out,n4at,n4place,n4slot,e57.x,c4.k e57.x,e58.x,c5.x X G,n5fields,n5at,n5place,n5slot,e59.x,c5.k e59.x,e60.x,c6.x X G,n6arms,n6at,n6place,n6slot,e61.x,c6.k e61.x,e62.x,c7.x X G,n7out,n7at,n7place,n7slot,e63.x,c7.k e63.x,e64.x,c8.x X G,n8points,n8makes,n8uses,n8flows,n8root,e65.x,c8.k e65.x,e66.x,e67.x,e68.x,e69.x,e70.x,c9.x X G,n9program,n9homes,n9papers,n9board,n9held,n9starts,e71.x,c9.k e71.x,e72.x,e73.x,c10.x X G,n10names,n10roots,n10rows,e74.x,c10.k e74.x,du X G z_all,du X G z_bool,du X G z_dict,du X G z_enumerate,du X G z_int,du X G z_isinstance,du X G z_len,du X G z_list,du X G z_max,du X G z_range,du X G z_str,du X G z_sum,du X G z_tuple,du X G z_zip⟩
 have z:=(dq X G w0).symm.trans T.d8.m
 cases z
 have z:=(dq X G w1).symm.trans T.d9.m
 cases z
 have z:=(dq X G w2).symm.trans T.d12.m
 cases z
 have z:=(dq X G w3).symm.trans T.d13.m
 cases z
 have z:=(dq X G w4).symm.trans T.d14.m
 cases z
 have z:=(dq X G w5).symm.trans T.d15.m
 cases z
 have z:=(dq X G w6).symm.trans T.d16.m
 cases z
 have z:=(dq X G w7).symm.trans T.d17.m
 cases z
 have z:=(dq X G w8).symm.trans T.d18.m
 cases z
 have z:=(dq X G w9).symm.trans T.d19.m
 cases z
 have z:=(dq X G w10).symm.trans T.d20.m
 cases z
 have z:=(dq X G w11).symm.trans T.d21.m
 cases z
 have z:=(dq X G w12).symm.trans T.d22.m
 cases z
 have z:=(dq X G w13).symm.trans T.d23.m
 cases z
 have z:=(dq X G w14).symm.trans T.d24.m
 cases z
 exact⟨dg "law" "law" (iL sj) (gT sj) (eQ sj) .none kVL dcL pmL anL cdL ctL,fun s v=> .of_eq rfl,fun base _ _=>CZ T (Gw T (dq X G gW) sW hW) (tH (st:=sj) lL cL kL)⟩
theorem walk {l:PySem.W.OpenLaw} {q:Program} {loose:List Str} {XP:(Str->Option Value)->Heap->Prop} {YP:World->Heap->Prop} {d:DefRec} {K:Params->PySem.W.Frag} (hn:l.most=some 63) (hdf:d.params.defaults=[])
  (hY:∀(w:World) (h:Heap),YP w h->(K w.params).In h)
  (F:∀(w:World) (mg:Str->Option Value) (fa:Addr) (h:Heap),(K w.params).In h->h.Ns mainGlobals mg->mg d.name=some (.ref fa)->
   ∃fd:FuncData,(∀(s:Shared) (u:Value),BindsTo s fd ⟨[u],[]⟩ [("_law_script",u)])/\∀base:Heap,(K w.params).In base->base.Ns mainGlobals mg->qA l.prog w (K w.params) mg base CX0 300 fa fd ["_law_script"] (vE (K w.params))):
  PySem.W.WalkO q loose XP YP l.row.toRowW d [] (fun f vs=>PySem.call f vs):=
 L2.Internal.walk_of (n:=63) (k:=300) (x:="_law_script") (CX:=fun _=>CX0) (sp:=fun w=>vE (K w.params)) hn (by decide) hdf ⟨rfl,by decide,by decide⟩ hY F (fun _ _ a ns hl _ hS=>⟨a,ns,rfl,hS,hl,fun _=>rfl⟩) fun _ _ _ _ _ z=>z
end K27.Internal
open PySem PySem.W PyProof.Rows
set_option maxRecDepth 100000 in
set_option maxHeartbeats 0 in
theorem PySem.Challenge.cw_flowkinds_k27_every_laying_holds : PySem.Challenge.rw_flowkinds_k27_every_laying.Holds := by
 w_on; o_law; k_head; (case hw => w_witness2)
 k_fill
 refine K27.Internal.walk (l := PySem.Challenge.rw_flowkinds_k27_every_laying) rfl rfl (fun w h Y => PySem.W.kIn_of Y) ?F
 case F =>
  intro w mg fa h KX G hmg
  apply K27.Internal.all_mk KX G hmg
  all_goals first | (apply K27.Internal.Dm.mk <;> k_is) | (apply K27.Internal.Fm.mk <;> k_is) | (apply K27.Internal.Mm.mk <;> k_is) | (apply K27.Internal.Cm.mk <;> k_is) | k_is | rfl
