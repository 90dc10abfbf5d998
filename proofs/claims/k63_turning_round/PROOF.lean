import PyProof.Rows.All
import Wide.All
import OpenK.AllK
import Wide.FinOn
import Lean
import PyProof.EqAt
import PyProof.EqKinds
import PyProof.TupleCall
import PyProof.NeKinds
import PySem.Challenge.RW_flowkinds_k63_turning_round
set_option Elab.async false
set_option linter.all false
set_option maxRecDepth 100000
set_option maxHeartbeats 4000000
set_option genInjectivity false
set_option genSizeOf false
set_option bootstrap.genMatcherCode false
set_option compiler.extract_closed false
open List renaming all_cons→aW,all_eq_true→bF,all_map→bo,any_cons→aP,any_eq_true→a7,append_assoc→bG,append_nil→aD,cons_append→aQ,dropLast_concat_getLast→bD,drop_eq_getElem_cons→bH,drop_eq_nil_iff→bB,drop_length→bP,eq_nil_of_length_eq_zero→bJ,filterMap_cons→ag,filter_append→bE,find?_cons→aO,getD_eq_getElem?_getD→bb,getElem?_append_left→aJ,getElem?_append_right→aI,getElem?_cons_succ→bw,getElem?_eq_getElem→bq,getElem?_eq_none→bz,getElem?_eq_some_iff→aq,getElem?_map→aK,getElem?_reverse→bx,getElem?_set_ne→aw,getElem?_set_self→av,head?_drop→bO,headD_eq_head?_getD→bN,length_append→aN,length_cons→az,length_drop→aU,length_eq_zero_iff→bC,length_filter_le→bf,length_map→aC,length_nil→aR,length_reverse→bA,length_set→aV,length_singleton→aY,length_take→aH,length_zip→bL,lookup→aA,lookup_cons→ba,map_append→a9,map_congr_left→bM,map_cons→aB,map_map→br,map_nil→aS,mem_append→ak,mem_append_left→ao,mem_append_right→ay,mem_cons→aj,mem_cons_of_mem→ai,mem_cons_self→ah,mem_filterMap→ax,mem_iff_getElem?→bT,mem_map→aZ,mem_of_find?_eq_some→bQ,mem_of_getElem?→aM,mem_range→af,mem_singleton→a8,nil_append→bK,nodup_cons→aE,nodup_nil→bS,not_mem_nil→bt,of_mem_zip→aF,range→aa,range_succ_eq_map→bj,replicate→aG,reverse_cons→aX,set_set→bc,singleton_append→bI,size_toArray→aT,take_add_one→bR,take_length→bh,zip→bp
open Nat renaming add_mul→cx,le_of_lt→bY,le_refl→b6,le_succ→cb,le_trans→bX,lt_irrefl→bV,lt_of_le_of_lt→cc,lt_of_lt_of_le→bU,lt_succ_self→b8,mul_le_mul→cy,ne_of_gt→bZ,ne_of_lt→bW,not_lt→cw,not_lt_zero→cq,sub_self→cn,toDigits→cf,toDigits_append_toDigits→cj,toDigits_of_lt_base→cg,zero_add→ck,zero_le→b7
open Option renaming isSome_iff_exists→cA,isSome_map→cC,map_eq_some_iff→cD,map_some→cB,some→cz
open PySem.W renaming callWith_K→dh,cellsFrom_some→dj,codeIn→dr,codeRec_of→du,emptyDict→cX,excIn→dv,findIn→cO,fnOf→dm,hasDictIn→cN,hideAll→cG,hideAll_get→cH,instObj→cE,isFn→cQ,keepIn→cZ,kia_one→da,kitOne→c9,kitx_dict→df,kitx_list→dc,lookIn→cK,makesIn→cW,methodCall_KW→di,methodObj→cF,mg_none_of→dz,mg_of→dy,mroIn→c8,nsIn→dw,of_hideAll→cJ,plainGet→cM,plainGet_of→cP,plainOver→cR,specialIn→cY,takerIn→cU,takesIn→c7
open PySem.F renaming args_tuple_add_2→dD,entry_tuple_add→dC,excBase_ValueError→dE,plainAttrs_list→dG,slot_dict_getitem→dA,slot_dict_update→dF,slot_list_append→dH,slot_list_pop→dJ,slot_tuple_add→dB,type_list_append→dI,type_list_pop→dM
open Bool renaming and_eq_true→dP,and_false→dQ,eq_iff_iff→dO,false_ne_true→dN,false_xor→dR,true_and→dU,true_xor→dS
open Array renaming getElem?_eq_getElem→dY,getElem?_toList→dX,length_toList→dW,toList_append→dZ
open Int renaming add_mul→eA,emod_lt_of_pos→eE,emod_nonneg→eC,eq_ofNat_of_zero_le→d7,mul_one→d5,mul_zero→eF,natCast_mul→eG,natCast_succ→eg,ofNat_zero→d8,one_mul→eB,sub_zero→ee,toNat_natCast→d6,zero_mul→d9
open PySem.Heap renaming get?_push_of_some→eK,get?_push_size→eJ,get?_update_other→eN,get?_update_self→eM,lt_size→eI,size_push→eL
open PyProof.Rows renaming callWith_type1→eO,slot_tuple_getitem→eP
noncomputable section
namespace L2.Internal
theorem auR (h:True=True:=by rfl):True:=trivial
theorem auD (h:True:=by decide):True:=trivial
theorem auI (h:True->True=True:=by intro _;rfl):True:=trivial
theorem auL (h:True=True\/True:=by first|exact .inl rfl|exact .inr rfl|assumption):True:=trivial
open PySem PySem.Spec PyProof.Rows
abbrev Key:=Sum Int Str
def wb:Key->Value->Bool
 | .inl k,v=>Value.isInt k v
 | .inr x,v=>Value.isStrOf x v
def keyH (w:World):Key->Int
 | .inl k=>hashInt k
 | .inr x=>hashStr w x
theorem iC:∀{k:Key} {v:Value},wb k v=true->(∃i t,k=Sum.inl i/\v=Value.int i t)\/(∃x t,k=Sum.inr x/\v=Value.str x t)
 | .inl i,v,h=>by
  obtain⟨t,e⟩:=Value.isInt_shape (k:=i) (v:=v) h
  exact .inl ⟨i,t,rfl,e⟩
 | .inr x,v,h=>by
  obtain⟨t,e⟩:=Value.isStrOf_shape (x:=x) (v:=v) h
  exact .inr ⟨x,t,rfl,e⟩
theorem xg (i:Int) (t:Tok):wb (.inl i) (.int i t)=true:=by simp[wb,Value.isInt]
theorem oU (x:Str) (t:Tok):wb (.inr x) (.str x t)=true:=by simp[wb,Value.isStrOf]
theorem Ce (a b:Int):decide ((Sum.inl a:Key)=Sum.inl b)=(a==b):=by
 by_cases e:a=b
 ·subst e;simp
 ·have h:¬(Sum.inl a:Key)=Sum.inl b:=fun q=>e (Sum.inl.inj q)
  rw[decide_eq_false h]
  exact(beq_eq_false_iff_ne.mpr e).symm
theorem Cf (a b:Str):decide ((Sum.inr a:Key)=Sum.inr b)=decide (a=b):=by
 by_cases e:a=b
 ·subst e;simp
 ·have h:¬(Sum.inr a:Key)=Sum.inr b:=fun q=>e (Sum.inr.inj q)
  rw[decide_eq_false h,decide_eq_false e]
theorem Cg (a:Int) (b:Str):decide ((Sum.inl a:Key)=Sum.inr b)=false:=decide_eq_false (fun q=>nomatch q)
theorem Ci (a:Str) (b:Int):decide ((Sum.inr a:Key)=Sum.inl b)=false:=decide_eq_false (fun q=>nomatch q)
def iP (prog:Program) (w:World):PySem.KeyKind prog w Key where
 is:=wb
 hash:=keyH w
 inj:=fun v a b ha hb=>by
  rcases iC ha with⟨i,t,rfl,rfl⟩|⟨x,t,rfl,rfl⟩
  ·rcases iC hb with⟨j,u,rfl,e⟩|⟨y,u,rfl,e⟩
   ·injection e with e1 _;rw[e1]
   ·exact nomatch e
  ·rcases iC hb with⟨j,u,rfl,e⟩|⟨y,u,rfl,e⟩
   ·exact nomatch e
   ·injection e with e1 _;rw[e1]
 byValue:=fun k v h=>by
  rcases iC h with⟨i,t,rfl,rfl⟩|⟨x,t,rfl,rfl⟩<;>rfl
 pyHash:=fun hv h=>by
  rcases iC hv with⟨i,t,rfl,rfl⟩|⟨x,t,rfl,rfl⟩
  ·exact wpAny_pyHash_int h
  ·exact wpAny_pyHash_str h
 eqBool:=fun hu hv h=>by
  rcases iC hu with⟨i,t,rfl,rfl⟩|⟨x,t,rfl,rfl⟩
  ·rcases iC hv with⟨j,u,rfl,rfl⟩|⟨y,u,rfl,rfl⟩
   ·rw[Ce]at h;exact wpAny_eqBool_int h
   ·rw[Cg]at h;exact SeqAt.EqAt.int_str i t y u _ _ _ _ h
  ·rcases iC hv with⟨j,u,rfl,rfl⟩|⟨y,u,rfl,rfl⟩
   ·rw[Ci]at h;exact SeqAt.EqAt.str_int x t j u _ _ _ _ h
   ·rw[Cf]at h;exact wpAny_eqBool_str h
 «strs»:=fun k x t v h=>by
  rcases iC h with⟨i,u,rfl,e⟩|⟨y,u,rfl,e⟩
  ·exact nomatch e
  ·injection e with e1 _
   subst e1
   cases v<;>rfl
theorem ug (prog:Program) (w:World) (i:Int) (t:Tok):(iP prog w).is (.inl i) (.int i t)=true:=xg i t
theorem uh (prog:Program) (w:World) (x:Str) (t:Tok):(iP prog w).is (.inr x) (.str x t)=true:=oU x t
end L2.Internal
namespace L2.Internal
open PySem PySem.Spec PyProof.Rows
set_option genInjectivity true in
inductive V where
 |non|bl (b:Bool)|int (i:Int)|str (x:Str)|byt (b:Array UInt8)|flt (b:UInt64)|ref (a:Addr)|ty (n:String)
 deriving DecidableEq
def iw:V->Value->Prop
 | .non,u=>u=Value.none
 | .bl b,u=>u=Value.bool b
 | .int i,u=>∃t,u=Value.int i t
 | .str x,u=>∃t,u=Value.str x t
 | .byt b,u=>∃t,u=Value.bytes b t
 | .flt b,u=>∃t,u=Value.float b t
 | .ref a,u=>u=Value.ref a
 | .ty n,u=>u=Value.type n
abbrev iA:List V->List Value->Prop:=Paired iw
theorem iA.length {xs:List V} {us:List Value} (r:iA xs us):xs.length=us.length:=Paired.length r
theorem iA.get:∀{xs:List V} {us:List Value} {i:Nat} {x:V},iA xs us->xs[i]?=some x->∃u,us[i]?=some u/\iw x u
 |_,_,_,_,.nil,e=>by simp at e
 |_,_,0,_,.cons r _,e=>by simp at e;subst e;exact⟨_,rfl,r⟩
 |_,_,i+ 1,x,.cons _ t,e=>by
  obtain⟨u,h1,h2⟩:=iA.get (i:=i) (x:=x) t (by simpa using e)
  exact⟨u,by simpa using h1,h2⟩
theorem iA.set {x:V} {u:Value} (r:iw x u):∀{xs:List V} {us:List Value} (i:Nat),iA xs us->iA (xs.set i x) (us.set i u)
 |_,_,_,.nil=> .nil
 |_,_,0,.cons _ t=> .cons r t
 |_,_,i+ 1,.cons q t=> .cons q (iA.set r i t)
theorem iA.append:∀{xs ys:List V} {us ws:List Value},iA xs us->iA ys ws->iA (xs++ys) (us++ws)
 |_,_,_,_,.nil,s=>s
 |_,_,_,_,.cons r t,s=> .cons r (iA.append t s)
theorem iA.take:∀{xs:List V} {us:List Value} (n:Nat),iA xs us->iA (xs.take n) (us.take n)
 |_,_,0,_=> .nil
 |_,_,_+ 1,.nil=> .nil
 |_,_,n+ 1,.cons r t=> .cons r (iA.take n t)
theorem iA.drop:∀{xs:List V} {us:List Value} (n:Nat),iA xs us->iA (xs.drop n) (us.drop n)
 |_,_,0,r=>r
 |_,_,_+ 1,.nil=> .nil
 |_,_,n+ 1,.cons _ t=>iA.drop n t
def sr:Option V->Option Value->Prop
 |some v,some u=>iw v u
 |none,none=>True
 |_,_=>False
def KV {κ:Type}:List (κ×V)->List (κ×Value)->Prop:=Paired fun(p:κ×V) (q:κ×Value)=>p.1=q.1/\iw p.2 q.2
def kV:Key->V
 | .inl i=> .int i
 | .inr x=> .str x
inductive HO where
 |lst (xs:List V)
 |tup (xs:List V)
 |dK (kvs:List (Key×V))|dT (kvs:List (List Key×V))
 |set (S:Int->Bool) (n:Nat)
 |ins (C dx:Addr) (fs:List (Str×V))
 |own (x:Addr)
 |xd (fs:List (Str×V))
 |met (f x:Addr)
 |rng (lo hi:Int)
 |frz (o:Obj) (u:HO)
 |tbl (ps:Array Value)
 |ext (φ:Heap->Prop)
abbrev Hp:=Addr->Option HO
def vo (h:Heap) (a:Addr) (items:Array Value):Prop:=∃o,h.get? a=some o/\o.cls= .type "tuple"/\∃n,o.data= .seq items n/\o.dict=none
theorem vo.tup {h:Heap} {a:Addr} {items:Array Value}:vo h a items->IsTup h a items
 |⟨o,h1,h2,n,h3,_⟩=>⟨o,h1,h2,n,h3⟩
theorem vo.lt {h:Heap} {a:Addr} {items:Array Value} (p:vo h a items):a<h.objs.size:=by
 obtain⟨o,e,_⟩:=p
 exact eI e
theorem vo.new (h:Heap) (items:Array Value):vo (h.push {cls:= .type "tuple",data:= .seq items}) h.objs.size items:=⟨_,eJ _ rfl,rfl,_,rfl,rfl⟩
def upd (H:Hp) (a:Addr) (o:HO):Hp:=fun b=>if b=a then some o else H b
theorem eV {H:Hp} {a:Addr} {o:HO}:upd H a o a=some o:=by unfold upd;rw[if_pos rfl]
theorem fe {H:Hp} {a b:Addr} {o:HO} (h:b≠a):upd H a o b=H b:=by unfold upd;rw[if_neg h]
theorem ui {H:Hp} {a:Addr} {o u:HO}:upd (upd H a o) a u=upd H a u:=by
 funext b;unfold upd;split<;>rfl
theorem kc {H:Hp} {a b:Addr} {o u:HO} (h:H a=some o) (h':H b=some u) (d:o≠u):a≠b:=by
 intro e;subst e;rw[h]at h';exact d (cz.inj h')
theorem fb {H:Hp} {a b:Addr} {o:HO} (h:H a=some o) (h':H b=none):a≠b:=by
 intro e;subst e;rw[h]at h';cases h'
section
variable (P:Program) (w:World)
def jw (H:Hp) (h:Heap) (a:Addr):HO->Prop
 | .lst xs=>xs.length<=sizeLine/\∃(its:List Value) (n:Nat),iA xs its/\h.get? a=some {cls:= .type "list",data:= .seq its.toArray n}
 | .tup xs=>xs.length<=sizeLine/\∃its:List Value,iA xs its/\vo h a its.toArray
 | .dK kvs=>kvs.length<=sizeLine/\(a==sysModules)=false/\∃vs,KV kvs vs/\h.DictOf (iP P w) a vs
 | .dT kvs=>kvs.length<=sizeLine/\(a==sysModules)=false/\∃xs:List (List Key×Addr×Value),
   Paired (fun(p:List Key×V) (q:List Key×Addr×Value)=>p.1=q.1/\H q.2.1=some (.tup (p.1.map kV))/\iw p.2 q.2.2) kvs xs/\
   ∃o es ep,h.get? a=some o/\o.ExactDict/\o.data= .dict es ep/\es.toList=xs.map (entryOfKey (tupleKind (iP P w)))/\(xs.map (·.1)).Nodup
 | .set S n=>h.SetOf (intKind P w) a S n
 | .ins C dx fs=>H dx=some (.own a)/\fs.length<=1000/\dx≠a/\h.get? a=some (cE C dx)/\
   ∃mA,h.Ns1 dx mA/\(∀f,sr (fs.lookup f) (mA f))/\PySem.Within mA (fs.map (·.1))
 | .own _=>∃o,h.get? a=some o
 | .xd fs=>∃mA,h.Ns1 a mA/\∀f,sr (fs.lookup f) (mA f)
 | .rng lo hi=>∃t u v,h.get? a=some {cls:= .type "range",data:= .fields #[.int lo t,.int hi u,.int 1 v]}
 | .frz o u=>h.get? a=some o/\jw H h a u
 | .tbl ps=>h.get? a=some {cls:= .none,data:= .fields ps}
 | .met f x=>h.get? a=some (cF (.ref f) (.ref x))
 | .ext φ=>φ h/\(∃o,h.get? a=some o)/\∀h1 h2:Heap,φ h1->(∀o,h1.get? a=some o->h2.get? a=some o)->φ h2
def HOk (H:Hp) (h:Heap):Prop:=∀a o,H a=some o->jw P w H h a o
end
section
variable {P:Program} {w:World} {H H':Hp} {h h':Heap} {a:Addr} {o:HO}
theorem jw.lt (x:jw P w H h a o):a<h.objs.size:=by
 cases o with
 |lst xs=>obtain⟨_,_,_,_,e⟩:=x;exact eI e
 |tup xs=>obtain⟨_,_,_,p⟩:=x;exact p.lt
 |dK kvs=>obtain⟨_,_,_,_,o,_,_,e,_⟩:=x;exact eI e
 |dT kvs=>obtain⟨_,_,_,_,o,_,_,e,_⟩:=x;exact eI e
 |set S n=>obtain⟨o,_,_,_,e,_⟩:=x;exact eI e
 |ins C dx fs=>obtain⟨_,_,_,e,_⟩:=x;exact eI e
 |own y=>obtain⟨_,e⟩:=x;exact eI e
 |xd fs=>obtain⟨_,⟨_,_,_,e,_⟩,_⟩:=x;exact eI e
 |rng lo hi=>obtain⟨_,_,_,e⟩:=x;exact eI e
 |frz ob u=>obtain⟨e,_⟩:=x;exact eI e
 |tbl ps=>exact eI (show h.get? a=some _ from x)
 |met f y=>exact eI (show h.get? a=some _ from x)
 |ext φ=>obtain⟨_,⟨_,e⟩,_⟩:=x;exact eI e
theorem Paired.mapP {α β:Type} {F G:α->β->Prop}:∀{l₁:List α} {l₂:List β},Paired F l₁ l₂->(∀a b,F a b->G a b)->Paired G l₁ l₂
 |_,_,.nil,_=> .nil
 |_,_,.cons r t,f=> .cons (f _ _ r) (Paired.mapP t f)
theorem jw.stay (x:jw P w H h a o) (k:∀b u,(b=a\/H b=some (.own a))->h.get? b=some u->h'.get? b=some u)
  (ho:∀b,H b=some (.own a)->H' b=some (.own a)) (ht:∀b xs,H b=some (.tup xs)->H' b=some (.tup xs)):jw P w H' h' a o:=by
 induction o with
 |lst xs=>obtain⟨z,its,n,r,e⟩:=x;exact⟨z,its,n,r,k _ _ (.inl rfl) e⟩
 |tup xs=>obtain⟨z,its,r,ob,e,c⟩:=x;exact⟨z,its,r,ob,k _ _ (.inl rfl) e,c⟩
 |dK kvs=>obtain⟨z,y,vs,r,ob,es,ep,e,c⟩:=x;exact⟨z,y,vs,r,ob,es,ep,k _ _ (.inl rfl) e,c⟩
 |dT kvs=>
  obtain⟨z,y,xs,r,ob,es,ep,e,c⟩:=x
  exact⟨z,y,xs,Paired.mapP r fun p q z=>⟨z.1,ht _ _ z.2.1,z.2.2⟩,ob,es,ep,k _ _ (.inl rfl) e,c⟩
 |set S n=>obtain⟨ob,es,ep,t,e,c⟩:=x;exact⟨ob,es,ep,t,k _ _ (.inl rfl) e,c⟩
 |ins C dx fs=>
  obtain⟨d,z,ne,e,mA,⟨od,es,ep,e2,c⟩,r⟩:=x
  exact⟨ho _ d,z,ne,k _ _ (.inl rfl) e,mA,⟨od,es,ep,k _ _ (.inr d) e2,c⟩,r⟩
 |own y=>obtain⟨ob,e⟩:=x;exact⟨ob,k _ _ (.inl rfl) e⟩
 |xd fs=>obtain⟨mA,⟨od,es,ep,e,c⟩,r⟩:=x;exact⟨mA,⟨od,es,ep,k _ _ (.inl rfl) e,c⟩,r⟩
 |rng lo hi=>obtain⟨t,u,v,e⟩:=x;exact⟨t,u,v,k _ _ (.inl rfl) e⟩
 |frz ob u ih=>obtain⟨e,q⟩:=x;exact⟨k _ _ (.inl rfl) e,ih q⟩
 |tbl ps=>
  have e:h.get? a=some {cls:= .none,data:= .fields ps}:=x
  show h'.get? a=some {cls:= .none,data:= .fields ps}
  exact k a _ (.inl rfl) e
 |met f y=>
  have e:h.get? a=some (cF (.ref f) (.ref y)):=x
  show h'.get? a=some (cF (.ref f) (.ref y))
  exact k a _ (.inl rfl) e
 |ext φ=>obtain⟨p,⟨o,e⟩,st⟩:=x;exact⟨st _ _ p fun o q=>k _ _ (.inl rfl) q,⟨o,k _ _ (.inl rfl) e⟩,st⟩
theorem HOk.lt (x:HOk P w H h) (e:H a=some o):a<h.objs.size:=(x a o e).lt
theorem HOk.fresh (x:HOk P w H h) (e:h.objs.size<=a):H a=none:=by
 cases q:H a with
 |none=>rfl
 |some u=>exact absurd (bU (x.lt q) e) (bV _)
theorem HOk.kept (x:HOk P w H h) (k:∀b u,h.get? b=some u->h'.get? b=some u):HOk P w H h':=fun a o e=>
 (x a o e).stay (fun b u _ q=>k b u q) (fun _ q=>q) fun _ _ q=>q
theorem HOk.laid (x:HOk P w H h) (k:∀b u,h.get? b=some u->h'.get? b=some u) (hp:h.objs.size<=a) (new:jw P w (upd H a o) h' a o):HOk P w (upd H a o) h':=fun b u e=>by
 have hn:=x.fresh hp
 by_cases hb:b=a
 ·subst hb;rw[eV]at e;cases e;exact new
 ·rw[fe hb]at e
  exact(x b u e).stay (fun c v _ q=>k c v q) (fun c q=>by rw[fe (fb q hn)];exact q) fun c xs q=>by rw[fe (fb q hn)];exact q
end
def Rd (H:Hp) (a:Addr) (u:HO):Prop:=H a=some u\/∃o,H a=some (.frz o u)
theorem Rd.ok {P:Program} {w:World} {H:Hp} {h:Heap} {a:Addr} {u:HO} (r:Rd H a u) (x:HOk P w H h):jw P w H h a u:=by
 rcases r with r|⟨o,r⟩
 ·exact x a u r
 ·obtain⟨_,q⟩:=x a _ r
  exact q
def Mut:Option HO->Prop
 |some (.lst _)=>True
 |some (.dK _)=>True
 |some (.dT _)=>True
 |some (.set _ _)=>True
 |some (.ins _ _ _)=>True
 |some (.ext _)=>True
 |_=>False
section
variable {P:Program} {w:World} {H:Hp} {h h':Heap} {x e:Addr} {o':HO}
theorem HOk.write (ok:HOk P w H h) (mu:Mut (H x)) (he:e=x\/H e=some (.own x)) (k:∀b u,b≠e->h.get? b=some u->h'.get? b=some u) (heo:∃u,h'.get? e=some u)
  (new:jw P w (upd H x o') h' x o'):HOk P w (upd H x o') h':=fun b u q=>by
 have nown:∀c y,H c=some (.own y)->c≠x:=fun c y r z=>by subst z;rw[r]at mu;exact mu
 have ntup:∀c xs,H c=some (.tup xs)->c≠x:=fun c xs r z=>by subst z;rw[r]at mu;exact mu
 by_cases hb:b=x
 ·subst hb;rw[eV]at q;cases q;exact new
 ·rw[fe hb]at q
  by_cases hbe:b=e
  ·have q':H b=some (.own x):=by
    rcases he with z|z
    ·exact absurd (hbe.trans z) hb
    ·rw[hbe];exact z
   rw[q]at q';cases q'
   obtain⟨v,hv⟩:=heo
   exact⟨v,by rw[hbe];exact hv⟩
  ·refine(ok b u q).stay (fun c v hc r=>k c v ?_ r) (fun c r=>by rw[fe (nown c b r)];exact r) fun c xs r=>by rw[fe (ntup c xs r)];exact r
   rcases hc with rfl|hc
   ·exact hbe
   ·rintro rfl
    rcases he with z|z
    ·exact nown c b hc z
    ·rw[hc]at z;cases z;exact hb rfl
end
structure Un (fs ex:List Addr) (H H':Hp) (h h':Heap):Prop where
 keep:∀b o,h.get? b=some o->H b=none->b∉fs->b∉ex->h'.get? b=some o
 slot:∀b o,h.get? b=some o->H b=none->b∈fs->b∉ex->∃sl,h'.get? b=some {o with slots:=sl}
 free:∀b o,h.get? b=some o->H b=none->b∉ex->H' b=none
 there:∀b o,h.get? b=some o->b∉ex->∃o',h'.get? b=some o'
 tups:∀b xs,H b=some (.tup xs)->H' b=some (.tup xs)
 frzs:∀b o u,H b=some (.frz o u)->H' b=some (.frz o u)
 tbls:∀b ps,H b=some (.tbl ps)->∃more,H' b=some (.tbl (ps++more))
section
variable {fs fs' ex ex':List Addr} {H H1 H2:Hp} {h h1 h2 h':Heap} {a x e:Addr} {o:HO}
theorem Un.any (u:Un fs ex H H1 h h1) {b:Addr} {ob:Obj} (q:h.get? b=some ob) (n:H b=none) (hx:b∉ex):∃sl,h1.get? b=some {ob with slots:=sl}:=by
 by_cases hb:b∈fs
 ·exact u.slot b ob q n hb hx
 ·exact⟨ob.slots,u.keep b ob q n hb hx⟩
theorem Un.trans (a:Un fs ex H H1 h h1) (b:Un fs ex H1 H2 h1 h2):Un fs ex H H2 h h2 where
 keep:=fun c ob q n hc hx=>b.keep c ob (a.keep c ob q n hc hx) (a.free c ob q n hx) hc hx
 slot:=fun c ob q n hc hx=>by
  obtain⟨sl,e1⟩:=a.slot c ob q n hc hx
  obtain⟨sl',e2⟩:=b.slot c _ e1 (a.free c ob q n hx) hc hx
  exact⟨sl',e2⟩
 free:=fun c ob q n hx=>by
  obtain⟨o',e1⟩:=a.there c ob q hx
  exact b.free c o' e1 (a.free c ob q n hx) hx
 there:=fun c ob q hx=>by
  obtain⟨o',e1⟩:=a.there c ob q hx
  exact b.there c o' e1 hx
 tups:=fun c xs q=>b.tups c xs (a.tups c xs q)
 frzs:=fun c ob xs q=>b.frzs c ob xs (a.frzs c ob xs q)
 tbls:=fun c ps q=>by
  obtain⟨m1,e1⟩:=a.tbls c ps q
  obtain⟨m2,e2⟩:=b.tbls c _ e1
  exact⟨m1++m2,by rw[e2,Array.append_assoc]⟩
theorem Un.kept (k:∀b u,h.get? b=some u->h'.get? b=some u):Un fs ex H H h h':=
 ⟨fun b ob q _ _ _=>k b ob q,fun b ob q _ _ _=>⟨ob.slots,k b ob q⟩,fun _ _ _ n _=>n,fun b ob q _=>⟨ob,k b ob q⟩,fun _ _ q=>q,fun _ _ _ q=>q,fun _ ps q=>⟨#[],by rw[q];simp⟩⟩
theorem Un.refl:Un fs ex H H h h:=Un.kept fun _ _ q=>q
theorem Un.laid (k:∀b u,h.get? b=some u->h'.get? b=some u) (hp:h.objs.size<=a) (hn:H a=none):Un fs ex H (upd H a o) h h' where
 keep:=fun b u q _ _ _=>k b u q
 slot:=fun b u q _ _ _=>⟨u.slots,k b u q⟩
 free:=fun b u q n _=>by rw[fe (bW (bU (eI q) hp))];exact n
 there:=fun b u q _=>⟨u,k b u q⟩
 tups:=fun b xs q=>by rw[fe (fb q hn)];exact q
 frzs:=fun b u xs q=>by rw[fe (fb q hn)];exact q
 tbls:=fun b ps q=>⟨#[],by rw[fe (fb q hn),q];simp⟩
theorem Un.write (mu:Mut (H x)) (he:e=x\/H e=some (.own x)) (k:∀b u,b≠e->h.get? b=some u->h'.get? b=some u) (heo:∃u,h'.get? e=some u):Un fs ex H (upd H x o) h h':=by
 have hx:∀b,H b=none->b≠x:=fun b n z=>by subst z;rw[n]at mu;exact mu
 have hb:∀b,H b=none->b≠e:=fun b n z=>by
  subst z
  rcases he with r|r
  ·exact hx b n r
  ·rw[n]at r;cases r
 have hm:∀b u,H b=some u->¬Mut (some u)->b≠x:=fun b u q nm z=>by subst z;rw[q]at mu;exact nm mu
 refine⟨fun b u q n _ _=>k b u (hb b n) q,fun b u q n _ _=>⟨u.slots,k b u (hb b n) q⟩,fun b u q n _=>by rw[fe (hx b n)];exact n,fun b u q _=>?_,
  fun b xs q=>by rw[fe (hm b _ q fun z=>z)];exact q,fun b u xs q=>by rw[fe (hm b _ q fun z=>z)];exact q,fun b ps q=>⟨#[],by rw[fe (hm b _ q fun z=>z),q];simp⟩⟩
 by_cases hbe:b=e
 ·subst hbe;exact heo
 ·exact⟨u,k b u hbe q⟩
end
def trk (h:Heap) (H:Hp):List Addr:=(aa h.objs.size).filter fun a=>(H a).isSome
def zd (h:Heap) (H:Hp):Heap:=cG h (trk h H)
theorem xh (h:Heap) (H:Hp):(zd h H).objs.size=h.objs.size:=PySem.W.hideAll_size _ _
theorem ze {h:Heap} {H:Hp} {b:Addr} {o:Obj} (e:h.get? b=some o) (n:H b=none):(zd h H).get? b=some o:=
 cH _ e fun hm=>by
  have q:(H b).isSome=true:=(List.mem_filter.mp hm).2
  rw[n]at q;simp at q
theorem A2 {h:Heap} {H:Hp} {b:Addr} {o:Obj} (e:(zd h H).get? b=some o):h.get? b=some o/\H b=none:=by
 have e':h.get? b=some o:=cJ (trk h H) e
 refine⟨e',?_⟩
 cases q:H b with
 |none=>rfl
 |some x=>
  have hm:b∈trk h H:=List.mem_filter.mpr ⟨af.mpr (eI e'),by simp[q]⟩
  have z:(zd h H).get? b=none:=PySem.W.hideAll_none (trk h H) hm
  rw[z]at e;cases e
structure Mod (K:PySem.W.Frag) (mg:Str->Option Value) (base:Heap):Prop where
 kin:K.In base
 glob:base.Ns mainGlobals mg
 blt:∃mb,base.Ns builtinsNs mb/\∀x:Str,x≠"__name__"->mb x=bootBuiltins x
 nolimit:base.NoLimit
structure Cx where
 prog:Program
 w:World
 K:PySem.W.Frag
 mg:Str->Option Value
 base:Heap
 A:Around
 N:List Str
 s₀:Shared
 H₀:Hp
 env:Env
 outer:List Env
 stack:List Env
 ex:List Addr
 fn:Str->Bool
 calm:Bool
 pn:List (Addr×Obj)
 xe:Value->Shared->Prop
def frs (l:List Env):List Addr:=l.filterMap (·.frame)
abbrev Cx.fs (X:Cx):List Addr:=frs X.outer
def Vis (sc:Scope) (x:Str):Prop:=sc.names.lookup x=some .local\/sc.names.lookup x=some .cell\/sc.names.lookup x=some .free
def Loc (sc:Scope) (x:Str):Prop:=sc.names.lookup x=some .local\/sc.names.lookup x=some .cell
def Look (env:Env) (h:Heap) (m:Str->Option Value) (x:Str) (u:Value):Prop:=
 (env.kindOf x=some .local/\m x=some u)\/((env.kindOf x=some .cell\/env.kindOf x=some .free)/\∃c,env.cells.lookup x=some c/\h.IsCell c (some u))
structure Cx.Ok (X:Cx):Prop where
 mod:Mod X.K X.mg X.base
 kind:X.env.scope.kind= .function
 glob:X.env.globals=mainGlobals
 blt:X.env.builtins=builtinsNs
 above:X.s₀.heap.objs.size<=X.env.locals
 inj:∀x y c,X.env.cells.lookup x=some c->X.env.cells.lookup y=some c->x=y
 has:∀x,(X.env.kindOf x=some .cell\/X.env.kindOf x=some .free)->∃c,X.env.cells.lookup x=some c
 cab:∀x c,X.fn x=true->X.env.cells.lookup x=some c->X.s₀.heap.objs.size<=c
 hd:X.calm=true->X.A.handled=none
 frames:X.A.frames=some X.stack
 stk:X.stack=X.outer\/(X.stack=X.env::X.outer/\X.env.frame=some X.env.locals)
 exf:∀b∈X.ex,b≠X.env.locals/\∀x c,X.env.cells.lookup x=some c->c≠b
 bs:∀b o,X.base.get? b=some o->X.s₀.heap.get? b=some o/\X.H₀ b=none
 bsz:X.base.objs.size<=X.s₀.heap.objs.size
 noex:∀b o,X.base.get? b=some o->b∉X.ex
 exfs:∀b∈X.ex,b∉X.fs
 funs:X.s₀.heap.FunFrames X.base X.outer
 frf:∀b∈X.fs,X.H₀ b=none
structure Inv (X:Cx) (pins:List (Addr×Obj)) (σ:List (Option V)) (H:Hp) (s:Shared):Prop where
 ok:X.Ok
 os:s.os=X.s₀.os
 bare:AllBare s.gens
 base:Un X.fs X.ex X.H₀ H X.s₀.heap s.heap
 loc:∃m,s.heap.Ns X.env.locals m/\∀(i:Nat) (x:Str) (v:V),X.N[i]?=some x->σ[i]?=some (some v)->Vis X.env.scope x->∃u,iw v u/\Look X.env s.heap m x u
 cell:∀x c,X.env.cells.lookup x=some c->∃v,s.heap.IsCell c v
 free:H X.env.locals=none
 freeC:∀x c,X.env.cells.lookup x=some c->H c=none
 pin:∀p∈X.pn++pins,s.heap.get? p.1=some p.2/\H p.1=none/\p.1≠X.env.locals/\p.1∉X.fs/\∀v,p.2.data≠ .cell v
 hok:HOk X.prog X.w H s.heap
 len:σ.length=X.N.length
section
variable {X:Cx} {pins:List (Addr×Obj)} {σ:List (Option V)} {H H':Hp} {s:Shared} {h':Heap}
theorem Cx.Ok.nofr (ok:X.Ok) {b:Addr} {o:Obj} (e:X.base.get? b=some o):b∉X.fs:=fun hb=>by
 have:=(ok.funs.mem hb).1
 rw[e]at this;cases this
theorem Inv.bs (I:Inv X pins σ H s):∀b o,X.base.get? b=some o->s.heap.get? b=some o/\H b=none:=fun b o e=>
 ⟨I.base.keep b o (I.ok.bs b o e).1 (I.ok.bs b o e).2 (I.ok.nofr e) (I.ok.noex b o e),I.base.free b o (I.ok.bs b o e).1 (I.ok.bs b o e).2 (I.ok.noex b o e)⟩
theorem Inv.bk (I:Inv X pins σ H s):∀b o,X.base.get? b=some o->s.heap.get? b=some o:=fun b o e=>(I.bs b o e).1
theorem Inv.mod (I:Inv X pins σ H s):Mod X.K X.mg X.base:=I.ok.mod
theorem Inv.kIn (I:Inv X pins σ H s):X.K.In s.heap:=I.ok.mod.kin.keeps I.bk
theorem Inv.lt (I:Inv X pins σ H s):X.env.locals<s.heap.objs.size:=let⟨_,hn,_⟩:=I.loc;hn.lt
theorem Inv.sz (I:Inv X pins σ H s):X.s₀.heap.objs.size<=s.heap.objs.size:=bX I.ok.above (bY I.lt)
theorem Inv.nofs (I:Inv X pins σ H s) {a:Addr} (h:s.heap.objs.size<=a):a∉X.fs:=fun hb=>by
 obtain⟨_,o,ho,_⟩:=I.ok.funs.mem hb
 exact absurd (bU (eI ho) (bX I.sz h)) (bV _)
theorem Inv.cne (I:Inv X pins σ H s):∀x c,X.env.cells.lookup x=some c->c≠X.env.locals:=fun x c e z=>by
 obtain⟨v,o,ho,hd⟩:=I.cell x c e
 obtain⟨m,⟨o',es,ep,ho',hd',_⟩,_⟩:=I.loc
 rw[z,ho']at ho;cases ho;rw[hd']at hd;cases hd
theorem Inv.funs (I:Inv X pins σ H s):s.heap.FunFrames X.base X.outer:=by
 have all:∀(l:List Env),(∀b∈frs l,b∈X.fs)->X.s₀.heap.FunFrames X.base l->s.heap.FunFrames X.base l:=by
  intro l
  induction l with
  |nil=>intro _ _;trivial
  |cons env r ih=>
   intro hs hl
   obtain⟨hk,⟨L,o,hf,hn,ho,hd⟩,hr⟩:=hl
   have hL:L∈X.fs:=hs L (by unfold frs;rw[ag,hf];exact ah)
   obtain⟨sl,e⟩:=I.base.slot L o ho (I.ok.frf L hL) hL fun z=>I.ok.exfs L z hL
   exact⟨hk,⟨L,_,hf,hn,e,hd⟩,ih (fun b hb=>hs b (by unfold frs;rw[ag,hf];exact ai _ hb)) hr⟩
 exact all X.outer (fun _ hb=>hb) I.ok.funs
theorem Inv.stack (I:Inv X pins σ H s):s.heap.FunFrames X.base X.stack:=by
 rcases I.ok.stk with e|⟨e,hf⟩
 ·rw[e];exact I.funs
 ·rw[e]
  obtain⟨m,hn,_⟩:=I.loc
  refine .cons (by rw[I.ok.kind];decide) hf hn ?_ I.funs
  exact Heap.get?_none_of_le (bX I.ok.bsz I.ok.above)
theorem Inv.stkSub (I:Inv X pins σ H s):∀b∈frs X.stack,b∈X.env.locals::X.fs:=fun b hb=>by
 rcases I.ok.stk with e|⟨e,hf⟩
 ·rw[e]at hb;exact ai _ hb
 ·rw[e]at hb
  unfold frs at hb
  rw[ag,hf]at hb
  exact hb
theorem Inv.stkFree (I:Inv X pins σ H s):∀b∈frs X.stack,H b=none:=fun b hb=>by
 rcases aj.mp (I.stkSub b hb)with e|hb
 ·rw[e];exact I.free
 ·obtain⟨_,o,ho,_⟩:=I.ok.funs.mem hb
  exact I.base.free b o ho (I.ok.frf b hb) fun z=>I.ok.exfs b z hb
theorem Inv.step {g':Array GenState} {t':Nat} {d':Drawn} {ch:List Addr} (I:Inv X pins σ H s)
  (hch:∀b∈ch,(b∈X.ex\/X.s₀.heap.objs.size<=b)/\b≠X.env.locals/\(∀x c,X.env.cells.lookup x=some c->c≠b)/\∀p∈X.pn++pins,p.1≠b)
  (keep:∀b o,b≠X.env.locals->b∉X.fs->b∉ch->s.heap.get? b=some o->H b=none->h'.get? b=some o)
  (slot:∀b o,b≠X.env.locals->b∈X.fs->b∉ch->s.heap.get? b=some o->H b=none->∃sl,h'.get? b=some {o with slots:=sl}) (free:∀b o,b∉ch->s.heap.get? b=some o->H b=none->H' b=none)
  (there:∀b o,b∉ch->s.heap.get? b=some o->∃o',h'.get? b=some o')
  (tups:∀b xs,H b=some (.tup xs)->H' b=some (.tup xs)) (frzs:∀b o u,H b=some (.frz o u)->H' b=some (.frz o u)) (tbls:∀b ps,H b=some (.tbl ps)->∃more,H' b=some (.tbl (ps++more)))
  (ns:∀m,s.heap.Ns X.env.locals m->h'.Ns X.env.locals m) (hok:HOk X.prog X.w H' h') (hg:AllBare g'):
  Inv X pins σ H' {s with heap:=h',gens:=g',drawn:=d',toks:=t'}:=by
 have neL:∀b o,X.s₀.heap.get? b=some o->b≠X.env.locals:=fun b o e=>bW (bU (eI e) I.ok.above)
 have neC:∀b o,X.s₀.heap.get? b=some o->b∉X.ex->b∉ch:=fun b o e hx hb=>by
  rcases(hch b hb).1 with z|z
  ·exact hx z
  ·exact absurd (bU (eI e) z) (bV _)
 have cellK:∀x c,X.env.cells.lookup x=some c->∀v,s.heap.IsCell c v->h'.IsCell c v:=fun x c e v ⟨o,ho,hd⟩=>by
  have nch:c∉ch:=fun z=>(hch c z).2.2.1 x c e rfl
  by_cases hc:c∈X.fs
  ·obtain⟨sl,q⟩:=slot c o (I.cne x c e) hc nch ho (I.freeC x c e)
   exact⟨_,q,hd⟩
  ·exact⟨o,keep c o (I.cne x c e) hc nch ho (I.freeC x c e),hd⟩
 refine⟨I.ok,I.os,hg,⟨fun b o e n hb hx=>?_,fun b o e n hb hx=>?_,fun b o e n hx=>?_,fun b o e hx=>?_,fun b xs e=>tups b xs (I.base.tups b xs e),fun b o xs e=>frzs b o xs (I.base.frzs b o xs e),fun b ps e=>?_⟩,?_,fun x c e=>?_,?_,fun x c e=>?_,fun p hp=>?_,hok,I.len⟩
 ·exact keep b o (neL b o e) hb (neC b o e hx) (I.base.keep b o e n hb hx) (I.base.free b o e n hx)
 ·obtain⟨sl,e1⟩:=I.base.slot b o e n hb hx
  obtain⟨sl',e2⟩:=slot b _ (neL b o e) hb (neC b o e hx) e1 (I.base.free b o e n hx)
  exact⟨sl',e2⟩
 ·obtain⟨o',e1⟩:=I.base.there b o e hx
  exact free b o' (neC b o e hx) e1 (I.base.free b o e n hx)
 ·obtain⟨o',e1⟩:=I.base.there b o e hx
  exact there b o' (neC b o e hx) e1
 ·obtain⟨m1,e1⟩:=I.base.tbls b ps e
  obtain⟨m2,e2⟩:=tbls b _ e1
  exact⟨m1++m2,by rw[e2,Array.append_assoc]⟩
 ·obtain⟨m,hn,hl⟩:=I.loc
  refine⟨m,ns m hn,fun i x v e1 e2 e3=>?_⟩
  obtain⟨u,r,l⟩:=hl i x v e1 e2 e3
  refine⟨u,r,?_⟩
  rcases l with l|⟨k,c,e,z⟩
  ·exact .inl l
  ·exact .inr ⟨k,c,e,cellK x c e _ z⟩
 ·obtain⟨v,z⟩:=I.cell x c e
  exact⟨v,cellK x c e v z⟩
 ·obtain⟨m,⟨o,_,_,ho,_⟩,_⟩:=I.loc
  exact free _ o (fun z=>(hch _ z).2.1 rfl) ho I.free
 ·obtain⟨v,o,ho,hd⟩:=I.cell x c e
  exact free c o (fun z=>(hch c z).2.2.1 x c e rfl) ho (I.freeC x c e)
 ·obtain⟨e,n,ne,nf,d⟩:=I.pin p hp
  have nch:p.1∉ch:=fun z=>(hch p.1 z).2.2.2 p hp rfl
  exact⟨keep p.1 p.2 ne nf nch e n,free p.1 p.2 nch e n,ne,nf,d⟩
theorem Inv.un {t':Nat} (I:Inv X pins σ H s) (u:Un X.fs [] H H' s.heap h') (hok:HOk X.prog X.w H' h'):Inv X pins σ H' {s with heap:=h',toks:=t'}:=by
 obtain⟨m,⟨o,es,ep,ho,r⟩,_⟩:=id I.loc
 obtain⟨sl,hL⟩:=u.any ho I.free (by simp)
 exact I.step (g':=s.gens) (d':=s.drawn) (ch:=[]) (fun _ z=>nomatch z) (fun b o _ hb _ e n=>u.keep b o e n hb (by simp)) (fun b o _ hb _ e n=>u.slot b o e n hb (by simp)) (fun b o _ e n=>u.free b o e n (by simp)) (fun b o _ e=>u.there b o e (by simp)) u.tups u.frzs u.tbls (fun m' hm=>by
  obtain⟨o',es',ep',ho',r'⟩:=hm
  rw[ho]at ho';cases ho'
  exact⟨_,es',ep',hL,r'⟩) hok I.bare
theorem Inv.call {g':Array GenState} {t':Nat} {d':Drawn} {ch:List Addr} (I:Inv X pins σ H s) (u:Un (frs X.stack) ch H H' s.heap h') (hok:HOk X.prog X.w H' h') (hg:AllBare g')
  (hch:∀b∈ch,(b∈X.ex\/X.s₀.heap.objs.size<=b)/\b≠X.env.locals/\(∀x c,X.env.cells.lookup x=some c->c≠b)/\∀p∈X.pn++pins,p.1≠b):
  Inv X pins σ H' {s with heap:=h',gens:=g',drawn:=d',toks:=t'}:=by
 obtain⟨m,⟨o,es,ep,ho,r⟩,_⟩:=id I.loc
 obtain⟨sl,hL⟩:=u.any ho I.free fun z=>(hch _ z).2.1 rfl
 exact I.step (ch:=ch) hch (fun b o hL hb hc e n=>u.keep b o e n (fun z=>(aj.mp (I.stkSub b z)).elim hL hb) hc) (fun b o _ _ hc e n=>u.any e n hc) (fun b o hc e n=>u.free b o e n hc) (fun b o hc e=>u.there b o e hc) u.tups u.frzs u.tbls (fun m' hm=>by
  obtain⟨o',es',ep',ho',r'⟩:=hm
  rw[ho]at ho';cases ho'
  exact⟨_,es',ep',hL,r'⟩) hok hg
theorem Inv.turned {t':Nat} {it:Addr} (I:Inv X pins σ H s) (k:∀b o,b≠it->s.heap.get? b=some o->h'.get? b=some o) (hn:H it=none) (hL:it≠X.env.locals)
  (h1:it∈X.ex\/X.s₀.heap.objs.size<=it) (h2:∀x c,X.env.cells.lookup x=some c->c≠it) (h3:∀p∈X.pn++pins,p.1≠it):Inv X pins σ H {s with heap:=h',toks:=t'}:=by
 have nit:∀b u,H b=some u->b≠it:=fun b u e z=>by rw[z,hn]at e;cases e
 refine I.step (g':=s.gens) (d':=s.drawn) (ch:=[it]) (fun b hb=>?_) (fun b o _ _ hc e _=>k b o (fun z=>hc (by simp[z])) e) (fun b o _ _ hc e _=>⟨o.slots,k b o (fun z=>hc (by simp[z])) e⟩) (fun _ _ _ _ n=>n)
  (fun b o hc e=>⟨o,k b o (fun z=>hc (by simp[z])) e⟩) (fun _ _ e=>e) (fun _ _ _ e=>e) (fun b ps e=>⟨#[],by rw[e];simp⟩) (fun m hm=>?_) (fun b u e=>?_) I.bare
 ·have e:b=it:=by simpa using hb
  subst e
  exact⟨h1,hL,h2,h3⟩
 ·obtain⟨o,es,ep,ho,r⟩:=hm
  exact⟨o,es,ep,k _ o (Ne.symm hL) ho,r⟩
 ·refine(I.hok b u e).stay (fun c v hc q=>k c v ?_ q) (fun _ q=>q) fun _ _ q=>q
  rcases hc with z|z
  ·rw[z];exact nit b u e
  ·exact nit c _ z
theorem Inv.tok (I:Inv X pins σ H s) (t:Nat):Inv X pins σ H {s with toks:=t}:=I.un (h':=s.heap) (t':=t) Un.refl I.hok
theorem Inv.kept {t':Nat} (I:Inv X pins σ H s) (k:∀b u,s.heap.get? b=some u->h'.get? b=some u):Inv X pins σ H {s with heap:=h',toks:=t'}:=I.un (Un.kept k) (I.hok.kept k)
theorem Inv.laid {a:Addr} {o:HO} {t':Nat} (I:Inv X pins σ H s) (k:∀b u,s.heap.get? b=some u->h'.get? b=some u) (hp:s.heap.objs.size<=a) (new:jw X.prog X.w (upd H a o) h' a o):
  Inv X pins σ (upd H a o) {s with heap:=h',toks:=t'}:=I.un (Un.laid k hp (I.hok.fresh hp)) (I.hok.laid k hp new)
theorem Inv.write {x e:Addr} {o:HO} {t':Nat} (I:Inv X pins σ H s) (mu:Mut (H x)) (he:e=x\/H e=some (.own x)) (k:∀b u,b≠e->s.heap.get? b=some u->h'.get? b=some u) (heo:∃u,h'.get? e=some u)
  (new:jw X.prog X.w (upd H x o) h' x o):Inv X pins σ (upd H x o) {s with heap:=h',toks:=t'}:=I.un (Un.write mu he k heo) (I.hok.write mu he k heo new)
theorem Inv.pins_of {pins':List (Addr×Obj)} (I:Inv X pins σ H s) (h:∀p∈pins',s.heap.get? p.1=some p.2/\H p.1=none/\p.1≠X.env.locals/\p.1∉X.fs/\∀v,p.2.data≠ .cell v):Inv X pins' σ H s:=
 ⟨I.ok,I.os,I.bare,I.base,I.loc,I.cell,I.free,I.freeC,fun p hp=>(ak.mp hp).elim (fun z=>I.pin p (ao _ z)) (h p),I.hok,I.len⟩
theorem vp {N:List Str} (hN:N.Nodup) {i j:Nat} {x:Str} (a:N[i]?=some x) (b:N[j]?=some x):i=j:=by
 obtain⟨h1,e1⟩:=aq.mp a
 obtain⟨h2,e2⟩:=aq.mp b
 exact(List.getElem_inj hN).mp (e1.trans e2.symm)
theorem xi {M:Model} {A:Around} {E:Value->Shared->Prop} {i:Nat} {x:Str} {v:V} {u:Value} {Q:Unit->Shared->Prop} (I:Inv X pins σ H s) (hN:X.N.Nodup) (hi:X.N[i]?=some x) (hx:Loc X.env.scope x) (r:iw v u)
  (h:∀s',Inv X pins (σ.set i (some v)) H s'->(∃a,Heap.SameBut a s.heap s'.heap/\(a=X.env.locals\/X.env.cells.lookup x=some a))->Q () s') (hf:autoParam (X.fn x=true\/X.env.scope.names.lookup x=some .local) L2.Internal.auL._auto_1):wpAny M A (storeName X.env x u) Q E s:=by
 obtain⟨m,hn,hl⟩:=id I.loc
 have hcls:(X.env.scope.kind== .class||(X.env.scope.kind== .module&&X.env.locals !=X.env.globals))=false:=by rw[I.ok.kind];rfl
 have hiσ:i<σ.length:=by rw[I.len];exact(aq.mp hi).1
 have cne:=I.cne
 have tracked:∀{a:Addr} {h':Heap},(∃o,s.heap.get? a=some o/\H a=none)->Heap.SameBut a s.heap h'->HOk X.prog X.w H h':=fun{a h'} ha hs b ob e=>by
  obtain⟨_,_,hfree⟩:=ha
  refine(I.hok b ob e).stay (fun c w' hc q=>(hs.2 c ?_).trans q) (fun _ q=>q) fun _ _ q=>q
  rintro rfl
  rcases hc with rfl|hc
  ·rw[hfree]at e;cases e
  ·rw[hfree]at hc;cases hc
 rcases hx with hk|hk
 ·refine wpAny_storeName_local hk hn (fun h' hn' hs=>?_) hcls
  obtain⟨oL,_,_,hoL,_⟩:=id hn
  refine h _ ⟨I.ok,I.os,I.bare,⟨fun b o e n hb hx=>?_,fun b o e n hb hx=>?_,I.base.free,fun b o e hx=>?_,I.base.tups,I.base.frzs,I.base.tbls⟩,⟨_,hn',fun j y v' e1 e2 e3=>?_⟩,fun y c e=>?_,I.free,I.freeC,fun p hp=>?_,tracked ⟨oL,hoL,I.free⟩ hs,by simpa using I.len⟩ ⟨_,hs,.inl rfl⟩
  ·exact(hs.2 b (bW (bU (eI e) I.ok.above))).trans (I.base.keep b o e n hb hx)
  ·obtain⟨sl,e1⟩:=I.base.slot b o e n hb hx
   exact⟨sl,(hs.2 b (bW (bU (eI e) I.ok.above))).trans e1⟩
  ·obtain⟨o',e1⟩:=I.base.there b o e hx
   exact⟨o',(hs.2 b (bW (bU (eI e) I.ok.above))).trans e1⟩
  ·by_cases hj:j=i
   ·subst hj
    rw[hi]at e1;cases e1
    rw[av hiσ]at e2
    cases e2
    exact⟨u,r,.inl ⟨hk,by simp⟩⟩
   ·rw[aw (Ne.symm hj)]at e2
    obtain⟨u',r',q⟩:=hl j y v' e1 e2 e3
    refine⟨u',r',?_⟩
    rcases q with⟨k,e⟩|⟨k,c,e,z⟩
    ·refine .inl ⟨k,?_⟩
     have:y≠x:=fun e=>hj (vp hN e1 (e▸hi))
     simp[this,e]
    ·exact .inr ⟨k,c,e,z.sameBut hs (cne y c e)⟩
  ·obtain⟨w',z⟩:=I.cell y c e
   exact⟨w',z.sameBut hs (cne y c e)⟩
  ·obtain⟨e,n,ne,nf,d⟩:=I.pin p hp
   exact⟨(hs.2 p.1 ne).trans e,n,ne,nf,d⟩
 ·have hfn:X.fn x=true:=by
   rcases hf with z|z
   ·exact z
   ·rw[z]at hk;cases hk
  obtain⟨c,hc⟩:=I.ok.has x (.inl hk)
  obtain⟨w',z⟩:=I.cell x c hc
  refine wpAny_storeName_cell I.ok.kind hk hc z (fun h' hc' hs=>?_)
  obtain⟨oc,hoc,hocd⟩:=id z
  refine h {s with heap:=h'} ⟨I.ok,I.os,I.bare,⟨fun b o e n hb hx=>?_,fun b o e n hb hx=>?_,I.base.free,fun b o e hx=>?_,I.base.tups,I.base.frzs,I.base.tbls⟩,⟨m,hn.sameBut hs (Ne.symm (cne x c hc)),fun j y v' e1 e2 e3=>?_⟩,fun y c' e=>?_,I.free,I.freeC,fun p hp=>?_,tracked ⟨oc,hoc,I.freeC x c hc⟩ hs,by simpa using I.len⟩ ⟨c,hs,.inr hc⟩
  ·exact(hs.2 b (bW (bU (eI e) (I.ok.cab x c hfn hc)))).trans (I.base.keep b o e n hb hx)
  ·obtain⟨sl,e1⟩:=I.base.slot b o e n hb hx
   exact⟨sl,(hs.2 b (bW (bU (eI e) (I.ok.cab x c hfn hc)))).trans e1⟩
  ·obtain⟨o',e1⟩:=I.base.there b o e hx
   exact⟨o',(hs.2 b (bW (bU (eI e) (I.ok.cab x c hfn hc)))).trans e1⟩
  ·by_cases hj:j=i
   ·subst hj
    rw[hi]at e1;cases e1
    rw[av hiσ]at e2
    cases e2
    exact⟨u,r,.inr ⟨.inl hk,c,hc,hc'⟩⟩
   ·rw[aw (Ne.symm hj)]at e2
    obtain⟨u',r',q⟩:=hl j y v' e1 e2 e3
    refine⟨u',r',?_⟩
    rcases q with q|⟨k,c',e,z'⟩
    ·exact .inl q
    ·refine .inr ⟨k,c',e,z'.sameBut hs ?_⟩
     rintro rfl
     exact hj (vp hN e1 (I.ok.inj _ _ _ e hc▸hi))
  ·by_cases hcc:c'=c
   ·subst hcc;exact⟨_,hc'⟩
   ·obtain⟨w2,z2⟩:=I.cell y c' e
    exact⟨w2,z2.sameBut hs hcc⟩
  ·obtain⟨e,n,ne,nf,d⟩:=I.pin p hp
   refine⟨(hs.2 p.1 ?_).trans e,n,ne,nf,d⟩
   intro q
   rw[q,hoc]at e
   have q':oc=p.2:=cz.inj e
   exact d w' (by rw[<-q'];exact hocd)
theorem oF {M:Model} {A:Around} {E:Value->Shared->Prop} {i:Nat} {x:Str} {v:V} {u:Value} {Q:Unit->Shared->Prop} (I:Inv X pins σ H s) (hN:X.N.Nodup) (hi:X.N[i]?=some x) (hx:Loc X.env.scope x) (r:iw v u)
  (h:∀s',Inv X pins (σ.set i (some v)) H s'->Q () s') (hf:autoParam (X.fn x=true\/X.env.scope.names.lookup x=some .local) L2.Internal.auL._auto_1):wpAny M A (storeName X.env x u) Q E s:=
 xi I hN hi hx r (fun s' I' _=>h s' I') hf
theorem Inv.call' {s':Shared} {ch:List Addr} (I:Inv X pins σ H s) (ho:s'.os=s.os) (u:Un (frs X.stack) ch H H' s.heap s'.heap) (hok:HOk X.prog X.w H' s'.heap) (hg:AllBare s'.gens)
  (hch:∀b∈ch,(b∈X.ex\/X.s₀.heap.objs.size<=b)/\b≠X.env.locals/\(∀x c,X.env.cells.lookup x=some c->c≠b)/\∀p∈X.pn++pins,p.1≠b):Inv X pins σ H' s':=by
 obtain⟨h',g',d',t',o'⟩:=s'
 have e:o'=s.os:=ho
 subst e
 exact I.call (g':=g') (t':=t') (d':=d') u hok hg hch
end
abbrev XK:=Value->Option Addr->Hp->Prop
abbrev St:=List (Option V)
abbrev VK:=V->Hp->Prop
abbrev TE:=St->Hp->VK->Prop
abbrev TT:=St->Hp->(Bool->Hp->Prop)->Prop
abbrev TA:=St->Hp->(List V->Hp->Prop)->Prop
structure oG where
 nx:St->Hp->Prop
 rt:VK
 bk:St->Hp->Prop:=fun _ _=>False
 ct:St->Hp->Prop:=fun _ _=>False
abbrev TS:=oG->St->Hp->Prop
def EP (X:Cx) (pins:List (Addr×Obj)) (σ:St) (Q:VK) (u:Value) (s':Shared):Prop:=∃v H',Inv X pins σ H' s'/\iw v u/\Q v H'
def TP (X:Cx) (pins:List (Addr×Obj)) (σ:St) (Q:Bool->Hp->Prop) (b:Bool) (s':Shared):Prop:=∃H',Inv X pins σ H' s'/\Q b H'
def AP (X:Cx) (pins:List (Addr×Obj)) (σ:St) (Q:List V->Hp->Prop) (us:List Value) (s':Shared):Prop:=∃vs H',Inv X pins σ H' s'/\iA vs us/\Q vs H'
def SP (X:Cx) (pins:List (Addr×Obj)) (D:oG) (f:Flow) (s':Shared):Prop:=
 match f with
 | .next=>∃σ' H',Inv X pins σ' H' s'/\D.nx σ' H'
 | .brk=>∃σ' H',Inv X pins σ' H' s'/\D.bk σ' H'
 | .cont=>∃σ' H',Inv X pins σ' H' s'/\D.ct σ' H'
 | .ret u=>∃v σ' H',Inv X pins σ' H' s'/\iw v u/\D.rt v H'
def PE (X:Cx) (e:Expr) (t:TE):Prop:=
 ∀(pins:List (Addr×Obj)) (s:Shared) (σ:St) (H:Hp) (Q:VK),Inv X pins σ H s->t σ H Q->wpAny (model X.prog X.w) X.A (eval e X.env) (EP X pins σ Q) X.xe s
def PT (X:Cx) (e:Expr) (t:TT):Prop:=
 ∀(pins:List (Addr×Obj)) (s:Shared) (σ:St) (H:Hp) (Q:Bool->Hp->Prop),Inv X pins σ H s->t σ H Q->wpAny (model X.prog X.w) X.A (isTrue e X.env (eval e X.env)) (TP X pins σ Q) X.xe s
def PW (X:Cx) (e:Expr) (t:TT):Prop:=
 ∀(whole:Sem Value) (pins:List (Addr×Obj)) (s:Shared) (σ:St) (H:Hp) (Q:Bool->Hp->Prop),Inv X pins σ H s->t σ H Q->wpAny (model X.prog X.w) X.A (isTrue e X.env whole) (TP X pins σ Q) X.xe s
theorem PW.pt {X:Cx} {e:Expr} {t:TT} (h:PW X e t):PT X e t:=h _
def PA (X:Cx) (es:List Expr) (t:TA):Prop:=
 ∀(pos:Pos) (pins:List (Addr×Obj)) (s:Shared) (σ:St) (H:Hp) (Q:List V->Hp->Prop),Inv X pins σ H s->t σ H Q->wpAny (model X.prog X.w) X.A (spliced (backTo pos (starEach es X.env))) (AP X pins σ Q) X.xe s
def PS (X:Cx) (st:Stmt) (t:TS):Prop:=
 ∀(pins:List (Addr×Obj)) (s:Shared) (σ:St) (H:Hp) (D:oG),Inv X pins σ H s->t D σ H->wpAny (model X.prog X.w) X.A (exec st X.env) (SP X pins D) X.xe s
def PSs (X:Cx) (st:List Stmt) (t:TS):Prop:=
 ∀(pins:List (Addr×Obj)) (s:Shared) (σ:St) (H:Hp) (D:oG),Inv X pins σ H s->t D σ H->wpAny (model X.prog X.w) X.A (execs st X.env) (SP X pins D) X.xe s
theorem thn {α:Type} {t:Sem α} {Q Q':α->Shared->Prop} {M:Model} {A:Around} {E:Value->Shared->Prop} {s:Shared} (h:wpAny M A t Q E s) (hQ:∀a s,Q a s->Q' a s):wpAny M A t Q' E s:=wpAny_mono h hQ fun _ _ x=>x
section
variable {X:Cx}
def B8 (i:Nat):TE:=fun σ H Q=>∃v,σ[i]?=some (some v)/\Q v H
def tC (v:V):TE:=fun _ H Q=>Q v H
theorem Cj {i:Nat} {x:Str} {pos:Pos} (hN:X.N[i]?=some x) (hv:Vis X.env.scope x) (hd:autoParam ((x==("__debug__":Str))=false) L2.Internal.auD._auto_1) (hcd:autoParam ((x==("__classdict__":Str))=false) L2.Internal.auD._auto_1):PE X (.Name x pos) (B8 i):=by
 intro pins s σ H Q I h
 obtain⟨v,e,h⟩:=h
 obtain⟨m,hn,hl⟩:=I.loc
 obtain⟨u,r,l⟩:=hl i x v hN e hv
 have fin:EP X pins σ Q u s:=⟨v,H,I,r,h⟩
 rcases l with⟨hk,hm⟩|⟨hk,c,hc,hcell⟩
 ·exact wpAny_Name (wpAny_loadName_local I.ok.kind hk hn hm fin) hd
 ·rcases hk with hk|hk
  ·exact wpAny_Name (wpAny_loadName_cell I.ok.kind hk hc hcell fin) hd
  ·exact wpAny_Name (wpAny_loadName_free I.ok.kind hk hc hcell fin hcd) hd
theorem eU {i j pos}:PE X (.Constant (.int i) j pos) (tC (.int i)):=fun _ _ _ H _ I h=>wpAny_Constant_int ⟨.int i,H,I.tok _,⟨_,rfl⟩,h⟩
theorem m3 {b j pos}:PE X (.Constant (.bool b) j pos) (tC (.bl b)):=fun _ _ _ H _ I h=>Constant_bool ⟨.bl b,H,I,rfl,h⟩
theorem qo {j pos}:PE X (.Constant .none j pos) (tC .non):=fun _ _ _ H _ I h=>Constant_none ⟨.non,H,I,rfl,h⟩
theorem fc {x j pos}:PE X (.Constant (.str x) j pos) (tC (.str x)):=fun _ _ _ H _ I h=>Calls.Constant_str ⟨.str x,H,I.tok _,⟨_,rfl⟩,h⟩
def Gl (X:Cx) (x:Str):Prop:=X.env.kindOf x=some .globalImplicit
theorem qP {E:Value->Shared->Prop} {pins:List (Addr×Obj)} {s:Shared} {σ:St} {H:Hp} {x:Str} {u:Value} {pos:Pos} {Q:Value->Shared->Prop} (I:Inv X pins σ H s) (hg:Gl X x) (hm:X.mg x=some u) (h:Q u s)
  (hd:autoParam ((x==("__debug__":Str))=false) L2.Internal.auD._auto_1):wpAny (model X.prog X.w) X.A (eval (.Name x pos) X.env) Q E s:=
 Calls.Name_function_global I.ok.kind hg (Calls.loadGlobal_global (by rw[I.ok.glob];exact I.mod.glob.keeps I.bk) hm h) hd
theorem m4 {E:Value->Shared->Prop} {pins:List (Addr×Obj)} {s:Shared} {σ:St} {H:Hp} {x:Str} {u:Value} {pos:Pos} {Q:Value->Shared->Prop} (I:Inv X pins σ H s) (hg:Gl X x) (hm:X.mg x=none) (hv:bootBuiltins x=some u) (h:Q u s)
  (hn:autoParam (x≠"__name__") L2.Internal.auD._auto_1) (hd:autoParam ((x==("__debug__":Str))=false) L2.Internal.auD._auto_1):wpAny (model X.prog X.w) X.A (eval (.Name x pos) X.env) Q E s:=by
 obtain⟨mb,h1,h2⟩:=I.mod.blt
 exact Calls.Name_function_global I.ok.kind hg (Calls.loadGlobal_builtin (by rw[I.ok.glob];exact I.mod.glob.keeps I.bk) hm (by rw[I.ok.blt];exact h1.keeps I.bk) ((h2 x hn).trans hv) h) hd
theorem uj {x:Str} {v:V} {u:Value} {pos:Pos} (hg:Gl X x) (hm:X.mg x=some u) (r:iw v u) (hd:autoParam ((x==("__debug__":Str))=false) L2.Internal.auD._auto_1):PE X (.Name x pos) (tC v):=
 fun _ _ _ H _ I h=>qP I hg hm ⟨v,H,I,r,h⟩ hd
theorem A3 {x:Str} {v:V} {u:Value} {pos:Pos} (hg:Gl X x) (hm:X.mg x=none) (hv:bootBuiltins x=some u) (r:iw v u) (hn:autoParam (x≠"__name__") L2.Internal.auD._auto_1) (hd:autoParam ((x==("__debug__":Str))=false) L2.Internal.auD._auto_1):PE X (.Name x pos) (tC v):=
 fun _ _ _ H _ I h=>m4 I hg hm hv ⟨v,H,I,r,h⟩ hn hd
variable {a b:Expr} {ta tb:TE} {pos:Pos}
def PC (X:Cx) (op:CmpOp) (a b:Expr) (t:TE):Prop:=
 ∀(pins:List (Addr×Obj)) (s:Shared) (σ:St) (H:Hp) (Q:VK),Inv X pins σ H s->t σ H Q->
  wpAny (model X.prog X.w) X.A (eval a X.env) (fun v s₁=>wpAny (model X.prog X.w) X.A (eval b X.env) (fun u s₂=>wpAny (model X.prog X.w) X.A (compareOp op v u) (EP X pins σ Q) X.xe s₂) X.xe s₁) X.xe s
theorem vq (b:Expr) {op:CmpOp} (h:op≠ .In) (h2:op≠ .NotIn):behindInMarks op b=false:=by
 have e1:(op==CmpOp.In)=false:=by cases op<;>first|rfl|exact absurd rfl h
 have e2:(op==CmpOp.NotIn)=false:=by cases op<;>first|rfl|exact absurd rfl h2
 cases b<;>simp[behindInMarks,e1,e2]
def Fs (ta:TE):TE:=fun σ H Q=>ta σ H fun x H1=>Q (.bl (decide (x= .non))) H1
def D4 (ta:TE):TE:=fun σ H Q=>ta σ H fun x H1=>Q (.bl (!decide (x= .non))) H1
theorem iw.none_iff {x:V} {v:Value} (r:iw x v):(v==Value.none)=decide (x= .non):=by
 cases x with
 |non=>cases r;rfl
 |bl _=>cases r;rfl
 |int _=>obtain⟨t,rfl⟩:=r;rfl
 |str _=>obtain⟨t,rfl⟩:=r;rfl
 |byt _=>obtain⟨t,rfl⟩:=r;rfl
 |flt _=>obtain⟨t,rfl⟩:=r;rfl
 |ref _=>cases r;rfl
 |ty _=>cases r;rfl
theorem xj {j pos'} (ha:PE X a ta):PC X .Is a (.Constant .none j pos') (Fs ta):=by
 intro pins s σ H Q I h
 refine thn (ha pins s σ H _ I h) fun v s1 ⟨x,H1,I1,r1,q1⟩=>?_
 exact Constant_none (is_none_gen ⟨.bl _,H1,I1,by rw[r1.none_iff];rfl,q1⟩)
theorem A4 {j pos'} (ha:PE X a ta):PC X .IsNot a (.Constant .none j pos') (D4 ta):=by
 intro pins s σ H Q I h
 refine thn (ha pins s σ H _ I h) fun v s1 ⟨x,H1,I1,r1,q1⟩=>?_
 exact Constant_none (isnot_none_gen ⟨.bl _,H1,I1,by rw[r1.none_iff];rfl,q1⟩)
def tB (t:TE):TT:=fun σ H Q=>t σ H fun x H1=>∃c,x= .bl c/\Q c H1
theorem xk {op:CmpOp} {t:TE} (h:PC X op a b t) (h1:behindInMarks op b=false:=by first|exact vq _ (by decide) (by decide)|rfl):PE X (.Compare a [op] [b] pos) t:=fun pins s σ H Q I hw=>wpAny_Compare1 (h pins s σ H Q I hw) h1
theorem sv {op:CmpOp} {t:TE} (h:PC X op a b t) (h1:behindInMarks op b=false:=by first|exact vq _ (by decide) (by decide)|rfl):PT X (.Compare a [op] [b] pos) (tB t):=by
 intro pins s σ H Q I hw
 refine wpAny_isTrue_Compare1 (thn (h pins s σ H _ I hw) fun v s1 h1=>thn h1 fun u s2 h2=>thn h2 fun c s3 ⟨x,H1,I1,r1,q1⟩=>?_) h1
 obtain⟨d,rfl,q⟩:=q1
 cases r1
 exact wpAny_truthy_bool ⟨H1,I1,q⟩
theorem jd {e:Expr} {t:TE} (h:PE X e t) (he:autoParam (∀whole,isTrue e X.env whole=(do let v<-whole;standAt e.pos;holding [v] (truthy v))) L2.Internal.auI._auto_1):PT X e (tB t):=by
 intro pins s σ H Q I hw
 refine isTrue_plain (thn (h pins s σ H _ I hw) fun v s1 ⟨x,H1,I1,r1,q1⟩=>?_) (he _)
 obtain⟨d,rfl,q⟩:=q1
 cases r1
 exact wpAny_truthy_bool ⟨H1,I1,q⟩
variable {tA tB':TT} {rest:List Expr}
def tAnd (t u:TT):TT:=fun σ H Q=>t σ H fun c H1=>if c=true then u σ H1 Q else Q false H1
def tOr (t u:TT):TT:=fun σ H Q=>t σ H fun c H1=>if c=true then Q true H1 else u σ H1 Q
def tNot (t:TT):TT:=fun σ H Q=>t σ H fun c H1=>Q (!c) H1
theorem uk (ha:PT X a tA):PW X (.BoolOp .And [a] pos) tA:=by
 intro wh pins s σ H Q I h
 refine isTrue_and (thn (ha pins s σ H Q I h) fun c s1 e=>?_)
 cases c with
 |true=>exact isTrue_and_nil e
 |false=>exact e
theorem m5 (ha:PT X a tA):PW X (.BoolOp .Or [a] pos) tA:=by
 intro wh pins s σ H Q I h
 refine isTrue_or (thn (ha pins s σ H Q I h) fun c s1 e=>?_)
 cases c with
 |false=>exact isTrue_or_nil e
 |true=>exact e
theorem xm (ha:PT X a tA) (hb:PW X (.BoolOp .And (b::rest) pos) tB'):PW X (.BoolOp .And (a::b::rest) pos) (tAnd tA tB'):=by
 intro wh pins s σ H Q I h
 refine isTrue_and (thn (ha pins s σ H _ I h) fun c s1 ⟨H1,I1,q1⟩=>?_)
 cases c with
 |true=>exact hb wh pins s1 σ H1 Q I1 q1
 |false=>exact⟨H1,I1,q1⟩
theorem mF (ha:PT X a tA) (hb:PW X (.BoolOp .Or (b::rest) pos) tB'):PW X (.BoolOp .Or (a::b::rest) pos) (tOr tA tB'):=by
 intro wh pins s σ H Q I h
 refine isTrue_or (thn (ha pins s σ H _ I h) fun c s1 ⟨H1,I1,q1⟩=>?_)
 cases c with
 |true=>exact⟨H1,I1,q1⟩
 |false=>exact hb wh pins s1 σ H1 Q I1 q1
theorem kn (ha:PT X a tA):PT X (.UnaryOp .Not a pos) (tNot tA):=by
 intro pins s σ H Q I h
 exact isTrue_not (ha pins s σ H (fun c H1=>Q (!c) H1) I h)
def Ck (ta tb:TE):TE:=fun σ H Q=>ta σ H fun x H1=>∃c,x= .bl c/\if c=true then tb σ H1 Q else Q (.bl false) H1
def tOrV (ta tb:TE):TE:=fun σ H Q=>ta σ H fun x H1=>∃c,x= .bl c/\if c=true then Q (.bl true) H1 else tb σ H1 Q
def D5 (ta:TE):TE:=fun σ H Q=>ta σ H fun x H1=>∃c,x= .bl c/\Q (.bl (!c)) H1
theorem m7 {op} {t:TE} (h:PE X a t):PE X (.BoolOp op [a] pos) t:=fun pins s σ H Q I hw=>BoolOp_one (h pins s σ H Q I hw)
theorem m8 (ha:PE X a ta) (hb:PE X (.BoolOp .And (b::rest) pos) tb):PE X (.BoolOp .And (a::b::rest) pos) (Ck ta tb):=by
 intro pins s σ H Q I h
 refine BoolOp_and (thn (ha pins s σ H _ I h) fun v s1 ⟨x,H1,I1,r1,q1⟩=>?_)
 obtain⟨c,rfl,q1⟩:=q1
 cases r1
 refine wpAny_truthy_bool ?_
 cases c with
 |true=>exact hb pins s1 σ H1 Q I1 q1
 |false=>exact⟨.bl false,H1,I1,rfl,q1⟩
theorem D6 (ha:PE X a ta) (hb:PE X (.BoolOp .Or (b::rest) pos) tb):PE X (.BoolOp .Or (a::b::rest) pos) (tOrV ta tb):=by
 intro pins s σ H Q I h
 refine BoolOp_or (thn (ha pins s σ H _ I h) fun v s1 ⟨x,H1,I1,r1,q1⟩=>?_)
 obtain⟨c,rfl,q1⟩:=q1
 cases r1
 refine wpAny_truthy_bool ?_
 cases c with
 |false=>exact hb pins s1 σ H1 Q I1 q1
 |true=>exact⟨.bl true,H1,I1,rfl,q1⟩
theorem Cm (ha:PE X a ta):PE X (.UnaryOp .Not a pos) (D5 ta):=by
 intro pins s σ H Q I h
 refine UnaryOp_ (thn (ha pins s σ H _ I h) fun v s1 ⟨x,H1,I1,r1,q1⟩=>?_)
 obtain⟨c,rfl,q1⟩:=q1
 cases r1
 exact not_of (wpAny_truthy_bool ⟨.bl (!c),H1,I1,rfl,q1⟩)
def tIf (t:TT) (ta tb:TE):TE:=fun σ H Q=>t σ H fun c H1=>if c=true then ta σ H1 Q else tb σ H1 Q
theorem qQ {c:Expr} (hc:PT X c tA) (ha:PE X a ta) (hb:PE X b tb):PE X (.IfExp c a b pos) (tIf tA ta tb):=by
 intro pins s σ H Q I h
 refine wpAny_IfExp (thn (hc pins s σ H _ I h) fun d s1 ⟨H1,I1,q1⟩=>?_)
 cases d with
 |true=>exact ha pins s1 σ H1 Q I1 q1
 |false=>exact hb pins s1 σ H1 Q I1 q1
end
def SqL (K:PySem.W.Frag) (H:Hp) (a:Addr) (xs:List V):Prop:=
 Rd H a (.lst xs)\/
  ∃(o:Obj) (its:Array Value) (n:Nat),K.lookup a=some o/\o.cls= .type "list"/\o.dict=none/\o.data= .seq its n/\its.size<=sizeLine/\iA xs its.toList
def SqT (K:PySem.W.Frag) (H:Hp) (a:Addr) (xs:List V):Prop:=
 Rd H a (.tup xs)\/
  ∃(o:Obj) (its:Array Value) (n:Nat),K.lookup a=some o/\o.cls= .type "tuple"/\o.data= .seq its n/\its.size<=sizeLine/\iA xs its.toList
def absV:Value->Option V
 | .none=>some .non
 | .bool b=>some (.bl b)
 | .int i _=>some (.int i)
 | .str x _=>some (.str x)
 | .bytes b _=>some (.byt b)
 | .float b _=>some (.flt b)
 | .ref a=>some (.ref a)
 | .type n=>some (.ty n)
 |_=>none
theorem iw.abs {x:V} {u:Value} (r:iw x u):absV u=some x:=by
 cases x with
 |non=>cases r;rfl
 |bl _=>cases r;rfl
 |int _=>obtain⟨t,rfl⟩:=r;rfl
 |str _=>obtain⟨t,rfl⟩:=r;rfl
 |byt _=>obtain⟨t,rfl⟩:=r;rfl
 |flt _=>obtain⟨t,rfl⟩:=r;rfl
 |ref _=>cases r;rfl
 |ty _=>cases r;rfl
theorem iw.inj {x y:V} {u:Value} (r:iw x u) (q:iw y u):x=y:=cz.inj (r.abs.symm.trans q.abs)
theorem iA.inj:∀{xs ys:List V} {us:List Value},iA xs us->iA ys us->xs=ys
 |_,_,_,.nil,.nil=>rfl
 |_,_,_,.cons r t,.cons r' t'=>by rw[r.inj r',iA.inj t t']
section
variable {X:Cx} {pins:List (Addr×Obj)} {σ:St} {H:Hp} {s:Shared} {a:Addr} {xs ys:List V}
theorem SqL.of {K:PySem.W.Frag} (h:H a=some (.lst xs)):SqL K H a xs:= .inl (.inl h)
theorem SqT.of {K:PySem.W.Frag} (h:H a=some (.tup xs)):SqT K H a xs:= .inl (.inl h)
theorem Inv.list (I:Inv X pins σ H s) (h:SqL X.K H a xs):∃its:List Value,iA xs its/\PlainL s.heap a its.toArray/\xs.length<=sizeLine:=by
 rcases h with h|⟨o,its,n,hk,hc,hd,hs,hz,r⟩
 ·obtain⟨z,its,n,r,e⟩:=h.ok I.hok
  exact⟨its,r,⟨_,n,e,rfl,rfl,rfl⟩,z⟩
 ·refine⟨its.toList,r,⟨o,n,I.kIn a o hk,hc,hd,by simpa using hs⟩,?_⟩
  have e:=r.length
  simp only[dW]at e
  lia
theorem Inv.tuple (I:Inv X pins σ H s) (h:SqT X.K H a xs):∃its:List Value,iA xs its/\IsTup s.heap a its.toArray/\xs.length<=sizeLine:=by
 rcases h with h|⟨o,its,n,hk,hc,hs,hz,r⟩
 ·obtain⟨z,its,r,p⟩:=h.ok I.hok
  exact⟨its,r,p.tup,z⟩
 ·refine⟨its.toList,r,⟨o,I.kIn a o hk,hc,n,by simpa using hs⟩,?_⟩
  have e:=r.length
  simp only[dW]at e
  lia
theorem Inv.list_inj (I:Inv X pins σ H s) (h:SqL X.K H a xs) (h':SqL X.K H a ys):xs=ys:=by
 obtain⟨its,r,⟨o,n,e,_,_,d⟩,_⟩:=I.list h
 obtain⟨its',r',⟨o',n',e',_,_,d'⟩,_⟩:=I.list h'
 rw[e]at e';cases e'
 rw[d]at d'
 injection d' with d1 _
 have:its=its':=by simpa using congrArg Array.toList d1
 subst this
 exact r.inj r'
theorem Inv.tuple_inj (I:Inv X pins σ H s) (h:SqT X.K H a xs) (h':SqT X.K H a ys):xs=ys:=by
 obtain⟨its,r,⟨o,e,_,n,d⟩,_⟩:=I.tuple h
 obtain⟨its',r',⟨o',e',_,n',d'⟩,_⟩:=I.tuple h'
 rw[e]at e';cases e'
 rw[d]at d'
 injection d' with d1 _
 have:its=its':=by simpa using congrArg Array.toList d1
 subst this
 exact r.inj r'
end
abbrev Cx.wish (X:Cx) (E:Value->Shared->Prop):Cx:={X with xe:=E}
abbrev Cx.nox (X:Cx):Cx:=X.wish fun _ _=>False
theorem Cx.Ok.wish {X:Cx} (ok:X.Ok) (E:Value->Shared->Prop):(X.wish E).Ok:=
 ⟨ok.mod,ok.kind,ok.glob,ok.blt,ok.above,ok.inj,ok.has,ok.cab,ok.hd,ok.frames,ok.stk,ok.exf,ok.bs,ok.bsz,ok.noex,ok.exfs,ok.funs,ok.frf⟩
theorem Cx.Ok.unwish {X:Cx} {E:Value->Shared->Prop} (ok:(X.wish E).Ok):X.Ok:=
 ⟨ok.mod,ok.kind,ok.glob,ok.blt,ok.above,ok.inj,ok.has,ok.cab,ok.hd,ok.frames,ok.stk,ok.exf,ok.bs,ok.bsz,ok.noex,ok.exfs,ok.funs,ok.frf⟩
section
variable {X:Cx} {pins:List (Addr×Obj)} {σ:St} {H:Hp} {s:Shared} {E:Value->Shared->Prop}
theorem Inv.wish (I:Inv X pins σ H s) (E:Value->Shared->Prop):Inv (X.wish E) pins σ H s:=⟨I.ok.wish E,I.os,I.bare,I.base,I.loc,I.cell,I.free,I.freeC,I.pin,I.hok,I.len⟩
theorem Inv.unwish (I:Inv (X.wish E) pins σ H s):Inv X pins σ H s:=⟨I.ok.unwish,I.os,I.bare,I.base,I.loc,I.cell,I.free,I.freeC,I.pin,I.hok,I.len⟩
theorem SP.unwish {D:oG} {f:Flow} {s':Shared} (h:SP (X.wish E) pins D f s'):SP X pins D f s':=by
 cases f with
 |next=>obtain⟨σ',H',I,q⟩:=h;exact⟨σ',H',I.unwish,q⟩
 |brk=>obtain⟨σ',H',I,q⟩:=h;exact⟨σ',H',I.unwish,q⟩
 |cont=>obtain⟨σ',H',I,q⟩:=h;exact⟨σ',H',I.unwish,q⟩
 |ret u=>obtain⟨v,σ',H',I,r,q⟩:=h;exact⟨v,σ',H',I.unwish,r,q⟩
theorem PSs.nox {st:List Stmt} {t:TS} (h:PSs X.nox st t):PSs X st t:=fun pins s σ H D I hw=>
 wpAny_mono (h pins s σ H D (I.wish _) hw) (fun _ _ q=>q.unwish) fun _ _ z=>False.elim z
end
section
variable {X:Cx} {st:Stmt} {rest:List Stmt} {t u:TS} {e:Expr} {te:TE} {pos:Pos}
def sx:TS:=fun D σ H=>D.nx σ H
def um (t u:TS):TS:=fun D σ H=>t {D with nx:=u D} σ H
theorem fw:PSs X [] sx:=fun _ _ σ H _ I h=>wpAny_execs_nil ⟨σ,H,I,h⟩
theorem eR (h1:PS X st t) (h2:PSs X rest u):PSs X (st::rest) (um t u):=by
 intro pins s σ H D I h
 refine wpAny_execs_cons (thn (h1 pins s σ H {D with nx:=u D} I h) fun f s1 q=>?_)
 cases f with
 |next=>
  obtain⟨σ',H',I',q⟩:=q
  exact h2 pins s1 σ' H' D I' q
 |ret v=>exact q
 |brk=>exact q
 |cont=>exact q
theorem eW (h1:PS X st t):PSs X [st] t:=by
 intro pins s σ H D I h
 refine wpAny_execs_cons (thn (h1 pins s σ H D I h) fun f s1 q=>?_)
 cases f with
 |next=>exact wpAny_execs_nil q
 |ret v=>exact q
 |brk=>exact q
 |cont=>exact q
theorem Inv.quiet {pins:List (Addr×Obj)} {σ:St} {H:Hp} {s:Shared} (I:Inv X pins σ H s):interactive X.env=false:=by simp[interactive,I.ok.kind]
def Cn (te:TE):TS:=fun D σ H=>te σ H fun _ H1=>D.nx σ H1
theorem fE (he:PE X e te) (hs:autoParam (swapsWith e none pos.line X.env=pure false) L2.Internal.auR._auto_1):PS X (.Expr e pos) (Cn te):=by
 intro pins s σ H D I h
 exact wpAny_Expr_any (thn (he pins s σ H _ I h) fun v s1 ⟨x,H1,I1,r1,q1⟩=>⟨σ,H1,I1,q1⟩) I.quiet hs
def B9 (te:TE):TS:=fun D σ H=>te σ H D.rt
theorem fG (he:PE X e te):PS X (.Return (some e) pos) (B9 te):=by
 intro pins s σ H D I h
 exact wpAny_Return_some (thn (he pins s σ H _ I h) fun v s1 ⟨x,H1,I1,r1,q1⟩=>⟨x,σ,H1,I1,r1,q1⟩)
def D7:TS:=fun D _ H=>D.rt .non H
theorem xn:PS X (.Return none pos) D7:=fun _ _ σ H _ I h=>wpAny_Return_none ⟨.non,σ,H,I,rfl,h⟩
def Ai (c:TT) (t u:TS):TS:=fun D σ H=>c σ H fun b H1=>if b=true then t D σ H1 else u D σ H1
theorem gr {c:Expr} {a b:List Stmt} {tc:TT} (hc:PT X c tc) (ha:PSs X a t) (hb:PSs X b u):PS X (.If c a b pos) (Ai tc t u):=by
 intro pins s σ H D I h
 refine wpAny_If (thn (hc pins s σ H _ I h) fun d s1 ⟨H1,I1,q1⟩=>?_)
 cases d with
 |true=>exact ha pins s1 σ H1 D I1 q1
 |false=>exact hb pins s1 σ H1 D I1 q1
def Aj:TS:=fun _ _ _=>False
theorem vt:PS X st Aj:=fun _ _ _ _ _ _ h=>h.elim
theorem xo {sts:List Stmt}:PSs X sts Aj:=fun _ _ _ _ _ _ h=>h.elim
end
abbrev TG:=V->St->Hp->(St->Hp->Prop)->Prop
abbrev TGs:=List V->St->Hp->(St->Hp->Prop)->Prop
def PG (X:Cx) (target:Expr) (t:TG):Prop:=
 ∀(pins:List (Addr×Obj)) (s:Shared) (σ:St) (H:Hp) (v:V) (u:Value) (Q:St->Hp->Prop),Inv X pins σ H s->iw v u->t v σ H Q->
  wpAny (model X.prog X.w) X.A (assign target X.env u) (fun _ s'=>∃σ' H',Inv X pins σ' H' s'/\Q σ' H') X.xe s
def PGs (X:Cx) (ts:List Expr) (t:TGs):Prop:=
 ∀(pins:List (Addr×Obj)) (s:Shared) (σ:St) (H:Hp) (vs:List V) (us:List Value) (Q:St->Hp->Prop),Inv X pins σ H s->iA vs us->t vs σ H Q->
  wpAny (model X.prog X.w) X.A (assignInOrder ((assignEach ts X.env).map (·.2)) us) (fun _ s'=>∃σ' H',Inv X pins σ' H' s'/\Q σ' H') X.xe s
abbrev D8:=V->V->V->Hp->(Hp->Prop)->Prop
def Ft (X:Cx) (t:D8):Prop:=
 ∀(pins:List (Addr×Obj)) (s:Shared) (σ:St) (H:Hp) (o i v:V) (ov iv u:Value) (Q:Hp->Prop),Inv X pins σ H s->iw o ov->iw i iv->iw v u->t o i v H Q->
  wpAny (model X.prog X.w) X.A (setItem ov iv u) (fun _ s'=>∃H',Inv X pins σ H' s'/\Q H') X.xe s
section
variable {X:Cx} {pos:Pos}
def iQ (i:Nat):TG:=fun v σ H Q=>Q (σ.set i (some v)) H
theorem jj {i:Nat} {x:Str} (hN:X.N.Nodup) (hi:X.N[i]?=some x) (hx:Loc X.env.scope x) (hf:autoParam (X.fn x=true\/X.env.scope.names.lookup x=some .local) L2.Internal.auL._auto_1):PG X (.Name x pos) (iQ i):=by
 intro pins s σ H v u Q I r h
 exact wpAny_assign_Name (oF I hN hi hx r (fun s' I'=>⟨_,H,I',h⟩) hf)
def gNil:TGs:=fun vs σ H Q=>vs=[]/\Q σ H
def D9 (t:TG) (u:TGs):TGs:=fun vs σ H Q=>∃v r,vs=v::r/\t v σ H fun σ' H'=>u r σ' H' Q
theorem uo:PGs X [] gNil:=by
 intro pins s σ H vs us Q I r h
 obtain⟨e,h⟩:=h
 subst e
 cases r
 exact assignInOrder_nil ⟨σ,H,I,h⟩
theorem mh {e:Expr} {es:List Expr} {t:TG} {u:TGs} (h1:PG X e t) (h2:PGs X es u)
  (hs:autoParam ((assignEach (e::es) X.env).map (·.2)=assign e X.env::(assignEach es X.env).map (·.2)) L2.Internal.auR._auto_1):PGs X (e::es) (D9 t u):=by
 intro pins s σ H vs us Q I r h
 obtain⟨v,vr,e1,h⟩:=h
 subst e1
 cases r with
 |cons r rr=>
  rw[hs]
  refine assignInOrder_cons (thn (h1 pins s σ H _ _ _ I r h) fun _ s1 ⟨σ1,H1,I1,q1⟩=>?_)
  exact h2 pins s1 σ1 H1 _ _ Q I1 rr q1
def gTup (K:PySem.W.Frag) (n:Nat) (t:TGs):TG:=fun v σ H Q=>∃a xs,v= .ref a/\SqT K H a xs/\xs.length=n/\t xs σ H Q
theorem xp {es:List Expr} {k:Nat} {t:TGs} {n:Nat} (hc:X.calm=true) (h:PGs X es t)
  (hn:autoParam ((assignEach es X.env).length=n) L2.Internal.auR._auto_1) (hst:autoParam ((assignEach es X.env).findIdx? (·.1)=none) L2.Internal.auR._auto_1):PG X (.Tuple es k pos) (gTup X.K n t):=by
 intro pins s σ H v u Q I r hw
 obtain⟨a,xs,e1,hq,hl,hw⟩:=hw
 subst e1
 cases r
 obtain⟨its,rv,ht,hz⟩:=I.tuple hq
 refine assign_Tuple_tuple (I.ok.hd hc) ht (by simp[hn,<-hl,rv.length]) hst fun h' hx=>?_
 have I1:Inv X pins σ H {s with heap:=h'}:=I.kept (t':=s.toks) fun b o e=>hx b o (bW (eI e)) e
 exact h pins _ σ H xs _ Q I1 (by simpa using rv) hw
def gSub (to ti:TE) (t:D8):TG:=fun v σ H Q=>to σ H fun o H1=>ti σ H1 fun i H2=>t o i v H2 fun H3=>Q σ H3
theorem Co {o i:Expr} {to ti:TE} {t:D8} (ho:PE X o to) (hi:PE X i ti) (hs:Ft X t)
  (ha:∀v,assign (.Subscript o i pos) X.env v=(do
   let ov<-holding [v] (eval o X.env)
   let iv<-holding [v,ov] (eval i X.env)
   standAt pos
   holding [v,ov,iv] (setItem ov iv v)
   release [v,ov,iv] []):=by intro _;rfl):PG X (.Subscript o i pos) (gSub to ti t):=by
 intro pins s σ H v u Q I r h
 rw[ha]
 refine wpAny_bind (wpAny_holding (thn (ho pins s σ H _ I h) fun ov s1 ⟨x,H1,I1,r1,q1⟩=>?_))
 refine wpAny_bind (wpAny_holding (thn (hi pins s1 σ H1 _ I1 q1) fun iv s2 ⟨y,H2,I2,r2,q2⟩=>?_))
 refine wpAny_bind (wpAny_standAt (wpAny_bind (wpAny_holding (thn (hs pins s2 σ H2 x y v ov iv u _ I2 r1 r2 r q2) fun _ s3 ⟨H3,I3,q3⟩=>?_))))
 exact wpAny_release ⟨σ,H3,I3,q3⟩
def DV (te:TE) (g:TG):TS:=fun D σ H=>te σ H fun x H1=>g x σ H1 D.nx
theorem Cp {tg e:Expr} {te:TE} {g:TG} (he:PE X e te) (hg:PG X tg g) (hs:autoParam (swapsWithSole [tg] e pos.line X.env=pure false) L2.Internal.auR._auto_1) (hw:autoParam (swappedStores [tg] e X.env=pure none) L2.Internal.auR._auto_1)
  (h1:autoParam ((assignEach [tg] X.env).map (·.2)=[assign tg X.env]) L2.Internal.auR._auto_1):PS X (.Assign [tg] e pos) (DV te g):=by
 intro pins s σ H D I h
 refine wpAny_Assign_stores (thn (he pins s σ H _ I h) fun v s1 ⟨x,H1,I1,r1,q1⟩=>?_) hs hw
 rw[h1]
 exact thn (hg pins s1 σ H1 x v _ I1 r1 q1) fun _ s2 q=>q
theorem fC {i:Nat} {x:Str} {e:Expr} {te:TE} {pos':Pos} (hN:X.N.Nodup) (hi:X.N[i]?=some x) (hx:Loc X.env.scope x) (he:PE X e te) (hs:autoParam (swapsWith e (some (.Name x pos')) pos.line X.env=pure false) L2.Internal.auR._auto_1) (hf:autoParam (X.fn x=true\/X.env.scope.names.lookup x=some .local) L2.Internal.auL._auto_1):
  PS X (.Assign [.Name x pos'] e pos) (DV te (iQ i)):=by
 intro pins s σ H D I h
 refine wpAny_Assign_Name (thn (he pins s σ H _ I h) fun v s1 ⟨y,H1,I1,r1,q1⟩=>?_) hs
 exact oF I1 hN hi hx r1 (fun s2 I2=>⟨_,H1,I2,q1⟩) hf
end
section
variable {X:Cx} {pos:Pos}
def Cq (c:TT) (tb:TS):TS:=fun D σ H=>∃W:Nat->St->Hp->Prop,(∃m,W m σ H)/\∀m σ H,W m σ H->
 c σ H fun b H1=>if b=true then ∃N:St->Hp->Prop,(∀σ' H',N σ' H'->∃m',m'<m/\W m' σ' H')/\tb {D with nx:=N,ct:=N,bk:=D.nx} σ H1 else D.nx σ H1
theorem mi {c:Expr} {body:List Stmt} {tc:TT} {tb:TS} (hp:PassesOwn (model X.prog X.w) X.A X.env X.xe) (hc:PT X c tc) (hb:PSs X body tb):PS X (.While c body [] pos) (Cq tc tb):=by
 intro pins s σ H D I h
 obtain⟨W,⟨m0,w0⟩,turn⟩:=h
 refine wpAny_While (codeAny_whileLoop (fun n s'=>∃σ' H',Inv X pins σ' H' s'/\W n σ' H') ?_ m0 ⟨σ,H,I,w0⟩)
 rintro n s1 ⟨σ1,H1,I1,w1⟩
 refine wpAny_passesOwn hp (thn (hc pins s1 σ1 H1 _ I1 (turn n σ1 H1 w1)) fun b s2 ⟨H2,I2,q2⟩=>?_)
 cases b with
 |true=>
  obtain⟨N,hN,q2⟩:=q2
  rw[if_pos rfl]
  refine wpAny_passesOwn hp (thn (hb pins s2 σ1 H2 _ I2 q2) fun f s3 q3=>?_)
  cases f with
  |next=>
   obtain⟨σ3,H3,I3,n3⟩:=q3
   obtain⟨m',hm,w3⟩:=hN σ3 H3 n3
   exact⟨m',hm,σ3,H3,I3,w3⟩
  |cont=>
   obtain⟨σ3,H3,I3,n3⟩:=q3
   obtain⟨m',hm,w3⟩:=hN σ3 H3 n3
   exact⟨m',hm,σ3,H3,I3,w3⟩
  |brk=>exact q3
  |ret v=>exact q3
 |false=>
  rw[if_neg dN]
  exact wpAny_execs_nil ⟨σ1,H2,I2,q2⟩
end
structure It where
 go:Nat->Hp->Prop
 yld:Nat->Hp->V->Hp->Prop
 stop:Nat->Hp->Prop
def w6 (X:Cx) (pins:List (Addr×Obj)) (H:Hp) (b:Addr):Prop:=
 H b=none/\b≠X.env.locals/\b∉X.fs/\(b∈X.ex\/X.s₀.heap.objs.size<=b)/\(∀x c,X.env.cells.lookup x=some c->c≠b)/\∀p∈X.pn++pins,p.1≠b
theorem Inv.fpOk {X:Cx} {pins:List (Addr×Obj)} {σ:St} {H H':Hp} {s:Shared} {b:Addr} (I:Inv X pins σ H s) (hb:s.heap.objs.size<=b) (hn:H' b=none):w6 X pins H' b:=by
 refine⟨hn,bZ (bU I.lt hb),I.nofs hb,.inr (bX I.sz hb),fun x c e z=>?_,fun p hp z=>?_⟩
 ·obtain⟨v,q⟩:=I.cell x c e
  exact absurd (bU q.lt (by rw[z];exact hb)) (bV _)
 ·exact absurd (bU (eI (I.pin p hp).1) (by rw[z];exact hb)) (bV _)
structure Ak (P:Program) (w:World) (K:PySem.W.Frag) (tg:Expr) (J:It) (fp:List Addr) (it:Addr) (tn:Nat->Heap->Prop):Prop where
 mem:it∈fp
 obj:∀i h,tn i h->∀b∈fp,∃o,h.get? b=some o/\∀v,o.data≠ .cell v
 keep:∀i h h',tn i h->(∀b∈fp,∀o,h.get? b=some o->h'.get? b=some o)->tn i h'
 item:∀(X:Cx),X.prog=P->X.w=w->X.K=K->X.calm=true->∀(i:Nat) (pins:List (Addr×Obj)) (s:Shared) (σ:St) (H:Hp) (E:Value->Shared->Prop),Inv X pins σ H s->(∀b∈fp,w6 X pins H b)->tn i s.heap->J.go i H->
  wpAny (model P w) X.A (pyNext (.ref it)) (fun r s1=>∃u,r=some u/\
   wpAny (model P w) X.A (letOwnedTupleGo tg (.ref it) u) (fun _ s2=>∃x H',Inv X pins σ H' s2/\iw x u/\J.yld i H x H'/\tn (i+ 1) s2.heap/\∀b∈fp,H' b=none) E s1) E s
 done:∀(X:Cx),X.prog=P->X.w=w->X.K=K->X.calm=true->∀(i:Nat) (pins:List (Addr×Obj)) (s:Shared) (σ:St) (H:Hp) (E:Value->Shared->Prop),Inv X pins σ H s->(∀b∈fp,w6 X pins H b)->tn i s.heap->J.stop i H->
  wpAny (model P w) X.A (pyNext (.ref it)) (fun r s1=>r=none/\Inv X pins σ H s1) E s
 self:∀(A:Around) (i:Nat) (s:Shared) (Q:Value->Shared->Prop) (E:Value->Shared->Prop),tn i s.heap->Q (.ref it) s->wpAny (model P w) A (pyIter (.ref it)) Q E s
abbrev TI:=St->Hp->(It->Hp->Prop)->Prop
def PIE (X:Cx) (pins:List (Addr×Obj)) (σ:St) (tg:Expr) (R:It->Hp->Prop) (itv:Value) (s2:Shared):Prop:=
 ∃(it:Addr) (fp:List Addr) (tn:Nat->Heap->Prop) (J:It) (H':Hp),itv= .ref it/\Inv X pins σ H' s2/\Ak X.prog X.w X.K tg J fp it tn/\tn 0 s2.heap/\(∀b∈fp,w6 X pins H' b)/\R J H'
def PI (X:Cx) (tg iter:Expr) (wi:TI):Prop:=
 ∀(pins:List (Addr×Obj)) (s:Shared) (σ:St) (H:Hp) (R:It->Hp->Prop),Inv X pins σ H s->wi σ H R->
  wpAny (model X.prog X.w) X.A (eval iter X.env) (fun v s1=>wpAny (model X.prog X.w) X.A (pyIter v) (PIE X pins σ tg R) X.xe s1) X.xe s
theorem xq {M : Model} {A : Around} {E : Value -> Shared -> Prop} {s : Shared} {tg : Expr} {it : Addr} {u : Value} {o : Obj} {n : String} {vs : Array Value} {Q : Unit -> Shared -> Prop} (ho : s.heap.get? it = some o) (hc : o.cls = .type n) (hd : o.data = .fields vs)
  (hn : ["enumerate", "zip", "dict_itemiterator", "dict_reverseitemiterator", "odict_iterator", "itertools.zip_longest", "itertools.pairwise"].contains n = false) (hQ : Q () s) : wpAny M A (letOwnedTupleGo tg (.ref it) u) Q E s := by
 unfold letOwnedTupleGo
 cases tg <;> first
  | exact wpAny_pure hQ
  | (cases u <;> first
    | exact wpAny_pure hQ
    | (refine wpAny_bind (wpAny_load ho ?_)
       rw [hc, hd]
       show wpAny M A (if (["enumerate", "zip", "dict_itemiterator", "dict_reverseitemiterator", "odict_iterator", "itertools.zip_longest", "itertools.pairwise"].contains n && vs[0]? == some (rawInt _)) = true then _ else _) Q E s
       rw [if_neg (by intro h; rw [hn, Bool.false_and] at h; cases h)]
       exact wpAny_pure hQ))
def Itl (K:PySem.W.Frag) (a:Addr):It:=
 ⟨fun i H=>∃xs x,SqL K H a xs/\xs[i]?=some x,fun i H x H'=>H'=H/\∀xs,SqL K H a xs->xs[i]?=some x,fun i H=>∃xs,SqL K H a xs/\xs.length<=i⟩
def Itt (K:PySem.W.Frag) (a:Addr):It:=
 ⟨fun i H=>∃xs x,SqT K H a xs/\xs[i]?=some x,fun i H x H'=>H'=H/\∀xs,SqT K H a xs->xs[i]?=some x,fun i H=>∃xs,SqT K H a xs/\xs.length<=i⟩
def Itr (lo:Int) (n:Nat):It:=⟨fun i _=>i<n,fun i H x H'=>H'=H/\x= .int (lo+i),fun i _=>n<=i⟩
theorem xr {P:Program} {w:World} {K:PySem.W.Frag} {tg:Expr} (a it:Addr):Ak P w K tg (Itl K a) [it] it (fun i h=>h.IsListIter it a i) where
 mem:=by simp
 obj:=fun i h st b hb=>by
  have e:b=it:=by simpa using hb
  subst e
  obtain⟨o,e,c,d⟩:=st
  exact⟨o,e,fun v z=>by rw[d]at z;cases z⟩
 keep:=fun i h h' st k=>st.at fun o e=>k it (by simp) o e
 item:=by
  intro X hP hw hK hc i pins s σ H E I hf st hg
  subst hP hw hK
  obtain⟨xs,x,hq,hx⟩:=hg
  obtain⟨its,rv,p,hz⟩:=I.list hq
  obtain⟨u,hu,ru⟩:=rv.get hx
  obtain⟨f0,f1,f2,f3,f4,f5⟩:=hf it (by simp)
  refine wpAny_pyNext_list_item st p.isList (x:=u) (by simpa using hu) fun h' st' sb=>?_
  have I1:Inv X pins σ H {s with heap:=h'}:=I.turned (t':=s.toks) (fun b o hb e=>(sb.2 b hb).trans e) f0 f1 f3 f4 f5
  obtain⟨o,e,c,d⟩:=id st'
  exact⟨u,rfl,xq (s:={s with heap:=h'}) e c d (by decide) ⟨x,H,I1,ru,⟨rfl,fun ys hy=>by rw[I.list_inj hy hq];exact hx⟩,st',fun b hb=>(hf b hb).1⟩⟩
 done:=by
  intro X hP hw hK hc i pins s σ H E I hf st hg
  subst hP hw hK
  obtain⟨xs,hq,hx⟩:=hg
  obtain⟨its,rv,p,hz⟩:=I.list hq
  obtain⟨f0,f1,f2,f3,f4,f5⟩:=hf it (by simp)
  have hl:=rv.length
  exact wpAny_pyNext_list_end (I.ok.hd hc) st p.isList (by simp;lia) fun h' eb=>⟨rfl,I.turned (t':=s.toks) (fun b o hb e=>eb b o hb e) f0 f1 f3 f4 f5⟩
 self:=fun _ _ _ _ _ st h=>wpAny_pyIter_listiter st h
theorem wc {P:Program} {w:World} {K:PySem.W.Frag} {tg:Expr} (a it:Addr):Ak P w K tg (Itt K a) [it] it (fun i h=>h.IsTupleIter it a i) where
 mem:=by simp
 obj:=fun i h st b hb=>by
  have e:b=it:=by simpa using hb
  subst e
  obtain⟨o,e,c,d⟩:=st
  exact⟨o,e,fun v z=>by rw[d]at z;cases z⟩
 keep:=fun i h h' st k=>st.at fun o e=>k it (by simp) o e
 item:=by
  intro X hP hw hK hc i pins s σ H E I hf st hg
  subst hP hw hK
  obtain⟨xs,x,hq,hx⟩:=hg
  obtain⟨its,rv,p,hz⟩:=I.tuple hq
  obtain⟨u,hu,ru⟩:=rv.get hx
  obtain⟨f0,f1,f2,f3,f4,f5⟩:=hf it (by simp)
  refine wpAny_pyNext_tuple_item st (show s.heap.IsTuple a its.toArray from p) (x:=u) (by simpa using hu) fun h' st' sb=>?_
  have I1:Inv X pins σ H {s with heap:=h'}:=I.turned (t':=s.toks) (fun b o hb e=>(sb.2 b hb).trans e) f0 f1 f3 f4 f5
  obtain⟨o,e,c,d⟩:=id st'
  exact⟨u,rfl,xq (s:={s with heap:=h'}) e c d (by decide) ⟨x,H,I1,ru,⟨rfl,fun ys hy=>by rw[I.tuple_inj hy hq];exact hx⟩,st',fun b hb=>(hf b hb).1⟩⟩
 done:=by
  intro X hP hw hK hc i pins s σ H E I hf st hg
  subst hP hw hK
  obtain⟨xs,hq,hx⟩:=hg
  obtain⟨its,rv,p,hz⟩:=I.tuple hq
  obtain⟨f0,f1,f2,f3,f4,f5⟩:=hf it (by simp)
  have hl:=rv.length
  exact wpAny_pyNext_tuple_end (I.ok.hd hc) st (show s.heap.IsTuple a its.toArray from p) (by simp;lia) fun h' eb=>⟨rfl,I.turned (t':=s.toks) (fun b o hb e=>eb b o hb e) f0 f1 f3 f4 f5⟩
 self:=fun _ _ _ _ _ st h=>wpAny_pyIter_tupleiter st h
theorem we {P:Program} {w:World} {K:PySem.W.Frag} {tg:Expr} (it:Addr) (lo:Int) (n:Nat):Ak P w K tg (Itr lo n) [it] it (fun i h=>IsRangeIter h it (lo+(i:Nat)*1) ((n:Int)-(i:Nat)) 1) where
 mem:=by simp
 obj:=fun i h st b hb=>by
  have e:b=it:=by simpa using hb
  subst e
  exact⟨_,st,fun v z=>by
   have z':Data.fields _=Data.cell v:=z
   cases z'⟩
 keep:=fun i h h' st k=>k it (by simp) _ st
 item:=by
  intro X hP hw hK hc i pins s σ H E I hf st hg
  subst hP hw hK
  obtain⟨f0,f1,f2,f3,f4,f5⟩:=hf it (by simp)
  have W:=Walks.range (prog:=X.prog) (w:=X.w) (I.ok.hd hc) it lo 1 n
  refine W.item i s _ _ hg st fun v h' tk hv st' kk=>?_
  obtain⟨t,rfl⟩:=hv
  have I1:Inv X pins σ H {s with heap:=h',toks:=tk}:=I.turned (fun b o hb e=>kk b o (by simpa using hb) e) f0 f1 f3 f4 f5
  refine⟨_,rfl,xq (s:={s with heap:=h',toks:=tk}) (n:="range_iterator") st' rfl rfl (by decide) ⟨.int (lo+i),H,I1,⟨t,?_⟩,⟨rfl,rfl⟩,st',fun b hb=>(hf b hb).1⟩⟩
  rw[d5]
 done:=by
  intro X hP hw hK hc i pins s σ H E I hf st hg
  subst hP hw hK
  obtain⟨f0,f1,f2,f3,f4,f5⟩:=hf it (by simp)
  exact wpAny_pyNext_range_end (I.ok.hd hc) st (by have:n<=i:=hg;lia) fun h' eb=>⟨rfl,I.turned (t':=s.toks) (fun b o hb e=>eb b o hb e) f0 f1 f3 f4 f5⟩
 self:=fun _ _ _ _ _ st h=>wpAny_pyIter_rangeiter st h
section
variable {X:Cx} {tg:Expr}
def Ea (K:PySem.W.Frag) (tl:TE):TI:=fun σ H R=>tl σ H fun x H1=>∃a,x= .ref a/\(∃xs,SqL K H1 a xs)/\R (Itl K a) H1
def iTup (K:PySem.W.Frag) (tl:TE):TI:=fun σ H R=>tl σ H fun x H1=>∃a,x= .ref a/\(∃xs,SqT K H1 a xs)/\R (Itt K a) H1
theorem mG {l:Expr} {tl:TE} (hl:PE X l tl):PI X tg l (Ea X.K tl):=by
 intro pins s σ H R I h
 refine thn (hl pins s σ H _ I h) fun v s1 ⟨x,H1,I1,r1,q1⟩=>?_
 obtain⟨a,e,⟨xs,hq⟩,q⟩:=q1
 subst e
 cases r1
 obtain⟨its,rv,p,hz⟩:=I1.list hq
 refine wpAny_pyIter_list p.isList ?_
 refine⟨s1.heap.objs.size,[s1.heap.objs.size],_,_,H1,rfl,I1.kept (t':=s1.toks) fun b o e=>eK _ e,xr a _,⟨_,eJ _ rfl,rfl,rfl⟩,fun b hb=>?_,q⟩
 have e:b=s1.heap.objs.size:=by simpa using hb
 subst e
 exact I1.fpOk (b6 _) (I1.hok.fresh (b6 _))
theorem qp {l:Expr} {tl:TE} (hl:PE X l tl):PI X tg l (iTup X.K tl):=by
 intro pins s σ H R I h
 refine thn (hl pins s σ H _ I h) fun v s1 ⟨x,H1,I1,r1,q1⟩=>?_
 obtain⟨a,e,⟨xs,hq⟩,q⟩:=q1
 subst e
 cases r1
 obtain⟨its,rv,p,hz⟩:=I1.tuple hq
 refine wpAny_pyIter_tuple (show s1.heap.IsTuple a its.toArray from p) ?_
 refine⟨s1.heap.objs.size,[s1.heap.objs.size],_,_,H1,rfl,I1.kept (t':=s1.toks) fun b o e=>eK _ e,wc a _,⟨_,eJ _ rfl,rfl,rfl⟩,fun b hb=>?_,q⟩
 have e:b=s1.heap.objs.size:=by simpa using hb
 subst e
 exact I1.fpOk (b6 _) (I1.hok.fresh (b6 _))
theorem zf {pins:List (Addr×Obj)} {σ:St} {H:Hp} {s:Shared} {R:It->Hp->Prop} {E:Value->Shared->Prop} {lo hi:Int} {t u v:Tok} {tk:Nat} (I:Inv X pins σ H s) (h1: -(2^62)<=lo) (h2:lo<2^62) (h3: -(2^62)<=hi) (h4:hi<2^62)
  (q:R (Itr lo (hi-lo).toNat) H):wpAny (model X.prog X.w) X.A (pyIter (.ref s.heap.objs.size)) (PIE X pins σ tg R) E {s with heap:=s.heap.push {cls:= .type "range",data:= .fields #[.int lo t,.int hi u,.int 1 v]},toks:=tk}:=by
 refine wpAny_pyIter_range (IsRange.new ..) (small_one h1 h2 h3 h4) ?_
 have I1:Inv X pins σ H {s with heap:=s.heap.push {cls:= .type "range",data:= .fields #[.int lo t,.int hi u,.int 1 v]},toks:=tk}:=I.kept fun b o e=>eK _ e
 refine⟨(s.heap.push {cls:= .type "range",data:= .fields #[.int lo t,.int hi u,.int 1 v]}).objs.size,[(s.heap.push {cls:= .type "range",data:= .fields #[.int lo t,.int hi u,.int 1 v]}).objs.size],_,_,H,rfl,
  I1.kept (t':=tk) fun b o e=>eK _ e,we _ lo (hi-lo).toNat,?_,fun b hb=>?_,q⟩
 ·have e1:lo+((0:Nat):Int)*1=lo:=by simp
  have e2:(((hi-lo).toNat:Nat):Int)-((0:Nat):Int)=Builtin.Range.rangeSize lo hi 1:=by rw[rangeSize_one];split<;>lia
  show IsRangeIter _ _ (lo+((0:Nat):Int)*1) ((((hi-lo).toNat:Nat):Int)-((0:Nat):Int)) 1
  rw[e1,e2]
  exact eJ _ rfl
 ·have e:b=(s.heap.push {cls:= .type "range",data:= .fields #[.int lo t,.int hi u,.int 1 v]}).objs.size:=by simpa using hb
  subst e
  exact I1.fpOk (b6 _) (I1.hok.fresh (b6 _))
def Eb (ta:TA):TI:=fun σ H R=>ta σ H fun vs H1=>∃j:Int,vs=[.int j]/\-(2^62)<=j/\j<2^62/\R (Itr 0 j.toNat) H1
theorem sy {a:Expr} {ta:TA} {p pos:Pos} (hg:Gl X "range") (hm:X.mg "range"=none) (ha:PA X [a] ta) (hs:autoParam (starEach [a] X.env=[(false,eval a X.env)]) L2.Internal.auR._auto_1):PI X tg (.Call (.Name "range" p) [a] [] pos) (Eb ta):=by
 intro pins s σ H R I h
 refine Call_ (m4 I hg hm boot_range (eO (thn (ha pos pins s σ H _ I h) fun us s1 ⟨vs,H1,I1,r1,q1⟩=>?_) hs rfl))
 obtain⟨j,e,q1,q2,q⟩:=q1
 subst e
 cases r1 with
 |cons r rr=>
  cases rr
  obtain⟨t,rfl⟩:=r
  exact call_range_1 (zf I1 (by lia) (by lia) q1 q2 (by simpa using q))
def tFor (wi:TI) (g:TG) (tb:TS):TS:=fun D σ H=>wi σ H fun J H1=>∃W:Nat->Nat->St->Hp->Prop,(∃m,W 0 m σ H1)/\∀i m σ H,W i m σ H->
 (J.stop i H/\D.nx σ H)\/(J.go i H/\∃N:St->Hp->Prop,(∀σ' H',N σ' H'->∃m',m'<m/\W (i+ 1) m' σ' H')/\∀x H',J.yld i H x H'->g x σ H' fun σ2 H2=>tb {D with nx:=N,ct:=N,bk:=D.nx} σ2 H2)
def sA (fp:List Addr) (h:Heap):List (Addr×Obj):=fp.filterMap fun b=>(h.get? b).map fun o=>(b,o)
theorem mj {fp:List Addr} {h:Heap} {b:Addr} {o:Obj} (hb:b∈fp) (e:h.get? b=some o):(b,o)∈sA fp h:=ax.mpr ⟨b,hb,by rw[e];rfl⟩
theorem xt {fp:List Addr} {h:Heap} {p:Addr×Obj} (hp:p∈sA fp h):p.1∈fp/\h.get? p.1=some p.2:=by
 obtain⟨b,hb,e⟩:=ax.mp hp
 cases q:h.get? b with
 |none=>rw[q]at e;cases e
 |some o=>
  rw[q]at e
  have e':(b,o)=p:=cz.inj e
  subst e'
  exact⟨hb,q⟩
theorem Inv.pinned {pins:List (Addr×Obj)} {σ:St} {H:Hp} {s:Shared} {fp:List Addr} (I:Inv X pins σ H s) (hf:∀b∈fp,w6 X pins H b) (ho:∀b∈fp,∃o,s.heap.get? b=some o/\∀v,o.data≠ .cell v):Inv X (pins++sA fp s.heap) σ H s:=
 I.pins_of fun p hp=>(ak.mp hp).elim (fun z=>I.pin p (ay _ z)) fun z=>by
  obtain⟨hb,e⟩:=xt z
  obtain⟨f0,f1,f2,_⟩:=hf p.1 hb
  obtain⟨o,e',d⟩:=ho p.1 hb
  rw[e]at e';cases e'
  exact⟨e,f0,f1,f2,d⟩
theorem Inv.unpinned {pins pl:List (Addr×Obj)} {σ:St} {H:Hp} {s:Shared} (I:Inv X (pins++pl) σ H s):Inv X pins σ H s:=I.pins_of fun p hp=>I.pin p (ay _ (ao _ hp))
theorem lG {iter:Expr} {body:List Stmt} {wi:TI} {g:TG} {tb:TS} {pos:Pos} (hp:PassesOwn (model X.prog X.w) X.A X.env X.xe) (hc:X.calm=true) (hi:PI X tg iter wi) (hg:PG X tg g) (hb:PSs X body tb)
  (hs:autoParam (∀x,foldedSetIterable iter X.env x=pure x) L2.Internal.auI._auto_1):PS X (.For tg iter body [] pos) (tFor wi g tb):=by
 intro pins s σ H D I h
 refine wpAny_For (thn (hi pins s σ H _ I h) fun v s1 h1=>thn h1 fun itv s2 h2=>?_) hs
 obtain⟨it,fp,tn,J,H2,e,I2,T,st2,f2,W,⟨m0,w0⟩,turn⟩:=h2
 subst e
 have stat:∀{H':Hp},(∀b∈fp,H' b=none)->∀b∈fp,w6 X pins H' b:=fun hn b hb=>⟨hn b hb,(f2 b hb).2⟩
 refine codeAny_forLoop_any (fun n s'=>∃i σ' H',Inv X pins σ' H' s'/\tn i s'.heap/\(∀b∈fp,H' b=none)/\W i n σ' H') ?_ m0 ⟨0,σ,H2,I2,st2,fun b hb=>(f2 b hb).1,w0⟩
 rintro n s3 ⟨i,σ3,H3,I3,st3,fr3,w3⟩
 rcases turn i n σ3 H3 w3 with⟨stop,qn⟩|⟨go,N,hN,step⟩
 ·refine wpAny_passesOwn hp (thn (T.done X rfl rfl rfl hc i pins s3 σ3 H3 X.xe I3 (stat fr3) st3 stop) fun r s4 ⟨hr,I4⟩=>?_)
  subst hr
  exact wpAny_execs_nil ⟨σ3,H3,I4,qn⟩
 ·refine wpAny_passesOwn hp (thn (T.item X rfl rfl rfl hc i pins s3 σ3 H3 X.xe I3 (stat fr3) st3 go) fun r s4 ⟨u,hr,h4⟩=>?_)
  subst hr
  refine wpAny_passesOwn hp (thn h4 fun _ s5 ⟨x,H5,I5,r5,y5,st5,fr5⟩=>?_)
  have I5':=I5.pinned (stat fr5) (T.obj _ _ st5)
  refine wpAny_passesOwn hp (thn (hg _ s5 σ3 H5 x u _ I5' r5 (step x H5 y5)) fun _ s6 ⟨σ6,H6,I6,q6⟩=>?_)
  refine wpAny_passesOwn hp (thn (hb _ s6 σ6 H6 _ I6 q6) fun f s7 q7=>?_)
  have again:∀{σ7:St} {H7:Hp},Inv X (pins++sA fp s5.heap) σ7 H7 s7->N σ7 H7->∃m,m<n/\∃i σ' H',Inv X pins σ' H' s7/\tn i s7.heap/\(∀b∈fp,H' b=none)/\W i m σ' H':=fun{σ7 H7} I7 n7=>by
   obtain⟨m',hm,w7⟩:=hN σ7 H7 n7
   refine⟨m',hm,i+ 1,σ7,H7,I7.unpinned,T.keep _ _ _ st5 fun b hb o e=>(I7.pin (b,o) (ay _ (ay _ (mj hb e)))).1,fun b hb=>?_,w7⟩
   obtain⟨o,e,d⟩:=T.obj _ _ st5 b hb
   exact(I7.pin (b,o) (ay _ (ay _ (mj hb e)))).2.1
  cases f with
  |next=>obtain⟨σ7,H7,I7,n7⟩:=q7;exact again I7 n7
  |cont=>obtain⟨σ7,H7,I7,n7⟩:=q7;exact again I7 n7
  |brk=>obtain⟨σ7,H7,I7,q7⟩:=q7;exact⟨σ7,H7,I7.unpinned,q7⟩
  |ret v=>obtain⟨x7,σ7,H7,I7,r7,q7⟩:=q7;exact⟨x7,σ7,H7,I7.unpinned,r7,q7⟩
end
theorem qR {K:PySem.W.Frag} {a:Addr} {xs:List V} {g:TG} {tb:TS} {D:oG} {σ:St} {H:Hp} (Pv:Nat->St->Hp->Prop) (h0:Pv 0 σ H) (hl:∀i σ H,i<=xs.length->Pv i σ H->SqL K H a xs)
  (hs:∀i x σ H,xs[i]?=some x->Pv i σ H->g x σ H fun σ2 H2=>tb {D with nx:=Pv (i+ 1),ct:=Pv (i+ 1),bk:=D.nx} σ2 H2) (hd:∀σ H,Pv xs.length σ H->D.nx σ H):
  ∃W:Nat->Nat->St->Hp->Prop,(∃m,W 0 m σ H)/\∀i m σ H,W i m σ H->
   ((Itl K a).stop i H/\D.nx σ H)\/((Itl K a).go i H/\∃N:St->Hp->Prop,(∀σ' H',N σ' H'->∃m',m'<m/\W (i+ 1) m' σ' H')/\∀x H',(Itl K a).yld i H x H'->g x σ H' fun σ2 H2=>tb {D with nx:=N,ct:=N,bk:=D.nx} σ2 H2):=by
 refine⟨fun i m σ H=>m=xs.length-i/\i<=xs.length/\Pv i σ H,⟨xs.length,by simp,b7 _,h0⟩,?_⟩
 rintro i m σ H ⟨rfl,hi,p⟩
 have q:=hl i σ H hi p
 by_cases hlt:i<xs.length
 ·refine .inr ⟨⟨xs,xs[i],q,by simp[hlt]⟩,Pv (i+ 1),fun σ' H' p'=>⟨xs.length-(i+ 1),by lia,rfl,hlt,p'⟩,fun x H' y=>?_⟩
  obtain⟨e,y⟩:=y
  subst e
  exact hs i x σ _ (y xs q) p
 ·have e:i=xs.length:=by lia
  subst e
  exact .inl ⟨⟨xs,q,b6 _⟩,hd σ H p⟩
theorem uq {K:PySem.W.Frag} {a:Addr} {xs:List V} {g:TG} {tb:TS} {D:oG} {σ:St} {H:Hp} (Pv:Nat->St->Hp->Prop) (h0:Pv 0 σ H) (hl:∀i σ H,i<=xs.length->Pv i σ H->SqT K H a xs)
  (hs:∀i x σ H,xs[i]?=some x->Pv i σ H->g x σ H fun σ2 H2=>tb {D with nx:=Pv (i+ 1),ct:=Pv (i+ 1),bk:=D.nx} σ2 H2) (hd:∀σ H,Pv xs.length σ H->D.nx σ H):
  ∃W:Nat->Nat->St->Hp->Prop,(∃m,W 0 m σ H)/\∀i m σ H,W i m σ H->
   ((Itt K a).stop i H/\D.nx σ H)\/((Itt K a).go i H/\∃N:St->Hp->Prop,(∀σ' H',N σ' H'->∃m',m'<m/\W (i+ 1) m' σ' H')/\∀x H',(Itt K a).yld i H x H'->g x σ H' fun σ2 H2=>tb {D with nx:=N,ct:=N,bk:=D.nx} σ2 H2):=by
 refine⟨fun i m σ H=>m=xs.length-i/\i<=xs.length/\Pv i σ H,⟨xs.length,by simp,b7 _,h0⟩,?_⟩
 rintro i m σ H ⟨rfl,hi,p⟩
 have q:=hl i σ H hi p
 by_cases hlt:i<xs.length
 ·refine .inr ⟨⟨xs,xs[i],q,by simp[hlt]⟩,Pv (i+ 1),fun σ' H' p'=>⟨xs.length-(i+ 1),by lia,rfl,hlt,p'⟩,fun x H' y=>?_⟩
  obtain⟨e,y⟩:=y
  subst e
  exact hs i x σ _ (y xs q) p
 ·have e:i=xs.length:=by lia
  subst e
  exact .inl ⟨⟨xs,q,b6 _⟩,hd σ H p⟩
theorem sC {lo:Int} {n:Nat} {g:TG} {tb:TS} {D:oG} {σ:St} {H:Hp} (Pv:Nat->St->Hp->Prop) (h0:Pv 0 σ H)
  (hs:∀i σ H,i<n->Pv i σ H->g (.int (lo+i)) σ H fun σ2 H2=>tb {D with nx:=Pv (i+ 1),ct:=Pv (i+ 1),bk:=D.nx} σ2 H2) (hd:∀σ H,Pv n σ H->D.nx σ H):
  ∃W:Nat->Nat->St->Hp->Prop,(∃m,W 0 m σ H)/\∀i m σ H,W i m σ H->
   ((Itr lo n).stop i H/\D.nx σ H)\/((Itr lo n).go i H/\∃N:St->Hp->Prop,(∀σ' H',N σ' H'->∃m',m'<m/\W (i+ 1) m' σ' H')/\∀x H',(Itr lo n).yld i H x H'->g x σ H' fun σ2 H2=>tb {D with nx:=N,ct:=N,bk:=D.nx} σ2 H2):=by
 refine⟨fun i m σ H=>m=n-i/\i<=n/\Pv i σ H,⟨n,by simp,b7 _,h0⟩,?_⟩
 rintro i m σ H ⟨rfl,hi,p⟩
 by_cases hlt:i<n
 ·refine .inr ⟨hlt,Pv (i+ 1),fun σ' H' p'=>⟨n-(i+ 1),by lia,rfl,hlt,p'⟩,fun x H' y=>?_⟩
  obtain⟨e,y⟩:=y
  subst e y
  exact hs i σ _ hlt p
 ·have e:i=n:=by lia
  subst e
  exact .inl ⟨b6 _,hd σ H p⟩
abbrev R2:=V->V->Hp->VK->Prop
def OpR (X:Cx) (f:Value->Value->Sem Value) (r:R2):Prop:=
 ∀(pins:List (Addr×Obj)) (s:Shared) (σ:St) (H:Hp) (x y:V) (v u:Value) (Q:VK),Inv X pins σ H s->iw x v->iw y u->r x y H Q->
  wpAny (model X.prog X.w) X.A (f v u) (EP X pins σ Q) X.xe s
def UnR (X:Cx) (f:Value->Sem Value) (r:V->Hp->VK->Prop):Prop:=
 ∀(pins:List (Addr×Obj)) (s:Shared) (σ:St) (H:Hp) (x:V) (v:Value) (Q:VK),Inv X pins σ H s->iw x v->r x H Q->
  wpAny (model X.prog X.w) X.A (f v) (EP X pins σ Q) X.xe s
def nH (X:Cx) (f:Value) (r:List V->Hp->VK->Prop):Prop:=
 ∀(pins:List (Addr×Obj)) (s:Shared) (σ:St) (H:Hp) (xs:List V) (us:List Value) (Q:VK),Inv X pins σ H s->iA xs us->r xs H Q->
  wpAny (model X.prog X.w) X.A (call f us) (EP X pins σ Q) X.xe s
def tOp (r:R2) (ta tb:TE):TE:=fun σ H Q=>ta σ H fun x H1=>tb σ H1 fun y H2=>r x y H2 Q
def tUn (r:V->Hp->VK->Prop) (ta:TE):TE:=fun σ H Q=>ta σ H fun x H1=>r x H1 Q
def rI (C:Int->Int->Prop) (g:Int->Int->V):R2:=fun x y H Q=>∃i j,x= .int i/\y= .int j/\C i j/\Q (g i j) H
def rI0 (g:Int->Int->V):R2:=fun x y H Q=>∃i j,x= .int i/\y= .int j/\Q (g i j) H
def rU (g:Int->V):V->Hp->VK->Prop:=fun x H Q=>∃i,x= .int i/\Q (g i) H
section
variable {X:Cx} {a b c:Expr} {ta tb tc:TE} {pos:Pos}
theorem Ec (ha:PE X a ta) (hb:PE X b tb) {pins:List (Addr×Obj)} {s:Shared} {σ:St} {H:Hp} {R:V->V->Hp->Prop} (I:Inv X pins σ H s)
  (h:ta σ H fun x H1=>tb σ H1 fun y H2=>R x y H2) {Q:Value->Shared->Prop} {f:Value->Value->Sem Value}
  (hf:∀v u s2 x y H2,Inv X pins σ H2 s2->iw x v->iw y u->R x y H2->wpAny (model X.prog X.w) X.A (f v u) Q X.xe s2):
  wpAny (model X.prog X.w) X.A (eval a X.env) (fun v s₁=>wpAny (model X.prog X.w) X.A (eval b X.env) (fun u s₂=>wpAny (model X.prog X.w) X.A (f v u) Q X.xe s₂) X.xe s₁) X.xe s:=by
 refine thn (ha pins s σ H _ I h) fun v s1 ⟨x,H1,I1,r1,q1⟩=>?_
 refine thn (hb pins s1 σ H1 _ I1 q1) fun u s2 ⟨y,H2,I2,r2,q2⟩=>?_
 exact hf v u s2 x y H2 I2 r1 r2 q2
theorem fH {op:Operator} {r:R2} (ho:OpR X (binaryOp op) r) (ha:PE X a ta) (hb:PE X b tb):PE X (.BinOp a op b pos) (tOp r ta tb):=by
 intro pins s σ H Q I h
 exact wpAny_BinOp (Ec ha hb I h fun v u s2 x y H2 I2 rx ry q=>ho pins s2 σ H2 x y v u Q I2 rx ry q)
theorem Ed {op:UnaryOp} {r:V->Hp->VK->Prop} (ho:UnR X (unaryOp op) r) (ha:PE X a ta):PE X (.UnaryOp op a pos) (tUn r ta):=by
 intro pins s σ H Q I h
 exact UnaryOp_ (thn (ha pins s σ H _ I h) fun v s1 ⟨x,H1,I1,r1,q1⟩=>ho pins s1 σ H1 x v Q I1 r1 q1)
theorem opI {f:Value->Value->Sem Value} {C:Int->Int->Prop} {g:Int->Int->Int}
  (rule:∀(i j:Int) (t u:Tok) (s:Shared) (Q:Value->Shared->Prop) (E:Value->Shared->Prop),C i j->Q (.int (g i j) s.toks) {s with toks:=s.toks+ 1}->wpAny (model X.prog X.w) X.A (f (.int i t) (.int j u)) Q E s):
  OpR X f (rI C fun i j=> .int (g i j)):=by
 intro pins s σ H x y v u Q I rx ry h
 obtain⟨i,j,rfl,rfl,hc,q⟩:=h
 obtain⟨t,rfl⟩:=rx
 obtain⟨t',rfl⟩:=ry
 exact rule i j t t' s _ _ hc ⟨.int (g i j),H,I.tok _,⟨_,rfl⟩,q⟩
theorem Fu {f:Value->Value->Sem Value} {g:Int->Int->Int}
  (rule:∀(i j:Int) (t u:Tok) (s:Shared) (Q:Value->Shared->Prop) (E:Value->Shared->Prop),Q (.int (g i j) s.toks) {s with toks:=s.toks+ 1}->wpAny (model X.prog X.w) X.A (f (.int i t) (.int j u)) Q E s):
  OpR X f (rI0 fun i j=> .int (g i j)):=by
 intro pins s σ H x y v u Q I rx ry h
 obtain⟨i,j,rfl,rfl,q⟩:=h
 obtain⟨t,rfl⟩:=rx
 obtain⟨t',rfl⟩:=ry
 exact rule i j t t' s _ _ ⟨.int (g i j),H,I.tok _,⟨_,rfl⟩,q⟩
theorem DW {f:Value->Value->Sem Value} {g:Int->Int->Bool}
  (rule:∀(i j:Int) (t u:Tok) (s:Shared) (Q:Value->Shared->Prop) (E:Value->Shared->Prop),Q (.bool (g i j)) s->wpAny (model X.prog X.w) X.A (f (.int i t) (.int j u)) Q E s):
  OpR X f (rI0 fun i j=> .bl (g i j)):=by
 intro pins s σ H x y v u Q I rx ry h
 obtain⟨i,j,rfl,rfl,q⟩:=h
 obtain⟨t,rfl⟩:=rx
 obtain⟨t',rfl⟩:=ry
 exact rule i j t t' s _ _ ⟨.bl (g i j),H,I,rfl,q⟩
def Fv (i j:Int):Prop:=0<j/\j<1073741824
def Fw (i j:Int):Prop:=0<=j/\j<=1000000/\i.natAbs<2^64
def Cr (i j:Int):Prop:=(-(2^64)<i/\i<2^64)\/(-(2^64)<j/\j<2^64)
theorem Cr.ok {i j:Int} (h:Cr i j):IntMulOk i j:=by
 rcases h with⟨h1,h2⟩|⟨h1,h2⟩
 ·exact .of_left (intBits_le_64 h1 h2)
 ·exact .of_right (intBits_le_64 h1 h2)
theorem Al:OpR X (binaryOp .Add) (rI0 fun i j=> .int (i+j)):=Fu fun _ _ _ _ _ _ _ q=>add_int q
theorem Ct:OpR X (binaryOp .Sub) (rI0 fun i j=> .int (i-j)):=Fu fun _ _ _ _ _ _ _ q=>sub_int q
theorem Cu:OpR X (binaryOp .Mult) (rI Cr fun i j=> .int (i*j)):=opI fun _ _ _ _ _ _ _ hc q=>mul_int q hc.ok
theorem A5:OpR X (binaryOp .FloorDiv) (rI Fv fun i j=> .int (i/j)):=opI fun i j _ _ _ _ _ hc q=>by
 have h1:(0:Int)<j:=hc.1
 have h2:j<1073741824:=hc.2
 exact floordiv_int (by lia) (by rw[Int.fdiv_eq_ediv_of_nonneg i (by lia)];exact q) (.inl (PyProof.noPylong_small (by lia)))
theorem Cv:OpR X (binaryOp .Mod) (rI (fun _ j=>0<j) fun i j=> .int (i%j)):=opI fun i j _ _ _ _ _ hc q=>by
 have h1:(0:Int)<j:=hc
 exact mod_int' (by lia) (by rw[Int.fmod_eq_emod_of_nonneg i (by lia)];exact q)
theorem Cw:OpR X (binaryOp .Pow) (rI Fw fun i j=> .int (i^j.toNat)):=opI fun _ _ _ _ _ _ _ hc q=>pow_int_small hc.1 hc.2.1 hc.2.2 q
theorem unI {f:Value->Sem Value} {g:Int->Int}
  (rule:∀(i:Int) (t:Tok) (s:Shared) (Q:Value->Shared->Prop) (E:Value->Shared->Prop),Q (.int (g i) s.toks) {s with toks:=s.toks+ 1}->wpAny (model X.prog X.w) X.A (f (.int i t)) Q E s):
  UnR X f (rU fun i=> .int (g i)):=by
 intro pins s σ H x v Q I rx h
 obtain⟨i,rfl,q⟩:=h
 obtain⟨t,rfl⟩:=rx
 exact rule i t s _ _ ⟨.int (g i),H,I.tok _,⟨_,rfl⟩,q⟩
theorem Cy:UnR X (unaryOp .USub) (rU fun i=> .int (-i)):=unI fun _ _ _ _ _ q=>neg_int q
end
def Fx:V->V->Bool
 | .non,.non=>true| .non,.int _=>true| .int _,.non=>true| .non,.bl _=>true| .bl _,.non=>true| .non,.str _=>true| .str _,.non=>true
 | .int _,.int _=>true| .bl _,.bl _=>true| .str _,.str _=>true| .byt _,.byt _=>true
 | .int _,.str _=>true| .str _,.int _=>true| .bl _,.str _=>true| .str _,.bl _=>true
 |_,_=>false
def rEq:R2:=fun x y H Q=>Fx x y=true/\Q (.bl (decide (x=y))) H
def rNe:R2:=fun x y H Q=>Fx x y=true/\Q (.bl (!decide (x=y))) H
theorem xu {i j:Int}:decide (V.int i=V.int j)=(i==j):=by
 rw[dO]
 simp
theorem Am {i j:Bool}:decide (V.bl i=V.bl j)=(i==j):=by
 rw[dO]
 simp
theorem xw {i j:Str}:decide (V.str i=V.str j)=(i==j):=by
 rw[dO]
 simp
theorem xx {i j:Array UInt8}:decide (V.byt i=V.byt j)=(i.toList==j.toList):=by
 rw[dO]
 cases i
 cases j
 simp
section
variable {X:Cx} {a b c:Expr} {ta tb tc:TE} {pos:Pos}
theorem gZ {pins:List (Addr×Obj)} {σ:St} {H:Hp} {s:Shared} {Q:VK} {k k':Bool} (I:Inv X pins σ H s) (q:Q (.bl k) H) (e:k=k'):EP X pins σ Q (.bool k') s:=by
 subst e
 exact⟨.bl k,H,I,rfl,q⟩
theorem qS:OpR X (compareOp .Eq) rEq:=by
 intro pins s σ H x y v u Q I rx ry h
 obtain⟨hs,q⟩:=h
 cases x with
 |non=>
  cases rx
  cases y with
  |non=>cases ry;exact PySem.EqNone.eq_none_none (gZ I q (by simp))
  |bl j=>cases ry;exact PySem.EqNone.eq_none_bool (gZ I q (by simp))
  |int j=>obtain⟨t',rfl⟩:=ry;exact PySem.EqNone.eq_none_int (gZ I q (by simp))
  |str j=>obtain⟨t',rfl⟩:=ry;exact PySem.EqNone.eq_none_str (gZ I q (by simp))
  |_=>exact absurd (show false=true from hs) dN
 |bl i=>
  cases rx
  cases y with
  |non=>cases ry;exact PySem.EqNone.eq_bool_none (gZ I q (by simp))
  |bl j=>cases ry;exact eq_bool (gZ I q Am)
  |str j=>obtain⟨t',rfl⟩:=ry;exact PySem.EqMixed.eq_bool_str (gZ I q (by simp))
  |_=>exact absurd (show false=true from hs) dN
 |int i=>
  obtain⟨t,rfl⟩:=rx
  cases y with
  |non=>cases ry;exact PySem.EqNone.eq_int_none (gZ I q (by simp))
  |int j=>obtain⟨t',rfl⟩:=ry;exact eq_int (gZ I q xu)
  |str j=>obtain⟨t',rfl⟩:=ry;exact PySem.EqMixed.eq_int_str (gZ I q (by simp))
  |_=>exact absurd (show false=true from hs) dN
 |str i=>
  obtain⟨t,rfl⟩:=rx
  cases y with
  |non=>cases ry;exact PySem.EqNone.eq_str_none (gZ I q (by simp))
  |bl j=>cases ry;exact PySem.EqMixed.eq_str_bool (gZ I q (by simp))
  |int j=>obtain⟨t',rfl⟩:=ry;exact PySem.EqMixed.eq_str_int (gZ I q (by simp))
  |str j=>obtain⟨t',rfl⟩:=ry;exact eq_str (gZ I q xw)
  |_=>exact absurd (show false=true from hs) dN
 |byt i=>
  obtain⟨t,rfl⟩:=rx
  cases y with
  |byt j=>obtain⟨t',rfl⟩:=ry;exact PySem.W.eq_bytes (gZ I q xx)
  |_=>exact absurd (show false=true from hs) dN
 |_=>cases y<;>exact absurd (show false=true from hs) dN
theorem mH:OpR X (compareOp .NotEq) rNe:=by
 intro pins s σ H x y v u Q I rx ry h
 obtain⟨hs,q⟩:=h
 cases x with
 |non=>
  cases rx
  cases y with
  |non=>cases ry;exact PySem.EqNone.ne_none_none (gZ I q (by simp))
  |bl j=>cases ry;exact PySem.EqNone.ne_none_bool (gZ I q (by simp))
  |int j=>obtain⟨t',rfl⟩:=ry;exact PySem.EqNone.ne_none_int (gZ I q (by simp))
  |str j=>obtain⟨t',rfl⟩:=ry;exact PySem.EqNone.ne_none_str (gZ I q (by simp))
  |_=>exact absurd (show false=true from hs) dN
 |bl i=>
  cases rx
  cases y with
  |non=>cases ry;exact PySem.EqNone.ne_bool_none (gZ I q (by simp))
  |bl j=>cases ry;exact ne_bool (gZ I q (congrArg not Am))
  |str j=>obtain⟨t',rfl⟩:=ry;exact PySem.EqMixed.ne_bool_str (gZ I q (by simp))
  |_=>exact absurd (show false=true from hs) dN
 |int i=>
  obtain⟨t,rfl⟩:=rx
  cases y with
  |non=>cases ry;exact PySem.EqNone.ne_int_none (gZ I q (by simp))
  |int j=>obtain⟨t',rfl⟩:=ry;exact ne_int (gZ I q (congrArg not xu))
  |str j=>obtain⟨t',rfl⟩:=ry;exact PySem.EqMixed.ne_int_str (gZ I q (by simp))
  |_=>exact absurd (show false=true from hs) dN
 |str i=>
  obtain⟨t,rfl⟩:=rx
  cases y with
  |non=>cases ry;exact PySem.EqNone.ne_str_none (gZ I q (by simp))
  |bl j=>cases ry;exact PySem.EqMixed.ne_str_bool (gZ I q (by simp))
  |int j=>obtain⟨t',rfl⟩:=ry;exact PySem.EqMixed.ne_str_int (gZ I q (by simp))
  |str j=>obtain⟨t',rfl⟩:=ry;exact ne_str (gZ I q (congrArg not xw))
  |_=>exact absurd (show false=true from hs) dN
 |byt i=>
  obtain⟨t,rfl⟩:=rx
  cases y with
  |byt j=>obtain⟨t',rfl⟩:=ry;exact PySem.W.ne_bytes (gZ I q (congrArg not xx))
  |_=>exact absurd (show false=true from hs) dN
 |_=>cases y<;>exact absurd (show false=true from hs) dN
theorem Ee:OpR X (compareOp .Lt) (rI0 fun i j=> .bl (decide (i<j))):=DW fun _ _ _ _ _ _ _ q=>lt_int q
theorem wg:OpR X (compareOp .LtE) (rI0 fun i j=> .bl (decide (i<=j))):=DW fun _ _ _ _ _ _ _ q=>le_int q
theorem A6:OpR X (compareOp .Gt) (rI0 fun i j=> .bl (decide (j<i))):=DW fun _ _ _ _ _ _ _ q=>gt_int q
theorem Ef:OpR X (compareOp .GtE) (rI0 fun i j=> .bl (decide (j<=i))):=DW fun _ _ _ _ _ _ _ q=>ge_int q
theorem sE:OpR X (compareOp .In) (fun x y H Q=>∃i j,x= .str i/\y= .str j/\Q (.bl (!(Builtin.Str.occurrences j i 0 j.length 1).isEmpty)) H):=by
 intro pins s σ H x y v u Q I rx ry h
 obtain⟨i,j,rfl,rfl,q⟩:=h
 obtain⟨t,rfl⟩:=rx
 obtain⟨t',rfl⟩:=ry
 exact in_str (gZ I q rfl)
theorem fD (b:Expr) {op:CmpOp} (h:autoParam (op≠ .In) L2.Internal.auD._auto_1) (h2:autoParam (op≠ .NotIn) L2.Internal.auD._auto_1):behindInMarks op b=false:=by
 have e1:(op==CmpOp.In)=false:=by cases op<;>first|rfl|exact absurd rfl h
 have e2:(op==CmpOp.NotIn)=false:=by cases op<;>first|rfl|exact absurd rfl h2
 cases b<;>simp[behindInMarks,e1,e2]
theorem jf {op:CmpOp} {r:R2} (ho:OpR X (compareOp op) r) (ha:PE X a ta) (hb:PE X b tb) (hm:behindInMarks op b=false):PE X (.Compare a [op] [b] pos) (tOp r ta tb):=by
 intro pins s σ H Q I h
 exact wpAny_Compare1 (Ec ha hb I h fun v u s2 x y H2 I2 rx ry q=>ho pins s2 σ H2 x y v u Q I2 rx ry q) hm
def Cz (t:TE):TT:=fun σ H Q=>t σ H fun x H'=>∃k,x= .bl k/\Q k H'
theorem iR {op:CmpOp} {r:R2} (ho:OpR X (compareOp op) r) (ha:PE X a ta) (hb:PE X b tb) (hm:behindInMarks op b=false):PT X (.Compare a [op] [b] pos) (Cz (tOp r ta tb)):=by
 intro pins s σ H Q I h
 refine wpAny_isTrue_Compare1 (thn (ha pins s σ H _ I h) fun v s1 ⟨x,H1,I1,r1,q1⟩=>thn (hb pins s1 σ H1 _ I1 q1) fun u s2 ⟨y,H2,I2,r2,q2⟩=>
  thn (ho pins s2 σ H2 x y v u _ I2 r1 r2 q2) fun c s3 ⟨z,H3,I3,r3,k,e,q3⟩=>?_) hm
 subst e
 cases r3
 exact wpAny_truthy_bool ⟨H3,I3,q3⟩
def CA (r r':R2) (ta tb tc:TE):TE:=fun σ H Q=>ta σ H fun x H1=>tb σ H1 fun y H2=>r x y H2 fun z H3=>∃k,z= .bl k/\
 (if k=true then tc σ H3 fun w' H4=>r' y w' H4 Q else Q (.bl false) H3)
theorem qT {op op':CmpOp} {r r':R2} (ho:OpR X (compareOp op) r) (ho':OpR X (compareOp op') r') (ha:PE X a ta) (hb:PE X b tb) (hc:PE X c tc)
  (hm:lastMarks [op,op'] [b,c]=false:=by with_unfolding_all rfl):PT X (.Compare a [op,op'] [b,c] pos) (Cz (CA r r' ta tb tc)):=by
 intro pins s σ H Q I h
 refine isTrue_chain (thn (ha pins s σ H _ I h) fun v s1 ⟨x,H1,I1,r1,q1⟩=>test_link (thn (hb pins s1 σ H1 _ I1 q1) fun u s2 ⟨y,H2,I2,r2,q2⟩=>
  thn (ho pins s2 σ H2 x y v u _ I2 r1 r2 q2) fun d s3 ⟨z,H3,I3,r3,k,e,q3⟩=>?_)) hm
 subst e
 cases r3
 refine wpAny_truthy_bool ?_
 cases k with
 |false=>
  obtain⟨k',e',q'⟩:=q3
  cases e'
  exact ite_ff ⟨H3,I3,q'⟩
 |true=>
  refine ite_tt (test_last (thn (hc pins s3 σ H3 _ I3 q3) fun w' s4 ⟨z',H4,I4,r4,q4⟩=>thn (ho' pins s4 σ H4 y z' u w' _ I4 r2 r4 q4) fun d' s5 ⟨z2,H5,I5,r5,k2,e2,q5⟩=>?_))
  subst e2
  cases r5
  exact wpAny_truthy_bool ⟨H5,I5,q5⟩
theorem qr:(sizeLine:Nat)<2^63:=by rw[sizeLine_eq];decide
theorem qt:OpR X (binaryOp .Add) (fun x y H Q=>∃i j,x= .str i/\y= .str j/\i.length+j.length<=sizeLine/\Q (.str (i++j)) H):=by
 intro pins s σ H x y v u Q I rx ry h
 obtain⟨i,j,rfl,rfl,hz,q⟩:=h
 obtain⟨t,rfl⟩:=rx
 obtain⟨t',rfl⟩:=ry
 exact add_str (fun t' tk=>⟨.str (i++j),H,I.tok _,⟨_,rfl⟩,q⟩) hz
theorem mr {x:V} {us:List Value} (r:iA [x] us):∃u,us=[u]/\iw x u:=by
 cases r with
 |cons r1 r2=>cases r2;exact⟨_,rfl,r1⟩
theorem A7 {x y:V} {us:List Value} (r:iA [x,y] us):∃u w',us=[u,w']/\iw x u/\iw y w':=by
 cases r with
 |cons r1 r2=>
  cases r2 with
  |cons r3 r4=>cases r4;exact⟨_,_,rfl,r1,r3⟩
theorem xy (hc:X.calm=true):nH X (.builtin "min") (fun xs H Q=>∃i j,xs=[.int i,.int j]/\Q (.int (if j<i then j else i)) H):=by
 intro pins s σ H xs us Q I r h
 obtain⟨i,j,rfl,q⟩:=h
 obtain⟨u,w',rfl,⟨t,rfl⟩,⟨t',rfl⟩⟩:=A7 r
 refine min_two_ints (I.ok.hd hc) fun h' tk k=>⟨_,H,I.kept k,?_,q⟩
 by_cases hj:j<i
 ·rw[if_pos hj,if_pos hj];exact⟨_,rfl⟩
 ·rw[if_neg hj,if_neg hj];exact⟨_,rfl⟩
theorem lQ:nH X (.type "int") (fun xs H Q=>(∃i,xs=[.int i]/\Q (.int i) H)\/∃k,xs=[.bl k]/\Q (.int (if k then 1 else 0)) H):=by
 intro pins s σ H xs us Q I r h
 rcases h with⟨i,rfl,q⟩|⟨k,rfl,q⟩
 ·obtain⟨u,rfl,t,rfl⟩:=mr r
  exact call_int_int ⟨.int i,H,I,⟨_,rfl⟩,q⟩
 ·obtain⟨u,rfl,r1⟩:=mr r
  cases r1
  exact call_int_bool ⟨.int (if k then 1 else 0),H,I.tok _,⟨_,rfl⟩,q⟩
theorem lR:nH X (.type "str") (fun xs H Q=>∃i,xs=[.int i]/\i.natAbs.log2<1920/\Q (.str (toString i)) H):=by
 intro pins s σ H xs us Q I r h
 obtain⟨i,rfl,hz,q⟩:=h
 obtain⟨u,rfl,t,rfl⟩:=mr r
 exact PySem.P.str_of_int hz ⟨.str _,H,I.tok _,⟨_,rfl⟩,q⟩
end
structure A8 (h:Heap) (x dx C:Addr) (mA:Str->Option Value):Prop where
 obj:h.get? x=some (cE C dx)
 ns:h.Ns1 dx mA
 ne:dx≠x
theorem xA {h:Heap} {dx:Addr} {mA:Str->Option Value} (n:h.Ns1 dx mA):∃od,h.get? dx=some od/\∀name,cK name od=some (mA name):=by
 obtain⟨o,es,ep,ho,hd,hk,_,hm⟩:=n
 refine⟨o,ho,fun name=>?_⟩
 have e:=hm name
 unfold nsFind findBy at e
 rw[<-Array.find?_toList]at e
 unfold cK
 rw[hd]
 dsimp only
 split
 ·rename_i y q
  rw[q]at e
  exact congrArg some e
 ·rename_i q
  rw[q]at e
  have a:es.toList.any (·.refKey)=false:=by
   rw[List.any_eq_false]
   intro y hy
   obtain⟨z,t,hkey⟩:=hk y (Array.mem_toList_iff.mp hy)
   simp[DictEntry.refKey,hkey]
  have a':¬es.toList.any (·.refKey)=true:=by rw[a];exact dN
  rw[if_neg a']
  exact congrArg some e
theorem A8.look {h:Heap} {x dx C:Addr} {mA:Str->Option Value} (I:A8 h x dx C mA):∃od,PySem.W.InstAt h x (cE C dx) C (some od)/\∀name,cK name od=some (mA name):=
 let⟨od,ho,hl⟩:=xA I.ns
 ⟨od,⟨I.obj,rfl,rfl,ho⟩,hl⟩
section
variable {prog:Program} {w:World} {A:Around} {E:Value->Shared->Prop} {s:Shared} {K:PySem.W.Frag} {x dx C f:Addr} {mA:Str->Option Value} {name:Str} {v:Value}
theorem A9 {expr:Bool} {Q:Value->Shared->Prop} (X:K.In s.heap) (I:A8 s.heap x dx C mA) (hg:cM K C name=true) (hh:cN K C=true)
  (ha:cO K (.ref C) name=some none) (hv:mA name=some v) (hv':PySem.W.handedIn v=true) (h:Q v {s with toks:=s.toks+ 1}):
  wpAny (model prog w) A (getAttr (.ref x) name expr) Q E s:=by
 obtain⟨od,J,hl⟩:=I.look
 exact PySem.W.get_value X J (cP hg).1 (PySem.W.findObj_own hh ha rfl (by rw[hl,hv])) hv' h
theorem zg {pl:Sem Bool} {Q:Value×List Value->Shared->Prop} (X:K.In s.heap) (I:A8 s.heap x dx C mA) (hg:cM K C name=true)
  (hf:cO K (.ref C) name=some (some (.ref f))) (ht:cQ K (.ref f)=true) (hv:mA name=none) (h:Q (.ref f,[.ref x]) s):
  wpAny (model prog w) A (getMethod (.ref x) name pl) Q E s:=by
 obtain⟨od,J,hl⟩:=I.look
 exact PySem.W.method_fn X J (cP hg).1 (cP hg).2 hf (beq_iff_eq.mp ht) (by show(cK name od).map (·.isSome)=some false;rw[hl,hv];rfl) h
theorem Ba {ns:List Str} {Q:Unit->Shared->Prop} (X:K.In s.heap) (I:A8 s.heap x dx C mA)
  (hs:cO K (.ref C) "__setattr__"=some (some (.builtin "object.__setattr__"))) (hp:cR K C=true) (ht:cU K C name=some none) (hh:cN K C=true)
  (hw:PySem.Within mA ns) (hsz:ns.length<=sizeLine)
  (h:∀h',A8 h' x dx C (fun y=>if y=name then some v else mA y)->Heap.SameBut dx s.heap h'->Q () {s with heap:=h',toks:=s.toks+ 2}):
  wpAny (model prog w) A (setAttr (.ref x) name v) Q E s:=by
 obtain⟨od,J,hl⟩:=I.look
 refine PySem.W.set_plain X J hs (PySem.W.osa_open (s:={s with toks:=s.toks+ 1}) (r:=none) X J hp ht fun b=>?_)
 obtain⟨cd,hc,hd'⟩:=PySem.W.any_some hh
 have hx:s.heap.get? x=some ⟨.ref C,some dx,.plain,#[]⟩:=I.obj
 refine wpAny_bind (wpAny_pure (wpAny_bind (wpAny_bind (wpAny_loadPart hx (wpAny_bind (PySem.W.Looks.here (s:={s with toks:=s.toks+ 1}) (PySem.W.looks_clsIn X hc) ?_))))))
 rw[hd']
 refine wpAny_pure (a:=some dx) (wpAny_bind (wpAny_pure (wpAny_bind ?_)))
 refine wpAny_nsSet1 (s:={s with toks:=s.toks+ 1}) I.ns fun h' hn2 hs2=>?_
 obtain⟨oD,esD,epD,hoD,hdD,hcD⟩:=hn2.count (PySem.Within.cons name v hw)
 refine wpAny_bind (wpAny_lookBehind hoD (by rw[hdD];exact pastItsLine_dict (bX hcD (by rw[az];lia))) ?_)
 exact wpAny_pure (h _ ⟨(hs2.2 _ (Ne.symm I.ne)).trans I.obj,hn2,I.ne⟩ hs2)
theorem zh {R:Result->Shared->Prop} {vs:List Value} {kw:List (Str×Value)} (X:K.In s.heap) (hm:cW K C=true)
  (hi:cO K (.ref C) "__init__"=some (some (.ref f))) (hf:PySem.W.typeIn K (.ref f)=some (.type "function"))
  (h:codeAny (model prog w) (A.under (.builtin "type.__call__" ⟨.ref C::vs,kw⟩)) (.call (.ref f) ⟨.ref (s.heap.objs.size+ 1)::vs,kw⟩) (PySem.W.InitBack (s.heap.objs.size+ 1) R)
   {s with heap:=(s.heap.push cX).push (cE C s.heap.objs.size)}):
  codeAny (model prog w) A (.call (.ref C) ⟨vs,kw⟩) R s:=by
 obtain⟨hh,g,d,t,os⟩:=s
 exact PySem.W.make_core (PySem.W.makes_of X hm) (PySem.W.looks_findIn X hi) (fun self=>PySem.W.bind_fn X self hf) (.inl rfl) h
end
def jh (f:Str) (v:V):List (Str×V)->List (Str×V)
 |[]=>[(f,v)]
 |(g,x)::r=>if g=f then(g,v)::r else(g,x)::jh f v r
theorem oV (f g:Str) (v:V):∀fs:List (Str×V),(jh f v fs).lookup g=if g=f then some v else fs.lookup g
 |[]=>by
  show aA g [(f,v)]=_
  by_cases h:g=f
  ·have hb:(g==f)=true:=beq_iff_eq.mpr h
   simp only[aA,hb,if_pos h]
  ·have hb:(g==f)=false:=beq_eq_false_iff_ne.mpr h
   simp only[aA,hb,if_neg h]
 |(k,x)::r=>by
  have ih:=oV f g v r
  rw[show jh f v ((k,x)::r)=(if k=f then(k,v)::r else(k,x)::jh f v r)from rfl]
  by_cases hk:k=f
  ·rw[if_pos hk]
   by_cases h:g=k
   ·have hb:(g==k)=true:=beq_iff_eq.mpr h
    simp only[aA,hb,if_pos (h.trans hk)]
   ·have hb:(g==k)=false:=beq_eq_false_iff_ne.mpr h
    simp only[aA,hb,if_neg (fun e:g=f=>h (e.trans hk.symm))]
  ·rw[if_neg hk]
   by_cases h:g=k
   ·have hb:(g==k)=true:=beq_iff_eq.mpr h
    simp only[aA,hb,if_neg (fun e:g=f=>hk (h.symm.trans e))]
   ·have hb:(g==k)=false:=beq_eq_false_iff_ne.mpr h
    simp only[aA,hb]
    exact ih
theorem oW (f:Str) (v:V):∀fs:List (Str×V),f∈(jh f v fs).map (·.1)/\∀g,g∈fs.map (·.1)->g∈(jh f v fs).map (·.1)
 |[]=>⟨by simp[jh],fun g h=>by simp at h⟩
 |(k,x)::r=>by
  obtain⟨i1,i2⟩:=oW f v r
  rw[show jh f v ((k,x)::r)=(if k=f then(k,v)::r else(k,x)::jh f v r)from rfl]
  by_cases hk:k=f
  ·rw[if_pos hk]
   subst hk
   exact⟨by simp,fun g h=>by simpa using h⟩
  ·rw[if_neg hk]
   refine⟨?_,fun g h=>?_⟩
   ·rw[aB]
    exact ai _ i1
   ·rw[aB]at h⊢
    rcases aj.mp h with e|e
    ·exact aj.mpr (.inl e)
    ·exact ai _ (i2 g e)
theorem oX (f:Str) (v:V):∀fs:List (Str×V),(jh f v fs).length<=fs.length+ 1
 |[]=>by simp[jh]
 |(k,x)::r=>by
  have ih:=oX f v r
  rw[show jh f v ((k,x)::r)=(if k=f then(k,v)::r else(k,x)::jh f v r)from rfl]
  by_cases hk:k=f
  ·rw[if_pos hk,az,az];lia
  ·rw[if_neg hk,az,az];lia
theorem sr.some_of {v:V} {o:Option Value} (r:sr (some v) o):∃u,o=some u/\iw v u:=by
 cases o with
 |none=>exact(show False from r).elim
 |some u=>exact⟨u,rfl,r⟩
theorem sr.none_of {o:Option Value} (r:sr none o):o=none:=by
 cases o with
 |none=>rfl
 |some u=>exact(show False from r).elim
theorem xB {v:V} {u:Value} (r:iw v u):PySem.W.handedIn u=true:=by
 cases v with
 |non=>cases(show u=Value.none from r);rfl
 |bl b=>cases(show u=Value.bool b from r);rfl
 |int i=>obtain⟨t,e⟩:=(show ∃t,u=Value.int i t from r);cases e;rfl
 |str x=>obtain⟨t,e⟩:=(show ∃t,u=Value.str x t from r);cases e;rfl
 |byt b=>obtain⟨t,e⟩:=(show ∃t,u=Value.bytes b t from r);cases e;rfl
 |flt b=>obtain⟨t,e⟩:=(show ∃t,u=Value.float b t from r);cases e;rfl
 |ref a=>cases(show u=Value.ref a from r);rfl
 |ty n=>cases(show u=Value.type n from r);rfl
section
variable {P:Program} {w:World} {H H':Hp} {h h':Heap} {a C dx:Addr} {fs fs':List (Str×V)}
theorem qU (hok:HOk P w H h) (e:H a=some (.ins C dx fs)):∃mA,A8 h a dx C mA/\(∀f,sr (fs.lookup f) (mA f))/\PySem.Within mA (fs.map (·.1))/\fs.length<=1000/\H dx=some (.own a):=by
 obtain⟨d,z,ne,ob,mA,n,r,q⟩:=(show jw P w H h a (.ins C dx fs)from hok a _ e)
 exact⟨mA,⟨ob,n,ne⟩,r,q,z,d⟩
end
structure Cls (K:PySem.W.Frag) (C:Addr):Prop where
 pg:cM K C Str.empty=true
 hd:cN K C=true
 po:cR K C=true
 sa:cO K (.ref C) "__setattr__"=some (some (.builtin "object.__setattr__"))
theorem Cls.get {K:PySem.W.Frag} {C:Addr} (c:Cls K C) (f:Str):cM K C f=true:=c.pg
def hZ (K:PySem.W.Frag) (C:Addr) (f:Str):Prop:=cO K (.ref C) f=some none
theorem hZ.taker {K:PySem.W.Frag} {C:Addr} {f:Str} (n:hZ K C f):cU K C f=some none:=by
 unfold cU
 rw[show cO K (.ref C) f=some none from n]
 rfl
structure Con (K:PySem.W.Frag) (C:Addr) (f:Str) (v:V) (u:Value):Prop where
 at_:cO K (.ref C) f=some (some u)
 rel:iw v u
 get:cY K u "__get__"=some none
 cp:PySem.W.copiedNames.contains f=false
structure oH (K:PySem.W.Frag) (C:Addr) (m:Str) (f:Addr):Prop where
 at_:cO K (.ref C) m=some (some (.ref f))
 fn:cQ K (.ref f)=true
 kp:cZ K (.ref f)=true
section
variable {X:Cx} {pins:List (Addr×Obj)} {σ:St} {H:Hp} {s:Shared} {a C dx:Addr} {fs:List (Str×V)} {f:Str} {v:V} {A:Around} {E:Value->Shared->Prop}
theorem qu {b:Bool} {Q:Value->Shared->Prop} (I:Inv X pins σ H s) (e:H a=some (.ins C dx fs)) (c:Cls X.K C) (n:hZ X.K C f) (l:fs.lookup f=some v)
  (h:∀u s',Inv X pins σ H s'->iw v u->Q u s'):wpAny (model X.prog X.w) A (getAttr (.ref a) f b) Q E s:=by
 obtain⟨mA,O,r,_,_,_⟩:=qU I.hok e
 obtain⟨u,hu,ru⟩:=sr.some_of (v:=v) (o:=mA f) (by rw[<-l];exact r f)
 exact A9 I.kIn O (c.get f) c.hd n hu (xB ru) (h u _ (I.tok _) ru)
theorem qv {m:Str} {g:Addr} {pl:Sem Bool} {Q:Value×List Value->Shared->Prop} (I:Inv X pins σ H s) (e:H a=some (.ins C dx fs)) (c:Cls X.K C) (k:oH X.K C m g) (l:fs.lookup m=none)
  (h:Q (.ref g,[.ref a]) s):wpAny (model X.prog X.w) A (getMethod (.ref a) m pl) Q E s:=by
 obtain⟨mA,O,r,_,_,_⟩:=qU I.hok e
 have hn:mA m=none:=sr.none_of (by rw[<-l];exact r m)
 exact zg I.kIn O (c.get m) k.at_ k.fn hn h
theorem qw {y:V} {u:Value} {Q:Unit->Shared->Prop} (I:Inv X pins σ H s) (e:H a=some (.ins C dx fs)) (c:Cls X.K C) (n:hZ X.K C f) (hl:fs.length<1000) (ry:iw y u)
  (h:∀s',Inv X pins σ (upd H a (.ins C dx (jh f y fs))) s'->Q () s'):wpAny (model X.prog X.w) A (setAttr (.ref a) f u) Q E s:=by
 obtain⟨mA,O,r,wi,_,ho⟩:=qU I.hok e
 have hz:(fs.map (·.1)).length<=sizeLine:=by rw[aC,sizeLine_eq];lia
 refine Ba I.kIn O c.sa c.po n.taker c.hd wi hz fun h' O' sb=>h _ ?_
 have hd:∃o,h'.get? dx=some o:=let⟨o,_,_,e',_⟩:=O'.ns;⟨o,e'⟩
 refine I.write (x:=a) (e:=dx) (by rw[e];exact True.intro) (.inr ho) (fun b q hb z=>(sb.2 b hb).trans z) hd ?_
 refine⟨by rw[fe O.ne];exact ho,?_,O.ne,O'.obj,_,O'.ns,fun g=>?_,fun g hg=>?_⟩
 ·have:=oX f y fs;lia
 ·show sr ((jh f y fs).lookup g) (if g=f then some u else mA g)
  rw[oV]
  by_cases q:g=f
  ·rw[if_pos q,if_pos q];exact ry
  ·rw[if_neg q,if_neg q];exact r g
 ·by_cases q:g=f
  ·rw[q];exact(oW f y fs).1
  ·refine(oW f y fs).2 g (wi g fun z=>hg ?_)
   show(if g=f then some u else mA g)=none
   rw[if_neg q];exact z
theorem Inv.made (I:Inv X pins σ H s):Inv X pins σ (upd (upd H s.heap.objs.size (.own (s.heap.objs.size+ 1))) (s.heap.objs.size+ 1) (.ins C s.heap.objs.size []))
  {s with heap:=(s.heap.push cX).push (cE C s.heap.objs.size)}:=by
 have e1:(s.heap.push cX).get? s.heap.objs.size=some cX:=eJ s.heap rfl
 have e2:((s.heap.push cX).push (cE C s.heap.objs.size)).get? (s.heap.objs.size+ 1)=some (cE C s.heap.objs.size):=by
  have:=eJ (s.heap.push cX) (o:=cE C s.heap.objs.size) rfl
  rwa[eL]at this
 have e3:(s.heap.push cX).Ns s.heap.objs.size (fun _=>none):=⟨cX,#[],_,e1,rfl,(fun e he=>absurd he (by simp)),fun _=>rfl⟩
 have I1:=I.laid (a:=s.heap.objs.size) (o:= .own (s.heap.objs.size+ 1)) (h':=s.heap.push cX) (t':=s.toks) (fun b u q=>eK _ q) (b6 _) ⟨_,e1⟩
 refine I1.laid (a:=s.heap.objs.size+ 1) (o:= .ins C s.heap.objs.size []) (t':=s.toks) (fun b u q=>eK _ q) (Nat.le_of_eq (eL _ _)) ?_
 have ne:s.heap.objs.size≠s.heap.objs.size+ 1:=bW (b8 _)
 refine⟨by rw[fe ne,eV],b7 _,ne,e2,fun _=>none,(Heap.Ns1.of_empty e3).at fun o q=>eK _ q,fun _=>True.intro,fun y hy=>absurd rfl hy⟩
theorem Bb {prog:Program} {w:World} {env:Env} {e:Expr} {f:Str} {pos:Pos} {s:Shared} {Q:Value->Shared->Prop} (hb:attributeBase e f env (eval e env)=eval e env)
  (h:wpAny (model prog w) A (eval e env) (fun o s₁=>wpAny (model prog w) A (getAttr o f true) Q E s₁) E s):wpAny (model prog w) A (eval (.Attribute e f pos) env) Q E s:=
 Attribute_any_ h (by rw[arm_eval_Attribute,hb])
end
def tFld (K:PySem.W.Frag) (ta:TE) (f:Str):TE:=fun σ H Q=>ta σ H fun x H1=>∃a C dx fs v,x= .ref a/\H1 a=some (.ins C dx fs)/\Cls K C/\hZ K C f/\fs.lookup f=some v/\Q v H1
def Fy (K:PySem.W.Frag) (ta tv:TE) (f:Str):TS:=fun D σ H=>tv σ H fun y H1=>ta σ H1 fun x H2=>∃a C dx fs,x= .ref a/\H2 a=some (.ins C dx fs)/\Cls K C/\hZ K C f/\fs.length<1000/\
 D.nx σ (upd H2 a (.ins C dx (jh f y fs)))
def FA (X:Cx) (op:Operator) (rd:V->V->Hp->VK->Prop):Prop:=
 ∀(pins:List (Addr×Obj)) (s:Shared) (σ:St) (H:Hp) (x y:V) (u v:Value) (Q:VK),Inv X pins σ H s->iw x u->iw y v->rd x y H Q->wpAny (model X.prog X.w) X.A (inplaceOp op u v) (EP X pins σ Q) X.xe s
def Bc (K:PySem.W.Frag) (ta tv:TE) (rd:V->V->Hp->VK->Prop) (f:Str):TS:=fun D σ H=>ta σ H fun x H1=>∃a C dx fs v,x= .ref a/\H1 a=some (.ins C dx fs)/\Cls K C/\hZ K C f/\fs.lookup f=some v/\
 tv σ H1 fun y H2=>rd v y H2 fun z H3=>∃dx' fs',H3 a=some (.ins C dx' fs')/\fs'.length<1000/\D.nx σ (upd H3 a (.ins C dx' (jh f z fs')))
section
variable {X:Cx} {o e value:Expr} {f:Str} {pos pos' tpos:Pos} {ta tv:TE}
theorem m9 (he:PE X e ta) (hb:attributeBase e f X.env (eval e X.env)=eval e X.env):PE X (.Attribute e f pos) (tFld X.K ta f):=by
 intro pins s σ H Q I h
 refine Bb hb (thn (he pins s σ H _ I h) fun u s1 ⟨x,H1,I1,rx,a,C,dx,fs,v,ex,ea,c,n,l,q⟩=>?_)
 subst ex
 obtain rfl:u=Value.ref a:=rx
 exact qu I1 ea c n l fun u' s2 I2 ru=>⟨v,H1,I2,ru,q⟩
theorem iK (ha:PE X o ta) (hv:PE X value tv) (hs:swapsWith value (some (.Attribute o f pos')) pos.line X.env=pure false):PS X (.Assign [.Attribute o f pos'] value pos) (Fy X.K ta tv f):=by
 intro pins s σ H D I h
 refine plainObj_wpAny_Assign_Attribute (thn (hv pins s σ H _ I h) fun u s1 ⟨y,H1,I1,ry,q⟩=>thn (ha pins s1 σ H1 _ I1 q) fun ov s2 ⟨x,H2,I2,rx,a,C,dx,fs,ex,ea,c,n,l,q2⟩=>?_) hs
 subst ex
 obtain rfl:ov=Value.ref a:=rx
 exact qw I2 ea c n l ry fun s3 I3=>⟨σ,_,I3,q2⟩
theorem sF {op:Operator} {rd:V->V->Hp->VK->Prop} (ha:PE X o ta) (hv:PE X value tv) (hop:FA X op rd):PS X (.AugAssign (.Attribute o f tpos) op value pos) (Bc X.K ta tv rd f):=by
 intro pins s σ H D I h
 refine wpAny_AugAssign_AttributeAny (thn (ha pins s σ H _ I h) fun ov s1 ⟨x,H1,I1,rx,a,C,dx,fs,v,ex,ea,c,n,l,q⟩=>?_)
 subst ex
 obtain rfl:ov=Value.ref a:=rx
 refine qu I1 ea c n l fun u s2 I2 ru=>thn (hv pins s2 σ H1 _ I2 q) fun w3 s3 ⟨y,H2,I3,ry,q3⟩=>thn (hop pins s3 σ H2 v y u w3 _ I3 ru ry q3) fun w4 s4 ⟨z,H3,I4,rz,dx',fs',ea',l',q4⟩=>?_
 exact qw I4 ea' c n l' rz fun s5 I5=>⟨σ,_,I5,q4⟩
def rAdd:V->V->Hp->VK->Prop:=fun x y H Q=>∃i j,x= .int i/\y= .int j/\Q (.int (i+j)) H
theorem An:FA X .Add rAdd:=by
 rintro pins s σ H x y u v Q I rx ry ⟨i,j,rfl,rfl,q⟩
 obtain⟨t,rfl⟩:=(show ∃t,u=Value.int i t from rx)
 obtain⟨t',rfl⟩:=(show ∃t',v=Value.int j t' from ry)
 exact PyProof.Rows.iadd_int ⟨.int (i+j),H,I.tok _,⟨_,rfl⟩,q⟩
end
section
variable {X:Cx} {pins:List (Addr×Obj)} {σ:St} {H:Hp} {s:Shared} {A:Around} {E:Value->Shared->Prop} {Q:Value->Shared->Prop} {c:Value} {b:Bool}
inductive sk (K:PySem.W.Frag) (H:Hp):V->Value->Prop where
 |non:sk K H .non (.type "NoneType")
 |bl (x:Bool):sk K H (.bl x) (.type "bool")
 |int (i:Int):sk K H (.int i) (.type "int")
 |str (x:Str):sk K H (.str x) (.type "str")
 |flt (x:UInt64):sk K H (.flt x) (.type "float")
 |lst {a:Addr} {xs:List V} (e:H a=some (.lst xs)):sk K H (.ref a) (.type "list")
 |frz {a:Addr} {o:Obj} {xs:List V} (e:H a=some (.frz o (.lst xs))):sk K H (.ref a) (.type "list")
 |tup {a:Addr} {xs:List V} (e:H a=some (.tup xs)):sk K H (.ref a) (.type "tuple")
 |dK {a:Addr} {kvs:List (Key×V)} (e:H a=some (.dK kvs)):sk K H (.ref a) (.type "dict")
 |dT {a:Addr} {kvs:List (List Key×V)} (e:H a=some (.dT kvs)):sk K H (.ref a) (.type "dict")
 |ins {a C dx:Addr} {fs:List (Str×V)} (e:H a=some (.ins C dx fs)) (cl:Cls K C) (ha:cO K (.ref C) "__class__"=some (some (.builtin "object.__class__")))
   (hn:cY K (.builtin "object.__class__") "__get__"=some (some (.builtin "getset_descriptor.__get__"))) (htk:c7 K (.builtin "object.__class__")=some true)
   (hm:c8 K C (.type "object")=some true):sk K H (.ref a) (.ref C)
theorem xC {x:V} {u t:Value} (I:Inv X pins σ H s) (rx:iw x u) (ty:sk X.K H x t) (e:c9 X.K t c=some b) (h:∀tk,Q (.bool b) {s with toks:=tk}):
  wpAny (model X.prog X.w) A (call (.builtin "isinstance") [u,c]) Q E s:=by
 cases ty with
 |non=>cases(show u=Value.none from rx);exact da PySem.W.kitx_none I.kIn True.intro e (fun z=>nomatch z) h
 |bl y=>cases(show u=Value.bool y from rx);exact da PySem.W.kitx_bool I.kIn True.intro e (fun z=>nomatch z) h
 |int i=>obtain⟨t,q⟩:=(show ∃t,u=Value.int i t from rx);cases q;exact da PySem.W.kitx_int I.kIn True.intro e (fun z=>nomatch z) h
 |str y=>obtain⟨t,q⟩:=(show ∃t,u=Value.str y t from rx);cases q;exact da PySem.W.kitx_str I.kIn True.intro e (fun z=>nomatch z) h
 |flt y=>obtain⟨t,q⟩:=(show ∃t,u=Value.float y t from rx);cases q;exact da PySem.W.kitx_float I.kIn True.intro e (fun z=>nomatch z) h
 |@lst a xs ea=>
  cases(show u=Value.ref a from rx)
  obtain⟨_,_,n,_,h1⟩:=(show jw X.prog X.w H s.heap a (.lst xs)from I.hok a _ ea)
  exact da dc I.kIn ⟨_,h1,rfl⟩ e (fun z=>nomatch z) h
 |@frz a ob xs ea=>
  cases(show u=Value.ref a from rx)
  obtain⟨_,_,_,n,_,h1⟩:=(show jw X.prog X.w H s.heap a (.frz ob (.lst xs))from I.hok a _ ea)
  exact da dc I.kIn ⟨_,h1,rfl⟩ e (fun z=>nomatch z) h
 |@tup a xs ea=>
  cases(show u=Value.ref a from rx)
  obtain⟨_,_,_,p⟩:=(show jw X.prog X.w H s.heap a (.tup xs)from I.hok a _ ea)
  obtain⟨o,h1,h2,_⟩:=p
  exact da PySem.W.kitx_tuple I.kIn ⟨o,h1,h2⟩ e (fun z=>nomatch z) h
 |@dK a kvs ea=>
  cases(show u=Value.ref a from rx)
  obtain⟨_,_,vs,_,p⟩:=(show jw X.prog X.w H s.heap a (.dK kvs)from I.hok a _ ea)
  obtain⟨o,es,ep,h1,h2,_⟩:=p
  exact da df I.kIn ⟨o,h1,h2.1⟩ e (fun z=>nomatch z) h
 |@dT a kvs ea=>
  cases(show u=Value.ref a from rx)
  obtain⟨_,_,xs,_,o,es,ep,h1,h2,_⟩:=(show jw X.prog X.w H s.heap a (.dT kvs)from I.hok a _ ea)
  exact da df I.kIn ⟨o,h1,h2.1⟩ e (fun z=>nomatch z) h
 |@ins a C dx fs ea cl ha hn htk hm=>
  cases(show u=Value.ref a from rx)
  obtain⟨mA,O,_⟩:=qU I.hok ea
  obtain⟨od,J,_⟩:=O.look
  exact da (PySem.W.kitx_own (cl.get _) cl.hd ha hn htk hm) I.kIn J e (fun z=>nomatch z) h
end
structure nh (k:Nat) (A:Around):Prop where
 hd:A.handled=none
 dp:A.depth+ 3*k+ 5<recursionLimit
 un:A.units+ 16*k+ 200<cLine
theorem nh.mono {j k:Nat} {A:Around} (r:nh k A) (h:j<=k):nh j A:=⟨r.hd,by have:=r.dp;lia,by have:=r.un;lia⟩
theorem nh.deeper {k:Nat} {A:Around} (r:nh (k+ 1) A) (env:Env):nh k (A.deeper env):=
 ⟨r.hd,by have:=r.dp;show A.depth+ 1+ 3*k+ 5<_;lia,by have:=r.un;show A.units+ 3+ 16*k+ 200<_;lia⟩
theorem wj {A:Around} {C:Addr} {us:List Value} {kw:List (Str×Value)}:(A.under (.builtin "type.__call__" ⟨.ref C::us,kw⟩)).depth=A.depth+ 1:=by
 first|rfl|simp[Around.under,Code.weight,Code.isCreation,Code.isGuard,Code.isCaller,Code.frames,Code.isFrame,guardIds]
theorem wk {A:Around} {C:Addr} {us:List Value} {kw:List (Str×Value)}:(A.under (.builtin "type.__call__" ⟨.ref C::us,kw⟩)).units=A.units+ 1:=by
 first|rfl|simp[Around.under,Code.cUnits,Code.frames,Code.isFrame]
theorem nh.make {k:Nat} {A:Around} (r:nh (k+ 1) A) (C:Addr) (us:List Value) (kw:List (Str×Value)):nh k (A.under (.builtin "type.__call__" ⟨.ref C::us,kw⟩)):=
 ⟨r.hd,by have:=r.dp;rw[wj];lia,by have:=r.un;rw[wk];lia⟩
theorem nh.depth {k:Nat} {A:Around} (r:nh k A):A.depth<recursionLimit:=by have:=r.dp;lia
theorem nh.units {k:Nat} {A:Around} (r:nh k A):A.units+ 64<cLine:=by have:=r.un;lia
def xD:TA:=fun _ H Q=>Q [] H
def mI (ta:TE) (tr:TA):TA:=fun σ H Q=>ta σ H fun x H1=>tr σ H1 fun xs H2=>Q (x::xs) H2
section
variable {X:Cx} {e:Expr} {es:List Expr} {te:TE} {t:TA} {pos:Pos}
theorem eS:PA X [] xD:=fun _ _ _ _ H Q I h=>Calls.spliced_nil ⟨[],H,I,.nil,h⟩
theorem eQ (ha:PE X e te) (hr:PA X es t) (hs:autoParam (starEach (e::es) X.env=(false,eval e X.env)::starEach es X.env) L2.Internal.auR._auto_1):PA X (e::es) (mI te t):=by
 intro pos pins s σ H Q I h
 rw[hs]
 show wpAny _ _ (spliced ((false,eval e X.env)::backTo pos (starEach es X.env))) _ _ s
 refine Calls.spliced_cons (thn (ha pins s σ H _ I h) fun u s1 ⟨x,H1,I1,r1,q1⟩=>?_)
 exact thn (hr pos pins s1 σ H1 _ I1 q1) fun us s2 ⟨xs,H2,I2,r2,q2⟩=>⟨x::xs,H2,I2,.cons r1 r2,q2⟩
def FC (t:TA):TE:=fun σ H Q=>t σ H fun xs H1=>xs.length<=sizeLine/\∀p,H1 p=none->Q (.ref p) (upd H1 p (.tup xs))
def Eg (t:TA):TE:=fun σ H Q=>t σ H fun xs H1=>xs.length<=sizeLine/\∀p,H1 p=none->Q (.ref p) (upd H1 p (.lst xs))
theorem gG {x1} (h:PA X es t):PE X (.Tuple es x1 pos) (FC t):=by
 intro pins s σ H Q I hq
 refine wpAny_Tuple_spliced (thn (h pos pins s σ H _ I hq) fun us s1 ⟨xs,H1,I1,r,z,q⟩=>⟨by rw[<-r.length];exact z,?_⟩)
 have hf:H1 s1.heap.objs.size=none:=I1.hok.fresh (b6 _)
 refine⟨.ref s1.heap.objs.size,upd H1 s1.heap.objs.size (.tup xs),I1.laid (t':=s1.toks) (fun b u e=>eK _ e) (b6 _) ?_,rfl,q _ hf⟩
 exact⟨z,us,r,⟨_,eJ _ rfl,rfl,_,rfl,rfl⟩⟩
theorem gH (h:PA X es t):PE X (.List es pos) (Eg t):=by
 intro pins s σ H Q I hq
 refine wpAny_List_spliced (thn (h pos pins s σ H _ I hq) fun us s1 ⟨xs,H1,I1,r,z,q⟩=>⟨by rw[<-r.length];exact z,?_⟩)
 have hf:H1 s1.heap.objs.size=none:=I1.hok.fresh (b6 _)
 refine⟨.ref s1.heap.objs.size,upd H1 s1.heap.objs.size (.lst xs),I1.laid (t':=s1.toks) (fun b u e=>eK _ e) (b6 _) ?_,rfl,q _ hf⟩
 exact⟨z,us,0,r,eJ _ rfl⟩
end
abbrev Sp:=List V->Hp->VK->XK->Prop
abbrev CXT:=List Env->Hp->Shared->XK->Value->Shared->Prop
structure Be (P:Program) (w:World) (K:PySem.W.Frag) (mg:Str->Option Value) (base:Heap) (A:Around) (outer:List Env) (s:Shared) (H:Hp):Prop where
 frames:A.frames=some outer
 mod:Mod K mg base
 bs:∀b o,base.get? b=some o->s.heap.get? b=some o/\H b=none
 bsz:base.objs.size<=s.heap.objs.size
 funs:s.heap.FunFrames base outer
 frf:∀b∈frs outer,H b=none
 hok:HOk P w H s.heap
 bare:AllBare s.gens
def CE (outer:List Env) (P:Program) (w:World) (H:Hp) (s:Shared) (Q:VK) (u:Value) (s':Shared):Prop:=
 ∃v H',s'.os=s.os/\AllBare s'.gens/\Un (frs outer) [] H H' s.heap s'.heap/\HOk P w H' s'.heap/\iw v u/\Q v H'
def CR (CX:CXT) (outer:List Env) (P:Program) (w:World) (H:Hp) (s:Shared) (Q:VK) (E:XK) (r:Result) (s':Shared):Prop:=
 match r with
 | .ok (.ret u)=>CE outer P w H s Q u s'
 | .ok _=>False
 | .error e=>CX outer H s E e s'
structure gu (P:Program) (w:World) (K:PySem.W.Frag) (mg:Str->Option Value) (base:Heap) (CX:CXT) (k:Nat) (f:Addr) (fd:FuncData) (ps:List Str) (sp:Sp):Prop where
 len:∀vs H Q E,sp vs H Q E->vs.length=ps.length
 run:∀(A:Around) (outer:List Env) (s:Shared) (H:Hp) (args:Args) (us:List Value) (vs:List V) (Q:VK) (E:XK),nh k A->Be P w K mg base A outer s H->BindsTo s fd args (ps.zip us)->iA vs us->sp vs H Q E->
  codeAny (model P w) A (.call (.ref f) args) (CR CX outer P w H s Q E) s
theorem Be.make {P:Program} {w:World} {K:PySem.W.Frag} {mg:Str->Option Value} {base:Heap} {A:Around} {outer:List Env} {s:Shared} {H:Hp} (e:Be P w K mg base A outer s H) (C:Addr) (us:List Value) (kw:List (Str×Value)):
  Be P w K mg base (A.under (.builtin "type.__call__" ⟨.ref C::us,kw⟩)) outer s H:=⟨by first|exact e.frames|(simpa[Around.under,Code.envs,Code.isFrame,pushEnvs]using e.frames),e.mod,e.bs,e.bsz,e.funs,e.frf,e.hok,e.bare⟩
section
variable {X:Cx} {pins:List (Addr×Obj)} {σ:St} {H:Hp} {s s':Shared}
theorem Inv.env0 (I:Inv X pins σ H s):Be X.prog X.w X.K X.mg X.base X.A X.stack s H:=
 ⟨I.ok.frames,I.ok.mod,I.bs,bX I.ok.bsz I.sz,I.stack,I.stkFree,I.hok,I.bare⟩
theorem Inv.after {Q:VK} {u:Value} (I:Inv X pins σ H s) (h:CE X.stack X.prog X.w H s Q u s'):EP X pins σ Q u s':=by
 obtain⟨v,H',os,bare,un,hok,r,q⟩:=h
 obtain⟨hh,g,d,t,os'⟩:=s'
 obtain rfl:os'=s.os:=os
 exact⟨v,H',I.call (h':=hh) (g':=g) (d':=d) (t':=t) (ch:=[]) un hok bare (fun b z=>absurd z (by simp)),r,q⟩
end
def CC (sp:Sp) (dvs:List V) (E:XK) (t:TA):TE:=fun σ H Q=>t σ H fun vs H1=>sp (vs++dvs) H1 Q E
def Bf (C:Addr) (m:Str) (sp:Sp) (dvs:List V) (E:XK) (ta:TE) (t:TA):TE:=fun σ H Q=>ta σ H fun x H1=>∃a dx fs,x= .ref a/\H1 a=some (.ins C dx fs)/\fs.lookup m=none/\
 t σ H1 fun vs H2=>sp (x::(vs++dvs)) H2 Q E
def CD (C:Addr) (sp:Sp) (dvs:List V) (E:XK) (t:TA):TE:=fun σ H Q=>t σ H fun vs H1=>∀x dx,H1 x=none->H1 dx=none->dx≠x->
 sp (.ref x::(vs++dvs)) (upd (upd H1 dx (.own x)) x (.ins C dx [])) (fun v H2=>v= .non/\Q (.ref x) H2) E
def fW (K:PySem.W.Frag) (fd:FuncData) (ps:List Str) (ds:List Value):Prop:=
 ∀(s:Shared) (us:List Value),K.In s.heap->(us++ds).length=ps.length->BindsTo s fd ⟨us,[]⟩ (ps.zip (us++ds))
theorem fW.all {K:PySem.W.Frag} {fd:FuncData} {ps:List Str} (h:∀us:List Value,us.length=ps.length->bindArgs fd ⟨us,[]⟩=pure (ps.zip us)):fW K fd ps []:=fun s us _ hl=>by
 rw[aD]at hl⊢
 exact .of_eq (h us hl)
def mz (CX:CXT) (X:Cx) (E:XK):Prop:=∀(pins:List (Addr×Obj)) (σ:St) (H:Hp) (s:Shared) (e:Value) (s':Shared),Inv X pins σ H s->CX X.stack H s E e s'->X.xe e s'
section
variable {X:Cx} {CX:CXT} {k:Nat} {f C:Addr} {fd:FuncData} {ps:List Str} {sp:Sp} {dvs:List V} {ds:List Value} {E:XK} {x m:Str} {p pos apos:Pos} {e o:Expr} {es:List Expr} {ta:TE} {t:TA}
theorem vv {pins:List (Addr×Obj)} {σ:St} {H:Hp} {s:Shared} {Q:VK} {us:List Value} {vs:List V} (F:gu X.prog X.w X.K X.mg X.base CX k f fd ps sp) (hr:nh k X.A) (hb:fW X.K fd ps ds) (hd:iA dvs ds) (hx:mz CX X E)
  (I:Inv X pins σ H s) (r:iA vs us) (h:sp (vs++dvs) H Q E):wpAny (model X.prog X.w) X.A (call (.ref f) us) (EP X pins σ Q) X.xe s:=by
 have r2:iA (vs++dvs) (us++ds):=r.append hd
 have hl:(us++ds).length=ps.length:=by rw[<-r2.length];exact F.len _ _ _ _ h
 refine wpAny_call (codeAny_mono (F.run X.A X.stack s H ⟨us,[]⟩ (us++ds) (vs++dvs) Q E hr I.env0 (hb s us I.kIn hl) r2 h) fun r s' hq=>?_)
 cases r with
 |error e=>exact hx pins σ H s e s' I hq
 |ok fl=>
  cases fl with
  |ret u=>exact I.after hq
  |next=>exact False.elim hq
  |brk=>exact False.elim hq
  |cont=>exact False.elim hq
theorem fA (F:gu X.prog X.w X.K X.mg X.base CX k f fd ps sp) (hr:nh k X.A) (hg:Gl X x) (hm:X.mg x=some (.ref f)) (hk:cZ X.K (.ref f)=true) (hb:fW X.K fd ps ds) (hd:iA dvs ds) (hx:mz CX X E)
  (ha:PA X (e::es) t) (hdb:autoParam ((x==("__debug__":Str))=false) L2.Internal.auD._auto_1) (he:autoParam (starEach (e::es) X.env=(false,eval e X.env)::starEach es X.env) L2.Internal.auR._auto_1) (hpl:autoParam ((backTo pos (starEach es X.env)).any (·.1)=false) L2.Internal.auR._auto_1):
  PE X (.Call (.Name x p) (e::es) [] pos) (CC sp dvs E t):=by
 intro pins s σ H Q I h
 refine wpAny_Call_Name_kw (qP I hg hm ?_ hdb)
 refine dh (h₀:=X.base) I.ok.mod.kin hk (thn (ha pos pins s σ H _ I h) fun us s1 ⟨vs,H1,I1,r,q⟩=>⟨I1.kIn,?_⟩) he hpl
 exact vv F hr hb hd hx I1 r q
theorem fQ {pl:Sem Bool} (he:PE X o ta) (c:Cls X.K C) (hm:oH X.K C m f) (F:gu X.prog X.w X.K X.mg X.base CX k f fd ps sp) (hr:nh k X.A) (hb:fW X.K fd ps ds) (hd:iA dvs ds) (hx:mz CX X E) (ha:PA X (e::es) t)
  (hst:autoParam (starEach (e::es) X.env=(false,eval e X.env)::starEach es X.env) L2.Internal.auR._auto_1) (hpl:autoParam ((backTo pos (starEach es X.env)).any (·.1)=false) L2.Internal.auR._auto_1)
  (ht:eval (.Call (.Attribute o m apos) (e::es) [] pos) X.env=(do
   let ov<-eval o X.env
   standAt apos.atName
   let(f,first)<-holding [ov] (getMethod ov m pl)
   callWith pos f first (backTo pos (starEach (e::es) X.env)) (backToKw pos (keywordEach [] X.env))):=by rfl):
  PE X (.Call (.Attribute o m apos) (e::es) [] pos) (Bf C m sp dvs E ta t):=by
 intro pins s σ H Q I h
 refine di (pl:=pl) (thn (he pins s σ H _ I h) fun u s1 ⟨x,H1,I1,rx,a,dx,fs,ex,ea,l,q⟩=>?_) ht
 subst ex
 obtain rfl:u=Value.ref a:=rx
 refine qv I1 ea c hm l ?_
 refine dh (first:=[.ref a]) (h₀:=X.base) I.ok.mod.kin hm.kp (thn (ha pos pins s1 σ H1 _ I1 q) fun us s2 ⟨vs,H2,I2,r,q2⟩=>⟨I2.kIn,?_⟩) hst hpl
 exact vv (us:= .ref a::us) (vs:= .ref a::vs) F hr hb hd hx I2 (.cons rfl r) q2
theorem i8 {pl:Sem Bool} (he:PE X o ta) (c:Cls X.K C) (hm:oH X.K C m f) (F:gu X.prog X.w X.K X.mg X.base CX k f fd ps sp) (hr:nh k X.A) (hb:fW X.K fd ps ds) (hd:iA dvs ds) (hx:mz CX X E)
  (ht:eval (.Call (.Attribute o m apos) [] [] pos) X.env=(do
   let ov<-eval o X.env
   standAt apos.atName
   let(f,first)<-holding [ov] (getMethod ov m pl)
   callWith pos f first (backTo pos (starEach [] X.env)) (backToKw pos (keywordEach [] X.env))):=by rfl):
  PE X (.Call (.Attribute o m apos) [] [] pos) (Bf C m sp dvs E ta xD):=by
 intro pins s σ H Q I h
 refine di (pl:=pl) (thn (he pins s σ H _ I h) fun u s1 ⟨x,H1,I1,rx,a,dx,fs,ex,ea,l,q⟩=>?_) ht
 subst ex
 obtain rfl:u=Value.ref a:=rx
 refine qv I1 ea c hm l ?_
 exact PySem.W.callWith_K0 (first:=[.ref a]) I1.kIn hm.kp (vv (us:=[.ref a]) (vs:=[.ref a]) F hr hb hd hx I1 (.cons rfl .nil) q)
structure Mk (K:PySem.W.Frag) (C f:Addr):Prop where
 makes:cW K C=true
 init:cO K (.ref C) "__init__"=some (some (.ref f))
 fn:cQ K (.ref f)=true
 kp:cZ K (.ref C)=true
theorem zi {pins:List (Addr×Obj)} {σ:St} {H:Hp} {s:Shared} {Q:VK} {us:List Value} {vs:List V} (M:Mk X.K C f) (F:gu X.prog X.w X.K X.mg X.base CX k f fd ps sp) (hr:nh (k+ 1) X.A) (hb:fW X.K fd ps ds) (hd:iA dvs ds)
  (hx:mz CX X E) (I:Inv X pins σ H s) (r:iA vs us)
  (h:∀x dx,H x=none->H dx=none->dx≠x->sp (.ref x::(vs++dvs)) (upd (upd H dx (.own x)) x (.ins C dx [])) (fun v H2=>v= .non/\Q (.ref x) H2) E):
  wpAny (model X.prog X.w) X.A (call (.ref C) us) (EP X pins σ Q) X.xe s:=by
 have hq:=h (s.heap.objs.size+ 1) s.heap.objs.size (I.hok.fresh (cb _)) (I.hok.fresh (b6 _)) (bW (b8 _))
 have I2:=Inv.made (C:=C) I
 have r2:iA (V.ref (s.heap.objs.size+ 1)::(vs++dvs)) (Value.ref (s.heap.objs.size+ 1)::(us++ds)):= .cons rfl (r.append hd)
 have hl:(Value.ref (s.heap.objs.size+ 1)::us++ds).length=ps.length:=by
  have e:=r2.length
  rw[F.len _ _ _ _ hq]at e
  exact e.symm
 refine wpAny_call (zh (f:=f) I.kIn M.makes M.init (beq_iff_eq.mp M.fn) (codeAny_mono (F.run _ X.stack _ _ ⟨Value.ref (s.heap.objs.size+ 1)::us,[]⟩ (Value.ref (s.heap.objs.size+ 1)::(us++ds)) _ _ E (hr.make C us [])
  (I2.env0.make C us []) (hb _ (Value.ref (s.heap.objs.size+ 1)::us) I2.kIn hl) r2 hq) fun r s' hq'=>?_))
 cases r with
 |error e=>exact hx pins σ _ _ e s' I2 hq'
 |ok fl=>
  cases fl with
  |ret u=>
   obtain⟨v,H',I3,rv,ev,q3⟩:=I2.after hq'
   subst ev
   exact⟨rv,⟨V.ref (s.heap.objs.size+ 1),H',I3,rfl,q3⟩⟩
  |next=>exact False.elim hq'
  |brk=>exact False.elim hq'
  |cont=>exact False.elim hq'
theorem qV (M:Mk X.K C f) (F:gu X.prog X.w X.K X.mg X.base CX k f fd ps sp) (hr:nh (k+ 1) X.A) (hg:Gl X x) (hm:X.mg x=some (.ref C)) (hb:fW X.K fd ps ds) (hd:iA dvs ds) (hx:mz CX X E)
  (ha:PA X (e::es) t) (hdb:autoParam ((x==("__debug__":Str))=false) L2.Internal.auD._auto_1) (he:autoParam (starEach (e::es) X.env=(false,eval e X.env)::starEach es X.env) L2.Internal.auR._auto_1) (hpl:autoParam ((backTo pos (starEach es X.env)).any (·.1)=false) L2.Internal.auR._auto_1):
  PE X (.Call (.Name x p) (e::es) [] pos) (CD C sp dvs E t):=by
 intro pins s σ H Q I h
 refine wpAny_Call_Name_kw (qP I hg hm ?_ hdb)
 refine dh (h₀:=X.base) I.ok.mod.kin M.kp (thn (ha pos pins s σ H _ I h) fun us s1 ⟨vs,H1,I1,r,q⟩=>⟨I1.kIn,?_⟩) he hpl
 exact zi M F hr hb hd hx I1 r q
end
section
variable {X:Cx} {CX:CXT} {k:Nat} {f C:Addr} {fd:FuncData} {ps ks:List Str} {sp:Sp} {E:XK} {x m:Str} {p pos apos kpos:Pos} {e o:Expr} {es:List Expr} {kws:List Keyword} {te ta:TE} {t tk:TA} {nm:Option Str}
structure FD (K:PySem.W.Frag) (fd:FuncData) (ps ks:List Str) (g:List Value->List Value->List Value) (gV:List V->List V->List V):Prop where
 to:∀(s:Shared) (us ws:List Value),K.In s.heap->(g us ws).length=ps.length->BindsTo s fd ⟨us,ks.zip ws⟩ (ps.zip (g us ws))
 rel:∀{vs:List V} {us:List Value} {zs:List V} {ws:List Value},iA vs us->iA zs ws->iA (gV vs zs) (g us ws)
variable {g:List Value->List Value->List Value} {gV:List V->List V->List V}
end
structure fo (N P:List Str) (sc:Scope):Prop where
 kind:sc.kind= .function
 co:sc.isCoroutine=false
 gen:sc.isGenerator=false
 nd:N.Nodup
 pre:N.take P.length=P
 par:∀x∈P,sc.names.lookup x=some .local\/sc.names.lookup x=some .cell
 nofree:∀y∈sc.names,y.2≠ .free
theorem sG {kindOf:Str->Option NameKind} {x:Str}:∀{binds:List (Str×Value)} {m:Str->Option Value},(∀v,(x,v)∉binds)->bindL kindOf binds m x=m x
 |[],_,_=>rfl
 |(n,v)::r,m,h=>by
  unfold bindL
  rw[sG fun w hw=>h w (ai _ hw)]
  split
  ·have:x≠n:=by rintro rfl;exact h v ah
   simp[this]
  ·rfl
theorem sH {kindOf:Str->Option NameKind} {x:Str}:∀{binds:List (Str×Value)} {m:Str->Option Value},(∀v,(x,v)∉binds)->bindC kindOf binds m x=m x
 |[],_,_=>rfl
 |(n,v)::r,m,h=>by
  unfold bindC
  rw[sH fun w hw=>h w (ai _ hw)]
  split
  ·rfl
  ·have:x≠n:=by rintro rfl;exact h v ah
   simp[this]
theorem sI {kindOf:Str->Option NameKind} {x:Str} {v:Value}:∀{P:List Str} {vs:List Value} {i:Nat} {m:Str->Option Value},P.Nodup->P[i]?=some x->vs[i]?=some v->kindOf x=some .local->
  bindL kindOf (P.zip vs) m x=some v
 |[],_,_,_,_,h,_,_=>by simp at h
 |_::_,[],_,_,_,_,h,_=>by simp at h
 |p::P,w::vs,0,m,nd,h1,h2,hk=>by
  simp at h1 h2;subst h1;subst h2
  show bindL kindOf ((p,w)::P.zip vs) m p=_
  unfold bindL
  rw[sG fun v hv=>(aE.mp nd).1 (aF hv).1,if_pos hk]
  simp
 |p::P,w::vs,i+ 1,m,nd,h1,h2,hk=>by
  show bindL kindOf ((p,w)::P.zip vs) m x=_
  unfold bindL
  exact sI (i:=i) (aE.mp nd).2 (by simpa using h1) (by simpa using h2) hk
theorem sJ {kindOf:Str->Option NameKind} {x:Str} {v:Value}:∀{P:List Str} {vs:List Value} {i:Nat} {m:Str->Option Value},P.Nodup->P[i]?=some x->vs[i]?=some v->kindOf x≠some .local->
  bindC kindOf (P.zip vs) m x=some v
 |[],_,_,_,_,h,_,_=>by simp at h
 |_::_,[],_,_,_,_,h,_=>by simp at h
 |p::P,w::vs,0,m,nd,h1,h2,hk=>by
  simp at h1 h2;subst h1;subst h2
  show bindC kindOf ((p,w)::P.zip vs) m p=_
  unfold bindC
  rw[sH fun v hv=>(aE.mp nd).1 (aF hv).1,if_neg hk]
  simp
 |p::P,w::vs,i+ 1,m,nd,h1,h2,hk=>by
  show bindC kindOf ((p,w)::P.zip vs) m x=_
  unfold bindC
  exact sJ (i:=i) (aE.mp nd).2 (by simpa using h1) (by simpa using h2) hk
def ou (N:List Str) (vs:List V):St:=vs.map some++aG (N.length-vs.length) none
def ur (CX:CXT) (P:Program) (w:World) (K:PySem.W.Frag) (mg:Str->Option Value) (base:Heap) (N:List Str) (qual:Str) (scope:Scope) (f:Addr) (cd:Value) (A:Around) (outer:List Env) (s:Shared) (H:Hp) (E:XK):Cx where
 prog:=P
 w:=w
 K:=K
 mg:=mg
 base:=base
 A:=A.deeper (envOfC qual scope s.heap.objs.size f cd)
 N:=N
 s₀:=s
 H₀:=H
 env:=envOfC qual scope s.heap.objs.size f cd
 outer:=outer
 stack:=envOfC qual scope s.heap.objs.size f cd::outer
 ex:=[]
 calm:=true
 fn:=fun _=>true
 pn:=[]
 xe:=fun e s'=>wpAny (model P w) (A.deeper (envOfC qual scope s.heap.objs.size f cd)) (leaving (envOfC qual scope s.heap.objs.size f cd) e) (fun _ s''=>CX outer H s E e s'') (fun e' s''=>CX outer H s E e' s'') s'
theorem vw {sc:Scope} {n:Nat} {x:Str} (h:sc.names.lookup x=some .cell):∃c,(cellsFrom n sc.names []).lookup x=some c:=by
 have q:=dj sc.names n [] (.inl h)
 exact cA.mp q
theorem sL {CX:CXT} {P:Program} {w:World} {K:PySem.W.Frag} {mg:Str->Option Value} {base:Heap} {N ps:List Str} {qual:Str} {scope:Scope} {f:Addr} {cd:Value} {A:Around} {outer:List Env} {s s1:Shared} {H:Hp} {E:XK} {us:List Value} {vs:List V}
  (S:fo N ps scope) (hd:A.handled=none) (e0:Be P w K mg base A outer s H) (hl:vs.length=ps.length) (r:iA vs us)
  (x:InCallC s s.heap.objs.size (bindL (envOfC qual scope s.heap.objs.size f cd).kindOf (ps.zip us) fun _=>none) (cellsFrom (s.heap.objs.size+ 1) scope.names []) (bindC (envOfC qual scope s.heap.objs.size f cd).kindOf (ps.zip us) fun _=>none) s1):
  Inv (ur CX P w K mg base N qual scope f cd A outer s H E) [] (ou N vs) H s1:=by
 have hpl:ps.length<=N.length:=by have:=congrArg List.length S.pre;rw[aH]at this;lia
 obtain⟨h1,tk,rfl,hk⟩:=x.done
 have noA:∀b:Addr,b∉(ur CX P w K mg base N qual scope f cd A outer s H E).ex:=fun b z=>absurd (show b∈([]:List Addr)from z) (by simp)
 refine⟨⟨e0.mod,S.kind,rfl,rfl,b6 _,fun y z c h1 h2=>?_,fun y hy=>?_,fun y c _ h=>?_,fun _=>hd,Around.frames_deeper e0.frames,.inr ⟨rfl,rfl⟩,fun b z=>absurd z (noA b),e0.bs,e0.bsz,fun b _ _=>noA b,fun b z=>absurd z (noA b),e0.funs,e0.frf⟩,
  rfl,e0.bare,Un.kept hk,⟨_,x.toInCall.ns,fun i y v h1 h2 h3=>?_⟩,fun y c h=>⟨_,x.cell y c h⟩,e0.hok.fresh (b6 _),fun y c h=>?_,fun p hp=>absurd (show p∈([]:List (Addr×Obj))from hp) (by simp),e0.hok.kept hk,?_⟩
 ·exact name_of_addr x.apart (PySem.mem_of_lookup h1) (PySem.mem_of_lookup h2)
 ·have hy:scope.names.lookup y=some .cell\/scope.names.lookup y=some .free:=hy
  rcases hy with hy|hy
  ·exact vw hy
  ·exact absurd rfl (S.nofree _ (PySem.mem_of_lookup hy))
 ·exact bY (x.above y c (PySem.mem_of_lookup h))
 ·have hi:i<vs.length:=by
   unfold ou at h2
   by_cases hi:i<vs.length
   ·exact hi
   ·rw[aI (by simpa using hi)]at h2
    rw[List.getElem?_replicate]at h2
    split at h2<;>cases h2
  have ha:vs[i]?=some v:=by
   unfold ou at h2
   rw[aJ (by simpa using hi),aK]at h2
   cases e:vs[i]? with
   |none=>rw[e]at h2;cases h2
   |some a=>rw[e]at h2;cases h2;rfl
  obtain⟨u,hu,rv⟩:=r.get ha
  have hp:ps[i]?=some y:=by
   rw[<-S.pre,List.getElem?_take_of_lt (by lia)];exact h1
  have ndP:ps.Nodup:=by rw[<-S.pre];exact S.nd.sublist (List.take_sublist _ _)
  refine⟨u,rv,?_⟩
  rcases S.par y (aM hp)with k|k
  ·exact .inl ⟨k,sI ndP hp hu k⟩
  ·obtain⟨c,e⟩:=vw (n:=s.heap.objs.size+ 1) k
   refine .inr ⟨.inl k,c,e,?_⟩
   have q:=x.cell y c e
   rw[sJ ndP hp hu (by show scope.names.lookup y≠_;rw[k];decide)]at q
   exact q
 ·exact e0.hok.fresh (bY (x.above y c (PySem.mem_of_lookup h)))
 ·unfold ou
  show _=N.length
  rw[aN,aC,List.length_replicate]
  lia
theorem CF {CX:CXT} {P:Program} {w:World} {K:PySem.W.Frag} {mg:Str->Option Value} {base:Heap} {k:Nat} {f:Addr} {name qual:Str} {params:Arguments} {body:List Stmt} {scope:Scope} {dV kV doc pm cdv ct oc:Value} {an od:Option Addr}
  {osl:Array (Option Value)} {N ps:List Str} {sp:Sp} (lk:K.lookup f=some ⟨oc,od,.func (dm name qual params body scope dV kV doc pm an cdv ct),osl⟩) (hcd:dr K cdv qual=true) (S:fo N ps scope)
  (len:∀vs H Q E,sp vs H Q E->vs.length=ps.length)
  (hbody:∀(A:Around) (outer:List Env) (s:Shared) (H:Hp) (vs:List V) (Q:VK) (E:XK),nh k (A.deeper (envOfC qual scope s.heap.objs.size f cdv))->sp vs H Q E->
   ∃t,PSs (ur CX P w K mg base N qual scope f cdv A outer s H E) body t/\t {nx:=fun _ H'=>Q .non H',rt:=Q} (ou N vs) H):
  gu P w K mg base CX (k+ 1) f (dm name qual params body scope dV kV doc pm an cdv ct) ps sp:=by
 refine⟨len,fun A outer s H args us vs Q E hr e0 hb r hsp=>?_⟩
 have hl:=len _ _ _ _ hsp
 have KX:K.In s.heap:=e0.mod.kin.keeps fun b o e=>(e0.bs b o e).1
 have lim:s.heap.NoLimit:=e0.mod.nolimit.keeps fun b o e=>(e0.bs b o e).1
 have hkind:∀y∈ps.zip us,scope.names.lookup y.1=some .local\/(scope.names.lookup y.1=some .cell/\((cellsFrom (s.heap.objs.size+ 1) scope.names []).lookup y.1).isSome=true):=fun⟨n,v⟩ hy=>by
  rcases S.par n (aF hy).1 with q|q
  ·exact .inl q
  ·exact .inr ⟨q,dj _ _ _ (.inl q)⟩
 refine codeAny_call_function hr.depth (KX _ _ lk) rfl S.co S.gen rfl (du KX hcd) (hb _ _ _ _ ?_)
 refine wpAny_newFunctionEnv_cells S.kind hkind fun env he s1 x=>?_
 subst he
 refine⟨lim.keeps x.toInCall.keep,codeAny_func ?_⟩
 obtain⟨t,ht,hq⟩:=hbody A outer s H vs Q E (hr.deeper _) hsp
 have I:Inv (ur CX P w K mg base N qual scope f cdv A outer s H E) [] (ou N vs) H s1:=sL S hr.hd e0 hl r x
 refine wpAny_mono (ht [] s1 (ou N vs) H _ I hq) (fun fl s' hs=>?_) fun e s' hs=>hs
 have fin:∀{σ':St} {H':Hp} {v:V} {u:Value},Inv (ur CX P w K mg base N qual scope f cdv A outer s H E) [] σ' H' s'->iw v u->Q v H'->CE outer P w H s Q u s':=
  fun{σ' H' v u} J rv q=>⟨v,H',J.os,J.bare,J.base,J.hok,rv,q⟩
 cases fl with
 |ret u=>
  obtain⟨v,σ',H',J,rv,q⟩:=hs
  exact fin J rv q
 |next=>
  obtain⟨σ',H',J,q⟩:=hs
  exact fin (v:=V.non) (u:=Value.none) J rfl q
 |brk=>
  obtain⟨_,_,_,q⟩:=hs
  exact False.elim q
 |cont=>
  obtain⟨_,_,_,q⟩:=hs
  exact False.elim q
section
variable {X:Cx} {x:Str} {p pos:Pos} {e:Expr} {es:List Expr} {t:TA} {id T:String} {r:List V->Hp->VK->Prop}
def tCB (r:List V->Hp->VK->Prop) (t:TA):TE:=fun σ H Q=>t σ H fun vs H1=>r vs H1 Q
theorem fV (hc:nH X (.builtin id) r) (hg:Gl X x) (hm:X.mg x=none) (hv:bootBuiltins x=some (.builtin id)) (ha:PA X (e::es) t) (hn:autoParam (x≠"__name__") L2.Internal.auD._auto_1) (hdb:autoParam ((x==("__debug__":Str))=false) L2.Internal.auD._auto_1)
  (he:autoParam (starEach (e::es) X.env=(false,eval e X.env)::starEach es X.env) L2.Internal.auR._auto_1) (hpl:autoParam ((backTo pos (starEach es X.env)).any (·.1)=false) L2.Internal.auR._auto_1):PE X (.Call (.Name x p) (e::es) [] pos) (tCB r t):=by
 intro pins s σ H Q I h
 refine wpAny_Call_Name_kw (m4 I hg hm hv ?_ hn hdb)
 exact PyProof.Rows.callWith_builtin1 (thn (ha pos pins s σ H _ I h) fun us s1 ⟨vs,H1,I1,r1,q1⟩=>hc pins s1 σ H1 vs us Q I1 r1 q1) he hpl
theorem gS (hc:nH X (.type T) r) (hg:Gl X x) (hm:X.mg x=none) (hv:bootBuiltins x=some (.type T)) (ha:PA X (e::es) t) (hn:autoParam (x≠"__name__") L2.Internal.auD._auto_1) (hdb:autoParam ((x==("__debug__":Str))=false) L2.Internal.auD._auto_1)
  (he:autoParam (starEach (e::es) X.env=(false,eval e X.env)::starEach es X.env) L2.Internal.auR._auto_1) (hpl:autoParam ((backTo pos (starEach es X.env)).any (·.1)=false) L2.Internal.auR._auto_1):PE X (.Call (.Name x p) (e::es) [] pos) (tCB r t):=by
 intro pins s σ H Q I h
 refine wpAny_Call_Name_kw (m4 I hg hm hv ?_ hn hdb)
 exact eO (thn (ha pos pins s σ H _ I h) fun us s1 ⟨vs,H1,I1,r1,q1⟩=>hc pins s1 σ H1 vs us Q I1 r1 q1) he hpl
end
section
variable {κ:Type} [DecidableEq κ]
def je (kvs:List (κ×V)) (k:κ):Option V:=(kvs.find? fun kv=>decide (kv.1=k)).map (·.2)
def ml (kvs:List (κ×V)) (k:κ) (v:V):List (κ×V):=
 if(kvs.any fun kv=>decide (kv.1=k))=true then kvs.map (fun kv=>if kv.1=k then(kv.1,v)else kv)else kvs++[(k,v)]
theorem i9 {p:κ×V} {r:List (κ×V)} {k:κ} (e:p.1=k):je (p::r) k=some p.2:=by simp[je,aO,e]
theorem ja {p:κ×V} {r:List (κ×V)} {k:κ} (e:¬p.1=k):je (p::r) k=je r k:=by simp[je,aO,e]
theorem kP (k:κ):∀kvs:List (κ×V),(kvs.any fun kv=>decide (kv.1=k))=(je kvs k).isSome
 |[]=>rfl
 |p::r=>by
  rw[aP]
  by_cases e:p.1=k
  ·simp only[i9 e,decide_eq_true e,Bool.true_or,Option.isSome_some]
  ·rw[ja e,decide_eq_false e,Bool.false_or];exact kP k r
theorem vy (k j:κ) (y:V):∀kvs:List (κ×V),je (kvs.map fun kv=>if kv.1=k then(kv.1,y)else kv) j=(je kvs j).map fun x=>if j=k then y else x
 |[]=>rfl
 |p::r=>by
  have ih:=vy k j y r
  rw[aB]
  by_cases h:p.1=k
  ·rw[if_pos h]
   by_cases e:p.1=j
   ·rw[i9 (p:=(p.1,y)) e,i9 e,cB,if_pos (e.symm.trans h)]
   ·rw[ja (p:=(p.1,y)) e,ja e,ih]
  ·rw[if_neg h]
   by_cases e:p.1=j
   ·rw[i9 (p:=p) e,i9 e,cB,if_neg (fun z=>h (e.trans z))]
   ·rw[ja (p:=p) e,ja e,ih]
theorem sM (k j:κ) (y:V):∀kvs:List (κ×V),je kvs k=none->je (kvs++[(k,y)]) j=if j=k then some y else je kvs j
 |[],_=>by
  by_cases e:k=j
  ·rw[if_pos e.symm];exact i9 (p:=(k,y)) e
  ·rw[if_neg (fun z=>e z.symm)];exact ja (p:=(k,y)) e
 |p::r,hn=>by
  rw[aQ]
  have hk:¬p.1=k:=fun z=>by rw[i9 z]at hn;cases hn
  rw[ja hk]at hn
  have ih:=sM k j y r hn
  by_cases e:p.1=j
  ·rw[i9 e,i9 e,if_neg (fun z=>hk (e.trans z))]
  ·rw[ja e,ja e,ih]
theorem ir (kvs:List (κ×V)) (k j:κ) (y:V):je (ml kvs k y) j=if j=k then some y else je kvs j:=by
 unfold ml
 by_cases a:(kvs.any fun kv=>decide (kv.1=k))=true
 ·rw[if_pos a,vy]
  rw[kP]at a
  by_cases e:j=k
  ·obtain⟨x,hx⟩:=cA.mp a
   rw[if_pos e,e,hx,cB,if_pos rfl]
  ·rw[if_neg e]
   cases je kvs j with
   |none=>rfl
   |some x=>rw[cB,if_neg e]
 ·rw[if_neg a]
  refine sM k j y kvs ?_
  rw[kP]at a
  cases q:je kvs k with
  |none=>rfl
  |some x=>rw[q]at a;exact(a rfl).elim
theorem gN (kvs:List (κ×V)) (k:κ) (v:V):(ml kvs k v).length<=kvs.length+ 1:=by
 unfold ml
 split
 ·rw[aC];lia
 ·rw[aN,az,aR];lia
theorem zj {kvs:List (κ×V)} {k:κ} (v:V) (h:je kvs k=none):ml kvs k v=kvs++[(k,v)]:=by
 unfold ml
 rw[kP,h]
 exact if_neg (by decide)
theorem sr.isSome_eq {o:Option V} {u:Option Value} (r:sr o u):o.isSome=u.isSome:=by
 cases o with
 |none=>cases u with
  |none=>rfl
  |some _=>exact(show False from r).elim
 |some _=>cases u with
  |none=>exact(show False from r).elim
  |some _=>rfl
theorem KV.val {kvs:List (κ×V)} {vs:List (κ×Value)} (r:KV kvs vs) (k:κ):sr (je kvs k) (valueAt vs k):=by
 unfold KV at r
 induction r with
 |nil=>exact True.intro
 |@cons p q ps qs h t ih=>
  obtain⟨h1,h2⟩:=h
  by_cases e:p.1=k
  ·have e':q.1=k:=h1.symm.trans e
   have b:valueAt (q::qs) k=some q.2:=by simp[valueAt,aO,e']
   rw[i9 e,b];exact h2
  ·have e':¬q.1=k:=fun z=>e (h1.trans z)
   have b:valueAt (q::qs) k=valueAt qs k:=by simp[valueAt,aO,e']
   rw[ja e,b];exact ih
theorem KV.any {kvs:List (κ×V)} {vs:List (κ×Value)} (r:KV kvs vs) (k:κ):(kvs.any fun kv=>decide (kv.1=k))=vs.any fun kv=>decide (kv.1=k):=by
 unfold KV at r
 induction r with
 |nil=>rfl
 |cons h t ih=>rw[aP,aP,ih,h.1]
theorem KV.repl {kvs:List (κ×V)} {vs:List (κ×Value)} (r:KV kvs vs) (k:κ) {y:V} {u:Value} (ry:iw y u):
  KV (kvs.map fun kv=>if kv.1=k then(kv.1,y)else kv) (vs.map fun kv=>if kv.1=k then(kv.1,u)else kv):=by
 unfold KV at r⊢
 induction r with
 |nil=>exact .nil
 |@cons p q ps qs h t ih=>
  rw[aB,aB]
  refine .cons ?_ ih
  obtain⟨h1,h2⟩:=h
  by_cases e:p.1=k
  ·rw[if_pos e,if_pos (h1.symm.trans e)];exact⟨h1,ry⟩
  ·rw[if_neg e,if_neg (fun z=>e (h1.trans z))];exact⟨h1,h2⟩
theorem KV.put {kvs:List (κ×V)} {vs:List (κ×Value)} (r:KV kvs vs) (k:κ) {y:V} {u:Value} (ry:iw y u):KV (ml kvs k y) (stored vs k u):=by
 unfold ml stored
 rw[r.any k]
 by_cases e:(vs.any fun kv=>decide (kv.1=k))=true
 ·rw[if_pos e,if_pos e];exact r.repl k ry
 ·rw[if_neg e,if_neg e];exact Paired.snoc r ⟨rfl,ry⟩
theorem KV.length {kvs:List (κ×V)} {vs:List (κ×Value)} (r:KV kvs vs):kvs.length=vs.length:=Paired.length r
end
theorem qW {P:Program} {w:World} {k:Key} {u:Value} (r:iw (kV k) u):(iP P w).is k u=true:=by
 cases k with
 |inl i=>obtain⟨t,e⟩:=(show ∃t,u=Value.int i t from r);subst e;exact ug P w i t
 |inr x=>obtain⟨t,e⟩:=(show ∃t,u=Value.str x t from r);subst e;exact uh P w x t
theorem sN {P:Program} {w:World}:∀{ks:List Key} {us:List Value},iA (ks.map kV) us->ItemsAre (iP P w) ks us
 |[],_,r=>by rw[aS]at r;cases r;exact .nil
 |k::ks,_,r=>by
  rw[aB]at r
  cases r with
  |cons h t=>exact .cons (qW h) (sN t)
abbrev KT (H:Hp):List (List Key×V)->List (List Key×Addr×Value)->Prop:=Paired fun p q=>p.1=q.1/\H q.2.1=some (.tup (p.1.map kV))/\iw p.2 q.2.2
theorem KT.val {H:Hp} {kvs:List (List Key×V)} {xs:List (List Key×Addr×Value)} (r:KT H kvs xs) (k:List Key):sr (je kvs k) ((atKey xs k).map (·.2)):=by
 induction r with
 |nil=>exact True.intro
 |@cons p q ps qs h t ih=>
  obtain⟨h1,_,h2⟩:=h
  by_cases e:p.1=k
  ·have e':q.1=k:=h1.symm.trans e
   have b:atKey (q::qs) k=some q.2:=by simp[atKey,aO,e']
   rw[i9 e,b];exact h2
  ·have e':¬q.1=k:=fun z=>e (h1.trans z)
   have b:atKey (q::qs) k=atKey qs k:=by simp[atKey,aO,e']
   rw[ja e,b];exact ih
theorem KT.repl {H:Hp} {kvs:List (List Key×V)} {xs:List (List Key×Addr×Value)} (r:KT H kvs xs) (k:List Key) {y:V} {u:Value} (ry:iw y u):
  KT H (kvs.map fun kv=>if kv.1=k then(kv.1,y)else kv) (xs.map (putAt k u)):=by
 induction r with
 |nil=>exact .nil
 |@cons p q ps qs h t ih=>
  rw[aB,aB]
  refine .cons ?_ ih
  obtain⟨h1,h2,h3⟩:=h
  unfold putAt
  by_cases e:p.1=k
  ·rw[if_pos e,if_pos (h1.symm.trans e)];exact⟨h1,h2,ry⟩
  ·rw[if_neg e,if_neg (fun z=>e (h1.trans z))];exact⟨h1,h2,h3⟩
theorem KT.put {H:Hp} {kvs:List (List Key×V)} {xs:List (List Key×Addr×Value)} (r:KT H kvs xs) (k:List Key) {b:Addr} {y:V} {u:Value} (hb:H b=some (.tup (k.map kV))) (ry:iw y u):
  KT H (ml kvs k y) (storedH xs k b u):=by
 have e:(kvs.any fun kv=>decide (kv.1=k))=(atKey xs k).isSome:=by
  rw[kP,(r.val k).isSome_eq,cC]
 unfold ml storedH
 rw[e]
 by_cases q:(atKey xs k).isSome=true
 ·rw[if_pos q,if_pos q];exact r.repl k ry
 ·rw[if_neg q,if_neg q];exact Paired.snoc r ⟨rfl,hb,ry⟩
theorem KT.keeps {H H':Hp} {kvs:List (List Key×V)} {xs:List (List Key×Addr×Value)} (r:KT H kvs xs) (ht:∀b ys,H b=some (.tup ys)->H' b=some (.tup ys)):KT H' kvs xs:=
 Paired.mapP r fun _ _ z=>⟨z.1,ht _ _ z.2.1,z.2.2⟩
section
variable {P:Program} {w:World} {H:Hp} {h:Heap} {a:Addr}
theorem CG {u:HO} (ok:HOk P w H h) (e:Rd H a u):jw P w H h a u:=e.ok ok
theorem xE {kvs:List (Key×V)} (ok:HOk P w H h) (e:Rd H a (.dK kvs)):kvs.length<=sizeLine/\(a==sysModules)=false/\∃vs,KV kvs vs/\h.DictOf (iP P w) a vs:=
 show jw P w H h a (.dK kvs)from CG ok e
theorem sO {kvs:List (Key×V)} (ok:HOk P w H h) (e:H a=some (.dK kvs)):kvs.length<=sizeLine/\(a==sysModules)=false/\∃vs,KV kvs vs/\h.DictOf (iP P w) a vs:=xE ok (.inl e)
theorem sP {ks:List Key} (ok:HOk P w H h) (e:H a=some (.tup (ks.map kV))):(tupleKind (iP P w)).is h ks a:=by
 obtain⟨_,its,r,o,h1,h2,n,h3,_⟩:=(show jw P w H h a (.tup (ks.map kV))from ok a _ e)
 exact⟨o,its.toArray,n,h1,h2,h3,by simpa using sN r⟩
theorem xF {kvs:List (List Key×V)} (ok:HOk P w H h) (e:Rd H a (.dT kvs)):kvs.length<=sizeLine/\(a==sysModules)=false/\
  ∃xs,KT H kvs xs/\h.DictOfH (tupleKind (iP P w)) a xs:=by
 obtain⟨z,y,xs,r,o,es,ep,h1,h2,h3,h4,h5⟩:=(show jw P w H h a (.dT kvs)from CG ok e)
 refine⟨z,y,xs,r,o,es,ep,h1,h2,h3,h4,fun x hx=>?_,h5⟩
 have all:∀{l:List (List Key×V)} {m:List (List Key×Addr×Value)},KT H l m->∀x∈m,(tupleKind (iP P w)).is h x.1 x.2.1:=by
  intro l m q
  induction q with
  |nil=>intro x hx;exact nomatch hx
  |@cons p q ps qs hq t ih=>
   intro x hx
   rcases aj.mp hx with e|hx
   ·subst e
    exact sP ok (by rw[<-hq.1];exact hq.2.1)
   ·exact ih x hx
 exact all r x hx
theorem Eh {kvs:List (List Key×V)} (ok:HOk P w H h) (e:H a=some (.dT kvs)):kvs.length<=sizeLine/\(a==sysModules)=false/\
  ∃xs,KT H kvs xs/\h.DictOfH (tupleKind (iP P w)) a xs:=xF ok (.inl e)
end
def uu (H:Hp) (a:Addr) (y:V) (r:Option V):Prop:=
 (∃kvs k,Rd H a (.dK kvs)/\y=kV k/\r=je kvs k)\/∃kvs k b,Rd H a (.dT kvs)/\y= .ref b/\H b=some (.tup (k.map kV))/\r=je kvs k
def w8 (H:Hp) (a:Addr) (y v:V) (H':Hp):Prop:=
 (∃kvs k,H a=some (.dK kvs)/\y=kV k/\kvs.length<sizeLine/\H'=upd H a (.dK (ml kvs k v)))\/
 ∃kvs k b,H a=some (.dT kvs)/\y= .ref b/\H b=some (.tup (k.map kV))/\kvs.length<sizeLine/\H'=upd H a (.dT (ml kvs k v))
theorem uu.k {H:Hp} {a:Addr} {kvs:List (Key×V)} {k:Key} (e:H a=some (.dK kvs)):uu H a (kV k) (je kvs k):= .inl ⟨kvs,k,.inl e,rfl,rfl⟩
theorem w8.k {H:Hp} {a:Addr} {kvs:List (Key×V)} {k:Key} {v:V} (e:H a=some (.dK kvs)) (hl:kvs.length<sizeLine):w8 H a (kV k) v (upd H a (.dK (ml kvs k v))):= .inl ⟨kvs,k,e,rfl,hl,rfl⟩
section
variable {X:Cx} {pins:List (Addr×Obj)} {σ:St} {H:Hp} {s:Shared} {a:Addr} {y v:V} {u r:Value} {o:Option V} {A:Around} {E:Value->Shared->Prop}
theorem Inv.big (I:Inv X pins σ H s):sysModules<s.heap.objs.size:=by
 have h:mainGlobals<s.heap.objs.size:=(I.mod.glob.keeps I.bk).lt
 exact Nat.lt_trans (by decide) h
theorem xG {Q:Value->Shared->Prop} (hu:A.units+ 1<cLine) (I:Inv X pins σ H s) (g:uu H a y (some v)) (ry:iw y u) (h:∀w' s',Inv X pins σ H s'->iw v w'->Q w' s'):
  wpAny (model X.prog X.w) A (getItem (.ref a) u) Q E s:=by
 rcases g with⟨kvs,k,e,ey,l⟩|⟨kvs,k,b,e,ey,eb,l⟩
 ·subst ey
  obtain⟨z,hd,vs,rel,dd⟩:=xE I.hok e
  obtain⟨w',hw,rw'⟩:=sr.some_of (v:=v) (o:=valueAt vs k) (by rw[l];exact rel.val k)
  exact wpAny_getItem_of (qW ry) dd.mapOf hw (h w' _ (I.tok _) rw')
 ·subst ey
  cases(show u=Value.ref b from ry)
  obtain⟨z,hd,xs,rel,dd⟩:=xF I.hok e
  obtain⟨w',hw,rw'⟩:=sr.some_of (v:=v) (o:=(atKey xs k).map (·.2)) (by rw[l];exact rel.val k)
  obtain⟨p,hp,hp2⟩:=cD.mp hw
  refine wpAny_getItem_heap (tupleKind_room_in1 hu) (sP I.hok eb) dd hp ?_
  rw[hp2]
  exact h w' _ (I.tok _) rw'
theorem d_in {Q:Value->Shared->Prop} (hu:A.units+ 1<cLine) (I:Inv X pins σ H s) (g:uu H a y o) (ry:iw y u) (h:∀s',Inv X pins σ H s'->Q (.bool o.isSome) s'):
  wpAny (model X.prog X.w) A (compareOp .In u (.ref a)) Q E s:=by
 rcases g with⟨kvs,k,e,ey,l⟩|⟨kvs,k,b,e,ey,eb,l⟩
 ·subst ey
  obtain⟨z,hd,vs,rel,dd⟩:=xE I.hok e
  refine wpAny_in_of (qW ry) hd dd.mapOf ?_
  rw[<-(rel.val k).isSome_eq,<-l]
  exact h _ (I.tok _)
 ·subst ey
  cases(show u=Value.ref b from ry)
  obtain⟨z,hd,xs,rel,dd⟩:=xF I.hok e
  refine wpAny_in_heap (tupleKind_room_in1 hu) (sP I.hok eb) hd dd ?_
  have q:=(rel.val k).isSome_eq
  rw[cC]at q
  rw[<-q,<-l]
  exact h _ (I.tok _)
theorem Bg {Q:Value->Shared->Prop} (hu:A.units+ 1<cLine) (I:Inv X pins σ H s) (g:uu H a y o) (ry:iw y u) (h:∀s',Inv X pins σ H s'->Q (.bool (!o.isSome)) s'):
  wpAny (model X.prog X.w) A (compareOp .NotIn u (.ref a)) Q E s:=by
 rcases g with⟨kvs,k,e,ey,l⟩|⟨kvs,k,b,e,ey,eb,l⟩
 ·subst ey
  obtain⟨z,hd,vs,rel,dd⟩:=xE I.hok e
  refine wpAny_notIn_of (qW ry) hd dd.mapOf ?_
  rw[<-(rel.val k).isSome_eq,<-l]
  exact h _ (I.tok _)
 ·subst ey
  cases(show u=Value.ref b from ry)
  obtain⟨z,hd,xs,rel,dd⟩:=xF I.hok e
  refine wpAny_notIn_heap (tupleKind_room_in1 hu) (sP I.hok eb) hd dd ?_
  have q:=(rel.val k).isSome_eq
  rw[cC]at q
  rw[<-q,<-l]
  exact h _ (I.tok _)
theorem oY {h':Heap} {t':Nat} {ob:HO} (I:Inv X pins σ H s) (mu:Mut (H a)) (hs:Heap.SameBut a s.heap h') (he:∃q,h'.get? a=some q) (new:jw X.prog X.w (upd H a ob) h' a ob):
  Inv X pins σ (upd H a ob) {s with heap:=h',toks:=t'}:=
 I.write (x:=a) (e:=a) mu (.inl rfl) (fun b q hb z=>(hs.2 b hb).trans z) he new
theorem qy {P:Program} {w:World} {H':Hp} {h':Heap} {kvs:List (Key×V)} {vs:List (Key×Value)} (z:kvs.length<=sizeLine) (hd:(a==sysModules)=false) (rel:KV kvs vs) (dd:h'.DictOf (iP P w) a vs):
  jw P w H' h' a (.dK kvs):=⟨z,hd,vs,rel,dd⟩
theorem xH {H':Hp} {Q:Unit->Shared->Prop} (hu:A.units+ 1<cLine) (I:Inv X pins σ H s) (g:w8 H a y v H') (ry:iw y u) (rv:iw v r) (h:∀s',Inv X pins σ H' s'->Q () s'):
  wpAny (model X.prog X.w) A (setItem (.ref a) u r) Q E s:=by
 rcases g with⟨kvs,k,e,ey,l,eH⟩|⟨kvs,k,b,e,ey,eb,l,eH⟩
 ·subst ey eH
  obtain⟨z,hd,vs,rel,dd⟩:=sO I.hok e
  have hz:vs.length<=sizeLine:=by rw[<-rel.length];exact z
  have hl:(ml kvs k v).length<=sizeLine:=by have:=gN kvs k v;lia
  refine wpAny_setItem_pairs (hsz:=hz) (qW ry) dd fun h' dd' hs=>h _ ?_
  have he:∃q,h'.get? a=some q:=let⟨q,_,_,hq,_⟩:=dd';⟨q,hq⟩
  exact oY I (by rw[e];exact True.intro) hs he (qy hl hd (rel.put k rv) dd')
 ·subst ey eH
  cases(show u=Value.ref b from ry)
  obtain⟨z,hd,xs,rel,dd⟩:=Eh I.hok e
  have hz:xs.length<=sizeLine:=by rw[<-Paired.length rel];exact z
  have hl:(ml kvs k v).length<=sizeLine:=by have:=gN kvs k v;lia
  refine wpAny_setItem_heap (hsz:=hz) (tupleKind_room_in1 hu) (sP I.hok eb) dd fun h' dd' hs=>h _ ?_
  obtain⟨q,es,ep,hq,h2,h3,h4,_,h5⟩:=dd'
  refine oY I (by rw[e];exact True.intro) hs ⟨q,hq⟩ ⟨hl,hd,_,(rel.put k eb rv).keeps fun c ys ec=>?_,q,es,ep,hq,h2,h3,h4,h5⟩
  rw[fe (kc ec e (fun z=>nomatch z))]
  exact ec
end
section
variable {X:Cx} {pins:List (Addr×Obj)} {σ:St} {H:Hp} {s:Shared} {a:Addr} {kvs:List (Key×V)} {k:Key} {u:Value} {A:Around} {E:Value->Shared->Prop}
end
def Ei (i:Expr):Prop:=∀ov iv,subscripted i false ov iv=operate [ov,iv] (getItem ov iv)
theorem xI {prog:Program} {w:World} {A:Around} {E:Value->Shared->Prop} {s:Shared} {env:Env} {value slice:Expr} {pos:Pos} {T id:String} {Q:Value->Shared->Prop}
  (hl:typeLookup (.type T) "__getitem__"=pure (some (.builtin id))) (hs:Ei slice)
  (h:wpAny (model prog w) A (eval value env) (fun o s₁=>wpAny (model prog w) A (eval slice env) (fun i s₂=>s₂.TypeIs o T/\wpAny (model prog w) A (getItem o i) Q E s₂) E s₁) E s):
  wpAny (model prog w) A (eval (.Subscript value slice pos) env) Q E s:=by
 refine Subscript_ (wpAny_mono h (fun o s₁ h₁=>wpAny_mono h₁ (fun i s₂ h₂=>?_) fun _ _ x=>x) fun _ _ x=>x)
 obtain⟨hT,h₂⟩:=h₂
 unfold subscriptTail
 refine wpAny_bind ?_
 rw[getitemInPython_of_ne hT.not_modules]
 refine wpAny_bind (wpAny_specialOf hT hl ?_)
 have fin:wpAny (model prog w) A (subscripted slice false o i) (fun r s₃=>wpAny (model prog w) A (letTemporaryGo value o r >>= fun _=>pure r) Q E s₃) E s₂:=by
  rw[hs o i]
  exact wpAny_operating (wpAny_mono h₂ (fun r s₃ h₃=>wpAny_bind (wpAny_letTemporaryGo (wpAny_pure h₃))) fun _ _ x=>x)
 first
  |exact wpAny_pure (wpAny_bind fin)
  |exact wpAny_bind (wpAny_pure (wpAny_bind fin))
  |exact wpAny_bind fin
theorem uw {X:Cx} {pins:List (Addr×Obj)} {σ:St} {H:Hp} {s:Shared} {a:Addr} {y:V} {o:Option V} (I:Inv X pins σ H s) (g:uu H a y o):s.TypeIs (.ref a) "dict":=by
 rcases g with⟨kvs,k,e,_,_⟩|⟨kvs,k,b,e,_,_,_⟩
 ·obtain⟨_,_,vs,_,dd⟩:=xE I.hok e
  exact dd.typeIs
 ·obtain⟨_,_,xs,_,dd⟩:=xF I.hok e
  exact dd.typeIs
def Ej (td ty:TE):TE:=fun σ H Q=>td σ H fun x H1=>ty σ H1 fun y H2=>∃a v,x= .ref a/\uu H2 a y (some v)/\Q v H2
def tDIn (ty td:TE):TE:=fun σ H Q=>ty σ H fun y H1=>td σ H1 fun x H2=>∃a o,x= .ref a/\uu H2 a y o/\Q (.bl o.isSome) H2
def Bh (ty td:TE):TE:=fun σ H Q=>ty σ H fun y H1=>td σ H1 fun x H2=>∃a o,x= .ref a/\uu H2 a y o/\Q (.bl (!o.isSome)) H2
def Ek (td ty tv:TE):TS:=fun D σ H=>tv σ H fun v H1=>td σ H1 fun x H2=>ty σ H2 fun y H3=>∃a H4,x= .ref a/\w8 H3 a y v H4/\D.nx σ H4
section
variable {X:Cx} {o i e value:Expr} {pos pos' tpos:Pos} {td ty tv:TE}
theorem qX (hu:X.A.units+ 1<cLine) (ho:PE X o td) (hi:PE X i ty) (hs:Ei i):PE X (.Subscript o i pos) (Ej td ty):=by
 intro pins s σ H Q I h
 refine xI dA.lookup hs (thn (ho pins s σ H _ I h) fun u s1 ⟨x,H1,I1,rx,q1⟩=>thn (hi pins s1 σ H1 _ I1 q1) fun iv s2 ⟨y,H2,I2,ry,a,v,ex,g,q2⟩=>?_)
 subst ex
 obtain rfl:u=Value.ref a:=rx
 exact⟨uw I2 g,xG hu I2 g ry fun w' s3 I3 rw'=>⟨v,H2,I3,rw',q2⟩⟩
theorem Ao (hu:X.A.units+ 1<cLine) (hi:PE X i ty) (ho:PE X o td):PC X .In i o (tDIn ty td):=by
 intro pins s σ H Q I h
 refine thn (hi pins s σ H _ I h) fun iv s1 ⟨y,H1,I1,ry,q1⟩=>thn (ho pins s1 σ H1 _ I1 q1) fun u s2 ⟨x,H2,I2,rx,a,ov,ex,g,q2⟩=>?_
 subst ex
 obtain rfl:u=Value.ref a:=rx
 exact d_in hu I2 g ry fun s3 I3=>⟨.bl ov.isSome,H2,I3,rfl,q2⟩
theorem xJ (hu:X.A.units+ 1<cLine) (hi:PE X i ty) (ho:PE X o td):PC X .NotIn i o (Bh ty td):=by
 intro pins s σ H Q I h
 refine thn (hi pins s σ H _ I h) fun iv s1 ⟨y,H1,I1,ry,q1⟩=>thn (ho pins s1 σ H1 _ I1 q1) fun u s2 ⟨x,H2,I2,rx,a,ov,ex,g,q2⟩=>?_
 subst ex
 obtain rfl:u=Value.ref a:=rx
 exact Bg hu I2 g ry fun s3 I3=>⟨.bl (!ov.isSome),H2,I3,rfl,q2⟩
theorem mJ (hu:X.A.units+ 1<cLine) (ho:PE X o td) (hi:PE X i ty) (hv:PE X value tv) (hs:swapsWith value (some (.Subscript o i pos')) pos.line X.env=pure false):
  PS X (.Assign [.Subscript o i pos'] value pos) (Ek td ty tv):=by
 intro pins s σ H D I h
 refine wpAny_Assign_Subscript (thn (hv pins s σ H _ I h) fun r s1 ⟨v,H1,I1,rv,q1⟩=>thn (ho pins s1 σ H1 _ I1 q1) fun u s2 ⟨x,H2,I2,rx,q2⟩=>thn (hi pins s2 σ H2 _ I2 q2) fun iv s3 ⟨y,H3,I3,ry,a,H4,ex,g,q3⟩=>?_) hs
 subst ex
 obtain rfl:u=Value.ref a:=rx
 exact xH hu I3 g ry rv fun s4 I4=>⟨σ,H4,I4,q3⟩
end
theorem vz {P:Program} {w:World} {H:Hp} (h:Heap) (hb:sysModules<h.objs.size):jw P w H (h.push {cls:= .type "dict",data:= .dict #[]}) h.objs.size (.dK []):=
 ⟨b7 _,beq_eq_false_iff_ne.mpr (Ne.symm (bW hb)),[],.nil,Heap.DictOf.new h⟩
def CH:TE:=fun _ H Q=>∀p,H p=none->Q (.ref p) (upd H p (.dK []))
section
variable {X:Cx} {pos:Pos}
theorem oJ:PE X (.Dict [] [] pos) CH:=fun pins s σ H Q I h=>
 wpAny_Dict_empty ⟨.ref s.heap.objs.size,_,I.laid (a:=s.heap.objs.size) (o:= .dK []) (t':=s.toks) (fun _ _ q=>eK _ q) (b6 _) (vz s.heap I.big),rfl,h _ (I.hok.fresh (b6 _))⟩
end
def xK:List (TE×TE)->St->Hp->(List (V×V)->Hp->Prop)->Prop
 |[],_,H,Q=>Q [] H
 |(tk,tv)::r,σ,H,Q=>tk σ H fun x H1=>tv σ H1 fun y H2=>xK r σ H2 fun ps H3=>Q ((x,y)::ps) H3
abbrev VV:List (V×V)->List (Value×Value)->Prop:=Paired fun p q=>iw p.1 q.1/\iw p.2 q.2
def PPs (X:Cx) (pos:Pos) (keys:List (Option Expr)) (values:List Expr) (trs:List (TE×TE)):Prop:=
 ∀(pins:List (Addr×Obj)) (s:Shared) (σ:St) (H:Hp) (Q:List (V×V)->Hp->Prop),Inv X pins σ H s->xK trs σ H Q->
  wpAny (model X.prog X.w) X.A (evalPairs (pairTrees keys values X.env pos)) (fun vs s'=>∃ps H',Inv X pins σ H' s'/\VV ps vs/\Q ps H') X.xe s
theorem Bi {X:Cx} {pos:Pos}:PPs X pos [] [] []:=fun pins s σ H Q I h=>pairTrees_nil_walk ⟨[],H,I,.nil,h⟩
theorem oK {X:Cx} {pos:Pos} {k v:Expr} {ks:List (Option Expr)} {vs:List Expr} {tk tv:TE} {trs:List (TE×TE)} (hk:PE X k tk) (hv:PE X v tv) (hr:PPs X pos ks vs trs):
  PPs X pos (some k::ks) (v::vs) ((tk,tv)::trs):=fun pins s σ H Q I h=>
 pairTrees_cons_walk (thn (hk pins s σ H _ I h) fun u s1 ⟨x,H1,I1,rx,q1⟩=>thn (hv pins s1 σ H1 _ I1 q1) fun w2 s2 ⟨y,H2,I2,ry,q2⟩=>
  thn (hr pins s2 σ H2 _ I2 q2) fun ws s3 ⟨ps,H3,I3,rel,q3⟩=>⟨(x,y)::ps,H3,I3,.cons ⟨rx,ry⟩ rel,q3⟩)
def iL (kvs more:List (Key×V)):List (Key×V):=more.foldl (fun acc kv=>ml acc kv.1 kv.2) kvs
theorem KV.merge:∀{more:List (Key×V)} {rs:List (Key×Value)} {kvs:List (Key×V)} {vs:List (Key×Value)},KV more rs->KV kvs vs->KV (iL kvs more) (merged vs rs):=by
 intro more rs kvs vs r
 unfold KV at r
 induction r generalizing kvs vs with
 |nil=>intro q;exact q
 |@cons p q ps qs h t ih=>
  intro r0
  have e:KV (ml kvs p.1 p.2) (stored vs q.1 q.2):=by
   have:=r0.put p.1 h.2
   rw[<-h.1];exact this
  exact ih e
theorem ke:∀(more kvs:List (Key×V)),(iL kvs more).length<=kvs.length+more.length
 |[],kvs=>by show kvs.length<=kvs.length+ 0;lia
 |p::r,kvs=>by
  have h1:=ke r (ml kvs p.1 p.2)
  have h2:=gN kvs p.1 p.2
  show(iL (ml kvs p.1 p.2) r).length<=_
  rw[az];lia
theorem qz {P:Program} {w:World}:∀{kvs:List (Key×V)} {ws:List (Value×Value)},VV (kvs.map fun kv=>(kV kv.1,kv.2)) ws->∃rs,Carries (iP P w) ws rs/\KV kvs rs
 |[],_,r=>by rw[aS]at r;cases r;exact⟨[],True.intro,.nil⟩
 |p::kvs,_,r=>by
  rw[aB]at r
  cases r with
  |@cons a b as bs h t=>
   obtain⟨rs,c,q⟩:=qz (P:=P) (w:=w) t
   obtain⟨b1,b2⟩:=b
   exact⟨(p.1,b2)::rs,⟨qW h.1,rfl,c⟩,.cons ⟨rfl,h.2⟩ q⟩
def El (trs:List (TE×TE)):TE:=fun σ H Q=>∀p,H p=none->xK trs σ (upd H p (.dK [])) fun ps H2=>H2 p=some (.dK [])/\∃kvs:List (Key×V),ps=kvs.map (fun kv=>(kV kv.1,kv.2))/\kvs.length<=15/\Q (.ref p) (upd H2 p (.dK (iL [] kvs)))
theorem Bj {X:Cx} {pos:Pos} {keys:List (Option Expr)} {values:List Expr} {trs:List (TE×TE)} (h:PPs X pos keys values trs) (hall:keys.all (·.isSome)=true) (hl:keys.length=values.length) (h0:keys≠[])
  (h15:keys.length<=15):PE X (.Dict keys values pos) (El trs):=by
 intro pins s σ H Q I q
 have hn:=I.hok.fresh (b6 s.heap.objs.size)
 have I1:=I.laid (a:=s.heap.objs.size) (o:= .dK []) (h':=s.heap.push {cls:= .type "dict",data:= .dict #[]}) (t':=s.toks) (fun _ _ q=>eK _ q) (b6 _) (vz s.heap I.big)
 refine wpAny_Dict_walk (knd:=iP X.prog X.w) hall hl h0 h15 (thn (h pins _ σ _ _ I1 (q _ hn)) fun ws s2 ⟨ps,H2,I2,rel,e,kvs,ep,lk,q2⟩=>?_)
 subst ep
 obtain⟨rs,c,rk⟩:=qz (P:=X.prog) (w:=X.w) rel
 obtain⟨z,hd,vs0,r0,dd⟩:=sO I2.hok e
 cases r0
 refine⟨rs,c,dd,fun h' dd' hs=>⟨.ref s.heap.objs.size,_,?_,rfl,q2⟩⟩
 have hz:(iL [] kvs).length<=sizeLine:=by
  have h1:=ke kvs []
  rw[aR]at h1
  rw[sizeLine_eq];lia
 have he:∃q,h'.get? s.heap.objs.size=some q:=let⟨q,_,_,hq,_⟩:=dd';⟨q,hq⟩
 exact oY I2 (by rw[e];exact True.intro) hs he (qy hz hd (rk.merge .nil) dd')
structure M1 (X:Cx) (o:Expr) (m:Str) (apos:Pos) (e:Expr) (cpos:Pos):Prop where
 base:attributeBase o m X.env (eval o X.env)=eval o X.env
 few:((backTo cpos (starEach [e] X.env)).all (fun x=>!x.1)&&(backToKw cpos (keywordEach [] X.env)).all (fun x=>x.1.isSome)
  &&decide (([e]:List Expr).length+([]:List Keyword).length+(if([]:List Keyword).isEmpty then 0 else 1)<30))=true
 line:(apos.endLine==cpos.line)=true
 trees:backTo cpos (starEach [e] X.env)=[(false,eval e X.env)]
structure M2 (X:Cx) (o:Expr) (m:Str) (apos:Pos) (e f:Expr) (cpos:Pos):Prop where
 base:attributeBase o m X.env (eval o X.env)=eval o X.env
 few:((backTo cpos (starEach [e,f] X.env)).all (fun x=>!x.1)&&(backToKw cpos (keywordEach [] X.env)).all (fun x=>x.1.isSome)
  &&decide (([e,f]:List Expr).length+([]:List Keyword).length+(if([]:List Keyword).isEmpty then 0 else 1)<30))=true
 line:(apos.endLine==cpos.line)=true
 trees:backTo cpos (starEach [e,f] X.env)=[(false,eval e X.env),(false,eval f X.env)]
section
variable {X:Cx} {pins:List (Addr×Obj)} {σ:St} {H:Hp} {s:Shared} {a:Addr} {y d:V} {u r:Value} {o:Option V} {A:Around} {E:Value->Shared->Prop}
end
section
variable {X:Cx} {o e f:Expr} {apos cpos:Pos} {td ty tx:TE}
end
section
variable {X:Cx} {pins:List (Addr×Obj)} {σ:St} {H:Hp} {s:Shared} {a:Addr} {kvs:List (Key×V)} {A:Around} {E:Value->Shared->Prop}
end
section
variable {X:Cx} {pins:List (Addr×Obj)} {σ:St} {H:Hp} {s:Shared} {a:Addr} {y:V} {u:Value} {A:Around} {E:Value->Shared->Prop}
end
end L2.Internal
namespace HT.Internal
open PySem PyProof.Rows
section
open PySem.SeqAt
open PySem.AutoSeq1 (wpAny_loadPart')
open PySem.MeetsSeq PySem.MeetsSeq2 PySem.MeetsSeq3
end
section
variable {prog:Program} {w:World} {A:Around} {E:Value->Shared->Prop} {s:Shared}
theorem cat_tup {t b:Addr} {vs ws:List Value} {Q:Value->Shared->Prop} (ht:IsTup s.heap t vs.toArray) (hb:IsTup s.heap b ws.toArray) (hv:vs≠[])
  (h1:ws=[]->Q (.ref t) s) (h2:ws≠[]->Q (.ref s.heap.objs.size) {s with heap:=s.heap.push {cls:= .type "tuple",data:= .seq (vs++ws).toArray}})
  (hsz:vs.length+ws.length<=sizeLine):wpAny (model prog w) A (binaryOp .Add (.ref t) (.ref b)) Q E s:=by
 obtain⟨⟨cls,dd,data,sl⟩,ho,hc,n,hd⟩:=id ht
 obtain⟨⟨cls2,dd2,data2,sl2⟩,ho2,hc2,n2,hd2⟩:=id hb
 simp only at hc hd hc2 hd2
 subst hc hd hc2 hd2
 have e:vs.toArray++ws.toArray=(vs++ws).toArray:=by simp
 by_cases hw:ws=[]
 ·exact concat_meets ⟨_,ho,rfl⟩ ⟨_,ho2,rfl⟩ noFill_tuple_add seq_tuple_add dB dC (dD _ _)
   (tuple_addW1 t b vs.toArray ws.toArray n n2 dd dd2 sl sl2 (by simpa using hv) (by simp[hw])) ⟨ho,ho2,h1 hw⟩
 ·refine concat_meets ⟨_,ho,rfl⟩ ⟨_,ho2,rfl⟩ noFill_tuple_add seq_tuple_add dB dC (dD _ _)
   (tuple_addW2 t b vs.toArray ws.toArray n n2 dd dd2 sl sl2 (by simpa using hv) (by simpa using hw) (by rw[aT,aT];exact hsz)) ⟨ho,ho2,?_⟩
  rw[e]
  exact h2 hw
def sIx (n d:Nat):Option Int->Nat
 |none=>d
 |some v=>if v<0 then(v+(n:Int)).toNat else min v.toNat n
theorem sIx_none (n d:Nat):sIx n d none=d:=rfl
theorem sIx_nat (n d k:Nat):sIx n d (some (k:Int))=min k n:=by
 show(if(k:Int)<0 then((k:Int)+(n:Int)).toNat else min (k:Int).toNat n)=min k n
 rw[if_neg (by lia),d6]
theorem CI (n d:Nat) (hd:d<=n) (o:Option Int):sIx n d o<=n:=by
 cases o with
 |none=>exact hd
 |some v=>
  show(if v<0 then(v+(n:Int)).toNat else min v.toNat n)<=n
  by_cases hv:v<0
  ·rw[if_pos hv];lia
  ·rw[if_neg hv];exact Nat.min_le_right _ _
theorem xM (v:Int) (n d:Nat):(if v<0 then max (v+(n:Int)) 0 else min v (n:Int))=((sIx n d (some v):Nat):Int):=by
 show(if v<0 then max (v+(n:Int)) 0 else min v (n:Int))=(((if v<0 then(v+(n:Int)).toNat else min v.toNat n):Nat):Int)
 by_cases hv:v<0
 ·simp only[if_pos hv];lia
 ·simp only[if_neg hv];lia
theorem wm (lo hi:Option Int) (n:Nat):Builtin.Slice.sliceAdjust lo hi 1 (n:Int)=(((sIx n 0 lo:Nat):Int),((sIx n n hi:Nat):Int)):=by
 have h1:¬((1:Int)<0):=by lia
 unfold Builtin.Slice.sliceAdjust
 simp only[h1,if_false]
 refine Prod.ext ?_ ?_
 ·cases lo with
  |none=>rfl
  |some v=>exact xM v n 0
 ·cases hi with
  |none=>rfl
  |some v=>exact xM v n n
theorem wo (i j:Nat):Builtin.Slice.slicePlaces (i:Int) (j:Int) 1=j-i:=by
 unfold Builtin.Slice.slicePlaces
 have h1:(1:Int)>0:=by lia
 simp only[h1,if_true,Int.ediv_one]
 split<;>lia
theorem qA {v:Value} {o:Option Int} {Q:Option Int->Shared->Prop} (p:IsPart v o) (h:Q o s):wpAny (model prog w) A (Builtin.Slice.slicePartIndex v) Q E s:=by
 cases p with
 |none=>exact slicePart_none h
 |int i t=>exact slicePart_int h
theorem ow {sl:Addr} {vl vu:Value} {lo hi:Option Int} {n:Nat} {Q:Int×Int×Nat->Shared->Prop} (hs:s.heap.IsSliceOf sl vl vu .none) (pl:IsPart vl lo) (pu:IsPart vu hi)
  (h:Q (((sIx n 0 lo:Nat):Int),1,sIx n n hi-sIx n 0 lo) s):wpAny (model prog w) A (Builtin.Slice.sliceApplied (.ref sl) (pure (n:Int))) Q E s:=by
 obtain⟨os,hos,hcs,hds⟩:=id hs
 unfold Builtin.Slice.sliceApplied Builtin.Slice.sliceFields
 refine wpAny_bind (wpAny_bind (wpAny_field hos hds (x:=vl) rfl (wpAny_bind (wpAny_field hos hds (x:=vu) rfl (wpAny_bind (wpAny_field hos hds (x:= .none) rfl (wpAny_pure ?_)))))))
 refine wpAny_bind (slicePart_none ?_)
 show wpAny _ _ (if((1:Int)==0)=true then _ else _) _ _ s
 rw[if_neg (by decide)]
 refine wpAny_bind (qA pl (wpAny_bind (qA pu (wpAny_bind (wpAny_pure ?_)))))
 show wpAny _ _ (match Builtin.Slice.sliceAdjust lo hi 1 (n:Int)with|(lo,hi)=>pure (lo,(1:Int),Builtin.Slice.slicePlaces lo hi 1)) _ _ s
 rw[wm lo hi n]
 show wpAny _ _ (pure (((sIx n 0 lo:Nat):Int),(1:Int),Builtin.Slice.slicePlaces ((sIx n 0 lo:Nat):Int) ((sIx n n hi:Nat):Int) 1)) _ _ s
 rw[wo]
 exact wpAny_pure h
theorem zk (xs:Array Value) (i k:Nat):((aa k).filterMap fun(m:Nat)=>xs[((i:Int)+(m:Int)*1).toNat]?).toArray=((xs.toList.drop i).take k).toArray:=by
 have e:(fun(m:Nat)=>xs[((i:Int)+(m:Int)*1).toNat]?)=fun m=>xs[i+m]?:=by
  funext m
  have:((i:Int)+(m:Int)*1).toNat=i+m:=by lia
  rw[this]
 rw[e]
 have:=pick_run xs i k
 rw[List.filterMap_map]at this
 have e2:((fun x=>xs[x]?)∘fun x=>i+x)=fun m=>xs[i+m]?:=rfl
 rw[e2]at this
 rw[this]
theorem getItem_tuple_cut {t sl:Addr} {items:Array Value} {vl vu:Value} {lo hi:Option Int} {Q:Value->Shared->Prop} (ht:IsTup s.heap t items) (hs:s.heap.IsSliceOf sl vl vu .none) (pl:IsPart vl lo) (pu:IsPart vu hi)
  (hw:¬(sIx items.size 0 lo=0/\sIx items.size items.size hi=items.size))
  (h:Q (.ref s.heap.objs.size) {s with heap:=s.heap.push {cls:= .type "tuple",data:= .seq ((items.toList.drop (sIx items.size 0 lo)).take (sIx items.size items.size hi-sIx items.size 0 lo)).toArray}})
  (hsz:items.size<=sizeLine):wpAny (model prog w) A (getItem (.ref t) (.ref sl)) Q E s:=by
 have htake:sizeOk (.seq ((items.toList.drop (sIx items.size 0 lo)).take (sIx items.size items.size hi-sIx items.size 0 lo)).toArray):=by
  show((items.toList.drop (sIx items.size 0 lo)).take (sIx items.size items.size hi-sIx items.size 0 lo)).toArray.size<=sizeLine
  rw[aT,aH,aU,dW]
  lia
 have hj:sIx items.size items.size hi<=items.size:=CI _ _ (b6 _) hi
 obtain⟨os,hos,hcs,hds⟩:=id hs
 have hTs:s.TypeIs (.ref sl) "slice":=⟨os,hos,hcs⟩
 unfold getItem
 try with_reducible refine wpAny_holding ?_
 first|refine wpAny_bind (wpAny_pure ?_)|skip
 refine wpAny_bind (wpAny_sequenceKey ht.typeIs (by decide) ?_)
 refine wpAny_bind (wpAny_callSpecial?_slot (name:=Str.ofString "__getitem__") ht.typeIs eP
  (wpAny_call_entry eP ht.typeIs entry_tuple_getitem ?_ (args_tuple_getitem _ _)))
 show wpAny _ _ (Builtin.Tuple.tupleItemsOf (.ref t) >>= _) _ _ s
 refine wpAny_bind (tupleItemsOf_ ht ?_)
 refine wpAny_bind (wpAny_typeOf hTs ?_)
 rw[if_pos (by decide)]
 refine wpAny_bind (ow hs pl pu ?_)
 have hno:¬((((sIx items.size 0 lo:Nat):Int)==0&&(1:Int)==1&&(sIx items.size items.size hi-sIx items.size 0 lo)==items.size)=true):=by
  intro q
  rw[dP,dP]at q
  have q1:((sIx items.size 0 lo:Nat):Int)=0:=eq_of_beq q.1.1
  have q2:sIx items.size items.size hi-sIx items.size 0 lo=items.size:=eq_of_beq q.2
  exact hw ⟨by lia,by lia⟩
 show wpAny _ _ (if(((sIx items.size 0 lo:Nat):Int)==0&&(1:Int)==1&&(sIx items.size items.size hi-sIx items.size 0 lo)==items.size)=true then _ else _) _ _ s
 rw[if_neg hno,zk]
 first
  |exact wpAny_bind (m:=Builtin.Tuple.tupleExact _) (wpAny_newObj_type (wpAny_pure ⟨_,rfl,wpAny_pure h⟩) htake)
  |exact wpAny_bind (m:=Builtin.Tuple.tupleExact _) (wpAny_newObj_type (wpAny_bind (wpAny_pure (wpAny_pure ⟨_,rfl,wpAny_pure h⟩))) htake)
  |exact wpAny_bind (wpAny_bind (m:=Builtin.Tuple.tupleExact _) (wpAny_newObj_type (wpAny_pure (wpAny_pure ⟨_,rfl,wpAny_pure h⟩)) htake))
  |exact wpAny_bind (wpAny_bind (m:=Builtin.Tuple.tupleExact _) (wpAny_newObj_type (wpAny_pure ⟨_,rfl,wpAny_pure h⟩) htake))
end
end HT.Internal
namespace L2.Internal
open PySem PySem.Spec PyProof.Rows
abbrev TO:=St->Hp->(Option Int->Hp->Prop)->Prop
def PO (X:Cx) (e:Option Expr) (t:TO):Prop:=
 ∀(pins:List (Addr×Obj)) (s:Shared) (σ:St) (H:Hp) (Q:Option Int->Hp->Prop),Inv X pins σ H s->t σ H Q->
  wpAny (model X.prog X.w) X.A (evalPart e X.env) (fun u s'=>∃o H',Inv X pins σ H' s'/\IsPart u o/\Q o H') X.xe s
def Bk:TO:=fun _ H Q=>Q none H
def Em (t:TE):TO:=fun σ H Q=>t σ H fun x H1=>∃i,x= .int i/\Q (some i) H1
section
variable {X:Cx} {e:Expr} {te:TE} {lo hi:Option Expr} {tl th:TO} {pos p2:Pos}
theorem Bl:PO X none Bk:=by
 intro pins s σ H Q I h
 rw[evalPart_none]
 exact wpAny_pure ⟨none,H,I,.none,h⟩
theorem Bm (h:PE X e te):PO X (some e) (Em te):=by
 intro pins s σ H Q I hw
 rw[evalPart_some]
 refine thn (h pins s σ H _ I hw) fun u s1 ⟨x,H1,I1,r1,q1⟩=>?_
 obtain⟨i,rfl,q⟩:=q1
 obtain⟨t,rfl⟩:=r1
 exact⟨some i,H1,I1,.int i t,q⟩
def SlR (X:Cx) (r:V->Option Int->Option Int->Hp->VK->Prop):Prop:=
 ∀(pins:List (Addr×Obj)) (s:Shared) (σ:St) (H:Hp) (x:V) (v vl vu:Value) (lo hi:Option Int) (sl:Addr) (Q:VK),Inv X pins σ H s->iw x v->s.heap.IsSliceOf sl vl vu .none->IsPart vl lo->IsPart vu hi->r x lo hi H Q->
  ∃T id,typeLookup (.type T) "__getitem__"=pure (some (.builtin id))/\s.TypeIs v T/\wpAny (model X.prog X.w) X.A (getItem v (.ref sl)) (EP X pins σ Q) X.xe s
def tSl (r:V->Option Int->Option Int->Hp->VK->Prop) (te:TE) (tl th:TO):TE:=fun σ H Q=>te σ H fun x H1=>tl σ H1 fun l H2=>th σ H2 fun u H3=>r x l u H3 Q
theorem zl {r:V->Option Int->Option Int->Hp->VK->Prop} (hr:SlR X r) (he:PE X e te) (hl:PO X lo tl) (hu:PO X hi th):PE X (.Subscript e (.Slice lo hi none p2) pos) (tSl r te tl th):=by
 intro pins s σ H Q I h
 refine Subscript_ (thn (he pins s σ H _ I h) fun v s1 ⟨x,H1,I1,r1,q1⟩=>?_)
 refine wpAny_Slice (thn (hl pins s1 σ H1 _ I1 q1) fun vl s2 ⟨l,H2,I2,pl,q2⟩=>thn (hu pins s2 σ H2 _ I2 q2) fun vu s3 ⟨u,H3,I3,pu,q3⟩=>?_)
 rw[evalPart_none]
 refine wpAny_pure ?_
 have I4:Inv X pins σ H3 {s3 with heap:=s3.heap.push {cls:= .type "slice",data:= .fields #[vl,vu,.none]}}:=I3.kept (t':=s3.toks) fun b ob q=>eK _ q
 obtain⟨T,id,hT,ht,hg⟩:=hr pins {s3 with heap:=s3.heap.push {cls:= .type "slice",data:= .fields #[vl,vu,.none]}} σ H3 x v vl vu l u s3.heap.objs.size Q I4 r1 (Heap.IsSliceOf.new ..) pl pu q3
 show wpAny (model X.prog X.w) X.A (subscriptTail e (.Slice lo hi none p2) v (.ref s3.heap.objs.size)) (EP X pins σ Q) X.xe {s3 with heap:=s3.heap.push {cls:= .type "slice",data:= .fields #[vl,vu,.none]}}
 exact tail_any (ops:=[.ref s3.heap.objs.size,v]) ht hT hg (by with_unfolding_all rfl)
def Bn (xs:List V) (lo hi:Option Int):List V:=(xs.drop (HT.Internal.sIx xs.length 0 lo)).take (HT.Internal.sIx xs.length xs.length hi-HT.Internal.sIx xs.length 0 lo)
theorem uz (xs:List V) (lo hi:Option Int):(Bn xs lo hi).length<=xs.length:=by
 unfold Bn
 rw[aH,aU]
 lia
def rSlT (K:PySem.W.Frag):V->Option Int->Option Int->Hp->VK->Prop:=fun x lo hi H Q=>∃a xs,x= .ref a/\SqT K H a xs/\
 ¬(HT.Internal.sIx xs.length 0 lo=0/\HT.Internal.sIx xs.length xs.length hi=xs.length)/\∀p,H p=none->Q (.ref p) (upd H p (.tup (Bn xs lo hi)))
theorem CJ:SlR X (rSlT X.K):=by
 intro pins s σ H x v vl vu lo hi sl Q I rx hs pl pu h
 obtain⟨a,xs,rfl,hx,hw,q⟩:=h
 cases rx
 obtain⟨its,r,ht,hz⟩:=I.tuple hx
 have hlen:its.toArray.size=xs.length:=by rw[aT];exact r.length.symm
 refine⟨"tuple",_,eP.lookup,ht.typeIs,?_⟩
 refine HT.Internal.getItem_tuple_cut ht hs pl pu (by rw[hlen];exact hw) ?_ (by rw[hlen];exact hz)
 rw[hlen]
 refine⟨.ref s.heap.objs.size,_,I.laid (t':=s.toks) (o:= .tup (Bn xs lo hi)) (fun b ob q=>eK _ q) (b6 _) ?_,rfl,q _ (I.hok.fresh (b6 _))⟩
 exact⟨bX (uz xs lo hi) hz,_,(r.drop (HT.Internal.sIx xs.length 0 lo)).take (HT.Internal.sIx xs.length xs.length hi-HT.Internal.sIx xs.length 0 lo),vo.new _ _⟩
def En (K:PySem.W.Frag):R2:=fun x y H Q=>∃a b xs ys,x= .ref a/\y= .ref b/\SqT K H a xs/\SqT K H b ys/\xs≠[]/\xs.length+ys.length<=sizeLine/\
 (ys=[]->Q (.ref a) H)/\(ys≠[]->∀p,H p=none->Q (.ref p) (upd H p (.tup (xs++ys))))
theorem iA.nil_iff {xs:List V} {us:List Value} (r:iA xs us):us=[]↔xs=[]:=by
 cases r with
 |nil=>simp
 |cons _ _=>simp
theorem Bo:OpR X (binaryOp .Add) (En X.K):=by
 intro pins s σ H x y v u Q I rx ry h
 obtain⟨a,b,xs,ys,rfl,rfl,ha,hb,hx,hz,q1,q2⟩:=h
 cases rx
 cases ry
 obtain⟨its,r1,p1,_⟩:=I.tuple ha
 obtain⟨its2,r2,p2,_⟩:=I.tuple hb
 refine HT.Internal.cat_tup p1 p2 (fun z=>hx (r1.nil_iff.mp z)) (fun z=>⟨.ref a,H,I,rfl,q1 (r2.nil_iff.mp z)⟩) (fun z=>?_) (by rw[<-r1.length,<-r2.length];exact hz)
 refine⟨.ref s.heap.objs.size,_,I.laid (t':=s.toks) (o:= .tup (xs++ys)) (fun b ob q=>eK _ q) (b6 _) ?_,rfl,q2 (fun w=>z (r2.nil_iff.mpr w)) _ (I.hok.fresh (b6 _))⟩
 exact⟨by rw[aN];exact hz,_,r1.append r2,vo.new _ _⟩
end
def ixN (n:Nat) (i:Int):Option Nat:=if 0<=i then(if i<n then some i.toNat else none)else if-(n:Int)<=i then some (i+n).toNat else none
def atI {α:Type} (xs:List α) (i:Int):Option α:=(ixN xs.length i).bind fun j=>xs[j]?
theorem xN {n:Nat} {i:Int} {j:Nat} (h:ixN n i=some j):seqIndex? i n=some j/\j<n/\-(n:Int)<=i/\i<n:=by
 unfold ixN at h
 by_cases h0:0<=i
 ·rw[if_pos h0]at h
  by_cases h1:i<n
  ·rw[if_pos h1]at h
   have e:i.toNat=j:=cz.inj h
   exact⟨by rw[seqIndex_of h0 h1,e],by lia,by lia,h1⟩
  ·rw[if_neg h1]at h;cases h
 ·rw[if_neg h0]at h
  by_cases h1: -(n:Int)<=i
  ·rw[if_pos h1]at h
   have e:(i+n).toNat=j:=cz.inj h
   exact⟨by rw[seqIndex_neg (by lia) h1,e],by lia,h1,by lia⟩
  ·rw[if_neg h1]at h;cases h
theorem uA {α:Type} {xs:List α} {i:Int} {v:α} (h:atI xs i=some v):∃j,seqIndex? i xs.length=some j/\xs[j]?=some v/\j<xs.length/\-(xs.length:Int)<=i/\i<xs.length:=by
 unfold atI at h
 cases e:ixN xs.length i with
 |none=>rw[e]at h;cases h
 |some j=>
  rw[e]at h
  obtain⟨h1,h2,h3,h4⟩:=xN e
  exact⟨j,h1,h,h2,h3,h4⟩
theorem eY {α:Type} {xs:List α} {j:Nat} {v:α} (h:xs[j]?=some v):atI xs (j:Int)=some v:=by
 have hj:j<xs.length:=(aq.mp h).1
 have e:ixN xs.length (j:Int)=some j:=by
  unfold ixN
  rw[if_pos (by lia),if_pos (by lia)];simp
 unfold atI;rw[e];exact h
def Bp (b:Expr):Prop:=∀o i,subscripted b false o i=operate [o,i] (getItem o i)
def IxR (X:Cx) (r:R2):Prop:=
 ∀(value slice:Expr) (pins:List (Addr×Obj)) (s:Shared) (σ:St) (H:Hp) (x y:V) (v u:Value) (Q:VK),Inv X pins σ H s->iw x v->iw y u->r x y H Q->
  subscripted slice false v u=operate [v,u] (getItem v u)->wpAny (model X.prog X.w) X.A (subscriptTail value slice v u) (EP X pins σ Q) X.xe s
def MtR (X:Cx) (id:String) (r:V->List V->Hp->VK->Prop):Prop:=
 ∀(pins:List (Addr×Obj)) (s:Shared) (σ:St) (H:Hp) (x:V) (xs:List V) (v:Value) (us:List Value) (Q:VK),Inv X pins σ H s->iw x v->iA xs us->r x xs H Q->
  wpAny (model X.prog X.w) X.A (call (.builtin id) (v::us)) (EP X pins σ Q) X.xe s
section
variable {X:Cx} {a b:Expr} {ta tb:TE} {pos:Pos}
theorem ft {r:R2} (hr:IxR X r) (ha:PE X a ta) (hb:PE X b tb) (hs:Bp b):PE X (.Subscript a b pos) (tOp r ta tb):=by
 intro pins s σ H Q I h
 exact Subscript_ (Ec ha hb I h fun v u s2 x y H2 I2 rx ry q=>hr a b pins s2 σ H2 x y v u Q I2 rx ry q (hs _ _))
def rIxL (K:PySem.W.Frag):R2:=fun x y H Q=>∃p xs i v,x= .ref p/\y= .int i/\SqL K H p xs/\atI xs i=some v/\Q v H
def rIxT (K:PySem.W.Frag):R2:=fun x y H Q=>∃p xs i v,x= .ref p/\y= .int i/\SqT K H p xs/\atI xs i=some v/\Q v H
def rIxS:R2:=fun x y H Q=>∃z i c,x= .str z/\y= .int i/\z.length<=sizeLine/\atI z.cps.toList i=some c/\Q (.str ⟨#[c]⟩) H
theorem uB:IxR X (rIxL X.K):=by
 intro value slice pins s σ H x y v u Q I rx ry h hs
 obtain⟨p,xs,i,z,rfl,rfl,hq,he,q⟩:=h
 cases rx
 obtain⟨t,rfl⟩:=ry
 obtain⟨its,r,pl,hz⟩:=I.list hq
 obtain⟨j,h1,h2,h3,h4,h5⟩:=uA he
 obtain⟨w,ew,rw'⟩:=r.get h2
 have hl:=r.length
 have hn:=qr
 have fin:EP X pins σ Q w s:=⟨z,H,I,rw',q⟩
 by_cases h0:0<=i
 ·have hj:i.toNat=j:=by
   rw[seqIndex_of h0 h5]at h1
   exact cz.inj h1
  exact item_listR pl.isList h0 (by lia) (by rw[hj];simpa using ew) fin hs
 ·have hj:(i+(its.toArray.size:Int)).toNat=j:=by
   rw[seqIndex_neg (by lia) h4]at h1
   rw[aT,<-hl]
   exact cz.inj h1
  exact subscriptTail_builtinR (x:=w) pl.isList.typeIs slot_list_getitem.lookup
   (wpAny_getItem_list_neg (Q:=fun r s'=>r=w/\EP X pins σ Q r s') pl.isList (by lia) (by rw[aT]<;>lia) (by lia) (by rw[hj];simpa using ew) ⟨rfl,fin⟩) hs
theorem CK:IxR X (rIxT X.K):=by
 intro value slice pins s σ H x y v u Q I rx ry h hs
 obtain⟨p,xs,i,z,rfl,rfl,hq,he,q⟩:=h
 cases rx
 obtain⟨t,rfl⟩:=ry
 obtain⟨its,r,pl,hz⟩:=I.tuple hq
 obtain⟨j,h1,h2,h3,h4,h5⟩:=uA he
 obtain⟨w,ew,rw'⟩:=r.get h2
 have hl:=r.length
 have hn:=qr
 have fin:EP X pins σ Q w s:=⟨z,H,I,rw',q⟩
 exact subscriptTail_builtinR (x:=w) pl.typeIs slot_tuple_getitem.lookup
  (getItem_tuple (j:=j) (Q:=fun r s'=>r=w/\EP X pins σ Q r s') pl (by lia) (by lia) (by rw[aT,<-hl];exact h1) (by simpa using ew) ⟨rfl,fin⟩) hs
theorem Aq:IxR X rIxS:=by
 intro value slice pins s σ H x y v u Q I rx ry h hs
 obtain⟨z,i,c,rfl,rfl,hz,he,q⟩:=h
 obtain⟨t,rfl⟩:=rx
 obtain⟨t',rfl⟩:=ry
 obtain⟨j,h1,h2,h3,h4,h5⟩:=uA he
 have hl:z.cps.toList.length=z.length:=by simp[Str.length]
 rw[hl]at h1 h4 h5
 have hn:=qr
 exact tail_any (typeIs_str s z t) slot_str_getitem.lookup (getItem_str (c:=c) (by
  have e1:decide (i< -(2^63:Int))=false:=decide_eq_false (by lia)
  have e2:decide (i≥2^63)=false:=decide_eq_false (by lia)
  rw[e1,e2,Bool.or_false]) (by rw[h1];simpa using h2) ⟨.str ⟨#[c]⟩,H,I.tok _,⟨_,rfl⟩,q⟩) hs
theorem wq (its:List Value) (n j:Nat) (u:Value):Obj.mapSeq (·.setIfInBounds j u) {cls:= .type "list",data:= .seq its.toArray n}={cls:= .type "list",data:= .seq (its.set j u).toArray n}:=by
 simp[Obj.mapSeq]
theorem Inv.lst {pins:List (Addr×Obj)} {σ:St} {H:Hp} {s:Shared} {p:Addr} {xs:List V} (I:Inv X pins σ H s) (h:H p=some (.lst xs)):
  ∃(its:List Value) (n:Nat),iA xs its/\s.heap.get? p=some {cls:= .type "list",data:= .seq its.toArray n}/\xs.length<=sizeLine:=by
 obtain⟨z,its,n,r,e⟩:=I.hok p _ h
 exact⟨its,n,r,e,z⟩
theorem Inv.lstUpd {pins:List (Addr×Obj)} {σ:St} {H:Hp} {s:Shared} {p:Addr} {xs ys:List V} {its its':List Value} {n n':Nat} {f:Obj->Obj} (I:Inv X pins σ H s) (h:H p=some (.lst xs))
  (ho:s.heap.get? p=some {cls:= .type "list",data:= .seq its.toArray n}) (hf:f {cls:= .type "list",data:= .seq its.toArray n}={cls:= .type "list",data:= .seq its'.toArray n'}) (r:iA ys its') (hz:ys.length<=sizeLine) (t:Nat):
  Inv X pins σ (upd H p (.lst ys)) {s with heap:=s.heap.update p f,toks:=t}:=by
 have e:(s.heap.update p f).get? p=some {cls:= .type "list",data:= .seq its'.toArray n'}:=by
  rw[eM f ho (by rw[hf]<;>rfl),hf]
 refine I.write (x:=p) (e:=p) (by rw[h];trivial) (.inl rfl) (fun b u hb q=>(eN _ _ (Ne.symm hb)).trans q) ⟨_,e⟩ ?_
 exact⟨hz,its',n',r,e⟩
def Eo:V->V->V->Hp->(Hp->Prop)->Prop:=fun o i v H Q=>∃p xs k j,o= .ref p/\i= .int k/\H p=some (.lst xs)/\ixN xs.length k=some j/\Q (upd H p (.lst (xs.set j v)))
theorem zm:Ft X Eo:=by
 intro pins s σ H o i v ov iv u Q I ro ri rv h
 obtain⟨p,xs,k,j,rfl,rfl,hp,hj,q⟩:=h
 cases ro
 obtain⟨t,rfl⟩:=ri
 obtain⟨its,n,r,ho,hz⟩:=I.lst hp
 obtain⟨h1,h2,h3,h4⟩:=xN hj
 have hl:=r.length
 have hn:=qr
 have I':Inv X pins σ (upd H p (.lst (xs.set j v))) {s with heap:=s.heap.update p (Obj.mapSeq (·.setIfInBounds j u))}:=
  I.lstUpd hp ho (wq its n j u) (r.set rv j) (by rw[aV];exact hz) s.toks
 by_cases h0:0<=k
 ·have hk:k.toNat=j:=by
   rw[seqIndex_of h0 h4]at h1
   exact cz.inj h1
  exact PySem.W.ki_setAt ho h0 (by lia) (by rw[aT,<-hl];exact h4) (by rw[hk];exact⟨_,I',q⟩)
 ·have hk:(k+(its.toArray.size:Int)).toNat=j:=by
   rw[seqIndex_neg (by lia) h3]at h1
   rw[aT,<-hl]
   exact cz.inj h1
  exact PySem.W.ki_setBack ho (by lia) (by rw[aT,<-hl];exact h3) (by lia) (by rw[hk];exact⟨_,I',q⟩)
def ox:V->Bool
 | .non=>true
 | .bl _=>true
 | .int _=>true
 | .str _=>true
 |_=>false
def eqV:V->V->Bool
 | .non,.non=>true
 | .bl a,.bl b=>a==b
 | .bl a,.int b=>(if a then 1 else 0)==b
 | .int a,.bl b=>a==(if b then 1 else 0)
 | .int a,.int b=>a==b
 | .str a,.str b=>a==b
 |_,_=>false
theorem xO {A:Around} {s:Shared} {y x:V} {u v:Value} (ry:iw y u) (rx:iw x v) (fy:ox y=true) (fx:ox x=true):SeqAt.EqAt A s u v (eqV y x):=by
 cases y with
 |non=>
  cases ry
  cases x with
  |non=>cases rx;exact SeqAt.EqAt.same _
  |bl b=>cases rx;exact SeqAt.EqAt.none_bool b
  |int b=>obtain⟨t,rfl⟩:=rx;exact SeqAt.EqAt.none_int b t
  |str b=>obtain⟨t,rfl⟩:=rx;exact SeqAt.EqAt.none_str b t
  |_=>exact absurd (show false=true from fx) dN
 |bl a=>
  cases ry
  cases x with
  |non=>cases rx;exact SeqAt.EqAt.bool_none a
  |bl b=>cases rx;exact SeqAt.EqAt.bool_bool a b
  |int b=>obtain⟨t,rfl⟩:=rx;exact SeqAt.EqAt.bool_int a b t
  |str b=>obtain⟨t,rfl⟩:=rx;exact SeqAt.EqAt.bool_str a b t
  |_=>exact absurd (show false=true from fx) dN
 |int a=>
  obtain⟨t',rfl⟩:=ry
  cases x with
  |non=>cases rx;exact SeqAt.EqAt.int_none a t'
  |bl b=>cases rx;exact SeqAt.EqAt.int_bool a t' b
  |int b=>obtain⟨t,rfl⟩:=rx;exact SeqAt.EqAt.int_int a t' b t
  |str b=>obtain⟨t,rfl⟩:=rx;exact SeqAt.EqAt.int_str a t' b t
  |_=>exact absurd (show false=true from fx) dN
 |str a=>
  obtain⟨t',rfl⟩:=ry
  cases x with
  |non=>cases rx;exact SeqAt.EqAt.str_none a t'
  |bl b=>cases rx;exact SeqAt.EqAt.str_bool a t' b
  |int b=>obtain⟨t,rfl⟩:=rx;exact SeqAt.EqAt.str_int a t' b t
  |str b=>obtain⟨t,rfl⟩:=rx;exact SeqAt.EqAt.str_str a t' b t
  |_=>exact absurd (show false=true from fx) dN
 |_=>exact absurd (show false=true from fy) dN
def eqU (x:V) (u:Value):Bool:=match u with
 | .none=>eqV .non x
 | .bool b=>eqV (.bl b) x
 | .int i _=>eqV (.int i) x
 | .str z _=>eqV (.str z) x
 |_=>false
theorem Ar {x y:V} {u:Value} (r:iw y u) (f:ox y=true):eqU x u=eqV y x:=by
 cases y with
 |non=>cases r;rfl
 |bl b=>cases r;rfl
 |int i=>obtain⟨t,rfl⟩:=r;rfl
 |str z=>obtain⟨t,rfl⟩:=r;rfl
 |_=>exact absurd (show false=true from f) dN
theorem uC {x:V}:∀{xs:List V} {us:List Value},iA xs us->xs.all ox=true->us.any (eqU x)=xs.any fun y=>eqV y x
 |_,_,.nil,_=>rfl
 |y::xs,u::us,.cons r t,f=>by
  rw[aW,dP]at f
  rw[aP,aP,Ar r f.1,uC t f.2]
theorem qY {A:Around} {s:Shared} {x:V} {v:Value} (rx:iw x v) (fx:ox x=true):∀{xs:List V} {us:List Value},iA xs us->xs.all ox=true->∀u∈us,SeqAt.EqAt A s u v (eqU x u)
 |_,_,.nil,_=>fun u hu=>by cases hu
 |y::xs,u::us,.cons r t,f=>fun u' hu=>by
  rw[aW,dP]at f
  rcases aj.mp hu with rfl|hu
  ·rw[Ar r f.1];exact xO r rx f.1 fx
  ·exact qY rx fx t f.2 u' hu
def inV (x:V) (xs:List V):Bool:=xs.any fun y=>eqV y x
def rIn (K:PySem.W.Frag) (neg:Bool):R2:=fun x y H Q=>∃p xs,y= .ref p/\(SqL K H p xs\/SqT K H p xs)/\ox x=true/\xs.all ox=true/\Q (.bl (if neg then !inV x xs else inV x xs)) H
theorem kW:OpR X (compareOp .In) (rIn X.K false):=by
 intro pins s σ H x y v u Q I rx ry h
 obtain⟨p,xs,rfl,hq,fx,fs,q⟩:=h
 cases ry
 rcases hq with hq|hq
 ·obtain⟨its,r,pl,hz⟩:=I.list hq
  refine SeqAt.in_listAt (eqU x) pl.isList (fun w hw=>qY rx fx r fs w (by simpa using hw)) ⟨.bl _,H,I,rfl,?_⟩
  rw[show its.toArray.any (eqU x)=its.any (eqU x) by simp,uC r fs]
  exact q
 ·obtain⟨its,r,pl,hz⟩:=I.tuple hq
  refine SeqAt.in_tupleAt (eqU x) pl (fun w hw=>qY rx fx r fs w (by simpa using hw)) ⟨.bl _,H,I,rfl,?_⟩
  rw[show its.toArray.any (eqU x)=its.any (eqU x) by simp,uC r fs]
  exact q
theorem fS:nH X (.builtin "len") (fun xs H Q=>∃p ys,xs=[.ref p]/\(SqL X.K H p ys\/SqT X.K H p ys)/\Q (.int ys.length) H):=by
 intro pins s σ H xs us Q I r h
 obtain⟨p,ys,rfl,hq,q⟩:=h
 obtain⟨u,rfl,rx⟩:=mr r
 cases rx
 have hn:=qr
 rcases hq with hq|hq
 ·obtain⟨its,r',pl,hz⟩:=I.list hq
  have hlen:=r'.length
  exact Calls.call_len_list pl.isList (by simp only[aT]<;>lia) ⟨.int ys.length,H,I.tok _,⟨s.toks+ 1,by rw[aT,hlen]⟩,q⟩
 ·obtain⟨its,r',pl,hz⟩:=I.tuple hq
  have hlen:=r'.length
  exact len_tuple pl (by simp only[aT]<;>lia) ⟨.int ys.length,H,I.tok _,⟨s.toks+ 1,by rw[aT,hlen]⟩,q⟩
theorem nY:nH X (.builtin "len") (fun xs H Q=>∃z,xs=[.str z]/\z.length<=sizeLine/\Q (.int z.length) H):=by
 intro pins s σ H xs us Q I r h
 obtain⟨z,rfl,hz,q⟩:=h
 obtain⟨u,rfl,t,rfl⟩:=mr r
 have hn:=qr
 exact len_str (by lia) ⟨.int z.length,H,I.tok _,⟨_,rfl⟩,q⟩
theorem jx:nH X (.type "tuple") (fun xs H Q=>∃p ys,xs=[.ref p]/\((SqL X.K H p ys/\∀l,H l=none->Q (.ref l) (upd H l (.tup ys)))\/(SqT X.K H p ys/\Q (.ref p) H))):=by
 intro pins s σ H xs us Q I r h
 obtain⟨p,ys,rfl,h⟩:=h
 obtain⟨u,rfl,rx⟩:=mr r
 cases rx
 rcases h with⟨hq,q⟩|⟨hq,q⟩
 ·obtain⟨its,r',pl,hz⟩:=I.list hq
  have hlen:=r'.length
  refine call_tuple_list pl.isList (fun h' kp=>?_) (by simp only[aT]<;>lia)
  have I1:Inv X pins σ H {s with heap:=h'}:=I.kept (t':=s.toks) kp
  have I2:Inv X pins σ (upd H h'.objs.size (.tup ys)) {s with heap:=h'.push {cls:= .type "tuple",data:= .seq its.toArray}}:=
   I1.laid (t':=s.toks) (fun b o e=>eK _ e) (b6 _) (show jw X.prog X.w _ _ _ (.tup ys)from⟨hz,its,r',vo.new _ _⟩)
  exact⟨.ref h'.objs.size,_,I2,rfl,q _ (I1.hok.fresh (b6 _))⟩
 ·obtain⟨its,r',pl,hz⟩:=I.tuple hq
  exact call_tuple_same pl ⟨.ref p,H,I,rfl,q⟩
def tyV (K:PySem.W.Frag) (T:String) (x:V) (H:Hp):Prop:=match x with
 | .str _=>T="str"
 | .int _=>T="int"
 | .ref p=>(T="list"/\∃xs,SqL K H p xs)\/(T="tuple"/\∃o,K.lookup p=some o/\o.cls= .type "tuple"/\o.dict=none)\/
   (T="dict"/\((∃kvs,H p=some (.dK kvs))\/∃kvs,H p=some (.dT kvs)))\/(T="set"/\∃S n,H p=some (.set S n))
 |_=>False
theorem As {pins:List (Addr×Obj)} {σ:St} {H:Hp} {s:Shared} {T:String} {x:V} {v:Value} (I:Inv X pins σ H s) (r:iw x v) (ty:tyV X.K T x H):
  s.TypeIs v T/\∀a,v= .ref a->∃ob,s.heap.get? a=some ob/\ob.dict=none:=by
 cases x with
 |str z=>
  obtain⟨t,rfl⟩:=r
  cases(show T="str" from ty)
  exact⟨typeIs_str s z t,fun _ e=>nomatch e⟩
 |int i=>
  obtain⟨t,rfl⟩:=r
  cases(show T="int" from ty)
  exact⟨typeIs_int s i t,fun _ e=>nomatch e⟩
 |ref p=>
  cases r
  rcases ty with⟨rfl,xs,hq⟩|⟨rfl,o,hk,hc,hd⟩|⟨rfl,hk⟩|⟨rfl,S,n,hk⟩
  ·obtain⟨its,_,pl,_⟩:=I.list hq
   refine⟨pl.isList.typeIs,fun a e=>?_⟩
   cases e
   obtain⟨o,n,e,c,hd,_⟩:=pl
   exact⟨o,e,hd⟩
  ·refine⟨⟨o,I.kIn p o hk,hc⟩,fun a e=>?_⟩
   cases e
   exact⟨o,I.kIn _ o hk,hd⟩
  ·have z:∃o,s.heap.get? p=some o/\o.ExactDict:=by
    rcases hk with⟨kvs,hk⟩|⟨kvs,hk⟩
    ·obtain⟨_,_,_,_,o,_,_,e,ex,_⟩:=I.hok p _ hk
     exact⟨o,e,ex⟩
    ·obtain⟨_,_,_,_,o,_,_,e,ex,_⟩:=I.hok p _ hk
     exact⟨o,e,ex⟩
   obtain⟨o,e,ex⟩:=z
   refine⟨⟨o,e,ex.1⟩,fun a e2=>?_⟩
   cases e2
   exact⟨o,e,ex.2.1⟩
  ·obtain⟨o,_,_,_,e,ex,_⟩:=I.hok p _ hk
   refine⟨⟨o,e,ex.1⟩,fun a e2=>?_⟩
   cases e2
   exact⟨o,e,ex.2.1⟩
 |_=>exact False.elim ty
def tBM0 (K:PySem.W.Frag) (T:String) (r:V->List V->Hp->VK->Prop) (to:TE):TE:=fun σ H Q=>to σ H fun x H1=>tyV K T x H1/\r x [] H1 Q
def tBM (K:PySem.W.Frag) (T:String) (r:V->List V->Hp->VK->Prop) (to:TE) (t:TA):TE:=fun σ H Q=>to σ H fun x H1=>tyV K T x H1/\t σ H1 fun xs H2=>r x xs H2 Q
variable {o e:Expr} {es:List Expr} {to:TE} {t:TA} {name:Str} {apos cpos:Pos} {T id:String} {r:V->List V->Hp->VK->Prop}
theorem vA (pa:PlainAttrs T) (slot:Slot T name id) (hty:typeOf (.builtin id)=pure (.type "method_descriptor")) (hm:MtR X id r) (ho:PE X o to)
  (hbase:autoParam (attributeBase o name X.env (eval o X.env)=eval o X.env) L2.Internal.auR._auto_1) (hline:autoParam ((apos.endLine==cpos.line)=true) L2.Internal.auR._auto_1):PE X (.Call (.Attribute o name apos) [] [] cpos) (tBM0 X.K T r to):=by
 intro pins s σ H Q I h
 refine wpAny_Call_method0_late hbase hline (thn (ho pins s σ H _ I h) fun v s1 ⟨x,H1,I1,r1,ty,q1⟩=>?_)
 obtain⟨h1,h2⟩:=As I1 r1 ty
 exact⟨T,id,pa,slot,hty,h1,h2,Calls.callWith_builtin rfl (PySem.evalArgs_none (hm pins s1 σ H1 x [] v [] Q I1 r1 .nil q1))⟩
theorem ko (pa:PlainAttrs T) (slot:Slot T name id) (hty:typeOf (.builtin id)=pure (.type "method_descriptor")) (hm:MtR X id r) (ho:PE X o to) (ha:PA X (e::es) t)
  (hbase:autoParam (attributeBase o name X.env (eval o X.env)=eval o X.env) L2.Internal.auR._auto_1)
  (hfew:((backTo cpos (starEach (e::es) X.env)).all (fun x=>!x.1)&&(backToKw cpos (keywordEach [] X.env)).all (fun x=>x.1.isSome)
   &&decide ((e::es).length+([]:List Keyword).length+(if([]:List Keyword).isEmpty then 0 else 1)<30))=true:=by rfl)
  (hline:autoParam ((apos.endLine==cpos.line)=true) L2.Internal.auR._auto_1) (hs:autoParam (starEach (e::es) X.env=(false,eval e X.env)::starEach es X.env) L2.Internal.auR._auto_1) (hplain:autoParam ((backTo cpos (starEach es X.env)).any (·.1)=false) L2.Internal.auR._auto_1):
  PE X (.Call (.Attribute o name apos) (e::es) [] cpos) (tBM X.K T r to t):=by
 intro pins s σ H Q I h
 refine wpAny_Call_method_late hbase hfew hline rfl (thn (ho pins s σ H _ I h) fun v s1 ⟨x,H1,I1,r1,ty,q1⟩=>?_)
 obtain⟨h1,h2⟩:=As I1 r1 ty
 refine⟨T,id,pa,slot,hty,h1,h2,?_⟩
 have hA:=ha cpos pins s1 σ H1 _ I1 q1
 rw[hs]at hA⊢
 refine Calls.callWith_builtin (by show(false||(backTo cpos (starEach es X.env)).any (·.1))=false;rw[hplain]<;>rfl) (Calls.evalArgs_plain ?_)
 exact thn hA fun us s2 ⟨vs,H2,I2,r2,q2⟩=>hm pins s2 σ H2 x vs v us Q I2 r1 r2 q2
end
def MtM (X:Cx) (id:String) (r:V->List V->Hp->VK->Prop):Prop:=
 ∀(pins:List (Addr×Obj)) (s:Shared) (σ:St) (H:Hp) (x:V) (xs:List V) (v:Value) (us:List Value) (Q:VK),Inv X pins σ H s->iw x v->iA xs us->r x xs H Q->
  wpAny (model X.prog X.w) X.A (call (.builtin id) (v::us)) (EP X pins σ Q) X.xe s
theorem iA.one:∀{x:V} {us:List Value},iA [x] us->∃u,us=[u]/\iw x u
 |_,_,.cons r .nil=>⟨_,rfl,r⟩
theorem iA.zero:∀{us:List Value},iA [] us->us=[]
 |_,.nil=>rfl
theorem iA.dropLast {xs:List V} {us:List Value} (h:iA xs us):iA xs.dropLast us.dropLast:=by
 induction h with
 |nil=>exact .nil
 |cons r t ih=>
  cases t with
  |nil=>exact .nil
  |cons q t'=>exact .cons r ih
theorem iA.reverse {xs:List V} {us:List Value} (h:iA xs us):iA xs.reverse us.reverse:=by
 induction h with
 |nil=>exact .nil
 |cons r t ih=>rw[aX,aX];exact iA.append ih (.cons r .nil)
theorem wu {α:Type} (l:List α):l.eraseIdx (l.length-1)=l.dropLast:=by
 induction l with
 |nil=>rfl
 |cons a r ih=>
  cases r with
  |nil=>rfl
  |cons b r=>
   have e:(a::b::r).length-1=((b::r).length-1)+ 1:=by
    have h1:(a::b::r).length=r.length+ 2:=rfl
    have h2:(b::r).length=r.length+ 1:=rfl
    lia
   rw[e,List.eraseIdx_cons_succ,ih]
   all_goals rfl
section
variable {X:Cx} {pins:List (Addr×Obj)} {σ:St} {H:Hp} {s:Shared} {l b:Addr} {xs ys zs:List V}
theorem Inv.lset {its its':List Value} {n:Nat} {f:Array Value->Array Value} {t':Nat} (I:Inv X pins σ H s) (hH:H l=some (.lst xs))
  (e:s.heap.get? l=some {cls:= .type "list",data:= .seq its.toArray n}) (hf:f its.toArray=its'.toArray) (hv:iA ys its') (hz:ys.length<=sizeLine):
  Inv X pins σ (upd H l (.lst ys)) {s with heap:=s.heap.update l (Obj.mapSeq f),toks:=t'}:=by
 have q:=PySem.IsL.update e f
 rw[hf]at q
 refine I.write (x:=l) (e:=l) (by rw[hH];exact trivial) (.inl rfl) (fun b' u hb hu=>(eN s.heap (Obj.mapSeq f) (Ne.symm hb)).trans hu) ⟨_,q⟩ ?_
 exact⟨hz,its',_,hv,q⟩
theorem Inv.lnew {its:List Value} {t':Nat} (I:Inv X pins σ H s) (hv:iA ys its) (hz:ys.length<=sizeLine):
  Inv X pins σ (upd H s.heap.objs.size (.lst ys)) {s with heap:=s.heap.push {cls:= .type "list",data:= .seq its.toArray},toks:=t'}:=
 I.laid (fun _ _ q=>eK _ q) (b6 _) ⟨hz,its,0,hv,eJ _ rfl⟩
theorem Inv.fresh (I:Inv X pins σ H s):H s.heap.objs.size=none:=I.hok.fresh (b6 _)
theorem Inv.lstM (I:Inv X pins σ H s) (hH:H l=some (.lst xs)):xs.length<=sizeLine/\∃(its:List Value) (n:Nat),iA xs its/\xs.length=its.length/\s.heap.get? l=some {cls:= .type "list",data:= .seq its.toArray n}:=by
 obtain⟨z,its,n,r,e⟩:=I.hok l _ hH
 exact⟨z,its,n,r,r.length,e⟩
theorem zo {n:Nat} (h:n<=sizeLine):Builtin.List.listTooLong n=false:=by
 unfold Builtin.List.listTooLong
 exact decide_eq_false (by lia)
end
section
variable {X:Cx}
def xP:V->List V->Hp->VK->Prop:=fun x vs H Q=>∃l xs y,x= .ref l/\vs=[y]/\H l=some (.lst xs)/\xs.length<sizeLine/\Q .non (upd H l (.lst (xs++[y])))
theorem gq:MtM X "list.append" xP:=by
 intro pins s σ H x vs v us Q I rx rv h
 obtain⟨l,xs,y,rfl,rfl,hH,hz,q⟩:=h
 cases rx
 obtain⟨u,rfl,ru⟩:=rv.one
 obtain⟨z,its,n,r,hl,e⟩:=I.lstM hH
 refine call_meets F.slot_list_append ⟨_,e,rfl⟩ F.entry_list_append (F.args_list_append_2 _ _) (PySem.list_append l its.toArray n u (by rw[aT];lia)) ⟨e,?_⟩
 refine⟨.non,_,I.lset (its':=its++[u]) hH e (by simp) (r.append (.cons ru .nil)) ?_,rfl,q⟩
 rw[aN,aY]
 lia
def Bq:V->List V->Hp->VK->Prop:=fun x vs H Q=>∃l b xs zs,x= .ref l/\vs=[.ref b]/\H l=some (.lst xs)/\H b=some (.lst zs)/\xs.length+zs.length<=sizeLine/\Q .non (upd H l (.lst (xs++zs)))
theorem xQ:MtM X "list.extend" Bq:=by
 intro pins s σ H x vs v us Q I rx rv h
 obtain⟨l,b,xs,zs,rfl,rfl,hH,hB,hz,q⟩:=h
 cases rx
 obtain⟨u,rfl,ru⟩:=rv.one
 cases ru
 obtain⟨z,its,n,r,hl,e⟩:=I.lstM hH
 obtain⟨z2,its2,n2,r2,hl2,e2⟩:=I.lstM hB
 have hsz:its.toArray.size+its2.toArray.size<=sizeLine:=by rw[aT,aT];lia
 have hlong:¬(!its.toArray.isEmpty&&Builtin.List.listTooLong (its.toArray.size+its2.toArray.size))=true:=by
  rw[zo hsz,dQ]
  exact dN
 refine call_meets F.slot_list_extend ⟨_,e,rfl⟩ F.entry_list_extend (F.args_list_extend_2 _ _)
  (AutoSeq1.list_extend_list_list_0 l its.toArray n b its2.toArray n2 hlong (by rw[aT];lia) (by lia)) ⟨e,e2,?_⟩
 refine⟨.non,_,I.lset (its':=its++its2) hH e (by simp) (r.append r2) ?_,rfl,q⟩
 rw[aN]
 lia
def FE:V->List V->Hp->VK->Prop:=fun x vs H Q=>∃l xs y,x= .ref l/\vs=[]/\H l=some (.lst xs)/\xs[xs.length-1]?=some y/\Q y (upd H l (.lst xs.dropLast))
theorem vB:MtM X "list.pop" FE:=by
 intro pins s σ H x vs v us Q I rx rv h
 obtain⟨l,xs,y,rfl,rfl,hH,hy,q⟩:=h
 cases rx
 have hus:=rv.zero
 subst hus
 obtain⟨z,its,n,r,hl,e⟩:=I.lstM hH
 obtain⟨u,hu,ru⟩:=r.get hy
 have hy':its.toArray[its.toArray.size-1]?=some u:=by
  show its.toArray[its.length-1]?=some u
  rw[<-dX,<-hl]
  exact hu
 refine call_meets F.slot_list_pop ⟨_,e,rfl⟩ F.entry_list_pop (F.args_list_pop_1 _) (MeetsSeq.list_pop_last l its.toArray n u hy' (by rw[aT];lia)) ⟨e,?_⟩
 refine⟨y,_,I.lset (its':=its.dropLast) hH e ?_ r.dropLast ?_,ru,q⟩
 ·show its.toArray.eraseIdxIfInBounds (its.toArray.size-1)=its.dropLast.toArray
  rw[aT,List.eraseIdxIfInBounds_toArray,wu]
 ·rw[List.length_dropLast]
  lia
def rCat:R2:=fun x y H Q=>∃l b xs zs,x= .ref l/\y= .ref b/\H l=some (.lst xs)/\H b=some (.lst zs)/\xs.length+zs.length<=sizeLine/\∀p,H p=none->Q (.ref p) (upd H p (.lst (xs++zs)))
theorem xR:OpR X (binaryOp .Add) rCat:=by
 intro pins s σ H x y v u Q I rx ry h
 obtain⟨l,b,xs,zs,rfl,rfl,hH,hB,hz,q⟩:=h
 cases rx
 cases ry
 obtain⟨z,its,n,r,hl,e⟩:=I.lstM hH
 obtain⟨z2,its2,n2,r2,hl2,e2⟩:=I.lstM hB
 refine PySem.P.add_list e e2 ?_ (by rw[aT,aT];lia)
 have ea:its.toArray++its2.toArray=(its++its2).toArray:=by simp
 rw[ea]
 exact⟨.ref _,_,I.lnew (t':=s.toks) (r.append r2) (by rw[aN];lia),rfl,q _ I.fresh⟩
end
section
variable {prog:Program} {w:World} {A:Around} {E:Value->Shared->Prop} {s:Shared}
set_option maxRecDepth 100000 in
end
section
variable {X:Cx}
end
end L2.Internal
namespace Att.Internal
open PySem PySem.W PySem.Calls PyProof.Rows
theorem oZ {P:Params} {h:Heap}:∀(ns:List Int) (vs:List Value),WellAll P h vs (ns.map WData.int)->IntsAre vs ns:=by
 intro ns
 induction ns with
 |nil=>
  intro vs w
  rw[aS]at w
  cases w
  exact .nil
 |cons n ns ih=>
  intro vs w
  rw[aB]at w
  cases w with
  |cons a b=>
   cases a
   exact .cons _ _ (ih _ b)
theorem xS {l:OpenLaw} {n:Nat} (hn:l.most=some n) {P:Params} {h:Heap} {args:List WData} {vals:List Value}
  (hpre:l.row.toRowW.claim.pre args=true) (hwl:WellAll P h vals args):
  ∃a vs ns,vals=[Value.ref a]/\args=[WData.list (ns.map WData.int)]/\h.get? a=some {cls:= .type "list",data:= .seq vs.toArray}/\IntsAre vs ns/\ns.length<=n:=by
 have hsh:WShape.hasAll [] args [.list .int]=true:=(pre_splitW hpre).1
 have hc:l.pre.holds [] {args:=args}=true:=(pre_splitW hpre).2
 obtain⟨d,r,rfl,h1,h2⟩:=hasAllW_cons hsh
 obtain rfl:=hasAllW_nil h2
 obtain⟨xs,rfl,h3⟩:=hasW_list h1
 obtain⟨ns,rfl⟩:=items_int h3
 have hlen:ns.length<=n:=by
  unfold OpenLaw.pre at hc
  have h4:(WTm.not (.lt (.lit (.int (n:Int))) (.len (.arg 0)))).holds [] {args:=[.list (ns.map .int)]}=true:=by
   have h4:=(holds_andW hc).1
   rw[hn]at h4
   exact h4
  have h5:=condW_of h4 (w_not (w_lt w_lit (w_len_list (w_arg rfl))))
  rw[aC]at h5
  refine Nat.le_of_not_lt fun q=>?_
  have q':(n:Int)<((ns.length:Nat):Int):=by lia
  first
   |(rw[decide_eq_true q']at h5;exact absurd h5 (by decide))
   |(simp at h5;lia)
 cases hwl with
 |cons w1 w2=>
  cases w2
  cases w1 with
  |list ho hall=>exact⟨_,_,ns,rfl,rfl,ho,oZ ns _ hall,hlen⟩
theorem xT (l:OpenLaw) (args:List WData):l.row.toRowW.claim.post args (.bool true) args=true:=
 postW_of (r:=l.row.toRowW) (X:=(true==true))
  (show WShape.has [] (.bool true) .bool=true by first|rfl|decide|simp[WShape.has,WShape.arms,WShape.armsAll])
  (show(WTm.eq .res (.lit (.bool true))).value [] {args:=args,res:=some (.bool true),after:=args}=some (.bool (true==true))from w_eq_bool (w_res rfl) w_lit) rfl
theorem attach_call {l:OpenLaw} {n:Nat} {q:Program} {loose:List Str} {XP:(Str->Option Value)->Heap->Prop} {YP:World->Heap->Prop} {d:DefRec}
  (hn:l.most=some n) (hdf:d.params.defaults=[])
  (call:∀(w:World) (s₀ s₁:Shared) (mg mb:Str->Option Value) (fa:Addr) (o:Obj) (pm cd doc:Value) (a:Addr) (vs:List Value) (ns:List Int),
   Ground q loose [] XP w s₀ mg mb s₁.heap->YP w s₁.heap->
   s₁.heap.get? fa=some o->o.data= .func (docDef d.name d.params d.body d.scope pm cd doc)->s₁.heap.CodeRec cd d.name->mg d.name=some (.ref fa)->
   s₁.heap.get? a=some {cls:= .type "list",data:= .seq vs.toArray}->IntsAre vs ns->ns.length<=n->s₁.gens=#[]->
   codeAny (model l.prog w) callerA (.call (.ref fa) ⟨[.ref a],[]⟩) (fun r s'=>r= .ok (.ret (.bool true))/\OldK s₁.heap s'.heap/\s'.os=s₁.os/\AllBare s'.gens) s₁):
  WalkO q loose XP YP l.row.toRowW d [] (fun f vs=>PySem.call f vs):=by
 intro w s₀ s₁ mg mb G Y fa o pm cd doc dV kV ho hd hcd hD hmg hg args vals as hpre hlay hrd hwl hlo
 obtain rfl:dV= .none:=Dflts.none hD hdf
 obtain rfl:kV= .none:=Dflts.noKw hD
 obtain⟨a,vs,ns,rfl,rfl,hobj,hints,hlen⟩:=xS hn hpre hwl
 refine enter_call (codeAny_mono (call w s₀ s₁ mg mb fa o pm cd doc a vs ns G Y ho (fd_plain hd) hcd hmg hobj hints hlen hg) fun r s' hq=>?_)
 obtain⟨rfl,h2,h3,h4⟩:=hq
 exact⟨.inl ⟨.bool true,.bool true,[],rfl,fun _=>rfl,.bool true,xT l _,fun _=>⟨List.Pairwise.nil,fun _ hm=>(nomatch hm)⟩⟩,h2,h3,h4⟩
section
variable {prog:Program} {w:World} {A:Around} {E:Value->Shared->Prop} {s:Shared} {K:Frag}
end
end Att.Internal
namespace L2.Internal
open PySem PySem.Spec PyProof.Rows
theorem sQ:∀{vs:List Value} {ns:List Int},IntsAre vs ns->iA (ns.map V.int) vs
 |_,_,.nil=> .nil
 |_,_,.cons n t h=> .cons ⟨t,rfl⟩ (sQ h)
def Ep (H:Hp):Prop:=∀b,H b=none\/∃o xs,H b=some (.frz o (.lst xs))
theorem zp {P:Program} {w:World} {K:PySem.W.Frag} {mg mb:Str->Option Value} {CX:CXT} {k:Nat} {fa a:Addr} {fd:FuncData} {x:Str} {sp:Sp} {s₁:Shared} {vs:List Value} {ns:List Int}
  (KX:K.In s₁.heap) (hns:s₁.heap.Ns mainGlobals mg) (hb:s₁.heap.Ns builtinsNs mb) (hbb:∀x:Str,x≠"__name__"->mb x=bootBuiltins x) (hlim:s₁.heap.NoLimit) (hg:s₁.gens=#[])
  (ha:s₁.heap.get? a=some {cls:= .type "list",data:= .seq vs.toArray}) (hi:IntsAre vs ns) (hl:ns.length<=sizeLine) (hr:nh k callerA)
  (F:∀base:Heap,K.In base->base.Ns mainGlobals mg->gu P w K mg base CX k fa fd [x] sp) (hbind:∀(s:Shared) (u:Value),BindsTo s fd ⟨[u],[]⟩ [(x,u)])
  (hsp:∀H:Hp,Ep H->SqL K H a (ns.map V.int)->sp [.ref a] H (fun v _=>v= .bl true) fun _ _ _=>False)
  (hCX:∀H e s',CX [] H s₁ (fun _ _ _=>False) e s'->False):
  codeAny (model P w) callerA (.call (.ref fa) ⟨[.ref a],[]⟩) (fun r s'=>r= .ok (.ret (.bool true))/\OldK s₁.heap s'.heap/\s'.os=s₁.os/\AllBare s'.gens) s₁:=by
 have rv:=sQ hi
 have lenV:=hi.length
 have core:∀H:Hp,Ep H->SqL K H a (ns.map V.int)->HOk P w H s₁.heap->(∀b,H b≠none->b=a)->(H a≠none->K.lookup a=none)->
   codeAny (model P w) callerA (.call (.ref fa) ⟨[.ref a],[]⟩) (fun r s'=>r= .ok (.ret (.bool true))/\OldK s₁.heap s'.heap/\s'.os=s₁.os/\AllBare s'.gens) s₁:=by
  intro H hO hS hok hA hK
  have base_of:∀{b:Addr} {o:Obj},s₁.heap.get? b=some o->H b=none->(zd s₁.heap H).get? b=some o:=fun e n=>ze e n
  have noA:∀{b:Addr} {o:Obj} {es:Array DictEntry} {ep:Nat},s₁.heap.get? b=some o->o.data= .dict es ep->H b=none:=fun{b o es ep} e d=>by
   cases q:H b with
   |none=>rfl
   |some u=>
    have e':b=a:=hA b (by rw[q];simp)
    subst e'
    rw[ha]at e;cases e
    have d':Data.seq vs.toArray _=Data.dict es ep:=d
    cases d'
  have nsK:∀{b:Addr} {m:Str->Option Value},s₁.heap.Ns b m->(zd s₁.heap H).Ns b m:=fun{b m} ⟨o,es,ep,e,d,r⟩=>⟨o,es,ep,base_of e (noA e d),d,r⟩
  have hKb:K.In (zd s₁.heap H):=fun b o e=>base_of (KX b o e) (by
   cases q:H b with
   |none=>rfl
   |some u=>
    have e':b=a:=hA b (by rw[q];simp)
    subst e'
    rw[hK (by rw[q];simp)]at e;cases e)
  have hM:Mod K mg (zd s₁.heap H):=⟨hKb,nsK hns,⟨mb,nsK hb,hbb⟩,let⟨mc,h1,h2⟩:=hlim;⟨mc,nsK h1,h2⟩⟩
  have e0:Be P w K mg (zd s₁.heap H) callerA [] s₁ H:=⟨rfl,hM,fun b o e=>A2 e,Nat.le_of_eq (xh _ _),trivial,fun b hb=>absurd (show b∈([]:List Addr)from hb) (by simp),hok,.of_eq hg⟩
  refine codeAny_mono ((F _ hKb (nsK hns)).run callerA [] s₁ H ⟨[.ref a],[]⟩ [.ref a] [.ref a] _ _ hr e0 (hbind s₁ (.ref a)) (.cons rfl .nil) (hsp H hO hS)) fun r s' h=>?_
  cases r with
  |error e=>exact(hCX H e s' h).elim
  |ok fl=>
   cases fl with
   |next=>exact False.elim h
   |brk=>exact False.elim h
   |cont=>exact False.elim h
   |ret u=>
    obtain⟨v,H',os,bare,un,hok',r',q⟩:=h
    have q':v= .bl true:=q
    subst q'
    obtain rfl:u=Value.bool true:=r'
    refine⟨rfl,OldK.of_keep fun b o e=>?_,os,bare⟩
    cases q:H b with
    |none=>exact un.keep b o e q (by intro z;exact absurd (show b∈([]:List Addr)from z) (by simp)) (by simp)
    |some u=>
     rcases hO b with z|⟨ob,xs,z⟩
     ·rw[q]at z;cases z
     ·have z2:=un.frzs b ob _ z
      obtain⟨e1,_⟩:=hok b _ z
      obtain⟨e2,_⟩:=hok' b _ z2
      rw[e]at e1;cases e1
      exact e2
 cases hk:K.lookup a with
 |some o=>
  have e:=KX a o hk
  rw[ha]at e
  cases e
  refine core (fun _=>none) (fun _=> .inl rfl) (.inr ⟨_,vs.toArray,_,hk,rfl,rfl,rfl,by rw[aT,lenV];exact hl,by simpa using rv⟩) (fun b u z=>by have z':(none:Option HO)=some u:=z;cases z') (fun b z=>absurd rfl z) fun z=>absurd rfl z
 |none=>
  refine core (fun b=>if b=a then some (.frz {cls:= .type "list",data:= .seq vs.toArray} (.lst (ns.map V.int)))else none) (fun b=>?_) (.inl (.inr ⟨{cls:= .type "list",data:= .seq vs.toArray},if_pos rfl⟩)) (fun b u z=>?_) (fun b z=>?_) fun _=>hk
  ·by_cases hb:b=a
   ·exact .inr ⟨_,_,if_pos hb⟩
   ·exact .inl (if_neg hb)
  ·by_cases hb:b=a
   ·have z':=(if_pos hb).symm.trans z
    cases z'
    subst hb
    exact⟨ha,by rw[aC];exact hl,vs,_,rv,ha⟩
   ·have z':=(if_neg hb).symm.trans z
    cases z'
  ·by_cases hb:b=a
   ·exact hb
   ·exact absurd (if_neg hb) z
theorem walk_of {l:PySem.W.OpenLaw} {n k:Nat} {q:Program} {loose:List Str} {XP:(Str->Option Value)->Heap->Prop} {YP:World->Heap->Prop} {d:DefRec} {K:Params->PySem.W.Frag} {CX:World->CXT} {sp:World->Sp} {x:Str}
  (hn:l.most=some n) (hn2:n<=sizeLine) (hdf:d.params.defaults=[]) (hr:nh k callerA)
  (hY:∀(w:World) (h:Heap),YP w h->(K w.params).In h)
  (F:∀(w:World) (mg:Str->Option Value) (fa:Addr) (h:Heap),(K w.params).In h->h.Ns mainGlobals mg->mg d.name=some (.ref fa)->
   ∃fd:FuncData,(∀(s:Shared) (u:Value),BindsTo s fd ⟨[u],[]⟩ [(x,u)])/\
    ∀base:Heap,(K w.params).In base->base.Ns mainGlobals mg->gu l.prog w (K w.params) mg base (CX w) k fa fd [x] (sp w))
  (hsp:∀(w:World) (H:Hp) (a:Addr) (ns:List Int),ns.length<=n->Ep H->SqL (K w.params) H a (ns.map V.int)->sp w [.ref a] H (fun v _=>v= .bl true) fun _ _ _=>False)
  (hCX:∀(w:World) (H:Hp) (s:Shared) (e:Value) (s':Shared),CX w [] H s (fun _ _ _=>False) e s'->False):
  PySem.W.WalkO q loose XP YP l.row.toRowW d [] (fun f vs=>PySem.call f vs):=by
 refine Att.Internal.attach_call hn hdf fun w s₀ s₁ mg mb fa o pm cd doc a vs ns G Y ho hd hcd hmg hobj hints hlen hg=>?_
 have KX:=hY w _ Y
 obtain⟨fd,hb,hF⟩:=F w mg fa _ KX G.T.g hmg
 exact zp KX G.T.g G.T.b G.T.builtins G.T.nolimit hg hobj hints (bX hlen hn2) hr hF hb (fun H hO hS=>hsp w H a ns hlen hO hS) fun H e s'=>hCX w H s₁ e s'
def gO (s:Stmt) (j:Nat):Stmt:=match s with
 | .ClassDef _ _ _ body _ _ _ _ _ _ _=>body.getD j (.Pass ⟨0,0,0,0⟩)
 |_=> .Pass ⟨0,0,0,0⟩
def fj (s:Stmt):Arguments:=match s with
 | .FunctionDef _ a _ _ _ _ _ _ _ _=>a
 |_=>{posonlyargs:=[],args:=[],vararg:=none,kwonlyargs:=[],kw_defaults:=[],kwarg:=none,defaults:=[]}
def fh (s:Stmt):List Stmt:=match s with
 | .FunctionDef _ _ b _ _ _ _ _ _ _=>b
 |_=>[]
def eT (s:Stmt):Scope:=match s with
 | .FunctionDef _ _ _ _ _ _ sc _ _ _=>sc
 |_=>{kind:= .function,names:=[],isGenerator:=false,isCoroutine:=false}
abbrev CX0:CXT:=fun _ _ _ _ _ _=>False
abbrev E0:XK:=fun _ _ _=>False
theorem fO {X:Cx}:mz CX0 X E0:=fun _ _ _ _ _ _ _ h=>h.elim
structure Fun (K:PySem.W.Frag) (x qual:Str) (st:Stmt) (f:Addr) (fd:FuncData):Prop where
 ex:∃(oc:Value) (od:Option Addr) (kV doc pm:Value) (an:Option Addr) (cdv ct:Value) (osl:Array (Option Value)),
  fd=dm x qual (fj st) (fh st) (eT st) .none kV doc pm an cdv ct/\K.lookup f=some ⟨oc,od,.func fd,osl⟩/\dr K cdv qual=true
 kp:cZ K (.ref f)=true
section
variable {P:Program} {w:World} {K:PySem.W.Frag} {mg:Str->Option Value} {base:Heap}
theorem Fun.ok {x qual:Str} {st:Stmt} {f:Addr} {fd:FuncData} {N ps:List Str} {k:Nat} {sp:Sp} (F:Fun K x qual st f fd) (S:fo N ps (eT st)) (len:∀vs H Q E,sp vs H Q E->vs.length=ps.length)
  (hbody:∀(cdv:Value) (A:Around) (outer:List Env) (s:Shared) (H:Hp) (vs:List V) (Q:VK) (E:XK),nh k (A.deeper (envOfC qual (eT st) s.heap.objs.size f cdv))->sp vs H Q E->
   ∃t,PSs (ur CX0 P w K mg base N qual (eT st) f cdv A outer s H E).nox (fh st) t/\t {nx:=fun _ H'=>Q .non H',rt:=Q} (ou N vs) H):gu P w K mg base CX0 (k+ 1) f fd ps sp:=by
 obtain⟨oc,od,kV,doc,pm,an,cdv,ct,osl,rfl,lk,hcd⟩:=F.ex
 refine CF lk hcd S len fun A outer s H vs Q E hr hsp=>?_
 obtain⟨t,h,q⟩:=hbody cdv A outer s H vs Q E hr hsp
 exact⟨t,h.nox,q⟩
theorem Fun.binds {x qual:Str} {st:Stmt} {f:Addr} {fd:FuncData} {ps:List Str} (F:Fun K x qual st f fd)
  (h:∀(kV doc pm:Value) (an:Option Addr) (cdv ct:Value) (us:List Value),us.length=ps.length->bindArgs (dm x qual (fj st) (fh st) (eT st) .none kV doc pm an cdv ct) ⟨us,[]⟩=pure (ps.zip us)):fW K fd ps []:=by
 obtain⟨oc,od,kV,doc,pm,an,cdv,ct,osl,rfl,lk,hcd⟩:=F.ex
 exact .all (h kV doc pm an cdv ct)
theorem eZ {x qual:Str} {st:Stmt} {f:Addr} {oc:Value} {od an:Option Addr} {osl:Array (Option Value)} {kV doc pm cdv ct:Value} (l:K.lookup f=some ⟨oc,od,.func (dm x qual (fj st) (fh st) (eT st) .none kV doc pm an cdv ct),osl⟩)
  (c:dr K cdv qual=true) (k:cZ K (.ref f)=true):Fun K x qual st f (dm x qual (fj st) (fh st) (eT st) .none kV doc pm an cdv ct):=⟨⟨oc,od,kV,doc,pm,an,cdv,ct,osl,rfl,l,c⟩,k⟩
end
theorem sR {A:Around} {k:Nat} (hr:nh k A):A.units+ 1<cLine:=cc (Nat.add_le_add_left (by decide:1<=64) _) hr.units
section
variable {X:Cx}
theorem pv (i:Nat) {x:Str} {pos:Pos} (hN:autoParam (X.N[i]?=some x) L2.Internal.auR._auto_1) (hv:Vis X.env.scope x:=by first|exact Or.inl rfl|exact Or.inr (.inl rfl)|exact Or.inr (.inr rfl)) (hd:autoParam ((x==("__debug__":Str))=false) L2.Internal.auD._auto_1)
  (hcd:autoParam ((x==("__classdict__":Str))=false) L2.Internal.auD._auto_1):PE X (.Name x pos) (B8 i):=Cj hN hv hd hcd
end
theorem gR {A B:Prop} (h:B):if false=true then A else B:=by
 rw[if_neg dN]
 exact h
theorem iM {A B:Prop} (h:A):if true=true then A else B:=by
 rw[if_pos rfl]
 exact h
theorem DY {c A B:Prop} [Decidable c] (h1:c->A) (h2:¬c->B):if c then A else B:=by
 by_cases h:c
 ·rw[if_pos h]
  exact h1 h
 ·rw[if_neg h]
  exact h2 h
theorem Er {c A B:Prop} [Decidable c] (hc:c) (h:B):if(!decide c)=true then A else B:=by
 rw[decide_eq_true hc]
 exact gR h
def fK (H H':Hp):Prop:=∀b o,H b=some o->H' b=some o
theorem fK.refl (H:Hp):fK H H:=fun _ _ h=>h
theorem fK.trans {H H1 H2:Hp} (a:fK H H1) (b:fK H1 H2):fK H H2:=fun c o h=>b c o (a c o h)
theorem fK.free {H H':Hp} (e:fK H H') {l:Addr} (h:H' l=Option.none):H l=Option.none:=by
 cases q:H l with
 |none=>rfl
 |some o=>
  rw[e l o q]at h
  cases h
theorem fK.seq {K:PySem.W.Frag} {H H':Hp} {a:Addr} {xs:List V} (e:fK H H') (h:SqL K H a xs):SqL K H' a xs:=by
 rcases h with(h|⟨o,h⟩)|h
 ·exact .inl (.inl (e _ _ h))
 ·exact .inl (.inr ⟨o,e _ _ h⟩)
 ·exact .inr h
section
variable {X:Cx}
end
section
variable {κ:Type} [DecidableEq κ]
theorem zq {kvs:List (κ×V)} {k:κ} (h:je kvs k=none):¬k∈kvs.map (·.1):=by
 intro m
 obtain⟨p,hp,e⟩:=aZ.mp m
 have q:(kvs.any fun kv=>decide (kv.1=k))=true:=a7.mpr ⟨p,hp,decide_eq_true e⟩
 rw[kP,h]at q
 exact absurd q (by simp)
theorem Br {kvs:List (κ×V)} {k:κ} {v:V} (h:je kvs k=some v):k∈kvs.map (·.1):=by
 have q:(kvs.any fun kv=>decide (kv.1=k))=true:=by
  rw[kP,h]
  all_goals rfl
 obtain⟨p,hp,e⟩:=a7.mp q
 exact aZ.mpr ⟨p,hp,of_decide_eq_true e⟩
theorem xU:∀{l:List κ} {k:κ},l.Nodup->¬k∈l->(l++[k]).Nodup
 |[],k,_,_=>by simp
 |a::r,k,h,hk=>by
  obtain⟨h1,h2⟩:=aE.mp h
  show(a::(r++[k])).Nodup
  refine aE.mpr ⟨fun m=>?_,xU h2 fun m=>hk (aj.mpr (Or.inr m))⟩
  rcases ak.mp m with q|q
  ·exact h1 q
  ·exact hk (aj.mpr (Or.inl (a8.mp q).symm))
theorem Bs {kvs:List (κ×V)} {k:κ} (v:V) (hn:(kvs.map (·.1)).Nodup) (h:je kvs k=none):((ml kvs k v).map (·.1)).Nodup:=by
 rw[zj v h,a9]
 exact xU hn (zq h)
end
section
variable {X:Cx}
theorem nJ {x:Str} {i:Int} {t:Tok} {pos:Pos} (hg:Gl X x) (hm:X.mg x=some (.int i t)) (hd:autoParam ((x==("__debug__":Str))=false) L2.Internal.auD._auto_1):PE X (.Name x pos) (tC (.int i)):=uj hg hm (show iw (.int i) _ from⟨t,rfl⟩) hd
theorem zr {x y:Str} {t:Tok} {pos:Pos} (hg:Gl X x) (hm:X.mg x=some (.str y t)) (hd:autoParam ((x==("__debug__":Str))=false) L2.Internal.auD._auto_1):PE X (.Name x pos) (tC (.str y)):=uj hg hm (show iw (.str y) _ from⟨t,rfl⟩) hd
theorem zt {x:Str} {a:Addr} {pos:Pos} (hg:Gl X x) (hm:X.mg x=some (.ref a)) (hd:autoParam ((x==("__debug__":Str))=false) L2.Internal.auD._auto_1):PE X (.Name x pos) (tC (.ref a)):=uj hg hm (show iw (.ref a) _ from rfl) hd
theorem nj {x:Str} {n:String} {pos:Pos} (hg:Gl X x) (hm:X.mg x=none) (hv:bootBuiltins x=some (.type n)) (hn:autoParam (x≠"__name__") L2.Internal.auD._auto_1) (hd:autoParam ((x==("__debug__":Str))=false) L2.Internal.auD._auto_1):PE X (.Name x pos) (tC (.ty n)):=A3 hg hm hv (show iw (.ty n) _ from rfl) hn hd
end
theorem jy:bootBuiltins "len"=some (.builtin "len"):=by decide+kernel
theorem CL:bootBuiltins "all"=some (.builtin "all"):=by decide+kernel
theorem gT:bootBuiltins "isinstance"=some (.builtin "isinstance"):=by decide+kernel
theorem nZ:bootBuiltins "int"=some (.type "int"):=by decide+kernel
theorem xV:bootBuiltins "str"=some (.type "str"):=by decide+kernel
theorem Bt:bootBuiltins "bool"=some (.type "bool"):=by decide+kernel
theorem Bu:bootBuiltins "list"=some (.type "list"):=by decide+kernel
theorem jz:bootBuiltins "tuple"=some (.type "tuple"):=by decide+kernel
theorem xW:bootBuiltins "dict"=some (.type "dict"):=by decide+kernel
def Its (x:Str):It:=⟨fun i _=>i<x.cps.size,fun i H v H'=>H'=H/\∃c,x.cps[i]?=some c/\v= .str ⟨#[c]⟩,fun i _=>i=x.cps.size⟩
theorem vC {P:Program} {w:World} {K:PySem.W.Frag} {tg:Expr} (it:Addr) (T:String) (x:Str) (t:Tok)
  (hT:["enumerate","zip","dict_itemiterator","dict_reverseitemiterator","odict_iterator","itertools.zip_longest","itertools.pairwise"].contains T=false)
  (W:∀A:Around,A.handled=none->Walks P w A it [it] [it] x.cps.size (SignAt x) (fun i h=>h.IsStrIter it T x t i))
  (hself:∀(A:Around) (i:Nat) (s:Shared) (Q:Value->Shared->Prop) (E:Value->Shared->Prop),s.heap.IsStrIter it T x t i->Q (.ref it) s->wpAny (model P w) A (pyIter (.ref it)) Q E s):
  Ak P w K tg (Its x) [it] it (fun i h=>h.IsStrIter it T x t i) where
 mem:=by simp
 obj:=fun i h st b hb=>by
  have e:b=it:=by simpa using hb
  subst e
  obtain⟨o,e,c,d⟩:=st
  exact⟨o,e,fun v z=>by rw[d]at z;cases z⟩
 keep:=fun i h h' st k=>by
  obtain⟨o,e,r⟩:=st
  exact⟨o,k it (by simp) o e,r⟩
 item:=by
  intro X hP hw hK hc i pins s σ H E I hf st hg
  subst hP hw hK
  obtain⟨f0,f1,f2,f3,f4,f5⟩:=hf it (by simp)
  refine(W X.A (I.ok.hd hc)).item i s _ _ hg st fun v h' tk hv st' kk=>?_
  obtain⟨c,u,hc',rfl⟩:=hv
  have I1:Inv X pins σ H {s with heap:=h',toks:=tk}:=I.turned (fun b o hb e=>kk b o (by simpa using hb) e) f0 f1 f3 f4 f5
  obtain⟨o,e,c1,d⟩:=id st'
  exact⟨_,rfl,xq (s:={s with heap:=h',toks:=tk}) e c1 d hT ⟨.str ⟨#[c]⟩,H,I1,⟨u,rfl⟩,⟨rfl,c,hc',rfl⟩,st',fun b hb=>(hf b hb).1⟩⟩
 done:=by
  intro X hP hw hK hc i pins s σ H E I hf st hg
  subst hP hw hK
  obtain⟨f0,f1,f2,f3,f4,f5⟩:=hf it (by simp)
  have hg':i=x.cps.size:=hg
  subst hg'
  exact(W X.A (I.ok.hd hc)).done s _ _ st fun h' tk kk=>⟨rfl,I.turned (fun b o hb e=>kk b o (by simpa using hb) e) f0 f1 f3 f4 f5⟩
 self:=fun A i s Q E st h=>hself A i s Q E st h
section
variable {X:Cx} {tg:Expr}
def iStr (tl:TE):TI:=fun σ H R=>tl σ H fun v H1=>∃x,v= .str x/\R (Its x) H1
theorem CM {l:Expr} {tl:TE} (hl:PE X l tl):PI X tg l (iStr tl):=by
 intro pins s σ H R I h
 refine thn (hl pins s σ H _ I h) fun v s1 ⟨y,H1,I1,r1,q1⟩=>?_
 obtain⟨x,e,q⟩:=q1
 subst e
 obtain⟨t,rfl⟩:=r1
 have fp:∀b∈[s1.heap.objs.size],w6 X pins H1 b:=fun b hb=>by
  have e:b=s1.heap.objs.size:=by simpa using hb
  subst e
  exact I1.fpOk (b6 _) (I1.hok.fresh (b6 _))
 cases ha:x.cps.all (·<128)
 ·refine wpAny_pyIter_wide ha ?_
  exact⟨s1.heap.objs.size,[s1.heap.objs.size],_,_,H1,rfl,I1.kept (t':=s1.toks) fun b o e=>eK _ e,
   vC _ "str_iterator" x t (by decide) (fun A hA=>Walks.strWide hA _ x t) (fun _ _ _ _ _ st h=>wpAny_pyIter_striter_wide st h),⟨_,eJ _ rfl,rfl,rfl⟩,fp,q⟩
 ·refine wpAny_pyIter_ascii ha ?_
  exact⟨s1.heap.objs.size,[s1.heap.objs.size],_,_,H1,rfl,I1.kept (t':=s1.toks) fun b o e=>eK _ e,
   vC _ "str_ascii_iterator" x t (by decide) (fun A hA=>Walks.strAscii hA _ x t) (fun _ _ _ _ _ st h=>wpAny_pyIter_striter_ascii st h),⟨_,eJ _ rfl,rfl,rfl⟩,fp,q⟩
end
def blk (X:Cx) (N:List Str) (scope:Scope) (cl:List (Str×Addr)) (C:Addr) (s₀:Shared) (H₀:Hp) (ex:List Addr) (pins:List (Addr×Obj)):Cx:=
 {X with N:=N,s₀:=s₀,H₀:=H₀,env:=compEnvC scope cl C X.env,outer:=X.stack,stack:=X.stack,ex:=ex,fn:=fun _=>false,pn:=X.pn++pins,xe:=fun _ _=>False}
def PTs (X:Cx) (cs:List Expr) (t:TT):Prop:=
 ∀(pins:List (Addr×Obj)) (s:Shared) (σ:St) (H:Hp) (Q:Bool->Hp->Prop),Inv X pins σ H s->t σ H Q->
  wpAny (model X.prog X.w) X.A (forIn cs true fun c r=>if r=true then do let ok<-isTrue c X.env (eval c X.env);pure (ForInStep.yield ok)else pure (ForInStep.yield r)) (TP X pins σ Q) X.xe s
def ph:TT:=fun _ H Q=>Q true H
theorem nM {X:Cx}:PTs X [] ph:=fun pins s σ H Q I h=>wpAny_pure ⟨H,I,h⟩
theorem xX {X:Cx} {c:Expr} {t:TT} (h:PT X c t):PTs X [c] t:=fun pins s σ H Q I hw=>wpAny_tests_one (h pins s σ H Q I hw)
structure zu (X:Cx) (N:List Str) (scope:Scope) (cl:List (Str×Addr)) (f:St->St) (i:Nat) (x:Str):Prop where
 kind:scope.kind= .function
 cell:∀y∈scope.names,y.2≠ .cell
 names:∀y∈scope.names,y.2= .local->scope.names.lookup y.1=some .local
 clos:closureFor scope X.env=pure cl
 lk:∀y c,cl.lookup y=some c->X.env.cells.lookup y=some c
 has:∀y,((relabel scope X.env).names.lookup y=some .cell\/(relabel scope X.env).names.lookup y=some .free)->∃c,cl.lookup y=some c
 nd:N.Nodup
 ix:N[i]?=some x
 loc:scope.names.lookup x=some .local
 len:∀σ,σ.length=X.N.length->(f σ).length=N.length
 val:∀(σ:St) (k:Nat) (y:Str) (v:V),N[k]?=some y->(f σ)[k]?=some (some v)->∃j:Nat,X.N[j]?=some y/\σ[j]?=some (some v)/\X.env.scope.names.lookup y=some .cell/\(relabel scope X.env).names.lookup y=some .cell
theorem Bv {X:Cx} {N:List Str} {scope:Scope} {cl:List (Str×Addr)} {f:St->St} {i:Nat} {x:Str} (B:zu X N scope cl f i x) {pins:List (Addr×Obj)} {σ:St} {H:Hp} {s:Shared} {h₁:Heap} {tk:Nat} {m:Str->Option Value} {ex:List Addr}
  (I:Inv X pins σ H s) (hex:∀b∈ex,w6 X pins H b/\b<s.heap.objs.size) (keep:∀b o,s.heap.get? b=some o->h₁.get? b=some o) (hn:h₁.Ns s.heap.objs.size m):
  Inv (blk X N scope cl s.heap.objs.size s H ex pins) [] (f σ) H {s with heap:=h₁,toks:=tk}:=by
 have nst:∀b,b≠X.env.locals->b∉X.fs->b∉frs X.stack:=fun b h1 h2 hb=>(aj.mp (I.stkSub b hb)).elim h1 h2
 have ltC:∀y c,X.env.cells.lookup y=some c->c<s.heap.objs.size:=fun y c e=>by
  obtain⟨v,o,ho,_⟩:=I.cell y c e
  exact eI ho
 refine⟨⟨I.ok.mod,B.kind,I.ok.glob,I.ok.blt,b6 _,fun y z c h1 h2=>I.ok.inj y z c (B.lk y c h1) (B.lk z c h2),fun y hy=>B.has y hy,fun y c h=>(nomatch h),I.ok.hd,I.ok.frames,.inl rfl,fun b hb=>?_,I.bs,bX I.ok.bsz I.sz,fun b o e hb=>?_,fun b hb=>?_,I.stack,I.stkFree⟩,
  rfl,I.bare,Un.kept keep,⟨m,hn,fun k y v e1 e2 e3=>?_⟩,fun y c e=>?_,I.hok.fresh (b6 _),fun y c e=>I.freeC y c (B.lk y c e),fun p hp=>?_,I.hok.kept keep,B.len σ I.len⟩
 ·obtain⟨⟨_,_,_,_,hc,_⟩,lt⟩:=hex b hb
  exact⟨bW lt,fun y c e=>hc y c (B.lk y c e)⟩
 ·obtain⟨⟨_,_,_,h4,_,_⟩,_⟩:=hex b hb
  rcases h4 with z|z
  ·exact I.ok.noex b o e z
  ·exact absurd (bU (eI (I.ok.bs b o e).1) z) (bV _)
 ·obtain⟨⟨_,h2,h3,_,_,_⟩,_⟩:=hex b hb
  exact nst b h2 h3
 ·obtain⟨j,h1,h2,h3,h4⟩:=B.val σ k y v e1 e2
  obtain⟨m',_,hl⟩:=I.loc
  obtain⟨u,r,l⟩:=hl j y v h1 h2 (.inr (.inl h3))
  refine⟨u,r,?_⟩
  rcases l with⟨hk,_⟩|⟨_,c,hc,z⟩
  ·have hk':X.env.scope.names.lookup y=some .local:=hk
   rw[h3]at hk'
   cases hk'
  ·obtain⟨c',hc'⟩:=B.has y (.inl h4)
   have e:c'=c:=cz.inj ((B.lk y c' hc').symm.trans hc)
   subst e
   obtain⟨o,ho,hd⟩:=z
   exact .inr ⟨.inl h4,c',hc',o,keep _ o ho,hd⟩
 ·obtain⟨v,o,ho,hd⟩:=I.cell y c (B.lk y c e)
  exact⟨v,o,keep _ o ho,hd⟩
 ·rw[aD]at hp
  obtain⟨e,n,ne,nf,d⟩:=I.pin p hp
  exact⟨keep _ _ e,n,bW (eI e),nst _ ne nf,d⟩
theorem ji {env:Env}:∀{names:List (Str×NameKind)} {x:Str} {k:NameKind},
  (names.map fun(n,k)=>if(k==NameKind.free&&env.scope.kind== .function&&env.kindOf n==some .cell)then(n,NameKind.cell)else(n,k)).lookup x=some k->
  ∃k0,names.lookup x=some k0/\(k=k0\/(k0= .free/\k= .cell))
 |[],_,_,h=>by simp at h
 |(n,k0)::r,x,k,h=>by
  have ih:=@ji env r x k
  have h:aA x ((if(k0==NameKind.free&&env.scope.kind== .function&&env.kindOf n==some .cell)=true then(n,NameKind.cell)else(n,k0))::(r.map fun(n,k)=>if(k==NameKind.free&&env.scope.kind== .function&&env.kindOf n==some .cell)then(n,NameKind.cell)else(n,k)))=some k:=h
  cases hx:x==n with
  |true=>
   by_cases hc:(k0==NameKind.free&&env.scope.kind== .function&&env.kindOf n==some .cell)=true
   ·rw[if_pos hc]at h
    simp only[ba,hx]at h⊢
    have hf:k0= .free:=by
     have hc':=hc
     simp only[dP]at hc'
     exact eq_of_beq hc'.1.1
    exact⟨k0,rfl,.inr ⟨hf,(cz.inj h).symm⟩⟩
   ·rw[if_neg hc]at h
    simp only[ba,hx]at h⊢
    exact⟨k0,rfl,.inl (cz.inj h).symm⟩
  |false=>
   have h2:(r.map fun(n,k)=>if(k==NameKind.free&&env.scope.kind== .function&&env.kindOf n==some .cell)then(n,NameKind.cell)else(n,k)).lookup x=some k:=by
    by_cases hc:(k0==NameKind.free&&env.scope.kind== .function&&env.kindOf n==some .cell)=true
    ·rw[if_pos hc]at h;simp only[ba,hx]at h;exact h
    ·rw[if_neg hc]at h;simp only[ba,hx]at h;exact h
   obtain⟨k1,e1,e2⟩:=ih h2
   exact⟨k1,by simp only[ba,hx];exact e1,e2⟩
theorem kq {env:Env} (hk:env.scope.kind= .function):∀{names:List (Str×NameKind)} {x:Str},env.scope.names.lookup x=some .cell->names.lookup x=some .free->
  (names.map fun(n,k)=>if(k==NameKind.free&&env.scope.kind== .function&&env.kindOf n==some .cell)then(n,NameKind.cell)else(n,k)).lookup x=some .cell
 |[],_,_,h=>by simp at h
 |(n,k0)::r,x,hc,h=>by
  have ih:=@kq env hk r x hc
  show aA x ((if(k0==NameKind.free&&env.scope.kind== .function&&env.kindOf n==some .cell)=true then(n,NameKind.cell)else(n,k0))::_)=_
  cases hx:x==n with
  |true=>
   simp only[ba,hx]at h
   cases h
   have e:x=n:=eq_of_beq hx
   have hc':env.kindOf n=some .cell:=by rw[<-e];exact hc
   simp[ba,hx,hk,hc']
  |false=>
   simp only[ba,hx]at h
   by_cases hq:(k0==NameKind.free&&env.scope.kind== .function&&env.kindOf n==some .cell)=true
   ·rw[if_pos hq];simp only[ba,hx];exact ih h
   ·rw[if_neg hq];simp only[ba,hx];exact ih h
theorem Bw {X:Cx} {scope:Scope} {x:Str} (hk:scope.kind= .function) (hn:∀p∈scope.names,p.2≠ .cell/\p.2≠ .free) (hl:∀y∈scope.names,y.2= .local->scope.names.lookup y.1=some .local)
  (hx:scope.names.lookup x=some .local) (hc:closureFor scope X.env=pure []):zu X [x] scope [] (fun _=>[none]) 0 x where
 kind:=hk
 cell:=fun y hy=>(hn y hy).1
 names:=hl
 clos:=hc
 lk:=fun y c h=>by simp at h
 has:=fun y h=>by
  rcases h with h|h
  ·obtain⟨k0,e,z⟩:=ji h
   have m:=hn _ (PySem.mem_of_lookup e)
   rcases z with z|⟨z,_⟩
   ·exact absurd z.symm m.1
   ·exact absurd z m.2
  ·obtain⟨k0,e,z⟩:=ji h
   have m:=hn _ (PySem.mem_of_lookup e)
   rcases z with z|⟨z,_⟩
   ·exact absurd z.symm m.2
   ·exact absurd z m.2
 nd:=by simp
 ix:=rfl
 loc:=hx
 len:=fun _ _=>rfl
 val:=fun σ k y v h1 h2=>by
  cases k with
  |zero=>simp at h2
  |succ k=>simp at h2
theorem blk1 {X:Cx} {scope:Scope} {x y:Str} {j:Nat} {c0:Addr} (hk:scope.kind= .function) (hn:∀p∈scope.names,p.2≠ .cell/\(p.2= .free->p.1=y)) (hl:∀y∈scope.names,y.2= .local->scope.names.lookup y.1=some .local)
  (hx:scope.names.lookup x=some .local) (hy:scope.names.lookup y=some .free) (hc:closureFor scope X.env=pure [(y,c0)]) (hc0:X.env.cells.lookup y=some c0) (hok:X.env.scope.kind= .function) (hyo:X.env.scope.names.lookup y=some .cell)
  (hj:X.N[j]?=some y):zu X [x,y] scope [(y,c0)] (fun σ=>[none,σ.getD j none]) 0 x where
 kind:=hk
 cell:=fun y hy=>(hn y hy).1
 names:=hl
 clos:=hc
 lk:=fun z c h=>by
  cases e:z==y with
  |true=>
   simp only[ba,e]at h
   have ez:z=y:=eq_of_beq e
   rw[ez,hc0]
   exact h
  |false=>simp only[ba,e,List.lookup_nil]at h;cases h
 has:=fun z h=>by
  have ez:z=y:=by
   rcases h with h|h
   ·obtain⟨k0,e,q⟩:=ji h
    have m:=hn _ (PySem.mem_of_lookup e)
    rcases q with q|⟨q,_⟩
    ·exact absurd q.symm m.1
    ·exact m.2 q
   ·obtain⟨k0,e,q⟩:=ji h
    have m:=hn _ (PySem.mem_of_lookup e)
    rcases q with q|⟨q,_⟩
    ·exact m.2 q.symm
    ·exact m.2 q
  exact⟨c0,by rw[ez];simp[ba]⟩
 nd:=by
  have e:x≠y:=fun e=>by rw[e,hy]at hx;cases hx
  simp[e]
 ix:=rfl
 loc:=hx
 len:=fun _ _=>rfl
 val:=fun σ k z v h1 h2=>by
  cases k with
  |zero=>simp at h2
  |succ k=>
   cases k with
   |zero=>
    have ez:z=y:=by simpa using h1.symm
    subst ez
    have e:σ.getD j none=some v:=by simpa using h2
    rw[bb]at e
    refine⟨j,hj,?_,hyo,kq hok hyo hy⟩
    cases q:σ[j]? with
    |none=>rw[q]at e;cases e
    |some o=>rw[q]at e;exact congrArg some e
   |succ k=>simp at h2
def LcP (J:It) (i:Nat) (tt:TT) (te:TE) (Q:VK) (τ:St) (H1:Hp) (D:Addr):Prop:=
 ∃W:Nat->Nat->St->Hp->Prop,(∃m,W 0 m τ (upd H1 D (.lst [])))/\∀k m σ' H2,W k m σ' H2->
  (J.stop k H2/\Q (.ref D) H2)\/(J.go k H2/\∀v H3,J.yld k H2 v H3->tt (σ'.set i (some v)) H3 fun ok H4=>if ok=true
   then te (σ'.set i (some v)) H4 fun y H5=>∃xs,H5 D=some (.lst xs)/\xs.length<sizeLine/\∃m',m'<m/\W (k+ 1) m' (σ'.set i (some v)) (upd H5 D (.lst (xs++[y])))
   else ∃m',m'<m/\W (k+ 1) m' (σ'.set i (some v)) H4)
def tLC (wi:TI) (f:St->St) (i:Nat) (tt:TT) (te:TE):TE:=fun σ H Q=>wi σ H fun J H1=>∀D,H1 D=none->LcP J i tt te Q (f σ) H1 D
theorem sS {X:Cx} {elt iter:Expr} {x:Str} {px:Pos} {ifs:List Expr} {scope:Scope} {pos:Pos} {N:List Str} {cl:List (Str×Addr)} {f:St->St} {i:Nat} {wi:TI} {tt:TT} {te:TE}
  (hc:X.calm=true) (B:zu X N scope cl f i x) (hi:PI X (.Name x px) iter wi)
  (htt:∀C s₀ H₀ ex pins,PTs (blk X N scope cl C s₀ H₀ ex pins) ifs tt) (hte:∀C s₀ H₀ ex pins,PE (blk X N scope cl C s₀ H₀ ex pins) elt te)
  (hs:autoParam (∀x,foldedSetIterable iter X.env x=pure x) L2.Internal.auI._auto_1):PE X (.ListComp elt [⟨.Name x px,iter,ifs,0⟩] scope pos) (tLC wi f i tt te):=by
 intro pins s σ H Q I h
 rw[eval_ListComp]
 refine wpAny_comprehension_free (use:=none) rfl hs B.clos B.kind B.names (thn (hi pins s σ H _ I h) fun xv s1 h1=>thn h1 fun itv s2 h2=>?_)
 obtain⟨it,fp,tn,J,H2,rfl,I2,T,st2,f2,q⟩:=h2
 have hD:H2 s2.heap.objs.size=none:=I2.fresh
 obtain⟨W,⟨m0,w0⟩,turn⟩:=q _ hD
 refine wpAny_newObj_type (wpAny_newFunctionEnv B.cell (by intro y hy;simp at hy) (fun h₁ hns₁ hsb₁=>?_) B.kind)
 have I3:Inv X pins σ (upd H2 s2.heap.objs.size (.lst [])) {s2 with heap:=s2.heap.push {cls:= .type "list",data:= .seq ([]:List Value).toArray}}:=I2.lnew (its:=[]) (ys:=[]) (t':=s2.toks) .nil (b7 _)
 have lt2:∀b∈fp,b<s2.heap.objs.size:=fun b hb=>by
  obtain⟨o,ho,_⟩:=T.obj _ _ st2 b hb
  exact eI ho
 have fp3:∀b∈fp,w6 X pins (upd H2 s2.heap.objs.size (.lst [])) b:=fun b hb=>by
  refine⟨?_,(f2 b hb).2⟩
  rw[fe (bW (lt2 b hb))]
  exact(f2 b hb).1
 generalize hs3:({s2 with heap:=s2.heap.push {cls:= .type "list",data:= .seq ([]:List Value).toArray}}:Shared)=s3 at I3 hns₁ hsb₁⊢
 have eh:s2.heap.push {cls:= .type "list",data:= .seq ([]:List Value).toArray}=s3.heap:=by rw[<-hs3]
 have lt3:∀b∈fp,b<s3.heap.objs.size:=fun b hb=>by
  rw[<-eh,eL]
  exact Nat.lt_succ_of_lt (lt2 b hb)
 have old:∀b o,s3.heap.get? b=some o->h₁.get? b=some o:=fun b o e=>hsb₁.extBut b o (bW (eI e)) (eK _ e)
 have I4:=Bv (tk:=s3.toks+([]:List (Str×Value)).length) B I3 (ex:=fp) (fun b hb=>⟨fp3 b hb,lt3 b hb⟩) old hns₁
 have st4:tn 0 h₁:=T.keep _ _ _ st2 fun b _ o e=>old b o (by rw[<-eh];exact eK _ e)
 have fpB:∀{H':Hp},(∀b∈fp,H' b=none)->∀b∈fp,w6 (blk X N scope cl s3.heap.objs.size s3 (upd H2 s2.heap.objs.size (.lst [])) fp pins) [] H' b:=fun{H'} hn b hb=>by
  obtain⟨_,g2,g3,g4,g5,g6⟩:=f2 b hb
  refine⟨hn b hb,bW (lt3 b hb),fun z=>(aj.mp (I3.stkSub b z)).elim g2 g3,.inl hb,fun y c e=>g5 y c (B.lk y c e),fun p hp=>?_⟩
  rw[aD]at hp
  exact g6 p hp
 have loop:∀s4:Shared,s4={s3 with heap:=h₁,toks:=s3.toks+([]:List (Str×Value)).length}->
   codeAny (model X.prog X.w) X.A (.compLoop (.ListComp elt [⟨.Name x px,iter,ifs,0⟩] scope pos) 0 (.ref it) (.ref s2.heap.objs.size) (compEnvC scope cl s3.heap.objs.size X.env))
    (compPost (model X.prog X.w) X.A X.xe none (EP X pins σ Q) (.ref s2.heap.objs.size) s3.heap.objs.size) s4:=by
  rintro s4 rfl
  refine codeAny_compLoop_tests (I:=fun n s'=>∃k σ' H',Inv (blk X N scope cl s3.heap.objs.size s3 (upd H2 s2.heap.objs.size (.lst [])) fp pins) [] σ' H' s'/\tn k s'.heap/\(∀b∈fp,H' b=none)/\W k n σ' H') ?_ m0
   ⟨0,f σ,_,I4,st4,fun b hb=>(fp3 b hb).1,w0⟩
  rintro n s5 ⟨k,σ5,H5,I5,st5,fr5,w5⟩
  rcases turn k n σ5 H5 w5 with⟨stop,qn⟩|⟨go,step⟩
  ·refine wpAny_mono (T.done (blk X N scope cl s3.heap.objs.size s3 (upd H2 s2.heap.objs.size (.lst [])) fp pins) rfl rfl rfl hc k [] s5 σ5 H5 _ I5 (fpB fr5) st5 stop) (fun r s6 h6=>?_) fun _ _ z=>z
   obtain⟨hr,I6⟩:=h6
   subst hr
   obtain⟨m6,hn6,_⟩:=id I6.loc
   refine⟨m6,hn6,fun h' sb=>?_⟩
   have nC:∀b o,s3.heap.get? b=some o->b≠s3.heap.objs.size:=fun b o e=>bW (eI e)
   have u6:Un (frs X.stack) fp (upd H2 s2.heap.objs.size (.lst [])) H5 s3.heap s6.heap:=I6.base
   have u7:Un (frs X.stack) fp (upd H2 s2.heap.objs.size (.lst [])) H5 s3.heap h':=
    ⟨fun b o e z1 z2 z3=>(sb.2 b (nC b o e)).trans (u6.keep b o e z1 z2 z3),fun b o e z1 z2 z3=>by
     obtain⟨sl,e1⟩:=u6.slot b o e z1 z2 z3
     exact⟨sl,(sb.2 b (nC b o e)).trans e1⟩,u6.free,fun b o e z=>by
     obtain⟨o',e1⟩:=u6.there b o e z
     exact⟨o',(sb.2 b (nC b o e)).trans e1⟩,u6.tups,u6.frzs,u6.tbls⟩
   have hok7:HOk X.prog X.w H5 h':=fun b o e=>(I6.hok b o e).stay (fun c w' hcc e1=>(sb.2 c (fun z=>by
     have fr:H5 s3.heap.objs.size=none:=I6.free
     rcases hcc with y|y
     ·rw[<-y,z,fr]at e;cases e
     ·rw[z,fr]at y;cases y)).trans e1) (fun _ z=>z) fun _ _ z=>z
   have I7:Inv X pins σ H5 {s6 with heap:=h'}:=I3.call' (s':={s6 with heap:=h'}) (ch:=fp) I6.os u7 hok7 I6.bare fun b hb=>by
    obtain⟨_,g2,g3,g4,g5,g6⟩:=f2 b hb
    exact⟨g4,g2,g5,g6⟩
   exact⟨.ref s2.heap.objs.size,H5,I7,rfl,qn⟩
  ·refine wpAny_mono (T.item (blk X N scope cl s3.heap.objs.size s3 (upd H2 s2.heap.objs.size (.lst [])) fp pins) rfl rfl rfl hc k [] s5 σ5 H5 _ I5 (fpB fr5) st5 go) (fun r s6 h6=>?_) fun _ _ z=>z
   obtain⟨u,hr,h6⟩:=h6
   subst hr
   show wpAny _ _ (pure () >>= fun _=>assign (.Name x px) (compEnvC scope cl s3.heap.objs.size X.env) u) _ _ s6
   refine wpAny_bind (wpAny_mono (show wpAny _ _ (pure ()) _ _ s6 from h6) (fun _ s7 h7=>?_) fun _ _ z=>z)
   obtain⟨v,H7,I7,r7,y7,st7,fr7⟩:=h7
   have I7':=I7.pinned (fpB fr7) (T.obj _ _ st7)
   refine wpAny_assign_Name (oF (X:=blk X N scope cl s3.heap.objs.size s3 (upd H2 s2.heap.objs.size (.lst [])) fp pins) I7' B.nd B.ix (.inl (lookup_relabel_local B.loc)) r7 (fun s8 I8=>?_) (.inr (lookup_relabel_local B.loc)))
   have back:∀{σ9:St} {H9:Hp} {s9:Shared},Inv (blk X N scope cl s3.heap.objs.size s3 (upd H2 s2.heap.objs.size (.lst [])) fp pins) ([]++sA fp s7.heap) σ9 H9 s9->(∃m',m'<n/\W (k+ 1) m' σ9 H9)->
     ∃m',m'<n/\∃k σ' H',Inv (blk X N scope cl s3.heap.objs.size s3 (upd H2 s2.heap.objs.size (.lst [])) fp pins) [] σ' H' s9/\tn k s9.heap/\(∀b∈fp,H' b=none)/\W k m' σ' H':=fun{σ9 H9 s9} I9 q9=>by
    obtain⟨m',hm,w9⟩:=q9
    refine⟨m',hm,k+ 1,σ9,H9,I9.unpinned,T.keep _ _ _ st7 fun b hb o e=>(I9.pin (b,o) (ay _ (ay _ (mj hb e)))).1,fun b hb=>?_,w9⟩
    obtain⟨o,e,d⟩:=T.obj _ _ st7 b hb
    exact(I9.pin (b,o) (ay _ (ay _ (mj hb e)))).2.1
   refine wpAny_mono (htt _ _ _ _ _ _ s8 _ H7 _ I8 (step v H7 y7)) (fun ok s9 h9=>?_) fun _ _ z=>False.elim z
   obtain⟨H9,I9,q9⟩:=h9
   cases ok with
   |false=>
    rw[if_neg dN]
    rw[if_neg dN]at q9
    exact back I9 q9
   |true=>
    rw[if_pos rfl]
    rw[if_pos rfl]at q9
    refine wpAny_mono (hte _ _ _ _ _ _ s9 _ H9 _ I9 q9) (fun y s10 h10=>?_) fun _ _ z=>False.elim z
    obtain⟨v10,H10,I10,r10,xs,hx10,hz,q10⟩:=h10
    refine wpAny_mono (gq (X:=blk X N scope cl s3.heap.objs.size s3 (upd H2 s2.heap.objs.size (.lst [])) fp pins) _ s10 _ H10 (.ref s2.heap.objs.size) [v10] _ [y] (fun _ H11=>H11=upd H10 s2.heap.objs.size (.lst (xs++[v10]))) I10 rfl (.cons r10 .nil) ⟨_,xs,v10,rfl,rfl,hx10,hz,rfl⟩) (fun _ s11 h11=>?_) fun _ _ z=>False.elim z
    obtain⟨_,H11,I11,_,e11⟩:=h11
    subst e11
    exact back I11 q10
 exact codeAny_compStart_list (loop _ rfl) (T.self _ 0 _ _ _ st4 (loop _ rfl))
theorem CN {J:It} {xs:List V} {i:Nat} {tt:TT} {te:TE} {Q:VK} {τ:St} {H1:Hp} {D:Addr} (p:V->Bool) (g:V->V) (hD:H1 D=none) (hz:xs.length<=sizeLine) (hτ:τ.set i none=τ)
  (hgo:∀k H,fK H1 H->k<xs.length->J.go k H) (hy:∀k H v H',fK H1 H->J.yld k H v H'->H'=H/\xs[k]?=some v) (hst:∀H,fK H1 H->J.stop xs.length H)
  (htt:∀(k:Nat) v H R,xs[k]?=some v->fK H1 H->R (p v) H->tt (τ.set i (some v)) H R)
  (hte:∀(k:Nat) v H R,xs[k]?=some v->p v=true->fK H1 H->R (g v) H->te (τ.set i (some v)) H R)
  (hq:∀H',fK H1 H'->H' D=some (.lst ((xs.filter p).map g))->Q (.ref D) H'):LcP J i tt te Q τ H1 D:=by
 have sm:∀o,fK H1 (upd H1 D o):=fun o b u e=>by rw[fe (fb e hD)];exact e
 refine⟨fun k m σ' H2=>m=xs.length-k/\k<=xs.length/\(∃o,σ'=τ.set i o)/\H2=upd H1 D (.lst (((xs.take k).filter p).map g)),⟨xs.length,by simp,b7 _,⟨none,hτ.symm⟩,by simp⟩,?_⟩
 rintro k m σ' H2 ⟨rfl,hk,⟨o,rfl⟩,rfl⟩
 by_cases hlt:k<xs.length
 ·refine .inr ⟨hgo k _ (sm _) hlt,fun v H3 y=>?_⟩
  obtain⟨e,hv⟩:=hy k _ v H3 (sm _) y
  subst e
  rw[bc]
  refine htt k v _ _ hv (sm _) ?_
  have tk:(xs.take (k+ 1)).filter p=(xs.take k).filter p++(if p v then[v]else[]):=take_succ_filter p xs k v hv
  have ll:((xs.take k).filter p).length<=k:=by
   refine bX (bf _ _) ?_
   rw[aH]
   lia
  cases hp:p v with
  |true=>
   rw[if_pos rfl]
   refine hte k v _ _ hv hp (sm _) ?_
   refine⟨_,eV,by rw[aC];lia,xs.length-(k+ 1),by lia,rfl,hlt,⟨some v,rfl⟩,?_⟩
   rw[ui,tk,hp,if_pos rfl,a9]
   rfl
  |false=>
   rw[if_neg dN]
   refine⟨xs.length-(k+ 1),by lia,rfl,hlt,⟨some v,rfl⟩,?_⟩
   rw[tk,hp,if_neg dN,aD]
 ·have e:k=xs.length:=by lia
  subst e
  refine .inl ⟨hst _ (sm _),hq _ (sm _) ?_⟩
  rw[eV,bh]
section
variable {X:Cx}
theorem zv {bs:List Bool}:∀{us:List Value},iA (bs.map V.bl) us->us=bs.map Value.bool:=by
 induction bs with
 |nil=>intro us r;rw[aS]at r;cases r;rfl
 |cons n ns ih=>
  intro us r
  rw[aB]at r
  cases r with
  |cons r1 r2=>
   cases(show _=Value.bool n from r1)
   rw[ih r2]
   rfl
theorem wx (bs:List Bool):((aa bs.length).all fun i=>(bs[i]?).getD true)=bs.all id:=by
 induction bs with
 |nil=>rfl
 |cons b r ih=>
  rw[az,bj,aW,bo,aW,<-ih]
  rfl
theorem wy {h h':Heap} {o:Obj} (hk:∀b x,b∉[h.objs.size]->(h.push o).get? b=some x->h'.get? b=some x):∀b x,h.get? b=some x->h'.get? b=some x:=
 fun b x e=>hk b x (fun hm=>by rw[a8.mp hm]at e;exact bV _ (eI e)) (eK _ e)
theorem zw (hc:X.calm=true):nH X (.builtin "all") (fun xs H Q=>∃(a:Addr) (bs:List Bool),xs=[.ref a]/\SqL X.K H a (bs.map V.bl)/\Q (.bl (bs.all id)) H):=by
 intro pins s σ H xs us Q I r h
 obtain⟨a,bs,rfl,ha,q⟩:=h
 obtain⟨u,rfl,ru⟩:=mr r
 cases ru
 obtain⟨its,rv,pl,hz⟩:=I.list ha
 have ei:=zv rv
 subst ei
 have hl:s.heap.IsList a (bs.map Value.bool).toArray:=pl.isList
 have hlt:a<s.heap.objs.size:=by obtain⟨_,e,_⟩:=hl;exact eI e
 refine call_all_walk (wpAny_pyIter_list hl ?_)
 refine⟨s.heap.objs.size,[s.heap.objs.size,a],[s.heap.objs.size],(bs.map Value.bool).toArray.size,_,_,fun i=>(bs[i]?).getD true,rfl,Walks.list (A:=X.A.in1) (I.ok.hd hc) _ a (bW hlt) (bs.map Value.bool).toArray,
  ⟨⟨_,eJ _ rfl,rfl,rfl⟩,hl.push _⟩,fun i v s' Q' E' hP hQ=>?_,fun h' tk hk=>?_⟩
 ·have hv:(bs.map Value.bool)[i]?=some v:=by simpa using hP
  rw[aK]at hv
  cases e:bs[i]? with
  |none=>rw[e]at hv;cases hv
  |some b=>
   rw[e]at hv
   have e2:v=Value.bool b:=(cz.inj hv).symm
   subst e2
   simp only[e,Option.getD_some]at hQ
   exact wpAny_truthy_bool hQ
 ·have e:((aa (bs.map Value.bool).toArray.size).all fun i=>(bs[i]?).getD true)=bs.all id:=by
   rw[aT,aC];exact wx bs
  rw[e]
  exact⟨.bl (bs.all id),H,I.kept (wy hk),rfl,q⟩
theorem kg:nH X (.builtin "isinstance") (fun xs H Q=>∃x v c t b,xs=[x,v]/\(∀u,iw v u->u=c)/\sk X.K H x t/\c9 X.K t c=some b/\Q (.bl b) H):=by
 intro pins s σ H xs us Q I r h
 obtain⟨x,v,c,t,b,rfl,hc,ht,hk,q⟩:=h
 obtain⟨u,u',rfl,ru,ru'⟩:=A7 r
 cases hc u' ru'
 exact xC I ru ht hk fun tk=>⟨.bl b,H,I.tok tk,rfl,q⟩
end
section
variable {X:Cx}
open Builtin Builtin.Str in
theorem CO {prog:Program} {w:World} {A:Around} {E:Value->Shared->Prop} {s:Shared} {x y:Str} {t u:Tok} {Q:Value->Shared->Prop} (hy:(y.length==0)=false)
  (h:∀l k,l.map (·.1)=Txt.split x y->Q (.ref s.heap.objs.size) {s with heap:=s.heap.push {cls:= .type "list",data:= .seq (strValues l).toArray},toks:=k}) (hsz:x.length+ 2<=sizeLine):
  wpAny (model prog w) A (call (.builtin "str.split") [.str x t,.str y u]) Q E s:=by
 have hn:(partsBetween x (occurrences x y 0 x.length (x.length+ 1)) y.length).length<=sizeLine:=by
  have e1:=StrLaws.occ_length_le x y 0 x.length (x.length+ 1)
  rw[length_partsBetween];lia
 cases h1:(decide (x.length<y.length)||decide (strKind x<strKind y))
 ·cases hf:(occurrences x y 0 x.length (x.length+ 1)).isEmpty
  ·refine call_meets F.slot_str_split (typeIs_str _ _ _) F.entry_str_split (F.args_str_split_2 _ _) (meets_str_split_sep x y t u h1 hy hf (by lia) hn) ?_
   show wants Q E _ {s with toks:=_,heap:=s.heap.push {cls:= .type "list",data:= .seq (strsFrom s.toks (partsBetween x (occurrences x y 0 x.length (x.length+ 1)) y.length)).toArray}}
   rw[strsFrom_eq]
   exact h (numbered s.toks _) _ ((numbered_texts _ _).trans ((if_neg (ne_true_of_eq_false h1)).trans (if_neg (ne_true_of_eq_false hf))).symm)
  ·exact call_meets F.slot_str_split (typeIs_str _ _ _) F.entry_str_split (F.args_str_split_2 _ _) (meets_str_split_not_found x y t u h1 hy hf)
    (h [(x,t)] s.toks ((if_neg (ne_true_of_eq_false h1)).trans (if_pos hf)).symm)
 ·exact call_meets F.slot_str_split (typeIs_str _ _ _) F.entry_str_split (F.args_str_split_2 _ _) (meets_str_split_cannot_occur x y t u h1)
   (h [(x,t)] s.toks (if_pos h1).symm)
theorem sU:∀l:List (Str×Tok),iA ((l.map (·.1)).map V.str) (strValues l)
 |[]=> .nil
 |p::r=> .cons ⟨p.2,rfl⟩ (sU r)
theorem pk (x y:Str):(Txt.split x y).length<=x.length+ 2:=by
 unfold Txt.split
 split
 ·show 1<=_;lia
 ·split
  ·show 1<=_;lia
  ·have e1:=StrLaws.occ_length_le x y 0 x.length (x.length+ 1)
   rw[length_partsBetween];lia
def CQ:V->List V->Hp->VK->Prop:=fun x xs H Q=>∃z y,x= .str z/\xs=[.str y]/\(y.length==0)=false/\z.length+ 2<=sizeLine/\∀l,H l=none->Q (.ref l) (upd H l (.lst ((Txt.split z y).map V.str)))
theorem zx:MtR X "str.split" CQ:=by
 intro pins s σ H x xs v us Q I rx rs h
 obtain⟨z,y,rfl,rfl,hy,hz,q⟩:=h
 obtain⟨t,rfl⟩:=rx
 obtain⟨u,rfl,ru⟩:=mr rs
 obtain⟨t',rfl⟩:=ru
 refine CO hy (fun l k hl=>?_) hz
 have hv:=sU l
 rw[hl]at hv
 exact⟨.ref s.heap.objs.size,_,I.lnew hv (by rw[aC];exact bX (pk z y) hz),rfl,q _ I.fresh⟩
def PE1 (X:Cx) (e:Expr) (t:TE):Prop:=
 ∀(pins:List (Addr×Obj)) (s:Shared) (σ:St) (H:Hp) (Q:VK),Inv X pins σ H s->1<=s.toks->t σ H Q->wpAny (model X.prog X.w) X.A (eval e X.env) (fun u s'=>1<=s'.toks/\EP X pins σ Q u s') X.xe s
theorem PE.one {e:Expr} {t:TE} (h:PE X e t):PE1 X e t:=fun pins s σ H Q I ht hw=>wpAny_mono (wpAny_toks_of ht (h pins s σ H Q I hw)) (fun _ _ z=>z) fun _ _ z=>z.2
def Es (to:TE) (y z:Str):TE:=fun σ H Q=>to σ H fun v H1=>∃x,v= .str x/\x.length+(x.length+ 1)*z.length<=16777216/\Q (.str (Txt.replace x y z)) H1
theorem qZ {o:Expr} {to:TE} {y z:Str} {k1 k2 p1 p2 apos cpos} (ho:PE1 X o to) (hyz:(y==z)=false)
  (hbase:autoParam (attributeBase o "replace" X.env (eval o X.env)=eval o X.env) L2.Internal.auR._auto_1)
  (hfew:((backTo cpos (starEach [.Constant (.str y) k1 p1,.Constant (.str z) k2 p2] X.env)).all (fun x=>!x.1)&&(backToKw cpos (keywordEach [] X.env)).all (fun x=>x.1.isSome)
   &&decide (([.Constant (.str y) k1 p1,.Constant (.str z) k2 p2]:List Expr).length+([]:List Keyword).length+(if([]:List Keyword).isEmpty then 0 else 1)<30))=true:=by rfl)
  (hline:autoParam ((apos.endLine==cpos.line)=true) L2.Internal.auR._auto_1):PE1 X (.Call (.Attribute o "replace" apos) [.Constant (.str y) k1 p1,.Constant (.str z) k2 p2] [] cpos) (Es to y z):=by
 intro pins s σ H Q I ht h
 refine wpAny_Call_method_late hbase hfew hline rfl (thn (ho pins s σ H _ I ht h) fun v s1 q1=>?_)
 obtain⟨ht1,v1,H1,I1,r1,x,rfl,hb,q⟩:=q1
 obtain⟨t,rfl⟩:=r1
 refine⟨"str","str.replace",F.plainAttrs_str,F.slot_str_replace,F.type_str_replace,typeIs_str _ _ _,(fun _ e=>nomatch e),?_⟩
 refine Calls.callWith_builtin rfl (Calls.evalArgs_plain ?_)
 show wpAny _ _ (spliced ((false,eval (.Constant (.str y) k1 p1) X.env)::backTo cpos (starEach [.Constant (.str z) k2 p2] X.env))) _ _ s1
 refine Calls.spliced_cons (Calls.Constant_str ?_)
 show wpAny _ _ (spliced ((false,eval (.Constant (.str z) k2 p2) X.env)::backTo cpos (starEach [] X.env))) _ _ _
 refine Calls.spliced_cons (Calls.Constant_str (Calls.spliced_nil ?_))
 refine wpAny_mono (wpAny_toks_of (n:=1) (by show 1<=s1.toks+ 1+ 1;lia) (SC.replace (Q:=EP X pins σ Q) (E:=X.xe) (u:=s1.toks) (v:=s1.toks+ 1) (Nat.pos_iff_ne_zero.mp ht1) (Nat.succ_ne_zero _) (bW (b8 _)) hyz hb fun t' k=>⟨.str _,H1,?_,⟨t',rfl⟩,q⟩)) (fun _ _ z=>z) fun _ _ z=>z.2
 exact I1.tok k
def Ca (X:Cx) (st:List Stmt) (t:TS):Prop:=
 ∀(pins:List (Addr×Obj)) (s:Shared) (σ:St) (H:Hp) (D:oG),Inv X pins σ H s->1<=s.toks->t D σ H->wpAny (model X.prog X.w) X.A (execs st X.env) (SP X pins D) X.xe s
theorem zy {i:Nat} {x:Str} {e:Expr} {te:TE} {pos pos':Pos} {rest:List Stmt} {u:TS} (hN:X.N.Nodup) (hi:X.N[i]?=some x) (hx:Loc X.env.scope x) (he:PE1 X e te) (hr:PSs X rest u)
  (hs:autoParam (swapsWith e (some (.Name x pos')) pos.line X.env=pure false) L2.Internal.auR._auto_1) (hf:autoParam (X.fn x=true\/X.env.scope.names.lookup x=some .local) L2.Internal.auL._auto_1):
  Ca X (.Assign [.Name x pos'] e pos::rest) (um (DV te (iQ i)) u):=by
 intro pins s σ H D I ht h
 refine wpAny_execs_cons (wpAny_Assign_Name (thn (he pins s σ H _ I ht h) fun v s1 q1=>?_) hs)
 obtain⟨_,y,H1,I1,r1,q⟩:=q1
 exact oF I1 hN hi hx r1 (fun s2 I2=>hr pins s2 _ H1 D I2 q) hf
theorem Ca.nox {st:List Stmt} {t:TS} (h:Ca X.nox st t):Ca X st t:=fun pins s σ H D I ht hw=>
 wpAny_mono (h pins s σ H D (I.wish _) ht hw) (fun _ _ q=>q.unwish) fun _ _ z=>False.elim z
end
theorem CS {CX:CXT} {P:Program} {w:World} {K:PySem.W.Frag} {mg:Str->Option Value} {base:Heap} {k:Nat} {f:Addr} {name qual p:Str} {params:Arguments} {body:List Stmt} {scope:Scope} {dV kV doc pm cdv ct oc:Value} {an od:Option Addr}
  {osl:Array (Option Value)} {N:List Str} {sp:Sp} (lk:K.lookup f=some ⟨oc,od,.func (dm name qual params body scope dV kV doc pm an cdv ct),osl⟩) (hcd:dr K cdv qual=true) (S:fo N [p] scope)
  (nc:∀x∈scope.names,x.2≠ .cell) (nc2:∀n,cellsFrom n scope.names []=[]) (len:∀vs H Q E,sp vs H Q E->vs.length=1)
  (hbody:∀(A:Around) (outer:List Env) (s:Shared) (H:Hp) (vs:List V) (Q:VK) (E:XK),nh k (A.deeper (envOfC qual scope s.heap.objs.size f cdv))->sp vs H Q E->
   ∃t,Ca (ur CX P w K mg base N qual scope f cdv A outer s H E) body t/\t {nx:=fun _ H'=>Q .non H',rt:=Q} (ou N vs) H):
  gu P w K mg base CX (k+ 1) f (dm name qual params body scope dV kV doc pm an cdv ct) [p] sp:=by
 refine⟨len,fun A outer s H args us vs Q E hr e0 hb r hsp=>?_⟩
 have hl:=len _ _ _ _ hsp
 have hul:us.length=1:=by rw[<-r.length];exact hl
 obtain⟨u,rfl⟩:∃u,us=[u]:=by
  match us,hul with
  |[u],_=>exact⟨u,rfl⟩
 have KX:K.In s.heap:=e0.mod.kin.keeps fun b o e=>(e0.bs b o e).1
 have lim:s.heap.NoLimit:=e0.mod.nolimit.keeps fun b o e=>(e0.bs b o e).1
 have hpl:scope.names.lookup p=some .local:=by
  rcases S.par p (by simp)with q|q
  ·exact q
  ·exact absurd rfl (nc _ (PySem.mem_of_lookup q))
 refine codeAny_call_function hr.depth (KX _ _ lk) rfl S.co S.gen rfl (du KX hcd) (hb _ _ _ _ ?_)
 refine wpAny_newFunctionEnv nc (fun x hx=>?_) (fun h' hn hs=>?_) S.kind
 ·have e:x=(p,u):=by simpa using hx
  rw[e]
  exact hpl
 have keep:∀b o,s.heap.get? b=some o->h'.get? b=some o:=fun b o e=>hs.extBut b o (bW (eI e)) (eK _ e)
 refine⟨lim.keeps keep,codeAny_func ?_⟩
 obtain⟨t,ht,hq⟩:=hbody A outer s H vs Q E (hr.deeper _) hsp
 have em:(fun x=>(bp [p] [u]).reverse.lookup x)=bindL (envOfC qual scope s.heap.objs.size f cdv).kindOf (bp [p] [u]) fun _=>none:=by
  funext x
  show(match x==p with|true=>some u|false=>none)=(if(envOfC qual scope s.heap.objs.size f cdv).kindOf p=some .local then fun y=>if y=p then some u else none else fun _=>none) x
  rw[if_pos (show(envOfC qual scope s.heap.objs.size f cdv).kindOf p=some .local from hpl)]
  cases e:x==p with
  |true=>rw[if_pos (eq_of_beq e)]
  |false=>rw[if_neg (ne_of_beq_false e)]
 have x:InCallC s s.heap.objs.size (bindL (envOfC qual scope s.heap.objs.size f cdv).kindOf (bp [p] [u]) fun _=>none) (cellsFrom (s.heap.objs.size+ 1) scope.names []) (bindC (envOfC qual scope s.heap.objs.size f cdv).kindOf (bp [p] [u]) fun _=>none)
   {s with heap:=h',toks:=s.toks+(bp [p] [u]).length}:=by
  rw[nc2]
  refine⟨⟨⟨h',_,rfl⟩,?_,keep,b6 _⟩,fun n c e=>by simp at e,List.Pairwise.nil,fun n c e=>by simp at e⟩
  rw[<-em]
  exact hn
 have I:Inv (ur CX P w K mg base N qual scope f cdv A outer s H E) [] (ou N vs) H {s with heap:=h',toks:=s.toks+(bp [p] [u]).length}:=sL S hr.hd e0 hl r x
 have eenv:newEnv (dm name qual params body scope dV kV doc pm an cdv ct).scope s.heap.objs.size (dm name qual params body scope dV kV doc pm an cdv ct).globals (dm name qual params body scope dV kV doc pm an cdv ct).closure
   ((dm name qual params body scope dV kV doc pm an cdv ct).qualname++".<locals>.") (some f) (dm name qual params body scope dV kV doc pm an cdv ct).code none (dm name qual params body scope dV kV doc pm an cdv ct).builtins=envOfC qual scope s.heap.objs.size f cdv:=by
  unfold envOfC
  rw[nc2]
  rfl
 rw[eenv]
 have go:=ht [] _ (ou N vs) H _ I (by show 1<=s.toks+ 1;lia) hq
 refine wpAny_mono go (fun fl s' hs=>?_) fun e s' hs=>hs
 have fin:∀{σ':St} {H':Hp} {v:V} {u:Value},Inv (ur CX P w K mg base N qual scope f cdv A outer s H E) [] σ' H' s'->iw v u->Q v H'->CE outer P w H s Q u s':=
  fun{σ' H' v u} J rv q=>⟨v,H',J.os,J.bare,J.base,J.hok,rv,q⟩
 cases fl with
 |ret u=>
  obtain⟨v,σ',H',J,rv,q⟩:=hs
  exact fin J rv q
 |next=>
  obtain⟨σ',H',J,q⟩:=hs
  exact fin (v:=V.non) (u:=Value.none) J rfl q
 |brk=>
  obtain⟨_,_,_,q⟩:=hs
  exact False.elim q
 |cont=>
  obtain⟨_,_,_,q⟩:=hs
  exact False.elim q
section
variable {X:Cx} {st:Stmt} {rest:List Stmt} {t u:TS}
end
section
variable {P:Program} {w:World} {H H':Hp} {h h':Heap} {a:Addr} {o:HO}
theorem jw.there (x:jw P w H h a o):∃ob,h.get? a=some ob:=by
 cases o with
 |lst xs=>obtain⟨_,_,_,_,e⟩:=x;exact⟨_,e⟩
 |tup xs=>obtain⟨_,_,_,⟨ob,e,_⟩⟩:=x;exact⟨ob,e⟩
 |dK kvs=>obtain⟨_,_,_,_,ob,_,_,e,_⟩:=x;exact⟨ob,e⟩
 |dT kvs=>obtain⟨_,_,_,_,ob,_,_,e,_⟩:=x;exact⟨ob,e⟩
 |set S n=>obtain⟨ob,_,_,_,e,_⟩:=x;exact⟨ob,e⟩
 |ins C dx fs=>obtain⟨_,_,_,e,_⟩:=x;exact⟨_,e⟩
 |own y=>exact x
 |xd fs=>obtain⟨_,⟨ob,_,_,e,_⟩,_⟩:=x;exact⟨ob,e⟩
 |rng lo hi=>obtain⟨_,_,_,e⟩:=x;exact⟨_,e⟩
 |frz ob u=>obtain⟨e,_⟩:=x;exact⟨_,e⟩
 |tbl ps=>exact⟨_,x⟩
 |met f y=>exact⟨_,x⟩
 |ext φ=>exact x.2.1
end
structure Fl (P:Program) (w:World) (outer:List Env) (H:Hp) (s:Shared) (B:Heap) (H':Hp) (s':Shared):Prop where
 os:s'.os=s.os
 bare:AllBare s'.gens
 un:Un (frs outer) [] H H' s.heap s'.heap
 hok:HOk P w H' s'.heap
 stay:B.StaysIn s'.heap
 trk:∀b u,H' b=some u->∃o,B.get? b=some o
 old:∀b o,s.heap.get? b=some o->b∉frs outer->∃o',B.get? b=some o'
def CXE (P:Program) (w:World):CXT:=fun outer H s E e s'=>∃(ea:Addr) (cls a0:Value) (B:Heap) (H':Hp),e= .ref ea/\Fl P w outer H s B H' s'/\Heap.FlyingW B outer ea cls a0 s'.heap/\E cls none H'
section
variable {X:Cx} {pins:List (Addr×Obj)} {σ:St} {H H':Hp} {s s':Shared} {B h:Heap}
theorem Inv.nst (I:Inv X pins σ H s) {b:Addr} (h1:b≠X.env.locals) (h2:b∉X.fs):b∉frs X.stack:=fun hb=>(aj.mp (I.stkSub b hb)).elim h1 h2
theorem Inv.oldNe (I:Inv X pins σ H s) {b:Addr} {o:Obj} (e:X.s₀.heap.get? b=some o):b≠X.env.locals:=bW (bU (eI e) I.ok.above)
theorem Inv.flown (I:Inv X pins σ H s) (F:Fl X.prog X.w X.stack H s B H' s') (st:B.StaysIn h) (up:s'.heap.UpToSlots h):Inv X pins σ H' {s' with heap:=h}:=by
 have J:Inv X pins σ H' s':=I.call' (ch:=[]) F.os F.un F.hok F.bare (fun b hb=>nomatch hb)
 have ex:∀b o o0,s'.heap.get? b=some o->s.heap.get? b=some o0->b∉frs X.stack->h.get? b=some o:=fun b o o0 e e0 hb=>by
  obtain⟨o1,e1⟩:=F.old b o0 e0 hb
  have e2:=F.stay b o1 e1
  rw[e]at e2
  cases e2
  exact st b o e1
 have fr:∀b o,b∈frs X.stack->s'.heap.get? b=some o->∃sl,h.get? b=some {o with slots:=sl}:=fun b o hb e=>by
  obtain⟨_,o1,e1,hd⟩:=J.stack.mem hb
  rw[e]at e1
  cases e1
  exact up b o e hd
 have cellK:∀c v,s'.heap.IsCell c v->h.IsCell c v:=fun c v ⟨o,ho,hd⟩=>by
  obtain⟨sl,e⟩:=up c o ho (fun vs z=>by rw[hd]at z;cases z)
  exact⟨_,e,hd⟩
 refine⟨J.ok,J.os,J.bare,⟨fun b o e n hf hx=>?_,fun b o e n hf hx=>?_,J.base.free,fun b o e hx=>?_,J.base.tups,J.base.frzs,J.base.tbls⟩,?_,fun y c e=>?_,J.free,J.freeC,fun p hp=>?_,fun b u e=>?_,J.len⟩
 ·exact ex b o o (J.base.keep b o e n hf hx) (I.base.keep b o e n hf hx) (I.nst (I.oldNe e) hf)
 ·obtain⟨sl,e1⟩:=J.base.slot b o e n hf hx
  obtain⟨_,o1,e2,hd⟩:=J.funs.mem hf
  rw[e1]at e2
  cases e2
  obtain⟨sl',e3⟩:=up b _ e1 hd
  exact⟨sl',e3⟩
 ·obtain⟨o',e1⟩:=J.base.there b o e hx
  by_cases hb:b∈frs X.stack
  ·obtain⟨sl,e2⟩:=fr b o' hb e1
   exact⟨_,e2⟩
  ·obtain⟨o0,e0⟩:=I.base.there b o e hx
   exact⟨o',ex b o' o0 e1 e0 hb⟩
 ·obtain⟨m,hn,hl⟩:=J.loc
  refine⟨m,up.ns hn,fun i x v e1 e2 e3=>?_⟩
  obtain⟨u,r,l⟩:=hl i x v e1 e2 e3
  refine⟨u,r,?_⟩
  rcases l with l|⟨k,c,e,z⟩
  ·exact .inl l
  ·exact .inr ⟨k,c,e,cellK _ _ z⟩
 ·obtain⟨v,z⟩:=J.cell y c e
  exact⟨v,cellK _ _ z⟩
 ·obtain⟨e,n,ne,nf,d⟩:=J.pin p hp
  exact⟨ex p.1 p.2 p.2 e (I.pin p hp).1 (I.nst ne nf),n,ne,nf,d⟩
 ·refine(J.hok b u e).stay (fun c v hc q=>?_) (fun _ z=>z) fun _ _ z=>z
  have tr:∃u',H' c=some u':=by
   rcases hc with z|z
   ·rw[z];exact⟨u,e⟩
   ·exact⟨_,z⟩
  obtain⟨u',hu⟩:=tr
  obtain⟨o1,e1⟩:=F.trk c u' hu
  have e2:=F.stay c o1 e1
  rw[q]at e2
  cases e2
  exact st c v e1
theorem Inv.track {ea:Addr} {o:HO} (I:Inv X pins σ H s) (hn:H ea=none) (h0:X.s₀.heap.get? ea=none) (hL:ea≠X.env.locals) (hC:∀x c,X.env.cells.lookup x=some c->c≠ea) (hP:∀p∈X.pn++pins,p.1≠ea)
  (new:jw X.prog X.w (upd H ea o) s.heap ea o):Inv X pins σ (upd H ea o) s:=by
 have ne:∀b u,H b=some u->b≠ea:=fun b u e z=>by rw[z,hn]at e;cases e
 refine⟨I.ok,I.os,I.bare,⟨I.base.keep,I.base.slot,fun b ob e n hx=>?_,I.base.there,fun b xs e=>?_,fun b ob u e=>?_,fun b ps e=>?_⟩,I.loc,I.cell,?_,fun x c e=>?_,fun p hp=>?_,fun b u e=>?_,I.len⟩
 ·rw[fe (fun z=>by rw[z,h0]at e;cases e)]
  exact I.base.free b ob e n hx
 ·have e1:=I.base.tups b xs e
  rw[fe (ne b _ e1)]
  exact e1
 ·have e1:=I.base.frzs b ob u e
  rw[fe (ne b _ e1)]
  exact e1
 ·obtain⟨more,e1⟩:=I.base.tbls b ps e
  exact⟨more,by rw[fe (ne b _ e1)];exact e1⟩
 ·rw[fe (Ne.symm hL)]
  exact I.free
 ·rw[fe (hC x c e)]
  exact I.freeC x c e
 ·obtain⟨e,n,n2,nf,d⟩:=I.pin p hp
  exact⟨e,by rw[fe (hP p hp)];exact n,n2,nf,d⟩
 ·by_cases hb:b=ea
  ·subst hb
   rw[eV]at e
   cases e
   exact new
  ·rw[fe hb]at e
   exact(I.hok b u e).stay (fun _ _ _ q=>q) (fun c z=>by rw[fe (ne c _ z)];exact z) fun c xs z=>by rw[fe (ne c _ z)];exact z
end
section
variable {P:Program} {w:World} {K:PySem.W.Frag} {mg:Str->Option Value} {base:Heap} {N:List Str} {qual:Str} {scope:Scope} {f:Addr} {cd:Value} {A:Around} {outer:List Env} {s₀:Shared} {H₀:Hp} {E:XK}
theorem jV:mz (CXE P w) (ur (CXE P w) P w K mg base N qual scope f cd A outer s₀ H₀ E) E:=by
 intro pins σ H s e s' I hx
 obtain⟨ea,cls,a0,B,H',rfl,F,fl,q⟩:=hx
 show wpAny _ _ (leaving _ (.ref ea)) _ _ s'
 refine wpAny_leaves_onW (outer:=outer) I.ok.frames rfl fl fun h' fl' up=>?_
 have J:=I.flown F fl'.1 up
 refine⟨ea,cls,a0,B,H',rfl,⟨J.os,J.bare,J.base,J.hok,fl'.1,F.trk,fun b o e hb=>?_⟩,fl',q⟩
 obtain⟨o1,e1⟩:=I.base.there b o e (fun z=>nomatch z)
 exact F.old b o1 e1 (I.nst (I.oldNe e) hb)
theorem CT {pins:List (Addr×Obj)} {σ:St} {H:Hp} {s:Shared} {h':Heap} {ea:Addr} {cls:Value} {vs:List Value}
  (I:Inv (ur (CXE P w) P w K mg base N qual scope f cd A outer s₀ H₀ E) pins σ H s) (hx:Heap.MadeExcOf s.heap h' ea cls vs) (q:E cls none H):
  (ur (CXE P w) P w K mg base N qual scope f cd A outer s₀ H₀ E).xe (.ref ea) {s with heap:=h'}:=by
 generalize hX:ur (CXE P w) P w K mg base N qual scope f cd A outer s₀ H₀ E=X at I
 have hst:X.stack=envOfC qual scope s₀.heap.objs.size f cd::outer:=by rw[<-hX];rfl
 have B1:∀b o,s.heap.get? b=some o->b∉frs X.stack->(cG s.heap (frs X.stack)).get? b=some o:=fun b o e hb=>cH _ e hb
 have F:Fl X.prog X.w X.stack H s (cG s.heap (frs X.stack)) H {s with heap:=h'}:=by
  refine⟨rfl,I.bare,Un.kept hx.keeps,I.hok.kept hx.keeps,fun b o e=>hx.keeps b o (cJ _ e),fun b u e=>?_,fun b o e hb=>⟨o,B1 b o e hb⟩⟩
  obtain⟨ob,eo⟩:=(I.hok b u e).there
  exact⟨ob,B1 b ob eo fun hb=>by rw[I.stkFree b hb]at e;cases e⟩
 have fr:s.heap.FunFrames (cG s.heap (frs X.stack)) X.stack:=PySem.W.funFrames_hide I.stack fun env he a ha=>ax.mpr ⟨env,he,ha⟩
 have hA:X.A.frames=some X.stack:=I.ok.frames
 rw[hst]at fr hA F B1
 subst hX
 show wpAny _ _ (leaving _ (.ref ea)) _ _ _
 refine wpAny_leaves_madeW (outer:=outer) hA rfl (fun b o e=>cJ _ e) fr hx fun h'' t fl _ _ up=>?_
 have J:=I.flown F fl.1 up
 refine⟨ea,cls,_,_,H,rfl,⟨J.os,J.bare,J.base,J.hok,fl.1,F.trk,fun b o e hb=>?_⟩,fl,q⟩
 obtain⟨o1,e1⟩:=I.base.there b o e (fun z=>nomatch z)
 exact F.old b o1 e1 (I.nst (I.oldNe e) hb)
end
theorem Bx {K:PySem.W.Frag} {h:Heap} {C:Addr} {bmB:List Value} {newId:String} (hk:K.In h) (z:dv K C bmB newId=true):
  ∃bm N nm q bs hdct sn sub ab col dd k0 k1 k2 k3 k5 mN,h.get? C=some (excClassObj nm q C N bs bm hdct sn sub ab col dd k0 k1 k2 k3 k5 newId)/\h.Ns N mN/\mN "__init__"=none/\OwnTail h bmB bm:=by
 unfold dv at z
 split at z
 case h_2=>cases z
 rename_i d1 c1 l1 look
 split at z
 case h_2=>cases z
 rename_i C1 tail a0 a1 a2 a3 nid a5 hmro hslots
 simp only[dP,beq_iff_eq,Bool.not_eq_true']at z
 obtain⟨⟨⟨⟨⟨rfl,rfl⟩,z3⟩,z4⟩,z5⟩,z6⟩:=z
 obtain⟨x1,x2,x3,x4,x5,x6,x7,x8,x9,x10,x11⟩:=c1
 dsimp only at hmro z3 z5 z6
 subst hmro z3
 obtain⟨ll⟩:=l1
 have hll:ll=[a0,a1,a2,a3,some (.builtin nid),a5]:=hslots
 subst hll
 exact⟨tail,x4,x1,x5,x2,x6,x7,x8,x9,x10,d1,a0,a1,a2,a3,a5,_,hk _ _ look,.of_isNs (PySem.W.isNs_of_in hk z5),PySem.W.nsMap_none_of_in hk z5 z6,PySem.W.tail_of_in hk z4⟩
def FF:List Value:=[.type "ValueError",.type "Exception",.type "BaseException",.type "object"]
abbrev Et (K:PySem.W.Frag) (C:Addr):Prop:=dv K C FF "ValueError.__new__"=true
section
variable {X:Cx} {C:Addr} {E:XK} {x:Str} {np cpos pos:Pos} {e:Expr} {es:List Expr} {t:TA}
def Au (X:Cx) (E:XK):Prop:=∀(pins:List (Addr×Obj)) (σ:St) (H:Hp) (s:Shared) (h':Heap) (ea:Addr) (cls:Value) (vs:List Value),Inv X pins σ H s->Heap.MadeExcOf s.heap h' ea cls vs->E cls none H->X.xe (.ref ea) {s with heap:=h'}
theorem kZ {P:Program} {w:World} {K:PySem.W.Frag} {mg:Str->Option Value} {base:Heap} {N:List Str} {qual:Str} {scope:Scope} {f:Addr} {cd:Value} {A:Around} {outer:List Env} {s₀:Shared} {H₀:Hp} {E:XK}:
  Au (ur (CXE P w) P w K mg base N qual scope f cd A outer s₀ H₀ E) E:=fun _ _ _ _ _ _ _ _ I hx q=>CT I hx q
def Av (C:Addr) (E:XK) (t:TA):TS:=fun _ σ H=>t σ H fun vs H1=>vs.length<=sizeLine/\E (.ref C) none H1
theorem kh (hc:X.calm=true) (hl:Au X E) (xc:Et X.K C) (hg:Gl X x) (hm:X.mg x=some (.ref C)) (ha:PA X (e::es) t) (hst:autoParam (starEach (e::es) X.env=(false,eval e X.env)::starEach es X.env) L2.Internal.auR._auto_1)
  (hpl:autoParam ((backTo cpos (starEach es X.env)).any (·.1)=false) L2.Internal.auR._auto_1) (hd:autoParam ((x==("__debug__":Str))=false) L2.Internal.auD._auto_1):PS X (.Raise (some (.Call (.Name x np) (e::es) [] cpos)) none pos) (Av C E t):=by
 intro pins s σ H D I h
 obtain⟨tl,N,nm,q,bs,hdct,sn,sub,ab,col,dd,k0,k1,k2,k3,k5,mN,hC,hN,hni,T⟩:=Bx I.mod.kin xc
 have kp:∀{s1:Shared} {H1:Hp},Inv X pins σ H1 s1->∀b o,X.base.get? b=some o->s1.heap.get? b=some o:=fun I1=>I1.bk
 refine wpAny_Raise_call_subT (C:=C) (nm:=nm) (q:=q) (N:=N) (bs:=bs) (bm:=tl) (hdct:=hdct) (sn:=sn) (sub:=sub) (ab:=ab) (col:=col) (dd:=dd) (k0:=k0) (k1:=k1) (k2:=k2) (k3:=k3) (k5:=k5)
  dE (mN:=mN) (T.hasType dE.hasBase) (I.ok.hd hc) ?_ hni (qP I hg hm ⟨rfl,?_⟩ hd)
 ·rw[hst]
  show(false||(backTo cpos (starEach es X.env)).any (·.1))=false
  rw[hpl]
  rfl
 have h2:=ha cpos pins s σ H _ I h
 rw[hst]at h2⊢
 refine Calls.evalArgs_plain (wpAny_mono h2 (fun us s1 h3=>?_) fun _ _ z=>z)
 obtain⟨vs,H1,I1,r,hz,q1⟩:=h3
 refine⟨rfl,by rw[<-r.length];exact hz,kp I1 _ _ hC,hN.keeps (kp I1),T.keeps (kp I1),fun h' ea hx=>hl pins σ H1 s1 h' ea _ us I1 hx q1⟩
end
section
variable {P:Program} {w:World} {K:PySem.W.Frag} {mg:Str->Option Value} {base:Heap}
theorem Fun.okE {x qual:Str} {st:Stmt} {f:Addr} {fd:FuncData} {N ps:List Str} {k:Nat} {sp:Sp} (F:Fun K x qual st f fd) (S:fo N ps (eT st)) (len:∀vs H Q E,sp vs H Q E->vs.length=ps.length)
  (hbody:∀(cdv:Value) (A:Around) (outer:List Env) (s:Shared) (H:Hp) (vs:List V) (Q:VK) (E:XK),nh k (A.deeper (envOfC qual (eT st) s.heap.objs.size f cdv))->sp vs H Q E->
   ∃t,PSs (ur (CXE P w) P w K mg base N qual (eT st) f cdv A outer s H E) (fh st) t/\t {nx:=fun _ H'=>Q .non H',rt:=Q} (ou N vs) H):gu P w K mg base (CXE P w) (k+ 1) f fd ps sp:=by
 obtain⟨oc,od,kV,doc,pm,an,cdv,ct,osl,efd,lk,hcd⟩:=F.ex
 subst efd
 exact CF lk hcd S len (fun A outer s H vs Q E hr h=>hbody cdv A outer s H vs Q E hr h)
end
section
variable {X:Cx} {pins:List (Addr×Obj)} {σ:St} {H:Hp} {s:Shared}
end
section
variable {X:Cx} {CX:CXT} {k:Nat} {f Y:Addr} {fd:FuncData} {ps:List Str} {sp:Sp} {dvs:List V} {ds:List Value} {E:XK} {x y n:Str} {p pos pos' py hpos tpos:Pos} {e:Expr} {es:List Expr} {t:TA} {b₀:Stmt} {body:List Stmt} {tb:TS} {i:Nat}
end
section
variable {X:Cx} {e:Expr} {es:List Expr} {te:TE} {pos:Pos}
def tFV (te:TE):TE:=fun σ H Q=>te σ H fun v H1=>(∃x,v= .str x/\x.length<=sizeLine/\Q (.str x) H1)\/∃i:Int,v= .int i/\i.natAbs.log2<1920/\Q (.str (toString i)) H1
theorem uD (he:PE X e te):PE X (.FormattedValue e (-1) none pos) (tFV te):=by
 intro pins s σ H Q I h
 refine wpAny_FormattedValue_plain (thn (he pins s σ H _ I h) fun u s1 ⟨v,H1,I1,r,q⟩=>?_)
 rcases q with⟨x,rfl,hz,q⟩|⟨i,rfl,hl,q⟩
 ·obtain⟨t,rfl⟩:=r
  exact formatField_str (fun t' tk=>⟨.str x,H1,I1.tok tk,⟨t',rfl⟩,q⟩) hz
 ·obtain⟨t,rfl⟩:=r
  exact wpAny_formatField_int hl ⟨.str _,H1,I1.tok _,⟨_,rfl⟩,q⟩
def tFVr (te:TE):TE:=fun σ H Q=>te σ H fun v H1=>∃x,v= .str x/\(reprText x).length<=sizeLine/\Q (.str (reprText x)) H1
theorem sV (he:PE X e te):PE X (.FormattedValue e 114 none pos) (tFVr te):=by
 intro pins s σ H Q I h
 refine wpAny_FormattedValue_repr (thn (he pins s σ H _ I h) fun u s1 ⟨v,H1,I1,r,q⟩=>?_)
 obtain⟨x,rfl,hz,q⟩:=q
 obtain⟨t,rfl⟩:=r
 exact wpAny_pyReprObj_str (formatField_str (fun t' tk=>⟨.str _,H1,I1.tok tk,⟨t',rfl⟩,q⟩) hz) hz
def PJ (X:Cx) (es:List Expr) (t:Str->TE):Prop:=
 ∀(pins:List (Addr×Obj)) (s:Shared) (σ:St) (H:Hp) (Q:VK) (acc:Str),Inv X pins σ H s->t acc σ H Q->wpAny (model X.prog X.w) X.A (joinParts acc (evalEach es X.env)) (EP X pins σ Q) X.xe s
def tJ0:Str->TE:=fun acc _ H Q=>acc.length<=sizeLine/\Q (.str acc) H
def tJ (te:TE) (t:Str->TE):Str->TE:=fun acc σ H Q=>te σ H fun v H1=>∃y,v= .str y/\(acc++y).length<=sizeLine/\t (acc++y) σ H1 Q
theorem n6:PJ X [] tJ0:=fun pins s σ H Q acc I h=>joinParts_nil ⟨.str acc,H,I.tok _,⟨_,rfl⟩,h.2⟩ h.1
theorem gP {t:Str->TE} (he:PE X e te) (hr:PJ X es t):PJ X (e::es) (tJ te t):=by
 intro pins s σ H Q acc I h
 refine joinParts_cons (thn (he pins s σ H _ I h) fun u s1 ⟨v,H1,I1,r,q⟩=>?_)
 obtain⟨y,rfl,hz,q⟩:=q
 obtain⟨t',rfl⟩:=r
 exact⟨hz,hr pins s1 σ H1 Q _ I1 q⟩
theorem lT {e2:Expr} {t:Str->TE} (h:PJ X (e::e2::es) t):PE X (.JoinedStr (e::e2::es) pos) (t Str.empty):=fun pins s σ H Q I hw=>JoinedStr_many (h pins s σ H Q _ I hw)
end
theorem Eu {P:Program} {w:World} {X:Cx}:mz (CXE P w) X E0:=fun _ _ _ _ _ _ _ h=>by
 obtain⟨_,_,_,_,_,_,_,_,z⟩:=h
 exact z.elim
section
variable {X:Cx}
theorem sX:nH X (.type "int") (fun xs H Q=>∃x n,xs=[.str x]/\intText? x=some n/\x.length<=640/\Q (.int n) H):=by
 intro pins s σ H xs us Q I r h
 obtain⟨x,n,rfl,hn,hl,q⟩:=h
 obtain⟨u,rfl,rx⟩:=mr r
 obtain⟨t,rfl⟩:=rx
 exact PySem.W.KIN.call_text hn hl ⟨.int n,H,I.tok _,⟨_,rfl⟩,q⟩
end
inductive Dt where
 |flat (v:V)
 |tup (l:List Dt)
 |lst (l:List Dt)
mutual
inductive At (K:PySem.W.Frag) (H:Hp):V->Dt->Prop where
 |flat {v:V} (h:ox v=true):At K H v (.flat v)
 |tup {a:Addr} {xs:List V} {ds:List Dt} (h:SqT K H a xs) (hs:Ats K H xs ds):At K H (.ref a) (.tup ds)
 |lst {a:Addr} {xs:List V} {ds:List Dt} (h:SqL K H a xs) (hs:Ats K H xs ds):At K H (.ref a) (.lst ds)
inductive Ats (K:PySem.W.Frag) (H:Hp):List V->List Dt->Prop where
 |nil:Ats K H [] []
 |cons {x:V} {d:Dt} {xs:List V} {ds:List Dt} (h:At K H x d) (hs:Ats K H xs ds):Ats K H (x::xs) (d::ds)
end
mutual
def eqD:Dt->Dt->Bool
 | .flat a,.flat b=>eqV a b
 | .tup l,.tup m=>ud l m
 | .lst l,.lst m=>ud l m
 |_,_=>false
def ud:List Dt->List Dt->Bool
 |[],[]=>true
 |x::xs,y::ys=>eqD x y&&ud xs ys
 |_,_=>false
end
mutual
def nO:Dt->Dt->Bool
 | .flat _,.flat _=>true
 | .tup l,.tup m=>pq l m
 | .lst l,.lst m=>if l.length=m.length then pq l m else true
 |_,_=>false
def pq:List Dt->List Dt->Bool
 |x::xs,y::ys=>nO x y&&pq xs ys
 |_,_=>true
end
mutual
def sq:Dt->Nat
 | .flat _=>0
 | .tup l=>jG l+ 1
 | .lst l=>jG l+ 1
def jG:List Dt->Nat
 |[]=>0
 |x::xs=>max (sq x) (jG xs)
end
theorem Ats.length {K:PySem.W.Frag} {H:Hp}:∀{xs:List V} {ds:List Dt},Ats K H xs ds->xs.length=ds.length
 |_,_,.nil=>rfl
 |_,_,.cons _ t=>by rw[az,az,Ats.length t]
theorem Ats.get {K:PySem.W.Frag} {H:Hp}:∀{xs:List V} {ds:List Dt} {j:Nat} {x:V},Ats K H xs ds->xs[j]?=some x->∃d,ds[j]?=some d/\At K H x d
 |_,_,0,_,.cons h _,e=>⟨_,rfl,by cases e;exact h⟩
 |_,_,j+ 1,_,.cons _ t,e=>Ats.get (j:=j) t e
 |_,_,_,_,.nil,e=>by simp at e
theorem rb:∀(l m:List Dt),l.length≠m.length->ud l m=false
 |[],[],h=>absurd rfl h
 |x::xs,y::ys,h=>by
  rw[ud,rb xs ys (fun e=>h (by rw[az,az,e])),dQ]
 |[],y::ys,_=>by rw[ud];all_goals simp
 |x::xs,[],_=>by rw[ud];all_goals simp
def wz (l m:List Dt) (j:Nat):Bool:=match l[j]?,m[j]? with
 |some a,some b=>eqD a b
 |_,_=>false
theorem nP:∀(l m:List Dt),l.length=m.length->((aa l.length).all fun j=>wz l m j)=ud l m
 |[],[],_=>by rw[ud];rfl
 |x::xs,y::ys,h=>by
  have ih:=nP xs ys (by simpa using h)
  rw[az,bj,aW,bo,ud,<-ih]
  rfl
 |[],_::_,h=>by simp at h
 |_::_,[],h=>by simp at h
theorem lU:∀{l m:List Dt} {j:Nat} {a b:Dt},pq l m=true->l[j]?=some a->m[j]?=some b->nO a b=true
 |x::xs,y::ys,0,a,b,h,e1,e2=>by
  rw[pq,dP]at h
  cases e1
  cases e2
  exact h.1
 |x::xs,y::ys,j+ 1,a,b,h,e1,e2=>by
  rw[pq,dP]at h
  exact lU (j:=j) h.2 e1 e2
 |[],_,_,_,_,_,e1,_=>by simp at e1
 |_::_,[],_,_,_,_,_,e2=>by simp at e2
theorem depDs_get:∀{l:List Dt} {j:Nat} {a:Dt},l[j]?=some a->sq a<=jG l
 |x::xs,0,a,e=>by cases e;rw[jG];exact Nat.le_max_left ..
 |x::xs,j+ 1,a,e=>by rw[jG];exact bX (depDs_get (j:=j) e) (Nat.le_max_right ..)
 |[],_,_,e=>by simp at e
theorem xY {v:V} (h:ox v=true):eqV v v=true:=by
 cases v with
 |non=>rfl
 |bl b=>show(b==b)=true;simp
 |int i=>show(i==i)=true;simp
 |str x=>show(x==x)=true;simp
 |_=>exact absurd h dN
section
variable {X:Cx} {pins:List (Addr×Obj)} {σ:St} {H:Hp} {s:Shared}
mutual
theorem At.same (I:Inv X pins σ H s):∀{x:V} {d e:Dt},At X.K H x d->At X.K H x e->nO d e=true->eqD d e=true
 |_,_,_,.flat h,.flat _,_=>by rw[eqD];exact xY h
 |_,_,_,.tup h hs,.tup h' hs',c=>by
  have e:=I.tuple_inj h h'
  subst e
  rw[nO]at c
  rw[eqD]
  exact Ats.same I hs hs' c
 |_,_,_,.lst h hs,.lst h' hs',c=>by
  have e:=I.list_inj h h'
  subst e
  rw[nO,if_pos (hs.length.symm.trans hs'.length)]at c
  rw[eqD]
  exact Ats.same I hs hs' c
 |_,_,_,.flat h,.tup _ _,_=>absurd h dN
 |_,_,_,.flat h,.lst _ _,_=>absurd h dN
 |_,_,_,.tup _ _,.flat h,_=>absurd h dN
 |_,_,_,.lst _ _,.flat h,_=>absurd h dN
 |_,_,_,.tup _ _,.lst _ _,c=>by simp[nO]at c
 |_,_,_,.lst _ _,.tup _ _,c=>by simp[nO]at c
theorem Ats.same (I:Inv X pins σ H s):∀{xs:List V} {l m:List Dt},Ats X.K H xs l->Ats X.K H xs m->pq l m=true->ud l m=true
 |_,_,_,.nil,.nil,_=>by rw[ud]
 |_,_,_,.cons h t,.cons h' t',c=>by
  rw[pq,dP]at c
  rw[ud,At.same I h h' c.1,Ats.same I t t' c.2]
  rfl
end
def Els (K:PySem.W.Frag) (H:Hp) (A:Around) (s:Shared) (ds es:List Dt):Prop:=
 ∀(j:Nat) (d1 d2:Dt) (x y:V) (u v:Value),ds[j]?=some d1->es[j]?=some d2->iw x u->iw y v->At K H x d1->At K H y d2->SeqAt.EqAt A s u v (eqD d1 d2)
theorem els {A:Around} {xs ys:List V} {its its2:List Value} {ds es:List Dt} (r:iA xs its) (r2:iA ys its2) (hs:Ats X.K H xs ds) (hs':Ats X.K H ys es) (EL:Els X.K H A s ds es):
  ∀j (h1:j<its.toArray.size) (h2:j<its2.toArray.size),SeqAt.EqAt A s its.toArray[j] its2.toArray[j] (wz ds es j):=fun j h1 h2=>by
 have l1:=r.length
 have l2:=r2.length
 have h1':j<xs.length:=by simp only[aT]at h1;lia
 have h2':j<ys.length:=by simp only[aT]at h2;lia
 obtain⟨w1,e1,q1⟩:=r.get (bq h1')
 obtain⟨w2,e2,q2⟩:=r2.get (bq h2')
 obtain⟨d1,f1,p1⟩:=hs.get (bq h1')
 obtain⟨d2,f2,p2⟩:=hs'.get (bq h2')
 have g1:its.toArray[j]=w1:=by simpa using(aq.mp e1).2
 have g2:its2.toArray[j]=w2:=by simpa using(aq.mp e2).2
 have ed:wz ds es j=eqD d1 d2:=by unfold wz;rw[f1,f2]
 rw[g1,g2,ed]
 exact EL j d1 d2 _ _ _ _ f1 f2 q1 q2 p1 p2
theorem By {ds es:List Dt} {n m:Nat} (h1:n=ds.length) (h2:m=es.length):((aa (min n m)).all (wz ds es)&&n==m)=eqD (.tup ds) (.tup es):=by
 subst h1 h2
 rw[eqD]
 by_cases hl:ds.length=es.length
 ·rw[<-nP ds es hl,<-hl,Nat.min_self]
  simp
 ·rw[rb ds es hl,beq_eq_false_iff_ne.mpr hl,dQ]
theorem Bz {ds es:List Dt} {n:Nat} (h1:n=ds.length) (h:ds.length=es.length):((aa n).all (wz ds es))=eqD (.lst ds) (.lst es):=by
 subst h1
 rw[eqD,<-nP ds es h]
theorem Aw {A:Around} {a b:Addr} {xs ys:List V} {ds es:List Dt} (I:Inv X pins σ H s) (h:SqT X.K H a xs) (hs:Ats X.K H xs ds) (h':SqT X.K H b ys) (hs':Ats X.K H ys es) (hu:A.units<cLine) (EL:Els X.K H A.in1 s ds es):
  SeqAt.RcAt A s (.ref a) (.ref b) (eqD (.tup ds) (.tup es))/\SeqAt.RcNeAt A s (.ref a) (.ref b) (!eqD (.tup ds) (.tup es)):=by
 obtain⟨its,r,pl,_⟩:=I.tuple h
 obtain⟨its2,r2,pl2,_⟩:=I.tuple h'
 have e:=els r r2 hs hs' EL
 have l1:its.toArray.size=ds.length:=by rw[aT,<-r.length,hs.length]
 have l2:its2.toArray.size=es.length:=by rw[aT,<-r2.length,hs'.length]
 have k1:=SeqAt.RcAt.tuples (A:=A) (s:=s) pl pl2 hu e
 have k2:=SeqAt.RcNeAt.tuples (A:=A) (s:=s) pl pl2 hu e
 rw[By l1 l2]at k1 k2
 exact⟨k1,k2⟩
theorem Ax {A:Around} {a b:Addr} {xs ys:List V} {ds es:List Dt} (I:Inv X pins σ H s) (h:SqL X.K H a xs) (hs:Ats X.K H xs ds) (h':SqL X.K H b ys) (hs':Ats X.K H ys es) (hu:A.units<cLine) (EL:ds.length=es.length->Els X.K H A.in1 s ds es):
  SeqAt.RcAt A s (.ref a) (.ref b) (eqD (.lst ds) (.lst es))/\SeqAt.RcNeAt A s (.ref a) (.ref b) (!eqD (.lst ds) (.lst es)):=by
 obtain⟨its,r,pl,_⟩:=I.list h
 obtain⟨its2,r2,pl2,_⟩:=I.list h'
 have l1:its.toArray.size=ds.length:=by rw[aT,<-r.length,hs.length]
 have l2:its2.toArray.size=es.length:=by rw[aT,<-r2.length,hs'.length]
 by_cases hl:ds.length=es.length
 ·have e:=els r r2 hs hs' (EL hl)
  have k1:=SeqAt.RcAt.lists (A:=A) (s:=s) pl.isList pl2.isList (by rw[l1,l2,hl]) hu e
  have k2:=SeqAt.RcNeAt.lists (A:=A) (s:=s) pl.isList pl2.isList (by rw[l1,l2,hl]) hu e
  rw[Bz l1 hl]at k1 k2
  exact⟨k1,k2⟩
 ·have hne:(its.toArray.size !=its2.toArray.size)=true:=by rw[l1,l2];exact bne_iff_ne.mpr hl
  have k1:=SeqAt.RcAt.lists_lengths (A:=A) (s:=s) pl.isList pl2.isList hne hu
  have k2:=SeqAt.RcNeAt.lists_lengths (A:=A) (s:=s) pl.isList pl2.isList hne hu
  rw[eqD,rb ds es hl]
  exact⟨k1,k2⟩
theorem Ay (I:Inv X pins σ H s):∀(n:Nat) (A:Around) {x y:V} {u v:Value} {d e:Dt},iw x u->iw y v->At X.K H x d->At X.K H y e->nO d e=true->sq d<=n->A.units+n<cLine->SeqAt.EqAt A s u v (eqD d e):=by
 intro n
 induction n with
 |zero=>
  intro A x y u v d e rx ry hx hy c hd hu
  cases hx with
  |flat h=>
   cases hy with
   |flat h'=>rw[eqD];exact xO rx ry h h'
   |tup _ _=>simp[nO]at c
   |lst _ _=>simp[nO]at c
  |tup _ _=>rw[sq]at hd;lia
  |lst _ _=>rw[sq]at hd;lia
 |succ n ih=>
  intro A x y u v d e rx ry hx hy c hd hu
  cases hx with
  |flat h=>
   cases hy with
   |flat h'=>rw[eqD];exact xO rx ry h h'
   |tup _ _=>simp[nO]at c
   |lst _ _=>simp[nO]at c
  |@tup a xs ds h hs=>
   cases hy with
   |flat _=>simp[nO]at c
   |lst _ _=>simp[nO]at c
   |@tup b ys es h' hs'=>
    cases rx
    cases ry
    by_cases hab:a=b
    ·subst hab
     rw[At.same I (.tup h hs) (.tup h' hs') c]
     exact SeqAt.EqAt.same _
    ·rw[nO]at c
     rw[sq]at hd
     refine SeqAt.EqAt.of_refs hab (Aw I h hs h' hs' (by lia) fun j d1 d2 x y u v f1 f2 q1 q2 p1 p2=>?_).1
     exact ih A.in1 q1 q2 p1 p2 (lU c f1 f2) (bX (depDs_get f1) (by lia)) (by show A.units+ 1+n<cLine;lia)
  |@lst a xs ds h hs=>
   cases hy with
   |flat _=>simp[nO]at c
   |tup _ _=>simp[nO]at c
   |@lst b ys es h' hs'=>
    cases rx
    cases ry
    by_cases hab:a=b
    ·subst hab
     rw[At.same I (.lst h hs) (.lst h' hs') c]
     exact SeqAt.EqAt.same _
    ·rw[sq]at hd
     refine SeqAt.EqAt.of_refs hab (Ax I h hs h' hs' (by lia) fun hl j d1 d2 x y u v f1 f2 q1 q2 p1 p2=>?_).1
     rw[nO,if_pos hl]at c
     exact ih A.in1 q1 q2 p1 p2 (lU c f1 f2) (bX (depDs_get f1) (by lia)) (by show A.units+ 1+n<cLine;lia)
def rEqD (K:PySem.W.Frag) (neg:Bool):R2:=fun x y H Q=>∃a b d e,x= .ref a/\y= .ref b/\At K H x d/\At K H y e/\nO d e=true/\sq d<=100/\Q (.bl (if neg then !eqD d e else eqD d e)) H
theorem rcD (I:Inv X pins σ H s) {A:Around} {a b:Addr} {d e:Dt} (hx:At X.K H (.ref a) d) (hy:At X.K H (.ref b) e) (c:nO d e=true) (hd:sq d<=100) (hu:A.units+ 101<cLine):
  SeqAt.RcAt A s (.ref a) (.ref b) (eqD d e)/\SeqAt.RcNeAt A s (.ref a) (.ref b) (!eqD d e):=by
 cases hx with
 |flat h=>exact absurd h dN
 |@tup a xs ds h hs=>
  cases hy with
  |flat h=>exact absurd h dN
  |lst _ _=>simp[nO]at c
  |@tup b ys es h' hs'=>
   rw[nO]at c
   rw[sq]at hd
   refine Aw I h hs h' hs' (by lia) fun j d1 d2 x y u v f1 f2 q1 q2 p1 p2=>?_
   exact Ay I 100 A.in1 q1 q2 p1 p2 (lU c f1 f2) (bX (depDs_get f1) (by lia)) (by show A.units+ 1+ 100<cLine;lia)
 |@lst a xs ds h hs=>
  cases hy with
  |flat h=>exact absurd h dN
  |tup _ _=>simp[nO]at c
  |@lst b ys es h' hs'=>
   rw[sq]at hd
   refine Ax I h hs h' hs' (by lia) fun hl j d1 d2 x y u v f1 f2 q1 q2 p1 p2=>?_
   rw[nO,if_pos hl]at c
   exact Ay I 100 A.in1 q1 q2 p1 p2 (lU c f1 f2) (bX (depDs_get f1) (by lia)) (by show A.units+ 1+ 100<cLine;lia)
end
section
variable {X:Cx}
theorem CU {k:Nat} (hr:nh k X.A):OpR X (compareOp .NotEq) (rEqD X.K true):=by
 intro pins s σ H x y v u Q I rx ry h
 obtain⟨a,b,d,e,rfl,rfl,hx,hy,c,hd,q⟩:=h
 cases rx
 cases ry
 have hu:=hr.un
 exact(rcD I hx hy c hd (by lia)).2 _ _ _ _ ⟨.bl _,H,I,rfl,q⟩
end
def xZ (P:Program) (w:World) (K:PySem.W.Frag) (a:Addr) (kvs:List (Key×V)):Prop:=(a==sysModules)=false/\∃vs,KV kvs vs/\∀h:Heap,K.In h->h.DictOf (iP P w) a vs
theorem vD {P:Program} {w:World} {K:PySem.W.Frag} {a:Addr} {es:Array DictEntry} {n:Nat} {l:List (Str×Tok×Addr)} (ha:(a==sysModules)=false) (hl:K.lookup a=some ⟨.type "dict",none,.dict es n,#[]⟩)
  (he:es.toList=l.map fun p=>⟨PyData.keyHash w.params p.1,.str p.1 p.2.1,.ref p.2.2⟩) (hn:(l.map (·.1)).Nodup):xZ P w K a (l.map fun p=>(Sum.inr p.1,V.ref p.2.2)):=by
 refine⟨ha,l.map fun p=>(Sum.inr p.1,Value.ref p.2.2),?_,fun h hk=>?_⟩
 ·clear he hn
  induction l with
  |nil=>exact .nil
  |cons p r ih=>exact .cons ⟨rfl,rfl⟩ ih
 ·refine⟨_,es,n,hk _ _ hl,⟨rfl,rfl,rfl⟩,rfl,fun e hm=>?_,?_,?_⟩
  ·have hm':e∈es.toList:=by simpa using hm
   rw[he]at hm'
   obtain⟨p,_,rfl⟩:=aZ.mp hm'
   exact⟨Sum.inr p.1,oU p.1 p.2.1,rfl⟩
  ·rw[he]
   clear he hn
   induction l with
   |nil=>exact .nil
   |cons p r ih=>exact .cons (oU p.1 p.2.1) rfl ih
  ·rw[br]
   have e:(List.map ((fun(x:Key×Value)=>x.1)∘fun(p:Str×Tok×Addr)=>((Sum.inr p.1:Key),Value.ref p.2.2)) l)=(l.map (·.1)).map (Sum.inr:Str->Key):=by
    rw[br]
    rfl
   rw[e]
   exact List.Pairwise.map _ (fun a b h z=>h (Sum.inr.inj z)) hn
def BA (a:Addr) (kvs:List (Key×V)) (ty td:TE):TE:=fun σ H Q=>ty σ H fun y H1=>td σ H1 fun x H2=>∃k,x= .ref a/\y=kV k/\Q (.bl (!(je kvs k).isSome)) H2
def Ew (a:Addr) (kvs:List (Key×V)) (td ty:TE):TE:=fun σ H Q=>td σ H fun x H1=>ty σ H1 fun y H2=>∃k v,x= .ref a/\y=kV k/\je kvs k=some v/\Q v H2
section
variable {X:Cx} {o i:Expr} {pos:Pos} {td ty:TE} {a:Addr} {kvs:List (Key×V)}
theorem yc (d:xZ X.prog X.w X.K a kvs) (hi:PE X i ty) (ho:PE X o td):PC X .NotIn i o (BA a kvs ty td):=by
 intro pins s σ H Q I h
 refine thn (hi pins s σ H _ I h) fun iv s1 ⟨y,H1,I1,ry,q1⟩=>thn (ho pins s1 σ H1 _ I1 q1) fun u s2 ⟨x,H2,I2,rx,k,ex,ey,q2⟩=>?_
 subst ex ey
 obtain rfl:u=Value.ref a:=rx
 obtain⟨hs,vs,rel,dd⟩:=d
 refine wpAny_notIn_of (qW ry) hs (dd _ I2.kIn).mapOf ?_
 rw[<-(rel.val k).isSome_eq]
 exact⟨.bl _,H2,I2.tok _,rfl,q2⟩
theorem yd (d:xZ X.prog X.w X.K a kvs) (ho:PE X o td) (hi:PE X i ty) (hs:Ei i):PE X (.Subscript o i pos) (Ew a kvs td ty):=by
 intro pins s σ H Q I h
 refine xI dA.lookup hs (thn (ho pins s σ H _ I h) fun u s1 ⟨x,H1,I1,rx,q1⟩=>thn (hi pins s1 σ H1 _ I1 q1) fun iv s2 ⟨y,H2,I2,ry,k,v,ex,ey,hv,q2⟩=>?_)
 subst ex ey
 obtain rfl:u=Value.ref a:=rx
 obtain⟨_,vs,rel,dd⟩:=d
 obtain⟨w',hw,rw'⟩:=sr.some_of (v:=v) (o:=valueAt vs k) (by rw[<-hv];exact rel.val k)
 exact⟨(dd _ I2.kIn).typeIs,wpAny_getItem_of (qW ry) (dd _ I2.kIn).mapOf hw ⟨v,H2,I2.tok _,rw',q2⟩⟩
end
section
variable {X:Cx}
end
section
variable {X:Cx} {k:Nat} {f Y:Addr} {fd:FuncData} {ps:List Str} {sp:Sp} {dvs:List V} {ds:List Value} {x y n:Str} {p pos pos' py hpos tpos pn:Pos} {e:Expr} {es:List Expr} {t:TA} {b₀:Stmt} {body:List Stmt} {tb:TS} {i:Nat}
end
end L2.Internal
namespace L2.Internal
theorem CV:PySem.bootBuiltins "min"=some (.builtin "min"):=by decide+kernel
end L2.Internal
namespace L2.Internal
open PySem PySem.Spec PyProof.Rows
def ye:List Expr->Option (List Int)
 |[]=>some []
 | .Constant (.int x) _ _::r=>(ye r).map (x::·)
 |_=>none
def CW (xs:List Int):TA:=fun _ H Q=>Q (xs.map V.int) H
theorem rf {X:Cx}:∀{es:List Expr} {xs:List Int},ye es=some xs->PA X es (CW xs)
 |[],xs,h=>by
  have e:xs=[]:=(cz.inj h).symm
  subst e
  exact eS
 | .Constant (.int x) k p::r,xs,h=>by
  have h':(ye r).map (x::·)=some xs:=h
  obtain⟨ys,hy,e⟩:=cD.mp h'
  subst e
  have ih:=rf (X:=X) hy
  intro pos pins s σ H Q I q
  exact eQ (te:=tC (.int x)) (t:=CW ys) eU ih rfl pos pins s σ H Q I q
section
variable {X:Cx} {pins:List (Addr×Obj)} {σ:St} {H:Hp} {s:Shared} {h':Heap}
theorem Inv.turnedL {t':Nat} {ch:List Addr} (I:Inv X pins σ H s) (k:∀b o,b∉ch->s.heap.get? b=some o->h'.get? b=some o) (hf:∀b∈ch,w6 X pins H b):Inv X pins σ H {s with heap:=h',toks:=t'}:=by
 have nit:∀b u,H b=some u->b∉ch:=fun b u e z=>by
  have q:=(hf b z).1
  rw[q]at e;cases e
 refine I.step (g':=s.gens) (d':=s.drawn) (ch:=ch) (fun b hb=>?_) (fun b o _ _ hc e _=>k b o hc e) (fun b o _ _ hc e _=>⟨o.slots,k b o hc e⟩) (fun _ _ _ _ n=>n)
  (fun b o hc e=>⟨o,k b o hc e⟩) (fun _ _ e=>e) (fun _ _ _ e=>e) (fun b ps e=>⟨#[],by rw[e];simp⟩) (fun m hm=>?_) (fun b u e=>?_) I.bare
 ·obtain⟨_,f1,_,f3,f4,f5⟩:=hf b hb
  exact⟨f3,f1,f4,f5⟩
 ·obtain⟨o,es,ep,ho,r⟩:=hm
  exact⟨o,es,ep,k _ o (fun z=>(hf _ z).2.1 rfl) ho,r⟩
 ·refine(I.hok b u e).stay (fun c v hc q=>k c v ?_ q) (fun _ q=>q) fun _ _ q=>q
  rcases hc with z|z
  ·rw[z];exact nit b u e
  ·exact nit c _ z
theorem Inv.pairNew {T:Addr} {h:Heap} {tk:Nat} {ux uy:Value} {x y:V} (I:Inv X pins σ H s) (hT:s.heap.objs.size<=T) (J:Inv X pins σ H {s with heap:=h,toks:=tk}) (ht:vo h T #[ux,uy]) (rx:iw x ux) (ry:iw y uy):
  H T=none/\Inv X pins σ (upd H T (.tup [x,y])) {s with heap:=h,toks:=tk}:=by
 have f:=I.fpOk (H':=H) hT (I.hok.fresh hT)
 refine⟨f.1,J.track f.1 ?_ f.2.1 f.2.2.2.2.1 f.2.2.2.2.2 ⟨by show 2<=sizeLine;decide,[ux,uy],.cons rx (.cons ry .nil),ht⟩⟩
 cases q:X.s₀.heap.get? T with
 |none=>rfl
 |some o=>exact absurd (bU (eI q) (bX I.sz hT)) (bV _)
end
theorem n8:bootBuiltins "enumerate"=some (.type "enumerate"):=by decide+kernel
theorem SqL.old {X:Cx} {pins:List (Addr×Obj)} {σ:St} {H:Hp} {s:Shared} {a:Addr} {xs:List V} (I:Inv X pins σ H s) (h:SqL X.K H a xs):a<s.heap.objs.size:=by
 obtain⟨its,_,p,_⟩:=I.list h
 obtain⟨o,e,_⟩:=p.isList
 exact eI e
section
variable {X:Cx}
end
def Ite (K:PySem.W.Frag) (a:Addr):It:=
 ⟨fun i H=>∃xs x,SqL K H a xs/\xs[i]?=some x,
   fun i H v H'=>∃T x,v= .ref T/\H T=none/\H'=upd H T (.tup [.int (i:Int),x])/\∀xs,SqL K H a xs->xs[i]?=some x,
   fun i H=>∃xs,SqL K H a xs/\i=xs.length⟩
def ESt (e it a:Addr) (i:Nat) (h:Heap):Prop:=(∃old,IsEnum h e it i old)/\h.IsListIter it a i
theorem yf {P:Program} {w:World} {K:PySem.W.Frag} {es:List Expr} {kk:Nat} {tp:Pos} {a e it:Addr} (h1:e≠it) (h2:a≠e) (h3:a≠it):Ak P w K (.Tuple es kk tp) (Ite K a) [e,it] e (ESt e it a) where
 mem:=by simp
 obj:=fun i h st c hc=>by
  obtain⟨⟨old,g1⟩,⟨o4,g4,_,d4⟩⟩:=st
  simp only[aj,bt,or_false]at hc
  rcases hc with q|q<;>subst q
  ·exact⟨_,g1,fun v q=>nomatch q⟩
  ·exact⟨_,g4,fun v q=>by rw[d4]at q;cases q⟩
 keep:=fun i h h' st k=>by
  obtain⟨⟨old,g1⟩,g4⟩:=st
  exact⟨⟨old,k e (by simp) _ g1⟩,g4.at fun o q=>k it (by simp) o q⟩
 item:=by
  intro X hP hw hK hc i pins s σ H E I hf st hg
  subst hP hw hK
  obtain⟨xs,x,qx,ex⟩:=hg
  obtain⟨i1s,r1,p1,z1⟩:=I.list qx
  obtain⟨g1,g4⟩:=st
  obtain⟨old,g1'⟩:=g1
  obtain⟨ux,hux,rr1⟩:=r1.get ex
  have lte:e<s.heap.objs.size:=eI g1'
  refine wpAny_pyNext_enum_item g1' g4 p1.isList (x:=ux) (by simpa using hux) h1 fun k1 ho hit' hT hsz hk=>?_
  have kk1:∀c o,c∉[e,it]->s.heap.get? c=some o->k1.get? c=some o:=fun c o hc q=>hk c o (fun z=>hc (by simp[z])) (fun z=>hc (by simp[z])) q
  have J1:Inv X pins σ H {s with heap:=k1,toks:=s.toks+ 1}:=I.turnedL kk1 hf
  refine⟨.ref s.heap.objs.size,rfl,wpAny_letOwnedTupleGo_enum ho fun k2 he' sb=>?_⟩
  have J2:Inv X pins σ H {s with heap:=k2,toks:=s.toks+ 1}:=Inv.turnedL (s:={s with heap:=k1,toks:=s.toks+ 1}) (h':=k2) (t':=s.toks+ 1) (ch:=[e]) J1 (fun c o hc q=>(sb.2 c (fun z=>hc (by simp[z]))).trans q) fun c hc=>hf c (by simp only[aj,bt,or_false]at hc⊢;simp[hc])
  have ht2:vo k2 s.heap.objs.size #[.int i s.toks,ux]:=⟨_,(sb.2 _ (bZ lte)).trans hT,rfl,_,rfl,rfl⟩
  obtain⟨fT,J3⟩:=I.pairNew (x:= .int (i:Int)) (b6 _) J2 ht2 ⟨s.toks,rfl⟩ rr1
  refine⟨.ref s.heap.objs.size,_,J3,rfl,⟨_,x,rfl,fT,rfl,fun l hl=>by rw[I.list_inj hl qx];exact ex⟩,⟨⟨_,by simpa using he'⟩,hit'.at fun o y=>(sb.2 it h1.symm).trans y⟩,fun c hc=>?_⟩
  rw[fe (fun q=>?_)]
  ·exact(hf c hc).1
  ·have lt:c<s.heap.objs.size:=by
    obtain⟨o4,e4,_⟩:=g4
    simp only[aj,bt,or_false]at hc
    rcases hc with q|q<;>subst q
    ·exact lte
    ·exact eI e4
   exact absurd lt (by rw[q];exact bV _)
 done:=by
  intro X hP hw hK hc i pins s σ H E I hf st hg
  subst hP hw hK
  obtain⟨xs,qx,ei⟩:=hg
  obtain⟨i1s,r1,p1,z1⟩:=I.list qx
  obtain⟨g1,g4⟩:=st
  have W:=WalksT.enumerate (prog:=X.prog) (w:=X.w) (I.ok.hd hc) e it a h1 h2 h3 i1s.toArray
  have l1:=r1.length
  have q:i=i1s.toArray.size:=by simp only[aT];lia
  subst q
  exact W.done s _ _ ⟨g1,g4,p1.isList⟩ fun h1 tk hk=>⟨rfl,I.turnedL hk hf⟩
 self:=fun _ _ _ _ _ st h=>by
  obtain⟨⟨old,g1⟩,_⟩:=st
  exact wpAny_pyIter_enum g1 h
def Ey (K:PySem.W.Frag) (ta:TA):TI:=fun σ H R=>ta σ H fun vs H1=>∃a,vs=[.ref a]/\(∃xs,SqL K H1 a xs)/\R (Ite K a) H1
section
variable {X:Cx}
theorem yg {es:List Expr} {kk:Nat} {tp:Pos} {a:Expr} {ta:TA} {p pos:Pos} (hg:Gl X "enumerate") (hm:X.mg "enumerate"=none) (ha:PA X [a] ta) (hs:autoParam (starEach [a] X.env=[(false,eval a X.env)]) L2.Internal.auR._auto_1):
  PI X (.Tuple es kk tp) (.Call (.Name "enumerate" p) [a] [] pos) (Ey X.K ta):=by
 intro pins s σ H R I h
 refine Call_ (m4 I hg hm n8 (eO (thn (ha pos pins s σ H _ I h) fun us s1 ⟨vs,H1,I1,r1,q1⟩=>?_) hs rfl))
 obtain⟨l1,e,⟨xs,q1⟩,q⟩:=q1
 subst e
 obtain⟨u,rfl,ru⟩:=mr r1
 cases ru
 obtain⟨i1s,w1,p1,z1⟩:=I1.list q1
 have o1:@LT.lt Nat _ l1 s1.heap.objs.size:=SqL.old I1 q1
 refine call_enumerate_list p1.isList fun h1 hE hi1 hsz hk=>wpAny_pyIter_enum hE ?_
 refine⟨_,_,_,_,H1,rfl,I1.kept (t':=s1.toks) hk,yf (fun(h:@Eq Nat _ _)=>by lia) (fun(h:@Eq Nat _ _)=>by lia) (fun(h:@Eq Nat _ _)=>by lia),⟨⟨_,hE⟩,hi1⟩,fun c hc=>?_,q⟩
 have ge:s1.heap.objs.size<=c:=by
  simp only[aj,bt,or_false]at hc
  rcases hc with h|h<;>rw[h]<;>first|exact b6 _|exact Nat.le_add_right _ _
 exact I1.fpOk ge (I1.hok.fresh ge)
end
section
variable {X:Cx}
end
structure ClsM (K:PySem.W.Frag) (C:Addr) (m:Str) (f:Addr):Prop where
 ga:cY K (.ref C) "__getattribute__"=some (some (.builtin "type.__getattribute__"))
 rd:∃mc,PySem.W.readsIn K C mc=true/\PySem.W.findCls K (.ref C) mc m=some (.val (.ref f))
 kp:cZ K (.ref f)=true
section
variable {X:Cx} {CX:CXT} {k:Nat} {f C:Addr} {fd:FuncData} {ps:List Str} {sp:Sp} {dvs:List V} {ds:List Value} {E:XK} {m:Str} {pos apos:Pos} {e o:Expr} {es:List Expr} {t:TA}
end
section
variable {X:Cx}
end
section
variable {prog:Program} {w:World} {A:Around} {E:Value->Shared->Prop} {s:Shared}
theorem CY {j t:Addr} {i:Nat} {its} {x:Value} {Q:Value->Shared->Prop} (g:s.heap.IsTupleIter j t i) (d:s.heap.IsTuple t its) (e:its[i]?=some x)
  (k:∀h',h'.IsTupleIter j t (i+ 1)->Heap.SameBut j s.heap h'->Q x {s with heap:=h'}):wpAny (model prog w) A (Builtin.SmallTypes.nextOf (.ref j)) Q E s:=by
 obtain⟨og,gg,gc,gd⟩:=id g
 obtain⟨od,dd,_,dn,de⟩:=d
 unfold Builtin.SmallTypes.nextOf
 refine wpAny_bind (wpAny_callSpecial?_slot (name:=Str.ofString "__next__") g.typeIs F.slot_tuple_iterator_next (wpAny_call_entry F.slot_tuple_iterator_next g.typeIs F.entry_tuple_iterator_next ?_ (F.args_tuple_iterator_next_1 _)))
 show wpAny _ _ (field (.ref j) 0 >>= _) _ _ s
 refine wpAny_bind (wpAny_field gg gd (x:= .ref t) rfl ?_)
 show wpAny _ _ (if(Value.ref t==Value.none)=true then _ else _) _ _ s
 rw[if_neg (show ¬((Value.ref t==Value.none)=true)from fun q=>nomatch q)]
 show wpAny _ _ (field (.ref j) 1 >>= _) _ _ s
 refine wpAny_bind (wpAny_field gg gd (x:= .int i 0) rfl ?_)
 refine wpAny_bind (wpAny_seqItems dd de ?_)
 simp only[d6,e]
 refine wpAny_bind (wpAny_setField gg gd (by simp) (wpAny_pure ⟨x,rfl,wpAny_pure (k _ ?_ (Heap.SameBut.update ..))⟩))
 exact⟨_,eM _ gg (Obj.isFreed_of_fields (Obj.data_mapFields gd _)),(Obj.cls_mapFields ..).trans gc,by rw[Obj.data_mapFields gd];simp[rawInt]⟩
theorem wA {j t:Addr} {i:Nat} {its} {Q:Value->Shared->Prop} (hh:A.handled=none) (g:s.heap.IsTupleIter j t i) (d:s.heap.IsTuple t its) (e:its[i]?=none)
  (k:∀h' x,Heap.ExtBut j s.heap h'->(∃o,h'.get? x=some o/\o.cls= .type "StopIteration")->E (.ref x) {s with heap:=h'}):wpAny (model prog w) A (Builtin.SmallTypes.nextOf (.ref j)) Q E s:=by
 obtain⟨og,gg,gc,gd⟩:=id g
 obtain⟨od,dd,_,dn,de⟩:=d
 unfold Builtin.SmallTypes.nextOf
 refine wpAny_bind (wpAny_callSpecial?_slot (name:=Str.ofString "__next__") g.typeIs F.slot_tuple_iterator_next (wpAny_call_entry F.slot_tuple_iterator_next g.typeIs F.entry_tuple_iterator_next ?_ (F.args_tuple_iterator_next_1 _)))
 show wpAny _ _ (field (.ref j) 0 >>= _) _ _ s
 refine wpAny_bind (wpAny_field gg gd (x:= .ref t) rfl ?_)
 show wpAny _ _ (if(Value.ref t==Value.none)=true then _ else _) _ _ s
 rw[if_neg (show ¬((Value.ref t==Value.none)=true)from fun q=>nomatch q)]
 show wpAny _ _ (field (.ref j) 1 >>= _) _ _ s
 refine wpAny_bind (wpAny_field gg gd (x:= .int i 0) rfl ?_)
 refine wpAny_bind (wpAny_seqItems dd de ?_)
 simp only[d6,e]
 refine wpAny_bind (wpAny_rule (wpAny_bind (wpAny_setField gg gd (by simp) ?_)))
 show wpAny _ _ (newExc (.type "StopIteration") [] >>= _) _ _ _
 refine wpAny_bind ?_
 simp only[newExc,newTuple]
 refine wpAny_bind (wpAny_newObj_type ?_ (by size_fits))
 refine wpAny_bind (m:=firstArgMember _ _) (wpAny_of_eq (a:=Value.none) (by first|rfl|(unfold firstArgMember;rfl)) ?_)
 refine wpAny_newObj_type ?_ (by size_fits)
 simp only[raiseNew]
 refine wpAny_bind (wpAny_handled ?_)
 first|rw[hh]|rw[show A.in1.handled=none from hh]
 exact wpAny_bind (wpAny_pure (wpAny_throw (k _ _ (((Heap.SameBut.update ..).extBut.push _).push _) ⟨_,eJ _ rfl,rfl⟩)))
end
section
variable {prog:Program} {w:World} {A:Around} {E:Value->Shared->Prop} {s:Shared}
end
theorem SqT.old {X:Cx} {pins:List (Addr×Obj)} {σ:St} {H:Hp} {s:Shared} {a:Addr} {xs:List V} (I:Inv X pins σ H s) (h:SqT X.K H a xs):a<s.heap.objs.size:=by
 obtain⟨its,_,p,_⟩:=I.tuple h
 obtain⟨o,e,_⟩:=p
 exact eI e
section
variable {X:Cx}
end
section
variable {prog:Program} {w:World} {A:Around} {E:Value->Shared->Prop} {s:Shared}
end
inductive Prs (H:Hp):List V->List (Str×V)->Prop
 |nil:Prs H [] []
 |cons {a:Addr} {p:Str×V} {l:List V} {m:List (Str×V)}:H a=some (.tup [.str p.1,p.2])->Prs H l m->Prs H (.ref a::l) (p::m)
theorem mB:entryFor table "dict.update.loop"=some Builtin.«dict.update.loop»:=entryFor_of_tree (by kernel_rfl)
def kf (p:Str×V):Key×V:=(Sum.inr p.1,p.2)
section
variable {X:Cx} {pins:List (Addr×Obj)} {σ:St} {H:Hp} {d it t:Addr} {vs:List V} {A:Around} {R:Result->Shared->Prop}
end
section
variable {X:Cx}
end
end L2.Internal
namespace BO.Internal
open PySem L2.Internal
def rIsi (K:PySem.W.Frag):List V->Hp->VK->Prop:=fun xs H Q=>∃x v c t b,xs=[x,v]/\(∀u,iw v u->u=c)/\sk K H x t/\c9 K t c=some b/\Q (.bl b) H
theorem eX {H:Hp} {p:Addr} (h:H p=none) (o:HO):fK H (upd H p o):=fun b u q=>by rw[fe (fb q h)];exact q
def flN:V->Bool
 | .non=>true
 | .int _=>true
 | .str _=>true
 |_=>false
mutual
inductive Im (H:Hp):V->Dt->Prop where
 |flat {v:V} (h:flN v=true):Im H v (.flat v)
 |tup {a:Addr} {xs:List V} {ds:List Dt} (h:H a=some (.tup xs)) (hs:Ims H xs ds):Im H (.ref a) (.tup ds)
inductive Ims (H:Hp):List V->List Dt->Prop where
 |nil:Ims H [] []
 |cons {x:V} {d:Dt} {xs:List V} {ds:List Dt} (h:Im H x d) (hs:Ims H xs ds):Ims H (x::xs) (d::ds)
end
mutual
inductive Dta (H:Hp):V->Dt->Prop where
 |flat {v:V} (h:flN v=true):Dta H v (.flat v)
 |tup {a:Addr} {xs:List V} {ds:List Dt} (h:H a=some (.tup xs)) (hs:Az H xs ds):Dta H (.ref a) (.tup ds)
 |lst {a:Addr} {xs:List V} {ds:List Dt} (h:H a=some (.lst xs)) (hs:Az H xs ds):Dta H (.ref a) (.lst ds)
inductive Az (H:Hp):List V->List Dt->Prop where
 |nil:Az H [] []
 |cons {x:V} {d:Dt} {xs:List V} {ds:List Dt} (h:Dta H x d) (hs:Az H xs ds):Az H (x::xs) (d::ds)
end
def TK (H H':Hp):Prop:=∀a xs,H a=some (.tup xs)->H' a=some (.tup xs)
theorem fK.tk {H H':Hp} (s:fK H H'):TK H H':=fun a xs e=>s a _ e
mutual
theorem Im.mono {H H':Hp} (k:TK H H'):∀{v:V} {d:Dt},Im H v d->Im H' v d
 |_,_,.flat h=> .flat h
 |_,_,.tup h hs=> .tup (k _ _ h) (Ims.mono k hs)
theorem Ims.mono {H H':Hp} (k:TK H H'):∀{v:List V} {d:List Dt},Ims H v d->Ims H' v d
 |_,_,.nil=> .nil
 |_,_,.cons h hs=> .cons (Im.mono k h) (Ims.mono k hs)
end
theorem Ims.length {H:Hp}:∀{xs:List V} {ds:List Dt},Ims H xs ds->xs.length=ds.length
 |_,_,.nil=>rfl
 |_,_,.cons _ t=>by rw[az,az,Ims.length t]
theorem Az.get {H:Hp}:∀{xs:List V} {ds:List Dt} {j:Nat} {x:V},Az H xs ds->xs[j]?=some x->∃d,ds[j]?=some d/\Dta H x d
 |_,_,0,_,.cons h _,e=>⟨_,rfl,by cases e;exact h⟩
 |_,_,j+ 1,_,.cons _ t,e=>by
  rw[bw]at e
  obtain⟨d,e1,e2⟩:=Az.get t e
  exact⟨d,by rw[bw];exact e1,e2⟩
theorem Ims.app {H:Hp}:∀{xs ys:List V} {ds es:List Dt},Ims H xs ds->Ims H ys es->Ims H (xs++ys) (ds++es)
 |_,_,_,_,.nil,h=>h
 |_,_,_,_,.cons a b,h=> .cons a (Ims.app b h)
inductive xa {α β:Type} (F:α->β->Prop):List α->List β->Prop
 |nil:xa F [] []
 |cons {a:α} {b:β} {l:List α} {m:List β}:F a b->xa F l m->xa F (a::l) (b::m)
theorem xa.imp {α β:Type} {F G:α->β->Prop} (f:∀a b,F a b->G a b):∀{l:List α} {m:List β},xa F l m->xa G l m
 |_,_,.nil=> .nil
 |_,_,.cons h t=> .cons (f _ _ h) (xa.imp f t)
theorem xa.get {α β:Type} {F:α->β->Prop}:∀{l:List α} {m:List β} {j:Nat} {x:α},xa F l m->l[j]?=some x->∃y,m[j]?=some y/\F x y
 |_,_,0,_,.cons h _,e=>⟨_,rfl,by cases e;exact h⟩
 |_,_,j+ 1,_,.cons _ t,e=>by
  rw[bw]at e
  obtain⟨d,e1,e2⟩:=xa.get t e
  exact⟨d,by rw[bw];exact e1,e2⟩
mutual
def okD:Dt->Prop
 | .flat _=>True
 | .tup l=>l.length<=100000/\Ez l
 | .lst l=>l.length<=100000/\Ez l
def Ez:List Dt->Prop
 |[]=>True
 |x::xs=>okD x/\Ez xs
end
def prL (p:Str×Int):Dt:= .tup [.flat (.str p.1),.flat (.int p.2)]
def prD (l:List (Str×Int)):Dt:= .tup (l.map prL)
inductive Us where
 |num (a p s:Int)
 |call (a p s x y:Int)
 |take (a p s:Int) (l:List (Str×Int))
 |case (a p s:Int) (l:List (Str×Int))
 |row (a p s x:Int)
def hdD (n:Str) (a p s:Int):List Dt:=[.flat (.str n),.flat (.int a),.flat (.int p),.flat (.int s)]
def Us.d:Us->Dt
 | .num a p s=> .tup (hdD "num" a p s)
 | .call a p s x y=> .tup (hdD "call" a p s++[.flat (.int x),.flat (.int y)])
 | .take a p s l=> .tup (hdD "take" a p s++[prD l])
 | .case a p s l=> .tup (hdD "case" a p s++[prD l])
 | .row a p s x=> .tup (hdD "row" a p s++[.flat (.int x)])
structure Mkg where
 s:Str
 f:Dt
 a:Int
 p:Int
def Mkg.d (m:Mkg):Dt:= .tup [.flat (.str m.s),m.f,.flat (.int m.a),.flat (.int m.p)]
def fU (a p s:V):List (Str×V):=[("at",a),("place",p),("slot",s)]
def fU1 (n:Str) (a p s x:V):List (Str×V):=[("at",a),("place",p),("slot",s),(n,x)]
def fU2 (a p s x y:V):List (Str×V):=[("at",a),("place",p),("slot",s),("arg",x),("out",y)]
def fM (s f a p:V):List (Str×V):=[("shape",s),("parts",f),("at",a),("place",p)]
def fB (p0 p1 p2 p3:Addr) (r:V):List (Str×V):=[("points",.ref p0),("makes",.ref p1),("uses",.ref p2),("flows",.ref p3),("root",r)]
structure Cs where
 M:Addr
 N:Addr
 C:Addr
 T:Addr
 K:Addr
 R:Addr
 B:Addr
def CZ (c:Cs) (H:Hp) (v:V):Us->Prop
 | .num a p s=>∃x dx,v= .ref x/\H x=some (.ins c.N dx (fU (.int a) (.int p) (.int s)))
 | .call a p s y z=>∃x dx,v= .ref x/\H x=some (.ins c.C dx (fU2 (.int a) (.int p) (.int s) (.int y) (.int z)))
 | .take a p s l=>∃x dx f,v= .ref x/\H x=some (.ins c.T dx (fU1 "fields" (.int a) (.int p) (.int s) f))/\Im H f (prD l)/\l.length<=10
 | .case a p s l=>∃x dx f,v= .ref x/\H x=some (.ins c.K dx (fU1 "arms" (.int a) (.int p) (.int s) f))/\Im H f (prD l)/\l.length<=10
 | .row a p s y=>∃x dx,v= .ref x/\H x=some (.ins c.R dx (fU1 "out" (.int a) (.int p) (.int s) (.int y)))
def C0 (c:Cs) (H:Hp) (v:V) (m:Mkg):Prop:=∃x dx f,v= .ref x/\H x=some (.ins c.M dx (fM (.str m.s) f (.int m.a) (.int m.p)))/\Im H f m.f/\sq m.f<=2/\okD m.f
def Fz:HO->Prop
 | .tup _=>True
 | .ins _ _ fs=>fs.length≠5\/∃v r,fs=(("at":Str),v)::r
 |_=>False
def FK (H H':Hp):Prop:=∀a o,H a=some o->Fz o->H' a=some o
theorem FK.tk {H H':Hp} (k:FK H H'):TK H H':=fun a xs e=>k a _ e trivial
theorem FK.trans {H H1 H2:Hp} (a:FK H H1) (b:FK H1 H2):FK H H2:=fun c o e f=>b c o (a c o e f) f
theorem CZ.mono {c:Cs} {H H':Hp} {v:V} (k:FK H H'):∀{u:Us},CZ c H v u->CZ c H' v u
 | .num _ _ _,⟨x,dx,e,h⟩=>⟨x,dx,e,k _ _ h (.inr ⟨_,_,rfl⟩)⟩
 | .call _ _ _ _ _,⟨x,dx,e,h⟩=>⟨x,dx,e,k _ _ h (.inr ⟨_,_,rfl⟩)⟩
 | .take _ _ _ _,⟨x,dx,f,e,h,i,n⟩=>⟨x,dx,f,e,k _ _ h (.inr ⟨_,_,rfl⟩),i.mono k.tk,n⟩
 | .case _ _ _ _,⟨x,dx,f,e,h,i,n⟩=>⟨x,dx,f,e,k _ _ h (.inr ⟨_,_,rfl⟩),i.mono k.tk,n⟩
 | .row _ _ _ _,⟨x,dx,e,h⟩=>⟨x,dx,e,k _ _ h (.inr ⟨_,_,rfl⟩)⟩
theorem C0.mono {c:Cs} {H H':Hp} {v:V} {m:Mkg} (k:FK H H'):C0 c H v m->C0 c H' v m
 |⟨x,dx,f,e,h,i,d⟩=>⟨x,dx,f,e,k _ _ h (.inl (by show 4≠5;decide)),i.mono k.tk,d⟩
theorem yh {J:It} {i:Nat} {te:TE} {Q:VK} {τ:St} {H1:Hp} {D:Addr} (n:Nat) (hn:n<sizeLine) (R:List V->Hp->Prop) (hR:∀xs H H',R xs H->TK H H'->R xs H') (hD:H1 D=none) (hτ:τ.set i none=τ)
  (hgo:∀k H,fK H1 H->k<n->J.go k H) (hst:∀H,fK H1 H->J.stop n H) (h0:R [] H1)
  (step:∀k H v H3 xs (Z:VK),fK H1 H->k<n->J.yld k H v H3->R xs H->xs.length=k->(∀y H5,fK H H5->R (xs++[y]) H5->Z y H5)->te (τ.set i (some v)) H3 Z)
  (hq:∀H' xs,fK H1 H'->R xs H'->xs.length=n->H' D=some (.lst xs)->Q (.ref D) H'):LcP J i ph te Q τ H1 D:=by
 have nd:∀(H5:Hp) (xs ys:List V),H5 D=some (.lst xs)->TK H5 (upd H5 D (.lst ys)):=fun H5 xs ys e a zs q=>by rw[fe (kc q e (fun z=>nomatch z))];exact q
 have up:∀{H:Hp} (o:HO),fK H1 H->fK H1 (upd H D o):=fun{H} o S b u e=>by rw[fe (fb e hD)];exact S b u e
 refine⟨fun k m σ' H2=>m=n-k/\k<=n/\(∃o,σ'=τ.set i o)/\fK H1 H2/\∃xs,H2 D=some (.lst xs)/\xs.length=k/\R xs H2,⟨n,by simp,b7 _,⟨none,hτ.symm⟩,eX hD _,[],eV,rfl,hR _ _ _ h0 (fK.tk (eX hD _))⟩,?_⟩
 rintro k m σ' H2 ⟨rfl,hk,⟨o,rfl⟩,S,xs,e,hl,hr⟩
 by_cases hlt:k<n
 ·refine .inr ⟨hgo k H2 S hlt,fun v H3 y=>?_⟩
  rw[bc]
  refine step k H2 v H3 xs _ S hlt y hr hl fun y H5 S5 r5=>?_
  refine⟨xs,S5 D _ e,by lia,n-(k+ 1),by lia,rfl,hlt,⟨some v,rfl⟩,up _ (S.trans S5),xs++[y],eV,by rw[aN,hl];rfl,hR _ _ _ r5 (nd H5 _ _ (S5 D _ e))⟩
 ·have e1:k=n:=by lia
  subst e1
  exact .inl ⟨hst H2 S,hq H2 xs S hr hl e⟩
theorem AA {K:PySem.W.Frag} {a:Addr} {xs:List V} {k:Nat} {H1 H:Hp} (e:H1 a=some (.lst xs)) (S:fK H1 H) (h:k<xs.length):(Itl K a).go k H:=⟨xs,xs[k],SqL.of (S a _ e),bq h⟩
theorem AB {K:PySem.W.Frag} {a:Addr} {xs:List V} {H1 H:Hp} (e:H1 a=some (.lst xs)) (S:fK H1 H):(Itl K a).stop xs.length H:=⟨xs,SqL.of (S a _ e),b6 _⟩
theorem AD {K:PySem.W.Frag} {a:Addr} {xs:List V} {k:Nat} {H1 H:Hp} (e:H1 a=some (.tup xs)) (S:fK H1 H) (h:k<xs.length):(Itt K a).go k H:=⟨xs,xs[k],SqT.of (S a _ e),bq h⟩
theorem AE {K:PySem.W.Frag} {a:Addr} {xs:List V} {H1 H:Hp} (e:H1 a=some (.tup xs)) (S:fK H1 H):(Itt K a).stop xs.length H:=⟨xs,SqT.of (S a _ e),b6 _⟩
inductive Ls (H:Hp):List Addr->List (List V)->Prop
 |nil:Ls H [] []
 |cons {a:Addr} {c:List V} {l:List Addr} {m:List (List V)}:H a=some (.lst c)->Ls H l m->Ls H (a::l) (c::m)
theorem Ls.frame {H H':Hp} {M:List Addr} (k:∀a o,H a=some o->a∉M->H' a=some o):∀{l:List Addr} {m:List (List V)},Ls H l m->(∀a∈l,a∉M)->Ls H' l m
 |_,_,.nil,_=> .nil
 |_,_,.cons (a:=a) h t,n=> .cons (k _ _ h (n a (by simp))) (Ls.frame k t fun b hb=>n b (by simp[hb]))
theorem Ls.get {H:Hp}:∀{l:List Addr} {m:List (List V)} {i:Nat} {a:Addr},Ls H l m->l[i]?=some a->∃c,m[i]?=some c/\H a=some (.lst c)
 |_,_,0,_,.cons h _,e=>⟨_,rfl,by cases e;exact h⟩
 |_,_,j+ 1,_,.cons _ t,e=>by
  rw[bw]at e
  obtain⟨d,e1,e2⟩:=Ls.get t e
  exact⟨d,by rw[bw];exact e1,e2⟩
structure Sd where
 b:Addr
 dx:Addr
 p0:Addr
 p1:Addr
 p2:Addr
 p3:Addr
 d:Addr
 q0:Addr
 q1:Addr
 q2:Addr
 q3:Addr
def Sd.ls (S:Sd):List Addr:=[S.p0,S.p1,S.p2,S.p3,S.d,S.q0,S.q1,S.q2,S.q3]
structure Bd where
 pts:List Int
 mks:List Mkg
 uss:List Us
 fls:List (Int×Int)
 root:Int
def flD (p:Int×Int):Dt:= .tup [.flat (.int p.1),.flat (.int p.2)]
structure BSx (c:Cs) (H:Hp) (S:Sd) (E D:Bd):Prop where
 nd:S.ls.Nodup
 ob:H S.b=some (.ins c.B S.dx (fB S.p0 S.p1 S.p2 S.p3 (.int D.root)))
 st:∃mv uv fv mv' uv' fv':List V,Ls H S.ls [D.pts.map V.int,mv,uv,fv,[.ref S.q0,.ref S.q1,.ref S.q2,.ref S.q3,.int E.root],E.pts.map V.int,mv',uv',fv']/\
  xa (C0 c H) mv D.mks/\xa (CZ c H) uv D.uss/\Ims H fv (D.fls.map flD)/\Ims H mv' (E.mks.map Mkg.d)/\Ims H uv' (E.uss.map Us.d)/\Ims H fv' (E.fls.map flD)
theorem Ls.at {H:Hp} {l:List Addr} {m:List (List V)} (L:Ls H l m) {i:Nat} {a:Addr} {c:List V} (h1:l[i]?=some a) (h2:m[i]?=some c):H a=some (.lst c):=by
 obtain⟨d,e1,e2⟩:=L.get h1
 rw[h2]at e1
 cases e1
 exact e2
theorem vE {H:Hp} {a:Addr} {xs:List V} {o:HO} (h:H a=some (.lst xs)):FK H (upd H a o):=fun b u e f=>by
 rw[fe (kc e h (fun z=>by rw[z]at f;exact f))]
 exact e
section
variable {c:Cs} {H H':Hp} {S:Sd} {E D:Bd}
theorem BSx.frame {M:List Addr} (B:BSx c H S E D) (k:∀a o,H a=some o->a∉M->H' a=some o) (hb:S.b∉M) (hl:∀a∈S.ls,a∉M) (fk:FK H H'):BSx c H' S E D:=by
 obtain⟨nd,ob,mv,uv,fv,mv',uv',fv',L,h1,h2,h3,h4,h5,h6⟩:=B
 exact⟨nd,k _ _ ob hb,mv,uv,fv,mv',uv',fv',L.frame k hl,h1.imp fun _ _=>C0.mono fk,h2.imp fun _ _=>CZ.mono fk,h3.mono fk.tk,h4.mono fk.tk,h5.mono fk.tk,h6.mono fk.tk⟩
end
theorem BSx.hl {c:Cs} {H:Hp} {S:Sd} {E D:Bd} {l:Addr} {xs:List V} {o:HO} (B:BSx c H S E D) (hn:l∉S.ls) (e:H l=some (.lst xs)):BSx c (upd H l o) S E D:=by
 refine B.frame (M:=[l]) (fun a u q n=>?_) (fun z=>?_) (fun a ha z=>?_) (vE e)
 ·rw[fe (fun z=>n (by simp[z]))];exact q
 ·have z':S.b=l:=by simpa using z
  have q:=B.ob
  rw[z',e]at q
  cases q
 ·have z':a=l:=by simpa using z
  rw[z']at ha
  exact hn ha
def Frm (M:List Addr) (H H':Hp):Prop:=∀a o,H a=some o->a∉M->H' a=some o
theorem Frm.trans {M:List Addr} {H H1 H2:Hp} (a:Frm M H H1) (b:Frm M H1 H2):Frm M H H2:=fun c o e n=>b c o (a c o e n) n
def lk:List (Str×Int)->Str->Option Int
 |[],_=>none
 |p::t,w=>if p.1=w then some p.2 else lk t w
inductive Mf where
 |num
 |fn (x y:Int)
 |rcd (l:List (Str×Int))
 |tag (w:Str) (x:Int)
 |row (x:Int)
 |any
def Mf.s:Mf->Str
 | .num=>"num"
 | .fn _ _=>"fn"
 | .rcd _=>"rec"
 | .tag _ _=>"tag"
 | .row _=>"row"
 | .any=>"any"
def Mf.f:Mf->Dt
 | .num=> .tup []
 | .fn x y=> .tup [.flat (.int x),.flat (.int y)]
 | .rcd l=>prD l
 | .tag w x=> .tup [.flat (.str w),.flat (.int x)]
 | .row x=> .tup [.flat (.int x)]
 | .any=> .tup []
def fnd (m:List (Str×Int)) (p:Str×Int):Option (Int×Int):=(lk m p.1).map fun x=>(x,p.2)
def taken (l m:List (Str×Int)):Option (List (Int×Int)):=if(l.filterMap (fnd m)).length=l.length then some (l.filterMap (fnd m))else none
end BO.Internal
namespace L2.Internal
open PySem PySem.Spec PyProof.Rows
section
variable {X:Cx} {e a b o f:Expr} {st:Stmt} {ta tb td ty tx to:TE} {pos apos cpos:Pos}
theorem PE.weak {t t':TE} (h:PE X e t) (m:∀σ H Q,t' σ H Q->t σ H Q):PE X e t':=fun pins s σ H Q I q=>h pins s σ H Q I (m σ H Q q)
theorem PT.weak {t t':TT} (h:PT X e t) (m:∀σ H Q,t' σ H Q->t σ H Q):PT X e t':=fun pins s σ H Q I q=>h pins s σ H Q I (m σ H Q q)
theorem PS.weak {t t':TS} (h:PS X st t) (m:∀D σ H,t' D σ H->t D σ H):PS X st t':=fun pins s σ H D I q=>h pins s σ H D I (m D σ H q)
theorem OpR.weak {g:Value->Value->Sem Value} {r r':R2} (h:OpR X g r) (m:∀x y H Q,r' x y H Q->r x y H Q):OpR X g r':=fun pins s σ H x y v u Q I rx ry q=>h pins s σ H x y v u Q I rx ry (m x y H Q q)
theorem IxR.weak {r r':R2} (h:IxR X r) (m:∀x y H Q,r' x y H Q->r x y H Q):IxR X r':=fun value slice pins s σ H x y v u Q I rx ry q hs=>h value slice pins s σ H x y v u Q I rx ry (m x y H Q q) hs
def mT (t:TE):TE:=fun σ H Q=>∃Q0:VK,t σ H Q0/\∀x H1,Q0 x H1->Q x H1
theorem PE.mono {t:TE} (h:PE X e t):PE X e (mT t):=fun pins s σ H Q I ⟨Q0,h0,m⟩=>thn (h pins s σ H Q0 I h0) fun v s1 ⟨x,H1,I1,r1,q1⟩=>⟨x,H1,I1,r1,m x H1 q1⟩
def mR (r:R2):R2:=fun x y H Q=>∃Q0:VK,r x y H Q0/\∀x H1,Q0 x H1->Q x H1
theorem OpR.mono {g:Value->Value->Sem Value} {r:R2} (h:OpR X g r):OpR X g (mR r):=fun pins s σ H x y v u Q I rx ry ⟨Q0,h0,m⟩=>thn (h pins s σ H x y v u Q0 I rx ry h0) fun v s1 ⟨x,H1,I1,r1,q1⟩=>⟨x,H1,I1,r1,m x H1 q1⟩
def onV:Option (Option V)->(V->Prop)->Prop
 |some (some v),k=>k v
 |_,_=>False
def onS {α:Type}:Option α->(α->Prop)->Prop
 |some v,k=>k v
 |none,_=>False
theorem fg {α:Type} {x:Option α} {v:α} {k:α->Prop} (h:x=some v) (q:k v):onS x k:=by rw[h];exact q
theorem AF {α:Type} {x:Option α} {k:α->Prop} (h:onS x k):∃v,x=some v/\k v:=by
 cases x with
 |none=>exact h.elim
 |some v=>exact⟨v,rfl,h⟩
def cV (i:Nat):TE:=fun σ H Q=>onV σ[i]? fun v=>Q v H
theorem cv (i:Nat) {x:Str} {pos:Pos} (hN:autoParam (X.N[i]?=some x) L2.Internal.auR._auto_1) (hv:Vis X.env.scope x:=by first|exact Or.inl rfl|exact Or.inr (.inl rfl)|exact Or.inr (.inr rfl)) (hd:autoParam ((x==("__debug__":Str))=false) L2.Internal.auD._auto_1)
  (hcd:autoParam ((x==("__classdict__":Str))=false) L2.Internal.auD._auto_1):PE X (.Name x pos) (cV i):=(pv i hN hv hd hcd).weak fun σ H Q h=>by
 unfold cV at h
 cases q:σ[i]? with
 |none=>rw[q]at h;exact h.elim
 |some o=>
  rw[q]at h
  cases o with
  |none=>exact h.elim
  |some v=>exact⟨v,q,h⟩
def cI0 (g:Int->Int->V):R2:=fun x y H Q=>match x,y with
 | .int i,.int j=>Q (g i j) H
 |_,_=>False
def cI (C:Int->Int->Prop) (g:Int->Int->V):R2:=fun x y H Q=>match x,y with
 | .int i,.int j=>C i j/\Q (g i j) H
 |_,_=>False
theorem sY {g:Int->Int->V}:∀x y H Q,cI0 g x y H Q->rI0 g x y H Q:=fun x y H Q h=>by
 unfold cI0 at h
 split at h
 ·exact⟨_,_,rfl,rfl,h⟩
 ·exact h.elim
theorem zA {C:Int->Int->Prop} {g:Int->Int->V}:∀x y H Q,cI C g x y H Q->rI C g x y H Q:=fun x y H Q h=>by
 unfold cI at h
 split at h
 ·exact⟨_,_,rfl,rfl,h.1,h.2⟩
 ·exact h.elim
theorem kQ:OpR X (binaryOp .Add) (cI0 fun i j=> .int (i+j)):=Al.weak sY
theorem lV:OpR X (binaryOp .Sub) (cI0 fun i j=> .int (i-j)):=Ct.weak sY
theorem lW:OpR X (binaryOp .Mult) (cI Cr fun i j=> .int (i*j)):=Cu.weak zA
theorem pz:OpR X (binaryOp .FloorDiv) (cI Fv fun i j=> .int (i/j)):=A5.weak zA
theorem kR:OpR X (binaryOp .Mod) (cI (fun _ j=>0<j) fun i j=> .int (i%j)):=Cv.weak zA
theorem n9:OpR X (binaryOp .Pow) (cI Fw fun i j=> .int (i^j.toNat)):=Cw.weak zA
theorem BB:OpR X (compareOp .Lt) (cI0 fun i j=> .bl (decide (i<j))):=Ee.weak sY
theorem sZ:OpR X (compareOp .Gt) (cI0 fun i j=> .bl (decide (j<i))):=A6.weak sY
theorem EA:OpR X (compareOp .GtE) (cI0 fun i j=> .bl (decide (j<=i))):=Ef.weak sY
def cEq (n:Bool):R2:=fun x y H Q=>match x,y with
 | .int i,.int j=>Q (.bl (xor n (decide (i=j)))) H
 | .str i,.str j=>Q (.bl (xor n (decide (i=j)))) H
 |_,_=>False
theorem FH {i j:Str}:decide (V.str i=V.str j)=decide (i=j):=by
 rw[dO]
 simp
theorem FI {i j:Int}:decide (V.int i=V.int j)=decide (i=j):=by
 rw[dO]
 simp
theorem ki:OpR X (compareOp .Eq) (cEq false):=qS.weak fun x y H Q h=>by
 unfold cEq at h
 split at h
 ·refine⟨rfl,?_⟩;rw[FI];rw[dR]at h;exact h
 ·refine⟨rfl,?_⟩;rw[FH];rw[dR]at h;exact h
 ·exact h.elim
theorem mK:OpR X (compareOp .NotEq) (cEq true):=mH.weak fun x y H Q h=>by
 unfold cEq at h
 split at h
 ·refine⟨rfl,?_⟩;rw[FI];rw[dS]at h;exact h
 ·refine⟨rfl,?_⟩;rw[FH];rw[dS]at h;exact h
 ·exact h.elim
def onB:V->(Bool->Prop)->Prop
 | .bl k,q=>q k
 |_,_=>False
theorem C2 {x:V} {k:Bool->Prop} (h:onB x k):∃c,x= .bl c/\k c:=by
 cases x<;>first|exact⟨_,rfl,h⟩|exact h.elim
def cT (t:TE):TT:=fun σ H Q=>t σ H fun x H'=>onB x fun k=>Q k H'
theorem fz {op:CmpOp} {r:R2} (ho:OpR X (compareOp op) r) (ha:PE X a ta) (hb:PE X b tb) (hm:behindInMarks op b=false):PT X (.Compare a [op] [b] pos) (cT (tOp r ta tb)):=
 (iR ho.mono ha.mono hb.mono hm).weak fun σ H Q h=>⟨_,h,fun x H1 h1=>⟨_,h1,fun y H2 h2=>⟨_,h2,fun z H' h3=>C2 h3⟩⟩⟩
def FJ:R2:=fun x y H Q=>match x,y with
 | .ref p,.int i=>∃xs,H p=some (.lst xs)/\onS (atI xs i) fun v=>Q v H
 |_,_=>False
def Cb:R2:=fun x y H Q=>match x,y with
 | .ref p,.int i=>∃xs,H p=some (.tup xs)/\onS (atI xs i) fun v=>Q v H
 |_,_=>False
theorem f7:IxR X FJ:=uB.weak fun x y H Q h=>by
 unfold FJ at h
 split at h
 ·obtain⟨xs,e,h⟩:=h
  obtain⟨v,ev,h⟩:=AF h
  exact⟨_,xs,_,v,rfl,rfl,SqL.of e,ev,h⟩
 ·exact h.elim
theorem fq:IxR X Cb:=CK.weak fun x y H Q h=>by
 unfold Cb at h
 split at h
 ·obtain⟨xs,e,h⟩:=h
  obtain⟨v,ev,h⟩:=AF h
  exact⟨_,xs,_,v,rfl,rfl,SqT.of e,ev,h⟩
 ·exact h.elim
def Fd (H:Hp) (a C:Addr) (f:Str) (v:V):Prop:=∃dx fs,H a=some (.ins C dx fs)/\fs.lookup f=some v
def Nf (H:Hp) (a C:Addr) (m:Str):Prop:=∃dx fs,H a=some (.ins C dx fs)/\fs.lookup m=none
def AG (C:Addr) (f:Str) (ta:TE):TE:=fun σ H Q=>ta σ H fun x H1=>match x with
 | .ref a=>∃v,Fd H1 a C f v/\Q v H1
 |_=>False
theorem fN {C:Addr} {f:Str} (c:Cls X.K C) (n:hZ X.K C f) (he:PE X e ta) (hb:autoParam (attributeBase e f X.env (eval e X.env)=eval e X.env) L2.Internal.auR._auto_1):PE X (.Attribute e f pos) (AG C f ta):=
 (m9 he.mono hb).weak fun σ H Q h=>⟨_,h,fun x H1 h1=>by
  cases x with
  |ref a=>
   obtain⟨v,⟨dx,fs,ea,ev⟩,q⟩:=h1
   exact⟨a,C,dx,fs,v,rfl,ea,c,n,ev,q⟩
  |_=>exact h1.elim⟩
def EB (C:Addr) (m:Str) (sp:Sp) (dvs:List V) (E:XK) (ta:TE) (t:TA):TE:=fun σ H Q=>ta σ H fun x H1=>match x with
 | .ref a=>Nf H1 a C m/\t σ H1 fun vs H2=>sp (.ref a::(vs++dvs)) H2 Q E
 |_=>False
theorem f6 {C:Addr} {m:Str} {sp:Sp} {dvs:List V} {E:XK} {t:TA} (h:PE X e (Bf C m sp dvs E (mT ta) t)):PE X e (EB C m sp dvs E ta t):=h.weak fun σ H Q h=>⟨_,h,fun x H1 h1=>by
  cases x with
  |ref a=>
   obtain⟨⟨dx,fs,ea,l⟩,q⟩:=h1
   exact⟨a,dx,fs,rfl,ea,l,q⟩
  |_=>exact h1.elim⟩
def EC (C:Addr) (f:Str) (ta tv:TE):TS:=fun D σ H=>tv σ H fun y H1=>ta σ H1 fun x H2=>match x with
 | .ref a=>∃dx fs,H2 a=some (.ins C dx fs)/\fs.length<1000/\D.nx σ (upd H2 a (.ins C dx (jh f y fs)))
 |_=>False
theorem iD {C:Addr} {f:Str} {tv:TE} (c:Cls X.K C) (n:hZ X.K C f) (h:PS X st (Fy X.K (mT ta) (mT tv) f)):PS X st (EC C f ta tv):=h.weak fun D σ H h=>⟨_,h,fun y H1 h1=>⟨_,h1,fun x H2 h2=>by
  cases x with
  |ref a=>
   obtain⟨dx,fs,ea,l,q⟩:=h2
   exact⟨a,C,dx,fs,rfl,ea,c,n,l,q⟩
  |_=>exact h2.elim⟩⟩
def cS:R2:=fun x y H Q=>match x,y with
 | .str i,.str j=>i.length+j.length<=sizeLine/\Q (.str (i++j)) H
 |_,_=>False
theorem gv:OpR X (binaryOp .Add) cS:=qt.weak fun x y H Q h=>by
 unfold cS at h
 split at h
 ·exact⟨_,_,rfl,rfl,h.1,h.2⟩
 ·exact h.elim
def FL (to ta:TE):TE:=fun σ H Q=>to σ H fun x H1=>match x with
 | .ref l=>(∃xs,H1 l=some (.lst xs))/\ta σ H1 fun y H2=>∃xs,H2 l=some (.lst xs)/\xs.length<sizeLine/\Q .non (upd H2 l (.lst (xs++[y])))
 |_=>False
theorem ka (h:PE X e (tBM X.K "list" xP (mT to) (mI (mT ta) xD))):PE X e (FL to ta):=h.weak fun σ H Q h=>⟨_,h,fun x H1 h1=>by
  cases x with
  |ref l=>
   obtain⟨⟨xs,e⟩,q⟩:=h1
   exact⟨.inl ⟨rfl,xs,SqL.of e⟩,_,q,fun y H2 ⟨xs,e,hl,q2⟩=>⟨l,xs,y,rfl,rfl,e,hl,q2⟩⟩
  |_=>exact h1.elim⟩
end
end L2.Internal
namespace BO.Internal
open PySem L2.Internal
def wd:Bool->Str
 |true=>"goes"
 |false=>"here"
structure Rw where
 w:Bool
 a:Int
 b:Int
 y:Option (Int×Int)
def Rw.k (r:Rw):List Key:=[.inr (wd r.w),.inl r.a,.inl r.b]
def whyD:Option (Int×Int)->Dt
 |none=> .flat .non
 |some p=>flD p
def Rw.d (r:Rw):Dt:= .tup [.flat (.str (wd r.w)),.flat (.int r.a),.flat (.int r.b),whyD r.y]
structure DL (H:Hp) (d:Addr) (L:List Addr) (f:Int->List V) (k:Nat):Prop where
 ex:∃kvs:List (Key×V),H d=some (.dK kvs)/\kvs.length<=k/\(∀p,je kvs (.inl p)=none->f p=[])/\
  (∀p v,je kvs (.inl p)=some v->∃l,l∈L/\v= .ref l/\H l=some (.lst (f p)))/\(∀p q v,je kvs (.inl p)=some v->je kvs (.inl q)=some v->p=q)
def putf (f:Int->List V) (p:Int) (x:V):Int->List V:=fun q=>if q=p then f p++[x]else f q
structure Sda (H:Hp) (d:Addr) (L:List Addr) (f:Int->List V) (k:Nat) (p:Int) (l:Addr) (H1:Hp):Prop where
 here:H1 l=some (.lst (f p))
 fin:∀H2 x,fK H1 H2->∃L',(∀a∈L',a∈L\/a=l)/\DL (upd H2 l (.lst (f p++[x]))) d L' (putf f p x) (k+ 1)
 fr:∀a o,H a=some o->a≠d->H1 a=some o
 own:l∈L\/H l=none
theorem DL.get {H:Hp} {d:Addr} {L:List Addr} {f:Int->List V} {k:Nat} (W:DL H d L f k) (p:Int) {z:Addr} (hz:H z=none):
  ∃kvs l,(upd H z (.lst [])) d=some (.dK kvs)/\(je kvs (.inl p)).getD (.ref z)= .ref l/\(upd H z (.lst [])) l=some (.lst (f p))/\(l∈L\/H l=none):=by
 obtain⟨kvs,e,hl,h1,h2,h3⟩:=W
 have s:=eX hz (.lst [])
 cases ev:je kvs (.inl p)with
 |none=>exact⟨kvs,z,s _ _ e,by rw[ev];rfl,by rw[h1 p ev];exact eV,.inr hz⟩
 |some v=>
  obtain⟨l,m,rfl,el⟩:=h2 p v ev
  exact⟨kvs,l,s _ _ e,by rw[ev];rfl,s _ _ el,.inl m⟩
open Classical in
def putR (R:List Rw) (ρ:Rw):List Rw:=if ρ.k∈R.map Rw.k then R else R++[ρ]
def putsR (R l:List Rw):List Rw:=l.foldl putR R
end BO.Internal
namespace L2.Internal
open PySem PySem.Spec PyProof.Rows
section
variable {X:Cx}
end
def Itv (K:PySem.W.Frag) (a:Addr) (n:Nat):It:=
 ⟨fun i H=>i<n/\∃xs,SqL K H a xs/\xs.length=n,fun i H x H'=>H'=H/\∀xs,SqL K H a xs->xs[n-1-i]?=some x,fun i _=>i=n⟩
theorem zB {P:Program} {w:World} {K:PySem.W.Frag} {tg:Expr} (a it:Addr) (n:Nat):Ak P w K tg (Itv K a n) [it] it (fun i h=>h.IsRevIter it a ((n:Int)-1-(i:Int))) where
 mem:=by simp
 obj:=fun i h st b hb=>by
  have e:b=it:=by simpa using hb
  subst e
  obtain⟨o,e,c,d⟩:=st
  exact⟨o,e,fun v z=>by rw[d]at z;cases z⟩
 keep:=fun i h h' st k=>st.at fun o e=>k it (by simp) o e
 item:=by
  intro X hP hw hK hc i pins s σ H E I hf st hg
  subst hP hw hK
  obtain⟨hi,xs,hq,hn⟩:=hg
  obtain⟨its,rv,p,hz⟩:=I.list hq
  have hlt:n-1-i<xs.length:=by lia
  obtain⟨u,hu,ru⟩:=rv.get (bq hlt)
  obtain⟨f0,f1,f2,f3,f4,f5⟩:=hf it (by simp)
  have e:(n:Int)-1-(i:Int)=((n-1-i:Nat):Int):=by lia
  have st':=st
  rw[e]at st'
  refine wpAny_pyNext_rev_item st' p.isList (x:=u) (by simpa using hu) fun h' st2 sb=>?_
  have e2:((n-1-i:Nat):Int)-1=(n:Int)-1-((i+ 1:Nat):Int):=by lia
  rw[e2]at st2
  have I1:Inv X pins σ H {s with heap:=h'}:=I.turned (t':=s.toks) (fun b o hb e=>(sb.2 b hb).trans e) f0 f1 f3 f4 f5
  obtain⟨o,eo,c,d⟩:=id st2
  exact⟨u,rfl,xq (s:={s with heap:=h'}) eo c d (by decide) ⟨xs[n-1-i],H,I1,ru,⟨rfl,fun ys hy=>by rw[I.list_inj hy hq];exact bq hlt⟩,st2,fun b hb=>(hf b hb).1⟩⟩
 done:=by
  intro X hP hw hK hc i pins s σ H E I hf st hg
  subst hP hw hK
  have hi:i=n:=hg
  subst hi
  obtain⟨f0,f1,f2,f3,f4,f5⟩:=hf it (by simp)
  have e:(i:Int)-1-(i:Int)= -1:=by lia
  have st':=st
  rw[e]at st'
  exact wpAny_pyNext_rev_end (I.ok.hd hc) st' fun h' eb=>⟨rfl,I.turned (t':=s.toks) (fun b o hb e=>eb b o hb e) f0 f1 f3 f4 f5⟩
 self:=fun _ _ _ _ _ st h=>wpAny_pyIter_revIter st h
def iRev (K:PySem.W.Frag) (ta:TA):TI:=fun σ H R=>ta σ H fun vs H1=>∃a xs,vs=[.ref a]/\SqL K H1 a xs/\R (Itv K a xs.length) H1
theorem pA:bootBuiltins "reversed"=some (.type "reversed"):=by first|rfl|decide+kernel
section
variable {X:Cx}
theorem C3 {tg:Expr} {a:Expr} {ta:TA} {p pos:Pos} (hg:Gl X "reversed") (hm:X.mg "reversed"=none) (ha:PA X [a] ta) (hs:autoParam (starEach [a] X.env=[(false,eval a X.env)]) L2.Internal.auR._auto_1):
  PI X tg (.Call (.Name "reversed" p) [a] [] pos) (iRev X.K ta):=by
 intro pins s σ H R I h
 refine Call_ (m4 I hg hm pA (eO (thn (ha pos pins s σ H _ I h) fun us s1 ⟨vs,H1,I1,r1,q1⟩=>?_) hs rfl))
 obtain⟨l1,xs,e,hq,q⟩:=q1
 subst e
 obtain⟨u,rfl,ru⟩:=mr r1
 cases ru
 obtain⟨i1s,w1,p1,z1⟩:=I1.list hq
 have hl:=w1.length
 refine call_reversed_list p1.isList ?_
 have sz:((i1s.toArray.size:Nat):Int)-1=(xs.length:Int)-1-((0:Nat):Int):=by simp only[aT];lia
 rw[sz]
 have st:(s1.heap.push (revObj l1 ((xs.length:Int)-1-((0:Nat):Int)))).IsRevIter s1.heap.objs.size l1 ((xs.length:Int)-1-((0:Nat):Int)):=⟨_,eJ _ rfl,rfl,rfl⟩
 refine wpAny_pyIter_revIter (s:={s1 with heap:=s1.heap.push (revObj l1 ((xs.length:Int)-1-((0:Nat):Int)))}) st ?_
 refine⟨s1.heap.objs.size,[s1.heap.objs.size],_,_,H1,rfl,I1.kept (t':=s1.toks) fun b o e=>eK _ e,zB l1 _ xs.length,st,fun b hb=>?_,q⟩
 have e:b=s1.heap.objs.size:=by simpa using hb
 subst e
 exact I1.fpOk (b6 _) (I1.hok.fresh (b6 _))
theorem wB:nH X (.type "dict") (fun xs H Q=>∃(d:Addr) (kvs:List (Key×V)),xs=[.ref d]/\H d=some (.dK kvs)/\∀p,H p=none->Q (.ref p) (upd H p (.dK kvs))):=by
 intro pins s σ H xs us Q I r h
 obtain⟨d,kvs,rfl,hd,q⟩:=h
 obtain⟨u,rfl,ru⟩:=mr r
 cases ru
 obtain⟨z,hS,vs,rel,dd⟩:=sO I.hok hd
 refine kt_call_dict hS dd (by rw[<-rel.length];exact z) fun h' dd' sb=>?_
 have fr:H s.heap.objs.size=none:=I.fresh
 refine⟨.ref s.heap.objs.size,_,?_,rfl,q _ fr⟩
 refine I.laid (fun b o e=>(sb.2 b (bW (eI e))).trans (eK _ e)) (b6 _) (qy z ?_ rel dd')
 have hb:=I.big
 show(s.heap.objs.size==sysModules)=false
 rw[beq_eq_false_iff_ne]
 exact bZ hb
theorem yi:MtR X "dict.update" (fun x xs H Q=>∃d o kvs more,x= .ref d/\xs=[.ref o]/\d≠o/\H d=some (.dK kvs)/\H o=some (.dK more)/\kvs.length+more.length<=sizeLine/\Q .non (upd H d (.dK (iL kvs more)))):=by
 intro pins s σ H x xs v us Q I rx rs h
 obtain⟨d,o,kvs,more,rfl,rfl,hne,hd,ho,hl,q⟩:=h
 cases rx
 obtain⟨u,rfl,ru⟩:=mr rs
 cases ru
 obtain⟨z1,s1,vs,rel,dd⟩:=sO I.hok hd
 obtain⟨z2,s2,ws,rel2,dd2⟩:=sO I.hok ho
 refine call_meetsIn dF dd.typeIs PySem.F.entry_dict_update (PySem.F.args_dict_update_2 _ _) (meets_dict_update (iP X.prog X.w) d o hne s2) ⟨vs,ws,dd,dd2,by rw[<-rel.length,<-rel2.length];exact hl,fun h' dd' _ sb=>?_⟩
 have he:∃q,h'.get? d=some q:=let⟨q,_,_,hq,_⟩:=dd';⟨q,hq⟩
 have hl':(iL kvs more).length<=sizeLine:=bX (ke more kvs) hl
 exact⟨.non,_,oY (t':=s.toks) I (by rw[hd];exact True.intro) sb he (qy hl' s1 (rel2.merge rel) dd'),rfl,q⟩
end
section
variable {X:Cx}
end
section
variable {X:Cx} {pins:List (Addr×Obj)} {σ:St} {H:Hp} {s:Shared}
end
section
variable {prog:Program} {w:World} {A:Around} {R:Result->Shared->Prop} {I:Addr} {fp wr:List Addr} {n:Nat} {P:Nat->Value->Prop} {St:Nat->Heap->Prop}
end
section
variable {prog:Program} {w:World} {A:Around} {E:Value->Shared->Prop} {s:Shared} {l:Addr} {xs:Array (Int×Tok)}
end
section
variable {X:Cx}
end
section
variable {X:Cx}
end
theorem wC:typeLookup (.type "list_reverseiterator") "__len__"=pure none:=by rw[typeLookup_type,builtinLookup_eq_fast];kernel_rfl
theorem zC:typeLookup (.type "list_reverseiterator") "__length_hint__"=pure (some (.builtin "list_reverseiterator.__length_hint__")):=by rw[typeLookup_type,builtinLookup_eq_fast];kernel_rfl
section
variable {prog:Program} {w:World} {A:Around} {s:Shared}
theorem zD {E:Value->Shared->Prop} {it l:Addr} {i:Int} {Q:Bool->Shared->Prop} (hit:s.heap.IsRevIter it l i) (h:Q false s):wpAny (model prog w) A (Builtin.List.listLengthHint (.ref it)) Q E s:=by
 unfold Builtin.List.listLengthHint
 refine wpAny_bind (wpAny_specialOf hit.typeIs wC ?_)
 show wpAny _ _ (specialOf (Value.ref it) (Str.ofString "__length_hint__") >>= _) _ _ _
 refine wpAny_bind (wpAny_specialOf hit.typeIs zC ?_)
 generalize hid:("list_reverseiterator.__length_hint__":String)=idr
 wp_delta
 rw[show splitId idr=some ("list_reverseiterator","__length_hint__")from by subst hid;decide+kernel]
 subst hid
 refine wpAny_bind (wpAny_isInstance (T:="list_reverseiterator") (b:=true) hit.typeIs (by rw[isSubtype_type];kernel_rfl) ?_)
 refine wpAny_ite_split (fun hz=>absurd hz (by decide)) (fun _=>?_)
 refine wpAny_ite_split (fun _=>?_) (fun hz=>absurd (by decide+kernel) hz)
 exact wpAny_ite_split (fun hz=>absurd hz (by decide)) (fun _=>wpAny_pure h)
theorem wD {R:Result->Shared->Prop} {it l:Addr} {items:Array Value} (hh:A.handled=none) (hit:s.heap.IsRevIter it l ((items.size:Int)-1)) (hl:s.heap.IsList l items) (hne:l≠it) (hz:items.size<=sizeLine) (D:Addr) (res:Value) (c0:Nat)
  (hD:s.heap.get? D=some {cls:= .type "list",data:= .seq #[] c0}) (hDi:D≠it) (hDl:D≠l)
  (hR:∀h2 tk acc c2,(∀b o,b≠D->b≠it->s.heap.get? b=some o->h2.get? b=some o)->h2.get? D=some {cls:= .type "list",dict:=none,data:= .seq acc c2,slots:=#[]}->
   ItemsOf (fun i v=>items[items.size-1-i]?=some v) acc items.size->R (.ok (.ret res)) {s with heap:=h2,toks:=tk}):
  wpAny (model prog w) A.in1 (Builtin.List.listExtendWith (.ref D) (.ref it) res)
   (fun fin s'=>match fin with| .done f=>R (.ok f) s'| .again c'=>c'.quiet=true/\codeAny (model prog w) A c' R s') (fun e s'=>R (.error e) s') s:=by
 have W:=(Walks.listRev (prog:=prog) (w:=w) (A:=A.in1) hh it l hne items).toS
 unfold Builtin.List.listExtendWith
 refine wpAny_bind (wpAny_typeOf hit.typeIs ?_)
 have h1:Builtin.List.listSameRef (.ref D) (.ref it)=false:=by simp[Builtin.List.listSameRef,hDi]
 have h2:(Value.type "list_reverseiterator"==Value.type "list")=false:=by decide
 have h3:(Value.type "list_reverseiterator"==Value.type "tuple")=false:=by decide
 simp only[h1,h2,h3,Bool.or_false,Bool.false_eq_true,if_false]
 refine wpAny_bind (wpAny_pyIter_revIter hit ?_)
 refine wpAny_bind (wpAny_holding (zD hit ?_))
 refine wpAny_ite_split (fun hz=>absurd hz (by decide)) (fun _=>?_)
 refine wpAny_pure ⟨plainId_quiet F.plain_extend_loop _,codeAny_extend_loopS W hz D (fun hm=>?_) res items.size 0 _ #[] c0 rfl (b7 _) ⟨b7 _,by simpa using hit,hl⟩ hD (ItemsOf.nil _) fun s' acc c2 hm hS hacc=>?_⟩
 ·rcases aj.mp hm with e|hm
  ·exact hDi e
  ·exact hDl (a8.mp hm)
 ·rw[Moved.eq_with hm]
  refine hR s'.heap s'.toks acc c2 (fun b o hb hb2 e=>hm.heap b o (fun hmem=>?_) e) hS hacc
  rcases aj.mp hmem with e'|hmem
  ·exact hb e'
  ·exact hb2 (a8.mp hmem)
theorem rg {E:Value->Shared->Prop} {Q:Value->Shared->Prop} {it l:Addr} {items:Array Value} (hh:A.handled=none) (hit:s.heap.IsRevIter it l ((items.size:Int)-1)) (hl:s.heap.IsList l items) (hne:l≠it) (hz:items.size<=sizeLine)
  (hQ:∀h2 tk acc c2,(∀b o,b≠it->s.heap.get? b=some o->h2.get? b=some o)->h2.get? s.heap.objs.size=some {cls:= .type "list",dict:=none,data:= .seq acc c2,slots:=#[]}->
   ItemsOf (fun i v=>items[items.size-1-i]?=some v) acc items.size->Q (.ref s.heap.objs.size) {s with heap:=h2,toks:=tk}):
  wpAny (model prog w) A (call (.type "list") [.ref it]) Q E s:=by
 have hi:it<s.heap.objs.size:=by obtain⟨o,e,_⟩:=hit;exact eI e
 have hll:l<s.heap.objs.size:=by obtain⟨o,e,_⟩:=hl;exact eI e
 refine callType_codes (Q₁:=fun obj s₁=>obj= .ref s.heap.objs.size/\s₁={s with heap:=s.heap.push {cls:= .type "list",data:= .seq #[]}}) F.called_list (F.typeCall_list_1 _) F.entry_list_init (code_list_new _ ⟨rfl,rfl⟩) fun obj s1 h1=>?_
 obtain⟨rfl,rfl⟩:=h1
 have hS:(s.heap.push {cls:= .type "list",data:= .seq #[]}).get? s.heap.objs.size=some {cls:= .type "list",data:= .seq #[]}:=eJ _ rfl
 have hit1:(s.heap.push {cls:= .type "list",data:= .seq #[]}).IsRevIter it l ((items.size:Int)-1):=hit.at fun o e=>eK _ e
 have hl1:(s.heap.push {cls:= .type "list",data:= .seq #[]}).IsList l items:=hl.push _
 refine⟨⟨_,hS,rfl⟩,F.args_list_init_2 _ _,?_⟩
 show wpAny _ A.in1.in1 (do let old<-Builtin.List.listItems (.ref s.heap.objs.size);Builtin.List.listUpdate (.ref s.heap.objs.size) (fun _=>#[]);letGo old.toList.reverse;Builtin.List.listExtendWith (.ref s.heap.objs.size) (.ref it) .none) _ _ _
 refine wpAny_bind ?_
 unfold Builtin.List.listItems
 refine wpAny_bind (wpAny_seqItems hS rfl (wpAny_pure ?_))
 show wpAny _ A.in1.in1 (updateSeq s.heap.objs.size (fun _=>#[]) >>= fun _=>letGo (#[]:Array Value).toList.reverse >>= fun _=>Builtin.List.listExtendWith (.ref s.heap.objs.size) (.ref it) .none) _ _ _
 refine wpAny_bind (wpAny_updateSeq hS rfl ?_)
 have hS2:=eM (Obj.mapSeq (fun _=>(#[]:Array Value))) hS rfl
 refine wpAny_bind (wpAny_letGo ?_)
 have ni:s.heap.objs.size≠it:=bZ hi
 have nl:s.heap.objs.size≠l:=bZ hll
 refine wD (A:=A.in1) hh (hit1.at fun o e=>(eN _ _ ni).trans e) (hl1.at fun o e=>(eN _ _ nl).trans e) hne hz _ .none _ hS2 ni nl fun h2 tk acc c2 hk hD hacc=>?_
 exact⟨rfl,hQ h2 tk acc c2 (fun b o hb e=>hk b o (bW (eI e)) hb ((eN _ _ (bZ (eI e))).trans (eK _ e))) hD hacc⟩
end
section
variable {X:Cx}
def tLR (K:PySem.W.Frag) (ta:TA):TE:=fun σ H Q=>ta σ H fun vs H1=>∃a xs,vs=[.ref a]/\SqL K H1 a xs/\∀l,H1 l=none->Q (.ref l) (upd H1 l (.lst xs.reverse))
theorem wF {a:Expr} {ta:TA} {p pos p2 pos2:Pos} (hc:X.calm=true) (hg:Gl X "list") (hm:X.mg "list"=none) (hg2:Gl X "reversed") (hm2:X.mg "reversed"=none) (ha:PA X [a] ta)
  (hs:autoParam (starEach [a] X.env=[(false,eval a X.env)]) L2.Internal.auR._auto_1) (hs2:autoParam (starEach [.Call (.Name "reversed" p2) [a] [] pos2] X.env=[(false,eval (.Call (.Name "reversed" p2) [a] [] pos2) X.env)]) L2.Internal.auR._auto_1):
  PE X (.Call (.Name "list" p) [.Call (.Name "reversed" p2) [a] [] pos2] [] pos) (tLR X.K ta):=by
 intro pins s σ H Q I h
 refine wpAny_Call_Name_kw (m4 I hg hm Bu ?_ (by decide) (by decide))
 refine eO ?_ hs2 rfl
 rw[hs2]
 refine Calls.spliced_cons ?_
 refine Call_ (m4 I hg2 hm2 pA (eO (thn (ha pos2 pins s σ H _ I h) fun us s1 ⟨vs,H1,I1,r1,q1⟩=>?_) hs rfl))
 obtain⟨l1,xs,e,hq,q⟩:=q1
 subst e
 obtain⟨u,rfl,ru⟩:=mr r1
 cases ru
 obtain⟨i1s,w1,p1,z1⟩:=I1.list hq
 have hlen:=w1.length
 refine call_reversed_list p1.isList ?_
 refine Calls.spliced_nil ?_
 have st:(s1.heap.push (revObj l1 ((i1s.toArray.size:Int)-1))).IsRevIter s1.heap.objs.size l1 ((i1s.toArray.size:Int)-1):=⟨_,eJ _ rfl,rfl,rfl⟩
 have hlt:l1<s1.heap.objs.size:=by obtain⟨o,e,_⟩:=p1.isList;exact eI e
 refine rg (I1.ok.hd hc) st (p1.isList.push _) (bW hlt) (by rw[aT];lia) fun h2 tk acc c2 hk hD hacc=>?_
 have kp:∀b o,s1.heap.get? b=some o->h2.get? b=some o:=fun b o e=>hk b o (bW (eI e)) (eK _ e)
 have sz:(s1.heap.push (revObj l1 ((i1s.toArray.size:Int)-1))).objs.size=s1.heap.objs.size+ 1:=eL ..
 have hv:iA xs.reverse acc.toList:=by
  have e2:acc.toList=i1s.reverse:=by
   refine List.ext_getElem? fun j=>?_
   by_cases hj:j<acc.size
   ·have h3:=hacc.2 j acc[j] (dY hj)
    have hs3:acc.size=i1s.length:=by have h9:=hacc.1;simpa using h9
    rw[aT]at h3
    rw[bx (show j<i1s.length by lia)]
    rw[dX,dY hj,<-h3]
    simp
   ·have h4:acc.size=i1s.length:=by
     have h9:=hacc.1
     simpa using h9
    rw[bz (by simpa using hj),bz (by rw[bA];lia)]
  rw[e2]
  exact w1.reverse
 refine⟨.ref (s1.heap.objs.size+ 1),_,?_,by rw[sz];rfl,q (s1.heap.objs.size+ 1) (I1.hok.fresh (cb _))⟩
 refine I1.laid (a:=s1.heap.objs.size+ 1) (t':=tk) kp (cb _) ⟨by rw[bA];exact z1,acc.toList,c2,hv,?_⟩
 rw[<-sz]
 simpa using hD
end
end L2.Internal
namespace L2.Internal
open PySem PySem.Spec PyProof.Rows PySem.W
section
variable {prog:Program} {w:World} {A:Around} {E:Value->Shared->Prop} {s:Shared}
end
section
variable {X:Cx}
end
section
variable {fs ex:List Addr} {H H':Hp} {h h':Heap}
end
section
variable {X:Cx} {pins:List (Addr×Obj)} {σ:St} {H H':Hp} {s:Shared} {h':Heap}
end
section
variable {X:Cx}
end
end L2.Internal
namespace L2.Internal
open PySem PySem.Spec PyProof.Rows
section
variable {X:Cx} {pins:List (Addr×Obj)} {σ:St} {H:Hp} {s:Shared}
end
section
variable {X:Cx}
end
section
open PySem.SeqAt
open PySem.AutoSeq1 (wpAny_loadPart')
open PySem.MeetsSeq PySem.MeetsSeq2 PySem.MeetsSeq3
end
section
variable {X:Cx}
end
section
variable {X:Cx}
end
section
variable {X:Cx}
end
section
variable {X:Cx}
end
section
variable {X:Cx}
end
section
variable {X:Cx}
end
section
variable {prog:Program} {w:World} {A:Around} {E:Value->Shared->Prop} {h:Heap} {g:Array GenState} {d:Drawn} {t:Nat} {os:OsState} {a D:Addr} {o:Obj} {K:PySem.W.Frag}
structure XCls (K:PySem.W.Frag) (D:Addr):Prop where
 ga:cO K (.ref D) "__getattribute__"=some (some (.builtin "BaseException.__getattribute__"))
 gn:cO K (.ref D) "__getattr__"=some none
 cl:cO K (.ref D) "__class__"=some (some (.builtin "object.__class__"))
 sb:PySem.W.subIn K (.ref D) (.type "BaseException")=some true
 so:PySem.W.subIn K (.ref D) (.type "object")=some true
 is:cN K D=true
end
section
variable {X:Cx}
end
open Sem (wp)
def DK (h h':Heap):Prop:=∀b o,h.get? b=some o->∃o',h'.get? b=some o'/\o'.dict=o.dict/\o'.cls=o.cls
theorem DK.trans {h h1 h2:Heap} (a:DK h h1) (b:DK h1 h2):DK h h2:=fun x o e=>by
 obtain⟨o1,e1,d1,c1⟩:=a x o e
 obtain⟨o2,e2,d2,c2⟩:=b x o1 e1
 exact⟨o2,e2,d2.trans d1,c2.trans c1⟩
section
variable {prog:Program} {w:World} {A:Around} {E:Value->Shared->Prop} {h:Heap} {g:Array GenState} {d:Drawn} {t:Nat} {os:OsState} {a D dx:Addr} {o:Obj} {K:PySem.W.Frag} {name:Str} {v:Value} {mA:Str->Option Value}
end
open Builtin Builtin.ObjectAttr
section
variable {prog:Program} {w:World} {A:Around} {E:Value->Shared->Prop} {h:Heap} {g:Array GenState} {d:Drawn} {t:Nat} {os:OsState} {a D dx:Addr} {o:Obj} {K:PySem.W.Frag} {name:Str} {v:Value} {mA:Str->Option Value} {cd:ClassData} {vs:Array Value}
structure XSto (K:PySem.W.Frag) (D:Addr):Prop where
 xc:XCls K D
 sa:cO K (.ref D) "__setattr__"=some (some (.builtin "object.__setattr__"))
 mro:∃cd,PySem.W.clsIn K D=some cd/\cd.hasDict=true/\∀self,refuseLoop self "__setattr__" cd.mro=pure ()
end
section
variable {prog:Program} {w:World} {A:Around} {E:Value->Shared->Prop} {h:Heap} {g:Array GenState} {d:Drawn} {t:Nat} {os:OsState}
variable {nm q:Str} {C N:Addr} {bs bm bmB:List Value} {hdct:Bool} {sn:List Str} {sub:List Value} {ab:Bool} {col:Option Bool} {dd:Option Addr} {k0 k1 k2 k3 k5:Option Value} {B newId initId:String}
end
section
variable {prog:Program} {w:World} {A:Around} {E:Value->Shared->Prop} {s:Shared} {env:Env}
variable {nm q:Str} {C N:Addr} {bs bm bmB:List Value} {hdct:Bool} {sn:List Str} {sub:List Value} {ab:Bool} {col:Option Bool} {dd:Option Addr} {k0 k1 k2 k3 k5:Option Value} {B newId initId:String}
end
section
variable {P:Program} {w:World} {H:Hp} {h:Heap} {a C dx:Addr}
end
section
variable {X:Cx} {pins:List (Addr×Obj)} {σ:St} {H:Hp} {s:Shared} {A:Around} {E:Value->Shared->Prop} {a C dx:Addr} {f:Str} {fs:List (Str×V)}
end
section
variable {X:Cx} {o value e:Expr} {ta tv:TE} {f:Str} {pos pos':Pos}
end
section
variable {P:Program} {w:World} {K:PySem.W.Frag} {mg:Str->Option Value} {base:Heap} {N:List Str} {qual:Str} {scope:Scope} {f:Addr} {cd:Value} {A:Around} {outer:List Env} {s₀:Shared} {H₀:Hp} {E:XK}
end
structure ExcI (K:PySem.W.Frag) (C fI:Addr):Prop where
 at_:∃bm N nm q bs hdct sn sub ab col dd k0 k1 k2 k3 k5,K.lookup C=some (excClassObj nm q C N bs bm hdct sn sub ab col dd k0 k1 k2 k3 k5 "ValueError.__new__")/\PySem.W.nsOkIn K N=true/\dw K N "__init__"=some (some (.ref fI))/\PySem.W.tailIn K FF bm=true
 fn:∃oI,K.lookup fI=some oI/\oI.cls= .type "function"
section
variable {X:Cx} {C fI:Addr} {E:XK} {x:Str} {np cpos pos:Pos} {e:Expr} {es:List Expr} {t:TA} {k:Nat} {fd:FuncData} {ps:List Str} {sp:Sp}
end
section
variable {X:Cx} {Y:Addr} {y n:Str} {py hpos:Pos} {b₀:Stmt} {body:List Stmt} {tb:TS} {i:Nat}
variable {k j:Nat} {f:Addr} {fd:FuncData} {ps:List Str} {sp:Sp} {dvs:List V} {ds:List Value} {x v:Str} {p pv pos pos' tpos:Pos} {e:Expr} {es:List Expr} {t:TA}
end
open Builtin Builtin.ObjectAttr
section
variable {K:PySem.W.Frag} {C fI N:Addr} {nm q:Str} {bs bm:List Value} {sn:List Str} {sub:List Value} {ab:Bool} {col:Option Bool} {dd:Option Addr} {k0 k1 k2 k3 k5:Option Value} {oI:Obj}
end
section
variable {P:Program} {w:World} {K:PySem.W.Frag} {mg:Str->Option Value} {base:Heap}
end
section
variable {prog:Program} {w:World} {A:Around} {E:Value->Shared->Prop} {s:Shared}
end
section
variable {X:Cx}
end
section
variable {X:Cx}
end
section
variable {P:Program} {w:World} {K:PySem.W.Frag} {mg:Str->Option Value} {base:Heap} {N:List Str} {qual:Str} {scope:Scope} {f:Addr} {cd:Value} {A:Around} {outer:List Env} {s₀:Shared} {H₀:Hp} {E:XK}
end
section
variable {X:Cx} {i:Nat} {Y:Addr} {y n:Str} {py hpos:Pos} {b₀:Stmt} {body:List Stmt} {tb:TS}
variable {k:Nat} {f:Addr} {fd:FuncData} {ps:List Str} {sp:Sp} {dvs:List V} {ds:List Value} {x:Str} {p pos pos' tpos:Pos} {e:Expr} {es:List Expr} {t:TA}
end
section
variable {X:Cx}
end
section
variable {X:Cx} {CX:CXT} {k:Nat} {E:XK} {c e:Expr} {es:List Expr} {tc:TE} {t:TA} {pos:Pos} {S:Addr->Sp->Prop}
def FN (X:Cx) (CX:CXT) (k:Nat) (f:Addr) (sp:Sp):Prop:=∃fd ps,gu X.prog X.w X.K X.mg X.base CX k f fd ps sp/\cZ X.K (.ref f)=true/\fW X.K fd ps []
def C4 (S:Addr->Sp->Prop) (E:XK) (tc:TE) (t:TA):TE:=fun σ H Q=>tc σ H fun x H1=>∃f sp,x= .ref f/\S f sp/\t σ H1 fun vs H2=>sp vs H2 Q E
theorem zE (hS:∀f sp,S f sp->FN X CX k f sp) (hr:nh k X.A) (hx:mz CX X E) (hc:PE X c tc) (ha:PA X (e::es) t)
  (hq:autoParam (eval (.Call c (e::es) [] pos) X.env=(do callWith pos (<-eval c X.env) [] (backTo pos (starEach (e::es) X.env)) (backToKw pos (keywordEach [] X.env)))) L2.Internal.auR._auto_1)
  (he:autoParam (starEach (e::es) X.env=(false,eval e X.env)::starEach es X.env) L2.Internal.auR._auto_1) (hpl:autoParam ((backTo pos (starEach es X.env)).any (·.1)=false) L2.Internal.auR._auto_1):
  PE X (.Call c (e::es) [] pos) (C4 S E tc t):=by
 intro pins s σ H Q I h
 rw[hq]
 refine wpAny_bind (thn (hc pins s σ H _ I h) fun u s1 ⟨v,H1,I1,r1,f,sp,e1,hs,q1⟩=>?_)
 subst e1
 obtain rfl:u=Value.ref f:=r1
 obtain⟨fd,ps,F,hk,hb⟩:=hS f sp hs
 refine dh (h₀:=X.base) I1.ok.mod.kin hk (thn (ha pos pins s1 σ H1 _ I1 q1) fun us s2 ⟨vs,H2,I2,r,q⟩=>⟨I2.kIn,?_⟩) he hpl
 exact vv F hr hb .nil hx I2 r (by rw[aD];exact q)
end
end L2.Internal
namespace HT.Internal
open PySem PySem.Spec PyProof.Rows L2.Internal
section
variable {prog:Program} {w:World} {A:Around} {E:Value->Shared->Prop} {s:Shared}
end
end HT.Internal
namespace L2.Internal
open PySem PySem.Spec PyProof.Rows
section
variable {X:Cx}
end
theorem yj:typeLookup (.type "list") "keys"=pure none:=by rw[typeLookup_type,builtinLookup_eq_fast];kernel_rfl
section
variable {prog:Program} {w:World} {A:Around} {E:Value->Shared->Prop} {s:Shared}
theorem zF {a:Addr} {xs:Array Value} {k:Nat} {sl:Array (Option Value)} {Q:Option Value->Shared->Prop} (hx:s.heap.get? a=some {cls:= .type "list",dict:=none,data:= .seq xs k,slots:=sl}) (hA:A.handled=none)
  (q:∀h' tk,(∀b o,s.heap.get? b=some o->h'.get? b=some o)->Q none {s with heap:=h',toks:=tk}):wpAny (model prog w) A (getAttr? (.ref a) "keys") Q E s:=by
 obtain⟨hp,g,d,tk,os⟩:=s
 have hT:∀tk',(⟨hp,g,d,tk',os⟩:Shared).TypeIs (.ref a) "list":=fun _=>⟨_,hx,rfl⟩
 have f1:=sub_AttributeError
 have f3:=F.slot_list_getattribute.lookup
 have f4:=F.slot_list_getattribute.bind (.ref a)
 have f5:=am_list_getattr_none
 unfold getAttr? getAttrBy? getAttrBy
 repeat(any_goals(first|assumption|exact hT _|((with_reducible show wpAny _ _ (call (Value.builtin "list.__getattribute__") _ _) _ _ _);refine call_meets F.slot_list_getattribute (hT _) am_entry_list_getattribute (F.args_list_getattribute_2 _ _) (meets_getattribute_miss_list a xs k sl "keys" _ yj (by decide+kernel) (by decide+kernel)) ⟨hx,hA,fun h' tk' e hx'=>?_⟩)|wp_step))
 obtain⟨t',u',he⟩:=hx'.there
 show wpAny _ _ (getattributeRaised _ _ _ _ _ _ _) _ _ _
 unfold getattributeRaised
 repeat(any_goals(first|assumption|wp_step))
 exact q h' tk' hx'.keeps
end
section
variable {X:Cx} {pins:List (Addr×Obj)} {σ:St} {H:Hp} {d it t:Addr} {vs:List V} {A:Around} {R:Result->Shared->Prop}
theorem qB (hA:A.handled=none) (hd:H d=none) (ht:H t=some (.lst vs)):∀(rest:List (Str×V)) (ys:List V) (i:Nat) (acc:List (Key×V)) (s:Shared),
  Inv X pins σ (upd H d (.dK acc)) s->w6 X pins (upd H d (.dK acc)) it->s.heap.IsListIter it t i->vs.drop i=ys->Prs H ys rest->acc.length+rest.length<=1000->
  (∀s',Inv X pins σ (upd H d (.dK (iL acc (rest.map kf)))) s'->R (.ok (.ret .none)) s')->
  codeAny (model X.prog X.w) A (.builtin "dict.update.loop" ⟨[.ref d,.ref it,.int (i:Int) 0,.none],[]⟩) R s
 |[],ys,i,acc,s,I,f,st,ey,hp,hn,k=>by
  cases hp
  have ht':(upd H d (.dK acc)) t=some (.lst vs):=by rw[fe (fb ht hd)];exact ht
  obtain⟨its,rv,p,hz⟩:=I.list (SqL.of ht')
  obtain⟨f0,f1,f2,f3,f4,f5⟩:=f
  have hl:=rv.length
  have hi:vs.length<=i:=bB.mp ey
  refine codeAny_builtin mB ?_
  unfold Builtin.«dict.update.loop»
  show wpAny _ _ (pyNext (.ref it) >>= _) _ _ s
  refine wpAny_bind (wpAny_pyNext_list_end (by exact hA) st (show s.heap.IsList t its.toArray from p.isList) (by simp;lia) fun h' eb=>?_)
  have I1:Inv X pins σ (upd H d (.dK acc)) {s with heap:=h'}:=I.turned (t':=s.toks) (fun b o hb e=>eb b o hb e) f0 f1 f3 f4 f5
  exact wpAny_bind (wpAny_pure (wpAny_pure (k _ I1)))
 |pr::rest,ys,i,acc,s,I,f,st,ey,hp0,hn,k=>by
  obtain⟨a,l,rfl,ha,hp⟩:∃a l,ys= .ref a::l/\H a=some (.tup [.str pr.1,pr.2])/\Prs H l rest:=by
   cases hp0 with
   |cons h1 h2=>exact⟨_,_,rfl,h1,h2⟩
  have ht':(upd H d (.dK acc)) t=some (.lst vs):=by rw[fe (fb ht hd)];exact ht
  have ha':(upd H d (.dK acc)) a=some (.tup [.str pr.1,pr.2]):=by rw[fe (fb ha hd)];exact ha
  obtain⟨its,rv,p,hz⟩:=I.list (SqL.of ht')
  have ff:=f
  obtain⟨f0,f1,f2,f3,f4,f5⟩:=f
  have hvi:vs[i]?=some (.ref a):=by
   have:=congrArg (·[0]?) ey
   simpa using this
  obtain⟨u,hu,ru⟩:=rv.get hvi
  cases ru
  refine codeAny_builtin mB ?_
  unfold Builtin.«dict.update.loop»
  show wpAny _ _ (pyNext (.ref it) >>= _) _ _ s
  refine wpAny_bind (wpAny_pyNext_list_item st (show s.heap.IsList t its.toArray from p.isList) (x:= .ref a) (by simpa using hu) fun h' st' sb=>?_)
  have I1:Inv X pins σ (upd H d (.dK acc)) {s with heap:=h'}:=I.turned (t':=s.toks) (fun b o hb e=>(sb.2 b hb).trans e) f0 f1 f3 f4 f5
  obtain⟨its2,rv2,⟨ob,hob,hoc,on,hod⟩,_⟩:=I1.tuple (SqT.of ha')
  obtain⟨kx,vx,rfl,⟨tk,rfl⟩,rvx⟩:=A7 rv2
  obtain⟨z,hds,vs2,rel,dd⟩:=sO I1.hok (show(upd H d (.dK acc)) d=some (.dK acc)from eV)
  refine wpAny_bind (wpAny_holding (wpAny_bind (wpAny_tryCatch ?_)))
  unfold Builtin.Dict.pairItems
  refine wpAny_bind (wpAny_typeOf (T:="tuple") ⟨ob,hob,hoc⟩ ?_)
  rw[if_pos (by decide)]
  refine wpAny_bind (wpAny_seqItems hob hod ?_)
  refine wpAny_pure ?_
  show wpAny _ _ (holding [Value.str pr.1 tk,vx] (dictSet d (.str pr.1 tk) vx)) _ _ _
  have hv2:vs2.length<=sizeLine:=by rw[<-rel.length];exact z
  have hn':acc.length+(rest.length+ 1)<=1000:=hn
  have hl:(ml acc (Sum.inr pr.1) pr.2).length<=1000:=by have:=gN acc (Sum.inr pr.1) pr.2;lia
  have hl2:(ml acc (Sum.inr pr.1) pr.2).length+rest.length<=1000:=by have:=gN acc (Sum.inr pr.1) pr.2;lia
  refine wpAny_holding (wpAny_dictSet_pairs (hsz:=hv2) (k:=(Sum.inr pr.1:Key)) (qW (k:=(Sum.inr pr.1:Key)) (show iw (kV (Sum.inr pr.1)) _ from⟨tk,rfl⟩)) dd fun h2 dd2 sb2=>?_)
  have he:∃q,h2.get? d=some q:=let⟨q,_,_,hq,_⟩:=dd2;⟨q,hq⟩
  have I2:=oY (t':=s.toks+ 1) I1 (by rw[eV];exact True.intro) sb2 he (qy (kvs:=ml acc (Sum.inr pr.1) pr.2) (bX hl (by decide)) hds (rel.put (Sum.inr pr.1) rvx) dd2)
  rw[ui]at I2
  have hid:it≠d:=fun e=>by rw[e,eV]at f0;exact nomatch f0
  obtain⟨oi,hoi,ri⟩:=st'
  have st2:h2.IsListIter it t (i+ 1):=⟨oi,(sb2.2 it hid).trans hoi,ri⟩
  refine wpAny_pure ⟨Code.quiet_builtin _ (by decide+kernel),?_⟩
  have ey2:vs.drop (i+ 1)=l:=by rw[<-List.tail_drop,ey];rfl
  exact qB hA hd ht rest l (i+ 1) (ml acc (Sum.inr pr.1) pr.2) _ I2 ⟨by rw[fe hid]at f0⊢;exact f0,f1,f2,f3,f4,f5⟩ st2 ey2 hp hl2 k
end
section
variable {X:Cx}
theorem wG (hc:X.calm=true):nH X (.type "dict") (fun xs H Q=>∃(t:Addr) (vs:List V) (kvs:List (Str×V)),xs=[.ref t]/\H t=some (.lst vs)/\Prs H vs kvs/\kvs.length<=1000/\∀d,H d=none->Q (.ref d) (upd H d (.dK (iL [] (kvs.map kf))))):=by
 intro pins s σ H xs us Q I r h
 obtain⟨t,vs,kvs,rfl,ht,hp,hn,q⟩:=h
 obtain⟨u,rfl,ru⟩:=mr r
 cases ru
 obtain⟨_,its,n,rv,ho⟩:=(show jw X.prog X.w H s.heap t (.lst vs)from I.hok t _ ht)
 refine callType_codes (Q₁:=fun obj s₁=>obj= .ref s.heap.objs.size/\s₁={s with heap:=s.heap.push {cls:= .type "dict",data:= .dict #[]}}) F.kt_called_dict (F.kt_typeCall_dict_1 _) F.entry_dict_init (kt_code_dict_new _ ⟨rfl,rfl⟩) ?_
 rintro obj s₁ ⟨rfl,rfl⟩
 have hnew:(s.heap.push {cls:= .type "dict",data:= .dict #[]}).DictOf (iP X.prog X.w) s.heap.objs.size []:=Heap.DictOf.new s.heap
 refine⟨hnew.typeIs,F.args_dict_init_2 _ _,?_⟩
 unfold Builtin.«dict.__init__»
 refine wpAny_bind ?_
 unfold Builtin.Dict.selfAndRest
 refine wpAny_bind (wpAny_notOrdered_dict hnew.typeIs ?_)
 show wpAny _ _ (pure (s.heap.objs.size,[Value.ref t])) _ _ _
 refine wpAny_pure ?_
 show wpAny _ _ (Builtin.Dict.updateFrom "dict.__init__" s.heap.objs.size (.ref t) [] .none) _ _ _
 unfold Builtin.Dict.updateFrom
 have ho1:=eK {cls:= .type "dict",data:= .dict #[]} ho
 refine wpAny_bind (wpAny_typeOf (T:="list") ⟨_,ho1,rfl⟩ ?_)
 rw[if_pos (by decide)]
 refine wpAny_bind (zF ho1 (by exact I.ok.hd hc) fun h1 tk1 kp1=>?_)
 rw[if_pos (by rfl)]
 refine wpAny_bind (wpAny_rule ?_)
 have I1:Inv X pins σ (upd H s.heap.objs.size (.dK [])) {s with heap:=h1,toks:=tk1}:=by
  refine I.laid (fun b u e=>kp1 b u (eK _ e)) (b6 _) (qy (by decide) ?_ .nil ?_)
  ·have hb:=I.big
   exact beq_false_of_ne (bZ hb)
  ·obtain⟨o,es,ep,ho,r⟩:=hnew
   exact⟨o,es,ep,kp1 _ _ ho,r⟩
 have ho2:h1.IsList t its.toArray:=⟨_,kp1 _ _ ho1,rfl,n,rfl⟩
 refine wpAny_bind (wpAny_pyIter_list (show({s with heap:=h1,toks:=tk1}:Shared).heap.IsList t its.toArray from ho2) ?_)
 have f:=I1.fpOk (b6 _) (I1.hok.fresh (b6 _))
 have I2:Inv X pins σ (upd H s.heap.objs.size (.dK [])) {s with heap:=h1.push {cls:= .type "list_iterator",data:= .fields #[.ref t,.int 0 0]},toks:=tk1}:=I1.kept (t':=tk1) fun b o e=>eK _ e
 refine wpAny_pure ⟨Code.quiet_builtin _ (by decide+kernel),?_⟩
 refine qB (A:=X.A.in1) (by exact I.ok.hd hc) (I.hok.fresh (b6 _)) ht kvs vs 0 [] _ I2 f ⟨_,eJ _ rfl,rfl,rfl⟩ rfl hp (by simpa using hn) fun s' J=>?_
 exact⟨rfl,.ref s.heap.objs.size,_,J,rfl,q _ (I.hok.fresh (b6 _))⟩
def C5 (K:PySem.W.Frag):R2:=fun x y H Q=>∃a b xs ys,x= .ref a/\y= .ref b/\SqT K H a xs/\SqT K H b ys/\xs.length+ys.length<=sizeLine/\
 (xs=[]->Q (.ref b) H)/\(ys=[]->Q (.ref a) H)/\∀p,H p=none->Q (.ref p) (upd H p (.tup (xs++ys)))
theorem BC:OpR X (binaryOp .Add) (C5 X.K):=by
 intro pins s σ H x y v u Q I rx ry h
 obtain⟨a,b,xs,ys,rfl,rfl,ha,hb,hz,q0,q1,q2⟩:=h
 cases rx
 cases ry
 obtain⟨its,r1,p1,_⟩:=I.tuple ha
 obtain⟨its2,r2,p2,_⟩:=I.tuple hb
 by_cases hx:xs=[]
 ·obtain⟨⟨cls,dd,data,sl⟩,ho,hc,n,hd⟩:=id p1
  obtain⟨⟨cls2,dd2,data2,sl2⟩,ho2,hc2,n2,hd2⟩:=id p2
  simp only at hc hd hc2 hd2
  subst hc hd hc2 hd2
  exact concat_meets ⟨_,ho,rfl⟩ ⟨_,ho2,rfl⟩ noFill_tuple_add seq_tuple_add dB dC (dD _ _)
   (tuple_addW0 a b its.toArray its2.toArray n n2 dd dd2 sl sl2 (by simp[r1.nil_iff.mpr hx])) ⟨ho,ho2,.ref b,H,I,rfl,q0 hx⟩
 refine HT.Internal.cat_tup p1 p2 (fun z=>hx (r1.nil_iff.mp z)) (fun z=>⟨.ref a,H,I,rfl,q1 (r2.nil_iff.mp z)⟩) (fun z=>?_) (by rw[<-r1.length,<-r2.length];exact hz)
 refine⟨.ref s.heap.objs.size,_,I.laid (t':=s.toks) (o:= .tup (xs++ys)) (fun b ob q=>eK _ q) (b6 _) ?_,rfl,q2 _ (I.hok.fresh (b6 _))⟩
 exact⟨by rw[aN];exact hz,_,r1.append r2,vo.new _ _⟩
end
theorem yk {h h':Heap} {j t:Addr} {i:Nat} (g:h.IsTupleIter j t i) (k:∀o,h.get? j=some o->h'.get? j=some o):h'.IsTupleIter j t i:=by
 obtain⟨o,e,r⟩:=g
 exact⟨o,k o e,r⟩
theorem AH {h h':Heap} {t:Addr} {its:Array Value} (g:h.IsTuple t its) (k:∀o,h.get? t=some o->h'.get? t=some o):h'.IsTuple t its:=by
 obtain⟨o,e,r⟩:=g
 exact⟨o,k o e,r⟩
theorem AI {prog:Program} {w:World} {A:Around} (hh:A.handled=none) (j t:Addr) (hne:t≠j) (its:Array Value):Draws prog w A j [j,t] its.size (fun i v=>its[i]?=some v) (fun i h=>h.IsTupleIter j t i/\h.IsTuple t its) where
 live:=fun i h ⟨⟨o,e,_⟩,_⟩=>⟨o,e⟩
 frame:=fun i h h' ⟨a,b⟩ k=>⟨yk a fun o e=>k j (by simp) o e,AH b fun o e=>k t (by simp) o e⟩
 item:=fun i s Q E hi ⟨a,b⟩ k=>CY a b (x:=its[i]) (by simp[hi]) fun h' a' sb=>k its[i] h' s.toks (by simp[hi]) ⟨a',AH b fun o e=>(sb.2 t hne).trans e⟩ sb
 done:=fun s Q E ⟨a,b⟩ k=>wA hh a b (by simp) k
theorem yl (t:Addr) (its:Array Value) (n:Nat) (dct:Option Addr) (sl:Array (Option Value)):Meets (Builtin.«enumerate.__new__» ⟨[.type "enumerate",.ref t],[]⟩) (fun _ R s=>s.heap.get? t=some {cls:= .type "tuple",dict:=dct,data:= .seq its n,slots:=sl}/\R (.ok (.ret (.ref (s.heap.push {cls:= .type "tuple_iterator",data:= .fields #[.ref t,.int 0 0]}).objs.size))) {s with heap:=(s.heap.push {cls:= .type "tuple_iterator",data:= .fields #[.ref t,.int 0 0]}).push {cls:= .type "enumerate",data:= .fields #[.none,.bool false,.ref s.heap.objs.size,rawInt 0,.none,.none]}}):=Meets.of_wp fun P w A R s ⟨hl,q⟩=>by
 obtain⟨hp,g,d,tk,os⟩:=s
 have hs:=sub_enumerate
 have hT:Heap.IsTuple (Shared.heap ⟨hp,g,d,tk,os⟩) t its:=⟨_,hl,rfl,n,rfl⟩
 wp_walk using AutoSeq1.wpAny_loadPart' hl
 refine wpAny_stack_any fun st=>wpAny_pure ?_
 split
 ·rename_i c _ _ _ _ _
  cases(c==Value.type "enumerate")<;>(wp_walk using AutoSeq1.wpAny_loadPart' hl,wpAny_pyIter_tuple hT)<;>exact⟨_,rfl,q⟩
 ·wp_walk using AutoSeq1.wpAny_loadPart' hl,wpAny_pyIter_tuple hT
  exact⟨_,rfl,q⟩
theorem wH {prog:Program} {w:World} {A:Around} {E:Value->Shared->Prop} {s:Shared} {t:Addr} {its:Array Value} {Q:Value->Shared->Prop} (hT:s.heap.IsTuple t its)
  (q:∀h',IsEnum h' (s.heap.objs.size+ 1) s.heap.objs.size 0 .none->h'.IsTupleIter s.heap.objs.size t 0->h'.objs.size=s.heap.objs.size+ 2->(∀b o,s.heap.get? b=some o->h'.get? b=some o)->Q (.ref (s.heap.objs.size+ 1)) {s with heap:=h'}):wpAny (model prog w) A (call (.type "enumerate") [.ref t]) Q E s:=by
 obtain⟨⟨c,dct,dt,sl⟩,hl,hc,n,hd⟩:=hT
 cases(show c= .type "tuple" from hc)
 cases(show dt= .seq its n from hd)
 refine callType_new F.called_enumerate (by decide) (F.typeCall_enumerate_1 _) (F.newCall_enumerate_1 _) (fun o=>F.args_object_init_2 o _) F.entry_enumerate_new (yl t its n dct sl) ⟨hl,?_⟩
 have hz:(s.heap.push {cls:= .type "tuple_iterator",data:= .fields #[.ref t,.int 0 0]}).objs.size=s.heap.objs.size+ 1:=eL ..
 show _/\_
 rw[hz]
 have he:IsEnum ((s.heap.push {cls:= .type "tuple_iterator",data:= .fields #[.ref t,.int 0 0]}).push {cls:= .type "enumerate",data:= .fields #[.none,.bool false,.ref s.heap.objs.size,rawInt 0,.none,.none]}) (s.heap.objs.size+ 1) s.heap.objs.size 0 .none:=by
  have z:=eJ (s.heap.push {cls:= .type "tuple_iterator",data:= .fields #[.ref t,.int 0 0]}) (o:={cls:= .type "enumerate",data:= .fields #[.none,.bool false,.ref s.heap.objs.size,rawInt 0,.none,.none]}) rfl
  rw[hz]at z
  exact z
 exact⟨⟨_,he,rfl⟩,q _ he ⟨_,eK _ (eJ _ rfl),rfl,rfl⟩ (by rw[eL,hz]) fun b o x=>eK _ (eK _ x)⟩
def C6 (K:PySem.W.Frag) (a:Addr):It:=
 ⟨fun i H=>∃xs x,SqT K H a xs/\xs[i]?=some x,
   fun i H v H'=>∃T x,v= .ref T/\H T=none/\H'=upd H T (.tup [.int (i:Int),x])/\∀xs,SqT K H a xs->xs[i]?=some x,
   fun i H=>∃xs,SqT K H a xs/\i=xs.length⟩
def EStT (e it a:Addr) (i:Nat) (h:Heap):Prop:=(∃old,IsEnum h e it i old)/\h.IsTupleIter it a i
theorem wI {P:Program} {w:World} {K:PySem.W.Frag} {es:List Expr} {kk:Nat} {tp:Pos} {a e it:Addr} (h1:e≠it) (h2:a≠e) (h3:a≠it):Ak P w K (.Tuple es kk tp) (C6 K a) [e,it] e (EStT e it a) where
 mem:=by simp
 obj:=fun i h st c hc=>by
  obtain⟨⟨old,g1⟩,⟨o4,g4,_,d4⟩⟩:=st
  simp only[aj,bt,or_false]at hc
  rcases hc with q|q<;>subst q
  ·exact⟨_,g1,fun v q=>nomatch q⟩
  ·exact⟨_,g4,fun v q=>by rw[d4]at q;cases q⟩
 keep:=fun i h h' st k=>by
  obtain⟨⟨old,g1⟩,g4⟩:=st
  exact⟨⟨old,k e (by simp) _ g1⟩,(yk g4 fun o q=>k it (by simp) o q)⟩
 item:=by
  intro X hP hw hK hc i pins s σ H E I hf st hg
  subst hP hw hK
  obtain⟨xs,x,qx,ex⟩:=hg
  obtain⟨i1s,r1,p1,z1⟩:=I.tuple qx
  obtain⟨g1,g4⟩:=st
  obtain⟨old,g1'⟩:=g1
  obtain⟨ux,hux,rr1⟩:=r1.get ex
  have lte:e<s.heap.objs.size:=eI g1'
  have lt:i<i1s.toArray.size:=by rw[aT];have:=r1.length;have:=(aq.mp ex).1;lia
  have ne:e∉[it,a]:=fun z=>by simp only[aj,bt,or_false]at z;exact z.elim h1 fun z=>h2 z.symm
  have D:=AI (prog:=X.prog) (w:=X.w) (A:=X.A.in1) (by exact I.ok.hd hc) it a h3 i1s.toArray
  refine wpAny_pyNext_enum_itemD D g1' ⟨g4,show s.heap.IsTuple a i1s.toArray from p1⟩ lt h1 ne fun ux' k1 tk hP ho hit' hT hsz hk=>?_
  obtain rfl:ux'=ux:=by
   have z:i1s[i]?=some ux':=by simpa using hP
   rw[z]at hux
   exact cz.inj hux
  have kk1:∀c o,c∉[e,it]->s.heap.get? c=some o->k1.get? c=some o:=fun c o hc q=>hk c o (fun z=>hc (by simp[z])) (fun z=>hc (by simp[z])) q
  have J1:Inv X pins σ H {s with heap:=k1,toks:=tk+ 1}:=I.turnedL kk1 hf
  refine⟨.ref s.heap.objs.size,rfl,wpAny_letOwnedTupleGo_enum ho fun k2 he' sb=>?_⟩
  have J2:Inv X pins σ H {s with heap:=k2,toks:=tk+ 1}:=Inv.turnedL (s:={s with heap:=k1,toks:=tk+ 1}) (h':=k2) (t':=tk+ 1) (ch:=[e]) J1 (fun c o hc q=>(sb.2 c (fun z=>hc (by simp[z]))).trans q) fun c hc=>hf c (by simp only[aj,bt,or_false]at hc⊢;simp[hc])
  have ht2:vo k2 s.heap.objs.size #[.int i tk,ux']:=⟨_,(sb.2 _ (bZ lte)).trans hT,rfl,_,rfl,rfl⟩
  obtain⟨fT,J3⟩:=I.pairNew (x:= .int (i:Int)) (b6 _) J2 ht2 ⟨tk,rfl⟩ rr1
  refine⟨.ref s.heap.objs.size,_,J3,rfl,⟨_,x,rfl,fT,rfl,fun l hl=>by rw[I.tuple_inj hl qx];exact ex⟩,⟨⟨_,by simpa using he'⟩,yk hit'.1 fun o y=>(sb.2 it h1.symm).trans y⟩,fun c hc=>?_⟩
  rw[fe (fun q=>?_)]
  ·exact(hf c hc).1
  ·have lt:c<s.heap.objs.size:=by
    obtain⟨o4,e4,_⟩:=g4
    simp only[aj,bt,or_false]at hc
    rcases hc with q|q<;>subst q
    ·exact lte
    ·exact eI e4
   exact absurd lt (by rw[q];exact bV _)
 done:=by
  intro X hP hw hK hc i pins s σ H E I hf st hg
  subst hP hw hK
  obtain⟨xs,qx,ei⟩:=hg
  obtain⟨i1s,r1,p1,z1⟩:=I.tuple qx
  obtain⟨g1,g4⟩:=st
  have ne:e∉[it,a]:=fun z=>by simp only[aj,bt,or_false]at z;exact z.elim h1 fun z=>h2 z.symm
  have D:=AI (prog:=X.prog) (w:=X.w) (A:=X.A.in1) (by exact I.ok.hd hc) it a h3 i1s.toArray
  have W:=WalksT.enumerateD D e h1 ne (by simp)
  have l1:=r1.length
  have q:i=i1s.toArray.size:=by simp only[aT];lia
  subst q
  exact W.done s _ _ ⟨g1,g4,show s.heap.IsTuple a i1s.toArray from p1⟩ fun h1 tk hk=>⟨rfl,I.turnedL hk hf⟩
 self:=fun _ _ _ _ _ st h=>by
  obtain⟨⟨old,g1⟩,_⟩:=st
  exact wpAny_pyIter_enum g1 h
def C7 (K:PySem.W.Frag) (ta:TA):TI:=fun σ H R=>ta σ H fun vs H1=>∃a,vs=[.ref a]/\(∃xs,SqT K H1 a xs)/\R (C6 K a) H1
section
variable {X:Cx}
theorem zG {es:List Expr} {kk:Nat} {tp:Pos} {a:Expr} {ta:TA} {p pos:Pos} (hg:Gl X "enumerate") (hm:X.mg "enumerate"=none) (ha:PA X [a] ta) (hs:autoParam (starEach [a] X.env=[(false,eval a X.env)]) L2.Internal.auR._auto_1):
  PI X (.Tuple es kk tp) (.Call (.Name "enumerate" p) [a] [] pos) (C7 X.K ta):=by
 intro pins s σ H R I h
 refine Call_ (m4 I hg hm n8 (eO (thn (ha pos pins s σ H _ I h) fun us s1 ⟨vs,H1,I1,r1,q1⟩=>?_) hs rfl))
 obtain⟨l1,e,⟨xs,q1⟩,q⟩:=q1
 subst e
 obtain⟨u,rfl,ru⟩:=mr r1
 cases ru
 obtain⟨i1s,w1,p1,z1⟩:=I1.tuple q1
 have o1:@LT.lt Nat _ l1 s1.heap.objs.size:=SqT.old I1 q1
 refine wH (show s1.heap.IsTuple l1 i1s.toArray from p1) fun h1 hE hi1 hsz hk=>wpAny_pyIter_enum hE ?_
 refine⟨_,_,_,_,H1,rfl,I1.kept (t':=s1.toks) hk,wI (fun(h:@Eq Nat _ _)=>by lia) (fun(h:@Eq Nat _ _)=>by lia) (fun(h:@Eq Nat _ _)=>by lia),⟨⟨_,hE⟩,hi1⟩,fun c hc=>?_,q⟩
 have ge:s1.heap.objs.size<=c:=by
  simp only[aj,bt,or_false]at hc
  rcases hc with h|h<;>rw[h]<;>first|exact b6 _|exact Nat.le_add_right _ _
 exact I1.fpOk ge (I1.hok.fresh ge)
end
end L2.Internal
namespace T1
open PySem
def sub (c:Nat) (z:List Nat) (l:List Nat):List Nat:=l.flatMap fun k=>if k=c then z else[k]
theorem mn (c:Nat) (z a b:List Nat):sub c z (a++b)=sub c z a++sub c z b:=List.flatMap_append ..
theorem rh (c:Nat) (z:List Nat):∀l:List Nat,¬c∈l->sub c z l=l
 |[],_=>rfl
 |k::r,h=>by
  have h1:¬k=c:=fun e=>h (e▸ah ..)
  have h2:¬c∈r:=fun m=>h (ai _ m)
  show(if k=c then z else[k])++sub c z r=k::r
  rw[if_neg h1,rh c z r h2]
  rfl
theorem BD (c:Nat) (z:List Nat):sub c z [c]=z:=by simp[sub]
theorem vF (c:Nat) (z:Str):∀parts:List Str,(∀p∈parts,¬c∈p.cps.toList)->sub c z.cps.toList (Str.join ⟨#[c]⟩ parts).cps.toList=(Str.join z parts).cps.toList
 |[],_=>rfl
 |[p],h=>rh c _ _ (h p (a8.mpr rfl))
 |p::q::r,h=>by
  have ih:=vF c z (q::r) fun a ha=>h a (ai _ ha)
  show sub c z.cps.toList (p++⟨#[c]⟩++Str.join ⟨#[c]⟩ (q::r)).cps.toList=(p++z++Str.join z (q::r)).cps.toList
  simp only[Str.cps_append,dZ]
  rw[mn,mn,ih,rh c _ _ (h p (ah ..))]
  have e:sub c z.cps.toList [c]=z.cps.toList:=BD c _
  rw[e]
def cut (c:Nat):List Nat->List (List Nat)
 |[]=>[[]]
 |k::r=>if k=c then[]::cut c r else match cut c r with
  |h::t=>(k::h)::t
  |[]=>[[k]]
theorem vG (c:Nat):∀l:List Nat,¬c∈l->cut c l=[l]
 |[],_=>rfl
 |k::r,h=>by
  have h1:¬k=c:=fun e=>h (e▸ah ..)
  have h2:¬c∈r:=fun m=>h (ai _ m)
  unfold cut
  rw[if_neg h1,vG c r h2]
theorem vH (c:Nat):∀(p r:List Nat),¬c∈p->cut c (p++c::r)=p::cut c r
 |[],r,_=>by show(if c=c then[]::cut c r else _)=_;rw[if_pos rfl]
 |k::p,r,h=>by
  have h1:¬k=c:=fun e=>h (e▸ah ..)
  have h2:¬c∈p:=fun m=>h (ai _ m)
  show(if k=c then _ else match cut c (p++c::r)with|h::t=>(k::h)::t|[]=>[[k]])=_
  rw[if_neg h1,vH c p r h2]
theorem vI (c:Nat):∀parts:List Str,parts≠[]->(∀p∈parts,¬c∈p.cps.toList)->cut c (Str.join ⟨#[c]⟩ parts).cps.toList=parts.map (·.cps.toList)
 |[],h,_=>absurd rfl h
 |[p],_,h=>vG c _ (h p (a8.mpr rfl))
 |p::q::r,_,h=>by
  have ih:=vI c (q::r) (by simp) fun a ha=>h a (ai _ ha)
  show cut c (p++⟨#[c]⟩++Str.join ⟨#[c]⟩ (q::r)).cps.toList=_
  simp only[Str.cps_append,dZ]
  have e:p.cps.toList++[c]++(Str.join ⟨#[c]⟩ (q::r)).cps.toList=p.cps.toList++c::(Str.join ⟨#[c]⟩ (q::r)).cps.toList:=by simp
  show cut c (p.cps.toList++[c]++(Str.join ⟨#[c]⟩ (q::r)).cps.toList)=_
  rw[e,vH c _ _ (h p (ah ..)),ih]
  rfl
def step (a:List (List Nat)×List Nat) (k:Nat):List (List Nat)×List Nat:=
 if k=32 then(if a.2=[]then(a.1,[])else(a.1++[a.2],[]))else(a.1,a.2++[k])
def vJ (l:List Nat):List (List Nat)×List Nat:=l.foldl step ([],[])
def all (a:List (List Nat)×List Nat):List (List Nat):=if a.2=[]then a.1 else a.1++[a.2]
theorem pB (a b:List Nat):vJ (a++b)=b.foldl step (vJ a):=by unfold vJ;rw[List.foldl_append]
theorem ym (c:Nat):∀l,cut c l≠[]
 |[]=>by simp[cut]
 |k::r=>by
  unfold cut
  split
  ·simp
  ·split<;>simp
theorem qC (c:Nat):∀l,cut c (l++[c])=cut c l++[[]]
 |[]=>by simp[cut]
 |k::r=>by
  have ih:=qC c r
  show(if k=c then[]::cut c (r++[c])else match cut c (r++[c])with|h::t=>(k::h)::t|[]=>[[k]])=(if k=c then[]::cut c r else match cut c r with|h::t=>(k::h)::t|[]=>[[k]])++[[]]
  rw[ih]
  split
  ·rfl
  ·cases e:cut c r with
   |nil=>exact absurd e (ym c r)
   |cons h t=>rfl
theorem oM (c:Nat) {k:Nat} (hk:¬k=c):∀l (A:List (List Nat)) (b:List Nat),cut c l=A++[b]->cut c (l++[k])=A++[b++[k]]
 |[],A,b,h=>by
  have e:A=[]/\b=[]:=by
   cases A with
   |nil=>
    have h':[[]]=[b]:=h
    injection h' with h1 _
    exact⟨rfl,h1.symm⟩
   |cons x A=>
    have h':[[]]=x::(A++[b]):=h
    injection h' with _ h2
    simp at h2
  obtain⟨rfl,rfl⟩:=e
  show(if k=c then _ else match cut c []with|h::t=>(k::h)::t|[]=>[[k]])=_
  rw[if_neg hk]
  rfl
 |x::r,A,b,h=>by
  have h:(if x=c then[]::cut c r else match cut c r with|h::t=>(x::h)::t|[]=>[[x]])=A++[b]:=h
  show(if x=c then[]::cut c (r++[k])else match cut c (r++[k])with|h::t=>(x::h)::t|[]=>[[x]])=A++[b++[k]]
  by_cases e:x=c
  ·rw[if_pos e]at h⊢
   cases A with
   |nil=>
    have h':[]::cut c r=[b]:=h
    injection h' with _ h2
    exact absurd h2 (ym c r)
   |cons y A=>
    have h':[]::cut c r=y::(A++[b]):=h
    injection h' with h1 h2
    rw[oM c hk r A b h2,<-h1]
    rfl
  ·rw[if_neg e]at h⊢
   cases q:cut c r with
   |nil=>exact absurd q (ym c r)
   |cons g t=>
    rw[q]at h
    have h:(x::g)::t=A++[b]:=h
    cases A with
    |nil=>
     have h':(x::g)::t=[b]:=h
     injection h' with h1 h2
     rw[oM c hk r [] g (by rw[q,h2];rfl),<-h1]
     rfl
    |cons y A=>
     have h':(x::g)::t=y::(A++[b]):=h
     injection h' with h1 h2
     rw[oM c hk r (g::A) b (by rw[q,h2];rfl),<-h1]
     rfl
theorem zH (l:List Nat):∃A,cut 32 l=A++[(vJ l).2]/\A.filter (fun p=>decide (p≠[]))=(vJ l).1:=by
 suffices H:∀n (l:List Nat),l.length=n->∃A,cut 32 l=A++[(vJ l).2]/\A.filter (fun p=>decide (p≠[]))=(vJ l).1 from H _ l rfl
 intro n
 induction n with
 |zero=>
  intro l h
  have e:l=[]:=bC.mp h
  subst e
  exact⟨[],rfl,rfl⟩
 |succ n ih=>
  intro l h
  obtain⟨m,k,rfl⟩:∃m k,l=m++[k]:=by
   have hne:l≠[]:=by intro e;rw[e]at h;simp at h
   exact⟨l.dropLast,l.getLast hne,(bD hne).symm⟩
  obtain⟨A,h1,h2⟩:=ih m (by simp at h;exact h)
  rw[pB]
  show ∃A,cut 32 (m++[k])=A++[(step (vJ m) k).2]/\A.filter (fun p=>decide (p≠[]))=(step (vJ m) k).1
  by_cases e:k=32
  ·subst e
   refine⟨A++[(vJ m).2],?_,?_⟩
   ·rw[qC,h1]
    unfold step
    rw[if_pos rfl]
    split<;>rfl
   ·rw[bE,h2]
    unfold step
    rw[if_pos rfl]
    by_cases e2:(vJ m).2=[]
    ·rw[if_pos e2,e2];simp
    ·rw[if_neg e2];simp[e2]
  ·refine⟨A,?_,?_⟩
   ·unfold step
    rw[if_neg e]
    exact oM 32 e m A _ h1
   ·unfold step
    rw[if_neg e]
    exact h2
theorem words_cut (l:List Nat):(cut 32 l).filter (fun p=>decide (p≠[]))=all (vJ l):=by
 obtain⟨A,h1,h2⟩:=zH l
 rw[h1,bE,h2]
 unfold all
 by_cases e:(vJ l).2=[]
 ·rw[if_pos e,e];simp
 ·rw[if_neg e];simp[e]
def ex (k:Nat):List Nat:=if k=40 then[32,40,32]else if k=41 then[32,41,32]else if k=10 then[32]else[k]
def spaced (l:List Nat):List Nat:=l.flatMap ex
theorem rj (a b:List Nat):spaced (a++b)=spaced a++spaced b:=List.flatMap_append ..
theorem spaced_sub:∀l:List Nat,sub 10 [32] (sub 41 [32,41,32] (sub 40 [32,40,32] l))=spaced l
 |[]=>rfl
 |k::r=>by
  have ih:=spaced_sub r
  have e:∀(c:Nat) (z:List Nat) (l:List Nat) (k:Nat),sub c z (k::l)=(if k=c then z else[k])++sub c z l:=fun _ _ _ _=>rfl
  have e2:spaced (k::r)=ex k++spaced r:=rfl
  rw[e,mn,mn,ih,e2]
  congr 1
  unfold ex
  by_cases h1:k=40
  ·rw[if_pos h1,if_pos h1];rfl
  ·rw[if_neg h1,if_neg h1]
   by_cases h2:k=41
   ·rw[if_pos h2,h2];rfl
   ·rw[if_neg h2,e,if_neg h2]
    show sub 10 [32] ([k]++[])=_
    rw[aD,e]
    by_cases h3:k=10
    ·rw[if_pos h3];rfl
    ·rw[if_neg h3];rfl
def W (l:List Nat):List (List Nat)×List Nat:=vJ (spaced l)
theorem oN (a b:List Nat):W (a++b)=(spaced b).foldl step (W a):=by unfold W;rw[rj,pB]
theorem ED (a:List Nat) {k:Nat} (hk:k=32\/k=10):W (a++[k])=(all (W a),[]):=by
 rw[oN]
 have e:spaced [k]=[32]:=by rcases hk with e|e<;>subst e<;>rfl
 rw[e]
 show step (W a) 32=_
 unfold step all
 rw[if_pos rfl]
 split<;>rfl
theorem yn (a:List Nat) {k:Nat} (hk:k=40\/k=41):W (a++[k])=(all (W a)++[[k]],[]):=by
 rw[oN]
 have e:spaced [k]=[32,k,32]:=by rcases hk with e|e<;>subst e<;>rfl
 have n32:¬k=32:=by lia
 rw[e]
 show step (step (step (W a) 32) k) 32=_
 have e1:step (W a) 32=(all (W a),[]):=by
  unfold step all
  rw[if_pos rfl]
  split<;>rfl
 rw[e1]
 show(if(32:Nat)=32 then(if(step (all (W a),[]) k).2=[]then((step (all (W a),[]) k).1,[])else((step (all (W a),[]) k).1++[(step (all (W a),[]) k).2],[]))else _)=_
 have e2:step (all (W a),[]) k=(all (W a),[k]):=by unfold step;rw[if_neg n32];rfl
 rw[if_pos rfl,e2]
 rfl
theorem EE (a:List Nat):∀p:List Nat,(∀k∈p,k≠32/\k≠10/\k≠40/\k≠41)->W (a++p)=((W a).1,(W a).2++p):=by
 intro p hp
 rw[oN]
 have e:spaced p=p:=by
  induction p with
  |nil=>rfl
  |cons k r ih=>
   obtain⟨h1,h2,h3,h4⟩:=hp k (ah ..)
   have e2:spaced (k::r)=ex k++spaced r:=rfl
   rw[e2,ih fun x hx=>hp x (ai _ hx)]
   unfold ex
   rw[if_neg h3,if_neg h4,if_neg h2]
   rfl
 rw[e]
 generalize W a=b
 induction p generalizing b with
 |nil=>show b=_;rw[aD]
 |cons k r ih=>
  obtain⟨h1,h2,h3,h4⟩:=hp k (ah ..)
  show r.foldl step (step b k)=_
  have e1:step b k=(b.1,b.2++[k]):=by unfold step;rw[if_neg h1]
  have e3:spaced r=r:=by
   have e2:spaced (k::r)=ex k++spaced r:=rfl
   have e4:ex k=[k]:=by unfold ex;rw[if_neg h3,if_neg h4,if_neg h2]
   rw[e2,e4]at e
   injection e
  rw[e1,ih (fun x hx=>hp x (ai _ hx)) e3]
  simp
open Builtin Builtin.Str
theorem replace_codes (x z:Str) (c:Nat):(Txt.replace x ⟨#[c]⟩ z).cps.toList=sub c z.cps.toList x.cps.toList:=by
 rw[StrLaws.replace_one,<-vF c z _ (StrLaws.split_free x c),StrLaws.join_split]
theorem zI (x y:Str):Txt.split x y≠[]:=by
 unfold Txt.split
 split
 ·simp
 ·split
  ·simp
  ·rename_i h
   cases e:occurrences x y 0 x.length (x.length+ 1)with
   |nil=>rw[e]at h;exact absurd rfl h
   |cons a r=>simp[partsBetween]
theorem split_codes (x:Str) (c:Nat):(Txt.split x ⟨#[c]⟩).map (·.cps.toList)=cut c x.cps.toList:=by
 have h:=vI c (Txt.split x ⟨#[c]⟩) (zI x _) (StrLaws.split_free x c)
 rw[StrLaws.join_split]at h
 exact h.symm
theorem flat_len (f:Nat->List Nat) (n:Nat) (h:∀k,(f k).length<=n):∀l:List Nat,(l.flatMap f).length<=n*l.length
 |[]=>by simp
 |k::r=>by
  rw[List.flatMap_cons,aN,az]
  have h1:=h k
  have h2:=flat_len f n h r
  rw[Nat.mul_succ]
  lia
theorem str_ext {x y:Str} (h:x.cps.toList=y.cps.toList):x=y:=by
 obtain⟨a⟩:=x
 obtain⟨b⟩:=y
 have e:a=b:=Array.toList_inj.mp h
 rw[e]
theorem len_codes (x:Str):x.cps.toList.length=x.length:=by rw[dW];rfl
theorem dig_len:∀(k m:Nat),m<10^(k+ 1)->(cf 10 m).length<=k+ 1:=by
 intro k
 induction k with
 |zero=>
  intro m h
  rw[cg (by simpa using h)]
  exact b6 _
 |succ k ih=>
  intro m h
  by_cases h10:m<10
  ·rw[cg h10]
   show 1<=_
   lia
  ·have hm:m%10<10:=Nat.mod_lt m (by decide)
   have t:cf 10 (m/10)++cf 10 (m%10)=cf 10 (10*(m/10)+m%10):=cj (by decide) (by lia) hm
   rw[Nat.div_add_mod]at t
   rw[<-t,aN,cg hm]
   have hq:m/10<10^(k+ 1):=by
    rw[Nat.div_lt_iff_lt_mul (by decide)]
    rw[Nat.pow_succ]at h
    exact h
   have:=ih (m/10) hq
   show _+ 1<=_
   lia
end T1
namespace GR.Internal
open PySem L2.Internal
theorem sz {n:Nat} (h:n<=100000):n<=sizeLine:=bX h (by decide)
theorem eX {H:Hp} {p:Addr} (h:H p=none) (o:HO):fK H (upd H p o):=fun b u q=>by rw[fe (fb q h)];exact q
def wV (w:List Nat):V:= .str ⟨w.toArray⟩
def pC (l:List Nat):List V:=(T1.all (T1.W l)).map wV
theorem wJ (l:List Nat):pC l=((T1.all (T1.W l)).map fun w=>(⟨w.toArray⟩:Str)).map V.str:=by
 unfold pC
 rw[br]
 rfl
def KWV:List V:=[.str "def",.str "fn",.str "call",.str "let",.str "rec",.str "get",.str "tag",.str "case",.str "row",.str "at",.str "join",.str "size",.str "add",.str "sub",.str "less"]
def SM:Str:="abcdefghijklmnopqrstuvwxyz"
def FG:Str:="0123456789"
def qf (x y:Str):Bool:=x.cps.toList.all fun c=>decide (c∈y.cps.toList)
def pE (x y:Str):Bool:=match x.cps.toList with
 |[]=>false
 |c::_=>decide (c∈y.cps.toList)
def fu (x:Str):Bool:=decide (1<=x.length)&&decide (x.length<=12)&&!inV (.str x) KWV&&pE x SM&&qf x (SM++FG)
theorem first_of {x:Str} (h:1<=x.length):∃c r,x.cps.toList=c::r:=by
 have e:=T1.len_codes x
 cases q:x.cps.toList with
 |nil=>rw[q]at e;simp at e;lia
 |cons c r=>exact⟨c,r,rfl⟩
theorem at0 {c:Nat} {r:List Nat}:atI (c::r) (0:Int)=some c:=eY (j:=0) rfl
def pF (x:Str):Bool:=match x.cps.toList with
 |[]=>false
 |c::_=>c==48
def jb (x:Str):Bool:=decide (1<=x.length)&&decide (x.length<=60)&&qf x FG&&(!pF x||decide (x="0"))
def tj (x:Str):Int:=(intText? x).getD 0
theorem BE (c:Nat):decide (V.str ⟨#[c]⟩=V.str "0")=(c==48):=by
 by_cases h:c=48
 ·subst h
  rfl
 ·have h1:¬V.str ⟨#[c]⟩=V.str "0":=fun z=>by
   injection z with z
   have e:(⟨#[c]⟩:Str).cps.toList=("0":Str).cps.toList:=by rw[z]
   have e2:[c]=[48]:=e
   injection e2 with e3 _
   exact h e3
  rw[decide_eq_false h1]
  exact(beq_eq_false_iff_ne.mpr h).symm
theorem vK:∀c∈FG.cps.toList,48<=c/\c<=57:=by decide+kernel
theorem tD {x y:Str} (h:qf x y=true):∀c∈x.cps.toList,c∈y.cps.toList:=fun c hc=>of_decide_eq_true (bF.mp h c hc)
theorem wK {x:Str} (h1:1<=x.length) (h2:x.length<=100) (h:qf x FG=true):intText? x=some (tj x):=by
 have hd:PySem.NumText.AllDigits x.cps.toList:=fun c hc=>vK c (tD h c hc)
 have hne:x.cps.toList≠[]:=by
  obtain⟨c,r,e⟩:=first_of h1
  rw[e]
  exact List.cons_ne_nil _ _
 have e:=PySem.intText_digits hd hne (by lia)
 unfold tj
 rw[e]
 rfl
theorem pG {x:Str} (h:jb x=true):1<=x.length/\x.length<=60/\qf x FG=true:=by
 unfold jb at h
 simp only[dP,decide_eq_true_eq]at h
 exact⟨h.1.1.1,h.1.1.2,h.1.2⟩
theorem BF {n j:Nat} (h:j<n):ixN n (j:Int)=some j:=by
 unfold ixN
 rw[if_pos (by lia),if_pos (by lia)]
 simp
def fR (wl:Addr) (k:Int) (rl:Addr):List (Str×V):=[("words",.ref wl),("taken",.int k),("rows",.ref rl)]
theorem EF (wl:Addr) (k:Int) (rl:Addr):jh "rows" (.ref rl) (jh "taken" (.int k) (jh "words" (.ref wl) []))=fR wl k rl:=by
 have h1:¬(("words":Str)="taken"):=by decide+kernel
 have h2:¬(("words":Str)="rows"):=by decide+kernel
 have h3:¬(("taken":Str)="rows"):=by decide+kernel
 simp only[jh,if_neg h1,if_neg h2,if_neg h3,fR]
theorem C8 (wl:Addr) (k j:Int) (rl:Addr):jh "taken" (.int j) (fR wl k rl)=fR wl j rl:=by
 have h1:¬(("words":Str)="taken"):=by decide+kernel
 simp only[jh,fR,if_neg h1,if_pos]
theorem vL (wl:Addr) (k:Int) (rl:Addr):(fR wl k rl).lookup ("words":Str)=some (.ref wl):=by
 unfold fR
 rw[ba,show(("words":Str)=="words")=true by decide+kernel]
theorem rp (wl:Addr) (k:Int) (rl:Addr):(fR wl k rl).lookup ("taken":Str)=some (.int k):=by
 unfold fR
 rw[ba,show(("taken":Str)=="words")=false by decide+kernel,ba,show(("taken":Str)=="taken")=true by decide+kernel]
theorem rq (wl:Addr) (k:Int) (rl:Addr):(fR wl k rl).lookup ("rows":Str)=some (.ref rl):=by
 unfold fR
 rw[ba,show(("rows":Str)=="words")=false by decide+kernel,ba,show(("rows":Str)=="taken")=false by decide+kernel,ba,show(("rows":Str)=="rows")=true by decide+kernel]
theorem zJ (wl:Addr) (k:Int) (rl:Addr) {m:Str} (h1:(m=="words")=false) (h2:(m=="taken")=false) (h3:(m=="rows")=false):(fR wl k rl).lookup m=none:=by
 unfold fR
 rw[ba,h1,ba,h2,ba,h3]
 rfl
structure nk (C:Addr) (H:Hp) (p dx wl rl:Addr) (ws:List Str) (k:Nat) (rows:List V):Prop where
 ob:H p=some (.ins C dx (fR wl (k:Int) rl))
 wd:H wl=some (.lst (ws.map V.str))
 rw:H rl=some (.lst rows)
 ne:wl≠rl
structure WOk (ws:List Str):Prop where
 len:ws.length<=30000
 one:∀x∈ws,x≠""/\x.length<=30000/\∀c∈x.cps.toList,c<16^8
theorem nq {ws:List Str} (W:WOk ws) {x:Str} (h:x∈ws):(reprText x).length<=300002:=by
 obtain⟨_,h1,h2⟩:=W.one x h
 have:=StrLaws.reprText_len x h2
 lia
theorem DZ {a:Str} (h:a.length<=300002):(Str.empty++a).length<=sizeLine:=by
 have sl:sizeLine=16777216:=sizeLine_eq
 rw[Str.length_append]
 show 0+_<=_
 lia
theorem BG {a b:Str} (h:a.length<=300002) (h2:b.length<=100):(Str.empty++a++b).length<=sizeLine:=by
 have sl:sizeLine=16777216:=sizeLine_eq
 rw[Str.length_append,Str.length_append]
 show 0+_+_<=_
 lia
theorem cat3 {a b c:Str} (h:a.length<=300002) (h2:b.length<=100) (h3:c.length<=300002):(Str.empty++a++b++c).length<=sizeLine:=by
 have sl:sizeLine=16777216:=sizeLine_eq
 rw[Str.length_append,Str.length_append,Str.length_append]
 show 0+_+_+_<=_
 lia
theorem FO {a b c d:Str} (h:a.length<=300002) (h2:b.length<=100) (h3:c.length<=300002) (h4:d.length<=100):(Str.empty++a++b++c++d).length<=sizeLine:=by
 have sl:sizeLine=16777216:=sizeLine_eq
 rw[Str.length_append,Str.length_append,Str.length_append,Str.length_append]
 show 0+_+_+_+_<=_
 lia
def fP (a b c:Addr):List (Str×V):=[("names",.ref a),("roots",.ref b),("rows",.ref c)]
theorem EG (a b c:Addr):jh "rows" (.ref c) (jh "roots" (.ref b) (jh "names" (.ref a) []))=fP a b c:=by
 have h1:¬(("names":Str)="roots"):=by decide+kernel
 have h2:¬(("names":Str)="rows"):=by decide+kernel
 have h3:¬(("roots":Str)="rows"):=by decide+kernel
 simp only[jh,if_neg h1,if_neg h2,if_neg h3,fP]
theorem EH {c:Nat} (h1:48<=c) (h2:c<=57):c∈FG.cps.toList:=by
 have e:FG.cps.toList=[48,49,50,51,52,53,54,55,56,57]:=by decide+kernel
 rw[e]
 have:c=48\/c=49\/c=50\/c=51\/c=52\/c=53\/c=54\/c=55\/c=56\/c=57:=by lia
 rcases this with rfl|rfl|rfl|rfl|rfl|rfl|rfl|rfl|rfl|rfl<;>decide
theorem str_fig {n:Int} {k:Nat} (h0:0<=n) (h1:n<10^(k+ 1)):(∀c∈(PySem.Str.ofString (toString n)).cps.toList,c∈FG.cps.toList)/\1<=(PySem.Str.ofString (toString n)).length/\(PySem.Str.ofString (toString n)).length<=k+ 1:=by
 obtain⟨m,rfl⟩:=d7 h0
 have hm:m<10^(k+ 1):=by
  have z:((m:Nat):Int)<((10^(k+ 1):Nat):Int):=by rw[Int.natCast_pow];exact h1
  exact Int.ofNat_lt.mp z
 have e:=PySem.W.KIN.signs_num m
 have el:=T1.len_codes (PySem.Str.ofString (toString ((m:Nat):Int)))
 rw[e,aC]at el
 refine⟨fun c hc=>?_,?_,?_⟩
 ·rw[e]at hc
  obtain⟨ch,hch,rfl⟩:=aZ.mp hc
  obtain⟨r1,r2⟩:=PyProof.Rows.digit_range (Nat.isDigit_of_mem_toDigits (by decide) (by decide) hch)
  exact EH r1 r2
 ·have z:=PySem.toDigits_len_ge 10 m
  lia
 ·have z:=T1.dig_len k m hm
  lia
theorem log_ok {n:Int} (h0:0<=n) (h1:n<10^70):n.natAbs.log2<1920:=by
 by_cases hz:n.natAbs=0
 ·rw[hz]
  decide
 ·rw[Nat.log2_lt hz]
  have a:n.natAbs<10^70:=by lia
  exact Nat.lt_trans a (by decide+kernel)
theorem jA (x y:Str):(x++y).cps.toList=x.cps.toList++y.cps.toList:=by rw[Str.cps_append,dZ]
theorem nk.ne1 {C p dx wl rl:Addr} {H:Hp} {ws:List Str} {k:Nat} {rows:List V} (R:nk C H p dx wl rl ws k rows):p≠wl:=kc R.ob R.wd (fun z=>nomatch z)
theorem nk.ne2 {C p dx wl rl:Addr} {H:Hp} {ws:List Str} {k:Nat} {rows:List V} (R:nk C H p dx wl rl ws k rows):p≠rl:=kc R.ob R.rw (fun z=>nomatch z)
theorem nk.next {C p dx wl rl:Addr} {H:Hp} {ws:List Str} {k:Nat} {rows:List V} (R:nk C H p dx wl rl ws k rows) (j:Nat):nk C (upd H p (.ins C dx (fR wl (j:Int) rl))) p dx wl rl ws j rows:=
 ⟨eV,by rw[fe (Ne.symm R.ne1)];exact R.wd,by rw[fe (Ne.symm R.ne2)];exact R.rw,R.ne⟩
theorem nk.same {C p dx wl rl:Addr} {H H':Hp} {ws:List Str} {k:Nat} {rows:List V} (R:nk C H p dx wl rl ws k rows) (S:fK H H'):nk C H' p dx wl rl ws k rows:=⟨S _ _ R.ob,S _ _ R.wd,S _ _ R.rw,R.ne⟩
theorem tn0 {σ:St} {H:Hp} {Q:List V->Hp->Prop} (h:Q [] H):xD σ H Q:=h
theorem tc1 {v:V} {σ:St} {H:Hp} {Q:List V->Hp->Prop} (h:Q [v] H):mI (tC v) xD σ H Q:=h
theorem gU (wl:Addr) (k:Int) (rl:Addr) (m:Str) (h:m="ahead"\/m="pass_over"\/m="take_name"\/m="take_expr"\/m="take"\/m="take_row"\/m="take_steady"\/m="take_fields"\/m="take_arms"\/m="take_things"\/m="take_form"):(fR wl k rl).lookup m=none:=by
 rcases h with rfl|rfl|rfl|rfl|rfl|rfl|rfl|rfl|rfl|rfl|rfl<;>exact zJ _ _ _ (by decide+kernel) (by decide+kernel) (by decide+kernel)
theorem rA {H H':Hp} {p:Addr} (o:HO) (h:H p=none) (S:fK H H'):fK H (upd H' p o):=fun b u e=>by rw[fe (fb e h)];exact S b u e
abbrev Rs:=List Str×List Dt
def fF (pe:List Str->List Dt->Option Rs):List Bool->List Dt->List Str->List Dt->Option (List Dt×Rs)
 |[],acc,ws,rows=>some (acc,ws,rows)
 |true::ps,acc,ws,rows=>match ws with
  |[]=>none
  |x::r=>if fu x=true then fF pe ps (acc++[.flat (.str x)]) r rows else none
 |false::ps,acc,ws,rows=>match pe ws rows with
  |none=>none
  |some (r,rows')=>fF pe ps (acc++[.flat (.int (rows.length:Int))]) r rows'
def iE (item:List Str->List Dt->Option (Dt×Rs)) (ws:List Str) (rows acc:List Dt):Option (List Dt×Rs):=
 if ws.head?=some ")" then some (acc,ws,rows)else match item ws rows with
  |none=>none
  |some (d,r,rows')=>if h:r.length<ws.length then iE item r rows' (acc++[d])else none
termination_by ws.length
def iB (pe:List Str->List Dt->Option Rs) (ps:List Bool) (ws:List Str) (rows:List Dt):Option (Dt×Rs):=match fF pe ps [] ws rows with
 |none=>none
 |some (ds,r)=>some (.tup ds,r)
def kr (pe:List Str->List Dt->Option Rs) (ws:List Str) (rows:List Dt):Option (Dt×Rs):=match pe ws rows with
 |none=>none
 |some r=>some (.flat (.int (rows.length:Int)),r)
def chk (lo hi:Nat) (o:Option (List Dt×Rs)):Option (List Dt×Rs):=match o with
 |none=>none
 |some (l,r)=>if lo<=l.length/\l.length<=hi then some (l,r)else none
def stT:List (Str×List Bool):=[("fn",[true,false]),("call",[false,false]),("let",[true,false,false]),("get",[false,true]),("tag",[true,false]),("at",[false,false,false]),
 ("join",[false,false]),("size",[false]),("add",[false,false]),("sub",[false,false]),("less",[false,false])]
def stP (h:Str):Option (List Bool):=(stT.find? fun p=>decide (p.1=h)).map (·.2)
def iS (pe:List Str->List Dt->Option Rs) (h:Str) (ws:List Str) (rows:List Dt):Option (List Dt×Rs):=
 if h="rec" then match chk 0 6 (iE (iB pe [true,false]) ws rows [])with
  |none=>none
  |some (l,r)=>some ([.flat (.str "rec"),.tup l],r)
 else if h="case" then match pe ws rows with
  |none=>none
  |some (r1,rows1)=>match chk 1 6 (iE (iB pe [true,true,false]) r1 rows1 [])with
   |none=>none
   |some (l,r)=>some ([.flat (.str "case"),.flat (.int (rows.length:Int)),.tup l],r)
 else if h="row" then match chk 0 8 (iE (kr pe) ws rows [])with
  |none=>none
  |some (l,r)=>some ([.flat (.str "row"),.tup l],r)
 else match stP h with
  |none=>none
  |some ps=>match fF pe ps [] ws rows with
   |none=>none
   |some (ds,r)=>some (.flat (.str h)::ds,r)
def lX (o:Option (List Dt×Rs)):Option (List Dt×Rs):=match o with
 |none=>none
 |some (ds,r,rows)=>match r with
  |[]=>none
  |y::r'=>if y=")" then some (ds,r',rows)else none
def qD (pe:List Str->List Dt->Option Rs) (ws:List Str) (rows:List Dt):Option (List Dt×Rs):=match ws with
 |[]=>none
 |x::r=>if jb x=true then some ([.flat (.str "num"),.flat (.int (tj x))],r,rows)
  else if fu x=true then some ([.flat (.str "name"),.flat (.str x)],r,rows)
  else if x="(" then(match r with
   |[]=>none
   |h::r2=>lX (iS pe h r2 rows))
  else none
def fJ:Nat->List Str->List Dt->Option Rs
 |0,_,_=>none
 |f+ 1,ws,rows=>if rows.length=160 then none else match qD (fJ f) ws (rows++[.flat .non])with
  |none=>none
  |some (ds,r,rows')=>some (r,rows'.set rows.length (.tup ds))
def jc (ws:List Str) (rows:List Dt) (names:List Str) (roots:List Dt):Option (List Str×List Dt×List Dt):=match ws with
 |[]=>some (names,roots,rows)
 |[_]=>none
 |[_,_]=>none
 |a::b::c::r=>if a="("/\b="def"/\fu c=true then(match fJ 24 r rows with
   |none=>none
   |some (r2,rows2)=>match r2 with
    |[]=>none
    |y::r3=>if y=")" then(if h:r3.length<r.length+ 3 then jc r3 rows2 (names++[c]) (roots++[.flat (.int (rows.length:Int))])else none)else none)else none
termination_by ws.length
decreasing_by simp_wf;lia
def lO (ws:List Str):Option (List Str×List Dt×List Dt):=match jc ws [] [] []with
 |none=>none
 |some (n,r,rows)=>if 1<=n.length/\n.length<=12 then some (n,r,rows)else none
structure oy (ws:List Str) (rows:List Dt) (r:Rs):Prop where
 le:r.1.length<=ws.length
 up:rows.length<=r.2.length
 most:rows.length<=160->r.2.length<=160
 suf:∃u,ws=u++r.1
theorem oy.refl (ws:List Str) (rows:List Dt):oy ws rows (ws,rows):=⟨b6 _,b6 _,fun h=>h,[],rfl⟩
theorem oy.trans {ws:List Str} {rows:List Dt} {r s:Rs} (a:oy ws rows r) (b:oy r.1 r.2 s):oy ws rows s:=by
 obtain⟨u,e⟩:=a.suf
 obtain⟨v,e'⟩:=b.suf
 exact⟨bX b.le a.le,bX a.up b.up,fun h=>b.most (a.most h),u++v,by rw[bG,<-e',<-e]⟩
theorem oy.drop {x:Str} {r:List Str} {rows:List Dt}:oy (x::r) rows (r,rows):=⟨cb _,b6 _,fun h=>h,[x],rfl⟩
def y9 (pe:List Str->List Dt->Option Rs):Prop:=∀ws rows r,pe ws rows=some r->oy ws rows r/\r.1.length<ws.length/\rows.length<r.2.length
theorem ku {pe:List Str->List Dt->Option Rs} (g:y9 pe):∀(ps:List Bool) (acc:List Dt) (ws:List Str) (rows ds:List Dt) (r:Rs),fF pe ps acc ws rows=some (ds,r)->oy ws rows r/\(ps≠[]->r.1.length<ws.length)/\ds.length=acc.length+ps.length
 |[],acc,ws,rows,ds,r,h=>by
  rw[fF]at h
  cases h
  exact⟨oy.refl _ _,fun z=>absurd rfl z,rfl⟩
 |true::ps,acc,[],rows,ds,r,h=>by
  rw[fF]at h
  cases h
 |true::ps,acc,x::ws,rows,ds,r,h=>by
  rw[fF]at h
  split at h
  ·obtain⟨s,_,l⟩:=ku g ps _ _ _ _ _ h
   have s':=(oy.drop (x:=x)).trans s
   refine⟨s',fun _=>?_,?_⟩
   ·have:=s.le
    simp only[az]
    lia
   ·simp only[aN,az,aR]at l⊢
    lia
  ·cases h
 |false::ps,acc,ws,rows,ds,r,h=>by
  rw[fF]at h
  split at h
  ·cases h
  ·rename_i r1 rows1 e
   obtain⟨s1,lt,_⟩:=g _ _ _ e
   obtain⟨s,_,l⟩:=ku g ps _ _ _ _ _ h
   refine⟨s1.trans s,fun _=>cc s.le lt,?_⟩
   simp only[aN,az,aR]at l⊢
   lia
def tE (item:List Str->List Dt->Option (Dt×Rs)):Prop:=∀ws rows d r,item ws rows=some (d,r)->oy ws rows r/\r.1.length<ws.length
theorem kX {pe:List Str->List Dt->Option Rs} (g:y9 pe) (ps:List Bool) (h:ps≠[]):tE (iB pe ps):=by
 intro ws rows d r e
 unfold iB at e
 split at e
 ·cases e
 ·rename_i ds r' e'
  cases e
  obtain⟨s,l,_⟩:=ku g ps _ _ _ _ _ e'
  exact⟨s,l h⟩
theorem nQ {pe:List Str->List Dt->Option Rs} (g:y9 pe):tE (kr pe):=by
 intro ws rows d r e
 unfold kr at e
 split at e
 ·cases e
 ·rename_i r' e'
  cases e
  obtain⟨s,l,_⟩:=g _ _ _ e'
  exact⟨s,l⟩
theorem nR {item:List Str->List Dt->Option (Dt×Rs)} (g:tE item) (ws:List Str) (rows acc:List Dt) (h:ws.head?≠some ")"):
  iE item ws rows acc=match item ws rows with
   |none=>none
   |some (d,r,rows')=>iE item r rows' (acc++[d]):=by
 rw[iE,if_neg h]
 cases e:item ws rows with
 |none=>rfl
 |some x=>
  obtain⟨d,r,rows'⟩:=x
  have l:=(g _ _ _ _ e).2
  show(if h:r.length<ws.length then _ else _)=_
  rw[dif_pos l]
theorem lg {item:List Str->List Dt->Option (Dt×Rs)} (ws:List Str) (rows acc:List Dt) (h:ws.head?=some ")"):iE item ws rows acc=some (acc,ws,rows):=by
 rw[iE,if_pos h]
theorem pH {item:List Str->List Dt->Option (Dt×Rs)} (g:tE item):∀(n:Nat) (ws:List Str) (rows acc l:List Dt) (r:Rs),ws.length<=n->iE item ws rows acc=some (l,r)->oy ws rows r:=by
 intro n
 induction n with
 |zero=>
  intro ws rows acc l r hn h
  by_cases hh:ws.head?=some ")"
  ·rw[lg _ _ _ hh]at h
   cases h
   exact oy.refl _ _
  ·rw[nR g _ _ _ hh]at h
   split at h
   ·cases h
   ·rename_i d r' rows' e
    have l:=(g _ _ _ _ e).2
    lia
 |succ n ih=>
  intro ws rows acc l r hn h
  by_cases hh:ws.head?=some ")"
  ·rw[lg _ _ _ hh]at h
   cases h
   exact oy.refl _ _
  ·rw[nR g _ _ _ hh]at h
   split at h
   ·cases h
   ·rename_i d r' rows' e
    obtain⟨s,lt⟩:=g _ _ _ _ e
    exact s.trans (ih _ _ _ _ _ (by lia) h)
theorem rB {lo hi:Nat} {o:Option (List Dt×Rs)} {l:List Dt} {r:Rs} (h:chk lo hi o=some (l,r)):o=some (l,r)/\lo<=l.length/\l.length<=hi:=by
 unfold chk at h
 split at h
 ·cases h
 ·split at h
  ·cases h
   rename_i z
   exact⟨rfl,z⟩
  ·cases h
theorem yo {pe:List Str->List Dt->Option Rs} (g:y9 pe) {h:Str} {ws:List Str} {rows ds:List Dt} {r:Rs} (e:iS pe h ws rows=some (ds,r)):oy ws rows r:=by
 unfold iS at e
 split at e
 ·split at e
  ·cases e
  ·rename_i l r' e'
   cases e
   exact pH (kX g _ (by simp)) _ _ _ _ _ _ (b6 _) (rB e').1
 split at e
 ·split at e
  ·cases e
  ·rename_i r1 rows1 e1
   split at e
   ·cases e
   ·rename_i l r' e'
    cases e
    exact(g _ _ _ e1).1.trans (pH (kX g _ (by simp)) _ _ _ _ _ _ (b6 _) (rB e').1)
 split at e
 ·split at e
  ·cases e
  ·rename_i l r' e'
   cases e
   exact pH (nQ g) _ _ _ _ _ _ (b6 _) (rB e').1
 split at e
 ·cases e
 ·split at e
  ·cases e
  ·rename_i ds' r' e'
   cases e
   exact(ku g _ _ _ _ _ _ e').1
theorem wL {o:Option (List Dt×Rs)} {ds:List Dt} {r:Rs} {ws:List Str} {rows:List Dt} (h:∀ds' r',o=some (ds',r')->oy ws rows r') (e:lX o=some (ds,r)):oy ws rows r:=by
 unfold lX at e
 split at e
 ·cases e
 ·rename_i ds' r' rows'
  split at e
  ·cases e
  ·split at e
   ·cases e
    exact(h _ _ rfl).trans oy.drop
   ·cases e
theorem vM {pe:List Str->List Dt->Option Rs} (g:y9 pe) {ws:List Str} {rows ds:List Dt} {r:Rs} (e:qD pe ws rows=some (ds,r)):oy ws rows r/\r.1.length<ws.length:=by
 unfold qD at e
 split at e
 ·cases e
 ·rename_i x ws'
  split at e
  ·cases e
   exact⟨oy.drop,b8 _⟩
  split at e
  ·cases e
   exact⟨oy.drop,b8 _⟩
  split at e
  ·split at e
   ·cases e
   ·rename_i hh h r2
    have s:=wL (fun ds' r' z=>yo g z) e
    have s2:=(oy.drop (x:=h)).trans s
    exact⟨(oy.drop (x:=x)).trans s2,cc s2.le (b8 _)⟩
  ·cases e
theorem iT:∀f:Nat,y9 (fJ f)
 |0=>fun ws rows r e=>by rw[fJ]at e;cases e
 |f+ 1=>fun ws rows r e=>by
  rw[fJ]at e
  split at e
  ·cases e
  ·rename_i hne
   split at e
   ·cases e
   ·rename_i ds r' rows' e'
    cases e
    obtain⟨s,lt⟩:=vM (iT f) e'
    have up:=s.up
    simp only[aN,az,aR]at up
    refine⟨⟨s.le,?_,fun h=>?_,s.suf⟩,lt,?_⟩
    ·show rows.length<=(rows'.set _ _).length
     rw[aV]
     lia
    ·show(rows'.set _ _).length<=160
     rw[aV]
     refine s.most ?_
     simp only[aN,az,aR]
     lia
    ·show rows.length<(rows'.set _ _).length
     rw[aV]
     lia
section
variable {pe:List Str->List Dt->Option Rs} {x:Str} {r:List Str} {rows:List Dt}
theorem uE (h:jb x=true):qD pe (x::r) rows=some ([.flat (.str "num"),.flat (.int (tj x))],r,rows):=by unfold qD;exact if_pos h
theorem rC (h1:¬jb x=true) (h:fu x=true):qD pe (x::r) rows=some ([.flat (.str "name"),.flat (.str x)],r,rows):=by unfold qD;exact(if_neg h1).trans (if_pos h)
theorem C9 (h1:¬jb x=true) (h2:¬fu x=true) (h:¬x="("):qD pe (x::r) rows=none:=by unfold qD;exact(if_neg h1).trans ((if_neg h2).trans (if_neg h))
theorem uF {y:Str} (h1:¬jb x=true) (h2:¬fu x=true) (h:x="("):qD pe (x::y::r) rows=lX (iS pe y r rows):=by unfold qD;exact(if_neg h1).trans ((if_neg h2).trans (if_pos h))
theorem zK (h1:¬jb x=true) (h2:¬fu x=true) (h:x="("):qD pe [x] rows=none:=by unfold qD;exact(if_neg h1).trans ((if_neg h2).trans (if_pos h))
end
section
variable {rows:List Dt} {names:List Str} {roots:List Dt}
theorem defs_nil:jc [] rows names roots=some (names,roots,rows):=by rw[jc]
theorem zL {ws:List Str} (h0:ws≠[]) (h:ws.head?≠some "("):jc ws rows names roots=none:=by
 match ws,h0,h with
 |[_],_,_=>rw[jc]
 |[_,_],_,_=>rw[jc]
 |a::b::c::r,_,h=>
  rw[jc,if_neg]
  exact fun z=>h (congrArg some z.1)
theorem zM {r:List Str} (h:r.head?≠some "def"):jc ("("::r) rows names roots=none:=by
 match r,h with
 |[],_=>rw[jc]
 |[_],_=>rw[jc]
 |b::c::r,h=>
  rw[jc,if_neg]
  exact fun z=>h (congrArg some z.2.1)
theorem zN {r:List Str} (h:∀x r',r=x::r'->fu x=false):jc ("("::"def"::r) rows names roots=none:=by
 match r,h with
 |[],_=>rw[jc]
 |c::r,h=>
  rw[jc,if_neg]
  intro z
  have:=h c r rfl
  rw[z.2.2]at this
  cases this
theorem zO {c:Str} {r:List Str} (hc:fu c=true) (e:fJ 24 r rows=none):jc ("("::"def"::c::r) rows names roots=none:=by
 rw[jc,if_pos ⟨rfl,rfl,hc⟩,e]
theorem zP {c:Str} {r r2:List Str} {rows2:List Dt} (hc:fu c=true) (e:fJ 24 r rows=some (r2,rows2)) (h:r2.head?≠some ")"):jc ("("::"def"::c::r) rows names roots=none:=by
 rw[jc,if_pos ⟨rfl,rfl,hc⟩,e]
 match r2,h with
 |[],_=>rfl
 |y::r3,h=>exact if_neg fun z=>h (congrArg some z)
theorem defs_yes {c:Str} {r r3:List Str} {rows2:List Dt} (hc:fu c=true) (e:fJ 24 r rows=some ((")":Str)::r3,rows2)):jc ("("::"def"::c::r) rows names roots=jc r3 rows2 (names++[c]) (roots++[.flat (.int (rows.length:Int))]):=by
 rw[jc,if_pos ⟨rfl,rfl,hc⟩,e]
 have l:((")":Str)::r3).length<r.length:=(iT 24 _ _ _ e).2.1
 have l2:r3.length<r.length+ 3:=by
  rw[az]at l
  lia
 show(if(")":Str)=")" then(if h:r3.length<r.length+ 3 then _ else _)else _)=_
 rw[if_pos rfl,dif_pos l2]
end
mutual
inductive TAt (K:PySem.W.Frag) (H:Hp):V->Dt->Prop where
 |flat {v:V} (h:ox v=true):TAt K H v (.flat v)
 |tup {a:Addr} {xs:List V} {ds:List Dt} (h:H a=some (.tup xs)) (hs:kj K H xs ds):TAt K H (.ref a) (.tup ds)
inductive kj (K:PySem.W.Frag) (H:Hp):List V->List Dt->Prop where
 |nil:kj K H [] []
 |cons {x:V} {d:Dt} {xs:List V} {ds:List Dt} (h:TAt K H x d) (hs:kj K H xs ds):kj K H (x::xs) (d::ds)
end
section
variable {K:PySem.W.Frag} {H H':Hp}
mutual
theorem TAt.mono (k:∀a xs,H a=some (.tup xs)->H' a=some (.tup xs)):∀{x:V} {d:Dt},TAt K H x d->TAt K H' x d
 |_,_,.flat h=> .flat h
 |_,_,.tup h hs=> .tup (k _ _ h) (kj.mono k hs)
theorem kj.mono (k:∀a xs,H a=some (.tup xs)->H' a=some (.tup xs)):∀{xs:List V} {ds:List Dt},kj K H xs ds->kj K H' xs ds
 |_,_,.nil=> .nil
 |_,_,.cons h hs=> .cons (TAt.mono k h) (kj.mono k hs)
end
mutual
theorem TAt.at:∀{x:V} {d:Dt},TAt K H x d->At K H x d
 |_,_,.flat h=> .flat h
 |_,_,.tup h hs=> .tup (.inl (.inl h)) (kj.ats hs)
theorem kj.ats:∀{xs:List V} {ds:List Dt},kj K H xs ds->Ats K H xs ds
 |_,_,.nil=> .nil
 |_,_,.cons h hs=> .cons (TAt.at h) (kj.ats hs)
end
theorem kj.length:∀{xs:List V} {ds:List Dt},kj K H xs ds->xs.length=ds.length
 |_,_,.nil=>rfl
 |_,_,.cons _ t=>by rw[az,az,kj.length t]
theorem kj.app:∀{xs ys:List V} {ds es:List Dt},kj K H xs ds->kj K H ys es->kj K H (xs++ys) (ds++es)
 |_,_,_,_,.nil,q=>q
 |_,_,_,_,.cons h t,q=> .cons h (kj.app t q)
theorem kj.snoc {xs:List V} {ds:List Dt} {x:V} {d:Dt} (a:kj K H xs ds) (b:TAt K H x d):kj K H (xs++[x]) (ds++[d]):=a.app (.cons b .nil)
theorem kj.set:∀{xs:List V} {ds:List Dt} {x:V} {d:Dt} (j:Nat),kj K H xs ds->TAt K H x d->kj K H (xs.set j x) (ds.set j d)
 |_,_,_,_,_,.nil,_=> .nil
 |_,_,_,_,0,.cons _ t,q=> .cons q t
 |_,_,_,_,j+ 1,.cons h t,q=> .cons h (kj.set j t q)
end
def K2 (p q:Addr) (H H':Hp):Prop:=∀b o,H b=some o->b≠p->b≠q->H' b=some o
theorem K2.refl (p q:Addr) (H:Hp):K2 p q H H:=fun _ _ e _ _=>e
theorem K2.trans {p q:Addr} {H H1 H2:Hp} (a:K2 p q H H1) (b:K2 p q H1 H2):K2 p q H H2:=fun c o e h1 h2=>b c o (a c o e h1 h2) h1 h2
theorem fK.k2 {p q:Addr} {H H':Hp} (s:fK H H'):K2 p q H H':=fun b o e _ _=>s b o e
theorem K2.upd1 {p q:Addr} {H H':Hp} (k:K2 p q H H') (o:HO):K2 p q H (upd H' p o):=fun b u e h1 h2=>by rw[fe h1];exact k b u e h1 h2
theorem K2.upd2 {p q:Addr} {H H':Hp} (k:K2 p q H H') (o:HO):K2 p q H (upd H' q o):=fun b u e h1 h2=>by rw[fe h2];exact k b u e h1 h2
theorem K2.sqT {K:PySem.W.Frag} {p q:Addr} {H H':Hp} {o1 o2:HO} (k:K2 p q H H') (h1:H p=some o1) (h2:H q=some o2) (n1:∀xs,o1≠ .tup xs/\∀o,o1≠ .frz o (.tup xs)) (n2:∀xs,o2≠ .tup xs/\∀o,o2≠ .frz o (.tup xs)) {a:Addr} {xs:List V} (s:SqT K H a xs):SqT K H' a xs:=by
 rcases s with s|s
 ·refine .inl ?_
  rcases s with s|⟨o,s⟩
  ·exact .inl (k _ _ s (kc s h1 (Ne.symm (n1 xs).1)) (kc s h2 (Ne.symm (n2 xs).1)))
  ·exact .inr ⟨o,k _ _ s (kc s h1 (Ne.symm ((n1 xs).2 o))) (kc s h2 (Ne.symm ((n2 xs).2 o)))⟩
 ·exact .inr s
def RS (K:PySem.W.Frag) (C:Addr) (H:Hp) (p dx wl rl:Addr) (ws rest:List Str) (rows:List Dt):Prop:=
 ∃k rv,nk C H p dx wl rl ws k rv/\ws.drop k=rest/\k<=ws.length/\kj K H rv rows
section
variable {K:PySem.W.Frag} {C p dx wl rl:Addr} {H H':Hp} {ws rest:List Str} {rows:List Dt}
theorem nk.sqT {k:Nat} {rv:List V} (R:nk C H p dx wl rl ws k rv) (kk:K2 p rl H H') {a:Addr} {xs:List V} (s:SqT K H a xs):SqT K H' a xs:=
 kk.sqT R.ob R.rw (fun _=>⟨(fun z=>nomatch z),fun _ z=>nomatch z⟩) (fun _=>⟨(fun z=>nomatch z),fun _ z=>nomatch z⟩) s
theorem nk.tpT {k:Nat} {rv:List V} (R:nk C H p dx wl rl ws k rv) (kk:K2 p rl H H') {a:Addr} {xs:List V} (s:H a=some (.tup xs)):H' a=some (.tup xs):=
 kk _ _ s (kc s R.ob (fun z=>nomatch z)) (kc s R.rw (fun z=>nomatch z))
theorem RS.tat (R:RS K C H p dx wl rl ws rest rows) (kk:K2 p rl H H') {x:V} {d:Dt} (t:TAt K H x d):TAt K H' x d:=by
 obtain⟨k,rv,R,_⟩:=R
 exact t.mono fun a xs s=>nk.tpT R kk s
theorem RS.tats (R:RS K C H p dx wl rl ws rest rows) (kk:K2 p rl H H') {xs:List V} {ds:List Dt} (t:kj K H xs ds):kj K H' xs ds:=by
 obtain⟨k,rv,R,_⟩:=R
 exact t.mono fun a xs s=>nk.tpT R kk s
theorem RS.same (R:RS K C H p dx wl rl ws rest rows) (s:fK H H'):RS K C H' p dx wl rl ws rest rows:=by
 obtain⟨k,rv,R,h1,h2,h3⟩:=R
 exact⟨k,rv,⟨s _ _ R.ob,s _ _ R.wd,s _ _ R.rw,R.ne⟩,h1,h2,h3.mono fun a xs t=>nk.tpT R (fK.k2 s) t⟩
theorem RS.other {a:Addr} {l:List V} {o:HO} (R:RS K C H p dx wl rl ws rest rows) (ha:H a=some (.lst l)) (n1:a≠p) (n2:a≠wl) (n3:a≠rl):RS K C (upd H a o) p dx wl rl ws rest rows:=by
 obtain⟨k,rv,R,h1,h2,h3⟩:=R
 refine⟨k,rv,⟨by rw[fe (Ne.symm n1)];exact R.ob,by rw[fe (Ne.symm n2)];exact R.wd,by rw[fe (Ne.symm n3)];exact R.rw,R.ne⟩,h1,h2,h3.mono fun b xs t=>?_⟩
 rw[fe (kc t ha (fun z=>nomatch z))]
 exact t
theorem kj.other {a:Addr} {l:List V} {o:HO} (ha:H a=some (.lst l)) {xs:List V} {ds:List Dt} (t:kj K H xs ds):kj K (upd H a o) xs ds:=t.mono fun b xs t=>by
 rw[fe (kc t ha (fun z=>nomatch z))]
 exact t
theorem ky {k:Nat} {x:Str} {r:List Str} (h:ws.drop k=x::r):ws[k]?=some x/\ws.drop (k+ 1)=r/\k<ws.length:=by
 have hk:k<ws.length:=by
  by_cases z:k<ws.length
  ·exact z
  ·rw[List.drop_of_length_le (by lia)]at h
   cases h
 rw[bH hk]at h
 injection h with h1 h2
 exact⟨by rw[bq hk,h1],h2,hk⟩
theorem rD {k:Nat} (h:ws.drop k=[]):ws[k]?=none:=by
 rw[bB]at h
 exact bz h
theorem RS.len (R:RS K C H p dx wl rl ws rest rows):∃rv,H rl=some (.lst rv)/\rv.length=rows.length:=by
 obtain⟨k,rv,R,_,_,t⟩:=R
 exact⟨rv,R.rw,t.length⟩
theorem RS.mem (R:RS K C H p dx wl rl ws rest rows):∀x∈rest,x∈ws:=by
 obtain⟨k,rv,_,h,_⟩:=R
 intro x hx
 rw[<-h]at hx
 exact List.mem_of_mem_drop hx
theorem RS.short (R:RS K C H p dx wl rl ws rest rows):rest.length<=ws.length:=by
 obtain⟨k,rv,_,h,_⟩:=R
 rw[<-h,aU]
 lia
theorem RS.ob (R:RS K C H p dx wl rl ws rest rows):∃k:Int,H p=some (.ins C dx (fR wl k rl)):=by
 obtain⟨k,rv,R,_⟩:=R
 exact⟨_,R.ob⟩
theorem tF {H:Hp} {a b:Addr} {l xs:List V} {o:HO} (ha:H a=some (.lst l)) (t:SqT K H b xs):SqT K (upd H a o) b xs:=by
 rcases t with t|t
 ·refine .inl ?_
  rcases t with t|⟨o',t⟩
  ·exact .inl (by rw[fe (kc t ha (fun z=>nomatch z))];exact t)
  ·exact .inr ⟨o',by rw[fe (kc t ha (fun z=>nomatch z))];exact t⟩
 ·exact .inr t
theorem RS.sqt (R:RS K C H p dx wl rl ws rest rows) (kk:K2 p rl H H') {a:Addr} {xs:List V} (t:SqT K H a xs):SqT K H' a xs:=by
 obtain⟨k,rv,R,_⟩:=R
 exact nk.sqT R kk t
theorem tG {p q a:Addr} {H H':Hp} {o:HO} (ha:H a=none) (k:K2 p q H H'):K2 p q H (upd H' a o):=fun b u e h1 h2=>by rw[fe (fb e ha)];exact k b u e h1 h2
theorem RS.apart {fl:Addr} (R:RS K C H p dx wl rl ws rest rows) (hfl:H fl=none):fl≠p/\fl≠rl/\fl≠wl:=by
 obtain⟨k,rv,R,_⟩:=R
 exact⟨Ne.symm (fb R.ob hfl),Ne.symm (fb R.rw hfl),Ne.symm (fb R.wd hfl)⟩
end
abbrev Pe:=List Str->List Dt->Option Rs
def Rd (p:Pe) (ok:Bool) (n:Nat) (ts:List Str):Prop:=∀(rest:List Str) (rows:List Dt),rows.length<=160->
 (ok=true->rows.length+n<=160->∃rows',p (ts++rest) rows=some (rest,rows')/\rows'.length=rows.length+n)/\(¬(ok=true/\rows.length+n<=160)->p (ts++rest) rows=none)
def SRd (pe:Pe) (ps:List Bool) (ok:Bool) (n:Nat) (ts:List Str):Prop:=∀(acc:List Dt) (rest:List Str) (rows:List Dt),rows.length<=160->
 (ok=true->rows.length+n<=160->∃ds rows',fF pe ps acc (ts++rest) rows=some (ds,rest,rows')/\rows'.length=rows.length+n)/\(¬(ok=true/\rows.length+n<=160)->fF pe ps acc (ts++rest) rows=none)
theorem SRd.nil {pe:Pe}:SRd pe [] true 0 []:=fun acc rest rows h=>⟨fun _ _=>⟨acc,rows,by rw[fF];rfl,rfl⟩,fun z=>absurd ⟨rfl,h⟩ z⟩
theorem SRd.name {pe:Pe} {ps:List Bool} {ok:Bool} {n:Nat} {ts:List Str} {x:Str} (hx:fu x=true) (r:SRd pe ps ok n ts):SRd pe (true::ps) ok n (x::ts):=fun acc rest rows h=>by
 have e:fF pe (true::ps) acc (x::ts++rest) rows=fF pe ps (acc++[.flat (.str x)]) (ts++rest) rows:=by
  rw[aQ,fF,if_pos hx]
 rw[e]
 exact r _ rest rows h
theorem SRd.expr {pe:Pe} {ps:List Bool} {ok1 ok2:Bool} {n1 n2:Nat} {t1 t2:List Str} (a:Rd pe ok1 n1 t1) (r:SRd pe ps ok2 n2 t2):SRd pe (false::ps) (ok1&&ok2) (n1+n2) (t1++t2):=fun acc rest rows h=>by
 have ea:t1++t2++rest=t1++(t2++rest):=bG ..
 obtain⟨y,no⟩:=a (t2++rest) rows h
 rw[ea]
 by_cases h1:ok1=true/\rows.length+n1<=160
 ·obtain⟨rows1,e1,l1⟩:=y h1.1 h1.2
  have e:fF pe (false::ps) acc (t1++(t2++rest)) rows=fF pe ps (acc++[.flat (.int (rows.length:Int))]) (t2++rest) rows1:=by rw[fF,e1]
  rw[e]
  obtain⟨y2,no2⟩:=r (acc++[.flat (.int (rows.length:Int))]) rest rows1 (by lia)
  refine⟨fun ho hn=>?_,fun z=>no2 fun z2=>z ⟨by rw[h1.1,z2.1];rfl,by lia⟩⟩
  rw[h1.1,dU]at ho
  obtain⟨ds,rows',e2,l2⟩:=y2 ho (by lia)
  exact⟨ds,rows',e2,by lia⟩
 ·have e1:=no h1
  refine⟨fun ho hn=>absurd ⟨(dP _ _▸ho).1,by lia⟩ h1,fun _=>by rw[fF,e1]⟩
def MRd (item:List Str->List Dt->Option (Dt×Rs)) (ok:Bool) (n m:Nat) (ts:List Str):Prop:=∀(acc:List Dt) (rest:List Str) (rows:List Dt),rows.length<=160->
 (ok=true->rows.length+n<=160->∃ds rows',iE item (ts++(")":Str)::rest) rows acc=some (ds,(")":Str)::rest,rows')/\ds.length=acc.length+m/\rows'.length=rows.length+n)/\(¬(ok=true/\rows.length+n<=160)->iE item (ts++(")":Str)::rest) rows acc=none)
theorem MRd.nil {item:List Str->List Dt->Option (Dt×Rs)}:MRd item true 0 0 []:=fun acc rest rows h=>⟨fun _ _=>⟨acc,rows,lg _ _ _ rfl,rfl,rfl⟩,fun z=>absurd ⟨rfl,h⟩ z⟩
theorem MRd.cons {item:List Str->List Dt->Option (Dt×Rs)} (g:tE item) {ok1 ok2:Bool} {n1 n2 m:Nat} {t1 t2:List Str} {x:Str} {t:List Str} (ht:t1=x::t) (hx:x≠")")
  (a:∀(rest:List Str) (rows:List Dt),rows.length<=160->(ok1=true->rows.length+n1<=160->∃d rows',item (t1++rest) rows=some (d,rest,rows')/\rows'.length=rows.length+n1)/\(¬(ok1=true/\rows.length+n1<=160)->item (t1++rest) rows=none))
  (r:MRd item ok2 n2 m t2):MRd item (ok1&&ok2) (n1+n2) (m+ 1) (t1++t2):=fun acc rest rows h=>by
 have ea:t1++t2++(")":Str)::rest=t1++(t2++(")":Str)::rest):=bG ..
 have hh:(t1++(t2++(")":Str)::rest)).head?≠some ")":=by
  rw[ht]
  exact fun z=>hx (cz.inj z)
 obtain⟨y,no⟩:=a (t2++(")":Str)::rest) rows h
 rw[ea,nR g _ _ _ hh]
 by_cases h1:ok1=true/\rows.length+n1<=160
 ·obtain⟨d,rows1,e1,l1⟩:=y h1.1 h1.2
  rw[e1]
  obtain⟨y2,no2⟩:=r (acc++[d]) rest rows1 (by lia)
  refine⟨fun ho hn=>?_,fun z=>no2 fun z2=>z ⟨by rw[h1.1,z2.1];rfl,by lia⟩⟩
  rw[h1.1,dU]at ho
  obtain⟨ds,rows',e2,l2,l3⟩:=y2 ho (by lia)
  refine⟨ds,rows',e2,?_,by lia⟩
  rw[aN]at l2
  have:[d].length=1:=rfl
  lia
 ·rw[no h1]
  exact⟨fun ho hn=>absurd ⟨(dP _ _▸ho).1,by lia⟩ h1,fun _=>rfl⟩
theorem Dc {pe:Pe} {ps:List Bool} {ok:Bool} {n:Nat} {ts:List Str} (s:SRd pe ps ok n ts):∀(rest:List Str) (rows:List Dt),rows.length<=160->(ok=true->rows.length+n<=160->∃d rows',iB pe ps (ts++rest) rows=some (d,rest,rows')/\rows'.length=rows.length+n)/\(¬(ok=true/\rows.length+n<=160)->iB pe ps (ts++rest) rows=none):=fun rest rows h=>by
 obtain⟨y,no⟩:=s [] rest rows h
 refine⟨fun ho hn=>?_,fun z=>by rw[iB,no z]⟩
 obtain⟨ds,rows',e,l⟩:=y ho hn
 exact⟨_,rows',by rw[iB,e],l⟩
theorem Dd {pe:Pe} {ok:Bool} {n:Nat} {ts:List Str} (s:Rd pe ok n ts):∀(rest:List Str) (rows:List Dt),rows.length<=160->(ok=true->rows.length+n<=160->∃d rows',kr pe (ts++rest) rows=some (d,rest,rows')/\rows'.length=rows.length+n)/\(¬(ok=true/\rows.length+n<=160)->kr pe (ts++rest) rows=none):=fun rest rows h=>by
 obtain⟨y,no⟩:=s rest rows h
 refine⟨fun ho hn=>?_,fun z=>by rw[kr,no z]⟩
 obtain⟨rows',e,l⟩:=y ho hn
 exact⟨_,rows',by rw[kr,e],l⟩
def FRd (pe:Pe) (h:Str) (ok:Bool) (n:Nat) (ts:List Str):Prop:=∀(rest:List Str) (rows:List Dt),rows.length<=160->
 (ok=true->rows.length+n<=160->∃ds rows',iS pe h (ts++(")":Str)::rest) rows=some (ds,(")":Str)::rest,rows')/\rows'.length=rows.length+n)/\(¬(ok=true/\rows.length+n<=160)->iS pe h (ts++(")":Str)::rest) rows=none)
theorem FRd.steady {pe:Pe} {h:Str} {ps:List Bool} {ok:Bool} {n:Nat} {ts:List Str} (h1:¬h="rec") (h2:¬h="case") (h3:¬h="row") (hp:stP h=some ps) (s:SRd pe ps ok n ts):FRd pe h ok n ts:=fun rest rows hr=>by
 have e:iS pe h (ts++(")":Str)::rest) rows=match fF pe ps [] (ts++(")":Str)::rest) rows with
   |none=>none
   |some (ds,r)=>some (.flat (.str h)::ds,r):=by
  rw[iS,if_neg h1,if_neg h2,if_neg h3,hp]
  all_goals rfl
 obtain⟨y,no⟩:=s [] ((")":Str)::rest) rows hr
 refine⟨fun ho hn=>?_,fun z=>by rw[e,no z]⟩
 obtain⟨ds,rows',e2,l⟩:=y ho hn
 exact⟨_,rows',by rw[e,e2],l⟩
theorem FRd.rowd {pe:Pe} {ok:Bool} {n m:Nat} {ts:List Str} (s:MRd (kr pe) ok n m ts):FRd pe "row" (ok&&decide (m<=8)) n ts:=fun rest rows hr=>by
 have e:iS pe "row" (ts++(")":Str)::rest) rows=match chk 0 8 (iE (kr pe) (ts++(")":Str)::rest) rows [])with
  |none=>none
  |some (l,r)=>some ([.flat (.str "row"),.tup l],r):=by rw[iS,if_neg (by decide+kernel),if_neg (by decide+kernel),if_pos rfl]<;>rfl
 obtain⟨y,no⟩:=s [] rest rows hr
 by_cases h1:ok=true/\rows.length+n<=160
 ·obtain⟨ds,rows',e2,l2,l3⟩:=y h1.1 h1.2
  have l2':ds.length=m:=l2.trans (ck m)
  by_cases hm:m<=8
  ·refine⟨fun _ _=>⟨_,rows',by rw[e,e2,chk,if_pos (by lia)],l3⟩,fun z=>absurd ⟨by rw[h1.1,decide_eq_true hm];rfl,h1.2⟩ z⟩
  ·refine⟨fun z=>(by rw[h1.1,decide_eq_false hm]at z;cases z),fun _=>by rw[e,e2,chk,if_neg (by lia)]⟩
 ·exact⟨fun z hn=>absurd ⟨(dP _ _▸z).1,hn⟩ h1,fun _=>by rw[e,no h1];rfl⟩
theorem FRd.cased {pe:Pe} {ok1 ok:Bool} {n1 n m:Nat} {t1 ts:List Str} (a:Rd pe ok1 n1 t1) (s:MRd (iB pe [true,true,false]) ok n m ts):FRd pe "case" (ok1&&ok&&decide (1<=m/\m<=6)) (n1+n) (t1++ts):=fun rest rows hr=>by
 have ea:t1++ts++(")":Str)::rest=t1++(ts++(")":Str)::rest):=bG ..
 rw[ea]
 have e:iS pe "case" (t1++(ts++(")":Str)::rest)) rows=match pe (t1++(ts++(")":Str)::rest)) rows with
  |none=>none
  |some (r1,rows1)=>match chk 1 6 (iE (iB pe [true,true,false]) r1 rows1 [])with
   |none=>none
   |some (l,r)=>some ([.flat (.str "case"),.flat (.int (rows.length:Int)),.tup l],r):=by rw[iS,if_neg (by decide+kernel),if_pos rfl]<;>rfl
 obtain⟨ya,na⟩:=a (ts++(")":Str)::rest) rows hr
 by_cases h0:ok1=true/\rows.length+n1<=160
 ·obtain⟨rows1,e1,l1⟩:=ya h0.1 h0.2
  obtain⟨y,no⟩:=s [] rest rows1 (by lia)
  have e':iS pe "case" (t1++(ts++(")":Str)::rest)) rows=match chk 1 6 (iE (iB pe [true,true,false]) (ts++(")":Str)::rest) rows1 [])with
   |none=>none
   |some (l,r)=>some ([.flat (.str "case"),.flat (.int (rows.length:Int)),.tup l],r):=by rw[e,e1]
  by_cases h1:ok=true/\rows1.length+n<=160
  ·obtain⟨ds,rows',e2,l2,l3⟩:=y h1.1 h1.2
   have l2':ds.length=m:=l2.trans (ck m)
   by_cases hm:1<=m/\m<=6
   ·refine⟨fun _ _=>⟨_,rows',by rw[e',e2,chk,if_pos (by lia)],by lia⟩,fun z=>absurd ⟨by rw[h0.1,h1.1,decide_eq_true hm];rfl,by lia⟩ z⟩
   ·refine⟨fun z=>(by rw[h0.1,h1.1,decide_eq_false hm]at z;cases z),fun _=>by rw[e',e2,chk,if_neg (by lia)]⟩
  ·refine⟨fun z hn=>absurd ⟨?_,by lia⟩ h1,fun _=>by rw[e',no h1];rfl⟩
   simp only[dP]at z
   exact z.1.2
 ·refine⟨fun z hn=>absurd ⟨?_,by lia⟩ h0,fun _=>by rw[e,na h0]⟩
  simp only[dP]at z
  exact z.1.1
theorem oO:¬jb "("=true/\¬fu "("=true:=by decide+kernel
theorem Rd.form {f:Nat} {h:Str} {ok:Bool} {n:Nat} {ts:List Str} (s:FRd (fJ f) h ok n ts):Rd (fJ (f+ 1)) ok (n+ 1) (("(":Str)::h::(ts++[(")":Str)])):=fun rest rows hr=>by
 have ea:(("(":Str)::h::(ts++[(")":Str)]))++rest=("(":Str)::h::(ts++(")":Str)::rest):=by simp
 rw[ea]
 by_cases h160:rows.length=160
 ·exact⟨fun _ hn=>absurd hn (by lia),fun _=>by rw[fJ,if_pos h160]⟩
 ·have lr:(rows++[Dt.flat .non]).length=rows.length+ 1:=by rw[aN];rfl
  have er:qD (fJ f) (("(":Str)::h::(ts++(")":Str)::rest)) (rows++[.flat .non])=lX (iS (fJ f) h (ts++(")":Str)::rest) (rows++[.flat .non])):=uF oO.1 oO.2 rfl
  obtain⟨y,no⟩:=s rest (rows++[.flat .non]) (by lia)
  refine⟨fun ho hn=>?_,fun z=>?_⟩
  ·obtain⟨ds,rows',e,l⟩:=y ho (by lia)
   refine⟨rows'.set rows.length (.tup ds),?_,by rw[aV];lia⟩
   rw[fJ,if_neg h160,er,e,show lX (some (ds,(")":Str)::rest,rows'))=some (ds,rest,rows') by unfold lX;exact if_pos rfl]
  ·rw[fJ,if_neg h160,er,no fun z2=>z ⟨z2.1,by lia⟩]
   rfl
theorem Rd.zero {n:Nat} {ts:List Str}:Rd (fJ 0) false n ts:=fun rest rows hr=>⟨fun z=>(by cases z),fun _=>by rw[fJ]⟩
theorem Rd.word {f:Nat} {x:Str} (hx:jb x=true\/fu x=true):Rd (fJ (f+ 1)) true 1 [x]:=fun rest rows hr=>by
 by_cases h160:rows.length=160
 ·exact⟨fun _ hn=>absurd hn (by lia),fun _=>by rw[fJ,if_pos h160]⟩
 ·refine⟨fun _ _=>?_,fun z=>absurd ⟨rfl,by lia⟩ z⟩
  have lr:(rows++[Dt.flat .non]).length=rows.length+ 1:=by rw[aN];rfl
  by_cases h1:jb x=true
  ·refine⟨_,by rw[fJ,if_neg h160];rw[bI,uE h1],by rw[aV];lia⟩
  ·have h2:fu x=true:=hx.resolve_left h1
   refine⟨_,by rw[fJ,if_neg h160];rw[bI,rC h1 h2],by rw[aV];lia⟩
structure Ex (d n:Nat) (ts:List Str):Prop where
 pos:1<=d
 hd:∃x t,ts=x::t/\x≠")"
 rd:∀f,f<=24->Rd (fJ f) (decide (d<=f)) n ts
theorem Ex.word {x:Str} (hx:jb x=true\/fu x=true) (hc:x≠")"):Ex 1 1 [x]:=⟨b6 _,⟨x,[],rfl,hc⟩,fun f _=>by
 cases f with
 |zero=>exact Rd.zero
 |succ f=>
  rw[decide_eq_true (show 1<=f+ 1 by lia)]
  exact Rd.word hx⟩
theorem De:("(":Str)≠")":=by decide+kernel
theorem Ex.form {d n:Nat} {h:Str} {ts:List Str} (hd:1<=d) (s:∀f,f<=23->∃ok,FRd (fJ f) h ok n ts/\ok=decide (d<=f+ 1)):Ex d (n+ 1) (("(":Str)::h::(ts++[(")":Str)])):=⟨hd,⟨_,_,rfl,De⟩,fun f hf=>by
 cases f with
 |zero=>
  rw[decide_eq_false (show ¬d<=0 by lia)]
  exact Rd.zero
 |succ f=>
  obtain⟨ok,r,e⟩:=s f (by lia)
  rw[<-e]
  exact Rd.form r⟩
def DRd (ok:Bool) (n m:Nat) (ts:List Str):Prop:=∀(rest:List Str) (rows:List Dt) (names:List Str) (roots:List Dt),rows.length<=160->
 (ok=true->rows.length+n<=160->∃rows' names' roots',jc (ts++rest) rows names roots=jc rest rows' names' roots'/\rows'.length=rows.length+n/\names'.length=names.length+m)/\(¬(ok=true/\rows.length+n<=160)->jc (ts++rest) rows names roots=none)
theorem DRd.nil:DRd true 0 0 []:=fun rest rows names roots h=>⟨fun _ _=>⟨rows,names,roots,rfl,rfl,rfl⟩,fun z=>absurd ⟨rfl,h⟩ z⟩
theorem DRd.read {ok:Bool} {n m:Nat} {ts:List Str} (a:DRd ok n m ts):
  (ok=true->n<=160->1<=m->m<=12->∃names roots rows,lO ts=some (names,roots,rows)/\rows.length=n)/\(¬(ok=true/\n<=160/\1<=m/\m<=12)->lO ts=none):=by
 obtain⟨y,no⟩:=a [] [] [] [] (b7 _)
 rw[aD]at y no
 have l0:([]:List Dt).length=0:=rfl
 have l1:([]:List Str).length=0:=rfl
 by_cases h1:ok=true/\([]:List Dt).length+n<=160
 ·obtain⟨rows,names,roots,e,l,k⟩:=y h1.1 h1.2
  rw[defs_nil]at e
  by_cases h2:1<=m/\m<=12
  ·refine⟨fun _ _ _ _=>⟨names,roots,rows,by rw[lO,e];exact if_pos (by lia),by lia⟩,fun z=>absurd ⟨h1.1,by lia,h2⟩ z⟩
  ·exact⟨fun _ _ z1 z2=>absurd ⟨z1,z2⟩ h2,fun _=>by rw[lO,e];exact if_neg (by lia)⟩
 ·exact⟨fun ho hn _ _=>absurd ⟨ho,by lia⟩ h1,fun _=>by rw[lO,no h1]⟩
end GR.Internal
namespace GR.Internal
open PySem L2.Internal T1
def St1 (w:List Nat):Str:=⟨w.toArray⟩
def toks (x:Str):List Str:=(all (W x.cps.toList)).map St1
theorem toks_v (x:Str):pC x.cps.toList=(toks x).map V.str:=wJ _
theorem rE:∀(s:List Nat) (p:List (List Nat)) (c:List Nat),s.foldl step (p,c)=(p++(s.foldl step ([],c)).1,(s.foldl step ([],c)).2)
 |[],p,c=>by simp
 |k::s,p,c=>by
  have e1:(k::s).foldl step (p,c)=s.foldl step (step (p,c) k):=rfl
  have e2:(k::s).foldl step ([],c)=s.foldl step (step ([],c) k):=rfl
  rw[e1,e2]
  have e3:step (p,c) k=(p++(step ([],c) k).1,(step ([],c) k).2):=by
   unfold T1.step
   split
   ·split<;>simp
   ·simp
  rw[e3]
  generalize step ([],c) k=q
  obtain⟨q1,q2⟩:=q
  rw[rE s (p++q1) q2,rE s q1 q2,bG]
theorem vN {a b:List Nat} (h:(W a).2=[]):W (a++b)=((W a).1++(W b).1,(W b).2):=by
 rw[oN]
 have e:W a=((W a).1,[]):=by rw[<-h]
 rw[e,rE]
 rfl
def Gp (x:Str) (ts:List Str):Prop:=(W x.cps.toList).2=[]/\(W x.cps.toList).1.map St1=ts
def Op (x:Str) (ts:List Str):Prop:=toks x=ts
theorem Gp.op {x:Str} {ts:List Str} (h:Gp x ts):Op x ts:=by
 unfold Op toks all
 rw[if_pos h.1,h.2]
theorem Gp.app {x y:Str} {ts us:List Str} (h:Gp x ts) (k:Gp y us):Gp (x++y) (ts++us):=by
 unfold Gp
 rw[jA,vN h.1]
 exact⟨k.1,by rw[a9,h.2,k.2]⟩
theorem Gp.app_op {x y:Str} {ts us:List Str} (h:Gp x ts) (k:Op y us):Op (x++y) (ts++us):=by
 unfold Op toks at*
 rw[jA,vN h.1,<-h.2,<-k]
 unfold all
 by_cases z:(W y.cps.toList).2=[]
 ·rw[if_pos z,if_pos z,a9]
 ·rw[if_neg z,if_neg z]
  simp only[a9,bG]
theorem Op.close {x:Str} {ts:List Str} (h:Op x ts):Gp (x++")") (ts++[(")":Str)]):=by
 unfold Gp
 have e:(x++")").cps.toList=x.cps.toList++[41]:=jA x ")"
 rw[e,yn _ (.inr rfl)]
 refine⟨rfl,?_⟩
 rw[a9]
 exact congrArg (·++[(")":Str)]) h
theorem Op.gap {x:Str} {ts:List Str} (h:Op x ts):Gp (x++" ") ts:=by
 unfold Gp
 have e:(x++" ").cps.toList=x.cps.toList++[32]:=jA x " "
 rw[e,ED _ (.inl rfl)]
 exact⟨rfl,h⟩
theorem cat_assoc (x y z:Str):x++y++z=x++(y++z):=T1.str_ext (by rw[jA,jA,jA,jA,bG])
theorem Op.gap_then {x y z:Str} {ts us:List Str} (h:Op x ts) (hz:(" ":Str)++y=z) (k:Gp y us):Gp (x++z) (ts++us):=by
 rw[<-hz,<-cat_assoc]
 exact h.gap.app k
theorem Op.word {x:Str} (h0:x.cps.toList≠[]) (h:∀k∈x.cps.toList,k≠32/\k≠10/\k≠40/\k≠41):Op x [x]:=by
 unfold Op toks
 have e:W x.cps.toList=([],x.cps.toList):=EE [] x.cps.toList h
 rw[e]
 show(if x.cps.toList=[]then _ else _:List (List Nat)).map St1=_
 rw[if_neg h0]
 show[St1 x.cps.toList]=[x]
 exact congrArg (fun z=>[z]) (T1.str_ext rfl)
theorem tH:∀m:Nat,0<m->(cf 10 m).head?≠some '0'
 |m,h=>by
  by_cases h10:m<10
  ·rw[cg h10]
   have:m=1\/m=2\/m=3\/m=4\/m=5\/m=6\/m=7\/m=8\/m=9:=by lia
   rcases this with rfl|rfl|rfl|rfl|rfl|rfl|rfl|rfl|rfl<;>decide
  ·have hm:m%10<10:=Nat.mod_lt m (by decide)
   have t:cf 10 (m/10)++cf 10 (m%10)=cf 10 (10*(m/10)+m%10):=cj (by decide) (by lia) hm
   rw[Nat.div_add_mod]at t
   have ih:=tH (m/10) (by lia)
   rw[<-t]
   cases e:cf 10 (m/10)with
   |nil=>
    have:=PySem.toDigits_len_ge 10 (m/10)
    rw[e]at this
    simp at this
   |cons a r=>
    rw[e]at ih
    exact ih
termination_by m=>m
theorem num_is {n:Int} {k:Nat} (h0:0<=n) (h1:n<10^(k+ 1)) (hk:k+ 1<=60):jb (PySem.Str.ofString (toString n))=true:=by
 obtain⟨f1,f2,f3⟩:=str_fig h0 h1
 obtain⟨m,rfl⟩:=d7 h0
 have e:=PySem.W.KIN.signs_num m
 unfold jb
 have z:(!pF (PySem.Str.ofString (toString ((m:Nat):Int)))||decide (PySem.Str.ofString (toString ((m:Nat):Int))="0"))=true:=by
  by_cases hm:m=0
  ·subst hm
   decide+kernel
  ·have d:=tH m (by lia)
   have:pF (PySem.Str.ofString (toString ((m:Nat):Int)))=false:=by
    unfold pF
    rw[e]
    cases q:cf 10 m with
    |nil=>rfl
    |cons a r=>
     rw[q]at d
     show(a.toNat==48)=false
     refine beq_eq_false_iff_ne.mpr fun w=>d ?_
     show some a=some '0'
     exact congrArg some (Char.toNat_inj.mp w)
   rw[this]
   rfl
 rw[z,decide_eq_true f2,decide_eq_true (show _<=60 by lia)]
 simp only[dU,Bool.and_true]
 exact bF.mpr fun c hc=>decide_eq_true (f1 c hc)
structure EX (x:Str) (d n L:Nat):Prop where
 asc:∀c∈x.cps.toList,c<128
 len:x.length<=L
 ex:∃ts,Op x ts/\Ex d n ts
section
variable {d n:Nat} {ts:List Str}
theorem z0:jb "0"=true\/fu "0"=true:=by decide+kernel
theorem ex0:Ex 1 1 (["0"]:List Str):=Ex.word z0 (by decide+kernel)
theorem BH (f:Nat):(decide (d<=f)&&true)=decide (d+ 1<=f+ 1):=by simp
theorem EI (h:1<=d) (f:Nat):(decide (1<=f)&&(decide (d<=f)&&true))=decide (d+ 1<=f+ 1):=by
 by_cases z:d<=f<;>simp[z]<;>lia
theorem EJ (h:1<=d) (f:Nat):(decide (d<=f)&&(decide (1<=f)&&true))=decide (d+ 1<=f+ 1):=by
 by_cases z:d<=f<;>simp[z]<;>lia
theorem Ex.tag {h c:Str} (hh:h="tag"\/h="fn") (hc:fu c=true) (x:Ex d n ts):Ex (d+ 1) (n+ 1) ((["(",h,c]:List Str)++ts++([")"]:List Str)):=by
 have hp:stP h=some [true,false]/\¬h="rec"/\¬h="case"/\¬h="row":=by rcases hh with rfl|rfl<;>decide+kernel
 have z:=Ex.form (d:=d+ 1) (n:=n+ 0) (h:=h) (ts:=c::(ts++[])) (by lia) fun f hf=>⟨_,FRd.steady hp.2.1 hp.2.2.1 hp.2.2.2 hp.1 (SRd.name hc (SRd.expr (x.rd f (by lia)) SRd.nil)),BH f⟩
 simpa using z
theorem Ex.get {c:Str} (hc:fu c=true) (x:Ex d n ts):Ex (d+ 1) (n+ 1) ((["(","get"]:List Str)++ts++([c,")"]:List Str)):=by
 have hp:stP "get"=some [false,true]/\¬("get":Str)="rec"/\¬("get":Str)="case"/\¬("get":Str)="row":=by decide+kernel
 have z:=Ex.form (d:=d+ 1) (n:=n+ 0) (h:="get") (ts:=ts++[c]) (by lia) fun f hf=>⟨_,FRd.steady hp.2.1 hp.2.2.1 hp.2.2.2 hp.1 (SRd.expr (x.rd f (by lia)) (SRd.name hc SRd.nil)),BH f⟩
 simpa using z
theorem Ex.size (x:Ex d n ts):Ex (d+ 1) (n+ 1) ((["(","size"]:List Str)++ts++([")"]:List Str)):=by
 have hp:stP "size"=some [false]/\¬("size":Str)="rec"/\¬("size":Str)="case"/\¬("size":Str)="row":=by decide+kernel
 have z:=Ex.form (d:=d+ 1) (n:=n+ 0) (h:="size") (ts:=ts++[]) (by lia) fun f hf=>⟨_,FRd.steady hp.2.1 hp.2.2.1 hp.2.2.2 hp.1 (SRd.expr (x.rd f (by lia)) SRd.nil),BH f⟩
 simpa using z
theorem Ex.add {c:Str} (hc:Ex 1 1 [c]) (x:Ex d n ts):Ex (d+ 1) (n+ 2) ((["(","add",c]:List Str)++ts++([")"]:List Str)):=by
 have hp:stP "add"=some [false,false]/\¬("add":Str)="rec"/\¬("add":Str)="case"/\¬("add":Str)="row":=by decide+kernel
 have z:=Ex.form (d:=d+ 1) (n:=1+(n+ 0)) (h:="add") (ts:=[c]++(ts++[])) (by lia) fun f hf=>⟨_,FRd.steady hp.2.1 hp.2.2.1 hp.2.2.2 hp.1 (SRd.expr (hc.rd f (by lia)) (SRd.expr (x.rd f (by lia)) SRd.nil)),EI x.pos f⟩
 rw[show n+ 2=1+(n+ 0)+ 1 by lia]
 simpa using z
theorem Ex.call (x:Ex d n ts):Ex (d+ 1) (n+ 2) ((["(","call"]:List Str)++ts++(["0",")"]:List Str)):=by
 have hp:stP "call"=some [false,false]/\¬("call":Str)="rec"/\¬("call":Str)="case"/\¬("call":Str)="row":=by decide+kernel
 have z:=Ex.form (d:=d+ 1) (n:=n+(1+ 0)) (h:="call") (ts:=ts++((["0"]:List Str)++[])) (by lia) fun f hf=>⟨_,FRd.steady hp.2.1 hp.2.2.1 hp.2.2.2 hp.1 (SRd.expr (x.rd f (by lia)) (SRd.expr (ex0.rd f (by lia)) SRd.nil)),EJ x.pos f⟩
 simpa using z
end
instance {x:Str} {ts:List Str}:Decidable (Gp x ts):=inferInstanceAs (Decidable (_/\_))
instance {x:Str} {ts:List Str}:Decidable (Op x ts):=inferInstanceAs (Decidable (_=_))
theorem nmA:fu "a"=true/\fu "t"=true/\fu "x"=true/\fu "b"=true:=by decide+kernel
section
variable {d n:Nat} {ts:List Str}
end
def EK (l:List Str):List Str:=l.flatMap fun c=>[c,"x","x"]
theorem nm_ne {c:Str} (h:fu c=true):c≠")":=fun z=>by
 rw[z]at h
 exact absurd h (by decide+kernel)
theorem FP {f:Nat} (hf:f<=24):∀l:List Str,(∀c∈l,fu c=true)->MRd (iB (fJ f) [true,true,false]) (decide (l=[]\/1<=f)) l.length l.length (EK l)
 |[],_=>by
  rw[decide_eq_true (.inl rfl)]
  exact MRd.nil
 |c::l,h=>by
  have hc:=h c (ah ..)
  have ex1:Ex 1 1 ["x"]:=Ex.word (by decide+kernel) (by decide+kernel)
  have z:=MRd.cons (kX (iT f) _ (by simp)) rfl (nm_ne hc) (Dc (SRd.name hc (SRd.name nmA.2.2.1 (SRd.expr (ex1.rd f hf) SRd.nil)))) (FP hf l fun c hc=>h c (ai _ hc))
  have e:(decide (1<=f)&&true&&decide (l=[]\/1<=f))=decide (c::l=[]\/1<=f):=by
   by_cases q:1<=f<;>simp[q]
  rw[e,show 1+ 0+l.length=l.length+ 1 by lia]at z
  exact z
theorem FQ {f:Nat} (hf:f<=24) {c:Str} (hc:jb c=true) (hn:c≠")"):∀m:Nat,MRd (kr (fJ f)) (decide (m=0\/1<=f)) m m (aG m c)
 |0=>by
  rw[decide_eq_true (.inl rfl)]
  exact MRd.nil
 |m+ 1=>by
  have ex1:Ex 1 1 [c]:=Ex.word (.inl hc) hn
  have z:=MRd.cons (nQ (iT f)) rfl hn (Dd (ex1.rd f hf)) (FQ hf hc hn m)
  have e:(decide (1<=f)&&decide (m=0\/1<=f))=decide (m+ 1=0\/1<=f):=by
   by_cases q:1<=f<;>simp[q]
  rw[e,show 1+m=m+ 1 by lia]at z
  exact z
def dRec (m:Nat):Nat:=if m=0 then 1 else if m<=6 then 2 else 25
def yp (m:Nat):Nat:=if 1<=m/\m<=6 then 2 else 25
def D0 (m:Nat):Nat:=if m=0 then 1 else if m<=8 then 2 else 25
theorem Ex.cases {l:List Str} (h:∀c∈l,fu c=true):Ex (yp l.length) (l.length+ 2) (("(":Str)::("case":Str)::("0":Str)::(EK l++[(")":Str)])):=by
 have hd:1<=yp l.length:=by unfold yp;split<;>decide
 have z:=Ex.form (d:=yp l.length) (n:=1+l.length) (h:="case") (ts:=(["0"]:List Str)++EK l) hd fun f hf=>⟨_,FRd.cased (ex0.rd f (by lia)) (FP (by lia) l h),by
  unfold yp
  cases l with
  |nil=>simp;lia
  |cons c l=>
   simp only[az]
   by_cases q:l.length+ 1<=6<;>simp[q]<;>lia⟩
 rw[show l.length+ 2=1+l.length+ 1 by lia]
 simpa using z
theorem Ex.rows {c:Str} (hc:jb c=true) (hn:c≠")") (m:Nat):Ex (D0 m) (m+ 1) (("(":Str)::("row":Str)::(aG m c++[(")":Str)])):=by
 have hd:1<=D0 m:=by unfold D0;split<;>first|exact b6 _|(split<;>decide)
 refine Ex.form hd fun f hf=>⟨_,FRd.rowd (FQ (by lia) hc hn m),?_⟩
 unfold D0
 by_cases z:m=0
 ·subst z
  simp
 ·by_cases q:m<=8<;>simp[q,z]<;>lia
def Ap (x:Str) (ts:List Str):Prop:=∀y us,Op y us->Op (y++x) (us++ts)
theorem Ap.nil:Ap "" []:=fun y us h=>by
 have e:y++""=y:=T1.str_ext (by rw[jA];exact aD _)
 rw[e,aD]
 exact h
theorem Ap.word {x w z:Str} {ts:List Str} (h:Ap x ts) (hz:z=" "++w) (hw:Op w [w]):Ap (x++z) (ts++[w]):=fun y us o=>by
 rw[hz,<-cat_assoc,<-cat_assoc,<-bG]
 exact(h y us o).gap.app_op hw
structure PGm (x:Str) (due:Bool) (n:Nat):Prop where
 asc:∀c∈x.cps.toList,c<128
 len:x.length<=9999
 yes:due=true->∃names roots rows,lO (toks x)=some (names,roots,rows)/\rows.length=n
 no:due=false->lO (toks x)=none
structure DX (x:Str) (ok:Bool) (n m L:Nat):Prop where
 asc:∀c∈x.cps.toList,c<128
 len:x.length<=L
 rd:∃ts,Gp x ts/\DRd ok n m ts
structure Wr (h t:Str) (k:Nat):Prop where
 hl:h.length<=15
 tl:t.length<=5
 k3:k<=3
 on:∀x d n L,EX x d n L->EX (h++x++t) (d+ 1) (n+k) (L+ 20)
end GR.Internal
namespace TM.Internal
open PySem L2.Internal GR.Internal
inductive Kn
 |num (n:Int)
 |name (w:Str)
 |fn (w:Str)
 |tag (w:Str)
 |lt (w:Str)
 |get (w:Str)
 |rcd (l:List Str)
 |case (l:List (Str×Str))
 |row (m:Nat)
 |op (s:Str) (m:Nat)
inductive Tr
 |mk (κ:Kn) (ks:List Tr)
def ops:List (Str×Nat):=[("call",2),("at",3),("join",2),("size",1),("add",2),("sub",2),("less",2)]
def Kn.ar:Kn->Nat
 | .num _=>0
 | .name _=>0
 | .fn _=>1
 | .tag _=>1
 | .lt _=>2
 | .get _=>1
 | .rcd l=>l.length
 | .case l=>l.length+ 1
 | .row m=>m
 | .op _ m=>m
def numS (n:Int):Str:=PySem.Str.ofString (toString n)
def Kn.ok:Kn->Prop
 | .num n=>0<=n/\n<10^60
 | .name w=>fu w=true
 | .fn w=>fu w=true
 | .tag w=>fu w=true
 | .lt w=>fu w=true
 | .get w=>fu w=true
 | .rcd l=>l.length<=6/\∀w∈l,fu w=true
 | .case l=>1<=l.length/\l.length<=6/\∀p∈l,fu p.1=true/\fu p.2=true
 | .row m=>m<=8
 | .op s m=>(s,m)∈ops
mutual
def Tr.sz:Tr->Nat
 | .mk _ ks=>1+szs ks
def szs:List Tr->Nat
 |[]=>0
 |t::ts=>t.sz+szs ts
end
mutual
def Tr.nest:Tr->Nat
 | .mk _ ks=>1+zQ ks
def zQ:List Tr->Nat
 |[]=>0
 |t::ts=>max t.nest (zQ ts)
end
mutual
def Tr.ok:Tr->Prop
 | .mk κ ks=>κ.ok/\ks.length=κ.ar/\oks ks
def oks:List Tr->Prop
 |[]=>True
 |t::ts=>t.ok/\oks ts
end
def wv1:List Str->List (List Str)->List Str
 |w::l,k::ks=>w::(k++wv1 l ks)
 |_,_=>[]
def wv2:List (Str×Str)->List (List Str)->List Str
 |p::l,k::ks=>p.1::p.2::(k++wv2 l ks)
 |_,_=>[]
def Kn.ws:Kn->List (List Str)->List Str
 | .fn w,ks=>w::ks.flatten
 | .tag w,ks=>w::ks.flatten
 | .lt w,ks=>w::ks.flatten
 | .get w,ks=>ks.flatten++[w]
 | .rcd l,ks=>wv1 l ks
 | .case l,k::ks=>k++wv2 l ks
 |_,ks=>ks.flatten
def Kn.s:Kn->Str
 | .num _=>"num"
 | .name _=>"name"
 | .fn _=>"fn"
 | .tag _=>"tag"
 | .lt _=>"let"
 | .get _=>"get"
 | .rcd _=>"rec"
 | .case _=>"case"
 | .row _=>"row"
 | .op s _=>s
def Kn.tk (κ:Kn) (ks:List (List Str)):List Str:=match κ with
 | .num n=>[numS n]
 | .name w=>[w]
 |κ=>("(":Str)::κ.s::(κ.ws ks++[(")":Str)])
mutual
def Tr.tk:Tr->List Str
 | .mk κ ks=>κ.tk (tks ks)
def tks:List Tr->List (List Str)
 |[]=>[]
 |t::ts=>t.tk::tks ts
end
def sD (s:Str):Dt:= .flat (.str s)
def kD (k:Nat):Dt:= .flat (.int (k:Int))
def Kn.rw (κ:Kn) (ps:List Nat):List Dt:=match κ,ps with
 | .num n,_=>[sD "num",.flat (.int n)]
 | .name w,_=>[sD "name",sD w]
 | .fn w,ps=>sD "fn"::sD w::ps.map kD
 | .tag w,ps=>sD "tag"::sD w::ps.map kD
 | .lt w,ps=>sD "let"::sD w::ps.map kD
 | .get w,ps=>sD "get"::(ps.map kD++[sD w])
 | .rcd l,ps=>[sD "rec",.tup ((l.zip ps).map fun p=> .tup [sD p.1,kD p.2])]
 | .case l,p::ps=>[sD "case",kD p,.tup ((l.zip ps).map fun p=> .tup [sD p.1.1,sD p.1.2,kD p.2])]
 | .case _,[]=>[]
 | .row _,ps=>[sD "row",.tup (ps.map kD)]
 | .op s _,ps=>sD s::ps.map kD
def offs:List Tr->Nat->List Nat
 |[],_=>[]
 |t::ts,p=>p::offs ts (p+t.sz)
mutual
def Tr.rw:Tr->Nat->List Dt
 | .mk κ ks,p=> .tup (κ.rw (offs ks (p+ 1)))::rws ks (p+ 1)
def rws:List Tr->Nat->List Dt
 |[],_=>[]
 |t::ts,p=>t.rw p++rws ts (p+t.sz)
end
theorem rF:∀(ts:List Tr) (p:Nat),(offs ts p).length=ts.length
 |[],_=>rfl
 |t::ts,p=>by rw[offs,az,az,rF ts]
mutual
theorem Tr.rw_len:∀(t:Tr) (p:Nat),(t.rw p).length=t.sz
 | .mk κ ks,p=>by rw[Tr.rw,az,yq ks,Tr.sz];lia
theorem yq:∀(ts:List Tr) (p:Nat),(rws ts p).length=szs ts
 |[],_=>by rw[rws,szs];rfl
 |t::ts,p=>by rw[rws,szs,aN,Tr.rw_len t,yq ts]
end
theorem zR:fu ")"=false/\jb ")"=false:=by decide+kernel
theorem uG {w:Str} (h:fu w=true):w≠")":=fun z=>by rw[z,zR.1]at h;cases h
def RdT (pe:Pe) (t:Tr):Prop:=∀(rest:List Str) (rows:List Dt),rows.length+t.sz<=160->pe (t.tk++rest) rows=some (rest,rows++t.rw rows.length)
def Df (pe:Pe) (ts:List Tr):Prop:=∀t∈ts,RdT pe t
theorem pI {pe:Pe} {ps:List Bool} {acc rows:List Dt} {x:Str} {r:List Str} (h:fu x=true):fF pe (true::ps) acc (x::r) rows=fF pe ps (acc++[sD x]) r rows:=by
 rw[fF]
 exact if_pos h
theorem yr {pe:Pe} {ps:List Bool} {acc rows rows':List Dt} {ws r:List Str} (h:pe ws rows=some (r,rows')):fF pe (false::ps) acc ws rows=fF pe ps (acc++[kD rows.length]) r rows':=by
 rw[fF,h]
 rfl
theorem oP {pe:Pe}:∀(ts:List Tr),Df pe ts->∀(ps:List Bool) (acc:List Dt) (rest:List Str) (rows:List Dt),rows.length+szs ts<=160->
  fF pe (aG ts.length false++ps) acc ((tks ts).flatten++rest) rows=fF pe ps (acc++(offs ts rows.length).map kD) rest (rows++rws ts rows.length)
 |[],_,ps,acc,rest,rows,_=>by simp[tks,offs,rws]
 |t::ts,h,ps,acc,rest,rows,hl=>by
  rw[szs]at hl
  have h1:=h t ah ((tks ts).flatten++rest) rows (by lia)
  rw[tks,List.flatten_cons,bG,az,List.replicate_succ,aQ,fF,h1]
  dsimp only
  have hlen:(rows++t.rw rows.length).length=rows.length+t.sz:=by rw[aN,Tr.rw_len]
  rw[oP ts (fun x hx=>h x (ai _ hx)) ps _ rest _ (by rw[hlen];lia),hlen,offs,rws,aB,bG,bG]
  rfl
theorem BI:∀(t:Tr),t.ok->∃x r,t.tk=x::r/\x≠")"
 | .mk κ ks,h=>by
  rw[Tr.ok]at h
  rw[Tr.tk]
  cases κ with
  |num n=>
   refine⟨_,_,rfl,fun z=>?_⟩
   have hf:=str_fig (k:=59) h.1.1 h.1.2
   have:(41:Nat)∈(numS n).cps.toList:=by rw[z];decide+kernel
   have:=hf.1 41 this
   exact absurd this (by decide+kernel)
  |name w=>exact⟨_,_,rfl,uG h.1⟩
  |_=>exact⟨_,_,rfl,by decide+kernel⟩
theorem uH {item:List Str->List Dt->Option (Dt×Rs)} {ws r:List Str} {rows rows' acc:List Dt} {d:Dt} (h:∃x r,ws=x::r/\x≠(")":Str)) (hi:item ws rows=some (d,r,rows')) (hl:r.length<ws.length):iE item ws rows acc=iE item r rows' (acc++[d]):=by
 obtain⟨x,r0,rfl,hx⟩:=h
 have h':¬(x::r0).head?=some (")":Str):=fun z=>hx (cz.inj z)
 rw[iE]
 refine(if_neg h').trans ?_
 rw[hi]
 exact dif_pos hl
theorem pJ {item:List Str->List Dt->Option (Dt×Rs)} {r:List Str} {rows acc:List Dt}:iE item ((")":Str)::r) rows acc=some (acc,(")":Str)::r,rows):=lg _ _ _ rfl
theorem tI {pe:Pe}:∀(ts:List Tr),Df pe ts->oks ts->∀(acc:List Dt) (rest:List Str) (rows:List Dt),rows.length+szs ts<=160->
  iE (kr pe) ((tks ts).flatten++(")":Str)::rest) rows acc=some (acc++(offs ts rows.length).map kD,(")":Str)::rest,rows++rws ts rows.length)
 |[],_,_,acc,rest,rows,_=>by
  show iE _ ((")":Str)::rest) rows acc=_
  rw[pJ]
  simp[offs,rws]
 |t::ts,h,ho,acc,rest,rows,hl=>by
  rw[szs]at hl
  rw[oks]at ho
  obtain⟨x,r,ex,hx⟩:=BI t ho.1
  have h1:=h t ah ((tks ts).flatten++(")":Str)::rest) rows (by lia)
  have hlen:(rows++t.rw rows.length).length=rows.length+t.sz:=by rw[aN,Tr.rw_len]
  rw[tks,List.flatten_cons,bG]
  rw[uH (d:=kD rows.length) (r:=(tks ts).flatten++(")":Str)::rest) (rows':=rows++t.rw rows.length) ⟨x,_,by rw[ex];rfl,hx⟩ (by unfold kr;rw[h1];rfl) (by rw[ex,aQ,az,aN (as:=r)];lia),tI ts (fun x hx=>h x (ai _ hx)) ho.2 _ rest _ (by rw[hlen];lia),hlen,offs,rws,aB,bG,bG]
  rfl
theorem pK {pe:Pe}:∀(l:List Str) (ts:List Tr),l.length=ts.length->(∀w∈l,fu w=true)->Df pe ts->∀(acc:List Dt) (rest:List Str) (rows:List Dt),rows.length+szs ts<=160->
  iE (iB pe [true,false]) (wv1 l (tks ts)++(")":Str)::rest) rows acc=some (acc++(l.zip (offs ts rows.length)).map (fun p=> .tup [sD p.1,kD p.2]),(")":Str)::rest,rows++rws ts rows.length)
 |[],[],_,_,_,acc,rest,rows,_=>by
  show iE _ ((")":Str)::rest) rows acc=_
  rw[pJ]
  simp[offs,rws]
 |w::l,t::ts,hl0,hw,h,acc,rest,rows,hl=>by
  rw[szs]at hl
  have h1:=h t ah (wv1 l (tks ts)++(")":Str)::rest) rows (by lia)
  have hn:=hw w ah
  have hlen:(rows++t.rw rows.length).length=rows.length+t.sz:=by rw[aN,Tr.rw_len]
  rw[tks,wv1,aQ,bG]
  have hi:iB pe [true,false] (w::(t.tk++(wv1 l (tks ts)++(")":Str)::rest))) rows=some (.tup [sD w,kD rows.length],wv1 l (tks ts)++(")":Str)::rest,rows++t.rw rows.length):=by
   have e:fF pe [true,false] [] (w::(t.tk++(wv1 l (tks ts)++(")":Str)::rest))) rows=some ([sD w,kD rows.length],wv1 l (tks ts)++(")":Str)::rest,rows++t.rw rows.length):=by
    rw[pI hn,yr h1]
    rfl
   unfold iB
   rw[e]
  rw[uH ⟨_,_,rfl,uG hn⟩ hi (by simp only[az,aN];lia),pK l ts (by simpa using hl0) (fun x hx=>hw x (ai _ hx)) (fun x hx=>h x (ai _ hx)) _ rest _ (by rw[hlen];lia),hlen,offs,rws,List.zip_cons_cons,aB,bG,bG]
  rfl
theorem tK {pe:Pe}:∀(l:List (Str×Str)) (ts:List Tr),l.length=ts.length->(∀p∈l,fu p.1=true/\fu p.2=true)->Df pe ts->∀(acc:List Dt) (rest:List Str) (rows:List Dt),rows.length+szs ts<=160->
  iE (iB pe [true,true,false]) (wv2 l (tks ts)++(")":Str)::rest) rows acc=some (acc++(l.zip (offs ts rows.length)).map (fun p=> .tup [sD p.1.1,sD p.1.2,kD p.2]),(")":Str)::rest,rows++rws ts rows.length)
 |[],[],_,_,_,acc,rest,rows,_=>by
  show iE _ ((")":Str)::rest) rows acc=_
  rw[pJ]
  simp[offs,rws]
 |w::l,t::ts,hl0,hw,h,acc,rest,rows,hl=>by
  rw[szs]at hl
  have h1:=h t ah (wv2 l (tks ts)++(")":Str)::rest) rows (by lia)
  obtain⟨hn,hn2⟩:=hw w ah
  have hlen:(rows++t.rw rows.length).length=rows.length+t.sz:=by rw[aN,Tr.rw_len]
  rw[tks,wv2,aQ,aQ,bG]
  have hi:iB pe [true,true,false] (w.1::w.2::(t.tk++(wv2 l (tks ts)++(")":Str)::rest))) rows=some (.tup [sD w.1,sD w.2,kD rows.length],wv2 l (tks ts)++(")":Str)::rest,rows++t.rw rows.length):=by
   have e:fF pe [true,true,false] [] (w.1::w.2::(t.tk++(wv2 l (tks ts)++(")":Str)::rest))) rows=some ([sD w.1,sD w.2,kD rows.length],wv2 l (tks ts)++(")":Str)::rest,rows++t.rw rows.length):=by
    rw[pI hn,pI hn2,yr h1]
    rfl
   unfold iB
   rw[e]
  rw[uH ⟨_,_,rfl,uG hn⟩ hi (by simp only[az,aN];lia),tK l ts (by simpa using hl0) (fun x hx=>hw x (ai _ hx)) (fun x hx=>h x (ai _ hx)) _ rest _ (by rw[hlen];lia),hlen,offs,rws,List.zip_cons_cons,aB,bG,bG]
  rfl
theorem yt {rows more:List Dt} {x y:Dt}:(rows++[x]++more).set rows.length y=rows++y::more:=by
 rw[bG,List.set_append_right _ _ (b6 _),cn]
 rfl
theorem lY {f:Nat} {h:Str} {ws rest:List Str} {rows ds more:List Dt} (hr:rows.length<160) (hf:iS (fJ f) h (ws++(")":Str)::rest) (rows++[.flat .non])=some (ds,(")":Str)::rest,rows++[.flat .non]++more)):
  fJ (f+ 1) (("(":Str)::h::(ws++[(")":Str)])++rest) rows=some (rest,rows++ .tup ds::more):=by
 rw[fJ,if_neg (by lia)]
 show(match qD (fJ f) (("(":Str)::h::((ws++[(")":Str)])++rest)) (rows++[Dt.flat .non])with|none=>none|some (ds,r,rows')=>some (r,rows'.set rows.length (Dt.tup ds)))=_
 rw[uF oO.1 oO.2 rfl,bG]
 show(match lX (iS (fJ f) h (ws++(")":Str)::rest) (rows++[Dt.flat .non]))with|none=>none|some (ds,r,rows')=>some (r,rows'.set rows.length (Dt.tup ds)))=_
 rw[hf]
 show(match(if(")":Str)=")" then some (ds,rest,rows++[Dt.flat .non]++more)else none)with|none=>none|some (ds,r,rows')=>some (r,rows'.set rows.length (Dt.tup ds)))=_
 rw[if_pos rfl]
 show some (rest,(rows++[Dt.flat .non]++more).set rows.length (Dt.tup ds))=_
 rw[yt]
theorem mL {pe:Pe} {h:Str} {ps:List Bool} {ws r:List Str} {rows ds rows':List Dt} (h1:¬h="rec") (h2:¬h="case") (h3:¬h="row") (hp:stP h=some ps) (s:fF pe ps [] ws rows=some (ds,r,rows')):iS pe h ws rows=some (sD h::ds,r,rows'):=by
 unfold iS
 rw[if_neg h1,if_neg h2,if_neg h3,hp]
 dsimp only
 rw[s]
 rfl
theorem Dg:∀p∈ops,stP p.1=some (aG p.2 false)/\¬p.1="rec"/\¬p.1="case"/\¬p.1="row":=by decide+kernel
theorem num_is {n:Int} (h0:0<=n) (h1:n<10^60):jb (numS n)=true/\tj (numS n)=n:=by
 refine⟨GR.Internal.num_is (k:=59) h0 h1 (by decide),?_⟩
 obtain⟨f1,f2,f3⟩:=str_fig (k:=59) h0 h1
 have hd:PySem.NumText.AllDigits (numS n).cps.toList:=fun c hc=>vK c (f1 c hc)
 have hne:(numS n).cps.toList≠[]:=by
  obtain⟨c,r,e⟩:=first_of (x:=numS n) f2
  rw[e]
  exact List.cons_ne_nil _ _
 have hl:(numS n).length<=60:=f3
 have e:=PySem.intText_digits hd hne (by lia)
 unfold tj
 rw[e]
 obtain⟨m,rfl⟩:=d7 h0
 unfold numS
 rw[PySem.W.KIN.signs_num,PySem.W.KIN.val_back]
 rfl
theorem EM:∀c∈SM.cps.toList,¬c∈FG.cps.toList:=by decide+kernel
theorem BJ {w:Str} (h:fu w=true):¬jb w=true:=fun z=>by
 obtain⟨z1,_,z3⟩:=pG z
 obtain⟨c,r,ec⟩:=first_of z1
 unfold fu at h
 simp only[dP]at h
 have hf:=h.1.2
 unfold pE at hf
 rw[ec]at hf
 exact EM c (of_decide_eq_true hf) (tD z3 c (by rw[ec];exact ah))
theorem rd_all:∀(f:Nat) (t:Tr),t.ok->t.nest<=f->RdT (fJ f) t
 |0,.mk κ ks,_,hn=>by rw[Tr.nest]at hn;lia
 |f+ 1,.mk κ ks,ho,hn=>by
  intro rest rows hl
  rw[Tr.ok]at ho
  rw[Tr.nest]at hn
  rw[Tr.sz]at hl
  obtain⟨h1,h2,h3⟩:=ho
  have ih:Df (fJ f) ks:=by
   intro t ht
   have:t.ok/\t.nest<=zQ ks:=by
    clear hl h1 h2
    induction ks with
    |nil=>cases ht
    |cons x xs ih=>
     rw[oks]at h3
     rw[zQ]at hn⊢
     rcases aj.mp ht with e|e
     ·subst e
      exact⟨h3.1,Nat.le_max_left _ _⟩
     ·have:=ih (by lia) h3.2 e
      exact⟨this.1,by lia⟩
   exact rd_all f t this.1 (by lia)
  have r1:(rows++[Dt.flat .non]).length=rows.length+ 1:=by rw[aN];rfl
  have hs:∀(s:Str) (ps:List Bool),ps=aG ks.length false->stP s=some ps->(¬s="rec"/\¬s="case"/\¬s="row")->iS (fJ f) s ((tks ks).flatten++(")":Str)::rest) (rows++[.flat .non])=some (sD s::(offs ks (rows.length+ 1)).map kD,(")":Str)::rest,rows++[.flat .non]++rws ks (rows.length+ 1)):=fun s ps e1 e2 e3=>by
   refine mL e3.1 e3.2.1 e3.2.2 e2 ?_
   have:=oP ks ih [] [] ((")":Str)::rest) (rows++[.flat .non]) (by rw[r1];lia)
   rw[aD]at this
   rw[e1,this,r1,fF]
   rfl
  have hn1:∀(s w:Str),fu w=true->stP s=some (true::aG ks.length false)->(¬s="rec"/\¬s="case"/\¬s="row")->iS (fJ f) s (w::(tks ks).flatten++(")":Str)::rest) (rows++[.flat .non])=some (sD s::sD w::(offs ks (rows.length+ 1)).map kD,(")":Str)::rest,rows++[.flat .non]++rws ks (rows.length+ 1)):=fun s w hw e2 e3=>by
   refine mL e3.1 e3.2.1 e3.2.2 e2 ?_
   rw[aQ,pI hw]
   have:=oP ks ih [] [sD w] ((")":Str)::rest) (rows++[.flat .non]) (by rw[r1];lia)
   rw[aD]at this
   show fF (fJ f) (aG ks.length false) [sD w] _ _=_
   rw[this,r1,fF]
   rfl
  rw[Tr.tk,Tr.rw]
  cases κ with
  |num n=>
   have e:ks=[]:=bJ h2
   subst e
   obtain⟨n1,n2⟩:=num_is h1.1 h1.2
   rw[fJ,if_neg (by lia)]
   show(match qD (fJ f) (numS n::rest) (rows++[Dt.flat .non])with|none=>none|some (ds,r,rows')=>some (r,rows'.set rows.length (Dt.tup ds)))=_
   rw[uE n1,n2]
   show some (rest,(rows++[Dt.flat .non]).set rows.length (Dt.tup _))=_
   have:=yt (rows:=rows) (more:=[]) (x:=Dt.flat .non) (y:=Dt.tup [Dt.flat (.str "num"),Dt.flat (.int n)])
   rw[aD]at this
   rw[this]
   rfl
  |name w=>
   have e:ks=[]:=bJ h2
   subst e
   have hw:fu w=true:=h1
   have hnn:¬jb w=true:=BJ hw
   rw[fJ,if_neg (by lia)]
   show(match qD (fJ f) (w::rest) (rows++[Dt.flat .non])with|none=>none|some (ds,r,rows')=>some (r,rows'.set rows.length (Dt.tup ds)))=_
   rw[rC hnn hw]
   show some (rest,(rows++[Dt.flat .non]).set rows.length (Dt.tup _))=_
   have:=yt (rows:=rows) (more:=[]) (x:=Dt.flat .non) (y:=Dt.tup [Dt.flat (.str "name"),Dt.flat (.str w)])
   rw[aD]at this
   rw[this]
   rfl
  |fn w=>exact lY (by lia) (hn1 "fn" w h1 (by rw[h2];exact(show stP "fn"=some (true::aG 1 false)from by decide+kernel)) (by decide+kernel))
  |tag w=>exact lY (by lia) (hn1 "tag" w h1 (by rw[h2];exact(show stP "tag"=some (true::aG 1 false)from by decide+kernel)) (by decide+kernel))
  |lt w=>exact lY (by lia) (hn1 "let" w h1 (by rw[h2];exact(show stP "let"=some (true::aG 2 false)from by decide+kernel)) (by decide+kernel))
  |get w=>
   refine lY (by lia) ?_
   refine mL (h:="get") (by decide+kernel) (by decide+kernel) (by decide+kernel) (show stP "get"=some (aG ks.length false++[true]) by rw[h2];exact(show stP "get"=some (aG 1 false++[true])from by decide+kernel)) ?_
   have:=oP ks ih [true] [] (w::(")":Str)::rest) (rows++[.flat .non]) (by rw[r1];lia)
   show fF (fJ f) _ [] (((tks ks).flatten++[w])++(")":Str)::rest) _=_
   rw[bG]
   show fF (fJ f) _ [] ((tks ks).flatten++(w::(")":Str)::rest)) _=_
   rw[this,r1,pI (show fu w=true from h1),fF]
   rfl
  |rcd l=>
   refine lY (by lia) ?_
   have:=pK l ks h2.symm h1.2 ih [] rest (rows++[.flat .non]) (by rw[r1];lia)
   show iS (fJ f) "rec" _ _=_
   unfold iS
   rw[if_pos rfl]
   show(match chk 0 6 (iE (iB (fJ f) [true,false]) (wv1 l (tks ks)++(")":Str)::rest) (rows++[Dt.flat .non]) [])with|none=>none|some (l,r)=>some ([Dt.flat (.str "rec"),Dt.tup l],r))=_
   rw[this,r1]
   unfold chk
   dsimp only
   rw[if_pos ⟨b7 _,by rw[bK,aC,bL];have:=h1.1;lia⟩]
   rfl
  |row m=>
   refine lY (by lia) ?_
   have:=tI ks ih h3 [] rest (rows++[.flat .non]) (by rw[r1];lia)
   show iS (fJ f) "row" _ _=_
   unfold iS
   rw[if_neg (by decide+kernel),if_neg (by decide+kernel),if_pos rfl]
   show(match chk 0 8 (iE (kr (fJ f)) ((tks ks).flatten++(")":Str)::rest) (rows++[Dt.flat .non]) [])with|none=>none|some (l,r)=>some ([Dt.flat (.str "row"),Dt.tup l],r))=_
   rw[this,r1]
   unfold chk
   dsimp only
   have h8:m<=8:=h1
   have hk:ks.length=m:=h2
   rw[if_pos ⟨b7 _,by rw[bK,aC,rF];lia⟩]
   rfl
  |op s m=>
   obtain⟨e1,e2⟩:=Dg (s,m) h1
   exact lY (by lia) (hs s _ (by rw[h2];rfl) e1 e2)
  |case l=>
   cases ks with
   |nil=>exact absurd h2 (by simp[Kn.ar])
   |cons t ts=>
    have hl2:l.length=ts.length:=by simpa[Kn.ar]using h2.symm
    refine lY (by lia) ?_
    rw[szs]at hl
    have hlen:(rows++[Dt.flat .non]++t.rw (rows.length+ 1)).length=rows.length+ 1+t.sz:=by rw[aN,Tr.rw_len,r1]
    have a1:=ih t ah (wv2 l (tks ts)++(")":Str)::rest) (rows++[.flat .non]) (by rw[r1];lia)
    rw[r1]at a1
    have a2:=tK l ts hl2 h1.2.2 (fun x hx=>ih x (ai _ hx)) [] rest (rows++[.flat .non]++t.rw (rows.length+ 1)) (by rw[hlen];lia)
    show iS (fJ f) "case" _ _=_
    unfold iS
    rw[if_neg (by decide+kernel),if_pos rfl]
    show(match fJ f ((t.tk++wv2 l (tks ts))++(")":Str)::rest) (rows++[Dt.flat .non])with|none=>none|some (r1,rows1)=>match chk 1 6 (iE (iB (fJ f) [true,true,false]) r1 rows1 [])with|none=>none|some (l,r)=>some ([Dt.flat (.str "case"),Dt.flat (.int ((rows++[Dt.flat .non]).length:Int)),Dt.tup l],r))=_
    rw[bG,a1]
    dsimp only
    rw[a2,hlen]
    unfold chk
    dsimp only
    rw[if_pos ⟨by rw[bK,aC,bL,rF];have:=h1.1;lia,by rw[bK,aC,bL];have:=h1.2.1;lia⟩,r1]
    show some ([sD "case",kD (rows.length+ 1),Dt.tup _],(")":Str)::rest,rows++[Dt.flat .non]++t.rw (rows.length+ 1)++rws ts (rows.length+ 1+t.sz))=_
    rw[rws,offs,bG]
    rfl
end TM.Internal
namespace K63.Internal
open PySem L2.Internal
theorem l0 {P:List Value->Prop} (h:P []):∀us:List Value,us.length=0->P us:=fun us e=>by rw[bJ e];exact h
theorem lS {n:Nat} {P:List Value->Prop} (h:∀a,∀us:List Value,us.length=n->P (a::us)):∀us:List Value,us.length=n+ 1->P us:=fun us e=>by
 cases us with
 |nil=>cases e
 |cons a t=>exact h a t (Nat.succ.inj e)
def top (i:Nat):Stmt:=PySem.Challenge.pw_flowkinds_k63_turning_round.main.body.getD i (.Pass ⟨0,0,0,0⟩)
abbrev jH:Stmt:=top 6
abbrev jk:Stmt:=top 7
abbrev pL:Stmt:=top 8
abbrev iF:Stmt:=top 12
abbrev iU:Stmt:=top 13
abbrev jI:Stmt:=top 14
abbrev jl:Stmt:=top 15
abbrev kz:Stmt:=top 16
abbrev jm:Stmt:=top 17
abbrev jJ:Stmt:=top 18
abbrev kl:Stmt:=top 19
abbrev km:Stmt:=top 20
abbrev jK:Stmt:=top 21
abbrev jn:Stmt:=top 22
abbrev jL:Stmt:=top 23
abbrev kY:Stmt:=top 24
abbrev jo:Stmt:=top 25
abbrev jM:Stmt:=top 26
abbrev jN:Stmt:=top 27
abbrev jO:Stmt:=top 28
abbrev jq:Stmt:=top 29
abbrev uI:Stmt:=top 33
abbrev jP:Stmt:=top 48
abbrev kA:Stmt:=top 49
abbrev jr:Stmt:=top 50
abbrev kB:Stmt:=top 51
abbrev pM:Stmt:=top 52
abbrev iG:Stmt:=top 53
abbrev jQ:Stmt:=top 56
abbrev ig:Stmt:=top 57
abbrev iV:Stmt:=top 58
abbrev kC:Stmt:=top 59
abbrev iH:Stmt:=top 60
abbrev ij:Stmt:=top 61
abbrev kE:Stmt:=top 62
abbrev iW:Stmt:=top 64
abbrev ik:Stmt:=top 65
abbrev jt:Stmt:=top 66
abbrev iX:Stmt:=top 67
abbrev jR:Stmt:=top 68
abbrev jS:Stmt:=top 69
abbrev rG:Stmt:=top 70
abbrev gw:Stmt:=gO (top 11) 0
abbrev fY:Stmt:=gO (top 11) 1
abbrev f9:Stmt:=gO (top 11) 2
abbrev hG:Stmt:=gO (top 11) 3
abbrev gb:Stmt:=gO (top 11) 4
abbrev gf:Stmt:=gO (top 11) 5
abbrev gQ:Stmt:=gO (top 11) 6
abbrev gI:Stmt:=gO (top 11) 7
abbrev hI:Stmt:=gO (top 11) 8
abbrev gx:Stmt:=gO (top 11) 9
abbrev fZ:Stmt:=gO (top 11) 10
abbrev ip:Stmt:=gO (top 32) 0
abbrev gy:Stmt:=gO (top 47) 0
abbrev gJ:Stmt:=gO (top 54) 0
abbrev iq:Stmt:=gO (top 54) 1
abbrev iI:Stmt:=gO (top 54) 2
abbrev gz:Stmt:=gO (top 54) 3
abbrev gA:Stmt:=gO (top 54) 4
abbrev gB:Stmt:=gO (top 54) 5
abbrev gK:Stmt:=gO (top 54) 6
abbrev gC:Stmt:=gO (top 54) 7
abbrev gh:Stmt:=gO (top 54) 8
abbrev gj:Stmt:=gO (top 54) 9
abbrev gE:Stmt:=gO (top 54) 10
abbrev gm:Stmt:=gO (top 54) 11
set_option genInjectivity false in
set_option genSizeOf false in
structure Txt (K:PySem.W.Frag) (mg:Str->Option Value) where
 t_MOST_JOINED:Tok
 m_MOST_JOINED:mg "MOST_JOINED"=some (.int 60 t_MOST_JOINED)
 t_LETTERS:Tok
 m_LETTERS:mg "LETTERS"=some (.str "abcdefghijklmnopqrstuvwxyz" t_LETTERS)
 t_FIGURES:Tok
 m_FIGURES:mg "FIGURES"=some (.str "0123456789" t_FIGURES)
 a_KEPT_WORDS:Addr
 m_KEPT_WORDS:mg "KEPT_WORDS"=some (.ref a_KEPT_WORDS)
 q_KEPT_WORDS:∀H:Hp,SqT K H a_KEPT_WORDS [V.str "def",V.str "fn",V.str "call",V.str "let",V.str "rec",V.str "get",V.str "tag",V.str "case",V.str "row",V.str "at",V.str "join",V.str "size",V.str "add",V.str "sub",V.str "less"]
 t_MOST_FIGURES:Tok
 m_MOST_FIGURES:mg "MOST_FIGURES"=some (.int 60 t_MOST_FIGURES)
 t_MOST_SIGNS:Tok
 m_MOST_SIGNS:mg "MOST_SIGNS"=some (.int 12 t_MOST_SIGNS)
 t_MOST_DEFINITIONS:Tok
 m_MOST_DEFINITIONS:mg "MOST_DEFINITIONS"=some (.int 12 t_MOST_DEFINITIONS)
 t_MOST_FIELDS:Tok
 m_MOST_FIELDS:mg "MOST_FIELDS"=some (.int 6 t_MOST_FIELDS)
 t_MOST_ARMS:Tok
 m_MOST_ARMS:mg "MOST_ARMS"=some (.int 6 t_MOST_ARMS)
 t_MOST_THINGS:Tok
 m_MOST_THINGS:mg "MOST_THINGS"=some (.int 8 t_MOST_THINGS)
 t_MOST_PLACES:Tok
 m_MOST_PLACES:mg "MOST_PLACES"=some (.int 160 t_MOST_PLACES)
 t_MOST_NEST:Tok
 m_MOST_NEST:mg "MOST_NEST"=some (.int 24 t_MOST_NEST)
 a_parts_of:Addr
 fd_parts_of:FuncData
 F_parts_of:Fun K "parts_of" "parts_of" jH a_parts_of fd_parts_of
 b_parts_of:fW K fd_parts_of ["row"] []
 m_parts_of:mg "parts_of"=some (.ref a_parts_of)
 k_parts_of:cZ K (.ref a_parts_of)=true
 a_places_in:Addr
 fd_places_in:FuncData
 F_places_in:Fun K "places_in" "places_in" jk a_places_in fd_places_in
 b_places_in:fW K fd_places_in ["row"] []
 m_places_in:mg "places_in"=some (.ref a_places_in)
 k_places_in:cZ K (.ref a_places_in)=true
 a_flat:Addr
 fd_flat:FuncData
 F_flat:Fun K "flat" "flat" pL a_flat fd_flat
 b_flat:fW K fd_flat ["parts"] []
 m_flat:mg "flat"=some (.ref a_flat)
 k_flat:cZ K (.ref a_flat)=true
 a_first_parts:Addr
 fd_first_parts:FuncData
 F_first_parts:Fun K "first_parts" "first_parts" iF a_first_parts fd_first_parts
 b_first_parts:fW K fd_first_parts ["row"] []
 m_first_parts:mg "first_parts"=some (.ref a_first_parts)
 k_first_parts:cZ K (.ref a_first_parts)=true
 a_held_value:Addr
 fd_held_value:FuncData
 F_held_value:Fun K "held_value" "held_value" iU a_held_value fd_held_value
 b_held_value:fW K fd_held_value ["scope","place"] []
 m_held_value:mg "held_value"=some (.ref a_held_value)
 k_held_value:cZ K (.ref a_held_value)=true
 a_work_num:Addr
 fd_work_num:FuncData
 F_work_num:Fun K "work_num" "work_num" jI a_work_num fd_work_num
 b_work_num:fW K fd_work_num ["machine","row","place","scope","parts"] []
 m_work_num:mg "work_num"=some (.ref a_work_num)
 k_work_num:cZ K (.ref a_work_num)=true
 a_work_name:Addr
 fd_work_name:FuncData
 F_work_name:Fun K "work_name" "work_name" jl a_work_name fd_work_name
 b_work_name:fW K fd_work_name ["machine","row","place","scope","parts"] []
 m_work_name:mg "work_name"=some (.ref a_work_name)
 k_work_name:cZ K (.ref a_work_name)=true
 a_work_fn:Addr
 fd_work_fn:FuncData
 F_work_fn:Fun K "work_fn" "work_fn" kz a_work_fn fd_work_fn
 b_work_fn:fW K fd_work_fn ["machine","row","place","scope","parts"] []
 m_work_fn:mg "work_fn"=some (.ref a_work_fn)
 k_work_fn:cZ K (.ref a_work_fn)=true
 a_work_call:Addr
 fd_work_call:FuncData
 F_work_call:Fun K "work_call" "work_call" jm a_work_call fd_work_call
 b_work_call:fW K fd_work_call ["machine","row","place","scope","parts"] []
 m_work_call:mg "work_call"=some (.ref a_work_call)
 k_work_call:cZ K (.ref a_work_call)=true
 a_work_let:Addr
 fd_work_let:FuncData
 F_work_let:Fun K "work_let" "work_let" jJ a_work_let fd_work_let
 b_work_let:fW K fd_work_let ["machine","row","place","scope","parts"] []
 m_work_let:mg "work_let"=some (.ref a_work_let)
 k_work_let:cZ K (.ref a_work_let)=true
 a_work_rec:Addr
 fd_work_rec:FuncData
 F_work_rec:Fun K "work_rec" "work_rec" kl a_work_rec fd_work_rec
 b_work_rec:fW K fd_work_rec ["machine","row","place","scope","parts"] []
 m_work_rec:mg "work_rec"=some (.ref a_work_rec)
 k_work_rec:cZ K (.ref a_work_rec)=true
 a_work_get:Addr
 fd_work_get:FuncData
 F_work_get:Fun K "work_get" "work_get" km a_work_get fd_work_get
 b_work_get:fW K fd_work_get ["machine","row","place","scope","parts"] []
 m_work_get:mg "work_get"=some (.ref a_work_get)
 k_work_get:cZ K (.ref a_work_get)=true
 a_work_tag:Addr
 fd_work_tag:FuncData
 F_work_tag:Fun K "work_tag" "work_tag" jK a_work_tag fd_work_tag
 b_work_tag:fW K fd_work_tag ["machine","row","place","scope","parts"] []
 m_work_tag:mg "work_tag"=some (.ref a_work_tag)
 k_work_tag:cZ K (.ref a_work_tag)=true
 a_work_case:Addr
 fd_work_case:FuncData
 F_work_case:Fun K "work_case" "work_case" jn a_work_case fd_work_case
 b_work_case:fW K fd_work_case ["machine","row","place","scope","parts"] []
 m_work_case:mg "work_case"=some (.ref a_work_case)
 k_work_case:cZ K (.ref a_work_case)=true
 a_work_row:Addr
 fd_work_row:FuncData
 F_work_row:Fun K "work_row" "work_row" jL a_work_row fd_work_row
 b_work_row:fW K fd_work_row ["machine","row","place","scope","parts"] []
 m_work_row:mg "work_row"=some (.ref a_work_row)
 k_work_row:cZ K (.ref a_work_row)=true
 a_work_at:Addr
 fd_work_at:FuncData
 F_work_at:Fun K "work_at" "work_at" kY a_work_at fd_work_at
 b_work_at:fW K fd_work_at ["machine","row","place","scope","parts"] []
 m_work_at:mg "work_at"=some (.ref a_work_at)
 k_work_at:cZ K (.ref a_work_at)=true
 a_work_join:Addr
 fd_work_join:FuncData
 F_work_join:Fun K "work_join" "work_join" jo a_work_join fd_work_join
 b_work_join:fW K fd_work_join ["machine","row","place","scope","parts"] []
 m_work_join:mg "work_join"=some (.ref a_work_join)
 k_work_join:cZ K (.ref a_work_join)=true
 a_work_size:Addr
 fd_work_size:FuncData
 F_work_size:Fun K "work_size" "work_size" jM a_work_size fd_work_size
 b_work_size:fW K fd_work_size ["machine","row","place","scope","parts"] []
 m_work_size:mg "work_size"=some (.ref a_work_size)
 k_work_size:cZ K (.ref a_work_size)=true
 a_work_add:Addr
 fd_work_add:FuncData
 F_work_add:Fun K "work_add" "work_add" jN a_work_add fd_work_add
 b_work_add:fW K fd_work_add ["machine","row","place","scope","parts"] []
 m_work_add:mg "work_add"=some (.ref a_work_add)
 k_work_add:cZ K (.ref a_work_add)=true
 a_work_sub:Addr
 fd_work_sub:FuncData
 F_work_sub:Fun K "work_sub" "work_sub" jO a_work_sub fd_work_sub
 b_work_sub:fW K fd_work_sub ["machine","row","place","scope","parts"] []
 m_work_sub:mg "work_sub"=some (.ref a_work_sub)
 k_work_sub:cZ K (.ref a_work_sub)=true
 a_work_less:Addr
 fd_work_less:FuncData
 F_work_less:Fun K "work_less" "work_less" jq a_work_less fd_work_less
 b_work_less:fW K fd_work_less ["machine","row","place","scope","parts"] []
 m_work_less:mg "work_less"=some (.ref a_work_less)
 k_work_less:cZ K (.ref a_work_less)=true
 a_run:Addr
 fd_run:FuncData
 F_run:Fun K "run" "run" uI a_run fd_run
 b_run:fW K fd_run ["program","homes","turns"] []
 m_run:mg "run"=some (.ref a_run)
 k_run:cZ K (.ref a_run)=true
 a_words_of:Addr
 fd_words_of:FuncData
 F_words_of:Fun K "words_of" "words_of" jP a_words_of fd_words_of
 b_words_of:fW K fd_words_of ["text"] []
 m_words_of:mg "words_of"=some (.ref a_words_of)
 k_words_of:cZ K (.ref a_words_of)=true
 a_is_name:Addr
 fd_is_name:FuncData
 F_is_name:Fun K "is_name" "is_name" kA a_is_name fd_is_name
 b_is_name:fW K fd_is_name ["word"] []
 m_is_name:mg "is_name"=some (.ref a_is_name)
 k_is_name:cZ K (.ref a_is_name)=true
 a_is_number:Addr
 fd_is_number:FuncData
 F_is_number:Fun K "is_number" "is_number" jr a_is_number fd_is_number
 b_is_number:fW K fd_is_number ["word"] []
 m_is_number:mg "is_number"=some (.ref a_is_number)
 k_is_number:cZ K (.ref a_is_number)=true
 a_made_of:Addr
 fd_made_of:FuncData
 F_made_of:Fun K "made_of" "made_of" kB a_made_of fd_made_of
 b_made_of:fW K fd_made_of ["word","signs"] []
 m_made_of:mg "made_of"=some (.ref a_made_of)
 k_made_of:cZ K (.ref a_made_of)=true
 a_read:Addr
 fd_read:FuncData
 F_read:Fun K "read" "read" pM a_read fd_read
 b_read:fW K fd_read ["text"] []
 m_read:mg "read"=some (.ref a_read)
 k_read:cZ K (.ref a_read)=true
 a_check_count:Addr
 fd_check_count:FuncData
 F_check_count:Fun K "check_count" "check_count" iG a_check_count fd_check_count
 b_check_count:fW K fd_check_count ["what","count","least","most"] []
 m_check_count:mg "check_count"=some (.ref a_check_count)
 k_check_count:cZ K (.ref a_check_count)=true
 a_homes_of:Addr
 fd_homes_of:FuncData
 F_homes_of:Fun K "homes_of" "homes_of" jQ a_homes_of fd_homes_of
 b_homes_of:fW K fd_homes_of ["program"] []
 m_homes_of:mg "homes_of"=some (.ref a_homes_of)
 k_homes_of:cZ K (.ref a_homes_of)=true
 a_refuse_twice:Addr
 fd_refuse_twice:FuncData
 F_refuse_twice:Fun K "refuse_twice" "refuse_twice" ig a_refuse_twice fd_refuse_twice
 b_refuse_twice:fW K fd_refuse_twice ["words"] []
 m_refuse_twice:mg "refuse_twice"=some (.ref a_refuse_twice)
 k_refuse_twice:cZ K (.ref a_refuse_twice)=true
 a_words_once:Addr
 fd_words_once:FuncData
 F_words_once:Fun K "words_once" "words_once" iV a_words_once fd_words_once
 b_words_once:fW K fd_words_once ["row"] []
 m_words_once:mg "words_once"=some (.ref a_words_once)
 k_words_once:cZ K (.ref a_words_once)=true
 a_home_of:Addr
 fd_home_of:FuncData
 F_home_of:Fun K "home_of" "home_of" kC a_home_of fd_home_of
 b_home_of:fW K fd_home_of ["row","place","scope"] []
 m_home_of:mg "home_of"=some (.ref a_home_of)
 k_home_of:cZ K (.ref a_home_of)=true
 a_root_scopes:Addr
 fd_root_scopes:FuncData
 F_root_scopes:Fun K "root_scopes" "root_scopes" iH a_root_scopes fd_root_scopes
 b_root_scopes:fW K fd_root_scopes ["program"] []
 m_root_scopes:mg "root_scopes"=some (.ref a_root_scopes)
 k_root_scopes:cZ K (.ref a_root_scopes)=true
 a_inner_scopes:Addr
 fd_inner_scopes:FuncData
 F_inner_scopes:Fun K "inner_scopes" "inner_scopes" ij a_inner_scopes fd_inner_scopes
 b_inner_scopes:fW K fd_inner_scopes ["row","scope"] []
 m_inner_scopes:mg "inner_scopes"=some (.ref a_inner_scopes)
 k_inner_scopes:cZ K (.ref a_inner_scopes)=true
 a_widened:Addr
 fd_widened:FuncData
 F_widened:Fun K "widened" "widened" kE a_widened fd_widened
 b_widened:fW K fd_widened ["scope","name","home"] []
 m_widened:mg "widened"=some (.ref a_widened)
 k_widened:cZ K (.ref a_widened)=true
 a_whole:Addr
 fd_whole:FuncData
 F_whole:Fun K "_law_whole" "_law_whole" iW a_whole fd_whole
 b_whole:fW K fd_whole ["_law_x"] []
 m_whole:mg "_law_whole"=some (.ref a_whole)
 k_whole:cZ K (.ref a_whole)=true
 a_cell_at:Addr
 fd_cell_at:FuncData
 F_cell_at:Fun K "_law_cell_at" "_law_cell_at" ik a_cell_at fd_cell_at
 b_cell_at:fW K fd_cell_at ["_law_script","_law_k"] []
 m_cell_at:mg "_law_cell_at"=some (.ref a_cell_at)
 k_cell_at:cZ K (.ref a_cell_at)=true
 a_text:Addr
 fd_text:FuncData
 F_text:Fun K "_law_text" "_law_text" jt a_text fd_text
 b_text:fW K fd_text ["_law_script","_law_sort","_law_start_here"] []
 m_text:mg "_law_text"=some (.ref a_text)
 k_text:cZ K (.ref a_text)=true
 a_start:Addr
 fd_start:FuncData
 F_start:Fun K "_law_start" "_law_start" iX a_start fd_start
 b_start:fW K fd_start ["_law_script","_law_times"] []
 m_start:mg "_law_start"=some (.ref a_start)
 k_start:cZ K (.ref a_start)=true
 a_row:Addr
 fd_row:FuncData
 F_row:Fun K "_law_row" "_law_row" jR a_row fd_row
 b_row:fW K fd_row ["_law_value","_law_script","_law_sort","_law_start_here","_law_times"] []
 m_row:mg "_law_row"=some (.ref a_row)
 k_row:cZ K (.ref a_row)=true
 a_due:Addr
 fd_due:FuncData
 F_due:Fun K "_law_due" "_law_due" jS a_due fd_due
 b_due:fW K fd_due ["_law_value","_law_script","_law_sort","_law_start_here","_law_times"] []
 m_due:mg "_law_due"=some (.ref a_due)
 k_due:cZ K (.ref a_due)=true
 a_FlowError:Addr
 m_FlowError:mg "FlowError"=some (.ref a_FlowError)
 x_FlowError:Et K a_FlowError
 a_BadText:Addr
 m_BadText:mg "BadText"=some (.ref a_BadText)
 x_BadText:Et K a_BadText
 a_Twice:Addr
 m_Twice:mg "Twice"=some (.ref a_Twice)
 a_NoName:Addr
 m_NoName:mg "NoName"=some (.ref a_NoName)
 a_Machine:Addr
 m_Machine:mg "Machine"=some (.ref a_Machine)
 cl_Machine:Cls K a_Machine
 ty_Machine:∀(H:Hp) (a dx:Addr) (fs:List (Str×V)),H a=some (.ins a_Machine dx fs)->sk K H (.ref a) (.ref a_Machine)
 n_Machine_program:hZ K a_Machine "program"
 n_Machine_homes:hZ K a_Machine "homes"
 n_Machine_turns:hZ K a_Machine "turns"
 n_Machine_begun:hZ K a_Machine "begun"
 n_Machine_end:hZ K a_Machine "end"
 n_Machine_meets:hZ K a_Machine "meets"
 n_Machine_had:hZ K a_Machine "had"
 n_Machine_defined:hZ K a_Machine "defined"
 n_Machine_steps:hZ K a_Machine "steps"
 n_Machine_ready:hZ K a_Machine "ready"
 a_Machine___init__:Addr
 fd_Machine___init__:FuncData
 F_Machine___init__:Fun K "__init__" "Machine.__init__" gw a_Machine___init__ fd_Machine___init__
 b_Machine___init__:fW K fd_Machine___init__ ["self","program","homes","turns"] []
 mk_Machine:Mk K a_Machine a_Machine___init__
 a_Machine_work_program:Addr
 fd_Machine_work_program:FuncData
 F_Machine_work_program:Fun K "work_program" "Machine.work_program" fY a_Machine_work_program fd_Machine_work_program
 b_Machine_work_program:fW K fd_Machine_work_program ["self"] []
 me_Machine_work_program:oH K a_Machine "work_program" a_Machine_work_program
 a_Machine_work_steps:Addr
 fd_Machine_work_steps:FuncData
 F_Machine_work_steps:Fun K "work_steps" "Machine.work_steps" f9 a_Machine_work_steps fd_Machine_work_steps
 b_Machine_work_steps:fW K fd_Machine_work_steps ["self"] []
 me_Machine_work_steps:oH K a_Machine "work_steps" a_Machine_work_steps
 a_Machine_begin:Addr
 fd_Machine_begin:FuncData
 F_Machine_begin:Fun K "begin" "Machine.begin" hG a_Machine_begin fd_Machine_begin
 b_Machine_begin:fW K fd_Machine_begin ["self","place","scope"] []
 me_Machine_begin:oH K a_Machine "begin" a_Machine_begin
 a_Machine_work_parts:Addr
 fd_Machine_work_parts:FuncData
 F_Machine_work_parts:Fun K "work_parts" "Machine.work_parts" gb a_Machine_work_parts fd_Machine_work_parts
 b_Machine_work_parts:fW K fd_Machine_work_parts ["self","place","scope"] []
 me_Machine_work_parts:oH K a_Machine "work_parts" a_Machine_work_parts
 a_Machine_take_ready:Addr
 fd_Machine_take_ready:FuncData
 F_Machine_take_ready:Fun K "take_ready" "Machine.take_ready" gf a_Machine_take_ready fd_Machine_take_ready
 b_Machine_take_ready:fW K fd_Machine_take_ready ["self","count"] []
 me_Machine_take_ready:oH K a_Machine "take_ready" a_Machine_take_ready
 a_Machine_finish:Addr
 fd_Machine_finish:FuncData
 F_Machine_finish:Fun K "finish" "Machine.finish" gQ a_Machine_finish fd_Machine_finish
 b_Machine_finish:fW K fd_Machine_finish ["self","place","value"] []
 me_Machine_finish:oH K a_Machine "finish" a_Machine_finish
 a_Machine_go_into:Addr
 fd_Machine_go_into:FuncData
 F_Machine_go_into:Fun K "go_into" "Machine.go_into" gI a_Machine_go_into fd_Machine_go_into
 b_Machine_go_into:fW K fd_Machine_go_into ["self","body","scope","place"] []
 me_Machine_go_into:oH K a_Machine "go_into" a_Machine_go_into
 a_Machine_comes:Addr
 fd_Machine_comes:FuncData
 F_Machine_comes:Fun K "comes" "Machine.comes" hI a_Machine_comes fd_Machine_comes
 b_Machine_comes:fW K fd_Machine_comes ["self","value","place","slot","fits"] []
 me_Machine_comes:oH K a_Machine "comes" a_Machine_comes
 a_Machine_comes_as:Addr
 fd_Machine_comes_as:FuncData
 F_Machine_comes_as:Fun K "comes_as" "Machine.comes_as" gx a_Machine_comes_as fd_Machine_comes_as
 b_Machine_comes_as:fW K fd_Machine_comes_as ["self","shape","value","place","slot"] []
 me_Machine_comes_as:oH K a_Machine "comes_as" a_Machine_comes_as
 a_Machine_both_come_as:Addr
 fd_Machine_both_come_as:FuncData
 F_Machine_both_come_as:Fun K "both_come_as" "Machine.both_come_as" fZ a_Machine_both_come_as fd_Machine_both_come_as
 b_Machine_both_come_as:fW K fd_Machine_both_come_as ["self","shape","parts","place"] []
 me_Machine_both_come_as:oH K a_Machine "both_come_as" a_Machine_both_come_as
 a_Run:Addr
 m_Run:mg "Run"=some (.ref a_Run)
 cl_Run:Cls K a_Run
 ty_Run:∀(H:Hp) (a dx:Addr) (fs:List (Str×V)),H a=some (.ins a_Run dx fs)->sk K H (.ref a) (.ref a_Run)
 n_Run_end:hZ K a_Run "end"
 n_Run_value:hZ K a_Run "value"
 n_Run_meets:hZ K a_Run "meets"
 n_Run_had:hZ K a_Run "had"
 n_Run_begun:hZ K a_Run "begun"
 a_Run___init__:Addr
 fd_Run___init__:FuncData
 F_Run___init__:Fun K "__init__" "Run.__init__" ip a_Run___init__ fd_Run___init__
 b_Run___init__:fW K fd_Run___init__ ["self","end","value","meets","had","begun"] []
 mk_Run:Mk K a_Run a_Run___init__
 a_Program:Addr
 m_Program:mg "Program"=some (.ref a_Program)
 cl_Program:Cls K a_Program
 ty_Program:∀(H:Hp) (a dx:Addr) (fs:List (Str×V)),H a=some (.ins a_Program dx fs)->sk K H (.ref a) (.ref a_Program)
 n_Program_names:hZ K a_Program "names"
 n_Program_roots:hZ K a_Program "roots"
 n_Program_rows:hZ K a_Program "rows"
 a_Program___init__:Addr
 fd_Program___init__:FuncData
 F_Program___init__:Fun K "__init__" "Program.__init__" gy a_Program___init__ fd_Program___init__
 b_Program___init__:fW K fd_Program___init__ ["self","names","roots","rows"] []
 mk_Program:Mk K a_Program a_Program___init__
 a_Reader:Addr
 m_Reader:mg "Reader"=some (.ref a_Reader)
 cl_Reader:Cls K a_Reader
 ty_Reader:∀(H:Hp) (a dx:Addr) (fs:List (Str×V)),H a=some (.ins a_Reader dx fs)->sk K H (.ref a) (.ref a_Reader)
 n_Reader_words:hZ K a_Reader "words"
 n_Reader_taken:hZ K a_Reader "taken"
 n_Reader_rows:hZ K a_Reader "rows"
 a_Reader___init__:Addr
 fd_Reader___init__:FuncData
 F_Reader___init__:Fun K "__init__" "Reader.__init__" gJ a_Reader___init__ fd_Reader___init__
 b_Reader___init__:fW K fd_Reader___init__ ["self","words"] []
 mk_Reader:Mk K a_Reader a_Reader___init__
 a_Reader_ahead:Addr
 fd_Reader_ahead:FuncData
 F_Reader_ahead:Fun K "ahead" "Reader.ahead" iq a_Reader_ahead fd_Reader_ahead
 b_Reader_ahead:fW K fd_Reader_ahead ["self"] []
 me_Reader_ahead:oH K a_Reader "ahead" a_Reader_ahead
 a_Reader_take:Addr
 fd_Reader_take:FuncData
 F_Reader_take:Fun K "take" "Reader.take" iI a_Reader_take fd_Reader_take
 b_Reader_take:fW K fd_Reader_take ["self"] []
 me_Reader_take:oH K a_Reader "take" a_Reader_take
 a_Reader_pass_over:Addr
 fd_Reader_pass_over:FuncData
 F_Reader_pass_over:Fun K "pass_over" "Reader.pass_over" gz a_Reader_pass_over fd_Reader_pass_over
 b_Reader_pass_over:fW K fd_Reader_pass_over ["self","wanted"] []
 me_Reader_pass_over:oH K a_Reader "pass_over" a_Reader_pass_over
 a_Reader_take_name:Addr
 fd_Reader_take_name:FuncData
 F_Reader_take_name:Fun K "take_name" "Reader.take_name" gA a_Reader_take_name fd_Reader_take_name
 b_Reader_take_name:fW K fd_Reader_take_name ["self"] []
 me_Reader_take_name:oH K a_Reader "take_name" a_Reader_take_name
 a_Reader_take_expr:Addr
 fd_Reader_take_expr:FuncData
 F_Reader_take_expr:Fun K "take_expr" "Reader.take_expr" gB a_Reader_take_expr fd_Reader_take_expr
 b_Reader_take_expr:fW K fd_Reader_take_expr ["self","depth"] []
 me_Reader_take_expr:oH K a_Reader "take_expr" a_Reader_take_expr
 a_Reader_take_row:Addr
 fd_Reader_take_row:FuncData
 F_Reader_take_row:Fun K "take_row" "Reader.take_row" gK a_Reader_take_row fd_Reader_take_row
 b_Reader_take_row:fW K fd_Reader_take_row ["self","depth"] []
 me_Reader_take_row:oH K a_Reader "take_row" a_Reader_take_row
 a_Reader_take_form:Addr
 fd_Reader_take_form:FuncData
 F_Reader_take_form:Fun K "take_form" "Reader.take_form" gC a_Reader_take_form fd_Reader_take_form
 b_Reader_take_form:fW K fd_Reader_take_form ["self","head","depth"] []
 me_Reader_take_form:oH K a_Reader "take_form" a_Reader_take_form
 a_Reader_take_steady:Addr
 fd_Reader_take_steady:FuncData
 F_Reader_take_steady:Fun K "take_steady" "Reader.take_steady" gh a_Reader_take_steady fd_Reader_take_steady
 b_Reader_take_steady:fW K fd_Reader_take_steady ["self","parts","depth"] []
 me_Reader_take_steady:oH K a_Reader "take_steady" a_Reader_take_steady
 a_Reader_take_fields:Addr
 fd_Reader_take_fields:FuncData
 F_Reader_take_fields:Fun K "take_fields" "Reader.take_fields" gj a_Reader_take_fields fd_Reader_take_fields
 b_Reader_take_fields:fW K fd_Reader_take_fields ["self","depth"] []
 me_Reader_take_fields:oH K a_Reader "take_fields" a_Reader_take_fields
 a_Reader_take_arms:Addr
 fd_Reader_take_arms:FuncData
 F_Reader_take_arms:Fun K "take_arms" "Reader.take_arms" gE a_Reader_take_arms fd_Reader_take_arms
 b_Reader_take_arms:fW K fd_Reader_take_arms ["self","depth"] []
 me_Reader_take_arms:oH K a_Reader "take_arms" a_Reader_take_arms
 a_Reader_take_things:Addr
 fd_Reader_take_things:FuncData
 F_Reader_take_things:Fun K "take_things" "Reader.take_things" gm a_Reader_take_things fd_Reader_take_things
 b_Reader_take_things:fW K fd_Reader_take_things ["self","depth"] []
 me_Reader_take_things:oH K a_Reader "take_things" a_Reader_take_things
 z_ValueError:mg "ValueError"=none
 z_all:mg "all"=none
 z_bool:mg "bool"=none
 z_dict:mg "dict"=none
 z_enumerate:mg "enumerate"=none
 z_int:mg "int"=none
 z_isinstance:mg "isinstance"=none
 z_len:mg "len"=none
 z_list:mg "list"=none
 z_min:mg "min"=none
 z_range:mg "range"=none
 z_reversed:mg "reversed"=none
 z_str:mg "str"=none
 z_tuple:mg "tuple"=none
 z_zip:mg "zip"=none
theorem uJ:fo ["row"] ["row"] (eT jH):=⟨rfl,rfl,rfl,by decide+kernel,rfl,by decide+kernel,by decide+kernel⟩
theorem tL:fo ["row"] ["row"] (eT jk):=⟨rfl,rfl,rfl,by decide+kernel,rfl,by decide+kernel,by decide+kernel⟩
theorem rH:fo ["parts","found","part"] ["parts"] (eT pL):=⟨rfl,rfl,rfl,by decide+kernel,rfl,by decide+kernel,by decide+kernel⟩
theorem qg:fo ["row"] ["row"] (eT iF):=⟨rfl,rfl,rfl,by decide+kernel,rfl,by decide+kernel,by decide+kernel⟩
theorem lj:fo ["scope","place","around"] ["scope","place"] (eT iU):=⟨rfl,rfl,rfl,by decide+kernel,rfl,by decide+kernel,by decide+kernel⟩
theorem uK:fo ["machine","row","place","scope","parts"] ["machine","row","place","scope","parts"] (eT jI):=⟨rfl,rfl,rfl,by decide+kernel,rfl,by decide+kernel,by decide+kernel⟩
theorem oa:fo ["machine","row","place","scope","parts","home"] ["machine","row","place","scope","parts"] (eT jl):=⟨rfl,rfl,rfl,by decide+kernel,rfl,by decide+kernel,by decide+kernel⟩
theorem wM:fo ["machine","row","place","scope","parts"] ["machine","row","place","scope","parts"] (eT kz):=⟨rfl,rfl,rfl,by decide+kernel,rfl,by decide+kernel,by decide+kernel⟩
theorem oe:fo ["machine","row","place","scope","parts","called"] ["machine","row","place","scope","parts"] (eT jm):=⟨rfl,rfl,rfl,by decide+kernel,rfl,by decide+kernel,by decide+kernel⟩
theorem uL:fo ["machine","row","place","scope","parts"] ["machine","row","place","scope","parts"] (eT jJ):=⟨rfl,rfl,rfl,by decide+kernel,rfl,by decide+kernel,by decide+kernel⟩
theorem uM:fo ["machine","row","place","scope","parts"] ["machine","row","place","scope","parts"] (eT jK):=⟨rfl,rfl,rfl,by decide+kernel,rfl,by decide+kernel,by decide+kernel⟩
theorem kS:fo ["machine","row","place","scope","parts","bodies","tagged","body"] ["machine","row","place","scope","parts"] (eT jn):=⟨rfl,rfl,rfl,by decide+kernel,rfl,by decide+kernel,by decide+kernel⟩
theorem uN:fo ["machine","row","place","scope","parts"] ["machine","row","place","scope","parts"] (eT jL):=⟨rfl,rfl,rfl,by decide+kernel,rfl,by decide+kernel,by decide+kernel⟩
theorem oh:fo ["machine","row","place","scope","parts","things"] ["machine","row","place","scope","parts"] (eT jo):=⟨rfl,rfl,rfl,by decide+kernel,rfl,by decide+kernel,by decide+kernel⟩
theorem uO:fo ["machine","row","place","scope","parts"] ["machine","row","place","scope","parts"] (eT jN):=⟨rfl,rfl,rfl,by decide+kernel,rfl,by decide+kernel,by decide+kernel⟩
theorem uP:fo ["machine","row","place","scope","parts"] ["machine","row","place","scope","parts"] (eT jO):=⟨rfl,rfl,rfl,by decide+kernel,rfl,by decide+kernel,by decide+kernel⟩
theorem oj:fo ["machine","row","place","scope","parts","word"] ["machine","row","place","scope","parts"] (eT jq):=⟨rfl,rfl,rfl,by decide+kernel,rfl,by decide+kernel,by decide+kernel⟩
theorem yu:fo ["program","homes","turns","machine","value"] ["program","homes","turns"] (eT uI):=⟨rfl,rfl,rfl,by decide+kernel,rfl,by decide+kernel,by decide+kernel⟩
theorem pN:fo ["text","spaced"] ["text"] (eT jP):=⟨rfl,rfl,rfl,by decide+kernel,rfl,by decide+kernel,by decide+kernel⟩
theorem wN:fo ["word"] ["word"] (eT kA):=⟨rfl,rfl,rfl,by decide+kernel,rfl,by decide+kernel,by decide+kernel⟩
theorem tM:fo ["word"] ["word"] (eT jr):=⟨rfl,rfl,rfl,by decide+kernel,rfl,by decide+kernel,by decide+kernel⟩
theorem wO:fo ["word","signs"] ["word","signs"] (eT kB):=⟨rfl,rfl,rfl,by decide+kernel,rfl,by decide+kernel,by decide+kernel⟩
theorem rJ:fo ["text","reader","names","roots"] ["text"] (eT pM):=⟨rfl,rfl,rfl,by decide+kernel,rfl,by decide+kernel,by decide+kernel⟩
theorem qh:fo ["what","count","least","most"] ["what","count","least","most"] (eT iG):=⟨rfl,rfl,rfl,by decide+kernel,rfl,by decide+kernel,by decide+kernel⟩
theorem jT:fo ["program","scopes","homes","place","row","scope"] ["program"] (eT jQ):=⟨rfl,rfl,rfl,by decide+kernel,rfl,by decide+kernel,by decide+kernel⟩
theorem kF:fo ["words","seen","word"] ["words"] (eT ig):=⟨rfl,rfl,rfl,by decide+kernel,rfl,by decide+kernel,by decide+kernel⟩
theorem rK:fo ["row"] ["row"] (eT iV):=⟨rfl,rfl,rfl,by decide+kernel,rfl,by decide+kernel,by decide+kernel⟩
theorem wQ:fo ["row","place","scope"] ["row","place","scope"] (eT kC):=⟨rfl,rfl,rfl,by decide+kernel,rfl,by decide+kernel,by decide+kernel⟩
theorem gY:fo ["program","scopes","earlier","number","name","root","later"] ["program"] (eT iH):=⟨rfl,rfl,rfl,by decide+kernel,rfl,by decide+kernel,by decide+kernel⟩
theorem jB:fo ["row","scope","scopes","place","arm"] ["row","scope"] (eT ij):=⟨rfl,rfl,rfl,by decide+kernel,rfl,by decide+kernel,by decide+kernel⟩
theorem qE:fo ["scope","name","home","wider"] ["scope","name","home"] (eT kE):=⟨rfl,rfl,rfl,by decide+kernel,rfl,by decide+kernel,by decide+kernel⟩
theorem rL:fo ["_law_x"] ["_law_x"] (eT iW):=⟨rfl,rfl,rfl,by decide+kernel,rfl,by decide+kernel,by decide+kernel⟩
theorem pO:fo ["_law_script","_law_k"] ["_law_script","_law_k"] (eT ik):=⟨rfl,rfl,rfl,by decide+kernel,rfl,by decide+kernel,by decide+kernel⟩
theorem gL:fo ["_law_script","_law_sort","_law_start_here","_law_step","_law_limit","_law_again","_law_more","_law_behind","_law_named","_law_base","_law_body"] ["_law_script","_law_sort","_law_start_here"] (eT jt):=⟨rfl,rfl,rfl,by decide+kernel,rfl,by decide+kernel,by decide+kernel⟩
theorem lq:fo ["_law_script","_law_times","_law_step","_law_limit"] ["_law_script","_law_times"] (eT iX):=⟨rfl,rfl,rfl,by decide+kernel,rfl,by decide+kernel,by decide+kernel⟩
theorem jU:fo ["_law_value","_law_script","_law_sort","_law_start_here","_law_times","_law_step","_law_k","_law_one","_law_j","_law_place"] ["_law_value","_law_script","_law_sort","_law_start_here","_law_times"] (eT jR):=⟨rfl,rfl,rfl,by decide+kernel,rfl,by decide+kernel,by decide+kernel⟩
theorem ju:fo ["_law_value","_law_script","_law_sort","_law_start_here","_law_times","_law_k","_law_place","_law_due_here"] ["_law_value","_law_script","_law_sort","_law_start_here","_law_times"] (eT jS):=⟨rfl,rfl,rfl,by decide+kernel,rfl,by decide+kernel,by decide+kernel⟩
theorem lH:fo ["_law_script","_law_sort","_law_each","_law_times","_law_start_here","_law_begun","_law_turns","_law_program","_law_found"] ["_law_script"] (eT rG):=⟨rfl,rfl,rfl,by decide+kernel,rfl,by decide+kernel,by decide+kernel⟩
theorem mM:fo ["self","program","homes","turns"] ["self","program","homes","turns"] (eT gw):=⟨rfl,rfl,rfl,by decide+kernel,rfl,by decide+kernel,by decide+kernel⟩
theorem jC:fo ["self","root"] ["self"] (eT fY):=⟨rfl,rfl,rfl,by decide+kernel,rfl,by decide+kernel,by decide+kernel⟩
theorem jW:fo ["self","step"] ["self"] (eT f9):=⟨rfl,rfl,rfl,by decide+kernel,rfl,by decide+kernel,by decide+kernel⟩
theorem lI:fo ["self","place","scope","part"] ["self","place","scope"] (eT hG):=⟨rfl,rfl,rfl,by decide+kernel,rfl,by decide+kernel,by decide+kernel⟩
theorem jX:fo ["self","place","scope","row"] ["self","place","scope"] (eT gb):=⟨rfl,rfl,rfl,by decide+kernel,rfl,by decide+kernel,by decide+kernel⟩
theorem iY:fo ["self","count","taken","number"] ["self","count"] (eT gf):=⟨rfl,rfl,rfl,by decide+kernel,rfl,by decide+kernel,by decide+kernel⟩
theorem nT:fo ["self","place","value"] ["self","place","value"] (eT gQ):=⟨rfl,rfl,rfl,by decide+kernel,rfl,by decide+kernel,by decide+kernel⟩
theorem nu:fo ["self","body","scope","place"] ["self","body","scope","place"] (eT gI):=⟨rfl,rfl,rfl,by decide+kernel,rfl,by decide+kernel,by decide+kernel⟩
theorem oz:fo ["self","value","place","slot","fits"] ["self","value","place","slot","fits"] (eT hI):=⟨rfl,rfl,rfl,by decide+kernel,rfl,by decide+kernel,by decide+kernel⟩
theorem mO:fo ["self","shape","value","place","slot"] ["self","shape","value","place","slot"] (eT gx):=⟨rfl,rfl,rfl,by decide+kernel,rfl,by decide+kernel,by decide+kernel⟩
theorem lu:fo ["self","shape","parts","place"] ["self","shape","parts","place"] (eT fZ):=⟨rfl,rfl,rfl,by decide+kernel,rfl,by decide+kernel,by decide+kernel⟩
theorem pP:fo ["self","end","value","meets","had","begun"] ["self","end","value","meets","had","begun"] (eT ip):=⟨rfl,rfl,rfl,by decide+kernel,rfl,by decide+kernel,by decide+kernel⟩
theorem mP:fo ["self","names","roots","rows"] ["self","names","roots","rows"] (eT gy):=⟨rfl,rfl,rfl,by decide+kernel,rfl,by decide+kernel,by decide+kernel⟩
theorem nv:fo ["self","words"] ["self","words"] (eT gJ):=⟨rfl,rfl,rfl,by decide+kernel,rfl,by decide+kernel,by decide+kernel⟩
theorem pQ:fo ["self"] ["self"] (eT iq):=⟨rfl,rfl,rfl,by decide+kernel,rfl,by decide+kernel,by decide+kernel⟩
theorem mC:fo ["self","word"] ["self"] (eT iI):=⟨rfl,rfl,rfl,by decide+kernel,rfl,by decide+kernel,by decide+kernel⟩
theorem kG:fo ["self","wanted","word"] ["self","wanted"] (eT gz):=⟨rfl,rfl,rfl,by decide+kernel,rfl,by decide+kernel,by decide+kernel⟩
theorem kH:fo ["self","word"] ["self"] (eT gA):=⟨rfl,rfl,rfl,by decide+kernel,rfl,by decide+kernel,by decide+kernel⟩
theorem jv:fo ["self","depth","place"] ["self","depth"] (eT gB):=⟨rfl,rfl,rfl,by decide+kernel,rfl,by decide+kernel,by decide+kernel⟩
theorem jD:fo ["self","depth","word","row"] ["self","depth"] (eT gK):=⟨rfl,rfl,rfl,by decide+kernel,rfl,by decide+kernel,by decide+kernel⟩
theorem kI:fo ["self","head","depth","subject"] ["self","head","depth"] (eT gC):=⟨rfl,rfl,rfl,by decide+kernel,rfl,by decide+kernel,by decide+kernel⟩
theorem iZ:fo ["self","parts","depth","found","part"] ["self","parts","depth"] (eT gh):=⟨rfl,rfl,rfl,by decide+kernel,rfl,by decide+kernel,by decide+kernel⟩
theorem jY:fo ["self","depth","found"] ["self","depth"] (eT gj):=⟨rfl,rfl,rfl,by decide+kernel,rfl,by decide+kernel,by decide+kernel⟩
theorem kJ:fo ["self","depth","found"] ["self","depth"] (eT gE):=⟨rfl,rfl,rfl,by decide+kernel,rfl,by decide+kernel,by decide+kernel⟩
theorem jZ:fo ["self","depth","found"] ["self","depth"] (eT gm):=⟨rfl,rfl,rfl,by decide+kernel,rfl,by decide+kernel,by decide+kernel⟩
def vO (K:PySem.W.Frag):Sp:=fun vs H Q _=>∃(a:Addr) (ns:List Int),vs=[.ref a]/\SqL K H a (ns.map V.int)/\ns.length<=63/\∀H',Q (.bl true) H'
end K63.Internal
namespace K63.Internal
open PySem L2.Internal GR.Internal
def pR:Sp:=fun vs H Q _=>∃x:Str,vs=[.str x]/\x.length<=30000/\∀(p:Addr) (H':Hp),fK H H'->H p=none->H' p=some (.lst (pC x.cps.toList))->Q (.ref p) H'
abbrev r1 (x:Str):Str:=Txt.replace x "(" " ( "
abbrev r2 (x:Str):Str:=Txt.replace (r1 x) ")" " ) "
abbrev r3 (x:Str):Str:=Txt.replace (r2 x) "\n" " "
theorem c1 (x:Str):(r1 x).cps.toList=T1.sub 40 [32,40,32] x.cps.toList:=T1.replace_codes x " ( " 40
theorem c2 (x:Str):(r2 x).cps.toList=T1.sub 41 [32,41,32] (T1.sub 40 [32,40,32] x.cps.toList):=by
 rw[<-c1]
 exact T1.replace_codes (r1 x) " ) " 41
theorem c3 (x:Str):(r3 x).cps.toList=T1.spaced x.cps.toList:=by
 rw[<-T1.spaced_sub,<-c2]
 exact T1.replace_codes (r2 x) " " 10
theorem uQ (c:Nat) (z:List Nat) (n:Nat) (h1:1<=n) (h:z.length<=n) (l:List Nat):(T1.sub c z l).length<=n*l.length:=T1.flat_len _ n (fun k=>by split;exact h;exact h1) l
theorem l1 (x:Str):(r1 x).length<=3*x.length:=by
 rw[<-T1.len_codes,<-T1.len_codes,c1]
 exact uQ _ _ 3 (by decide) (by decide) _
theorem l2 (x:Str):(r2 x).length<=9*x.length:=by
 have h:=l1 x
 have e:(r2 x).length<=3*(r1 x).length:=by
  rw[<-T1.len_codes,<-T1.len_codes,c2,c1]
  exact uQ _ _ 3 (by decide) (by decide) _
 lia
theorem l3 (x:Str):(r3 x).length<=9*x.length:=by
 have h:=l2 x
 have e:(r3 x).length<=1*(r2 x).length:=by
  rw[<-T1.len_codes,<-T1.len_codes]
  have e3:(r3 x).cps.toList=T1.sub 10 [32] (r2 x).cps.toList:=T1.replace_codes (r2 x) " " 10
  rw[e3]
  exact uQ _ _ 1 (by decide) (by decide) _
 lia
def ne0:V->Bool:=fun v=>!decide (v=V.str "")
theorem uR (x:Str):(((Txt.split (r3 x) " ").map V.str).filter ne0).map id=pC x.cps.toList:=by
 have e:=T1.split_codes (r3 x) 32
 rw[c3]at e
 have e2:T1.all (T1.W x.cps.toList)=((Txt.split (r3 x) ⟨#[32]⟩).map (·.cps.toList)).filter fun p=>decide (p≠[]):=by
  rw[e,T1.words_cut]
  rfl
 unfold pC
 rw[e2,List.map_id,List.filter_map,List.filter_map,br]
 show((Txt.split (r3 x) ⟨#[32]⟩).filter (ne0∘V.str)).map V.str=_
 have ef:(ne0∘V.str)=((fun p=>decide (p≠[]))∘fun(y:Str)=>y.cps.toList):=by
  funext y
  show(!decide (V.str y=V.str ""))=decide (y.cps.toList≠[])
  by_cases h:y=("":Str)
  ·subst h
   rfl
  ·have h1:¬V.str y=V.str "":=fun z=>h (by injection z)
   have h2:y.cps.toList≠[]:=fun z=>h (T1.str_ext z)
   rw[decide_eq_false h1,decide_eq_true h2]
   rfl
 rw[ef]
 refine bM fun y _=>?_
 show V.str y=V.str ⟨y.cps.toList.toArray⟩
 rw[Array.toArray_toList]
theorem uS (T:Txt K mg):gu P w K mg base CX0 1 T.a_words_of T.fd_words_of ["text"] pR:=by
 obtain⟨oc,od,kV,doc,pm,an,cdv,ct,osl,efd,lk,hcd⟩:=T.F_words_of.ex
 rw[efd]at lk⊢
 refine CS lk hcd pN (by decide+kernel) (fun n=>rfl) (fun vs H Q E h=>?_) (fun A outer s H vs Q E hr h=>?_)
 ·obtain⟨x,rfl,_⟩:=h
  rfl
 obtain⟨x,rfl,hx,q⟩:=h
 refine⟨_,Ca.nox (zy (i:=1) pN.nd rfl (.inl rfl) (qZ (qZ (qZ (PE.one (pv 0)) (by decide+kernel)) (by decide+kernel)) (by decide+kernel))
  (eW (fG (sS rfl (Bw (x:="word") rfl (by decide+kernel) (by decide+kernel) rfl rfl) (mG (ko PySem.F.plainAttrs_str PySem.F.slot_str_split PySem.F.type_str_split zx (pv 1) (eQ fc eS))) (fun _ _ _ _ _=>(xX (iR mH (pv 0) fc (fD _)))) (fun _ _ _ _ _=>(pv 0)))))),?_⟩
 have h1:=l1 x
 have h2:=l2 x
 have h3:=l3 x
 have z3:(" ( ":Str).length=3:=by decide+kernel
 have z3':(" ) ":Str).length=3:=by decide+kernel
 have z1:(" ":Str).length=1:=by decide+kernel
 refine⟨_,rfl,x,rfl,(by rw[z3];lia),r1 x,rfl,(by rw[z3'];lia),r2 x,rfl,(by rw[z1];lia),?_⟩
 refine⟨_,rfl,rfl,r3 x," ",rfl,rfl,rfl,(by have e:sizeLine=16777216:=sizeLine_eq;lia),fun p hp=>⟨p,rfl,⟨_,SqL.of eV⟩,fun D hD=>?_⟩⟩
 have sp:fK H (upd H p (.lst ((Txt.split (r3 x) " ").map V.str))):=eX hp _
 have hl:=pk (r3 x) " "
 refine CN (xs:=(Txt.split (r3 x) " ").map V.str) ne0 id hD ?_ ?_ ?_ ?_ ?_ ?_ ?_ ?_
 ·rw[aC]
  have e:sizeLine=16777216:=sizeLine_eq
  lia
 ·rfl
 ·intro k H' hs hk
  exact⟨_,_,SqL.of (hs _ _ eV),bq hk⟩
 ·intro k H' v H'' hs hv
  obtain⟨e,z⟩:=hv
  exact⟨e,z _ (SqL.of (hs _ _ eV))⟩
 ·intro H' hs
  exact⟨_,SqL.of (hs _ _ eV),b6 _⟩
 ·intro k v H' R hv _ r
  obtain⟨y,rfl⟩:∃y,v=V.str y:=by
   rw[aK]at hv
   obtain⟨y,_,e⟩:=cD.mp hv
   exact⟨y,e.symm⟩
  exact⟨_,rfl,rfl,_,rfl,r⟩
 ·intro k v H' R hv _ _ r
  exact⟨_,rfl,r⟩
 ·intro H' hs hl'
  refine q D H' (sp.trans hs) (sp.free hD) ?_
  rw[hl',uR]
def nU:Sp:=fun vs H Q _=>∃x y:Str,vs=[.str x,.str y]/\x.length<=30000/\∀H',fK H H'->Q (.bl (qf x y)) H'
theorem wR (T:Txt K mg):gu P w K mg base CX0 1 T.a_made_of T.fd_made_of ["word","signs"] nU:=by
 refine T.F_made_of.ok wO (fun vs H Q E h=>?_) (fun cdv A outer s H vs Q E hr h=>?_)
 ·obtain⟨x,y,rfl,_⟩:=h
  rfl
 obtain⟨x,y,rfl,hx,q⟩:=h
 refine⟨_,(eW (fG (fV (zw rfl) rfl T.z_all CL (eQ (sS rfl (blk1 (x:="sign") (y:="signs") (j:=1) (c0:=s.heap.objs.size+ 1) rfl (by decide+kernel) (by decide+kernel) rfl rfl rfl rfl rfl rfl rfl) (CM (pv 0)) (fun _ _ _ _ _=>nM) (fun _ _ _ _ _=>(jf sE (pv 0) (pv 1) rfl))) eS)))),?_⟩
 refine⟨_,rfl,x,rfl,fun D hD=>?_⟩
 have sl:sizeLine=16777216:=sizeLine_eq
 have ll:=T1.len_codes x
 have sz':x.cps.size=x.cps.toList.length:=(dW).symm
 refine CN (xs:=x.cps.toList.map fun c=>V.str ⟨#[c]⟩) (fun _=>true) (fun v=>match v with| .str z=> .bl (!(Builtin.Str.occurrences y z 0 y.length 1).isEmpty)|_=> .non) hD ?_ ?_ ?_ ?_ ?_ ?_ ?_ ?_
 ·rw[aC]
  lia
 ·rfl
 ·intro k H' hs hk
  rw[aC]at hk
  show k<x.cps.size
  lia
 ·intro k H' v H'' hs hv
  obtain⟨e,c,hc,rfl⟩:=hv
  refine⟨e,?_⟩
  rw[aK,dX,hc]
  rfl
 ·intro H' hs
  show _=x.cps.size
  rw[aC]
  lia
 ·intro k v H' R hv _ r
  exact r
 ·intro k v H' R hv _ _ r
  rw[aK]at hv
  obtain⟨c,_,rfl⟩:=cD.mp hv
  exact⟨_,rfl,_,rfl,_,_,rfl,rfl,r⟩
 ·intro H' hs hl
  refine⟨D,x.cps.toList.map fun c=>decide (c∈y.cps.toList),rfl,SqL.of ?_,?_⟩
  ·rw[hl,List.filter_eq_self.mpr (fun _ _=>rfl),br,br]
   refine congrArg (fun l=>some (HO.lst l)) (bM fun c _=>?_)
   show V.bl _=V.bl _
   rw[StrLaws.found_one]
  ·have e:(x.cps.toList.map fun c=>decide (c∈y.cps.toList)).all id=qf x y:=by
    rw[bo]
    rfl
   rw[e]
   exact q H' hs
def mq:Sp:=fun vs H Q _=>∃x:Str,vs=[.str x]/\x.length<=30000/\∀H',fK H H'->Q (.bl (fu x)) H'
theorem wU (T:Txt K mg) (G_made_of:gu P w K mg base CX0 1 T.a_made_of T.fd_made_of ["word","signs"] nU):gu P w K mg base CX0 2 T.a_is_name T.fd_is_name ["word"] mq:=by
 refine T.F_is_name.ok wN (fun vs H Q E h=>?_) (fun cdv A outer s H vs Q E hr h=>?_)
 ·obtain⟨x,rfl,_⟩:=h
  rfl
 obtain⟨x,rfl,hx,q⟩:=h
 refine⟨_,(eR (gr (PW.pt (mF (kn (qT wg wg eU (fV nY rfl T.z_len jy (eQ (pv 0) eS)) (nJ rfl T.m_MOST_SIGNS))) (m5 (iR kW (pv 0) (zt rfl T.m_KEPT_WORDS) rfl))))
   (eW (fG m3))
   fw)
  (eW (fG (m8 (jf sE (ft Aq (pv 0) eU (fun _ _=>rfl)) (zr rfl T.m_LETTERS) rfl) (m7 (fA G_made_of (hr.mono (by decide)) rfl T.m_made_of T.k_made_of T.b_made_of .nil fO (eQ (pv 0) (eQ (fH qt (zr rfl T.m_LETTERS) (zr rfl T.m_FIGURES)) eS)))))))),?_⟩
 have sl:sizeLine=16777216:=sizeLine_eq
 refine⟨_,rfl,x,rfl,by lia,_,_,rfl,rfl,_,rfl,?_⟩
 refine DY (fun c1=>?_) (fun c1=>?_)
 ·have h1:1<=x.length:=by
   have z:=of_decide_eq_true c1
   lia
  refine⟨_,_,rfl,rfl,_,rfl,?_⟩
  by_cases c2:x.length<=12
  ·rw[show decide ((x.length:Int)<=12)=true from decide_eq_true (by lia)]
   refine gR ⟨_,rfl,T.a_KEPT_WORDS,KWV,rfl,.inr (T.q_KEPT_WORDS H),rfl,rfl,_,rfl,?_⟩
   show if inV (.str x) KWV=true then _ else _
   cases ek:inV (.str x) KWV with
   |true=>
    refine iM ?_
    have e:fu x=false:=by unfold fu;rw[ek];simp
    rw[<-e]
    exact q H (fK.refl H)
   |false=>
    refine gR ?_
    obtain⟨c,r,ec⟩:=first_of h1
    refine⟨_,rfl,x,_,c,rfl,rfl,by lia,by rw[ec];exact at0,_,_,rfl,rfl,_,rfl,?_⟩
    have ef:(!(Builtin.Str.occurrences ("abcdefghijklmnopqrstuvwxyz":Str) ⟨#[c]⟩ 0 ("abcdefghijklmnopqrstuvwxyz":Str).length 1).isEmpty)=pE x SM:=by
     rw[StrLaws.found_one]
     unfold pE
     rw[ec]
     rfl
    rw[ef]
    cases e1:pE x SM with
    |false=>
     refine gR ?_
     have e:fu x=false:=by unfold fu;rw[e1];simp
     rw[<-e]
     exact q H (fK.refl H)
    |true=>
     refine iM ⟨_,rfl,_,_,rfl,rfl,?_,_,_,rfl,?_,fun H' hs=>?_⟩
     ·exact bX (show(26:Nat)+ 10<=100 by decide) (sz (b6 _)|>bX (by decide))
     ·lia
     ·have e:fu x=qf x (SM++FG):=by
       unfold fu
       rw[e1,ek,decide_eq_true h1,decide_eq_true c2]
       rfl
      have q':=q H' hs
      rw[e]at q'
      exact q'
  ·rw[show decide ((x.length:Int)<=12)=false from decide_eq_false (by lia)]
   refine iM ?_
   have e:fu x=false:=by unfold fu;rw[decide_eq_false c2];simp
   show if true=true then _ else _
   refine iM ?_
   rw[<-e]
   exact q H (fK.refl H)
 ·have h1:¬1<=x.length:=by
   intro z
   exact c1 (decide_eq_true (by lia))
  refine⟨_,rfl,iM ?_⟩
  show if true=true then _ else _
  refine iM ?_
  have e:fu x=false:=by unfold fu;rw[decide_eq_false h1];simp
  rw[<-e]
  exact q H (fK.refl H)
def lZ:Sp:=fun vs H Q _=>∃x:Str,vs=[.str x]/\x.length<=30000/\∀H',fK H H'->Q (.bl (jb x)) H'
theorem tN (T:Txt K mg) (G_made_of:gu P w K mg base CX0 1 T.a_made_of T.fd_made_of ["word","signs"] nU):gu P w K mg base CX0 2 T.a_is_number T.fd_is_number ["word"] lZ:=by
 refine T.F_is_number.ok tM (fun vs H Q E h=>?_) (fun cdv A outer s H vs Q E hr h=>?_)
 ·obtain⟨x,rfl,_⟩:=h
  rfl
 obtain⟨x,rfl,hx,q⟩:=h
 refine⟨_,(eR (gr (PW.pt (mF (kn (qT wg wg eU (fV nY rfl T.z_len jy (eQ (pv 0) eS)) (nJ rfl T.m_MOST_FIGURES))) (m5 (kn (jd (fA G_made_of (hr.mono (by decide)) rfl T.m_made_of T.k_made_of T.b_made_of .nil fO (eQ (pv 0) (eQ (zr rfl T.m_FIGURES) eS))))))))
   (eW (fG m3))
   fw)
  (eW (fG (D6 (jf mH (ft Aq (pv 0) eU (fun _ _=>rfl)) fc (fD _)) (m7 (jf qS (pv 0) fc (fD _))))))),?_⟩
 have sl:sizeLine=16777216:=sizeLine_eq
 refine⟨_,rfl,x,rfl,by lia,_,_,rfl,rfl,_,rfl,?_⟩
 refine DY (fun c1=>?_) (fun c1=>?_)
 ·have h1:1<=x.length:=by
   have z:=of_decide_eq_true c1
   lia
  refine⟨_,_,rfl,rfl,_,rfl,?_⟩
  by_cases c2:x.length<=60
  ·rw[show decide ((x.length:Int)<=60)=true from decide_eq_true (by lia)]
   refine gR ⟨_,rfl,x,_,rfl,hx,fun H' hs=>⟨_,rfl,?_⟩⟩
   show if(!qf x FG)=true then _ else _
   cases e1:qf x FG with
   |false=>
    refine iM ?_
    have e:jb x=false:=by unfold jb;rw[e1];simp
    rw[<-e]
    exact q H' hs
   |true=>
    refine gR ?_
    obtain⟨c,r,ec⟩:=first_of h1
    refine⟨_,rfl,x,_,c,rfl,rfl,by lia,by rw[ec];exact at0,rfl,_,rfl,?_⟩
    have ef:pF x=(c==48):=by unfold pF;rw[ec]
    rw[BE,<-ef]
    cases e2:pF x with
    |false=>
     refine iM ?_
     have e:jb x=true:=by
      unfold jb
      rw[e1,e2,decide_eq_true h1,decide_eq_true c2]
      rfl
     rw[<-e]
     exact q H' hs
    |true=>
     refine gR ⟨_,rfl,rfl,?_⟩
     have e:jb x=decide (V.str x=V.str "0"):=by
      unfold jb
      rw[e1,e2,decide_eq_true h1,decide_eq_true c2]
      by_cases h0:x="0"
      ·subst h0
       rfl
      ·have h1:¬V.str x=V.str "0":=fun z=>h0 (by injection z)
       rw[decide_eq_false h0,decide_eq_false h1]
       rfl
     rw[<-e]
     exact q H' hs
  ·rw[show decide ((x.length:Int)<=60)=false from decide_eq_false (by lia)]
   refine iM ?_
   have e:jb x=false:=by unfold jb;rw[decide_eq_false c2];simp
   show if true=true then _ else _
   refine iM ?_
   rw[<-e]
   exact q H (fK.refl H)
 ·have h1:¬1<=x.length:=by
   intro z
   exact c1 (decide_eq_true (by lia))
  refine⟨_,rfl,iM ?_⟩
  show if true=true then _ else _
  refine iM ?_
  have e:jb x=false:=by unfold jb;rw[decide_eq_false h1];simp
  rw[<-e]
  exact q H (fK.refl H)
def kT (C:Addr):Sp:=fun vs H Q _=>∃(p dx wl:Addr) (ws:List Str),vs=[.ref p,.ref wl]/\H p=some (.ins C dx [])/\H wl=some (.lst (ws.map V.str))/\∀(rl:Addr) (H':Hp),H rl=none->nk C H' p dx wl rl ws 0 []->(∀b o,H b=some o->b≠p->H' b=some o)->Q .non H'
theorem ny (T:Txt K mg):gu P w K mg base CX0 1 T.a_Reader___init__ T.fd_Reader___init__ ["self","words"] (kT T.a_Reader):=by
 refine T.F_Reader___init__.ok nv (fun vs H Q E h=>?_) (fun cdv A outer s H vs Q E hr h=>?_)
 ·obtain⟨p,dx,wl,ws,rfl,_⟩:=h
  rfl
 obtain⟨p,dx,wl,ws,rfl,hp,hw,k⟩:=h
 refine⟨_,(eR (iK (pv 0) (pv 1) rfl)
  (eR (iK (pv 0) eU rfl)
  (eW (iK (pv 0) (gH eS) rfl)))),?_⟩
 have pw:wl≠p:=kc hw hp (fun z=>nomatch z)
 refine⟨_,rfl,_,rfl,p,T.a_Reader,dx,[],rfl,hp,T.cl_Reader,T.n_Reader_words,(by show 0<1000;decide),?_⟩
 refine⟨_,rfl,p,T.a_Reader,dx,_,rfl,eV,T.cl_Reader,T.n_Reader_taken,(by show 1<1000;decide),?_⟩
 refine⟨(by show 0<=sizeLine;decide),fun rl hrl=>?_⟩
 have nrl:p≠rl:=fb eV hrl
 rw[fe (Ne.symm nrl),fe (Ne.symm nrl)]at hrl
 refine⟨_,rfl,p,T.a_Reader,dx,_,rfl,by rw[fe nrl];exact eV,T.cl_Reader,T.n_Reader_rows,(by show 2<1000;decide),?_⟩
 have wrl:wl≠rl:=fb hw hrl
 refine k rl _ hrl ⟨?_,?_,?_,wrl⟩ fun b o e hb=>?_
 ·rw[eV]
  exact congrArg (fun l=>some (HO.ins T.a_Reader dx l)) (EF wl 0 rl)
 ·rw[fe pw,fe wrl,fe pw,fe pw]
  exact hw
 ·rw[fe (Ne.symm nrl)]
  exact eV
 ·rw[fe hb,fe (fb e hrl),fe hb,fe hb]
  exact e
def gM (C:Addr):Sp:=fun vs H Q _=>∃(p dx wl rl:Addr) (ws:List Str) (k:Nat) (rows:List V),vs=[.ref p]/\nk C H p dx wl rl ws k rows/\WOk ws/\k<=ws.length/\Q (.str (ws.getD k "")) H
theorem pS (T:Txt K mg):gu P w K mg base CX0 1 T.a_Reader_ahead T.fd_Reader_ahead ["self"] (gM T.a_Reader):=by
 refine T.F_Reader_ahead.ok pQ (fun vs H Q E h=>?_) (fun cdv A outer s H vs Q E hr h=>?_)
 ·obtain⟨p,dx,wl,rl,ws,k,rows,rfl,_⟩:=h
  rfl
 obtain⟨p,dx,wl,rl,ws,k,rows,rfl,R,W,hk,q⟩:=h
 refine⟨_,(eR (gr (iR qS (m9 (pv 0) rfl) (fV fS rfl T.z_len jy (eQ (m9 (pv 0) rfl) eS)) (fD _))
   (eW (fG fc))
   fw)
  (eW (fG (ft uB (m9 (pv 0) rfl) (m9 (pv 0) rfl) (fun _ _=>rfl))))),?_⟩
 refine⟨_,rfl,p,_,dx,_,_,rfl,R.ob,T.cl_Reader,T.n_Reader_taken,rp _ _ _,_,rfl,p,_,dx,_,_,rfl,R.ob,T.cl_Reader,T.n_Reader_words,vL _ _ _,wl,_,rfl,.inl (SqL.of R.wd),rfl,_,rfl,DY (fun c=>?_) (fun c=>?_)⟩
 ·have z:=of_decide_eq_true c
  injection z with z
  rw[aC]at z
  have e:ws.getD k ""="":=by
   rw[bb,bz (by lia)]
   rfl
  rw[e]at q
  exact q
 ·have hlt:k<ws.length:=by
   by_cases z:k<ws.length
   ·exact z
   ·refine absurd (decide_eq_true ?_) c
    rw[aC]
    exact congrArg V.int (by lia)
  have e:ws.getD k ""=ws[k]:=by
   rw[bb,bq hlt]
   rfl
  rw[e]at q
  refine⟨_,rfl,p,_,dx,_,_,rfl,R.ob,T.cl_Reader,T.n_Reader_words,vL _ _ _,_,rfl,p,_,dx,_,_,rfl,R.ob,T.cl_Reader,T.n_Reader_taken,rp _ _ _,wl,_,_,_,rfl,rfl,SqL.of R.wd,eY (j:=k) (v:= .str ws[k]) ?_,q⟩
  rw[aK,bq hlt]
  rfl
def iN (C CB:Addr):Sp:=fun vs H Q E=>∃(p dx wl rl:Addr) (ws:List Str) (k:Nat) (rows:List V),vs=[.ref p]/\nk C H p dx wl rl ws k rows/\WOk ws/\k<=ws.length/\
 (∀x,ws[k]?=some x->Q (.str x) (upd H p (.ins C dx (fR wl ((k+ 1:Nat):Int) rl))))/\(ws[k]?=none->E (.ref CB) none H)
theorem qi (T:Txt K mg) (G_Reader_ahead:gu P w K mg base CX0 1 T.a_Reader_ahead T.fd_Reader_ahead ["self"] (gM T.a_Reader)):gu P w K mg base (CXE P w) 2 T.a_Reader_take T.fd_Reader_take ["self"] (iN T.a_Reader T.a_BadText):=by
 refine T.F_Reader_take.okE mC (fun vs H Q E h=>?_) (fun cdv A outer s H vs Q E hr h=>?_)
 ·obtain⟨p,dx,wl,rl,ws,k,rows,rfl,_⟩:=h
  rfl
 obtain⟨p,dx,wl,rl,ws,k,rows,rfl,R,W,hk,q,qe⟩:=h
 refine⟨_,(eR (fC (i:=1) mC.nd rfl (.inl rfl) (i8 (pv 0) T.cl_Reader T.me_Reader_ahead G_Reader_ahead (hr.mono (by decide)) T.b_Reader_ahead .nil fO))
  (eR (gr (iR qS (pv 1) fc (fD _))
   (eW (kh rfl kZ T.x_BadText rfl T.m_BadText (eQ fc eS)))
   fw)
  (eR (sF (pv 0) eU An)
  (eW (fG (pv 1)))))),?_⟩
 refine⟨_,rfl,p,dx,_,rfl,R.ob,zJ _ _ _ (by decide+kernel) (by decide+kernel) (by decide+kernel),p,dx,wl,rl,ws,k,rows,rfl,R,W,hk,?_⟩
 refine⟨_,rfl,rfl,_,rfl,DY (fun c=>?_) (fun c=>?_)⟩
 ·refine⟨(by show 1<=sizeLine;decide),qe ?_⟩
  cases e:ws[k]? with
  |none=>rfl
  |some x=>
   have z:=of_decide_eq_true c
   injection z with z
   rw[bb,e]at z
   exact absurd z (W.one x (aM e)).1
 ·cases e:ws[k]? with
  |none=>
   refine absurd (decide_eq_true (congrArg V.str ?_)) c
   rw[bb,e]
   rfl
  |some x=>
   have ex:ws.getD k ""=x:=by rw[bb,e];rfl
   rw[ex]
   refine⟨_,rfl,p,_,dx,_,_,rfl,R.ob,T.cl_Reader,T.n_Reader_taken,rp _ _ _,_,_,rfl,rfl,dx,_,R.ob,(by show 3<1000;decide),_,rfl,?_⟩
   have q':=q x e
   rw[<-C8 wl (k:Int) _ rl]at q'
   exact q'
def hJ (C CB:Addr):Sp:=fun vs H Q E=>∃(p dx wl rl:Addr) (ws:List Str) (k:Nat) (rows:List V) (y:Str),vs=[.ref p,.str y]/\nk C H p dx wl rl ws k rows/\WOk ws/\k<=ws.length/\(reprText y).length<=300002/\
 (ws[k]?=some y->Q .non (upd H p (.ins C dx (fR wl ((k+ 1:Nat):Int) rl))))/\(ws[k]?=none->E (.ref CB) none H)/\(∀x,ws[k]?=some x->x≠y->E (.ref CB) none (upd H p (.ins C dx (fR wl ((k+ 1:Nat):Int) rl))))
theorem mQ (T:Txt K mg) (G_Reader_take:gu P w K mg base (CXE P w) 2 T.a_Reader_take T.fd_Reader_take ["self"] (iN T.a_Reader T.a_BadText)):gu P w K mg base (CXE P w) 3 T.a_Reader_pass_over T.fd_Reader_pass_over ["self","wanted"] (hJ T.a_Reader T.a_BadText):=by
 refine T.F_Reader_pass_over.okE kG (fun vs H Q E h=>?_) (fun cdv A outer s H vs Q E hr h=>?_)
 ·obtain⟨p,dx,wl,rl,ws,k,rows,y,rfl,_⟩:=h
  rfl
 obtain⟨p,dx,wl,rl,ws,k,rows,y,rfl,R,W,hk,hy,q,qe,qx⟩:=h
 refine⟨_,(eR (fC (i:=2) kG.nd rfl (.inl rfl) (i8 (pv 0) T.cl_Reader T.me_Reader_take G_Reader_take (hr.mono (by decide)) T.b_Reader_take .nil jV))
  (eW (gr (iR mH (pv 2) (pv 1) (fD _))
   (eW (kh rfl kZ T.x_BadText rfl T.m_BadText (eQ (lT (gP (sV (pv 2)) (gP fc (gP (sV (pv 1)) (gP fc n6))))) eS)))
   fw))),?_⟩
 have sl:sizeLine=16777216:=sizeLine_eq
 refine⟨_,rfl,p,dx,_,rfl,R.ob,zJ _ _ _ (by decide+kernel) (by decide+kernel) (by decide+kernel),p,dx,wl,rl,ws,k,rows,rfl,R,W,hk,fun x hx=>?_,qe⟩
 refine⟨_,rfl,_,rfl,rfl,_,rfl,?_⟩
 by_cases e:x=y
 ·subst e
  exact Er rfl (q hx)
 ·have ne:¬V.str x=V.str y:=fun z=>e (by injection z)
  rw[decide_eq_false ne]
  have hr:=nq W (aM hx)
  refine iM ⟨_,rfl,x,rfl,by lia,_,rfl,?_,_,rfl,?_,_,rfl,y,rfl,by lia,_,rfl,?_,_,rfl,?_,?_,(by show 1<=sizeLine;decide),qx x hx e⟩
  ·exact DZ hr
  ·exact BG hr (by decide+kernel)
  ·exact cat3 hr (by decide+kernel) hy
  ·exact FO hr (by decide+kernel) hy (by decide+kernel)
  ·exact FO hr (by decide+kernel) hy (by decide+kernel)
def hV (C CB:Addr):Sp:=fun vs H Q E=>∃(p dx wl rl:Addr) (ws:List Str) (k:Nat) (rows:List V),vs=[.ref p]/\nk C H p dx wl rl ws k rows/\WOk ws/\k<=ws.length/\
 (∀x H',ws[k]?=some x->fu x=true->fK (upd H p (.ins C dx (fR wl ((k+ 1:Nat):Int) rl))) H'->Q (.str x) H')/\(ws[k]?=none->E (.ref CB) none H)/\
 (∀x H',ws[k]?=some x->fu x=false->fK (upd H p (.ins C dx (fR wl ((k+ 1:Nat):Int) rl))) H'->E (.ref CB) none H')
theorem mS (T:Txt K mg) (G_Reader_take:gu P w K mg base (CXE P w) 2 T.a_Reader_take T.fd_Reader_take ["self"] (iN T.a_Reader T.a_BadText)) (G_is_name:gu P w K mg base CX0 2 T.a_is_name T.fd_is_name ["word"] mq):
  gu P w K mg base (CXE P w) 3 T.a_Reader_take_name T.fd_Reader_take_name ["self"] (hV T.a_Reader T.a_BadText):=by
 refine T.F_Reader_take_name.okE kH (fun vs H Q E h=>?_) (fun cdv A outer s H vs Q E hr h=>?_)
 ·obtain⟨p,dx,wl,rl,ws,k,rows,rfl,_⟩:=h
  rfl
 obtain⟨p,dx,wl,rl,ws,k,rows,rfl,R,W,hk,q,qe,qx⟩:=h
 refine⟨_,(eR (fC (i:=1) kH.nd rfl (.inl rfl) (i8 (pv 0) T.cl_Reader T.me_Reader_take G_Reader_take (hr.mono (by decide)) T.b_Reader_take .nil jV))
  (eR (gr (kn (jd (fA G_is_name (hr.mono (by decide)) rfl T.m_is_name T.k_is_name T.b_is_name .nil fO (eQ (pv 1) eS))))
   (eW (kh rfl kZ T.x_BadText rfl T.m_BadText (eQ (lT (gP (sV (pv 1)) (gP fc n6))) eS)))
   fw)
  (eW (fG (pv 1))))),?_⟩
 have sl:sizeLine=16777216:=sizeLine_eq
 refine⟨_,rfl,p,dx,_,rfl,R.ob,zJ _ _ _ (by decide+kernel) (by decide+kernel) (by decide+kernel),p,dx,wl,rl,ws,k,rows,rfl,R,W,hk,fun x hx=>?_,qe⟩
 have hm:=aM hx
 refine⟨_,rfl,x,rfl,(W.one x hm).2.1,fun H' hs=>⟨_,rfl,?_⟩⟩
 cases e:fu x with
 |true=>exact gR ⟨_,rfl,q x H' hx e hs⟩
 |false=>
  have hr:=nq W hm
  refine iM ⟨_,rfl,x,rfl,by lia,_,rfl,?_,_,rfl,?_,?_,(by show 1<=sizeLine;decide),qx x H' hx e hs⟩
  ·exact DZ hr
  ·exact BG hr (by decide+kernel)
  ·exact BG hr (by decide+kernel)
section
variable {C CB p dx wl rl:Addr} {H:Hp} {ws rest:List Str} {rows:List Dt} {Q:VK} {E:XK}
theorem zS (R:RS K C H p dx wl rl ws rest rows) (W:WOk ws) (q:Q (.str (rest.headD "")) H):gM C [.ref p] H Q E:=by
 obtain⟨k,rv,R,h1,h2,h3⟩:=R
 refine⟨p,dx,wl,rl,ws,k,rv,rfl,R,W,h2,?_⟩
 have e:ws.getD k ""=rest.headD "":=by
  rw[<-h1,bb,bN,bO]
 rw[e]
 exact q
theorem RS.step1 {k:Nat} {rv:List V} {x:Str} {r:List Str} {H':Hp} (R:nk C H p dx wl rl ws k rv) (h1:ws.drop k=x::r) (h3:kj K H rv rows) (s:fK (upd H p (.ins C dx (fR wl ((k+ 1:Nat):Int) rl))) H'):RS K C H' p dx wl rl ws r rows/\K2 p rl H H':=by
 obtain⟨e1,e2,e3⟩:=ky h1
 have kk:K2 p rl H H':=(K2.upd1 (K2.refl p rl H) _).trans (fK.k2 s)
 exact⟨⟨k+ 1,rv,(R.next (k+ 1)).same s,e2,by lia,h3.mono fun a xs t=>nk.tpT R kk t⟩,kk⟩
theorem Dh (R:RS K C H p dx wl rl ws rest rows) (W:WOk ws) (q:∀x r H',rest=x::r->RS K C H' p dx wl rl ws r rows->K2 p rl H H'->Q (.str x) H') (qe:rest=[]->E (.ref CB) none H):iN C CB [.ref p] H Q E:=by
 obtain⟨k,rv,R,h1,h2,h3⟩:=R
 refine⟨p,dx,wl,rl,ws,k,rv,rfl,R,W,h2,fun x hx=>?_,fun hx=>?_⟩
 ·cases e:rest with
  |nil=>
   rw[e]at h1
   rw[rD h1]at hx
   cases hx
  |cons y r=>
   rw[e]at h1
   have ey:y=x:=cz.inj ((ky h1).1.symm.trans hx)
   subst ey
   obtain⟨a,b⟩:=RS.step1 R h1 h3 (fK.refl _)
   exact q y r _ e a b
 ·cases e:rest with
  |nil=>exact qe e
  |cons y r=>
   rw[e]at h1
   rw[(ky h1).1]at hx
   cases hx
theorem zT {y:Str} (R:RS K C H p dx wl rl ws rest rows) (W:WOk ws) (hy:(reprText y).length<=300002) (q:∀r H',rest=y::r->RS K C H' p dx wl rl ws r rows->K2 p rl H H'->Q .non H') (qe:rest.head?≠some y->∀H',K2 p rl H H'->E (.ref CB) none H'):hJ C CB [.ref p,.str y] H Q E:=by
 obtain⟨k,rv,R,h1,h2,h3⟩:=R
 refine⟨p,dx,wl,rl,ws,k,rv,y,rfl,R,W,h2,hy,fun hx=>?_,fun hx=>?_,fun x hx ne=>?_⟩
 ·cases e:rest with
  |nil=>
   rw[e]at h1
   rw[rD h1]at hx
   cases hx
  |cons z r=>
   rw[e]at h1
   have ey:z=y:=cz.inj ((ky h1).1.symm.trans hx)
   subst ey
   obtain⟨a,b⟩:=RS.step1 R h1 h3 (fK.refl _)
   exact q r _ e a b
 ·refine qe (fun z=>?_) H (K2.refl _ _ _)
  rw[<-h1,bO,hx]at z
  cases z
 ·refine qe (fun z=>?_) _ (K2.upd1 (K2.refl _ _ _) _)
  rw[<-h1,bO,hx]at z
  exact ne (cz.inj z)
theorem Di (R:RS K C H p dx wl rl ws rest rows) (W:WOk ws) (q:∀x r H',rest=x::r->fu x=true->RS K C H' p dx wl rl ws r rows->K2 p rl H H'->Q (.str x) H') (qe:(∀x r,rest=x::r->fu x=false)->∀H',K2 p rl H H'->E (.ref CB) none H'):hV C CB [.ref p] H Q E:=by
 obtain⟨k,rv,R,h1,h2,h3⟩:=R
 refine⟨p,dx,wl,rl,ws,k,rv,rfl,R,W,h2,fun x H' hx hn s=>?_,fun hx=>?_,fun x H' hx hn s=>?_⟩
 ·cases e:rest with
  |nil=>
   rw[e]at h1
   rw[rD h1]at hx
   cases hx
  |cons z r=>
   rw[e]at h1
   have ey:z=x:=cz.inj ((ky h1).1.symm.trans hx)
   subst ey
   obtain⟨a,b⟩:=RS.step1 R h1 h3 s
   exact q z r _ e hn a b
 ·refine qe (fun x r e=>?_) H (K2.refl _ _ _)
  rw[e]at h1
  rw[(ky h1).1]at hx
  cases hx
 ·refine qe (fun y r e=>?_) H' ((K2.upd1 (K2.refl _ _ _) _).trans (fK.k2 s))
  rw[e]at h1
  have ey:y=x:=cz.inj ((ky h1).1.symm.trans hx)
  rw[ey]
  exact hn
end
def iO (CB:Addr):Sp:=fun vs H Q E=>∃(x:Str) (n a b:Nat),vs=[.str x,.int n,.int a,.int b]/\x.length<=100/\n<=100000/\a<=100/\b<=100/\(a<=n/\n<=b->Q .non H)/\(¬(a<=n/\n<=b)->E (.ref CB) none H)
theorem nz {n:Nat} (h:n<=100000):(n:Int).natAbs.log2<1920/\(PySem.Str.ofString (toString (n:Int))).length<=6:=by
 have s70:(100000:Int)<10^70:=by decide+kernel
 refine⟨log_ok (by lia) (by lia),?_⟩
 have z:=(str_fig (n:=(n:Int)) (k:=5) (by lia) (by
  have e:(10:Int)^(5+ 1)=1000000:=by decide+kernel
  rw[e]
  lia)).2.2
 exact z
theorem qj (T:Txt K mg):gu P w K mg base (CXE P w) 1 T.a_check_count T.fd_check_count ["what","count","least","most"] (iO T.a_BadText):=by
 refine T.F_check_count.okE qh (fun vs H Q E h=>?_) (fun cdv A outer s H vs Q E hr h=>?_)
 ·obtain⟨x,n,a,b,rfl,_⟩:=h
  rfl
 obtain⟨x,n,a,b,rfl,hx,hn,ha,hb,q,qe⟩:=h
 refine⟨_,(eW (gr (kn (qT wg wg (pv 2) (pv 1) (pv 3)))
   (eW (kh rfl kZ T.x_BadText rfl T.m_BadText (eQ (lT (gP (uD (pv 1)) (gP fc (gP (uD (pv 0)) (gP fc (gP (uD (pv 2)) (gP fc (gP (uD (pv 3)) (gP fc n6))))))))) eS)))
   fw)),?_⟩
 have sl:sizeLine=16777216:=sizeLine_eq
 have nn:=nz hn
 have na:=nz (show a<=100000 by lia)
 have nb:=nz (show b<=100000 by lia)
 have fail:¬(a<=n/\n<=b)->Av T.a_BadText E (mI ((tJ (tFV (B8 1)) (tJ (tC (V.str " ")) (tJ (tFV (B8 0)) (tJ (tC (V.str ": ")) (tJ (tFV (B8 2)) (tJ (tC (V.str " to ")) (tJ (tFV (B8 3)) (tJ (tC (V.str " may be")) tJ0)))))))) Str.empty) xD) {nx:=fun _ H'=>Q .non H',rt:=Q} [some (.str x),some (.int n),some (.int a),some (.int b)] H:=fun hz=>by
  refine⟨_,rfl,.inr ⟨_,rfl,nn.1,_,rfl,?_,_,rfl,?_,_,rfl,.inl ⟨x,rfl,by lia,_,rfl,?_,_,rfl,?_,_,rfl,.inr ⟨_,rfl,na.1,_,rfl,?_,_,rfl,?_,_,rfl,.inr ⟨_,rfl,nb.1,_,rfl,?_,_,rfl,?_,?_,(by show 1<=sizeLine;decide),qe hz⟩⟩⟩⟩⟩
  all_goals
   simp only[Str.length_append]
   have e0:Str.empty.length=0:=rfl
   have e1:(" ":Str).length=1:=by decide+kernel
   have e2:(": ":Str).length=2:=by decide+kernel
   have e3:(" to ":Str).length=4:=by decide+kernel
   have e4:(" may be":Str).length=7:=by decide+kernel
   lia
 refine⟨_,rfl,_,rfl,_,_,rfl,rfl,_,rfl,?_⟩
 by_cases h1:a<=n
 ·rw[show decide ((a:Int)<=(n:Int))=true from decide_eq_true (by lia)]
  refine iM ⟨_,rfl,_,_,rfl,rfl,_,rfl,?_⟩
  by_cases h2:n<=b
  ·rw[show decide ((n:Int)<=(b:Int))=true from decide_eq_true (by lia)]
   exact gR (q ⟨h1,h2⟩)
  ·rw[show decide ((n:Int)<=(b:Int))=false from decide_eq_false (by lia)]
   exact iM (fail fun z=>h2 z.2)
 ·rw[show decide ((a:Int)<=(n:Int))=false from decide_eq_false (by lia)]
  exact gR ⟨_,rfl,iM (fail fun z=>h1 z.1)⟩
def BK (K:PySem.W.Frag) (C CB:Addr) (f:Nat):Sp:=fun vs H Q E=>∃(p dx wl rl:Addr) (ws rest:List Str) (rows:List Dt),vs=[.ref p,.int (25-(f:Int))]/\RS K C H p dx wl rl ws rest rows/\WOk ws/\rows.length<=160/\
 (∀r rows' H',fJ f rest rows=some (r,rows')->RS K C H' p dx wl rl ws r rows'->K2 p rl H H'->Q (.int (rows.length:Int)) H')/\(fJ f rest rows=none->∀H',K2 p rl H H'->E (.ref CB) none H')
def pV (b:Bool):V:=if b then .str "name" else .str "expr"
def D1 (K:PySem.W.Frag) (C CB:Addr) (f:Nat):Sp:=fun vs H Q E=>∃(p dx wl rl pt:Addr) (ws rest:List Str) (rows:List Dt) (ps:List Bool),vs=[.ref p,.ref pt,.int (25-(f:Int))]/\RS K C H p dx wl rl ws rest rows/\WOk ws/\rows.length<=160/\SqT K H pt (ps.map pV)/\ps.length<=3/\
 (∀ds r rows' t H',fF (fJ f) ps [] rest rows=some (ds,r,rows')->RS K C H' p dx wl rl ws r rows'->K2 p rl H H'->TAt K H' (.ref t) (.tup ds)->Q (.ref t) H')/\(fF (fJ f) ps [] rest rows=none->∀H',K2 p rl H H'->E (.ref CB) none H')
def Cc (K:PySem.W.Frag) (C CB:Addr) (f:Nat) (item:List Str->List Dt->Option (Dt×Rs)) (lo hi:Nat):Sp:=fun vs H Q E=>∃(p dx wl rl:Addr) (ws rest:List Str) (rows:List Dt),vs=[.ref p,.int (25-(f:Int))]/\RS K C H p dx wl rl ws rest rows/\WOk ws/\rows.length<=160/\
 (∀l r rows' t H',chk lo hi (iE item rest rows [])=some (l,r,rows')->RS K C H' p dx wl rl ws r rows'->K2 p rl H H'->TAt K H' (.ref t) (.tup l)->Q (.ref t) H')/\(chk lo hi (iE item rest rows [])=none->∀H',K2 p rl H H'->E (.ref CB) none H')
theorem yv (T:Txt K mg) (f:Nat)
  (G_Reader_take_name:gu P w K mg base (CXE P w) 3 T.a_Reader_take_name T.fd_Reader_take_name ["self"] (hV T.a_Reader T.a_BadText))
  (G_Reader_take_expr:gu P w K mg base (CXE P w) (5*f+ 5) T.a_Reader_take_expr T.fd_Reader_take_expr ["self","depth"] (BK K T.a_Reader T.a_BadText f)):
  gu P w K mg base (CXE P w) (5*f+ 6) T.a_Reader_take_steady T.fd_Reader_take_steady ["self","parts","depth"] (D1 K T.a_Reader T.a_BadText f):=by
 refine T.F_Reader_take_steady.okE iZ (fun vs H Q E h=>?_) (fun cdv A outer s H vs Q E hr h=>?_)
 ·obtain⟨p,dx,wl,rl,pt,ws,rest,rows,ps,rfl,_⟩:=h
  rfl
 obtain⟨p,dx,wl,rl,pt,ws,rest,rows,ps,rfl,R,W,hrows,hpt,hps,q,qe⟩:=h
 refine⟨_,(eR (fC (i:=3) iZ.nd rfl (.inl rfl) (gH eS))
  (eR (lG PassesOwn.leaving rfl (qp (pv 1)) (jj (i:=4) iZ.nd rfl (.inl rfl))
   (eW (gr (iR qS (pv 4) fc (fD _))
    (eW (fE (ko dG dH dI gq (pv 3) (eQ (i8 (pv 0) T.cl_Reader T.me_Reader_take_name G_Reader_take_name (hr.mono (by lia)) T.b_Reader_take_name .nil jV) eS))))
    (eW (fE (ko dG dH dI gq (pv 3) (eQ (fQ (pv 0) T.cl_Reader T.me_Reader_take_expr G_Reader_take_expr (hr.mono (by lia)) T.b_Reader_take_expr .nil jV (eQ (pv 2) eS)) eS)))))))
  (eW (fG (gS jx rfl T.z_tuple jz (eQ (pv 3) eS)))))),?_⟩
 have sl:sizeLine=16777216:=sizeLine_eq
 refine⟨(by show 0<=sizeLine;decide),fun fl hfl=>?_⟩
 have ep:=iT f
 have R0:=R.same (eX hfl (.lst []))
 have fp:fl≠p:=by
  obtain⟨k,hk⟩:=R.ob
  exact Ne.symm (fb hk hfl)
 have frl:fl≠rl:=by
  obtain⟨rv,hk,_⟩:=R.len
  exact Ne.symm (fb hk hfl)
 have fwl:fl≠wl:=by
  obtain⟨k,rv,R',_⟩:=R
  exact Ne.symm (fb R'.wd hfl)
 have hpt0:SqT K (upd H fl (.lst [])) pt (ps.map pV):=by
  rcases hpt with t|t
  ·refine .inl ?_
   rcases t with t|⟨o',t⟩
   ·exact .inl (by rw[fe (fb t hfl)];exact t)
   ·exact .inr ⟨o',by rw[fe (fb t hfl)];exact t⟩
  ·exact .inr t
 refine⟨_,rfl,pt,rfl,⟨_,hpt0⟩,uq (K:=K) (a:=pt) (xs:=ps.map pV) (fun i σ H2=>∃(o:Option V) (acc:List Dt) (fv:List V) (rest2:List Str) (rows2:List Dt),
   σ=[some (.ref p),some (.ref pt),some (.int (25-(f:Int))),some (.ref fl),o]/\SqT K H2 pt (ps.map pV)/\RS K T.a_Reader H2 p dx wl rl ws rest2 rows2/\K2 p rl H H2/\H2 fl=some (.lst fv)/\kj K H2 fv acc/\acc.length=i/\rows2.length<=160/\
   fF (fJ f) ps [] rest rows=fF (fJ f) (ps.drop i) acc rest2 rows2)
  ⟨none,[],[],rest,rows,rfl,hpt0,R0,fK.k2 (eX hfl _),eV,.nil,rfl,hrows,rfl⟩ (fun i σ H2 _ ⟨_,_,_,_,_,_,z,_⟩=>z) ?_ ?_⟩
 ·rintro i y σ H2 hi ⟨o,acc,fv,rest2,rows2,rfl,hpt2,R2,k2,hfl2,tf,hacc,hr2,heq⟩
  rw[aK]at hi
  obtain⟨b,hb,rfl⟩:=cD.mp hi
  have hlt:i<ps.length:=(aq.mp hb).1
  have ed:ps.drop i=b::ps.drop (i+ 1):=by
   rw[bH hlt]
   rw[(aq.mp hb).2]
  rw[ed]at heq
  have lf:fv.length<sizeLine:=by rw[tf.length];lia
  cases b with
  |true=>
   refine⟨_,rfl,rfl,_,rfl,?_⟩
   rw[show decide (pV true=V.str "name")=true by decide+kernel]
   obtain⟨k',hk⟩:=R2.ob
   refine iM ⟨_,rfl,.inl ⟨rfl,_,SqL.of hfl2⟩,_,rfl,p,dx,_,rfl,hk,gU _ _ _ _ (by simp),?_⟩
   refine tn0 ?_
   refine Di R2 W (fun x r H3 e hn R3 k3=>?_) (fun hno H3 k3=>?_)
   ·have h3:H3 fl=some (.lst fv):=k3 _ _ hfl2 fp frl
    refine⟨fl,fv,_,rfl,rfl,h3,lf,_,acc++[.flat (.str x)],fv++[.str x],r,rows2,rfl,tF h3 (R2.sqt k3 hpt2),R3.other h3 fp fwl frl,tG hfl (k2.trans k3),eV,((R2.tats k3 tf).snoc (.flat rfl)).other h3,(by rw[aN,hacc];rfl),hr2,?_⟩
    rw[heq,e,fF,if_pos hn]
   ·refine qe ?_ H3 (k2.trans k3)
    rw[heq]
    cases rest2 with
    |nil=>rw[fF]
    |cons x r=>rw[fF,if_neg (by rw[hno x r rfl];exact dN)]
  |false=>
   refine⟨_,rfl,rfl,_,rfl,?_⟩
   rw[show decide (pV false=V.str "name")=false by decide+kernel]
   obtain⟨k',hk⟩:=R2.ob
   refine gR ⟨_,rfl,.inl ⟨rfl,_,SqL.of hfl2⟩,_,rfl,p,dx,_,rfl,hk,gU _ _ _ _ (by simp),_,rfl,p,dx,wl,rl,ws,rest2,rows2,rfl,R2,W,hr2,fun r rows' H3 e R3 k3=>?_,fun e H3 k3=>?_⟩
   ·have h3:H3 fl=some (.lst fv):=k3 _ _ hfl2 fp frl
    refine⟨fl,fv,_,rfl,rfl,h3,lf,_,acc++[.flat (.int (rows2.length:Int))],fv++[.int (rows2.length:Int)],r,rows',rfl,tF h3 (R2.sqt k3 hpt2),R3.other h3 fp fwl frl,tG hfl (k2.trans k3),eV,((R2.tats k3 tf).snoc (.flat rfl)).other h3,(by rw[aN,hacc];rfl),(ep _ _ _ e).1.most hr2,?_⟩
    rw[heq,fF,e]
   ·refine qe ?_ H3 (k2.trans k3)
    rw[heq,fF,e]
 ·rintro σ H2 ⟨o,acc,fv,rest2,rows2,rfl,hpt2,R2,k2,hfl2,tf,hacc,hr2,heq⟩
  rw[aC,bP,fF]at heq
  refine⟨_,rfl,fl,fv,rfl,.inl ⟨SqL.of hfl2,fun t ht=>?_⟩⟩
  have s:=eX ht (.tup fv)
  exact q acc rest2 rows2 t _ heq (R2.same s) (k2.trans (fK.k2 s)) (.tup eV (R2.tats (fK.k2 s) tf))
theorem yw (T:Txt K mg) (f:Nat)
  (G_Reader_ahead:gu P w K mg base CX0 1 T.a_Reader_ahead T.fd_Reader_ahead ["self"] (gM T.a_Reader))
  (G_Reader_take_steady:gu P w K mg base (CXE P w) (5*f+ 6) T.a_Reader_take_steady T.fd_Reader_take_steady ["self","parts","depth"] (D1 K T.a_Reader T.a_BadText f))
  (G_check_count:gu P w K mg base (CXE P w) 1 T.a_check_count T.fd_check_count ["what","count","least","most"] (iO T.a_BadText)):
  gu P w K mg base (CXE P w) (5*f+ 7) T.a_Reader_take_fields T.fd_Reader_take_fields ["self","depth"] (Cc K T.a_Reader T.a_BadText f (iB (fJ f) [true,false]) 0 6):=by
 refine T.F_Reader_take_fields.okE jY (fun vs H Q E h=>?_) (fun cdv A outer s H vs Q E hr h=>?_)
 ·obtain⟨p,dx,wl,rl,ws,rest,rows,rfl,_⟩:=h
  rfl
 obtain⟨p,dx,wl,rl,ws,rest,rows,rfl,R,W,hrows,q,qe⟩:=h
 refine⟨_,(eR (fC (i:=2) jY.nd rfl (.inl rfl) (gH eS))
  (eR (mi PassesOwn.leaving (iR mH (i8 (pv 0) T.cl_Reader T.me_Reader_ahead G_Reader_ahead (hr.mono (by lia)) T.b_Reader_ahead .nil fO) fc (fD _))
   (eW (fE (ko dG dH dI gq (pv 2) (eQ (fQ (pv 0) T.cl_Reader T.me_Reader_take_steady G_Reader_take_steady (hr.mono (by lia)) T.b_Reader_take_steady .nil jV (eQ (gG (eQ fc (eQ fc eS))) (eQ (pv 1) eS))) eS)))))
  (eR (fE (fA G_check_count (hr.mono (by lia)) rfl T.m_check_count T.k_check_count T.b_check_count .nil jV (eQ fc (eQ (fV fS rfl T.z_len jy (eQ (pv 2) eS)) (eQ eU (eQ (nJ rfl T.m_MOST_FIELDS) eS))))))
  (eW (fG (gS jx rfl T.z_tuple jz (eQ (pv 2) eS))))))),?_⟩
 have sl:sizeLine=16777216:=sizeLine_eq
 refine⟨(by show 0<=sizeLine;decide),fun fl hfl=>?_⟩
 have ep:=iT f
 have gi:tE (iB (fJ f) [true,false]):=kX ep _ (by simp)
 have R0:=R.same (eX hfl (.lst []))
 obtain⟨fp,frl,fwl⟩:=R.apart hfl
 have hs0:=R.short
 have hs1:=W.len
 refine⟨fun m σ H2=>∃(acc:List Dt) (fv:List V) (rest2:List Str) (rows2:List Dt),m=rest2.length/\σ=[some (.ref p),some (.int (25-(f:Int))),some (.ref fl)]/\RS K T.a_Reader H2 p dx wl rl ws rest2 rows2/\K2 p rl H H2/\H2 fl=some (.lst fv)/\kj K H2 fv acc/\acc.length+rest2.length<=30000/\rows2.length<=160/\
   iE (iB (fJ f) [true,false]) rest rows []=iE (iB (fJ f) [true,false]) rest2 rows2 acc,
  ⟨_,[],[],rest,rows,rfl,rfl,R0,fK.k2 (eX hfl _),eV,.nil,(by show 0+_<=_;lia),hrows,rfl⟩,?_⟩
 rintro m σ H2 ⟨acc,fv,rest2,rows2,rfl,rfl,R2,k2,hfl2,tf,hlen,hr2,heq⟩
 have tl:=tf.length
 have lf:fv.length<sizeLine:=by lia
 obtain⟨k',hk⟩:=R2.ob
 refine⟨_,rfl,p,dx,_,rfl,hk,gU _ _ _ _ (.inl rfl),?_⟩
 refine tn0 ?_
 refine zS R2 W ?_
 refine⟨rfl,_,rfl,?_⟩
 by_cases hh:rest2.head?=some ")"
 ·have e1:rest2.headD ""=")":=by rw[bN,hh];rfl
  rw[e1,show(decide (V.str ")"=V.str ")"))=true by decide+kernel]
  refine gR ?_
  rw[lg _ _ _ hh]at heq
  refine⟨_,rfl,fl,fv,rfl,.inl (SqL.of hfl2),"fields",fv.length,0,6,rfl,by decide+kernel,by lia,by decide,by decide,fun hc=>?_,fun hc=>?_⟩
  ·refine⟨_,rfl,fl,fv,rfl,.inl ⟨SqL.of hfl2,fun t ht=>?_⟩⟩
   have s:=eX ht (.tup fv)
   refine q acc rest2 rows2 t _ ?_ (R2.same s) (k2.trans (fK.k2 s)) (.tup eV (R2.tats (fK.k2 s) tf))
   rw[heq,chk,if_pos (by rw[<-tl];exact hc)]
  ·refine qe ?_ H2 k2
   rw[heq,chk,if_neg (by rw[<-tl];exact hc)]
 ·have e1:¬V.str (rest2.headD "")=V.str ")":=fun z=>by
   injection z with z
   cases rest2 with
   |nil=>exact absurd z (by decide+kernel)
   |cons a r=>exact hh (congrArg some z)
  rw[decide_eq_false e1]
  have hm:=nR gi rest2 rows2 acc hh
  refine iM ⟨_,fun σ' H' z=>z,?_⟩
  refine⟨_,rfl,.inl ⟨rfl,_,SqL.of hfl2⟩,_,rfl,p,dx,_,rfl,hk,gU _ _ _ _ (by simp),(by show 2<=sizeLine;decide),fun pt hpt=>?_⟩
  have s3:=eX hpt (.tup [.str "name",.str "expr"])
  have R3:=R2.same s3
  refine⟨_,rfl,p,dx,wl,rl,pt,ws,rest2,rows2,[true,false],rfl,R3,W,hr2,.inl (.inl eV),by decide,fun ds r rows' t H4 e R4 k4 ht=>?_,fun e H4 k4=>?_⟩
  ·have h4:H4 fl=some (.lst fv):=k4 _ _ (s3 _ _ hfl2) fp frl
   have ei:(iB (fJ f) [true,false]) rest2 rows2=some (.tup ds,r,rows'):=by rw[iB,e]
   obtain⟨st,lt⟩:=gi _ _ _ _ ei
   refine⟨fl,fv,_,rfl,rfl,h4,lf,r.length,lt,acc++[.tup ds],fv++[.ref t],r,rows',rfl,rfl,R4.other h4 fp fwl frl,tG hfl (k2.trans ((fK.k2 s3).trans k4)),eV,((R2.tats ((fK.k2 s3).trans k4) tf).snoc ht).other h4,(by rw[aN];have lt':r.length<rest2.length:=lt;show acc.length+ 1+_<=_;lia),st.most hr2,?_⟩
   rw[heq,hm,ei]
  ·refine qe ?_ H4 (k2.trans ((fK.k2 s3).trans k4))
   rw[heq,hm,show(iB (fJ f) [true,false]) rest2 rows2=none by rw[iB,e]]
   rfl
theorem BL (T:Txt K mg) (f:Nat)
  (G_Reader_ahead:gu P w K mg base CX0 1 T.a_Reader_ahead T.fd_Reader_ahead ["self"] (gM T.a_Reader))
  (G_Reader_take_steady:gu P w K mg base (CXE P w) (5*f+ 6) T.a_Reader_take_steady T.fd_Reader_take_steady ["self","parts","depth"] (D1 K T.a_Reader T.a_BadText f))
  (G_check_count:gu P w K mg base (CXE P w) 1 T.a_check_count T.fd_check_count ["what","count","least","most"] (iO T.a_BadText)):
  gu P w K mg base (CXE P w) (5*f+ 7) T.a_Reader_take_arms T.fd_Reader_take_arms ["self","depth"] (Cc K T.a_Reader T.a_BadText f (iB (fJ f) [true,true,false]) 1 6):=by
 refine T.F_Reader_take_arms.okE kJ (fun vs H Q E h=>?_) (fun cdv A outer s H vs Q E hr h=>?_)
 ·obtain⟨p,dx,wl,rl,ws,rest,rows,rfl,_⟩:=h
  rfl
 obtain⟨p,dx,wl,rl,ws,rest,rows,rfl,R,W,hrows,q,qe⟩:=h
 refine⟨_,(eR (fC (i:=2) kJ.nd rfl (.inl rfl) (gH eS))
  (eR (mi PassesOwn.leaving (iR mH (i8 (pv 0) T.cl_Reader T.me_Reader_ahead G_Reader_ahead (hr.mono (by lia)) T.b_Reader_ahead .nil fO) fc (fD _))
   (eW (fE (ko dG dH dI gq (pv 2) (eQ (fQ (pv 0) T.cl_Reader T.me_Reader_take_steady G_Reader_take_steady (hr.mono (by lia)) T.b_Reader_take_steady .nil jV (eQ (gG (eQ fc (eQ fc (eQ fc eS)))) (eQ (pv 1) eS))) eS)))))
  (eR (fE (fA G_check_count (hr.mono (by lia)) rfl T.m_check_count T.k_check_count T.b_check_count .nil jV (eQ fc (eQ (fV fS rfl T.z_len jy (eQ (pv 2) eS)) (eQ eU (eQ (nJ rfl T.m_MOST_ARMS) eS))))))
  (eW (fG (gS jx rfl T.z_tuple jz (eQ (pv 2) eS))))))),?_⟩
 have sl:sizeLine=16777216:=sizeLine_eq
 refine⟨(by show 0<=sizeLine;decide),fun fl hfl=>?_⟩
 have ep:=iT f
 have gi:tE (iB (fJ f) [true,true,false]):=kX ep _ (by simp)
 have R0:=R.same (eX hfl (.lst []))
 obtain⟨fp,frl,fwl⟩:=R.apart hfl
 have hs0:=R.short
 have hs1:=W.len
 refine⟨fun m σ H2=>∃(acc:List Dt) (fv:List V) (rest2:List Str) (rows2:List Dt),m=rest2.length/\σ=[some (.ref p),some (.int (25-(f:Int))),some (.ref fl)]/\RS K T.a_Reader H2 p dx wl rl ws rest2 rows2/\K2 p rl H H2/\H2 fl=some (.lst fv)/\kj K H2 fv acc/\acc.length+rest2.length<=30000/\rows2.length<=160/\
   iE (iB (fJ f) [true,true,false]) rest rows []=iE (iB (fJ f) [true,true,false]) rest2 rows2 acc,
  ⟨_,[],[],rest,rows,rfl,rfl,R0,fK.k2 (eX hfl _),eV,.nil,(by show 0+_<=_;lia),hrows,rfl⟩,?_⟩
 rintro m σ H2 ⟨acc,fv,rest2,rows2,rfl,rfl,R2,k2,hfl2,tf,hlen,hr2,heq⟩
 have tl:=tf.length
 have lf:fv.length<sizeLine:=by lia
 obtain⟨k',hk⟩:=R2.ob
 refine⟨_,rfl,p,dx,_,rfl,hk,gU _ _ _ _ (.inl rfl),?_⟩
 refine tn0 ?_
 refine zS R2 W ?_
 refine⟨rfl,_,rfl,?_⟩
 by_cases hh:rest2.head?=some ")"
 ·have e1:rest2.headD ""=")":=by rw[bN,hh];rfl
  rw[e1,show(decide (V.str ")"=V.str ")"))=true by decide+kernel]
  refine gR ?_
  rw[lg _ _ _ hh]at heq
  refine⟨_,rfl,fl,fv,rfl,.inl (SqL.of hfl2),"arms",fv.length,1,6,rfl,by decide+kernel,by lia,by decide,by decide,fun hc=>?_,fun hc=>?_⟩
  ·refine⟨_,rfl,fl,fv,rfl,.inl ⟨SqL.of hfl2,fun t ht=>?_⟩⟩
   have s:=eX ht (.tup fv)
   refine q acc rest2 rows2 t _ ?_ (R2.same s) (k2.trans (fK.k2 s)) (.tup eV (R2.tats (fK.k2 s) tf))
   rw[heq,chk,if_pos (by rw[<-tl];exact hc)]
  ·refine qe ?_ H2 k2
   rw[heq,chk,if_neg (by rw[<-tl];exact hc)]
 ·have e1:¬V.str (rest2.headD "")=V.str ")":=fun z=>by
   injection z with z
   cases rest2 with
   |nil=>exact absurd z (by decide+kernel)
   |cons a r=>exact hh (congrArg some z)
  rw[decide_eq_false e1]
  have hm:=nR gi rest2 rows2 acc hh
  refine iM ⟨_,fun σ' H' z=>z,?_⟩
  refine⟨_,rfl,.inl ⟨rfl,_,SqL.of hfl2⟩,_,rfl,p,dx,_,rfl,hk,gU _ _ _ _ (by simp),(by show 3<=sizeLine;decide),fun pt hpt=>?_⟩
  have s3:=eX hpt (.tup [.str "name",.str "name",.str "expr"])
  have R3:=R2.same s3
  refine⟨_,rfl,p,dx,wl,rl,pt,ws,rest2,rows2,[true,true,false],rfl,R3,W,hr2,.inl (.inl eV),by decide,fun ds r rows' t H4 e R4 k4 ht=>?_,fun e H4 k4=>?_⟩
  ·have h4:H4 fl=some (.lst fv):=k4 _ _ (s3 _ _ hfl2) fp frl
   have ei:(iB (fJ f) [true,true,false]) rest2 rows2=some (.tup ds,r,rows'):=by rw[iB,e]
   obtain⟨st,lt⟩:=gi _ _ _ _ ei
   refine⟨fl,fv,_,rfl,rfl,h4,lf,r.length,lt,acc++[.tup ds],fv++[.ref t],r,rows',rfl,rfl,R4.other h4 fp fwl frl,tG hfl (k2.trans ((fK.k2 s3).trans k4)),eV,((R2.tats ((fK.k2 s3).trans k4) tf).snoc ht).other h4,(by rw[aN];have lt':r.length<rest2.length:=lt;show acc.length+ 1+_<=_;lia),st.most hr2,?_⟩
   rw[heq,hm,ei]
  ·refine qe ?_ H4 (k2.trans ((fK.k2 s3).trans k4))
   rw[heq,hm,show(iB (fJ f) [true,true,false]) rest2 rows2=none by rw[iB,e]]
   rfl
theorem yx (T:Txt K mg) (f:Nat)
  (G_Reader_ahead:gu P w K mg base CX0 1 T.a_Reader_ahead T.fd_Reader_ahead ["self"] (gM T.a_Reader))
  (G_Reader_take_expr:gu P w K mg base (CXE P w) (5*f+ 5) T.a_Reader_take_expr T.fd_Reader_take_expr ["self","depth"] (BK K T.a_Reader T.a_BadText f))
  (G_check_count:gu P w K mg base (CXE P w) 1 T.a_check_count T.fd_check_count ["what","count","least","most"] (iO T.a_BadText)):
  gu P w K mg base (CXE P w) (5*f+ 7) T.a_Reader_take_things T.fd_Reader_take_things ["self","depth"] (Cc K T.a_Reader T.a_BadText f (kr (fJ f)) 0 8):=by
 refine T.F_Reader_take_things.okE jZ (fun vs H Q E h=>?_) (fun cdv A outer s H vs Q E hr h=>?_)
 ·obtain⟨p,dx,wl,rl,ws,rest,rows,rfl,_⟩:=h
  rfl
 obtain⟨p,dx,wl,rl,ws,rest,rows,rfl,R,W,hrows,q,qe⟩:=h
 refine⟨_,(eR (fC (i:=2) jZ.nd rfl (.inl rfl) (gH eS))
  (eR (mi PassesOwn.leaving (iR mH (i8 (pv 0) T.cl_Reader T.me_Reader_ahead G_Reader_ahead (hr.mono (by lia)) T.b_Reader_ahead .nil fO) fc (fD _))
   (eW (fE (ko dG dH dI gq (pv 2) (eQ (fQ (pv 0) T.cl_Reader T.me_Reader_take_expr G_Reader_take_expr (hr.mono (by lia)) T.b_Reader_take_expr .nil jV (eQ (pv 1) eS)) eS)))))
  (eR (fE (fA G_check_count (hr.mono (by lia)) rfl T.m_check_count T.k_check_count T.b_check_count .nil jV (eQ fc (eQ (fV fS rfl T.z_len jy (eQ (pv 2) eS)) (eQ eU (eQ (nJ rfl T.m_MOST_THINGS) eS))))))
  (eW (fG (gS jx rfl T.z_tuple jz (eQ (pv 2) eS))))))),?_⟩
 have sl:sizeLine=16777216:=sizeLine_eq
 refine⟨(by show 0<=sizeLine;decide),fun fl hfl=>?_⟩
 have ep:=iT f
 have gi:tE (kr (fJ f)):=nQ ep
 have R0:=R.same (eX hfl (.lst []))
 obtain⟨fp,frl,fwl⟩:=R.apart hfl
 have hs0:=R.short
 have hs1:=W.len
 refine⟨fun m σ H2=>∃(acc:List Dt) (fv:List V) (rest2:List Str) (rows2:List Dt),m=rest2.length/\σ=[some (.ref p),some (.int (25-(f:Int))),some (.ref fl)]/\RS K T.a_Reader H2 p dx wl rl ws rest2 rows2/\K2 p rl H H2/\H2 fl=some (.lst fv)/\kj K H2 fv acc/\acc.length+rest2.length<=30000/\rows2.length<=160/\
   iE (kr (fJ f)) rest rows []=iE (kr (fJ f)) rest2 rows2 acc,
  ⟨_,[],[],rest,rows,rfl,rfl,R0,fK.k2 (eX hfl _),eV,.nil,(by show 0+_<=_;lia),hrows,rfl⟩,?_⟩
 rintro m σ H2 ⟨acc,fv,rest2,rows2,rfl,rfl,R2,k2,hfl2,tf,hlen,hr2,heq⟩
 have tl:=tf.length
 have lf:fv.length<sizeLine:=by lia
 obtain⟨k',hk⟩:=R2.ob
 refine⟨_,rfl,p,dx,_,rfl,hk,gU _ _ _ _ (.inl rfl),?_⟩
 refine tn0 ?_
 refine zS R2 W ?_
 refine⟨rfl,_,rfl,?_⟩
 by_cases hh:rest2.head?=some ")"
 ·have e1:rest2.headD ""=")":=by rw[bN,hh];rfl
  rw[e1,show(decide (V.str ")"=V.str ")"))=true by decide+kernel]
  refine gR ?_
  rw[lg _ _ _ hh]at heq
  refine⟨_,rfl,fl,fv,rfl,.inl (SqL.of hfl2),"things",fv.length,0,8,rfl,by decide+kernel,by lia,by decide,by decide,fun hc=>?_,fun hc=>?_⟩
  ·refine⟨_,rfl,fl,fv,rfl,.inl ⟨SqL.of hfl2,fun t ht=>?_⟩⟩
   have s:=eX ht (.tup fv)
   refine q acc rest2 rows2 t _ ?_ (R2.same s) (k2.trans (fK.k2 s)) (.tup eV (R2.tats (fK.k2 s) tf))
   rw[heq,chk,if_pos (by rw[<-tl];exact hc)]
  ·refine qe ?_ H2 k2
   rw[heq,chk,if_neg (by rw[<-tl];exact hc)]
 ·have e1:¬V.str (rest2.headD "")=V.str ")":=fun z=>by
   injection z with z
   cases rest2 with
   |nil=>exact absurd z (by decide+kernel)
   |cons a r=>exact hh (congrArg some z)
  rw[decide_eq_false e1]
  have hm:=nR gi rest2 rows2 acc hh
  refine iM ⟨_,fun σ' H' z=>z,?_⟩
  refine⟨_,rfl,.inl ⟨rfl,_,SqL.of hfl2⟩,_,rfl,p,dx,_,rfl,hk,gU _ _ _ _ (by simp),_,rfl,p,dx,wl,rl,ws,rest2,rows2,rfl,R2,W,hr2,fun r rows' H4 e R4 k4=>?_,fun e H4 k4=>?_⟩
  ·have h4:H4 fl=some (.lst fv):=k4 _ _ hfl2 fp frl
   have ei:(kr (fJ f)) rest2 rows2=some (.flat (.int (rows2.length:Int)),r,rows'):=by rw[kr,e]
   obtain⟨st,lt⟩:=gi _ _ _ _ ei
   refine⟨fl,fv,_,rfl,rfl,h4,lf,r.length,lt,acc++[.flat (.int (rows2.length:Int))],fv++[.int (rows2.length:Int)],r,rows',rfl,rfl,R4.other h4 fp fwl frl,tG hfl (k2.trans k4),eV,((R2.tats k4 tf).snoc (.flat rfl)).other h4,(by rw[aN];have lt':r.length<rest2.length:=lt;show acc.length+ 1+_<=_;lia),st.most hr2,?_⟩
   rw[heq,hm,ei]
  ·refine qe ?_ H4 (k2.trans k4)
   rw[heq,hm,show(kr (fJ f)) rest2 rows2=none by rw[kr,e]]
   rfl
structure Dk (P:Program) (w:World) (K:PySem.W.Frag) (mg:Str->Option Value) where
 a:Addr
 m:mg "STEADY_FORMS"=some (.ref a)
 kvs:List (Key×V)
 kd:xZ P w K a kvs
 no:∀h,stP h=none->je kvs (Sum.inr h)=none
 yes:∀h ps,stP h=some ps->∃q,je kvs (Sum.inr h)=some (.ref q)/\∀H:Hp,SqT K H q (ps.map pV)
theorem zU {h:Str} {ps:List Bool} (e:stP h=some ps):ps≠[]/\ps.length<=3:=by
 unfold stP at e
 obtain⟨p,hp,rfl⟩:=cD.mp e
 have hm:=bQ hp
 clear hp e
 have z:∀p∈stT,p.2≠[]/\p.2.length<=3:=by decide+kernel
 exact z p hm
def FR (K:PySem.W.Frag) (C CB:Addr) (f:Nat):Sp:=fun vs H Q E=>∃(p dx wl rl:Addr) (ws rest:List Str) (rows:List Dt) (h:Str),vs=[.ref p,.str h,.int (25-(f:Int))]/\RS K C H p dx wl rl ws rest rows/\WOk ws/\rows.length<=160/\h∈ws/\
 (∀ds r rows' t H',iS (fJ f) h rest rows=some (ds,r,rows')->RS K C H' p dx wl rl ws r rows'->K2 p rl H H'->TAt K H' (.ref t) (.tup ds)->Q (.ref t) H')/\(iS (fJ f) h rest rows=none->∀H',K2 p rl H H'->E (.ref CB) none H')
theorem BM (T:Txt K mg) (D:Dk P w K mg) (f:Nat)
  (G_Reader_take_expr:gu P w K mg base (CXE P w) (5*f+ 5) T.a_Reader_take_expr T.fd_Reader_take_expr ["self","depth"] (BK K T.a_Reader T.a_BadText f))
  (G_Reader_take_steady:gu P w K mg base (CXE P w) (5*f+ 6) T.a_Reader_take_steady T.fd_Reader_take_steady ["self","parts","depth"] (D1 K T.a_Reader T.a_BadText f))
  (G_Reader_take_fields:gu P w K mg base (CXE P w) (5*f+ 7) T.a_Reader_take_fields T.fd_Reader_take_fields ["self","depth"] (Cc K T.a_Reader T.a_BadText f (iB (fJ f) [true,false]) 0 6))
  (G_Reader_take_arms:gu P w K mg base (CXE P w) (5*f+ 7) T.a_Reader_take_arms T.fd_Reader_take_arms ["self","depth"] (Cc K T.a_Reader T.a_BadText f (iB (fJ f) [true,true,false]) 1 6))
  (G_Reader_take_things:gu P w K mg base (CXE P w) (5*f+ 7) T.a_Reader_take_things T.fd_Reader_take_things ["self","depth"] (Cc K T.a_Reader T.a_BadText f (kr (fJ f)) 0 8)):
  gu P w K mg base (CXE P w) (5*f+ 8) T.a_Reader_take_form T.fd_Reader_take_form ["self","head","depth"] (FR K T.a_Reader T.a_BadText f):=by
 refine T.F_Reader_take_form.okE kI (fun vs H Q E h=>?_) (fun cdv A outer s H vs Q E hr h=>?_)
 ·obtain⟨p,dx,wl,rl,ws,rest,rows,h,rfl,_⟩:=h
  rfl
 obtain⟨p,dx,wl,rl,ws,rest,rows,h,rfl,R,W,hrows,hm,q,qe⟩:=h
 refine⟨_,(eR (gr (iR qS (pv 1) fc (fD _))
   (eW (fG (gG (eQ fc (eQ (fQ (pv 0) T.cl_Reader T.me_Reader_take_fields G_Reader_take_fields (hr.mono (by lia)) T.b_Reader_take_fields .nil jV (eQ (pv 2) eS)) eS)))))
   fw)
  (eR (gr (iR qS (pv 1) fc (fD _))
   (eR (fC (i:=3) kI.nd rfl (.inl rfl) (fQ (pv 0) T.cl_Reader T.me_Reader_take_expr G_Reader_take_expr (hr.mono (by lia)) T.b_Reader_take_expr .nil jV (eQ (pv 2) eS)))
   (eW (fG (gG (eQ fc (eQ (pv 3) (eQ (fQ (pv 0) T.cl_Reader T.me_Reader_take_arms G_Reader_take_arms (hr.mono (by lia)) T.b_Reader_take_arms .nil jV (eQ (pv 2) eS)) eS)))))))
   fw)
  (eR (gr (iR qS (pv 1) fc (fD _))
   (eW (fG (gG (eQ fc (eQ (fQ (pv 0) T.cl_Reader T.me_Reader_take_things G_Reader_take_things (hr.mono (by lia)) T.b_Reader_take_things .nil jV (eQ (pv 2) eS)) eS)))))
   fw)
  (eR (gr (sv (yc D.kd (pv 1) (zt rfl D.m)) rfl)
   (eW (kh rfl kZ T.x_BadText rfl T.m_BadText (eQ (lT (gP (sV (pv 1)) (gP fc n6))) eS)))
   fw)
  (eW (fG (fH Bo (gG (eQ (pv 1) eS)) (fQ (pv 0) T.cl_Reader T.me_Reader_take_steady G_Reader_take_steady (hr.mono (by lia)) T.b_Reader_take_steady .nil jV (eQ (yd D.kd (zt rfl D.m) (pv 1) (fun _ _=>rfl)) (eQ (pv 2) eS)))))))))),?_⟩
 have sl:sizeLine=16777216:=sizeLine_eq
 have ep:=iT f
 obtain⟨k',hk⟩:=R.ob
 refine⟨_,rfl,rfl,_,rfl,?_⟩
 by_cases h1:h="rec"
 ·subst h1
  rw[show decide (V.str "rec"=V.str "rec")=true by decide+kernel]
  have ef:iS (fJ f) "rec" rest rows=match chk 0 6 (iE (iB (fJ f) [true,false]) rest rows [])with
   |none=>none
   |some (l,r)=>some ([.flat (.str "rec"),.tup l],r):=by rw[iS,if_pos rfl]<;>rfl
  refine iM ⟨_,rfl,p,dx,_,rfl,hk,gU _ _ _ _ (by simp),_,rfl,p,dx,wl,rl,ws,rest,rows,rfl,R,W,hrows,fun l r rows' t H1 e R1 k1 ht=>?_,fun e H1 k1=>?_⟩
  ·refine⟨(by show 2<=sizeLine;decide),fun u hu=>?_⟩
   have s:=eX hu (.tup [.str "rec",.ref t])
   refine q _ r rows' u _ (by rw[ef,e]) (R1.same s) (k1.trans (fK.k2 s)) (.tup eV (.cons (.flat rfl) (.cons (R1.tat (fK.k2 s) ht) .nil)))
  ·exact qe (by rw[ef,e]) H1 k1
 rw[decide_eq_false (fun z:V.str h=V.str "rec"=>h1 (by injection z))]
 refine gR ⟨_,rfl,rfl,_,rfl,?_⟩
 by_cases h2:h="case"
 ·subst h2
  rw[show decide (V.str "case"=V.str "case")=true by decide+kernel]
  have ef:iS (fJ f) "case" rest rows=match fJ f rest rows with
   |none=>none
   |some (r1,rows1)=>match chk 1 6 (iE (iB (fJ f) [true,true,false]) r1 rows1 [])with
    |none=>none
    |some (l,r)=>some ([.flat (.str "case"),.flat (.int (rows.length:Int)),.tup l],r):=by rw[iS,if_neg h1,if_pos rfl]<;>rfl
  refine iM ⟨_,rfl,p,dx,_,rfl,hk,gU _ _ _ _ (by simp),_,rfl,p,dx,wl,rl,ws,rest,rows,rfl,R,W,hrows,fun r1 rows1 H1 e1 R1 k1=>?_,fun e1 H1 k1=>?_⟩
  ·obtain⟨k1',hk1⟩:=R1.ob
   refine⟨_,rfl,_,rfl,p,dx,_,rfl,hk1,gU _ _ _ _ (by simp),_,rfl,p,dx,wl,rl,ws,r1,rows1,rfl,R1,W,(ep _ _ _ e1).1.most hrows,fun l r rows' t H2 e R2 k2 ht=>?_,fun e H2 k2=>?_⟩
   ·refine⟨(by show 3<=sizeLine;decide),fun u hu=>?_⟩
    have s:=eX hu (.tup [.str "case",.int (rows.length:Int),.ref t])
    refine q _ r rows' u _ (by rw[ef,e1];show(match chk 1 6 _ with|none=>none|some (l,r)=>_)=_;rw[e]) (R2.same s) ((k1.trans k2).trans (fK.k2 s)) (.tup eV (.cons (.flat rfl) (.cons (.flat rfl) (.cons (R2.tat (fK.k2 s) ht) .nil))))
   ·exact qe (by rw[ef,e1];show(match chk 1 6 _ with|none=>none|some (l,r)=>_)=_;rw[e]) H2 (k1.trans k2)
  ·exact qe (by rw[ef,e1]) H1 k1
 rw[decide_eq_false (fun z:V.str h=V.str "case"=>h2 (by injection z))]
 refine gR ⟨_,rfl,rfl,_,rfl,?_⟩
 by_cases h3:h="row"
 ·subst h3
  rw[show decide (V.str "row"=V.str "row")=true by decide+kernel]
  have ef:iS (fJ f) "row" rest rows=match chk 0 8 (iE (kr (fJ f)) rest rows [])with
   |none=>none
   |some (l,r)=>some ([.flat (.str "row"),.tup l],r):=by rw[iS,if_neg h1,if_neg h2,if_pos rfl]<;>rfl
  refine iM ⟨_,rfl,p,dx,_,rfl,hk,gU _ _ _ _ (by simp),_,rfl,p,dx,wl,rl,ws,rest,rows,rfl,R,W,hrows,fun l r rows' t H1 e R1 k1 ht=>?_,fun e H1 k1=>?_⟩
  ·refine⟨(by show 2<=sizeLine;decide),fun u hu=>?_⟩
   have s:=eX hu (.tup [.str "row",.ref t])
   refine q _ r rows' u _ (by rw[ef,e]) (R1.same s) (k1.trans (fK.k2 s)) (.tup eV (.cons (.flat rfl) (.cons (R1.tat (fK.k2 s) ht) .nil)))
  ·exact qe (by rw[ef,e]) H1 k1
 rw[decide_eq_false (fun z:V.str h=V.str "row"=>h3 (by injection z))]
 have ef:iS (fJ f) h rest rows=match stP h with
  |none=>none
  |some ps=>match fF (fJ f) ps [] rest rows with
   |none=>none
   |some (ds,r)=>some (.flat (.str h)::ds,r):=by rw[iS,if_neg h1,if_neg h2,if_neg h3]<;>rfl
 refine gR ⟨_,rfl,Sum.inr h,rfl,rfl,_,rfl,?_⟩
 cases e4:stP h with
 |none=>
  rw[D.no h e4]
  have hrp:=nq W hm
  refine iM ⟨_,rfl,h,rfl,by lia,_,rfl,DZ hrp,_,rfl,BG hrp (by decide+kernel),BG hrp (by decide+kernel),(by show 1<=sizeLine;decide),qe (by rw[ef,e4]) H (K2.refl _ _ _)⟩
 |some ps=>
  obtain⟨dq,ev,hq⟩:=D.yes h ps e4
  obtain⟨ne,le⟩:=zU e4
  rw[ev]
  refine gR ⟨_,rfl,(by show 1<=sizeLine;decide),fun t1 ht1=>?_⟩
  have s1:=eX ht1 (.tup [.str h])
  have R1:=R.same s1
  obtain⟨k1',hk1⟩:=R1.ob
  refine⟨_,rfl,p,dx,_,rfl,hk1,gU _ _ _ _ (by simp),_,rfl,Sum.inr h,_,rfl,rfl,ev,_,rfl,p,dx,wl,rl,dq,ws,rest,rows,ps,rfl,R1,W,hrows,hq _,le,fun ds r rows' t H2 e R2 k2 ht=>?_,fun e H2 k2=>?_⟩
  ·cases ht with
   |tup hsq hts=>
    rename_i xs
    have l1:=(ku ep _ _ _ _ _ _ e).2.2
    have l2:=hts.length
    have hne:xs≠[]:=fun z=>by
     rw[z]at l2
     rw[<-l2]at l1
     have:ps.length=0:=by simpa using l1.symm
     exact ne (bC.mp this)
    have ht2:SqT K H2 t1 [.str h]:=R1.sqt k2 (.inl (.inl eV))
    refine⟨t1,t,[.str h],xs,rfl,rfl,ht2,.inl (.inl hsq),(fun z=>nomatch z),(by
     have:([]:List Dt).length=0:=rfl
     show 1+xs.length<=_
     lia),fun z=>absurd z hne,fun _ u hu=>?_⟩
    have s:=eX hu (.tup ([.str h]++xs))
    refine q _ r rows' u _ (by rw[ef,e4];show(match fF _ _ _ _ _ with|none=>none|some (ds,r)=>_)=_;rw[e]) (R2.same s) (((fK.k2 s1).trans k2).trans (fK.k2 s)) (.tup eV (.cons (.flat rfl) (R2.tats (fK.k2 s) hts)))
  ·exact qe (by rw[ef,e4];show(match fF _ _ _ _ _ with|none=>none|some (ds,r)=>_)=_;rw[e]) H2 ((fK.k2 s1).trans k2)
theorem zV:(reprText ")").length<=300002:=by decide+kernel
def FT (K:PySem.W.Frag) (C CB:Addr) (f:Nat):Sp:=fun vs H Q E=>∃(p dx wl rl:Addr) (ws rest:List Str) (rows:List Dt),vs=[.ref p,.int (25-((f+ 1:Nat):Int))]/\RS K C H p dx wl rl ws rest rows/\WOk ws/\rows.length<=160/\
 (∀ds r rows' t H',qD (fJ f) rest rows=some (ds,r,rows')->RS K C H' p dx wl rl ws r rows'->K2 p rl H H'->TAt K H' (.ref t) (.tup ds)->Q (.ref t) H')/\(qD (fJ f) rest rows=none->∀H',K2 p rl H H'->E (.ref CB) none H')
theorem Dj (T:Txt K mg) (f:Nat)
  (G_Reader_take:gu P w K mg base (CXE P w) 2 T.a_Reader_take T.fd_Reader_take ["self"] (iN T.a_Reader T.a_BadText))
  (G_Reader_pass_over:gu P w K mg base (CXE P w) 3 T.a_Reader_pass_over T.fd_Reader_pass_over ["self","wanted"] (hJ T.a_Reader T.a_BadText))
  (G_is_name:gu P w K mg base CX0 2 T.a_is_name T.fd_is_name ["word"] mq)
  (G_is_number:gu P w K mg base CX0 2 T.a_is_number T.fd_is_number ["word"] lZ)
  (G_Reader_take_form:gu P w K mg base (CXE P w) (5*f+ 8) T.a_Reader_take_form T.fd_Reader_take_form ["self","head","depth"] (FR K T.a_Reader T.a_BadText f)):
  gu P w K mg base (CXE P w) (5*f+ 9) T.a_Reader_take_row T.fd_Reader_take_row ["self","depth"] (FT K T.a_Reader T.a_BadText f):=by
 refine T.F_Reader_take_row.okE jD (fun vs H Q E h=>?_) (fun cdv A outer s H vs Q E hr h=>?_)
 ·obtain⟨p,dx,wl,rl,ws,rest,rows,rfl,_⟩:=h
  rfl
 obtain⟨p,dx,wl,rl,ws,rest,rows,rfl,R,W,hrows,q,qe⟩:=h
 refine⟨_,(eR (fC (i:=2) jD.nd rfl (.inl rfl) (i8 (pv 0) T.cl_Reader T.me_Reader_take G_Reader_take (hr.mono (by lia)) T.b_Reader_take .nil jV))
  (eR (gr (jd (fA G_is_number (hr.mono (by lia)) rfl T.m_is_number T.k_is_number T.b_is_number .nil fO (eQ (pv 2) eS)))
   (eW (fG (gG (eQ fc (eQ (gS sX rfl T.z_int nZ (eQ (pv 2) eS)) eS)))))
   fw)
  (eR (gr (jd (fA G_is_name (hr.mono (by lia)) rfl T.m_is_name T.k_is_name T.b_is_name .nil fO (eQ (pv 2) eS)))
   (eW (fG (gG (eQ fc (eQ (pv 2) eS)))))
   fw)
  (eR (gr (iR mH (pv 2) fc (fD _))
   (eW (kh rfl kZ T.x_BadText rfl T.m_BadText (eQ (lT (gP (sV (pv 2)) (gP fc n6))) eS)))
   fw)
  (eR (fC (i:=3) jD.nd rfl (.inl rfl) (fQ (pv 0) T.cl_Reader T.me_Reader_take_form G_Reader_take_form (hr.mono (by lia)) T.b_Reader_take_form .nil jV (eQ (i8 (pv 0) T.cl_Reader T.me_Reader_take G_Reader_take (hr.mono (by lia)) T.b_Reader_take .nil jV) (eQ (fH Al (pv 1) eU) eS))))
  (eR (fE (fQ (pv 0) T.cl_Reader T.me_Reader_pass_over G_Reader_pass_over (hr.mono (by lia)) T.b_Reader_pass_over .nil jV (eQ fc eS)))
  (eW (fG (pv 3))))))))),?_⟩
 have sl:sizeLine=16777216:=sizeLine_eq
 obtain⟨k',hk⟩:=R.ob
 refine⟨_,rfl,p,dx,_,rfl,hk,gU _ _ _ _ (by simp),?_⟩
 refine tn0 ?_
 refine Dh R W (fun x r H1 e R1 k1=>?_) (fun e=>qe (by rw[e];rfl) H (K2.refl _ _ _))
 have hx:x∈ws:=R.mem x (by rw[e];exact ah ..)
 have xl:=(W.one x hx).2.1
 refine⟨_,rfl,x,rfl,xl,fun H2 s2=>⟨_,rfl,?_⟩⟩
 have R2:=R1.same s2
 have k2:=k1.trans (fK.k2 (p:=p) (q:=rl) s2)
 cases e1:jb x with
 |true=>
  obtain⟨n1,n2,n3⟩:=pG e1
  refine iM ⟨_,rfl,x,tj x,rfl,wK n1 (by lia) n3,by lia,(by show 2<=sizeLine;decide),fun t ht=>?_⟩
  have s:=eX ht (.tup [.str "num",.int (tj x)])
  exact q _ r rows t _ (by rw[e];exact uE e1) (R2.same s) (k2.trans (fK.k2 s)) (.tup eV (.cons (.flat rfl) (.cons (.flat rfl) .nil)))
 |false=>
  have f1:¬jb x=true:=by rw[e1];exact dN
  refine gR ⟨_,rfl,x,rfl,xl,fun H3 s3=>⟨_,rfl,?_⟩⟩
  have R3:=R2.same s3
  have k3:=k2.trans (fK.k2 (p:=p) (q:=rl) s3)
  cases e2:fu x with
  |true=>
   refine iM ⟨_,rfl,(by show 2<=sizeLine;decide),fun t ht=>?_⟩
   have s:=eX ht (.tup [.str "name",.str x])
   exact q _ r rows t _ (by rw[e];exact rC f1 e2) (R3.same s) (k3.trans (fK.k2 s)) (.tup eV (.cons (.flat rfl) (.cons (.flat rfl) .nil)))
  |false=>
   have f2:¬fu x=true:=by rw[e2];exact dN
   refine gR ⟨_,rfl,rfl,_,rfl,?_⟩
   by_cases h3:x="("
   ·rw[decide_eq_true (congrArg V.str h3)]
    obtain⟨k3',hk3⟩:=R3.ob
    refine gR ⟨_,rfl,p,dx,_,rfl,hk3,gU _ _ _ _ (by simp),_,rfl,p,dx,_,rfl,hk3,gU _ _ _ _ (by simp),?_⟩
    refine tn0 ?_
    refine Dh R3 W (fun h r2 H4 e4 R4 k4=>?_) (fun e4=>qe (by rw[e,e4];exact zK f1 f2 h3) H3 k3)
    have hh:h∈ws:=R3.mem h (by rw[e4];exact ah ..)
    have er':qD (fJ f) rest rows=lX (iS (fJ f) h r2 rows):=by rw[e,e4];exact uF f1 f2 h3
    refine⟨_,rfl,_,_,rfl,rfl,p,dx,wl,rl,ws,r2,rows,h,(by
     show[V.ref p,V.str h,V.int (25-((f+ 1:Nat):Int)+ 1)]=_
     rw[show(25-((f+ 1:Nat):Int)+ 1)=25-(f:Int) by lia]),R4,W,hrows,hh,fun ds r3 rows' t H5 e5 R5 k5 ht=>?_,fun e5 H5 k5=>?_⟩
    ·obtain⟨k5',hk5⟩:=R5.ob
     refine⟨_,rfl,p,dx,_,rfl,hk5,gU _ _ _ _ (by simp),?_⟩
     refine tc1 ?_
     refine zT R5 W zV (fun r4 H6 e6 R6 k6=>?_) (fun ne H6 k6=>?_)
     ·refine⟨_,rfl,q ds r4 rows' t H6 ?_ R6 (((k3.trans k4).trans k5).trans k6) (R5.tat k6 ht)⟩
      rw[er',e5,e6]
      unfold lX
      exact if_pos rfl
     ·refine qe ?_ H6 (((k3.trans k4).trans k5).trans k6)
      rw[er',e5]
      unfold lX
      cases r3 with
      |nil=>rfl
      |cons y r4=>
       refine if_neg fun z=>ne ?_
       rw[z]
       rfl
    ·exact qe (by rw[er',e5];rfl) H5 ((k3.trans k4).trans k5)
   ·rw[decide_eq_false (fun z:V.str x=V.str "("=>h3 (by injection z))]
    have hrp:=nq W hx
    refine iM ⟨_,rfl,x,rfl,by lia,_,rfl,DZ hrp,_,rfl,BG hrp (by decide+kernel),BG hrp (by decide+kernel),(by show 1<=sizeLine;decide),qe ?_ H3 k3⟩
    rw[e]
    exact C9 f1 f2 h3
theorem zW (T:Txt K mg):gu P w K mg base (CXE P w) 5 T.a_Reader_take_expr T.fd_Reader_take_expr ["self","depth"] (BK K T.a_Reader T.a_BadText 0):=by
 refine T.F_Reader_take_expr.okE jv (fun vs H Q E h=>?_) (fun cdv A outer s H vs Q E hr h=>?_)
 ·obtain⟨p,dx,wl,rl,ws,rest,rows,rfl,_⟩:=h
  rfl
 obtain⟨p,dx,wl,rl,ws,rest,rows,rfl,R,W,hrows,q,qe⟩:=h
 refine⟨_,(eR (gr (iR A6 (pv 1) (nJ rfl T.m_MOST_NEST) (fD _))
   (eW (kh rfl kZ T.x_BadText rfl T.m_BadText (eQ (lT (gP fc (gP (uD (nJ rfl T.m_MOST_NEST)) n6))) eS)))
   fw)
  xo),?_⟩
 have sl:sizeLine=16777216:=sizeLine_eq
 have nn:=nz (show 24<=100000 by decide)
 refine⟨_,rfl,_,_,rfl,rfl,_,rfl,iM ?_⟩
 refine⟨_,rfl,?_,.inr ⟨_,rfl,nn.1,_,rfl,?_,?_,(by show 1<=sizeLine;decide),qe rfl H (K2.refl _ _ _)⟩⟩
 all_goals
  simp only[Str.length_append]
  have e0:Str.empty.length=0:=rfl
  have e1:("a nest above ":Str).length=13:=by decide+kernel
  have e2:(PySem.Str.ofString (toString (24:Int))).length<=6:=nn.2
  try lia
theorem zX (T:Txt K mg) (f:Nat)
  (G_Reader_take_row:gu P w K mg base (CXE P w) (5*f+ 9) T.a_Reader_take_row T.fd_Reader_take_row ["self","depth"] (FT K T.a_Reader T.a_BadText f)):
  gu P w K mg base (CXE P w) (5*(f+ 1)+ 5) T.a_Reader_take_expr T.fd_Reader_take_expr ["self","depth"] (BK K T.a_Reader T.a_BadText (f+ 1)):=by
 refine T.F_Reader_take_expr.okE (k:=5*f+ 9) jv (fun vs H Q E h=>?_) (fun cdv A outer s H vs Q E hr h=>?_)
 ·obtain⟨p,dx,wl,rl,ws,rest,rows,rfl,_⟩:=h
  rfl
 obtain⟨p,dx,wl,rl,ws,rest,rows,rfl,R,W,hrows,q,qe⟩:=h
 refine⟨_,(eR (gr (iR A6 (pv 1) (nJ rfl T.m_MOST_NEST) (fD _))
   (eW (kh rfl kZ T.x_BadText rfl T.m_BadText (eQ (lT (gP fc (gP (uD (nJ rfl T.m_MOST_NEST)) n6))) eS)))
   fw)
  (eR (fC (i:=2) jv.nd rfl (.inl rfl) (fV fS rfl T.z_len jy (eQ (m9 (pv 0) rfl) eS)))
  (eR (gr (iR qS (pv 2) (nJ rfl T.m_MOST_PLACES) (fD _))
   (eW (kh rfl kZ T.x_BadText rfl T.m_BadText (eQ (lT (gP fc (gP (uD (nJ rfl T.m_MOST_PLACES)) (gP fc n6)))) eS)))
   fw)
  (eR (fE (ko dG dH dI gq (m9 (pv 0) rfl) (eQ qo eS)))
  (eR (Cp (fQ (pv 0) T.cl_Reader T.me_Reader_take_row G_Reader_take_row (hr.mono (by lia)) T.b_Reader_take_row .nil jV (eQ (pv 1) eS)) (Co (m9 (pv 0) rfl) (pv 2) zm))
  (eW (fG (pv 2)))))))),?_⟩
 have sl:sizeLine=16777216:=sizeLine_eq
 have nn:=nz (show 160<=100000 by decide)
 obtain⟨k,rv,R',h1,h2,h3⟩:=R
 have tl:=h3.length
 refine⟨_,rfl,_,_,rfl,rfl,_,rfl,?_⟩
 rw[decide_eq_false (by lia)]
 refine gR ⟨_,rfl,p,_,dx,_,_,rfl,R'.ob,T.cl_Reader,T.n_Reader_rows,rq _ _ _,rl,_,rfl,.inl (SqL.of R'.rw),?_⟩
 refine⟨_,rfl,rfl,_,rfl,?_⟩
 by_cases h160:rows.length=160
 ·rw[decide_eq_true (show V.int ((rv.length:Nat):Int)=V.int 160 by rw[tl,h160];rfl)]
  refine iM ⟨_,rfl,?_,.inr ⟨_,rfl,nn.1,_,rfl,?_,_,rfl,?_,?_,(by show 1<=sizeLine;decide),qe (by rw[fJ,if_pos h160]) H (K2.refl _ _ _)⟩⟩
  all_goals
   simp only[Str.length_append]
   have e0:Str.empty.length=0:=rfl
   have e1:("more than ":Str).length=10:=by decide+kernel
   have e3:(" places":Str).length=7:=by decide+kernel
   have e2:(PySem.Str.ofString (toString (160:Int))).length<=6:=nn.2
   try lia
 ·rw[decide_eq_false (show ¬V.int ((rv.length:Nat):Int)=V.int 160 from fun z=>by injection z with z;lia)]
  refine gR ⟨_,rfl,p,_,dx,_,_,rfl,R'.ob,T.cl_Reader,T.n_Reader_rows,rq _ _ _,.inl ⟨rfl,_,SqL.of R'.rw⟩,rl,_,_,rfl,rfl,R'.rw,by lia,?_⟩
  have npr:=R'.ne2
  have nwr:=R'.ne
  have R1':nk T.a_Reader (upd H rl (.lst (rv++[.non]))) p dx wl rl ws k (rv++[.non]):=⟨by rw[fe npr];exact R'.ob,by rw[fe nwr];exact R'.wd,eV,nwr⟩
  have R1:RS K T.a_Reader (upd H rl (.lst (rv++[.non]))) p dx wl rl ws rest (rows++[.flat .non]):=⟨k,_,R1',h1,h2,(h3.snoc (.flat rfl)).other R'.rw⟩
  have k1:K2 p rl H (upd H rl (.lst (rv++[.non]))):=(K2.refl p rl H).upd2 _
  have lr:(rows++[Dt.flat .non]).length=rows.length+ 1:=by rw[aN];rfl
  refine⟨_,rfl,p,dx,_,rfl,R1'.ob,gU _ _ _ _ (by simp),_,rfl,p,dx,wl,rl,ws,rest,_,rfl,R1,W,by lia,fun ds r rows' t H2 e R2 k2 ht=>?_,fun e H2 k2=>?_⟩
  ·have up:=(vM (iT f) e).1.up
   obtain⟨kk,rv2,R2',g1,g2,g3⟩:=R2
   have tl2:=g3.length
   have lt:rows.length<rv2.length:=by
    have up':(rows++[Dt.flat .non]).length<=rows'.length:=up
    lia
   refine⟨_,rfl,p,_,dx,_,_,rfl,R2'.ob,T.cl_Reader,T.n_Reader_rows,rq _ _ _,_,rfl,rl,_,_,rv.length,rfl,rfl,R2'.rw,BF (by lia),?_⟩
   refine⟨_,rfl,?_⟩
   rw[tl]
   refine q r (rows'.set rows.length (.tup ds)) _ ?_ ⟨kk,_,⟨?_,?_,eV,nwr⟩,g1,g2,(kj.set _ g3 ht).other R2'.rw⟩ ((k1.trans k2).upd2 _)
   ·rw[fJ,if_neg h160,e]
   ·rw[fe npr]
    exact R2'.ob
   ·rw[fe nwr]
    exact R2'.wd
  ·refine qe ?_ H2 (k1.trans k2)
   rw[fJ,if_neg h160,e]
theorem yy (T:Txt K mg) (D:Dk P w K mg)
  (G_Reader_ahead:gu P w K mg base CX0 1 T.a_Reader_ahead T.fd_Reader_ahead ["self"] (gM T.a_Reader))
  (G_Reader_take:gu P w K mg base (CXE P w) 2 T.a_Reader_take T.fd_Reader_take ["self"] (iN T.a_Reader T.a_BadText))
  (G_Reader_pass_over:gu P w K mg base (CXE P w) 3 T.a_Reader_pass_over T.fd_Reader_pass_over ["self","wanted"] (hJ T.a_Reader T.a_BadText))
  (G_Reader_take_name:gu P w K mg base (CXE P w) 3 T.a_Reader_take_name T.fd_Reader_take_name ["self"] (hV T.a_Reader T.a_BadText))
  (G_is_name:gu P w K mg base CX0 2 T.a_is_name T.fd_is_name ["word"] mq)
  (G_is_number:gu P w K mg base CX0 2 T.a_is_number T.fd_is_number ["word"] lZ)
  (G_check_count:gu P w K mg base (CXE P w) 1 T.a_check_count T.fd_check_count ["what","count","least","most"] (iO T.a_BadText)):
  ∀f,gu P w K mg base (CXE P w) (5*f+ 5) T.a_Reader_take_expr T.fd_Reader_take_expr ["self","depth"] (BK K T.a_Reader T.a_BadText f)
 |0=>zW T
 |f+ 1=>by
  have g:=yy T D G_Reader_ahead G_Reader_take G_Reader_pass_over G_Reader_take_name G_is_name G_is_number G_check_count f
  have gs:=yv T f G_Reader_take_name g
  exact zX T f (Dj T f G_Reader_take G_Reader_pass_over G_is_name G_is_number
   (BM T D f g gs (yw T f G_Reader_ahead gs G_check_count) (BL T f G_Reader_ahead gs G_check_count) (yx T f G_Reader_ahead g G_check_count)))
theorem zY:(reprText "(").length<=300002/\(reprText "def").length<=300002/\(reprText ")").length<=300002:=by decide+kernel
def kK (C:Addr):Sp:=fun vs H Q _=>∃(p dx a b c:Addr),vs=[.ref p,.ref a,.ref b,.ref c]/\H p=some (.ins C dx [])/\∀H',H' p=some (.ins C dx (fP a b c))->(∀z o,H z=some o->z≠p->H' z=some o)->Q .non H'
theorem mU (T:Txt K mg):gu P w K mg base CX0 1 T.a_Program___init__ T.fd_Program___init__ ["self","names","roots","rows"] (kK T.a_Program):=by
 refine T.F_Program___init__.ok mP (fun vs H Q E h=>?_) (fun cdv A outer s H vs Q E hr h=>?_)
 ·obtain⟨p,dx,a,b,c,rfl,_⟩:=h
  rfl
 obtain⟨p,dx,a,b,c,rfl,hp,k⟩:=h
 refine⟨_,(eR (iK (pv 0) (pv 1) rfl)
  (eR (iK (pv 0) (pv 2) rfl)
  (eW (iK (pv 0) (pv 3) rfl)))),?_⟩
 refine⟨_,rfl,_,rfl,p,T.a_Program,dx,[],rfl,hp,T.cl_Program,T.n_Program_names,(by show 0<1000;decide),?_⟩
 refine⟨_,rfl,_,rfl,p,T.a_Program,dx,_,rfl,eV,T.cl_Program,T.n_Program_roots,(by show 1<1000;decide),?_⟩
 refine⟨_,rfl,_,rfl,p,T.a_Program,dx,_,rfl,eV,T.cl_Program,T.n_Program_rows,(by show 2<1000;decide),?_⟩
 refine k _ ?_ fun z o e hz=>?_
 ·rw[eV]
  exact congrArg (fun l=>some (HO.ins T.a_Program dx l)) (EG a b c)
 ·rw[fe hz,fe hz,fe hz]
  exact e
structure PrAt (C:Addr) (H:Hp) (g:Addr) (nl tl rl:Addr) (names roots rows:List V):Prop where
 ob:∃dx,H g=some (.ins C dx (fP nl tl rl))
 nm:H nl=some (.lst names)
 rt:H tl=some (.lst roots)
 rw:H rl=some (.lst rows)
 n1:nl≠tl
 n2:nl≠rl
 n3:tl≠rl
def BN (K:PySem.W.Frag) (C CB:Addr):Sp:=fun vs H Q E=>∃(x:Str) (ws:List Str),vs=[.str x]/\x.length<=30000/\pC x.cps.toList=ws.map V.str/\WOk ws/\
 (∀names roots rows g nl tl rl rtv rwv H',lO ws=some (names,roots,rows)->fK H H'->H nl=none->H tl=none->H rl=none->PrAt C H' g nl tl rl (names.map V.str) rtv rwv->kj K H' rtv roots->kj K H' rwv rows->Q (.ref g) H')/\(lO ws=none->∀H',fK H H'->E (.ref CB) none H')
theorem nV {p rl:Addr} {H H1 H2:Hp} (np:H p=none) (nr:H rl=none) (s:fK H H1) (k:K2 p rl H1 H2):fK H H2:=fun b o e=>k b o (s b o e) (fb e np) (fb e nr)
theorem BP (T:Txt K mg) (G_words_of:gu P w K mg base CX0 1 T.a_words_of T.fd_words_of ["text"] pR) (G_Reader___init__:gu P w K mg base CX0 1 T.a_Reader___init__ T.fd_Reader___init__ ["self","words"] (kT T.a_Reader))
  (G_Reader_ahead:gu P w K mg base CX0 1 T.a_Reader_ahead T.fd_Reader_ahead ["self"] (gM T.a_Reader))
  (G_Reader_pass_over:gu P w K mg base (CXE P w) 3 T.a_Reader_pass_over T.fd_Reader_pass_over ["self","wanted"] (hJ T.a_Reader T.a_BadText))
  (G_Reader_take_name:gu P w K mg base (CXE P w) 3 T.a_Reader_take_name T.fd_Reader_take_name ["self"] (hV T.a_Reader T.a_BadText))
  (G_Reader_take_expr:gu P w K mg base (CXE P w) (5*24+ 5) T.a_Reader_take_expr T.fd_Reader_take_expr ["self","depth"] (BK K T.a_Reader T.a_BadText 24))
  (G_check_count:gu P w K mg base (CXE P w) 1 T.a_check_count T.fd_check_count ["what","count","least","most"] (iO T.a_BadText))
  (G_Program___init__:gu P w K mg base CX0 1 T.a_Program___init__ T.fd_Program___init__ ["self","names","roots","rows"] (kK T.a_Program)):
  gu P w K mg base (CXE P w) 126 T.a_read T.fd_read ["text"] (BN K T.a_Program T.a_BadText):=by
 refine T.F_read.okE rJ (fun vs H Q E h=>?_) (fun cdv A outer s H vs Q E hr h=>?_)
 ·obtain⟨x,ws,rfl,_⟩:=h
  rfl
 obtain⟨x,ws,rfl,hx,hw,W,q,qe⟩:=h
 refine⟨_,(eR (fC (i:=1) rJ.nd rfl (.inl rfl) (qV T.mk_Reader G_Reader___init__ (hr.mono (by lia)) rfl T.m_Reader T.b_Reader___init__ .nil fO (eQ (fA G_words_of (hr.mono (by lia)) rfl T.m_words_of T.k_words_of T.b_words_of .nil fO (eQ (pv 0) eS)) eS)))
  (eR (fC (i:=2) rJ.nd rfl (.inl rfl) (gH eS))
  (eR (fC (i:=3) rJ.nd rfl (.inl rfl) (gH eS))
  (eR (mi PassesOwn.leaving (iR mH (i8 (pv 1) T.cl_Reader T.me_Reader_ahead G_Reader_ahead (hr.mono (by lia)) T.b_Reader_ahead .nil fO) fc (fD _))
   (eR (fE (fQ (pv 1) T.cl_Reader T.me_Reader_pass_over G_Reader_pass_over (hr.mono (by lia)) T.b_Reader_pass_over .nil jV (eQ fc eS)))
   (eR (fE (fQ (pv 1) T.cl_Reader T.me_Reader_pass_over G_Reader_pass_over (hr.mono (by lia)) T.b_Reader_pass_over .nil jV (eQ fc eS)))
   (eR (fE (ko dG dH dI gq (pv 2) (eQ (i8 (pv 1) T.cl_Reader T.me_Reader_take_name G_Reader_take_name (hr.mono (by lia)) T.b_Reader_take_name .nil jV) eS)))
   (eR (fE (ko dG dH dI gq (pv 3) (eQ (fQ (pv 1) T.cl_Reader T.me_Reader_take_expr G_Reader_take_expr (hr.mono (by lia)) T.b_Reader_take_expr .nil jV (eQ eU eS)) eS)))
   (eW (fE (fQ (pv 1) T.cl_Reader T.me_Reader_pass_over G_Reader_pass_over (hr.mono (by lia)) T.b_Reader_pass_over .nil jV (eQ fc eS)))))))))
  (eR (fE (fA G_check_count (hr.mono (by lia)) rfl T.m_check_count T.k_check_count T.b_check_count .nil jV (eQ fc (eQ (fV fS rfl T.z_len jy (eQ (pv 2) eS)) (eQ eU (eQ (nJ rfl T.m_MOST_DEFINITIONS) eS))))))
  (eW (fG (qV T.mk_Program G_Program___init__ (hr.mono (by lia)) rfl T.m_Program T.b_Program___init__ .nil fO (eQ (pv 2) (eQ (pv 3) (eQ (m9 (pv 1) rfl) eS))))))))))),?_⟩
 have sl:sizeLine=16777216:=sizeLine_eq
 obtain⟨rp1,rp2,rp3⟩:=zY
 refine⟨_,rfl,x,rfl,hx,fun wl H1 s1 nwl hwl p dx np ndx nex=>?_⟩
 rw[hw]at hwl
 have wp:wl≠p:=fb hwl np
 have wdx:wl≠dx:=fb hwl ndx
 refine⟨p,dx,wl,ws,rfl,eV,by rw[fe wp,fe wdx];exact hwl,fun rl H2 nrl R2 keep=>⟨rfl,?_⟩⟩
 have np0:H p=none:=s1.free np
 have S1:fK H (upd (upd H1 dx (.own p)) p (.ins T.a_Reader dx [])):=rA _ np0 (rA _ (s1.free ndx) s1)
 have nr0:H rl=none:=S1.free nrl
 have S2:fK H H2:=fun b o e=>keep b o (S1 b o e) (fb e np0)
 refine⟨(by show 0<=sizeLine;decide),fun nl hnl=>⟨(by show 0<=sizeLine;decide),fun tl htl=>?_⟩⟩
 have nn0:H nl=none:=S2.free hnl
 have S3:fK H (upd H2 nl (.lst [])):=S2.trans (eX hnl _)
 have nt0:H tl=none:=S3.free htl
 have S4:fK H (upd (upd H2 nl (.lst [])) tl (.lst [])):=S3.trans (eX htl _)
 have R4':=(R2.same (eX hnl (.lst []))).same (eX htl (.lst []))
 have R4:RS K T.a_Reader (upd (upd H2 nl (.lst [])) tl (.lst [])) p dx wl rl ws ws []:=⟨0,[],R4',rfl,b7 _,.nil⟩
 have ntn:nl≠tl:=fb eV htl
 have hN4:upd (upd H2 nl (.lst [])) tl (.lst []) nl=some (.lst []):=by rw[fe ntn];exact eV
 have hT4:upd (upd H2 nl (.lst [])) tl (.lst []) tl=some (.lst []):=eV
 have pn:nl≠p:=Ne.symm (fb R2.ob hnl)
 have rn:nl≠rl:=Ne.symm (fb R2.rw hnl)
 have pt:tl≠p:=Ne.symm (fb (R2.same (eX hnl (.lst []))).ob htl)
 have rt:tl≠rl:=Ne.symm (fb (R2.same (eX hnl (.lst []))).rw htl)
 have wn:nl≠wl:=Ne.symm (fb R2.wd hnl)
 have wt:tl≠wl:=Ne.symm (fb (R2.same (eX hnl (.lst []))).wd htl)
 have wlen:=W.len
 have ra:lO ws=match jc ws [] [] []with
  |none=>none
  |some (n,r,rows)=>if 1<=n.length/\n.length<=12 then some (n,r,rows)else none:=by rw[lO]<;>rfl
 generalize hH4:upd (upd H2 nl (.lst [])) tl (.lst [])=H4 at R4 S4 hN4 hT4
 refine⟨fun m σ H5=>∃(names:List Str) (roots:List Dt) (rtv:List V) (rest:List Str) (rows:List Dt),m=rest.length/\σ=[some (.str x),some (.ref p),some (.ref nl),some (.ref tl)]/\RS K T.a_Reader H5 p dx wl rl ws rest rows/\fK H H5/\H5 nl=some (.lst (names.map V.str))/\H5 tl=some (.lst rtv)/\kj K H5 rtv roots/\names.length+rest.length<=30000/\roots.length=names.length/\rows.length<=160/\jc ws [] [] []=jc rest rows names roots,
  ⟨_,[],[],[],ws,[],rfl,rfl,R4,S4,hN4,hT4,.nil,(by show 0+_<=_;lia),rfl,b7 _,rfl⟩,?_⟩
 rintro m σ H5 ⟨names,roots,rtv,rest,rows,rfl,rfl,R5,S5,hN5,hT5,ht5,hlen,hlr,hrows,heq⟩
 obtain⟨k5,hk5⟩:=R5.ob
 have lroot:=ht5.length
 refine⟨_,rfl,p,dx,_,rfl,hk5,gU _ _ _ _ (.inl rfl),?_⟩
 refine tn0 ?_
 refine zS R5 W ?_
 refine⟨rfl,_,rfl,?_⟩
 by_cases hnil:rest=[]
 ·subst hnil
  rw[show decide (V.str (([]:List Str).headD "")=V.str "")=true by decide+kernel]
  rw[defs_nil]at heq
  rw[heq]at ra
  have ra':lO ws=if 1<=names.length/\names.length<=12 then some (names,roots,rows)else none:=ra
  have lm:(names.map V.str).length=names.length:=aC ..
  refine gR ⟨_,rfl,nl,_,rfl,.inl (SqL.of hN5),"definitions",(names.map V.str).length,1,12,rfl,by decide+kernel,by lia,by decide,by decide,fun hc=>?_,fun hc=>?_⟩
  ·rw[lm]at hc
   rw[if_pos hc]at ra'
   refine⟨_,rfl,_,rfl,_,rfl,p,_,dx,_,_,rfl,hk5,T.cl_Reader,T.n_Reader_rows,rq _ _ _,fun g dg ng ndg neg=>?_⟩
   refine⟨g,dg,nl,tl,rl,rfl,eV,fun H6 hg keep6=>⟨rfl,?_⟩⟩
   have k6:fK H5 H6:=fun b o e=>keep6 b o (by rw[fe (fb e ng),fe (fb e ndg)];exact e) (fb e ng)
   obtain⟨k,rv,R5',h1,h2,h3⟩:=R5
   have kk:K2 p rl H5 H6:=fK.k2 k6
   exact q names roots rows g nl tl rl rtv rv H6 ra' (S5.trans k6) nn0 nt0 nr0 ⟨⟨dg,hg⟩,k6 _ _ hN5,k6 _ _ hT5,k6 _ _ R5'.rw,ntn,rn,rt⟩ (ht5.mono fun a xs t=>nk.tpT R5' kk t) (h3.mono fun a xs t=>nk.tpT R5' kk t)
  ·rw[lm]at hc
   rw[if_neg hc]at ra'
   exact qe ra' H5 S5
 ·have e1:¬V.str (rest.headD "")=V.str "":=fun z=>by
   injection z with z
   cases rest with
   |nil=>exact hnil rfl
   |cons a r=>exact(W.one a (R5.mem a (ah ..))).1 z
  rw[decide_eq_false e1]
  have fail:∀{H':Hp},jc rest rows names roots=none->K2 p rl H5 H'->E (.ref T.a_BadText) none H':=fun{H'} z k=>by
   refine qe ?_ H' (nV np0 nr0 S5 k)
   rw[ra,heq,z]
  refine iM ⟨_,fun σ' H' z=>z,?_⟩
  refine⟨_,rfl,p,dx,_,rfl,hk5,gU _ _ _ _ (by simp),?_⟩
  refine tc1 ?_
  refine zT R5 W rp1 (fun r1 H6 e6 R6 k6=>?_) (fun ne H6 k6=>fail (zL hnil ne) k6)
  subst e6
  obtain⟨k6',hk6⟩:=R6.ob
  refine⟨_,rfl,p,dx,_,rfl,hk6,gU _ _ _ _ (by simp),?_⟩
  refine tc1 ?_
  refine zT R6 W rp2 (fun r2 H7 e7 R7 k7=>?_) (fun ne H7 k7=>fail (zM ne) (k6.trans k7))
  subst e7
  have kk7:=k6.trans k7
  have hN7:H7 nl=some (.lst (names.map V.str)):=kk7 _ _ hN5 pn rn
  obtain⟨k7',hk7⟩:=R7.ob
  refine⟨_,rfl,.inl ⟨rfl,_,SqL.of hN7⟩,_,rfl,p,dx,_,rfl,hk7,gU _ _ _ _ (by simp),?_⟩
  refine tn0 ?_
  refine Di R7 W (fun c r3 H8 e8 hc R8 k8=>?_) (fun hno H8 k8=>fail (zN hno) (kk7.trans k8))
  subst e8
  have kk8:=kk7.trans k8
  have hN8:H8 nl=some (.lst (names.map V.str)):=kk8 _ _ hN5 pn rn
  have hT8:H8 tl=some (.lst rtv):=kk8 _ _ hT5 pt rt
  simp only[az]at hlen
  refine⟨nl,_,_,rfl,rfl,hN8,(by rw[aC];lia),?_⟩
  have R9:=R8.other (o:= .lst (names.map V.str++[.str c])) hN8 pn wn rn
  have S8:=nV np0 nr0 S5 kk8
  have S9:fK H (upd H8 nl (.lst (names.map V.str++[.str c]))):=rA _ nn0 S8
  have hT9:upd H8 nl (.lst (names.map V.str++[.str c])) tl=some (.lst rtv):=by rw[fe (Ne.symm ntn)];exact hT8
  have ht9:=(R5.tats kk8 ht5).other (o:= .lst (names.map V.str++[.str c])) hN8
  obtain⟨k9',hk9⟩:=R9.ob
  refine⟨_,rfl,.inl ⟨rfl,_,SqL.of hT9⟩,_,rfl,p,dx,_,rfl,hk9,gU _ _ _ _ (by simp),?_⟩
  refine tc1 ?_
  refine⟨p,dx,wl,rl,ws,r3,rows,rfl,R9,W,hrows,fun r4 rows4 H10 e10 R10 k10=>?_,fun e10 H10 k10=>?_⟩
  ·have hN10:H10 nl=some (.lst (names.map V.str++[.str c])):=k10 _ _ eV pn rn
   have hT10:H10 tl=some (.lst rtv):=k10 _ _ hT9 pt rt
   have S10:=nV np0 nr0 S9 k10
   obtain⟨st,lt,_⟩:=iT 24 _ _ _ e10
   refine⟨tl,_,_,rfl,rfl,hT10,(by lia),?_⟩
   have R11:=R10.other (o:= .lst (rtv++[.int (rows.length:Int)])) hT10 pt wt rt
   have ht11:=((R9.tats k10 ht9).snoc (.flat (v:= .int (rows.length:Int)) rfl)).other (o:= .lst (rtv++[.int (rows.length:Int)])) hT10
   have hN11:upd H10 tl (.lst (rtv++[.int (rows.length:Int)])) nl=some (.lst (names.map V.str++[.str c])):=by rw[fe ntn];exact hN10
   have S11:fK H (upd H10 tl (.lst (rtv++[.int (rows.length:Int)]))):=rA _ nt0 S10
   obtain⟨k11',hk11⟩:=R11.ob
   refine⟨_,rfl,p,dx,_,rfl,hk11,gU _ _ _ _ (by simp),?_⟩
   refine tc1 ?_
   refine zT R11 W rp3 (fun r5 H12 e12 R12 k12=>?_) (fun ne H12 k12=>?_)
   ·subst e12
    have lt':r5.length+ 1<r3.length:=lt
    refine⟨r5.length,(by simp only[az];lia),names++[c],roots++[.flat (.int (rows.length:Int))],_,r5,rows4,rfl,rfl,R12,nV np0 nr0 S11 k12,?_,k12 _ _ eV pt rt,R11.tats k12 ht11,?_,?_,st.most hrows,?_⟩
    ·rw[a9]
     exact k12 _ _ hN11 pn rn
    ·rw[aN]
     show names.length+ 1+_<=_
     lia
    ·rw[aN,aN,hlr]
     rfl
    ·rw[heq,defs_yes hc e10]
   ·refine qe ?_ H12 (nV np0 nr0 S11 k12)
    rw[ra,heq,zP hc e10 ne]
  ·refine qe ?_ H10 (nV np0 nr0 S9 k10)
   rw[ra,heq,zO hc e10]
end K63.Internal
namespace K63.Internal
open PySem L2.Internal BO.Internal
seal L2.Internal.PE L2.Internal.PA L2.Internal.PS L2.Internal.PSs L2.Internal.PT L2.Internal.PI
theorem iu {H H2:Hp} {l:Addr} (s:fK H H2) (h:H l=none) (o:HO):fK H (upd H2 l o):=fun b u e=>by rw[fe (fb e h)];exact s b u e
abbrev Hm:=Str×Int
def hmD (h:Hm):Dt:= .tup [.flat (.str h.1),.flat (.int h.2)]
def Sc (H:Hp) (a:Addr) (g:Str->Option Hm) (n:Nat):Prop:=∃kvs:List (Key×V),H a=some (.dK kvs)/\kvs.length<=n/\∀w:Str,match g w with
 |none=>je kvs (.inr w)=none
 |some h=>∃t,je kvs (.inr w)=some (.ref t)/\H t=some (.tup [.str h.1,.int h.2])
theorem Sc.same {H H':Hp} {a:Addr} {g:Str->Option Hm} {n:Nat} (h:Sc H a g n) (s:fK H H'):Sc H' a g n:=by
 obtain⟨kvs,e,l,h⟩:=h
 refine⟨kvs,s _ _ e,l,fun w=>?_⟩
 have:=h w
 cases hg:g w with
 |none=>rw[hg]at this;exact this
 |some z=>
  rw[hg]at this
  obtain⟨t,h1,h2⟩:=this
  exact⟨t,h1,s _ _ h2⟩
def wid (g:Str->Option Hm) (x:Str) (h:Hm):Str->Option Hm:=fun w=>if w=x then some h else g w
def wW:Sp:=fun vs H Q _=>∃(a t:Addr) (g:Str->Option Hm) (n:Nat) (x:Str) (h:Hm),vs=[.ref a,.str x,.ref t]/\Sc H a g n/\n<10000/\H t=some (.tup [.str h.1,.int h.2])/\∀b H',fK H H'->H b=none->Sc H' b (wid g x h) (n+ 1)->Q (.ref b) H'
theorem qF (T:Txt K mg):gu P w K mg base CX0 1 T.a_widened T.fd_widened ["scope","name","home"] wW:=by
 refine T.F_widened.ok qE (fun vs H Q E h=>?_) (fun cdv A outer s H vs Q E hr h=>?_)
 ·obtain⟨a,t,g,n,x,h,rfl,_⟩:=h
  rfl
 have hu:=sR hr
 obtain⟨a,t,g,n,x,h,rfl,⟨kvs,e,l,hk⟩,hn,et,q⟩:=h
 refine⟨_,(eR (fC (i:=3) qE.nd rfl (.inl rfl) (gS wB rfl T.z_dict xW (eQ (cv 0) eS)))
  (eR (mJ hu (cv 3) (cv 1) (cv 2) rfl)
  (eW (fG (cv 3))))),?_⟩
 have sl:sizeLine=16777216:=sizeLine_eq
 refine⟨a,kvs,rfl,e,fun b hb=>?_⟩
 have s1:=eX hb (.dK kvs)
 have eb:(upd H b (.dK kvs)) b=some (.dK kvs):=eV
 dsimp only[iQ]
 refine⟨b,_,rfl,w8.k (k:=Sum.inr x) eb (by lia),?_⟩
 have tk:∀{y:Addr} {xs:List V},H y=some (.tup xs)->(upd (upd H b (.dK kvs)) b (.dK (ml kvs (Sum.inr x) (.ref t)))) y=some (.tup xs):=fun{y xs} ey=>by rw[fe (kc (s1 _ _ ey) eb (fun h=>nomatch h))];exact s1 _ _ ey
 refine q b _ (iu s1 hb _) hb ⟨_,eV,bX (gN _ _ _) (by lia),fun w=>?_⟩
 unfold wid
 by_cases hw:w=x
 ·rw[if_pos hw]
  exact⟨t,by rw[ir,if_pos (by rw[hw])],tk et⟩
 ·rw[if_neg hw]
  have hh:=hk w
  have hv:je (ml kvs (Sum.inr x) (.ref t)) (.inr w)=je kvs (.inr w):=by rw[ir,if_neg (fun z=>hw (by injection z))]
  cases hg:g w with
  |none=>rw[hg]at hh;exact hv.trans hh
  |some z=>
   rw[hg]at hh
   obtain⟨t',h1,h2⟩:=hh
   exact⟨t',hv.trans h1,tk h2⟩
def pT:Sp:=fun vs H Q _=>∃(a:Addr) (ws:List Str),vs=[.ref a]/\H a=some (.lst (ws.map V.str))/\ws.Nodup/\ws.length<=10000/\∀H',fK H H'->Q .non H'
theorem pU (T:Txt K mg):gu P w K mg base CX0 1 T.a_refuse_twice T.fd_refuse_twice ["words"] pT:=by
 refine T.F_refuse_twice.ok kF (fun vs H Q E h=>?_) (fun cdv A outer s H vs Q E hr h=>?_)
 ·obtain⟨a,ws,rfl,_⟩:=h
  rfl
 have hu:=sR hr
 obtain⟨a,ws,rfl,e,nd,hl,q⟩:=h
 refine⟨_,(eR (fC (i:=1) kF.nd rfl (.inl rfl) oJ)
  (eW (lG PassesOwn.never rfl (mG (cv 0)) (jj (i:=2) kF.nd rfl (.inl rfl))
   (eR (gr (sv (Ao hu (cv 2) (cv 1)) rfl)
    (eW vt)
    fw)
   (eW (mJ hu (cv 1) (cv 2) m3 rfl)))))),?_⟩
 have sl:sizeLine=16777216:=sizeLine_eq
 intro d hd
 have s1:=eX hd (.dK [])
 have ed:(upd H d (.dK [])) d=some (.dK []):=eV
 dsimp only[iQ]
 generalize upd H d (.dK [])=H1 at s1 ed⊢
 refine⟨a,rfl,⟨_,SqL.of (s1 _ _ e)⟩,qR (xs:=ws.map V.str) (fun i σ H2=>∃(o:Option V) (kvs:List (Key×V)),σ=[some (.ref a),some (.ref d),o]/\fK H H2/\H2 d=some (.dK kvs)/\kvs.length<=i/\∀w:Str,w∉ws.take i->je kvs (.inr w)=none)
  ⟨none,[],rfl,s1,ed,b7 _,fun _ _=>rfl⟩ (fun i σ H2 _ ⟨_,_,_,S,_⟩=>SqL.of (S _ _ e)) ?_ ?_⟩
 ·rintro i v σ H2 hv ⟨o,kvs,rfl,S,ek,hk,hn⟩
  have hi:=(aq.mp hv).1
  rw[aC]at hi
  rw[aK]at hv
  obtain⟨x,hx⟩:∃x,ws[i]?=some x:=⟨_,bq hi⟩
  rw[hx]at hv
  cases hv
  have hxn:x∉ws.take i:=fun hm=>by
   have h1:(ws.take i++ws.drop i).Nodup:=by rw[List.take_append_drop];exact nd
   rw[List.nodup_append]at h1
   obtain⟨z1,z2⟩:=aq.mp hx
   exact h1.2.2 _ hm _ (by rw[bH z1,z2];simp) rfl
  have g:=uu.k (k:=(Sum.inr x:Key)) ek
  rw[hn x hxn]at g
  refine⟨d,none,rfl,g,_,rfl,gR ?_⟩
  refine⟨d,_,rfl,w8.k (k:=Sum.inr x) ek (by lia),_,_,rfl,iu S hd _,eV,bX (gN _ _ _) (by lia),fun w hw=>?_⟩
  rw[ir]
  rw[bR,hx]at hw
  have h1:w≠x:=fun z=>hw (by simp[z])
  rw[if_neg (fun z=>h1 (by injection z))]
  exact hn w fun z=>hw (ao _ z)
 ·rintro σ H2 ⟨o,kvs,rfl,S,_⟩
  exact q H2 S
def qG:Sp:=fun vs H Q _=>∃(t a:Addr) (k:Int) (g:Str->Option Hm) (n:Nat) (s:Str) (r:List V),vs=[.ref t,.int k,.ref a]/\H t=some (.tup (.str s::r))/\Sc H a g n/\(s≠"name"->Q .non H)/\(s="name"->∃(x:Str) (h:Hm),r=[.str x]/\g x=some h/\∀p,H p=some (.tup [.str h.1,.int h.2])->Q (.ref p) H)
theorem wX (T:Txt K mg):gu P w K mg base CX0 1 T.a_home_of T.fd_home_of ["row","place","scope"] qG:=by
 refine T.F_home_of.ok wQ (fun vs H Q E h=>?_) (fun cdv A outer s H vs Q E hr h=>?_)
 ·obtain⟨t,a,k,g,n,s,r,rfl,_⟩:=h
  rfl
 have hu:=sR hr
 obtain⟨t,a,k,g,n,s',r,rfl,et,⟨kvs,e,l,hk⟩,q1,q2⟩:=h
 refine⟨_,(eR (gr (fz mK (ft fq (cv 0) eU (fun _ _=>rfl)) fc (fD _))
   (eW (fG qo))
   fw)
  (eR (gr (sv (xJ hu (ft fq (cv 0) eU (fun _ _=>rfl)) (cv 2)) rfl)
   (eW vt)
   fw)
  (eW (fG (qX hu (cv 2) (ft fq (cv 0) eU (fun _ _=>rfl)) (fun _ _=>rfl)))))),?_⟩
 refine⟨_,et,fg (eY (j:=0) rfl) ?_⟩
 dsimp only[tC,cEq,onB]
 by_cases hs:s'="name"
 ·obtain⟨x,h,rfl,hg,q⟩:=q2 hs
  rw[decide_eq_true hs]
  have hh:=hk x
  rw[hg]at hh
  obtain⟨p,h1,h2⟩:=hh
  have g:=uu.k (k:=(Sum.inr x:Key)) e
  rw[h1]at g
  exact gR ⟨_,et,fg (eY (j:=1) rfl) ⟨a,_,rfl,g,_,rfl,gR ⟨_,et,fg (eY (j:=1) rfl) ⟨a,_,rfl,g,q p h2⟩⟩⟩⟩
 ·rw[decide_eq_false hs]
  exact iM (q1 hs)
mutual
def flV:Dt->List V
 | .flat v=>[v]
 | .tup ds=>jg ds
 | .lst _=>[]
def jg:List Dt->List V
 |[]=>[]
 |d::ds=>flV d++jg ds
end
mutual
def okF:Dt->Bool
 | .flat v=>(match v with| .int _=>true| .str _=>true|_=>false)
 | .tup ds=>om ds
 | .lst _=>false
def om:List Dt->Bool
 |[]=>true
 |d::ds=>okF d&&om ds
end
theorem tO:∀(l:List Dt) (d:Dt),jg (l++[d])=jg l++flV d
 |[],d=>by simp[jg]
 |a::l,d=>by rw[aQ,jg,jg,tO l d,bG]
theorem vP:∀{l:List Dt} {i:Nat} {d:Dt},om l=true->l[i]?=some d->okF d=true
 |a::l,0,d,h,e=>by cases e;rw[om,dP]at h;exact h.1
 |a::l,i+ 1,d,h,e=>by rw[om,dP]at h;rw[bw]at e;exact vP h.2 e
theorem l5:∀(l:List Dt) (i:Nat),(jg (l.take i)).length<=(jg l).length
 |[],i=>by simp[jg]
 |a::l,0=>by simp[jg]
 |a::l,i+ 1=>by
  rw[List.take_succ_cons,jg,jg,aN,aN]
  have:=l5 l i
  lia
theorem qH:∀{l:List Dt} {i:Nat} {d:Dt},l[i]?=some d->(flV d).length<=(jg l).length
 |a::l,0,d,e=>by cases e;rw[jg,aN];lia
 |a::l,i+ 1,d,e=>by
  rw[bw]at e
  have:=qH e
  rw[jg,aN]
  lia
theorem kU {H:Hp}:∀{xs:List V} {ds:List Dt} {j:Nat} {x:V},Ims H xs ds->xs[j]?=some x->∃d,ds[j]?=some d/\Im H x d
 |_,_,0,_,.cons h _,e=>⟨_,rfl,by cases e;exact h⟩
 |_,_,j+ 1,_,.cons _ t,e=>by
  rw[bw]at e
  obtain⟨d,e1,e2⟩:=kU t e
  exact⟨d,by rw[bw];exact e1,e2⟩
def yz (n:Nat):Sp:=fun vs H Q _=>∃(t:Addr) (xs:List V) (ds:List Dt),vs=[.ref t]/\H t=some (.tup xs)/\Ims H xs ds/\om ds=true/\jG ds<n/\(jg ds).length<=10000/\∀l H',fK H H'->H l=none->H' l=some (.lst (jg ds))->Q (.ref l) H'
theorem BQ (T:Txt K mg):∀n:Nat,gu P w K mg base CX0 (n+ 1) T.a_flat T.fd_flat ["parts"] (yz n):=by
 intro n
 induction n with
 |zero=>
  refine T.F_flat.ok rH (fun vs H Q E h=>?_) (fun cdv A outer s H vs Q E hr h=>?_)
  ·obtain⟨t,xs,ds,rfl,_⟩:=h
   rfl
  obtain⟨t,xs,ds,rfl,et,hx,hok,hd,hl,q⟩:=h
  exact absurd hd (cq _)
 |succ n ih=>
  have G_flat:=ih
  refine T.F_flat.ok rH (fun vs H Q E h=>?_) (fun cdv A outer s H vs Q E hr h=>?_)
  ·obtain⟨t,xs,ds,rfl,_⟩:=h
   rfl
  obtain⟨t,xs,ds,rfl,et,hx,hok,hd,hl,q⟩:=h
  refine⟨_,(eR (fC (i:=1) rH.nd rfl (.inl rfl) (gH eS))
  (eR (lG PassesOwn.never rfl (qp (cv 0)) (jj (i:=2) rH.nd rfl (.inl rfl))
   (eW (gr (jd (fV kg rfl T.z_isinstance gT (eQ (cv 2) (eQ (nj rfl T.z_tuple jz) eS))))
    (eW (fE (ko dG PySem.F.slot_list_extend PySem.F.type_list_extend xQ (cv 1) (eQ (fA G_flat (hr.mono (by lia)) rfl T.m_flat T.k_flat T.b_flat .nil fO (eQ (cv 2) eS)) eS))))
    (eW (fE (ka (ko dG dH dI gq (PE.mono (cv 1)) (eQ (PE.mono (cv 2)) eS))))))))
  (eW (fG (cv 1))))),?_⟩
  have sl:sizeLine=16777216:=sizeLine_eq
  have lx:=hx.length
  refine⟨(by show 0<=sizeLine;decide),fun f hf=>?_⟩
  have s1:=eX hf (.lst [])
  have e1:(upd H f (.lst [])) f=some (.lst []):=eV
  dsimp only[iQ]
  generalize upd H f (.lst [])=H1 at s1 e1⊢
  refine⟨t,rfl,⟨_,SqT.of (s1 _ _ et)⟩,uq (xs:=xs) (fun i σ H2=>∃(o:Option V),σ=[some (.ref t),some (.ref f),o]/\fK H H2/\H2 f=some (.lst (jg (ds.take i)))) ⟨none,rfl,s1,by simpa[jg]using e1⟩ (fun i σ H2 _ ⟨_,_,S,_⟩=>SqT.of (S _ _ et)) ?_ ?_⟩
  ·rintro i v σ H2 hv ⟨o,rfl,S,e⟩
   obtain⟨d,hdi,him⟩:=kU hx hv
   have him2:=him.mono (fK.tk S)
   have hok1:=vP hok hdi
   have tl:=l5 ds i
   have gl:=qH hdi
   have nxt:jg (ds.take (i+ 1))=jg (ds.take i)++flV d:=by rw[bR,hdi];exact tO _ _
   cases him2 with
   |flat hfl=>
    rw[flV]at nxt gl
    have ap:(∃xs,H2 f=some (.lst xs))/\∃xs,H2 f=some (.lst xs)/\xs.length<sizeLine/\∃(o:Option V),[some (V.ref t),some (V.ref f),some v]=[some (V.ref t),some (.ref f),o]/\fK H (upd H2 f (.lst (xs++[v])))/\(upd H2 f (.lst (xs++[v]))) f=some (.lst (jg (ds.take (i+ 1)))):=
     ⟨⟨_,e⟩,_,e,by lia,_,rfl,iu S hf _,by rw[eV,nxt]⟩
    cases v with
    |int n=>exact⟨_,_,_,_,false,rfl,fun _ r=>r,.int n,rfl,_,rfl,gR ap⟩
    |str x=>exact⟨_,_,_,_,false,rfl,fun _ r=>r,.str x,rfl,_,rfl,gR ap⟩
    |_=>simp[okF]at hok1
   |@tup a ys es ha hs=>
    rw[flV]at nxt gl
    rw[okF]at hok1
    have hdd:=L2.Internal.depDs_get hdi
    rw[sq]at hdd
    refine⟨_,_,_,_,true,rfl,fun _ r=>r,.tup ha,rfl,_,rfl,iM ⟨.inl ⟨rfl,_,SqL.of e⟩,a,ys,es,rfl,ha,hs,hok1,by lia,by lia,fun l H3 S3 hl3 e3=>?_⟩⟩
    refine⟨f,l,_,_,rfl,rfl,S3 _ _ e,e3,?_,_,rfl,iu (S.trans S3) hf _,by rw[eV,nxt]⟩
    have h1:(jg (ds.take (i+ 1))).length<=(jg ds).length:=l5 ds (i+ 1)
    rw[nxt,aN]at h1
    lia
  ·rintro σ H2 ⟨o,rfl,S,e⟩
   rw[List.take_of_length_le (by lia)]at e
   exact q f H2 S hf e
inductive Ro
 |num (n:Int)
 |name (w:Str)
 |fn (w:Str) (k:Int)
 |tag (w:Str) (k:Int)
 |lt (w:Str) (a b:Int)
 |get (k:Int) (w:Str)
 |rcd (l:List (Str×Int))
 |case (k:Int) (l:List (Str×Str×Int))
 |row (ks:List Int)
 |op (s:Str) (ks:List Int)
def kD (k:Int):Dt:= .flat (.int k)
def sD (s:Str):Dt:= .flat (.str s)
def fdD (p:Str×Int):Dt:= .tup [sD p.1,kD p.2]
def amD (p:Str×Str×Int):Dt:= .tup [sD p.1,sD p.2.1,kD p.2.2]
def Ro.s:Ro->Str
 | .num _=>"num"
 | .name _=>"name"
 | .fn _ _=>"fn"
 | .tag _ _=>"tag"
 | .lt _ _ _=>"let"
 | .get _ _=>"get"
 | .rcd _=>"rec"
 | .case _ _=>"case"
 | .row _=>"row"
 | .op s _=>s
def Ro.r:Ro->List Dt
 | .num n=>[kD n]
 | .name w=>[sD w]
 | .fn w k=>[sD w,kD k]
 | .tag w k=>[sD w,kD k]
 | .lt w a b=>[sD w,kD a,kD b]
 | .get k w=>[kD k,sD w]
 | .rcd l=>[.tup (l.map fdD)]
 | .case k l=>[kD k,.tup (l.map amD)]
 | .row ks=>[.tup (ks.map kD)]
 | .op _ ks=>ks.map kD
def Ro.d (ρ:Ro):Dt:= .tup (sD ρ.s::ρ.r)
def plain:List Str:=["size","at","call","join","add","sub","less"]
def Ro.ok:Ro->Prop
 | .rcd l=>l.length<=100/\(l.map Prod.fst).Nodup
 | .case _ l=>l.length<=100/\(l.map Prod.fst).Nodup
 | .row ks=>ks.length<=100
 | .op s ks=>s∈plain/\ks.length<=100
 |_=>True
def Ro.pl:Ro->List Int
 | .num _=>[]
 | .name _=>[]
 | .fn _ k=>[k]
 | .tag _ k=>[k]
 | .lt _ a b=>[a,b]
 | .get k _=>[k]
 | .rcd l=>l.map Prod.snd
 | .case k l=>k::l.map fun p=>p.2.2
 | .row ks=>ks
 | .op _ ks=>ks
def Ro.pt:Ro->List V
 | .num _=>[]
 | .name _=>[]
 |ρ=>jg ρ.r
theorem yA:∀ks:List Int,om (ks.map kD)=true/\jg (ks.map kD)=ks.map V.int/\jG (ks.map kD)=0
 |[]=>⟨by simp[om],by simp[jg],by simp[jG]⟩
 |k::ks=>by
  obtain⟨h1,h2,h3⟩:=yA ks
  refine⟨?_,?_,?_⟩
  ·rw[aB,om,h1];rfl
  ·rw[aB,jg,h2];rfl
  ·rw[aB,jG,h3];rfl
theorem Dl:∀l:List (Str×Int),om (l.map fdD)=true/\(jg (l.map fdD)).length=2*l.length/\jG (l.map fdD)<=1
 |[]=>⟨by simp[om],by simp[jg],by simp[jG]⟩
 |k::ks=>by
  obtain⟨h1,h2,h3⟩:=Dl ks
  refine⟨?_,?_,?_⟩
  ·rw[aB,om,h1];rfl
  ·rw[aB,jg,aN,h2];show 2+_=_;rw[az];lia
  ·rw[aB,jG];exact Nat.max_le.mpr ⟨b6 1,h3⟩
theorem Dm:∀l:List (Str×Str×Int),om (l.map amD)=true/\(jg (l.map amD)).length=3*l.length/\jG (l.map amD)<=1
 |[]=>⟨by simp[om],by simp[jg],by simp[jG]⟩
 |k::ks=>by
  obtain⟨h1,h2,h3⟩:=Dm ks
  refine⟨?_,?_,?_⟩
  ·rw[aB,om,h1];rfl
  ·rw[aB,jg,aN,h2];show 3+_=_;rw[az];lia
  ·rw[aB,jG];exact Nat.max_le.mpr ⟨b6 1,h3⟩
theorem Ro.fl (ρ:Ro) (h:ρ.ok):om ρ.r=true/\jG ρ.r<3/\(jg ρ.r).length<=10000:=by
 cases ρ with
 |rcd l=>
  obtain⟨h1,h2,h3⟩:=Dl l
  have hl:l.length<=100:=h.1
  refine⟨?_,?_,?_⟩
  ·show om [.tup (l.map fdD)]=true
   rw[om,okF,h1,om];rfl
  ·show jG [.tup (l.map fdD)]<3
   rw[jG,sq,jG];lia
  ·show(jg [.tup (l.map fdD)]).length<=_
   rw[jg,flV,jg,aD,h2];lia
 |case k l=>
  obtain⟨h1,h2,h3⟩:=Dm l
  have hl:l.length<=100:=h.1
  refine⟨?_,?_,?_⟩
  ·show om [kD k,.tup (l.map amD)]=true
   simp[om,okF,kD,h1]
  ·show jG [kD k,.tup (l.map amD)]<3
   simp only[jG,sq,kD];lia
  ·show(jg [kD k,.tup (l.map amD)]).length<=_
   simp only[jg,flV,kD,aD,aN,h2,aY];lia
 |row ks=>
  obtain⟨h1,h2,h3⟩:=yA ks
  have hl:ks.length<=100:=h
  refine⟨?_,?_,?_⟩
  ·show om [.tup (ks.map kD)]=true
   rw[om,okF,h1,om];rfl
  ·show jG [.tup (ks.map kD)]<3
   rw[jG,sq,jG,h3];lia
  ·show(jg [.tup (ks.map kD)]).length<=_
   rw[jg,flV,jg,aD,h2,aC];lia
 |op s ks=>
  obtain⟨h1,h2,h3⟩:=yA ks
  have hl:ks.length<=100:=h.2
  exact⟨h1,by show jG (ks.map kD)<3;lia,by show(jg (ks.map kD)).length<=_;rw[h2,aC];lia⟩
 |_=>exact⟨rfl,by simp[Ro.r,kD,sD,jG,sq],by simp[Ro.r,kD,sD,jg,flV]⟩
theorem EN (y:V) (ys:List V):Bn (y::ys) (some 1) none=ys/\¬(HT.Internal.sIx (y::ys).length 0 (some 1)=0/\HT.Internal.sIx (y::ys).length (y::ys).length none=(y::ys).length):=by
 have e:HT.Internal.sIx (y::ys).length 0 (some 1)=1:=by
  show HT.Internal.sIx (y::ys).length 0 (some ((1:Nat):Int))=1
  rw[HT.Internal.sIx_nat,az]
  lia
 refine⟨?_,fun h=>by rw[e]at h;exact absurd h.1 (by decide)⟩
 unfold Bn
 rw[e,HT.Internal.sIx_none,List.drop_succ_cons,List.drop_zero,az,Nat.add_sub_cancel,bh]
theorem EO (ρ:Ro) (h:ρ.ok):inV (.str ρ.s) [.str "num",.str "name"]=(match ρ with| .num _=>true| .name _=>true|_=>false):=by
 cases ρ with
 |op s ks=>
  have hs:s∈plain:=h.1
  show inV (.str s) _=false
  simp only[plain,aj,bt,or_false]at hs
  rcases hs with rfl|rfl|rfl|rfl|rfl|rfl|rfl<;>decide+kernel
 |_=>simp only[Ro.s];decide+kernel
def uT:Sp:=fun vs H Q _=>∃(t:Addr) (ρ:Ro),vs=[.ref t]/\Im H (.ref t) ρ.d/\ρ.ok/\∀l H',fK H H'->H l=none->H' l=some (.lst ρ.pt)->Q (.ref l) H'
theorem uU (T:Txt K mg):gu P w K mg base CX0 5 T.a_parts_of T.fd_parts_of ["row"] uT:=by
 have G_flat:=BQ (P:=P) (w:=w) (base:=base) T 3
 refine T.F_parts_of.ok uJ (fun vs H Q E h=>?_) (fun cdv A outer s H vs Q E hr h=>?_)
 ·obtain⟨t,ρ,rfl,_⟩:=h
  rfl
 obtain⟨t,ρ,rfl,hi,ho,q⟩:=h
 refine⟨_,(eR (gr (fz kW (ft fq (cv 0) eU (fun _ _=>rfl)) (gG (eQ fc (eQ fc eS))) rfl)
   (eW (fG (gH eS)))
   fw)
  (eW (fG (fA G_flat (hr.mono (by decide)) rfl T.m_flat T.k_flat T.b_flat .nil fO (eQ (zl CJ (cv 0) (Bm eU) Bl) eS))))),?_⟩
 have sl:sizeLine=16777216:=sizeLine_eq
 obtain⟨f1,f2,f3⟩:=ρ.fl ho
 cases hi with
 |@tup _ ys _ et hs=>
  cases hs with
  |@cons y _ ys _ h1 hs=>
   cases h1
   refine⟨_,et,fg (eY (j:=0) rfl) ?_⟩
   refine⟨(by show 2<=sizeLine;decide),fun p hp=>⟨p,[.str "num",.str "name"],rfl,.inr (SqT.of eV),rfl,rfl,?_⟩⟩
   have s1:=eX hp (.tup [.str "num",.str "name"])
   generalize upd H p (.tup [.str "num",.str "name"])=H1 at s1⊢
   dsimp only[onB]
   rw[show(if false=true then !inV (.str ρ.s) [.str "num",.str "name"]else inV (.str ρ.s) [.str "num",.str "name"])=_ from EO ρ ho]
   have yes:ρ.pt=[]->(B9 (Eg xD) {nx:=fun _ H'=>Q .non H',rt:=Q}:St->Hp->Prop) [some (.ref t)] H1:=fun e=>⟨(by show 0<=sizeLine;decide),fun l hl=>q l _ (s1.trans (eX hl _)) (s1.free hl) (by rw[eV,e])⟩
   have no:ρ.pt=jg ρ.r->∃n:Int,V.int 1= .int n/\∃a xs,V.ref t= .ref a/\SqT K H1 a xs/\¬(HT.Internal.sIx xs.length 0 (some n)=0/\HT.Internal.sIx xs.length xs.length none=xs.length)/\∀pc,H1 pc=none->yz 3 [.ref pc] (upd H1 pc (.tup (Bn xs (some n) none))) Q E:=fun e=>by
    obtain⟨c1,c2⟩:=EN (.str ρ.s) ys
    refine⟨1,rfl,t,_,rfl,SqT.of (s1 _ _ et),c2,fun pc hpc=>?_⟩
    rw[c1]
    have s2:=eX hpc (.tup ys)
    exact⟨pc,ys,ρ.r,rfl,eV,hs.mono (fK.tk (s1.trans s2)),f1,f2,f3,fun l H' S hl e'=>q l H' ((s1.trans s2).trans S) ((s1.trans s2).free hl) (by rw[e',e])⟩
   cases ρ with
   |num n=>exact iM (yes rfl)
   |name n=>exact iM (yes rfl)
   |fn a b=>exact gR (no rfl)
   |tag a b=>exact gR (no rfl)
   |lt a b c=>exact gR (no rfl)
   |get a b=>exact gR (no rfl)
   |rcd a=>exact gR (no rfl)
   |case a b=>exact gR (no rfl)
   |row a=>exact gR (no rfl)
   |op a b=>exact gR (no rfl)
theorem Dn {J:It} {xs:List V} {i:Nat} {tt:TT} {te:TE} {Q:VK} {τ:St} {H1:Hp} {D:Addr} (p:V->Bool) (g:V->V) (hD:H1 D=none) (hz:xs.length<=sizeLine) (hτ:τ.set i none=τ)
  (hgo:∀k H,fK H1 H->k<xs.length->J.go k H) (hy:∀k H v H',fK H1 H->k<xs.length->J.yld k H v H'->H'=H/\xs[k]?=some v) (hst:∀H,fK H1 H->J.stop xs.length H)
  (htt:∀(k:Nat) v H R,xs[k]?=some v->fK H1 H->R (p v) H->tt (τ.set i (some v)) H R)
  (hte:∀(k:Nat) v H R,xs[k]?=some v->p v=true->fK H1 H->R (g v) H->te (τ.set i (some v)) H R)
  (hq:∀H',fK H1 H'->H' D=some (.lst ((xs.filter p).map g))->Q (.ref D) H'):LcP J i tt te Q τ H1 D:=by
 have sm:∀o,fK H1 (upd H1 D o):=fun o b u e=>by rw[fe (fb e hD)];exact e
 refine⟨fun k m σ' H2=>m=xs.length-k/\k<=xs.length/\(∃o,σ'=τ.set i o)/\H2=upd H1 D (.lst (((xs.take k).filter p).map g)),⟨xs.length,by simp,b7 _,⟨none,hτ.symm⟩,by simp⟩,?_⟩
 rintro k m σ' H2 ⟨rfl,hk,⟨o,rfl⟩,rfl⟩
 by_cases hlt:k<xs.length
 ·refine .inr ⟨hgo k _ (sm _) hlt,fun v H3 y=>?_⟩
  obtain⟨e,hv⟩:=hy k _ v H3 (sm _) hlt y
  subst e
  rw[bc]
  refine htt k v _ _ hv (sm _) ?_
  have tk:(xs.take (k+ 1)).filter p=(xs.take k).filter p++(if p v then[v]else[]):=take_succ_filter p xs k v hv
  have ll:((xs.take k).filter p).length<=k:=by
   refine bX (bf _ _) ?_
   rw[aH]
   lia
  cases hp:p v with
  |true=>
   rw[if_pos rfl]
   refine hte k v _ _ hv hp (sm _) ?_
   refine⟨_,eV,by rw[aC];lia,xs.length-(k+ 1),by lia,rfl,hlt,⟨some v,rfl⟩,?_⟩
   rw[ui,tk,hp,if_pos rfl,a9]
   rfl
  |false=>
   rw[if_neg dN]
   refine⟨xs.length-(k+ 1),by lia,rfl,hlt,⟨some v,rfl⟩,?_⟩
   rw[tk,hp,if_neg dN,aD]
 ·have e:k=xs.length:=by lia
  subst e
  refine .inl ⟨hst _ (sm _),hq _ (sm _) ?_⟩
  rw[eV,bh]
def isI:V->Bool
 | .int _=>true
 |_=>false
theorem yB:∀ks:List Int,(ks.map V.int).filter isI=ks.map V.int
 |[]=>rfl
 |k::ks=>by rw[aB,List.filter_cons_of_pos rfl,yB ks]
theorem AJ:∀l:List (Str×Int),(jg (l.map fdD)).filter isI=(l.map Prod.snd).map V.int
 |[]=>by simp[jg]
 |p::l=>by
  have:=AJ l
  rw[aB,jg,bE,this]
  rfl
theorem AK:∀l:List (Str×Str×Int),(jg (l.map amD)).filter isI=(l.map fun p=>p.2.2).map V.int
 |[]=>by simp[jg]
 |p::l=>by
  have:=AK l
  rw[aB,jg,bE,this]
  rfl
theorem Ro.pt_pl (ρ:Ro):ρ.pt.filter isI=ρ.pl.map V.int:=by
 cases ρ with
 |rcd l=>
  show(jg [.tup (l.map fdD)]).filter isI=_
  rw[jg,flV,jg,aD]
  exact AJ l
 |case k l=>
  show(jg [kD k,.tup (l.map amD)]).filter isI=_
  rw[jg,jg,jg,flV,aD,bE,AK l]
  rfl
 |row ks=>
  show(jg [.tup (ks.map kD)]).filter isI=_
  rw[jg,flV,jg,aD,(yA ks).2.1]
  exact yB ks
 |op s ks=>
  show(jg (ks.map kD)).filter isI=_
  rw[(yA ks).2.1]
  exact yB ks
 |_=>rfl
theorem Ro.pt_le (ρ:Ro) (h:ρ.ok):ρ.pt.length<=10000:=by
 have:=(ρ.fl h).2.2
 cases ρ with
 |num n=>exact b7 _
 |name n=>exact b7 _
 |_=>exact this
theorem Dp:∀(d:Dt),okF d=true->∀v∈flV d,(∃n,v= .int n)\/∃s,v= .str s:=by
 intro d
 refine Dt.rec (motive_1:=fun d=>okF d=true->∀v∈flV d,(∃n,v= .int n)\/∃s,v= .str s) (motive_2:=fun ds=>om ds=true->∀v∈jg ds,(∃n,v= .int n)\/∃s,v= .str s) ?_ ?_ ?_ ?_ ?_ d
 ·intro v h x hx
  rw[flV,a8]at hx
  subst hx
  cases x<;>first|exact .inl ⟨_,rfl⟩|exact .inr ⟨_,rfl⟩|simp[okF]at h
 ·intro ds ih h v hv
  rw[flV]at hv
  rw[okF]at h
  exact ih h v hv
 ·intro ds ih h
  rw[okF]at h
  cases h
 ·intro _ v hv
  rw[jg]at hv
  cases hv
 ·intro d ds h1 h2 h v hv
  rw[jg]at hv
  rw[om,dP]at h
  rcases ak.mp hv with hv|hv
  ·exact h1 h.1 v hv
  ·exact h2 h.2 v hv
theorem Ro.pt_is (ρ:Ro) (h:ρ.ok):∀v∈ρ.pt,(∃n,v= .int n)\/∃s,v= .str s:=by
 have h1:=(ρ.fl h).1
 have h2:=Dp (.tup ρ.r) (by rw[okF];exact h1)
 rw[flV]at h2
 cases ρ with
 |num n=>intro v hv;cases hv
 |name n=>intro v hv;cases hv
 |_=>exact h2
def tP:Sp:=fun vs H Q _=>∃(t:Addr) (ρ:Ro),vs=[.ref t]/\Im H (.ref t) ρ.d/\ρ.ok/\∀l H',fK H H'->H l=none->H' l=some (.lst (ρ.pl.map V.int))->Q (.ref l) H'
theorem oo (T:Txt K mg):gu P w K mg base CX0 6 T.a_places_in T.fd_places_in ["row"] tP:=by
 have G_parts_of:=uU (P:=P) (w:=w) (base:=base) T
 refine T.F_places_in.ok tL (fun vs H Q E h=>?_) (fun cdv A outer s H vs Q E hr h=>?_)
 ·obtain⟨t,ρ,rfl,_⟩:=h
  rfl
 obtain⟨t,ρ,rfl,hi,ho,q⟩:=h
 refine⟨_,(eW (fG (sS rfl (Bw (x:="part") rfl (by decide+kernel) (by decide+kernel) rfl rfl) (mG (fA G_parts_of (hr.mono (by decide)) rfl T.m_parts_of T.k_parts_of T.b_parts_of .nil fO (eQ (cv 0) eS))) (fun _ _ _ _ _=>(xX (jd (fV (r:=rIsi K) kg rfl T.z_isinstance gT (eQ (cv 0) (eQ (nj rfl T.z_int nZ) eS)))))) (fun _ _ _ _ _=>(cv 0))))),?_⟩
 have sl:sizeLine=16777216:=sizeLine_eq
 have lp:=ρ.pt_le ho
 refine⟨t,ρ,rfl,hi,ho,fun l H1 S1 hl e1=>⟨l,rfl,⟨_,SqL.of e1⟩,fun D hD=>?_⟩⟩
 refine Dn (xs:=ρ.pt) isI id hD (by lia) rfl (fun k H S h=>AA e1 S h) (fun k H v H' S h y=>⟨y.1,y.2 _ (SqL.of (S _ _ e1))⟩) (fun H S=>AB e1 S) ?_ ?_ ?_
 ·intro k v H2 R hv S hR
  rcases ρ.pt_is ho v (aM hv)with⟨n,rfl⟩|⟨x,rfl⟩
  ·exact⟨_,_,_,_,true,rfl,fun _ r=>r,.int n,rfl,_,rfl,hR⟩
  ·exact⟨_,_,_,_,false,rfl,fun _ r=>r,.str x,rfl,_,rfl,hR⟩
 ·intro k v H2 R hv hp S hR
  exact hR
 ·intro H' S e
  rw[List.map_id,ρ.pt_pl]at e
  exact q D H' (S1.trans S) (S1.free hD) e
def Ro.ws:Ro->List Str
 | .rcd l=>l.map Prod.fst
 | .case _ l=>l.map Prod.fst
 |_=>[]
theorem Ro.ws_nd (ρ:Ro) (h:ρ.ok):ρ.ws.Nodup/\ρ.ws.length<=100:=by
 cases ρ with
 |rcd l=>exact⟨h.2,by show(l.map Prod.fst).length<=_;rw[aC];exact h.1⟩
 |case k l=>exact⟨h.2,by show(l.map Prod.fst).length<=_;rw[aC];exact h.1⟩
 |_=>exact⟨bS,b7 _⟩
theorem mH (ρ:Ro) (h:ρ.ok) (x:Str) (hx:x∈(["rec","case","fn","let","name","num"]:List Str)):(∃s ks,ρ= .op s ks)->decide (ρ.s=x)=false:=by
 rintro⟨s,ks,rfl⟩
 have hs:s∈plain:=h.1
 show decide (s=x)=false
 simp only[plain,aj,bt,or_false]at hs hx
 rcases hs with rfl|rfl|rfl|rfl|rfl|rfl|rfl<;>rcases hx with rfl|rfl|rfl|rfl|rfl|rfl<;>decide+kernel
def Ro.isR:Ro->Bool
 | .rcd _=>true
 |_=>false
def Ro.isC:Ro->Bool
 | .case _ _=>true
 |_=>false
def Ro.isF:Ro->Bool
 | .fn _ _=>true
 |_=>false
def Ro.isL:Ro->Bool
 | .lt _ _ _=>true
 |_=>false
theorem Ro.hd (ρ:Ro) (h:ρ.ok):decide (ρ.s="rec")=ρ.isR/\decide (ρ.s="case")=ρ.isC/\decide (ρ.s="fn")=ρ.isF/\decide (ρ.s="let")=ρ.isL:=by
 cases ρ with
 |op s ks=>exact⟨mH _ h _ (by decide+kernel) ⟨s,ks,rfl⟩,mH _ h _ (by decide+kernel) ⟨s,ks,rfl⟩,mH _ h _ (by decide+kernel) ⟨s,ks,rfl⟩,mH _ h _ (by decide+kernel) ⟨s,ks,rfl⟩⟩
 |num a=>exact(show decide (("num":Str)="rec")=false/\decide (("num":Str)="case")=false/\decide (("num":Str)="fn")=false/\decide (("num":Str)="let")=false from by decide+kernel)
 |name a=>exact(show decide (("name":Str)="rec")=false/\decide (("name":Str)="case")=false/\decide (("name":Str)="fn")=false/\decide (("name":Str)="let")=false from by decide+kernel)
 |fn a b=>exact(show decide (("fn":Str)="rec")=false/\decide (("fn":Str)="case")=false/\decide (("fn":Str)="fn")=true/\decide (("fn":Str)="let")=false from by decide+kernel)
 |tag a b=>exact(show decide (("tag":Str)="rec")=false/\decide (("tag":Str)="case")=false/\decide (("tag":Str)="fn")=false/\decide (("tag":Str)="let")=false from by decide+kernel)
 |lt a b c=>exact(show decide (("let":Str)="rec")=false/\decide (("let":Str)="case")=false/\decide (("let":Str)="fn")=false/\decide (("let":Str)="let")=true from by decide+kernel)
 |get a b=>exact(show decide (("get":Str)="rec")=false/\decide (("get":Str)="case")=false/\decide (("get":Str)="fn")=false/\decide (("get":Str)="let")=false from by decide+kernel)
 |rcd a=>exact(show decide (("rec":Str)="rec")=true/\decide (("rec":Str)="case")=false/\decide (("rec":Str)="fn")=false/\decide (("rec":Str)="let")=false from by decide+kernel)
 |case a b=>exact(show decide (("case":Str)="rec")=false/\decide (("case":Str)="case")=true/\decide (("case":Str)="fn")=false/\decide (("case":Str)="let")=false from by decide+kernel)
 |row a=>exact(show decide (("row":Str)="rec")=false/\decide (("row":Str)="case")=false/\decide (("row":Str)="fn")=false/\decide (("row":Str)="let")=false from by decide+kernel)
theorem vQ {a:Addr} {te:TE} {Q:VK} {τ:St} {H1:Hp} {D:Addr} {xs:List V} {α:Type} {f:α->Dt} {g:α->Str} {l:List α} (e:H1 a=some (.tup xs)) (I:Ims H1 xs (l.map f)) (hn:l.length<=100) (hD:H1 D=none) (hτ:τ.set 0 none=τ)
  (ht:∀(x:α) (v:V) H (R:VK),Im H v (f x)->R (.str (g x)) H->te (τ.set 0 (some v)) H R)
  (hq:∀H',fK H1 H'->H' D=some (.lst ((l.map g).map V.str))->Q (.ref D) H'):LcP (Itt K a) 0 ph te Q τ H1 D:=by
 have sl:sizeLine=16777216:=sizeLine_eq
 have lx:=I.length
 rw[aC]at lx
 refine yh l.length (by lia) (fun ys H=>ys=((l.take ys.length).map g).map V.str) (fun xs H H' h _=>h) hD hτ (fun k H S h=>AD e S (by lia)) (fun H S=>by rw[<-lx];exact AE e S) rfl ?_ ?_
 ·intro k H v H3 ys Z S hk y hys hl hz
  obtain⟨rfl,hv⟩:=y
  have hv:=hv _ (SqT.of (S _ _ e))
  obtain⟨d,hd,him⟩:=kU I hv
  rw[aK]at hd
  obtain⟨x,hx⟩:∃x,l[k]?=some x:=⟨_,bq hk⟩
  rw[hx]at hd
  cases hd
  refine ht x v H3 Z (him.mono (fK.tk S)) (hz _ _ (fK.refl _) ?_)
  rw[aN,hl,aY,bR,hx,a9,a9,<-hl,<-hys]
  rfl
 ·intro H' ys S hys hl e'
  rw[hl,bh]at hys
  exact hq H' S (by rw[e',hys])
def rM:Sp:=fun vs H Q _=>∃(t:Addr) (ρ:Ro),vs=[.ref t]/\Im H (.ref t) ρ.d/\ρ.ok/\∀l H',fK H H'->H l=none->H' l=some (.lst (ρ.ws.map V.str))->Q (.ref l) H'
theorem rN (T:Txt K mg):gu P w K mg base CX0 1 T.a_words_once T.fd_words_once ["row"] rM:=by
 refine T.F_words_once.ok rK (fun vs H Q E h=>?_) (fun cdv A outer s H vs Q E hr h=>?_)
 ·obtain⟨t,ρ,rfl,_⟩:=h
  rfl
 obtain⟨t,ρ,rfl,hi,ho,q⟩:=h
 refine⟨_,(eR (gr (fz ki (ft fq (cv 0) eU (fun _ _=>rfl)) fc (fD _))
   (eW (fG (sS rfl (Bw (x:="field") rfl (by decide+kernel) (by decide+kernel) rfl rfl) (qp (ft fq (cv 0) eU (fun _ _=>rfl))) (fun _ _ _ _ _=>nM) (fun _ _ _ _ _=>(ft fq (cv 0) eU (fun _ _=>rfl))))))
   fw)
  (eR (gr (fz ki (ft fq (cv 0) eU (fun _ _=>rfl)) fc (fD _))
   (eW (fG (sS rfl (Bw (x:="arm") rfl (by decide+kernel) (by decide+kernel) rfl rfl) (qp (ft fq (cv 0) eU (fun _ _=>rfl))) (fun _ _ _ _ _=>nM) (fun _ _ _ _ _=>(ft fq (cv 0) eU (fun _ _=>rfl))))))
   fw)
  (eW (fG (gH eS))))),?_⟩
 have sl:sizeLine=16777216:=sizeLine_eq
 obtain⟨h1,h2,_,_⟩:=ρ.hd ho
 cases hi with
 |@tup _ ys _ et hs=>
  cases hs with
  |@cons y _ ys _ hy hs=>
   cases hy
   refine⟨_,et,fg (eY (j:=0) rfl) ?_⟩
   dsimp only[tC,cEq,onB]
   rw[dR,h1]
   have non:ρ.ws=[]->(B9 (Eg xD) {nx:=fun _ H'=>Q .non H',rt:=Q}:St->Hp->Prop) [some (.ref t)] H:=fun e=>⟨(by show 0<=sizeLine;decide),fun l hl=>q l _ (eX hl _) hl (by rw[eV,e];rfl)⟩
   cases ρ with
   |rcd l=>
    refine iM ?_
    cases hs with
    |cons hx _=>
     cases hx with
     |@tup ta xs _ eta hxs=>
      refine⟨_,et,fg (eY (j:=1) rfl) ⟨ta,rfl,⟨_,SqT.of eta⟩,fun D hD=>?_⟩⟩
      refine vQ (f:=fdD) (g:=Prod.fst) eta hxs ho.1 hD rfl ?_ (fun H' S e=>q D H' S hD e)
      intro x v H2 R hv hR
      cases hv with
      |tup ev hvs=>
       cases hvs with
       |cons a _=>
        cases a
        exact⟨_,ev,fg (eY (j:=0) rfl) hR⟩
   |case k l=>
    refine gR ⟨_,et,fg (eY (j:=0) rfl) ?_⟩
    dsimp only[tC,cEq,onB]
    rw[dR,h2]
    refine iM ?_
    cases hs with
    |cons _ hs=>
     cases hs with
     |cons hx _=>
      cases hx with
      |@tup ta xs _ eta hxs=>
       refine⟨_,et,fg (eY (j:=2) rfl) ⟨ta,rfl,⟨_,SqT.of eta⟩,fun D hD=>?_⟩⟩
       refine vQ (f:=amD) (g:=Prod.fst) eta hxs ho.1 hD rfl ?_ (fun H' S e=>q D H' S hD e)
       intro x v H2 R hv hR
       cases hv with
       |tup ev hvs=>
        cases hvs with
        |cons a _=>
         cases a
         exact⟨_,ev,fg (eY (j:=0) rfl) hR⟩
   |_=>
    refine gR ⟨_,et,fg (eY (j:=0) rfl) ?_⟩
    dsimp only[tC,cEq,onB]
    rw[dR,h2]
    exact gR (non rfl)
def exG (g:Str->Option Hm):Option (Str×Hm)->(Str->Option Hm)
 |none=>g
 |some (x,h)=>wid g x h
def Ro.ex:Ro->List (Option (Str×Hm))
 | .fn w k=>[some (w,("fn",k))]
 | .lt w a _=>[none,some (w,("let",a))]
 | .case _ l=>none::l.map fun p=>some (p.2.1,("arm",p.2.2))
 |ρ=>ρ.pl.map fun _=>none
theorem Sc.le {H:Hp} {a:Addr} {g:Str->Option Hm} {n m:Nat} (h:Sc H a g n) (l:n<=m):Sc H a g m:=by
 obtain⟨kvs,e,l',h⟩:=h
 exact⟨kvs,e,bX l' l,h⟩
theorem Sc.upd {H:Hp} {a d:Addr} {g:Str->Option Hm} {n:Nat} {kv:List (Key×V)} {o:HO} (h:Sc H a g n) (e:H d=some (.dK kv)) (ne:a≠d):Sc (L2.Internal.upd H d o) a g n:=by
 obtain⟨kvs,e1,l,h⟩:=h
 refine⟨kvs,by rw[fe ne];exact e1,l,fun w=>?_⟩
 have:=h w
 cases hg:g w with
 |none=>rw[hg]at this;exact this
 |some z=>
  rw[hg]at this
  obtain⟨t,h1,h2⟩:=this
  exact⟨t,h1,by rw[fe (kc h2 e (fun z=>nomatch z))];exact h2⟩
theorem Sc.dk {H:Hp} {a:Addr} {g:Str->Option Hm} {n:Nat} (h:Sc H a g n):∃kv,H a=some (.dK kv):=by
 obtain⟨kvs,e,_⟩:=h
 exact⟨kvs,e⟩
theorem vR {kvs:List (Key×V)} {k:Key} (v:V) (hn:(kvs.map (·.1)).Nodup):((ml kvs k v).map (·.1)).Nodup:=by
 cases q:je kvs k with
 |none=>exact Bs v hn q
 |some x=>
  have e:(ml kvs k v).map (·.1)=kvs.map (·.1):=by
   unfold ml
   rw[kP,q]
   rw[if_pos (show(some x).isSome=true from rfl),br]
   refine bM fun p _=>?_
   show(if p.1=k then(p.1,v)else p).1=p.1
   split<;>rfl
  rw[e]
  exact hn
theorem mV:∀(more kvs:List (Key×V)) (k:Key),(more.map (·.1)).Nodup->je (iL kvs more) k=match je more k with|some v=>some v|none=>je kvs k
 |[],kvs,k,_=>rfl
 |p::more,kvs,k,nd=>by
  obtain⟨h1,h2⟩:=aE.mp (show(p.1::more.map (·.1)).Nodup from nd)
  show je (iL (ml kvs p.1 p.2) more) k=_
  rw[mV more _ k h2]
  by_cases e:p.1=k
  ·rw[i9 e]
   have:je more k=none:=by
    cases q:je more k with
    |none=>rfl
    |some x=>exact absurd (Br q) (by rw[<-e];exact h1)
   rw[this]
   show je (ml kvs p.1 p.2) k=some p.2
   rw[ir,if_pos e.symm]
  ·rw[ja e]
   cases q:je more k with
   |some x=>rfl
   |none=>
    show je (ml kvs p.1 p.2) k=je kvs k
    rw[ir,if_neg (fun z=>e z.symm)]
def InS (W:Addr->Prop) (H:Hp) (kvs:List (Key×V)) (ρ:Ro) (g:Str->Option Hm) (n:Nat):Prop:=∀c:Int,(je kvs (.inl c)=none/\c∉ρ.pl)\/∃(j:Nat) (e:Option (Str×Hm)) (a:Addr),W a/\ρ.pl[j]?=some c/\ρ.ex[j]?=some e/\je kvs (.inl c)=some (.ref a)/\Sc H a (exG g e) (n+ 1)
theorem Dq {x:Str} {A B u:TS} {D:oG} {σ:St} {H:Hp} {t:Addr} {ys:List V} {s:Str} {b:Bool} (hσ:σ[0]?=some (some (.ref t))) (et:H t=some (.tup (.str s::ys))) (hb:decide (s=x)=b) (k:if b=true then A {D with nx:=u D} σ H else B {D with nx:=u D} σ H):
  um (Ai (cT (tOp (cEq false) (tOp Cb (cV 0) (tC (.int 0))) (tC (.str x)))) A B) u D σ H:=by
 show onV σ[0]? _
 rw[hσ]
 refine⟨_,et,fg (eY (j:=0) rfl) ?_⟩
 dsimp only[tC,cEq,onB]
 rw[dR,hb]
 exact k
theorem nA {x:Str} {A u:TS} {D:oG} {σ:St} {H:Hp} {t:Addr} {ys:List V} {s:Str} (hσ:σ[0]?=some (some (.ref t))) (et:H t=some (.tup (.str s::ys))) (hb:decide (s=x)=false) (k:u D σ H):
  um (Ai (cT (tOp (cEq false) (tOp Cb (cV 0) (tC (.int 0))) (tC (.str x)))) A sx) u D σ H:=Dq hσ et hb (gR k)
theorem yC {x:Str} {A B u:TS} {D:oG} {σ:St} {H:Hp} {t:Addr} {ys:List V} {s:Str} (hσ:σ[0]?=some (some (.ref t))) (et:H t=some (.tup (.str s::ys))) (hb:decide (s=x)=true) (k:A {D with nx:=u D} σ H):
  um (Ai (cT (tOp (cEq false) (tOp Cb (cV 0) (tC (.int 0))) (tC (.str x)))) A B) u D σ H:=Dq hσ et hb (iM k)
theorem Ro.pl_le (ρ:Ro) (h:ρ.ok):ρ.pl.length<=101:=by
 cases ρ with
 |rcd l=>show(l.map Prod.snd).length<=_;rw[aC];exact bX h.1 (by decide)
 |case k l=>show(k::l.map fun p=>p.2.2).length<=_;rw[az,aC];have:=h.1;lia
 |row ks=>exact bX h (by decide)
 |op s ks=>exact bX h.2 (by decide)
 |_=>simp[Ro.pl]
theorem yD {W:Addr->Prop} {H:Hp} {kvs:List (Key×V)} {ρ:Ro} {g:Str->Option Hm} {n:Nat} {a:Addr} (hW:W a) (hx:ρ.ex=ρ.pl.map fun _=>none) (hs:Sc H a g n) (hv:∀c:Int,je kvs (.inl c)=if c∈ρ.pl then some (.ref a)else none):InS W H kvs ρ g n:=by
 intro c
 by_cases h:c∈ρ.pl
 ·obtain⟨j,hj⟩:=bT.mp h
  exact .inr ⟨j,none,a,hW,hj,by rw[hx,aK,hj];rfl,by rw[hv c,if_pos h],hs.le (cb _)⟩
 ·exact .inl ⟨by rw[hv c,if_neg h],h⟩
def pX:Sp:=fun vs H Q _=>∃(t a:Addr) (ρ:Ro) (g:Str->Option Hm) (n:Nat),vs=[.ref t,.ref a]/\Im H (.ref t) ρ.d/\ρ.ok/\Sc H a g n/\n<9000/\
 ∀d kvs H',fK H H'->H d=none->H' d=some (.dK kvs)->(kvs.map (·.1)).Nodup->kvs.length<=300->InS (fun b=>b=a\/H b=none) H' kvs ρ g n->Q (.ref d) H'
theorem pY (T:Txt K mg):gu P w K mg base CX0 7 T.a_inner_scopes T.fd_inner_scopes ["row","scope"] pX:=by
 have G_places_in:=oo (P:=P) (w:=w) (base:=base) T
 have G_widened:=qF (P:=P) (w:=w) (base:=base) T
 refine T.F_inner_scopes.ok jB (fun vs H Q E h=>?_) (fun cdv A outer s H vs Q E hr h=>?_)
 ·obtain⟨t,a,ρ,g,n,rfl,_⟩:=h
  rfl
 have hu:=sR hr
 obtain⟨t,a,ρ,g,n,rfl,hi,ho,hsc,hn,q⟩:=h
 refine⟨_,(eR (fC (i:=2) jB.nd rfl (.inl rfl) oJ)
  (eR (lG PassesOwn.never rfl (mG (fA G_places_in (hr.mono (by decide)) rfl T.m_places_in T.k_places_in T.b_places_in .nil fO (eQ (cv 0) eS))) (jj (i:=3) jB.nd rfl (.inl rfl))
   (eW (mJ hu (cv 2) (cv 3) (cv 1) rfl)))
  (eR (gr (fz ki (ft fq (cv 0) eU (fun _ _=>rfl)) fc (fD _))
   (eW (mJ hu (cv 2) (ft fq (cv 0) eU (fun _ _=>rfl)) (fA G_widened (hr.mono (by decide)) rfl T.m_widened T.k_widened T.b_widened .nil fO (eQ (cv 1) (eQ (ft fq (cv 0) eU (fun _ _=>rfl)) (eQ (gG (eQ fc (eQ (ft fq (cv 0) eU (fun _ _=>rfl)) eS))) eS)))) rfl))
   fw)
  (eR (gr (fz ki (ft fq (cv 0) eU (fun _ _=>rfl)) fc (fD _))
   (eW (mJ hu (cv 2) (ft fq (cv 0) eU (fun _ _=>rfl)) (fA G_widened (hr.mono (by decide)) rfl T.m_widened T.k_widened T.b_widened .nil fO (eQ (cv 1) (eQ (ft fq (cv 0) eU (fun _ _=>rfl)) (eQ (gG (eQ fc (eQ (ft fq (cv 0) eU (fun _ _=>rfl)) eS))) eS)))) rfl))
   fw)
  (eR (gr (fz ki (ft fq (cv 0) eU (fun _ _=>rfl)) fc (fD _))
   (eW (lG PassesOwn.never rfl (qp (ft fq (cv 0) eU (fun _ _=>rfl))) (jj (i:=4) jB.nd rfl (.inl rfl))
    (eW (mJ hu (cv 2) (ft fq (cv 4) eU (fun _ _=>rfl)) (fA G_widened (hr.mono (by decide)) rfl T.m_widened T.k_widened T.b_widened .nil fO (eQ (cv 1) (eQ (ft fq (cv 4) eU (fun _ _=>rfl)) (eQ (gG (eQ fc (eQ (ft fq (cv 4) eU (fun _ _=>rfl)) eS))) eS)))) rfl))))
   fw)
  (eW (fG (cv 2)))))))),?_⟩
 have sl:sizeLine=16777216:=sizeLine_eq
 obtain⟨_,h2,h3,h4⟩:=ρ.hd ho
 have lp:=ρ.pl_le ho
 intro d hd
 have s1:=eX hd (.dK [])
 have ed:(upd H d (.dK [])) d=some (.dK []):=eV
 dsimp only[iQ]
 generalize upd H d (.dK [])=H1 at s1 ed⊢
 have nad:a≠d:=by
  obtain⟨kv,e⟩:=hsc.dk
  exact fb e hd
 refine⟨t,ρ,rfl,hi.mono (fK.tk s1),ho,fun l H1' S1 hl e1=>⟨l,rfl,⟨_,SqL.of e1⟩,qR (xs:=ρ.pl.map V.int) (fun i σ H2=>∃(o:Option V) (kvs:List (Key×V)),σ=[some (.ref t),some (.ref a),some (.ref d),o,none]/\fK H H2/\H2 l=some (.lst (ρ.pl.map V.int))/\H2 d=some (.dK kvs)/\(kvs.map (·.1)).Nodup/\kvs.length<=i/\∀c:Int,je kvs (.inl c)=if c∈ρ.pl.take i then some (.ref a)else none)
  ⟨none,[],rfl,s1.trans S1,e1,S1 _ _ ed,bS,b7 _,fun c=>by rw[List.take_zero,if_neg bt];rfl⟩ (fun i σ H2 _ ⟨_,_,_,_,e,_⟩=>SqL.of e) ?_ ?_⟩⟩
 ·rintro i v σ H2 hv ⟨o,kvs,rfl,S,el,ek,nd,hk,hc⟩
  rw[aK]at hv
  obtain⟨c,hcc,rfl⟩:=cD.mp hv
  have hi:=(aq.mp hcc).1
  have nld:l≠d:=(fb ed hl).symm
  refine⟨d,_,rfl,w8.k (k:=Sum.inl c) ek (by lia),_,_,rfl,iu S hd _,by rw[fe nld];exact el,eV,vR _ nd,bX (gN _ _ _) (by lia),fun c'=>?_⟩
  rw[ir,bR,hcc]
  by_cases z:c'=c
  ·rw[if_pos (by rw[z]),if_pos (by simp[z])]
  ·rw[if_neg (fun y=>z (by injection y)),hc c']
   simp[z]
 ·rintro σ H2 ⟨o,kvs,rfl,S,el,ek,nd,hk,hc⟩
  rw[aC,bh]at hc
  rw[aC]at hk
  have hi2:=hi
  have hsc2:=hsc.same S
  have fin:∀{o3 o4:Option V} {H3:Hp} {kvs:List (Key×V)},fK H H3->H3 d=some (.dK kvs)->(kvs.map (·.1)).Nodup->kvs.length<=300->InS (fun b=>b=a\/H b=none) H3 kvs ρ g n->(B9 (cV 2) {nx:=fun _ H'=>Q .non H',rt:=Q}:St->Hp->Prop) [some (.ref t),some (.ref a),some (.ref d),o3,o4] H3:=fun S3 e3 n3 l3 i3=>q d _ _ S3 hd e3 n3 l3 i3
  cases hi2 with
  |@tup _ ys _ et0 hs=>
   have et:=S _ _ et0
   cases hs with
   |@cons y _ ys _ hy hs=>
    cases hy
    dsimp only
    cases ρ with
    |fn x k=>
     cases hs with
     |cons a1 hs=>
      cases hs with
      |cons a2 hs=>
       cases a1;cases a2;cases hs
       refine yC rfl et h3 ⟨_,et,fg (eY (j:=1) rfl) ⟨_,et,fg (eY (j:=2) rfl) ⟨(by show 2<=sizeLine;decide),fun p hp=>?_⟩⟩⟩
       have sp:=eX hp (.tup [.str "fn",.int k])
       refine⟨a,p,g,n,x,("fn",k),rfl,hsc2.same sp,by lia,eV,fun b H4 S4 hb sc4=>?_⟩
       have S24:=sp.trans S4
       refine⟨_,S24 _ _ et,fg (eY (j:=2) rfl) ⟨d,_,rfl,w8.k (k:=Sum.inl k) (S24 _ _ ek) (by lia),?_⟩⟩
       have nbd:b≠d:=(fb (sp _ _ ek) hb).symm
       have et5:(upd H4 d (.dK (ml kvs (Sum.inl k) (.ref b)))) t=some (.tup (.str "fn"::[.str x,.int k])):=by rw[fe (kc (S24 _ _ et) (S24 _ _ ek) (fun z=>nomatch z))];exact S24 _ _ et
       dsimp only
       refine nA rfl et5 h4 (nA rfl et5 h2 (fin (iu (S.trans S24) hd _) eV (vR _ nd) (bX (gN _ _ _) (by lia)) fun c=>?_))
       by_cases z:c=k
       ·exact .inr ⟨0,_,b,.inr ((S.trans sp).free hb),by rw[z];rfl,rfl,by rw[ir,if_pos (by rw[z])],sc4.upd (S24 _ _ ek) nbd⟩
       ·exact .inl ⟨by rw[ir,if_neg (fun y=>z (by injection y)),hc c,if_neg (by simpa[Ro.pl]using z)],by simpa[Ro.pl]using z⟩
    |lt x k1 k2=>
     refine nA rfl et h3 ?_
     cases hs with
     |cons a1 hs=>
      cases hs with
      |cons a2 hs=>
       cases hs with
       |cons a3 hs=>
        cases a1;cases a2;cases a3;cases hs
        refine yC rfl et h4 ⟨_,et,fg (eY (j:=1) rfl) ⟨_,et,fg (eY (j:=2) rfl) ⟨(by show 2<=sizeLine;decide),fun p hp=>?_⟩⟩⟩
        have sp:=eX hp (.tup [.str "let",.int k1])
        refine⟨a,p,g,n,x,("let",k1),rfl,hsc2.same sp,by lia,eV,fun b H4 S4 hb sc4=>?_⟩
        have S24:=sp.trans S4
        refine⟨_,S24 _ _ et,fg (eY (j:=3) rfl) ⟨d,_,rfl,w8.k (k:=Sum.inl k2) (S24 _ _ ek) (by lia),?_⟩⟩
        have nbd:b≠d:=(fb (sp _ _ ek) hb).symm
        have et5:(upd H4 d (.dK (ml kvs (Sum.inl k2) (.ref b)))) t=some (.tup (.str "let"::[.str x,.int k1,.int k2])):=by rw[fe (kc (S24 _ _ et) (S24 _ _ ek) (fun z=>nomatch z))];exact S24 _ _ et
        dsimp only
        refine nA rfl et5 h2 (fin (iu (S.trans S24) hd _) eV (vR _ nd) (bX (gN _ _ _) (by lia)) fun c=>?_)
        by_cases z:c=k2
        ·exact .inr ⟨1,_,b,.inr ((S.trans sp).free hb),by rw[z];rfl,rfl,by rw[ir,if_pos (by rw[z])],sc4.upd (S24 _ _ ek) nbd⟩
        ·by_cases z1:c=k1
         ·exact .inr ⟨0,_,a,.inl rfl,by rw[z1];rfl,rfl,by rw[ir,if_neg (fun y=>z (by injection y)),hc c,if_pos (by simp[Ro.pl,z1])],((hsc2.same S24).upd (S24 _ _ ek) nad).le (cb _)⟩
         ·exact .inl ⟨by rw[ir,if_neg (fun y=>z (by injection y)),hc c,if_neg (by simp[Ro.pl,z,z1])],by simp[Ro.pl,z,z1]⟩
    |case k0 l=>
     refine nA rfl et h3 (nA rfl et h4 ?_)
     cases hs with
     |cons a1 hs=>
      cases hs with
      |cons a2 hs=>
       cases a1;cases hs
       cases a2 with
       |@tup ta xs _ eta hxs=>
        have lx:=hxs.length
        rw[aC]at lx
        have hl100:l.length<=100:=ho.1
        refine yC rfl et h2 ⟨_,et,fg (eY (j:=2) rfl) ⟨ta,rfl,⟨_,SqT.of (S _ _ eta)⟩,uq (xs:=xs) (fun i σ H3=>∃(o4:Option V) (kvs:List (Key×V)),σ=[some (.ref t),some (.ref a),some (.ref d),o,o4]/\fK H H3/\H3 d=some (.dK kvs)/\(kvs.map (·.1)).Nodup/\kvs.length<=101+i/\∀c:Int,(∃(j:Nat) (p:Str×Str×Int) (b:Addr),j<i/\l[j]?=some p/\p.2.2=c/\je kvs (.inl c)=some (.ref b)/\(b≠d/\H b=none)/\Sc H3 b (wid g p.2.1 ("arm",c)) (n+ 1))\/((∀(j:Nat) (p:Str×Str×Int),j<i->l[j]?=some p->p.2.2≠c)/\je kvs (.inl c)=if c∈(Ro.case k0 l).pl then some (.ref a)else none))
         ⟨none,kvs,rfl,S,ek,nd,by lia,fun c=> .inr ⟨fun j p hj=>absurd hj (cq _),hc c⟩⟩ (fun i σ H3 _ ⟨_,_,_,S3,_⟩=>SqT.of (S3 _ _ eta)) ?_ ?_⟩⟩
        ·rintro i v σ H3 hv ⟨o4,kvs,rfl,S3,ek,nd,hk,hc⟩
         obtain⟨dd,hdd,him⟩:=kU hxs hv
         rw[aK]at hdd
         obtain⟨⟨tg,x,kk⟩,hp,rfl⟩:=cD.mp hdd
         have hi:=(aq.mp hp).1
         cases him with
         |@tup tb _ _ eb hb=>
          cases hb with
          |cons b1 hb=>
           cases hb with
           |cons b2 hb=>
            cases hb with
            |cons b3 hb=>
             cases b1;cases b2;cases b3;cases hb
             refine⟨_,S3 _ _ eb,fg (eY (j:=1) rfl) ⟨_,S3 _ _ eb,fg (eY (j:=2) rfl) ⟨(by show 2<=sizeLine;decide),fun p hp'=>?_⟩⟩⟩
             have sp:=eX hp' (.tup [.str "arm",.int kk])
             refine⟨a,p,g,n,x,("arm",kk),rfl,(hsc.same S3).same sp,by lia,eV,fun b H4 S4 hb sc4=>?_⟩
             have S34:=sp.trans S4
             refine⟨_,S34 _ _ (S3 _ _ eb),fg (eY (j:=2) rfl) ⟨d,_,rfl,w8.k (k:=Sum.inl kk) (S34 _ _ ek) (by lia),?_⟩⟩
             have nbd:b≠d:=(fb (sp _ _ ek) hb).symm
             refine⟨_,_,rfl,iu (S3.trans S34) hd _,eV,vR _ nd,bX (gN _ _ _) (by lia),fun c=>?_⟩
             by_cases z:c=kk
             ·exact .inl ⟨i,_,b,b8 _,hp,z.symm,by rw[ir,if_pos (by rw[z])],⟨nbd,(S3.trans sp).free hb⟩,by rw[z];exact sc4.upd (S34 _ _ ek) nbd⟩
             ·rcases hc c with⟨j,p,b',c1,c2,c3,c4,c5,c6⟩|⟨c1,c2⟩
              ·exact .inl ⟨j,p,b',Nat.lt_succ_of_lt c1,c2,c3,by rw[ir,if_neg (fun y=>z (by injection y))];exact c4,c5,(c6.same S34).upd (S34 _ _ ek) c5.1⟩
              ·refine .inr ⟨fun j p hj hp2=>?_,by rw[ir,if_neg (fun y=>z (by injection y))];exact c2⟩
               by_cases e:j=i
               ·rw[e,hp]at hp2
                cases hp2
                exact fun y=>z y.symm
               ·exact c1 j p (by lia) hp2
        ·rintro σ H3 ⟨o4,kvs,rfl,S3,ek,nd,hk,hc⟩
         refine fin (o3:=o) (o4:=o4) S3 ek nd (by lia) fun c=>?_
         rcases hc c with⟨j,p,b',c1,c2,c3,c4,c5,c6⟩|⟨c1,c2⟩
         ·refine .inr ⟨j+ 1,some (p.2.1,("arm",p.2.2)),b',.inr c5.2,?_,?_,c4,?_⟩
          ·show(k0::l.map fun p=>p.2.2)[j+ 1]?=_
           rw[bw,aK,c2,<-c3]
           rfl
          ·show(none::l.map fun p=>some (p.2.1,(("arm":Str),p.2.2)))[j+ 1]?=_
           rw[bw,aK,c2]
           rfl
          ·rw[c3]
           exact c6
         ·by_cases z:c=k0
          ·exact .inr ⟨0,none,a,.inl rfl,by rw[z];rfl,rfl,by rw[c2,if_pos (by simp[Ro.pl,z])],(hsc.same S3).le (cb _)⟩
          ·have nm:c∉(Ro.case k0 l).pl:=fun hm=>by
            rcases aj.mp (show c∈(k0::l.map fun p=>p.2.2)from hm)with h|h
            ·exact z h
            ·obtain⟨p,hp,e⟩:=aZ.mp h
             obtain⟨j,hj⟩:=bT.mp hp
             exact c1 j p (by rw[lx];exact(aq.mp hj).1) hj e
           exact .inl ⟨by rw[c2,if_neg nm],nm⟩
    |_=>
     exact nA rfl et h3 (nA rfl et h4 (nA rfl et h2 (fin S ek nd (by lia) (yD (.inl rfl) rfl hsc2 hc))))
theorem vS {K:PySem.W.Frag} {a:Addr} {xs:List V} {g:TG} {tb:TS} {D:oG} {σ:St} {H:Hp} (Pv:Nat->St->Hp->Prop) (h0:Pv 0 σ H) (hl:∀i σ H,i<=xs.length->Pv i σ H->SqL K H a xs)
  (hs:∀(i:Nat) (x:V) (σ:St) (H:Hp) (T:Addr),xs[i]?=some x->Pv i σ H->H T=none->g (.ref T) σ (upd H T (.tup [.int (i:Int),x])) fun σ2 H2=>tb {D with nx:=Pv (i+ 1),ct:=Pv (i+ 1),bk:=D.nx} σ2 H2) (hd:∀σ H,Pv xs.length σ H->D.nx σ H):
  ∃W:Nat->Nat->St->Hp->Prop,(∃m,W 0 m σ H)/\∀i m σ H,W i m σ H->
   ((Ite K a).stop i H/\D.nx σ H)\/((Ite K a).go i H/\∃N:St->Hp->Prop,(∀σ' H',N σ' H'->∃m',m'<m/\W (i+ 1) m' σ' H')/\∀x H',(Ite K a).yld i H x H'->g x σ H' fun σ2 H2=>tb {D with nx:=N,ct:=N,bk:=D.nx} σ2 H2):=by
 refine⟨fun i m σ H=>m=xs.length-i/\i<=xs.length/\Pv i σ H,⟨xs.length,by simp,b7 _,h0⟩,?_⟩
 rintro i m σ H ⟨rfl,hi,p⟩
 have q:=hl i σ H hi p
 by_cases hlt:i<xs.length
 ·refine .inr ⟨⟨xs,xs[i],q,by simp[hlt]⟩,Pv (i+ 1),fun σ' H' p'=>⟨xs.length-(i+ 1),by lia,rfl,hlt,p'⟩,fun v H' y=>?_⟩
  obtain⟨T,x,rfl,hT,rfl,hx⟩:=y
  exact hs i x σ H T (hx xs q) p hT
 ·have e:i=xs.length:=by lia
  subst e
  exact .inl ⟨⟨xs,q,rfl⟩,hd σ H p⟩
theorem BR {f:Str} {v:V} {r:List (Str×V)}:aA f ((f,v)::r)=some v:=by
 rw[ba,show(f==f)=true by simp]
theorem BS {f g:Str} {v:V} {r:List (Str×V)} (h:(f==g)=false):aA f ((g,v)::r)=aA f r:=by
 rw[ba,h]
def fP (n r w:Addr):List (Str×V):=[("names",.ref n),("roots",.ref r),("rows",.ref w)]
theorem vT (n r w:Addr):(fP n r w).lookup ("names":Str)=some (.ref n):=BR
theorem vU (n r w:Addr):(fP n r w).lookup ("roots":Str)=some (.ref r):=(BS (by decide+kernel)).trans BR
theorem rO (n r w:Addr):(fP n r w).lookup ("rows":Str)=some (.ref w):=(BS (by decide+kernel)).trans ((BS (by decide+kernel)).trans BR)
def nI (k:Nat):V:= .int (k:Int)
structure PrA (C:Addr) (H:Hp) (p n r w dx:Addr) (xs:List V) (names:List Str) (roots:List Nat) (ρs:List Ro):Prop where
 o:H p=some (.ins C dx (fP n r w))
 n:H n=some (.lst (names.map V.str))
 r:H r=some (.lst (roots.map nI))
 w:H w=some (.lst xs)
 i:Ims H xs (ρs.map Ro.d)
theorem PrA.same {C:Addr} {H H':Hp} {p n r w dx:Addr} {xs:List V} {names:List Str} {roots:List Nat} {ρs:List Ro} (h:PrA C H p n r w dx xs names roots ρs) (s:fK H H'):PrA C H' p n r w dx xs names roots ρs:=⟨s _ _ h.o,s _ _ h.n,s _ _ h.r,s _ _ h.w,h.i.mono (fK.tk s)⟩
def G0 (names:List Str):Nat->(Str->Option Hm)
 |0=>fun _=>none
 |d+ 1=>match names[d]? with
  |some x=>wid (G0 names d) x ("def",(d:Int))
  |none=>G0 names d
structure y9 (names:List Str) (roots:List Nat) (ρs:List Ro) (out:Nat->Str->Option Hm):Prop where
 nn:names.Nodup
 nl:names.length<=12
 rl:roots.length=names.length
 ok:∀ρ∈ρs,ρ.ok
 pn:ρs.length<=1000
 rlt:∀(i r:Nat),roots[i]?=some r->r<ρs.length
 root:∀(i r:Nat) (ρ:Ro),roots[i]?=some r->ρs[r]?=some ρ->out r=if ρ.isF=true then G0 names (i+ 1)else G0 names i
 kid:∀(k:Nat) (ρ:Ro) (j:Nat) (c:Int) (e:Option (Str×Hm)),ρs[k]?=some ρ->ρ.pl[j]?=some c->ρ.ex[j]?=some e->∃m:Nat,c=(m:Int)/\k<m/\out m=exG (out k) e
 reach:∀k:Nat,k<ρs.length->(∃i:Nat,roots[i]?=some k)\/∃(k':Nat) (ρ:Ro),k'<k/\ρs[k']?=some ρ/\(k:Int)∈ρ.pl
 nm:∀(k:Nat) (x:Str),ρs[k]?=some (.name x)->∃h,out k x=some h
def duo (out:Nat->Str->Option Hm) (k:Nat):Ro->Option Hm
 | .name x=>out k x
 |_=>none
def hoD:Option Hm->Dt
 |none=> .flat .non
 |some h=>hmD h
theorem rQ {H:Hp} {xs:List V} {ρs:List Ro} {k:Nat} {ρ:Ro} (h:Ims H xs (ρs.map Ro.d)) (e:ρs[k]?=some ρ):∃(t:Addr) (ys:List V),xs[k]?=some (.ref t)/\H t=some (.tup (.str ρ.s::ys))/\Ims H ys ρ.r/\Im H (.ref t) ρ.d:=by
 have lx:=h.length
 rw[aC]at lx
 have hk:=(aq.mp e).1
 obtain⟨d,hd,him⟩:=kU h (bq (show k<xs.length by lia))
 rw[aK,e]at hd
 cases hd
 have h0:xs[k]?=some xs[k]:=bq (by lia)
 generalize xs[k]=v at h0 him
 have him':=him
 cases him with
 |@tup t ys _ et hs=>
  cases hs with
  |cons a hs=>
   cases a
   exact⟨t,_,h0,et,hs,him'⟩
def ql (C:Addr):Sp:=fun vs H Q _=>∃(p n r w dx:Addr) (xs:List V) (names:List Str) (roots:List Nat) (ρs:List Ro) (out:Nat->Str->Option Hm),vs=[.ref p]/\PrA C H p n r w dx xs names roots ρs/\y9 names roots ρs out/\
 ∀d kvs H',fK H H'->H d=none->H' d=some (.dK kvs)->kvs.length<=12->(∀(i c:Nat),roots[i]?=some c->∃a,a≠d/\je kvs (.inl (c:Int))=some (.ref a)/\Sc H' a (out c) 20)->Q (.ref d) H'
theorem qm (T:Txt K mg):gu P w K mg base CX0 2 T.a_root_scopes T.fd_root_scopes ["program"] (ql T.a_Program):=by
 have G_widened:=qF (P:=P) (w:=w) (base:=base) T
 refine T.F_root_scopes.ok gY (fun vs H Q E h=>?_) (fun cdv A outer s H vs Q E hr h=>?_)
 ·obtain⟨p,n,r,w,dx,xs,names,roots,ρs,out,rfl,_⟩:=h
  rfl
 have hu:=sR hr
 obtain⟨p,n,r,w,dx,xs,names,roots,ρs,out,rfl,pr,gd,q⟩:=h
 refine⟨_,(eR (fC (i:=1) gY.nd rfl (.inl rfl) oJ)
  (eR (fC (i:=2) gY.nd rfl (.inl rfl) oJ)
  (eR (lG PassesOwn.never rfl (yg rfl T.z_enumerate (eQ (fN T.cl_Program T.n_Program_names (cv 0)) eS)) (xp rfl (mh (jj (i:=3) gY.nd rfl (.inl rfl)) (mh (jj (i:=4) gY.nd rfl (.inl rfl)) uo)))
   (eR (fC (i:=5) gY.nd rfl (.inl rfl) (ft f7 (fN T.cl_Program T.n_Program_roots (cv 0)) (cv 3) (fun _ _=>rfl)))
   (eR (fC (i:=6) gY.nd rfl (.inl rfl) (fA G_widened (hr.mono (by decide)) rfl T.m_widened T.k_widened T.b_widened .nil fO (eQ (cv 2) (eQ (cv 4) (eQ (gG (eQ fc (eQ (cv 3) eS))) eS)))))
   (eR (mJ hu (cv 1) (cv 5) (qQ (fz ki (ft fq (ft f7 (fN T.cl_Program T.n_Program_rows (cv 0)) (cv 5) (fun _ _=>rfl)) eU (fun _ _=>rfl)) fc (fD _)) (cv 6) (cv 2)) rfl)
   (eW (fC (i:=2) gY.nd rfl (.inl rfl) (cv 6)))))))
  (eW (fG (cv 1)))))),?_⟩
 have sl:sizeLine=16777216:=sizeLine_eq
 intro d hd
 have s1:=eX hd (.dK [])
 have ed:(upd H d (.dK [])) d=some (.dK []):=eV
 dsimp only[iQ]
 generalize upd H d (.dK [])=H1 at s1 ed⊢
 intro ae hae
 have s2:=eX hae (.dK [])
 have ea:(upd H1 ae (.dK [])) ae=some (.dK []):=eV
 dsimp only[iQ]
 generalize upd H1 ae (.dK [])=H2 at s2 ea⊢
 have nad:ae≠d:=(fb ed hae).symm
 have pr2:=pr.same (s1.trans s2)
 have nl:=gd.nl
 refine⟨_,⟨dx,_,pr2.o,vT _ _ _⟩,n,rfl,⟨_,SqL.of pr2.n⟩,vS (xs:=names.map V.str) (fun i σ H3=>∃(o3 o4 o5 o6:Option V) (ae:Addr) (kvs:List (Key×V)),σ=[some (.ref p),some (.ref d),some (.ref ae),o3,o4,o5,o6]/\fK H H3/\H3 d=some (.dK kvs)/\kvs.length<=i/\ae≠d/\Sc H3 ae (G0 names i) i/\∀(i' c:Nat),i'<i->roots[i']?=some c->∃a,a≠d/\je kvs (.inl (c:Int))=some (.ref a)/\Sc H3 a (out c) 20)
  ⟨none,none,none,none,ae,[],rfl,s1.trans s2,s2 _ _ ed,b6 _,nad,⟨[],ea,b6 _,fun w=>rfl⟩,fun i' c h=>absurd h (cq _)⟩ (fun i σ H3 _ ⟨_,_,_,_,_,_,_,S,_⟩=>SqL.of (S _ _ pr.n)) ?_ ?_⟩
 ·rintro i v σ H3 t hx ⟨o3,o4,o5,o6,ae,kvs,rfl,S,ek,hk,nad,sca,hroots⟩ ht
  rw[aK]at hx
  obtain⟨x,hx',rfl⟩:=cD.mp hx
  clear hx
  have hx:=hx'
  have hi:=(aq.mp hx).1
  have rl:=gd.rl
  obtain⟨c,hc⟩:∃c,roots[i]?=some c:=⟨_,bq (by lia)⟩
  have hcl:=gd.rlt i c hc
  obtain⟨ρ,hρ⟩:∃ρ,ρs[c]?=some ρ:=⟨_,bq hcl⟩
  have sT:=eX ht (.tup [.int (i:Int),.str x])
  refine⟨t,_,rfl,SqT.of eV,rfl,_,_,rfl,_,_,rfl,rfl,?_⟩
  have S4:=S.trans sT
  generalize upd H3 t (.tup [.int (i:Int),.str x])=H4 at sT S4
  have pr4:=pr.same S4
  have hcI:(roots.map nI)[i]?=some (.int (c:Int)):=by rw[aK,hc];rfl
  refine⟨_,⟨dx,_,pr4.o,vU _ _ _⟩,_,pr4.r,fg (eY hcI) ?_⟩
  refine⟨(by show 2<=sizeLine;decide),fun pp hpp=>?_⟩
  have s5:=eX hpp (.tup [.str "def",.int (i:Int)])
  refine⟨ae,pp,G0 names i,i,x,("def",(i:Int)),rfl,(sca.same sT).same s5,by lia,eV,fun b H6 S6 hb sc6=>?_⟩
  have S36:=(sT.trans s5).trans S6
  have SH6:=S.trans S36
  have pr6:=pr.same SH6
  obtain⟨tr,ys,hxt,etr,_,_⟩:=rQ pr6.i hρ
  refine⟨_,⟨dx,_,pr6.o,rO _ _ _⟩,_,pr6.w,fg (eY hxt) ⟨_,etr,fg (eY (j:=0) rfl) ?_⟩⟩
  dsimp only[tC,cEq,onB]
  obtain⟨_,_,h3,_⟩:=ρ.hd (gd.ok ρ (aM hρ))
  rw[dR,h3]
  have nbd:b≠d:=(fb (s5 _ _ (sT _ _ ek)) hb).symm
  have g1:G0 names (i+ 1)=wid (G0 names i) x ("def",(i:Int)):=by rw[G0,hx]
  have hout:=gd.root i c ρ hc hρ
  have nx:∀z:Addr,z≠d->Sc H6 z (out c) 20->∃(a:Addr) (H':Hp),V.ref d= .ref a/\w8 H6 a (.int (c:Int)) (.ref z) H'/\∃(o3 o4 o5 o6:Option V) (ae:Addr) (kvs:List (Key×V)),[some (V.ref p),some (.ref d),some (.ref b),some (.int (i:Int)),some (.str x),some (.int (c:Int)),some (.ref b)]=[some (V.ref p),some (.ref d),some (.ref ae),o3,o4,o5,o6]/\fK H H'/\H' d=some (.dK kvs)/\kvs.length<=i+ 1/\ae≠d/\Sc H' ae (G0 names (i+ 1)) (i+ 1)/\∀(i' c:Nat),i'<i+ 1->roots[i']?=some c->∃a,a≠d/\je kvs (.inl (c:Int))=some (.ref a)/\Sc H' a (out c) 20:=fun z nzd hz=>by
   have e6:=S36 _ _ ek
   refine⟨d,_,rfl,w8.k (k:=Sum.inl (c:Int)) e6 (by lia),_,_,_,_,b,_,rfl,iu SH6 hd _,eV,bX (gN _ _ _) (by lia),nbd,by rw[g1];exact sc6.upd e6 nbd,fun i' c' hi' hc'=>?_⟩
   by_cases y:c'=c
   ·rw[y]
    exact⟨z,nzd,by rw[ir,if_pos rfl],hz.upd e6 nzd⟩
   ·have:i'≠i:=fun z=>y (by rw[z,hc]at hc';exact(cz.inj hc').symm)
    obtain⟨a,h1,h2,h3⟩:=hroots i' c' (by lia) hc'
    exact⟨a,h1,by rw[ir,if_neg (fun z=>y (by injection z with z;lia))];exact h2,(h3.same S36).upd e6 h1⟩
  cases hF:ρ.isF with
  |true=>
   rw[hF,if_pos rfl,g1]at hout
   exact iM (nx b nbd (by rw[hout];exact sc6.le (by lia)))
  |false=>
   rw[hF,if_neg dN]at hout
   exact gR (nx ae nad (by rw[hout];exact(sca.same S36).le (by lia)))
 ·rintro σ H3 ⟨o3,o4,o5,o6,ae,kvs,rfl,S,ek,hk,nad,sca,hroots⟩
  rw[aC]at hk hroots
  refine q d kvs H3 S hd ek (by lia) fun i c hc=>?_
  have rl:=gd.rl
  exact hroots i c (by have:=(aq.mp hc).1;lia) hc
def HoA (H:Hp) (xs:List V) (ρs:List Ro) (out:Nat->Str->Option Hm):Prop:=∀(k:Nat) (x:V) (ρ:Ro),xs[k]?=some x->ρs[k]?=some ρ->Im H x (hoD (duo out k ρ))
theorem Ro.nm_ne (ρ:Ro) (h:ρ.ok) (hn:∀x,ρ≠ .name x):ρ.s≠"name":=by
 cases ρ with
 |name x=>exact absurd rfl (hn x)
 |op s ks=>exact of_decide_eq_false (mH _ h "name" (by decide+kernel) ⟨s,ks,rfl⟩)
 |num a=>exact(show("num":Str)≠"name" from by decide+kernel)
 |fn a b=>exact(show("fn":Str)≠"name" from by decide+kernel)
 |tag a b=>exact(show("tag":Str)≠"name" from by decide+kernel)
 |lt a b c=>exact(show("let":Str)≠"name" from by decide+kernel)
 |get a b=>exact(show("get":Str)≠"name" from by decide+kernel)
 |rcd a=>exact(show("rec":Str)≠"name" from by decide+kernel)
 |case a b=>exact(show("case":Str)≠"name" from by decide+kernel)
 |row a=>exact(show("row":Str)≠"name" from by decide+kernel)
theorem zZ {H H7:Hp} {ρ:Ro} {zs:List V} {out:Nat->Str->Option Hm} {i:Nat} {Qx:VK} (rok:ρ.ok) (hzs:Ims H zs ρ.r) (hn:∀x,ρ= .name x->∃h,out i x=some h) (key:∀y,Im H7 y (hoD (duo out i ρ))->Qx y H7):
  (ρ.s≠"name"->Qx .non H7)/\(ρ.s="name"->∃(x:Str) (h:Hm),zs=[.str x]/\out i x=some h/\∀p,H7 p=some (.tup [.str h.1,.int h.2])->Qx (.ref p) H7):=by
 have no:(∀x,ρ≠ .name x)->duo out i ρ=none->(ρ.s≠"name"->Qx .non H7)/\(ρ.s="name"->∃(x:Str) (h:Hm),zs=[.str x]/\out i x=some h/\∀p,H7 p=some (.tup [.str h.1,.int h.2])->Qx (.ref p) H7):=fun h e=>⟨fun _=>key _ (by rw[e];exact .flat rfl),fun z=>absurd z (ρ.nm_ne rok h)⟩
 cases ρ with
 |name x=>
  refine⟨fun z=>absurd rfl z,fun _=>?_⟩
  obtain⟨h,hh⟩:=hn x rfl
  cases hzs with
  |cons a b=>
   cases a;cases b
   refine⟨x,h,rfl,hh,fun p hp=>key _ ?_⟩
   show Im H7 _ (hoD (out i x))
   rw[hh]
   exact .tup hp (.cons (.flat rfl) (.cons (.flat rfl) .nil))
 |_=>exact no (fun x z=>nomatch z) rfl
theorem yE {H H7:Hp} {ρ:Ro} {zs:List V} {out:Nat->Str->Option Hm} {i:Nat} {Qx:VK} {E:XK} {t a:Addr} {n:Nat} {σ:St} (rok:ρ.ok) (hzs:Ims H zs ρ.r) (hn:∀x,ρ= .name x->∃h,out i x=some h) (et:H7 t=some (.tup (.str ρ.s::zs))) (sc:Sc H7 a (out i) n) (h4:σ[4]?=some (some (.ref t))) (h3:σ[3]?=some (some (.int (i:Int)))) (h5:σ[5]?=some (some (.ref a))) (key:∀y,Im H7 y (hoD (duo out i ρ))->Qx y H7):
  CC qG [] E (mI (cV 4) (mI (cV 3) (mI (cV 5) xD))) σ H7 Qx:=by
 show onV σ[4]? _
 rw[h4]
 show onV σ[3]? _
 rw[h3]
 show onV σ[5]? _
 rw[h5]
 exact⟨t,a,(i:Int),out i,n,ρ.s,zs,rfl,et,sc,zZ rok hzs hn key⟩
theorem yF {H:Hp} {l:Addr} {u o:HO} (e:H l=some u) (nt:∀zs,u≠ .tup zs):TK H (upd H l o):=fun a xs q=>by rw[fe (kc q e (fun z=>nt _ z.symm))];exact q
theorem Sc.updL {H:Hp} {a l:Addr} {g:Str->Option Hm} {n:Nat} {ys:List V} {o:HO} (h:Sc H a g n) (e:H l=some (.lst ys)):Sc (L2.Internal.upd H l o) a g n:=by
 obtain⟨kvs,e1,l',h⟩:=h
 refine⟨kvs,by rw[fe (kc e1 e (fun z=>nomatch z))];exact e1,l',fun w=>?_⟩
 have:=h w
 cases hg:g w with
 |none=>rw[hg]at this;exact this
 |some z=>
  rw[hg]at this
  obtain⟨t,h1,h2⟩:=this
  exact⟨t,h1,by rw[fe (kc h2 e (fun z=>nomatch z))];exact h2⟩
def uV (C:Addr):Sp:=fun vs H Q _=>∃(p n r w dx:Addr) (xs:List V) (names:List Str) (roots:List Nat) (ρs:List Ro) (out:Nat->Str->Option Hm),vs=[.ref p]/\PrA C H p n r w dx xs names roots ρs/\y9 names roots ρs out/\
 ∀l ys H',fK H H'->H l=none->H' l=some (.lst ys)->ys.length=ρs.length->HoA H' ys ρs out->Q (.ref l) H'
theorem uW (T:Txt K mg):gu P w K mg base CX0 8 T.a_homes_of T.fd_homes_of ["program"] (uV T.a_Program):=by
 have G_refuse_twice:=pU (P:=P) (w:=w) (base:=base) T
 have G_root_scopes:=qm (P:=P) (w:=w) (base:=base) T
 have G_words_once:=rN (P:=P) (w:=w) (base:=base) T
 have G_home_of:=wX (P:=P) (w:=w) (base:=base) T
 have G_inner_scopes:=pY (P:=P) (w:=w) (base:=base) T
 refine T.F_homes_of.ok jT (fun vs H Q E h=>?_) (fun cdv A outer s H vs Q E hr h=>?_)
 ·obtain⟨p,n,r,w,dx,xs,names,roots,ρs,out,rfl,_⟩:=h
  rfl
 have hu:=sR hr
 obtain⟨p,n,r,w,dx,xs,names,roots,ρs,out,rfl,pr,gd,q⟩:=h
 refine⟨_,(eR (fE (fA G_refuse_twice (hr.mono (by decide)) rfl T.m_refuse_twice T.k_refuse_twice T.b_refuse_twice .nil fO (eQ (fN T.cl_Program T.n_Program_names (cv 0)) eS)))
  (eR (fC (i:=1) jT.nd rfl (.inl rfl) (fA G_root_scopes (hr.mono (by decide)) rfl T.m_root_scopes T.k_root_scopes T.b_root_scopes .nil fO (eQ (cv 0) eS)))
  (eR (fC (i:=2) jT.nd rfl (.inl rfl) (gH eS))
  (eR (lG PassesOwn.never rfl (yg rfl T.z_enumerate (eQ (fN T.cl_Program T.n_Program_rows (cv 0)) eS)) (xp rfl (mh (jj (i:=3) jT.nd rfl (.inl rfl)) (mh (jj (i:=4) jT.nd rfl (.inl rfl)) uo)))
   (eR (fC (i:=5) jT.nd rfl (.inl rfl) (qX hu (cv 1) (cv 3) (fun _ _=>rfl)))
   (eR (fE (fA G_refuse_twice (hr.mono (by decide)) rfl T.m_refuse_twice T.k_refuse_twice T.b_refuse_twice .nil fO (eQ (fA G_words_once (hr.mono (by decide)) rfl T.m_words_once T.k_words_once T.b_words_once .nil fO (eQ (cv 4) eS)) eS)))
   (eR (fE (ka (ko dG dH dI gq (PE.mono (cv 2)) (eQ (PE.mono (fA G_home_of (hr.mono (by decide)) rfl T.m_home_of T.k_home_of T.b_home_of .nil fO (eQ (cv 4) (eQ (cv 3) (eQ (cv 5) eS))))) eS))))
   (eW (fE (ko PySem.F.plainAttrs_dict dF PySem.F.type_dict_update yi (cv 1) (eQ (fA G_inner_scopes (hr.mono (by decide)) rfl T.m_inner_scopes T.k_inner_scopes T.b_inner_scopes .nil fO (eQ (cv 4) (eQ (cv 5) eS))) eS))))))))
  (eW (fG (cv 2))))))),?_⟩
 have sl:sizeLine=16777216:=sizeLine_eq
 have nl:=gd.nl
 have pn:=gd.pn
 refine⟨_,⟨dx,_,pr.o,vT _ _ _⟩,n,names,rfl,pr.n,gd.nn,by lia,fun H1 S1=>?_⟩
 refine⟨p,n,r,w,dx,xs,names,roots,ρs,out,rfl,pr.same S1,gd,fun d kvs H2 S2 hd ed hk hroots=>?_⟩
 refine⟨(by show 0<=sizeLine;decide),fun lh hlh=>?_⟩
 have s3:=eX hlh (.lst [])
 have el:(upd H2 lh (.lst [])) lh=some (.lst []):=eV
 dsimp only[iQ]
 generalize upd H2 lh (.lst [])=H3 at s3 el⊢
 have S13:=(S1.trans S2).trans s3
 have hd0:H d=none:=S1.free hd
 have hl0:H lh=none:=(S1.trans S2).free hlh
 have ndl:d≠lh:=fb ed hlh
 have pr3:=pr.same S13
 have lx:=pr.i.length
 rw[aC]at lx
 refine⟨_,⟨dx,_,pr3.o,rO _ _ _⟩,w,rfl,⟨_,SqL.of pr3.w⟩,vS (xs:=xs) (fun i σ H4=>∃(o3 o4 o5:Option V) (kvs:List (Key×V)) (ys:List V),σ=[some (.ref p),some (.ref d),some (.ref lh),o3,o4,o5]/\fK H H4/\H4 d=some (.dK kvs)/\kvs.length<=12+ 300*i/\H4 lh=some (.lst ys)/\ys.length=i/\HoA H4 ys ρs out/\
   ∀c:Nat,((∃i':Nat,roots[i']?=some c)\/∃(k':Nat) (ρ:Ro),k'<i/\ρs[k']?=some ρ/\(c:Int)∈ρ.pl)->∃a,a≠d/\je kvs (.inl (c:Int))=some (.ref a)/\Sc H4 a (out c) (20+c))
  ⟨none,none,none,kvs,[],rfl,S13,s3 _ _ ed,by lia,el,rfl,fun k x ρ h=>(by cases h),fun c hc=>?_⟩ (fun i σ H4 _ ⟨_,_,_,_,_,_,S,_⟩=>SqL.of (S _ _ pr.w)) ?_ ?_⟩
 ·rcases hc with⟨i,hi⟩|⟨k',ρ,h,_⟩
  ·obtain⟨a,h1,h2,h3⟩:=hroots i c hi
   exact⟨a,h1,h2,(h3.same s3).le (by lia)⟩
  ·exact absurd h (cq _)
 ·rintro i v σ H4 t hx ⟨o3,o4,o5,kvs,ys,rfl,S,ek,hk,el,hyl,ho,hsc⟩ ht
  have hi:=(aq.mp hx).1
  obtain⟨ρ,hρ⟩:∃ρ,ρs[i]?=some ρ:=⟨_,bq (by lia)⟩
  have rok:=gd.ok ρ (aM hρ)
  obtain⟨tr,zs,hxt,etr,hzs,him⟩:=rQ pr.i hρ
  rw[hxt]at hx
  cases hx
  obtain⟨a,nad,hva,sca⟩:=hsc i (gd.reach i (by lia))
  have sT:=eX ht (.tup [.int (i:Int),.ref tr])
  refine⟨t,_,rfl,SqT.of eV,rfl,_,_,rfl,_,_,rfl,rfl,?_⟩
  have S5:=S.trans sT
  generalize upd H4 t (.tup [.int (i:Int),.ref tr])=H5 at sT S5
  have g:=uu.k (k:=(Sum.inl (i:Int):Key)) (sT _ _ ek)
  rw[hva]at g
  refine⟨d,_,rfl,g,?_⟩
  refine⟨tr,ρ,rfl,him.mono (fK.tk S5),rok,fun lw H6 S6 hlw e6=>⟨lw,ρ.ws,rfl,e6,(ρ.ws_nd rok).1,bX (ρ.ws_nd rok).2 (by decide),fun H7 S7=>?_⟩⟩
  have S47:=(sT.trans S6).trans S7
  have S07:=S.trans S47
  have el7:=S47 _ _ el
  have ek7:=S47 _ _ ek
  have sca7:=sca.same S47
  refine⟨⟨_,el7⟩,yE rok hzs (fun x e=>gd.nm i x (by rw[hρ,e])) (S07 _ _ etr) sca7 rfl rfl rfl fun y hy=>?_⟩
  refine⟨_,el7,by lia,?_⟩
  have S08:=iu (o:= .lst (ys++[y])) S07 hl0
  have tk8:TK H7 (upd H7 lh (.lst (ys++[y]))):=yF el7 (fun zs z=>nomatch z)
  have ek8:(upd H7 lh (.lst (ys++[y]))) d=some (.dK kvs):=by rw[fe ndl];exact ek7
  have el8:(upd H7 lh (.lst (ys++[y]))) lh=some (.lst (ys++[y])):=eV
  have sc8:∀{z:Addr} {g:Str->Option Hm} {m:Nat},Sc H4 z g m->Sc (upd H7 lh (.lst (ys++[y]))) z g m:=fun h=>(h.same S47).updL el7
  generalize upd H7 lh (.lst (ys++[y]))=H8 at S08 tk8 ek8 el8 sc8
  refine⟨.inr (.inr (.inl ⟨rfl,.inl ⟨_,ek8⟩⟩)),tr,a,ρ,out i,20+i,rfl,him.mono (fK.tk S08),rok,sc8 sca,by lia,fun d2 kvs2 H9 S9 hd2 e9 nd9 l9 in9=>⟨d,d2,kvs,kvs2,rfl,rfl,fb ek8 hd2,S9 _ _ ek8,e9,by lia,?_⟩⟩
  have tk9:TK H9 (upd H9 d (.dK (iL kvs kvs2))):=yF (S9 _ _ ek8) (fun zs z=>nomatch z)
  have tkA:TK H4 (upd H9 d (.dK (iL kvs kvs2))):=fun b u e=>tk9 _ _ (S9 _ _ (tk8 _ _ (S47 _ _ e)))
  refine⟨_,_,_,_,ys++[y],rfl,iu (S08.trans S9) hd0 _,eV,bX (ke _ _) (by lia),by rw[fe ndl.symm];exact S9 _ _ el8,by rw[aN,hyl];rfl,?_,?_⟩
  ·intro k x ρ' hx hρ'
   by_cases hki:k<ys.length
   ·rw[aJ hki]at hx
    exact(ho k x ρ' hx hρ').mono tkA
   ·have hk2:=(aq.mp hx).1
    rw[aN,aY]at hk2
    have e:k=ys.length:=by lia
    subst e
    rw[aI (b6 _),cn]at hx
    cases hx
    rw[hyl]at hρ'⊢
    rw[hρ]at hρ'
    cases hρ'
    exact hy.mono fun b u e=>tk9 _ _ (S9 _ _ (tk8 _ _ e))
  ·intro c hc
   rw[mV _ _ _ nd9]
   rcases in9 (c:Int)with⟨h1,h2⟩|⟨j,e,a',hW,hj,he,hv,hs⟩
   ·rw[h1]
    obtain⟨a',g1,g2,g3⟩:=hsc c (by
     rcases hc with h|⟨k',ρ',k1,k2,k3⟩
     ·exact .inl h
     ·refine .inr ⟨k',ρ',?_,k2,k3⟩
      by_cases z:k'=i
      ·rw[z,hρ]at k2
       cases k2
       exact absurd k3 h2
      ·lia)
    exact⟨a',g1,g2,((sc8 g3).same S9).upd (S9 _ _ ek8) g1⟩
   ·rw[hv]
    have na:a'≠d:=by
     rcases hW with h|h
     ·rw[h];exact nad
     ·exact(fb ek8 h).symm
    obtain⟨m,e1,e2,e3⟩:=gd.kid i ρ j _ e hρ hj he
    have em:c=m:=by lia
    subst em
    exact⟨a',na,rfl,by rw[e3];exact(hs.upd (S9 _ _ ek8) na).le (by lia)⟩
 ·rintro σ H4 ⟨o3,o4,o5,kvs,ys,rfl,S,ek,hk,el,hyl,ho,hsc⟩
  exact q lh ys H4 S hl0 el (by lia) ho
mutual
inductive Vl where
 |num (n p:Int)
 |fn (b:Int) (sc:Ev) (p:Int)
 |rcd (l:Vls) (p:Int)
 |tag (t:Str) (v:Vl) (p:Int)
 |row (l:Vlr) (p:Int)
inductive Ev where
 |nil
 |cons (b:Int) (v:Vl) (sc:Ev)
inductive Vls where
 |nil
 |cons (w:Str) (v:Vl) (t:Vls)
inductive Vlr where
 |nil
 |cons (v:Vl) (t:Vlr)
end
mutual
def Vl.d:Vl->Dt
 | .num n p=> .tup [sD "num",kD n,kD p]
 | .fn b sc p=> .tup [sD "fn",.tup [kD b,sc.d],kD p]
 | .rcd l p=> .tup [sD "rec",.tup l.ds,kD p]
 | .tag t v p=> .tup [sD "tag",.tup [sD t,v.d],kD p]
 | .row l p=> .tup [sD "row",.tup l.ds,kD p]
def Ev.d:Ev->Dt
 | .nil=> .flat .non
 | .cons b v sc=> .tup [kD b,v.d,sc.d]
def Vls.ds:Vls->List Dt
 | .nil=>[]
 | .cons w v t=> .tup [sD w,v.d]::t.ds
def Vlr.ds:Vlr->List Dt
 | .nil=>[]
 | .cons v t=>v.d::t.ds
end
def Vl.s:Vl->Str
 | .num _ _=>"num"
 | .fn _ _ _=>"fn"
 | .rcd _ _=>"rec"
 | .tag _ _ _=>"tag"
 | .row _ _=>"row"
def Vl.b:Vl->Dt
 | .num n _=>kD n
 | .fn b sc _=> .tup [kD b,sc.d]
 | .rcd l _=> .tup l.ds
 | .tag t v _=> .tup [sD t,v.d]
 | .row l _=> .tup l.ds
def Vl.p:Vl->Int
 | .num _ p=>p
 | .fn _ _ p=>p
 | .rcd _ p=>p
 | .tag _ _ p=>p
 | .row _ p=>p
theorem ER (v:Vl):v.d= .tup [sD v.s,v.b,kD v.p]:=by cases v<;>rw[Vl.d]<;>rfl
def l6:Vlr->List Vl
 | .nil=>[]
 | .cons v t=>v::l6 t
def lP:List Vl->Vlr
 |[]=> .nil
 |v::t=> .cons v (lP t)
theorem l7:∀l,l6 (lP l)=l
 |[]=>rfl
 |v::t=>congrArg (v::·) (l7 t)
theorem z7:∀l:Vlr,l.ds=(l6 l).map Vl.d
 | .nil=>by rw[Vlr.ds];rfl
 | .cons v t=>by rw[Vlr.ds,z7 t];rfl
def fdL:Vls->List (Str×Vl)
 | .nil=>[]
 | .cons w v t=>(w,v)::fdL t
def fdO:List (Str×Vl)->Vls
 |[]=> .nil
 |p::t=> .cons p.1 p.2 (fdO t)
inductive Stp where
 |beg (p:Int) (sc:Ev)
 |par (p:Int) (sc:Ev)
 |hand (p:Int)
def Stp.d:Stp->Dt
 | .beg p sc=> .tup [sD "begin",kD p,sc.d]
 | .par p sc=> .tup [sD "parts",kD p,sc.d]
 | .hand p=> .tup [sD "hand",kD p,.flat .non]
def meD (t:Int×Int×Int):Dt:= .tup [kD t.1,kD t.2.1,kD t.2.2]
def haD (t:Int×Int):Dt:= .tup [kD t.1,kD t.2]
structure Ms where
 bg:Nat
 en:Option Str
 me:List (Int×Int×Int)
 ha:List (Int×Int)
 de:List Vl
 st:List Stp
 rd:List Vl
def atZ {α:Type} (l:List α):Int->Option α
 | .ofNat k=>l[k]?
 | .negSucc _=>none
def mw (p:Int) (v:Vl) (s:Ms):Ms:={s with ha:=(p,v.p)::s.ha,rd:=v::s.rd}
def oA (b:Int) (sc:Ev) (p:Int) (s:Ms):Ms:={s with st:= .beg b sc:: .hand p::s.st}
def iJ (v:Vl) (p k:Int) (f:Bool) (s:Ms):Ms:={s with me:=(v.p,p,k)::s.me,en:=if f then s.en else some "wrong"}
def tQ:Ev->Int->Option Vl
 | .nil,_=>none
 | .cons b v sc,p=>if b=p then some v else tQ sc p
def mD:Ro->List Int
 | .fn _ _=>[]
 | .lt _ a _=>[a]
 | .case k _=>[k]
 |ρ=>ρ.pl
def lkV:List (Str×Vl)->Str->Option Vl
 |[],_=>none
 |p::t,x=>if p.1=x then some p.2 else lkV t x
def lkI:List (Str×Str×Int)->Str->Option Int
 |[],_=>none
 |p::t,x=>if p.1=x then some p.2.2 else lkI t x
def isS (s:Str) (v:Vl):Bool:=decide (v.s=s)
def lC:Vl->Int
 | .num n _=>n
 |_=>0
def jE:Vl->List Vl
 | .row l _=>l6 l
 |_=>[]
def ie (sh:Str) (a b:Vl) (p:Int) (s:Ms):Ms×Bool:=
 if isS sh a then(iJ b p 1 (isS sh b) (iJ a p 0 true s),isS sh b)else(iJ a p 0 false s,false)
def AL (b:Bool) (p:Int):Vl:= .tag (if b then "yes" else "no") (.rcd .nil p) p
def lD (ho:Option Hm) (p:Int) (sc:Ev):Ro->List Vl->Ms->Option Ms
 | .num n,[],s=>some (mw p (.num n p) s)
 | .name _,[],s=>match ho with
  |some h=>if h.1="def" then(atZ s.de h.2).map fun v=>mw p v s else(tQ sc h.2).map fun v=>mw p v s
  |none=>none
 | .fn _ k,[],s=>some (mw p (.fn k sc p) s)
 | .tag w _,[v],s=>some (mw p (.tag w v p) s)
 | .lt _ a b,[v],s=>some (oA b (.cons a v sc) p s)
 | .get _ w,[v],s=>match v with
  | .rcd l _=>match lkV (fdL l) w with
   |some x=>some (mw p x (iJ v p 0 true s))
   |none=>some (iJ v p 0 false s)
  |_=>some (iJ v p 0 false s)
 | .rcd l,vs,s=>some (mw p (.rcd (fdO (bp (l.map Prod.fst) vs)) p) s)
 | .case _ l,[v],s=>match v with
  | .tag t x _=>match lkI l t with
   |some b=>some (oA b (.cons b x sc) p (iJ v p 0 true s))
   |none=>some (iJ v p 0 false s)
  |_=>some (iJ v p 0 false s)
 | .row _,vs,s=>some (mw p (.row (lP vs) p) s)
 | .op o _,vs,s=>
  if o="call" then match vs with
   |[f,a]=>match f with
    | .fn b e _=>some (oA b (.cons b a e) p (iJ f p 0 true s))
    |_=>some (iJ f p 0 false s)
   |_=>none
  else if o="size" then match vs with
   |[v]=>if isS "row" v then some (mw p (.num (jE v).length p) (iJ v p 0 true s))else some (iJ v p 0 false s)
   |_=>none
  else if o="at" then match vs with
   |[v,n,x]=>if isS "row" v then if isS "num" n then some (mw p (if 0<=lC n/\lC n<(jE v).length then(jE v).getD (lC n).toNat x else x) (iJ n p 1 true (iJ v p 0 true s)))else some (iJ n p 1 false (iJ v p 0 true s))else some (iJ v p 0 false s)
   |_=>none
  else match vs with
   |[a,b]=>if o="join" then if(ie "row" a b p s).2 then if 500<(jE a).length\/500<(jE b).length then none else if 60<(jE a++jE b).length then some {(ie "row" a b p s).1 with en:=some "full"}else some (mw p (.row (lP (jE a++jE b)) p) (ie "row" a b p s).1)else some (ie "row" a b p s).1
    else if(ie "num" a b p s).2 then some (mw p (if o="add" then .num (lC a+lC b) p else if o="sub" then .num (lC a-lC b) p else AL (decide (lC a<lC b)) p) (ie "num" a b p s).1)else some (ie "num" a b p s).1
   |_=>none
 |_,_,_=>none
def tkR:Nat->List Vl->List Vl->Option (List Vl×List Vl)
 |0,r,l=>some (l,r)
 |n+ 1,v::r,l=>tkR n r (v::l)
 |_+ 1,[],_=>none
def my (ρs:List Ro) (ho:Nat->Option Hm) (s:Ms):Option Ms:=match s.st with
 |[]=>none
 | .beg p sc::r=>match atZ ρs p with
  |some ρ=>some {s with bg:=s.bg+ 1,st:=(mD ρ).map (fun k=> .beg k sc)++ .par p sc::r}
  |none=>none
 | .par p sc::r=>match atZ ρs p with
  |some ρ=>match tkR (mD ρ).length s.rd []with
   |some (l,rd)=>lD (ho p.toNat) p sc ρ l {s with st:=r,rd:=rd}
   |none=>none
  |none=>none
 | .hand p::r=>match s.rd with
  |v::rd=>some (mw p v {s with st:=r,rd:=rd})
  |[]=>none
def uX:List Stp->Bool
 | .beg _ _::_=>true
 |_=>false
def rS (ρs:List Ro) (ho:Nat->Option Hm) (tu:Nat) (s:Ms):Option Ms:=if uX s.st=true/\tu<=s.bg then some {s with en:=some "turns",st:=s.st.tail}else my ρs ho s
def fMc (p h:Addr) (tu bg:Int) (en:V) (me ha de st rd:Addr):List (Str×V):=[("program",.ref p),("homes",.ref h),("turns",.int tu),("begun",.int bg),("end",en),("meets",.ref me),("had",.ref ha),("defined",.ref de),("steps",.ref st),("ready",.ref rd)]
def enV:Option Str->V
 |none=> .non
 |some s=> .str s
structure Mad where
 m:Addr
 dx:Addr
 p:Addr
 h:Addr
 me:Addr
 ha:Addr
 de:Addr
 st:Addr
 rd:Addr
def Mad.ls (A:Mad):List Addr:=[A.me,A.ha,A.de,A.st,A.rd]
structure Mc (C:Addr) (H:Hp) (A:Mad) (tu:Nat) (s:Ms):Prop where
 o:H A.m=some (.ins C A.dx (fMc A.p A.h tu s.bg (enV s.en) A.me A.ha A.de A.st A.rd))
 me:∃xs,H A.me=some (.lst xs)/\Ims H xs (s.me.reverse.map meD)
 ha:∃xs,H A.ha=some (.lst xs)/\Ims H xs (s.ha.reverse.map haD)
 de:∃xs,H A.de=some (.lst xs)/\Ims H xs (s.de.map Vl.d)
 st:∃xs,H A.st=some (.lst xs)/\Ims H xs (s.st.reverse.map Stp.d)
 rd:∃xs,H A.rd=some (.lst xs)/\Ims H xs (s.rd.reverse.map Vl.d)
 nd:A.ls.Nodup
def FM (A:Mad) (H H':Hp):Prop:=∀a o,H a=some o->a≠A.m->a∉A.ls->H' a=some o
theorem FM.refl {A:Mad} {H:Hp}:FM A H H:=fun _ _ e _ _=>e
theorem FM.trans {A:Mad} {H H1 H2:Hp} (f:FM A H H1) (g:FM A H1 H2):FM A H H2:=fun a o e n m=>g a o (f a o e n m) n m
theorem FM.same {A:Mad} {H H':Hp} (S:fK H H'):FM A H H':=fun a o e _ _=>S a o e
section
variable {C:Addr} {H H':Hp} {A:Mad} {tu:Nat} {s:Ms}
theorem Mc.out (M:Mc C H A tu s) {a:Addr} {xs:List V} (e:H a=some (.tup xs)):a≠A.m/\a∉A.ls:=by
 obtain⟨o,⟨_,e1,_⟩,⟨_,e2,_⟩,⟨_,e3,_⟩,⟨_,e4,_⟩,⟨_,e5,_⟩,_⟩:=M
 refine⟨fun z=>?_,fun z=>?_⟩
 ·rw[z,o]at e;cases e
 ·simp only[Mad.ls,aj,bt,or_false]at z
  rcases z with rfl|rfl|rfl|rfl|rfl
  ·rw[e1]at e;cases e
  ·rw[e2]at e;cases e
  ·rw[e3]at e;cases e
  ·rw[e4]at e;cases e
  ·rw[e5]at e;cases e
theorem Mc.tk (M:Mc C H A tu s) (F:FM A H H'):TK H H':=fun a xs e=>F a _ e (M.out e).1 (M.out e).2
theorem Mc.same (M:Mc C H A tu s) (S:fK H H'):Mc C H' A tu s:=by
 obtain⟨o,⟨x1,e1,i1⟩,⟨x2,e2,i2⟩,⟨x3,e3,i3⟩,⟨x4,e4,i4⟩,⟨x5,e5,i5⟩,nd⟩:=M
 have k:=fK.tk S
 exact⟨S _ _ o,⟨x1,S _ _ e1,i1.mono k⟩,⟨x2,S _ _ e2,i2.mono k⟩,⟨x3,S _ _ e3,i3.mono k⟩,⟨x4,S _ _ e4,i4.mono k⟩,⟨x5,S _ _ e5,i5.mono k⟩,nd⟩
theorem Mc.upd (M:Mc C H A tu s) {a:Addr} {xs ys:List V} (ha:a∈A.ls) (e:H a=some (.lst xs)) {s':Ms} (hb:s'.bg=s.bg) (he:s'.en=s.en)
  (h1:if a=A.me then Ims H ys (s'.me.reverse.map meD)else s'.me=s.me) (h2:if a=A.ha then Ims H ys (s'.ha.reverse.map haD)else s'.ha=s.ha) (h3:if a=A.de then Ims H ys (s'.de.map Vl.d)else s'.de=s.de)
  (h4:if a=A.st then Ims H ys (s'.st.reverse.map Stp.d)else s'.st=s.st) (h5:if a=A.rd then Ims H ys (s'.rd.reverse.map Vl.d)else s'.rd=s.rd):Mc C (upd H a (.lst ys)) A tu s'/\FM A H (upd H a (.lst ys)):=by
 have k:TK H (L2.Internal.upd H a (.lst ys)):=(vE e).tk
 have part:∀{b:Addr} {α:Type} {f:α->Dt} {l l':List α},(∃zs,H b=some (.lst zs)/\Ims H zs (l.map f))->(if a=b then Ims H ys (l'.map f)else l'=l)->∃zs,(L2.Internal.upd H a (.lst ys)) b=some (.lst zs)/\Ims (L2.Internal.upd H a (.lst ys)) zs (l'.map f):=fun{b α f l l'} ⟨zs,e0,i0⟩ h=>by
  by_cases z:a=b
  ·rw[if_pos z]at h
   subst z
   exact⟨ys,eV,h.mono k⟩
  ·rw[if_neg z]at h
   rw[h]
   exact⟨zs,by rw[fe (Ne.symm z)];exact e0,i0.mono k⟩
 obtain⟨o,p1,p2,p3,p4,p5,nd⟩:=M
 have rev:∀{b:Addr} {α:Type} {f:α->Dt} {l l':List α},(if a=b then Ims H ys (l'.reverse.map f)else l'=l)->if a=b then Ims H ys (l'.reverse.map f)else l'.reverse=l.reverse:=fun{b α f l l'} h=>by
  by_cases z:a=b
  ·rw[if_pos z]at h⊢;exact h
  ·rw[if_neg z]at h⊢;rw[h]
 refine⟨⟨?_,part p1 (rev h1),part p2 (rev h2),part p3 h3,part p4 (rev h4),part p5 (rev h5),nd⟩,fun b o' e' n m=>by rw[fe (fun z=>m (by rw[z];exact ha))];exact e'⟩
 rw[fe (fun z=>by rw[<-z,o]at e;cases e),hb,he]
 exact o
end
def Bd (n:Nat) (s:Ms):Prop:=s.me.length<=n/\s.ha.length<=n/\s.de.length<=n/\s.st.length<=n/\s.rd.length<=n
theorem Bd.mono {n m:Nat} {s:Ms} (h:Bd n s) (k:n<=m):Bd m s:=⟨bX h.1 k,bX h.2.1 k,bX h.2.2.1 k,bX h.2.2.2.1 k,bX h.2.2.2.2 k⟩
section
variable {C:Addr} {H H':Hp} {A:Mad} {tu:Nat} {s:Ms}
theorem Mc.nds (M:Mc C H A tu s):(A.me≠A.ha/\A.me≠A.de/\A.me≠A.st/\A.me≠A.rd)/\(A.ha≠A.de/\A.ha≠A.st/\A.ha≠A.rd)/\(A.de≠A.st/\A.de≠A.rd)/\A.st≠A.rd:=by
 have n:=M.nd
 simp only[Mad.ls,aE,aj,bt,or_false,not_or]at n
 exact⟨n.1,n.2.1,n.2.2.1,n.2.2.2.1⟩
theorem Mc.meP (M:Mc C H A tu s) {x:V} {t:Int×Int×Int} (ix:Im H x (meD t)):∃xs,H A.me=some (.lst xs)/\xs.length=s.me.length/\Mc C (L2.Internal.upd H A.me (.lst (xs++[x]))) A tu {s with me:=t::s.me}/\FM A H (L2.Internal.upd H A.me (.lst (xs++[x]))):=by
 obtain⟨⟨a,b,c,d⟩,_⟩:=M.nds
 obtain⟨xs,e,i⟩:=M.me
 refine⟨xs,e,by rw[i.length,aC,bA],M.upd (by simp[Mad.ls]) e rfl rfl (by rw[if_pos rfl,aX,a9];exact i.app (.cons ix .nil)) (by rw[if_neg a]) (by rw[if_neg b]) (by rw[if_neg c]) (by rw[if_neg d])⟩
theorem Mc.haP (M:Mc C H A tu s) {x:V} {t:Int×Int} (ix:Im H x (haD t)):∃xs,H A.ha=some (.lst xs)/\xs.length=s.ha.length/\Mc C (L2.Internal.upd H A.ha (.lst (xs++[x]))) A tu {s with ha:=t::s.ha}/\FM A H (L2.Internal.upd H A.ha (.lst (xs++[x]))):=by
 obtain⟨⟨a,_⟩,⟨b,c,d⟩,_⟩:=M.nds
 obtain⟨xs,e,i⟩:=M.ha
 refine⟨xs,e,by rw[i.length,aC,bA],M.upd (by simp[Mad.ls]) e rfl rfl (by rw[if_neg a.symm]) (by rw[if_pos rfl,aX,a9];exact i.app (.cons ix .nil)) (by rw[if_neg b]) (by rw[if_neg c]) (by rw[if_neg d])⟩
theorem Mc.deP (M:Mc C H A tu s) {x:V} {v:Vl} (ix:Im H x v.d):∃xs,H A.de=some (.lst xs)/\xs.length=s.de.length/\Mc C (L2.Internal.upd H A.de (.lst (xs++[x]))) A tu {s with de:=s.de++[v]}/\FM A H (L2.Internal.upd H A.de (.lst (xs++[x]))):=by
 obtain⟨⟨_,a,_⟩,⟨b,_⟩,⟨c,d⟩,_⟩:=M.nds
 obtain⟨xs,e,i⟩:=M.de
 refine⟨xs,e,by rw[i.length,aC],M.upd (by simp[Mad.ls]) e rfl rfl (by rw[if_neg a.symm]) (by rw[if_neg b.symm]) (by rw[if_pos rfl,a9];exact i.app (.cons ix .nil)) (by rw[if_neg c]) (by rw[if_neg d])⟩
theorem Mc.stP (M:Mc C H A tu s) {x:V} {t:Stp} (ix:Im H x t.d):∃xs,H A.st=some (.lst xs)/\xs.length=s.st.length/\Mc C (L2.Internal.upd H A.st (.lst (xs++[x]))) A tu {s with st:=t::s.st}/\FM A H (L2.Internal.upd H A.st (.lst (xs++[x]))):=by
 obtain⟨⟨_,_,a,_⟩,⟨_,b,_⟩,⟨c,_⟩,d⟩:=M.nds
 obtain⟨xs,e,i⟩:=M.st
 refine⟨xs,e,by rw[i.length,aC,bA],M.upd (by simp[Mad.ls]) e rfl rfl (by rw[if_neg a.symm]) (by rw[if_neg b.symm]) (by rw[if_neg c.symm]) (by rw[if_pos rfl,aX,a9];exact i.app (.cons ix .nil)) (by rw[if_neg d])⟩
theorem Mc.rdP (M:Mc C H A tu s) {x:V} {v:Vl} (ix:Im H x v.d):∃xs,H A.rd=some (.lst xs)/\xs.length=s.rd.length/\Mc C (L2.Internal.upd H A.rd (.lst (xs++[x]))) A tu {s with rd:=v::s.rd}/\FM A H (L2.Internal.upd H A.rd (.lst (xs++[x]))):=by
 obtain⟨⟨_,_,_,a⟩,⟨_,_,b⟩,⟨_,c⟩,d⟩:=M.nds
 obtain⟨xs,e,i⟩:=M.rd
 refine⟨xs,e,by rw[i.length,aC,bA],M.upd (by simp[Mad.ls]) e rfl rfl (by rw[if_neg a.symm]) (by rw[if_neg b.symm]) (by rw[if_neg c.symm]) (by rw[if_neg d.symm]) (by rw[if_pos rfl,aX,a9];exact i.app (.cons ix .nil))⟩
theorem rT {H:Hp} {α:Type} {f:α->Dt} {xs:List V} {l:List α} {a:α} (h:Ims H xs ((l++[a]).map f)):∃ys y,xs=ys++[y]/\Ims H ys (l.map f)/\Im H y (f a):=by
 have go:∀{ds:List Dt} {xs:List V} {d:Dt},Ims H xs (ds++[d])->∃ys v,xs=ys++[v]/\Ims H ys ds/\Im H v d:=fun{ds}=>by
  induction ds with
  |nil=>
   intro xs d h
   cases h with
   |cons h1 hs=>
    cases hs
    exact⟨[],_,rfl,.nil,h1⟩
  |cons d0 ds ih=>
   intro xs d h
   cases h with
   |cons h1 hs=>
    obtain⟨ys,v,rfl,h2,h3⟩:=ih hs
    exact⟨_::ys,v,rfl,.cons h1 h2,h3⟩
 rw[a9]at h
 exact go h
theorem Mc.stO (M:Mc C H A tu s) {t:Stp} {r:List Stp} (hs:s.st=t::r):∃xs x,H A.st=some (.lst (xs++[x]))/\Im H x t.d/\Mc C (L2.Internal.upd H A.st (.lst xs)) A tu {s with st:=r}/\FM A H (L2.Internal.upd H A.st (.lst xs)):=by
 obtain⟨⟨_,_,a,_⟩,⟨_,b,_⟩,⟨c,_⟩,d⟩:=M.nds
 obtain⟨xs,e,i⟩:=M.st
 rw[hs,aX]at i
 obtain⟨ys,y,rfl,h1,h2⟩:=rT i
 refine⟨ys,y,e,h2,M.upd (by simp[Mad.ls]) e rfl rfl (by rw[if_neg a.symm]) (by rw[if_neg b.symm]) (by rw[if_neg c.symm]) (by rw[if_pos rfl];exact h1) (by rw[if_neg d])⟩
theorem Mc.rdO (M:Mc C H A tu s) {v:Vl} {r:List Vl} (hs:s.rd=v::r):∃xs x,H A.rd=some (.lst (xs++[x]))/\Im H x v.d/\Mc C (L2.Internal.upd H A.rd (.lst xs)) A tu {s with rd:=r}/\FM A H (L2.Internal.upd H A.rd (.lst xs)):=by
 obtain⟨⟨_,_,_,a⟩,⟨_,_,b⟩,⟨_,c⟩,d⟩:=M.nds
 obtain⟨xs,e,i⟩:=M.rd
 rw[hs,aX]at i
 obtain⟨ys,y,rfl,h1,h2⟩:=rT i
 refine⟨ys,y,e,h2,M.upd (by simp[Mad.ls]) e rfl rfl (by rw[if_neg a.symm]) (by rw[if_neg b.symm]) (by rw[if_neg c.symm]) (by rw[if_neg d.symm]) (by rw[if_pos rfl];exact h1)⟩
theorem Mc.setO (M:Mc C H A tu s) (bg:Nat) (en:Option Str):Mc C (L2.Internal.upd H A.m (.ins C A.dx (fMc A.p A.h tu bg (enV en) A.me A.ha A.de A.st A.rd))) A tu {s with bg:=bg,en:=en}/\FM A H (L2.Internal.upd H A.m (.ins C A.dx (fMc A.p A.h tu bg (enV en) A.me A.ha A.de A.st A.rd))):=by
 have F:FM A H (L2.Internal.upd H A.m (.ins C A.dx (fMc A.p A.h tu bg (enV en) A.me A.ha A.de A.st A.rd))):=fun a o e n _=>by rw[fe n];exact e
 have k:=M.tk F
 obtain⟨o,⟨x1,e1,i1⟩,⟨x2,e2,i2⟩,⟨x3,e3,i3⟩,⟨x4,e4,i4⟩,⟨x5,e5,i5⟩,nd⟩:=M
 have ne:∀{b:Addr} {zs:List V},H b=some (.lst zs)->b≠A.m:=fun e z=>by rw[z,o]at e;cases e
 exact⟨⟨eV,⟨x1,by rw[fe (ne e1)];exact e1,i1.mono k⟩,⟨x2,by rw[fe (ne e2)];exact e2,i2.mono k⟩,⟨x3,by rw[fe (ne e3)];exact e3,i3.mono k⟩,⟨x4,by rw[fe (ne e4)];exact e4,i4.mono k⟩,⟨x5,by rw[fe (ne e5)];exact e5,i5.mono k⟩,nd⟩,F⟩
end
section
variable {p h me ha de st rd:Addr} {tu bg:Int} {en:V}
theorem yG:(fMc p h tu bg en me ha de st rd).lookup ("had":Str)=some (.ref ha):=by kernel_rfl
theorem tR:(fMc p h tu bg en me ha de st rd).lookup ("meets":Str)=some (.ref me):=by kernel_rfl
theorem mW:(fMc p h tu bg en me ha de st rd).lookup ("defined":Str)=some (.ref de):=by kernel_rfl
theorem kM:(fMc p h tu bg en me ha de st rd).lookup ("steps":Str)=some (.ref st):=by kernel_rfl
theorem nB:(fMc p h tu bg en me ha de st rd).lookup ("ready":Str)=some (.ref rd):=by kernel_rfl
theorem pZ:(fMc p h tu bg en me ha de st rd).lookup ("end":Str)=some en:=by kernel_rfl
theorem qa:(fMc p h tu bg en me ha de st rd).lookup ("begun":Str)=some (.int bg):=by kernel_rfl
theorem yH:(fMc p h tu bg en me ha de st rd).lookup ("turns":Str)=some (.int tu):=by kernel_rfl
end
theorem mX {H:Hp} {t:Addr} {xs:List V} {ds:List Dt} (h:H t=none) (i:Ims H xs ds):Im (L2.Internal.upd H t (.tup xs)) (.ref t) (.tup ds):= .tup eV (i.mono (fK.tk (eX h _)))
def yI (C:Addr):Sp:=fun vs H Q _=>∃(A:Mad) (tu:Nat) (s:Ms) (b pl:Int) (x:V) (sc:Ev),vs=[.ref A.m,.int b,x,.int pl]/\Mc C H A tu s/\Im H x sc.d/\s.st.length<10000000/\∀H',Mc C H' A tu (oA b sc pl s)->FM A H H'->Q .non H'
theorem jF (T:Txt K mg):gu P w K mg base CX0 1 T.a_Machine_go_into T.fd_Machine_go_into ["self","body","scope","place"] (yI T.a_Machine):=by
 refine T.F_Machine_go_into.ok nu (fun vs H Q E h=>?_) (fun cdv A0 outer s0 H vs Q E hr h=>?_)
 ·obtain⟨A,tu,s,b,pl,x,sc,rfl,_⟩:=h
  rfl
 obtain⟨A,tu,s,b,pl,x,sc,rfl,M,ix,ls,q⟩:=h
 refine⟨_,(eR (fE (ka (ko dG dH dI gq (PE.mono (fN T.cl_Machine T.n_Machine_steps (cv 0))) (eQ (PE.mono (gG (eQ fc (eQ (cv 3) (eQ qo eS))))) eS))))
  (eW (fE (ka (ko dG dH dI gq (PE.mono (fN T.cl_Machine T.n_Machine_steps (cv 0))) (eQ (PE.mono (gG (eQ fc (eQ (cv 1) (eQ (cv 2) eS))))) eS)))))),?_⟩
 have sl:sizeLine=16777216:=sizeLine_eq
 obtain⟨xs,e,_⟩:=M.st
 refine⟨_,⟨_,_,M.o,kM⟩,⟨_,e⟩,(by show 3<=sizeLine;decide),fun t ht=>?_⟩
 have S1:=eX ht (.tup [.str "hand",.int pl,.non])
 have M1:=M.same S1
 have i1:Im (L2.Internal.upd H t (.tup [.str "hand",.int pl,.non])) (.ref t) (Stp.hand pl).d:=mX ht (.cons (.flat rfl) (.cons (.flat rfl) (.cons (.flat rfl) .nil)))
 have ix1:=ix.mono (fK.tk S1)
 generalize L2.Internal.upd H t (.tup [.str "hand",.int pl,.non])=H1 at S1 M1 i1 ix1⊢
 obtain⟨xs1,e1,l1,M2,F2⟩:=M1.stP i1
 refine⟨xs1,e1,by lia,?_⟩
 have ix2:=ix1.mono (M1.tk F2)
 have F02:=(FM.same (A:=A) S1).trans F2
 dsimp only
 generalize L2.Internal.upd H1 A.st (.lst (xs1++[.ref t]))=H2 at M2 F2 F02 ix2⊢
 obtain⟨xs,e,_⟩:=M2.st
 refine⟨_,⟨_,_,M2.o,kM⟩,⟨_,e⟩,(by show 3<=sizeLine;decide),fun t2 ht2=>?_⟩
 have S3:=eX ht2 (.tup [.str "begin",.int b,x])
 have M3:=M2.same S3
 have i3:Im (L2.Internal.upd H2 t2 (.tup [.str "begin",.int b,x])) (.ref t2) (Stp.beg b sc).d:=mX ht2 (.cons (.flat rfl) (.cons (.flat rfl) (.cons ix2 .nil)))
 obtain⟨xs3,e3,l3,M4,F4⟩:=M3.stP i3
 refine⟨xs3,e3,?_,q _ M4 ((F02.trans (FM.same S3)).trans F4)⟩
 rw[l3]
 show(Stp.hand pl::s.st).length<_
 rw[az]
 lia
def vV (C:Addr):Sp:=fun vs H Q _=>∃(A:Mad) (tu:Nat) (s:Ms) (pl:Int) (x:V) (v:Vl),vs=[.ref A.m,.int pl,x]/\Mc C H A tu s/\Im H x v.d/\s.ha.length<10000000/\s.rd.length<10000000/\∀H',Mc C H' A tu (mw pl v s)->FM A H H'->Q .non H'
theorem nE {H:Hp} {x:V} {v:Vl} (h:Im H x v.d):∃t y,x= .ref t/\H t=some (.tup [.str v.s,y,.int v.p])/\Im H y v.b:=by
 rw[ER]at h
 cases h with
 |tup e i=>
  cases i with
  |cons h1 i=>
   cases i with
   |cons h2 i=>
    cases i with
    |cons h3 i=>
     cases i
     cases h1 with
     |flat f1=>cases h3 with
      |flat f3=>exact⟨_,_,rfl,e,h2⟩
theorem fX (T:Txt K mg):gu P w K mg base CX0 1 T.a_Machine_finish T.fd_Machine_finish ["self","place","value"] (vV T.a_Machine):=by
 refine T.F_Machine_finish.ok nT (fun vs H Q E h=>?_) (fun cdv A0 outer s0 H vs Q E hr h=>?_)
 ·obtain⟨A,tu,s,pl,x,v,rfl,_⟩:=h
  rfl
 obtain⟨A,tu,s,pl,x,v,rfl,M,ix,lh,lr,q⟩:=h
 refine⟨_,(eR (fE (ka (ko dG dH dI gq (PE.mono (fN T.cl_Machine T.n_Machine_had (cv 0))) (eQ (PE.mono (gG (eQ (cv 1) (eQ (ft fq (cv 2) eU (fun _ _=>rfl)) eS)))) eS))))
  (eW (fE (ka (ko dG dH dI gq (PE.mono (fN T.cl_Machine T.n_Machine_ready (cv 0))) (eQ (PE.mono (cv 2)) eS)))))),?_⟩
 have sl:sizeLine=16777216:=sizeLine_eq
 obtain⟨xs,e,_⟩:=M.ha
 obtain⟨t0,y,rfl,e0,iy⟩:=nE ix
 refine⟨_,⟨_,_,M.o,yG⟩,⟨_,e⟩,_,e0,fg (eY (j:=2) rfl) ⟨(by show 2<=sizeLine;decide),fun t ht=>?_⟩⟩
 have S1:=eX ht (.tup [.int pl,.int v.p])
 have M1:=M.same S1
 have i1:Im (L2.Internal.upd H t (.tup [.int pl,.int v.p])) (.ref t) (haD (pl,v.p)):=mX ht (.cons (.flat rfl) (.cons (.flat rfl) .nil))
 have ix1:=ix.mono (fK.tk S1)
 generalize L2.Internal.upd H t (.tup [.int pl,.int v.p])=H1 at S1 M1 i1 ix1⊢
 obtain⟨xs1,e1,l1,M2,F2⟩:=M1.haP i1
 refine⟨xs1,e1,by lia,?_⟩
 have ix2:=ix1.mono (M1.tk F2)
 have F02:=(FM.same (A:=A) S1).trans F2
 dsimp only
 generalize L2.Internal.upd H1 A.ha (.lst (xs1++[.ref t]))=H2 at M2 F2 F02 ix2⊢
 obtain⟨xs3,e3,l3,M4,F4⟩:=M2.rdP ix2
 exact⟨_,⟨_,_,M2.o,nB⟩,⟨_,e3⟩,xs3,e3,by rw[l3];show s.rd.length<_;lia,q _ M4 (F02.trans F4)⟩
theorem ic {p h me ha de st rd:Addr} {tu bg:Int} {en:V} {n:Str} (hn:((["program","homes","turns","begun","end","meets","had","defined","steps","ready"]:List Str).all fun x=>!(n==x))=true):(fMc p h tu bg en me ha de st rd).lookup n=none:=by
 simp only[aW,List.all_nil,Bool.and_true,dP,Bool.not_eq_true']at hn
 obtain⟨h1,h2,h3,h4,h5,h6,h7,h8,h9,h10⟩:=hn
 simp only[fMc,ba,h1,h2,h3,h4,h5,h6,h7,h8,h9,h10,List.lookup_nil]
theorem oQ {p h me ha de st rd:Addr} {tu bg:Int} {en v:V}:jh "end" v (fMc p h tu bg en me ha de st rd)=fMc p h tu bg v me ha de st rd:=by kernel_rfl
def Dr (C:Addr):Sp:=fun vs H Q _=>∃(A:Mad) (tu:Nat) (s:Ms) (x:V) (v:Vl) (pl k:Int) (f:Bool),vs=[.ref A.m,x,.int pl,.int k,.bl f]/\Mc C H A tu s/\Im H x v.d/\s.me.length<10000000/\∀H',Mc C H' A tu (iJ v pl k f s)->FM A H H'->Q (.bl f) H'
theorem lJ (T:Txt K mg):gu P w K mg base CX0 1 T.a_Machine_comes T.fd_Machine_comes ["self","value","place","slot","fits"] (Dr T.a_Machine):=by
 refine T.F_Machine_comes.ok oz (fun vs H Q E h=>?_) (fun cdv A0 outer s0 H vs Q E hr h=>?_)
 ·obtain⟨A,tu,s,x,v,pl,k,f,rfl,_⟩:=h
  rfl
 obtain⟨A,tu,s,x,v,pl,k,f,rfl,M,ix,lm,q⟩:=h
 refine⟨_,(eR (fE (ka (ko dG dH dI gq (PE.mono (fN T.cl_Machine T.n_Machine_meets (cv 0))) (eQ (PE.mono (gG (eQ (ft fq (cv 1) eU (fun _ _=>rfl)) (eQ (cv 2) (eQ (cv 3) eS))))) eS))))
  (eR (gr (kn (jd (cv 4)))
   (eW (iD T.cl_Machine T.n_Machine_end (iK (PE.mono (cv 0)) (PE.mono fc) rfl)))
   fw)
  (eW (fG (cv 4))))),?_⟩
 have sl:sizeLine=16777216:=sizeLine_eq
 obtain⟨xs,e,_⟩:=M.me
 obtain⟨t0,y,rfl,e0,iy⟩:=nE ix
 refine⟨_,⟨_,_,M.o,tR⟩,⟨_,e⟩,_,e0,fg (eY (j:=2) rfl) ⟨(by show 3<=sizeLine;decide),fun t ht=>?_⟩⟩
 have S1:=eX ht (.tup [.int v.p,.int pl,.int k])
 have M1:=M.same S1
 have i1:Im (L2.Internal.upd H t (.tup [.int v.p,.int pl,.int k])) (.ref t) (meD (v.p,pl,k)):=mX ht (.cons (.flat rfl) (.cons (.flat rfl) (.cons (.flat rfl) .nil)))
 generalize L2.Internal.upd H t (.tup [.int v.p,.int pl,.int k])=H1 at S1 M1 i1⊢
 obtain⟨xs1,e1,l1,M2,F2⟩:=M1.meP i1
 refine⟨xs1,e1,by lia,?_⟩
 have F02:=(FM.same (A:=A) S1).trans F2
 dsimp only
 generalize L2.Internal.upd H1 A.me (.lst (xs1++[.ref t]))=H2 at M2 F2 F02⊢
 cases f with
 |true=>
  refine⟨_,rfl,gR ?_⟩
  exact q _ M2 F02
 |false=>
  obtain⟨M3,F3⟩:=M2.setO s.bg (some "wrong")
  refine⟨_,rfl,iM ⟨_,_,M2.o,by show 10<1000;decide,?_⟩⟩
  rw[oQ]
  exact q _ M3 (F02.trans F3)
def Ds (C:Addr):Sp:=fun vs H Q _=>∃(A:Mad) (tu:Nat) (s:Ms) (sh:Str) (x:V) (v:Vl) (pl k:Int),vs=[.ref A.m,.str sh,x,.int pl,.int k]/\Mc C H A tu s/\Im H x v.d/\s.me.length<10000000/\∀H',Mc C H' A tu (iJ v pl k (isS sh v) s)->FM A H H'->Q (.bl (isS sh v)) H'
theorem kN (T:Txt K mg):gu P w K mg base CX0 2 T.a_Machine_comes_as T.fd_Machine_comes_as ["self","shape","value","place","slot"] (Ds T.a_Machine):=by
 have G_Machine_comes:=lJ (P:=P) (w:=w) (base:=base) T
 refine T.F_Machine_comes_as.ok mO (fun vs H Q E h=>?_) (fun cdv A0 outer s0 H vs Q E hr h=>?_)
 ·obtain⟨A,tu,s,sh,x,v,pl,k,rfl,_⟩:=h
  rfl
 obtain⟨A,tu,s,sh,x,v,pl,k,rfl,M,ix,lm,q⟩:=h
 refine⟨_,(eW (fG (f6 (fQ (PE.mono (cv 0)) T.cl_Machine T.me_Machine_comes G_Machine_comes (hr.mono (by decide)) T.b_Machine_comes .nil fO (eQ (cv 2) (eQ (cv 3) (eQ (cv 4) (eQ (jf ki (ft fq (cv 2) eU (fun _ _=>rfl)) (cv 1) (fD _)) eS)))))))),?_⟩
 obtain⟨t0,y,rfl,e0,iy⟩:=nE ix
 refine⟨⟨_,_,M.o,ic (by decide+kernel)⟩,_,e0,fg (eY (j:=0) rfl) ⟨A,tu,s,_,v,pl,k,isS sh v,?_,M,ix,lm,fun H' M' F'=>q H' M' F'⟩⟩
 rw[dR]
 rfl
def BU (C:Addr):Sp:=fun vs H Q _=>∃(A:Mad) (tu:Nat) (s:Ms) (sh:Str) (ps:Addr) (x y:V) (a b:Vl) (pl:Int),vs=[.ref A.m,.str sh,.ref ps,.int pl]/\Mc C H A tu s/\H ps=some (.lst [x,y])/\ps≠A.m/\ps∉A.ls/\Im H x a.d/\Im H y b.d/\s.me.length<9500000/\∀H',Mc C H' A tu (ie sh a b pl s).1->FM A H H'->Q (.bl (ie sh a b pl s).2) H'
theorem gX (T:Txt K mg):gu P w K mg base CX0 3 T.a_Machine_both_come_as T.fd_Machine_both_come_as ["self","shape","parts","place"] (BU T.a_Machine):=by
 have G_Machine_comes_as:=kN (P:=P) (w:=w) (base:=base) T
 refine T.F_Machine_both_come_as.ok lu (fun vs H Q E h=>?_) (fun cdv A0 outer s0 H vs Q E hr h=>?_)
 ·obtain⟨A,tu,s,sh,ps,x,y,a,b,pl,rfl,_⟩:=h
  rfl
 obtain⟨A,tu,s,sh,ps,x,y,a,b,pl,rfl,M,ep,n1,n2,ix,iy,lm,q⟩:=h
 refine⟨_,(eW (fG (m8 (f6 (fQ (PE.mono (cv 0)) T.cl_Machine T.me_Machine_comes_as G_Machine_comes_as (hr.mono (by decide)) T.b_Machine_comes_as .nil fO (eQ (cv 1) (eQ (ft f7 (cv 2) eU (fun _ _=>rfl)) (eQ (cv 3) (eQ eU eS)))))) (m7 (f6 (fQ (PE.mono (cv 0)) T.cl_Machine T.me_Machine_comes_as G_Machine_comes_as (hr.mono (by decide)) T.b_Machine_comes_as .nil fO (eQ (cv 1) (eQ (ft f7 (cv 2) eU (fun _ _=>rfl)) (eQ (cv 3) (eQ eU eS)))))))))),?_⟩
 refine⟨⟨_,_,M.o,ic (by decide+kernel)⟩,_,ep,fg (eY (j:=0) rfl) ⟨A,tu,s,sh,x,a,pl,0,rfl,M,ix,by lia,fun H1 M1 F1=>?_⟩⟩
 have ep1:=F1 _ _ ep n1 n2
 have iy1:=iy.mono (M.tk F1)
 unfold ie at q
 cases hs:isS sh a with
 |false=>
  rw[hs]at M1 q
  exact⟨_,rfl,gR (q _ M1 F1)⟩
 |true=>
  rw[hs]at M1 q
  refine⟨_,rfl,iM ⟨⟨_,_,M1.o,ic (by decide+kernel)⟩,_,ep1,fg (eY (j:=1) rfl) ⟨A,tu,_,sh,y,b,pl,1,rfl,M1,iy1,?_,fun H2 M2 F2=>q _ M2 (F1.trans F2)⟩⟩⟩
  show(_::s.me).length<_
  rw[az]
  lia
theorem BV {K:PySem.W.Frag} {a:Addr} {xs:List V} {g:TG} {tb:TS} {D:oG} {σ:St} {H:Hp} (Pv:Nat->St->Hp->Prop) (h0:Pv 0 σ H) (hl:∀i σ H,i<=xs.length->Pv i σ H->SqL K H a xs)
  (hs:∀(i:Nat) (x:V) (σ:St) (H:Hp),i<xs.length->xs[xs.length-1-i]?=some x->Pv i σ H->g x σ H fun σ2 H2=>tb {D with nx:=Pv (i+ 1),ct:=Pv (i+ 1),bk:=D.nx} σ2 H2) (hd:∀σ H,Pv xs.length σ H->D.nx σ H):
  ∃W:Nat->Nat->St->Hp->Prop,(∃m,W 0 m σ H)/\∀i m σ H,W i m σ H->
   ((Itv K a xs.length).stop i H/\D.nx σ H)\/((Itv K a xs.length).go i H/\∃N:St->Hp->Prop,(∀σ' H',N σ' H'->∃m',m'<m/\W (i+ 1) m' σ' H')/\∀x H',(Itv K a xs.length).yld i H x H'->g x σ H' fun σ2 H2=>tb {D with nx:=N,ct:=N,bk:=D.nx} σ2 H2):=by
 refine⟨fun i m σ H=>m=xs.length-i/\i<=xs.length/\Pv i σ H,⟨xs.length,by simp,b7 _,h0⟩,?_⟩
 rintro i m σ H ⟨rfl,hi,p⟩
 have q:=hl i σ H hi p
 by_cases hlt:i<xs.length
 ·refine .inr ⟨⟨hlt,xs,q,rfl⟩,Pv (i+ 1),fun σ' H' p'=>⟨xs.length-(i+ 1),by lia,rfl,hlt,p'⟩,fun v H' y=>?_⟩
  obtain⟨rfl,hx⟩:=y
  exact hs i v σ H' hlt (hx xs q) p
 ·have e:i=xs.length:=by lia
  subst e
  exact .inl ⟨rfl,hd σ H p⟩
theorem oR:∀{n:Nat} {r l l' r':List Vl},tkR n r l=some (l',r')->n<=r.length/\l'=(r.take n).reverse++l/\r'=r.drop n
 |0,r,l,l',r',h=>by cases h;exact⟨b7 _,rfl,rfl⟩
 |n+ 1,v::r,l,l',r',h=>by
  obtain⟨a,b,c⟩:=oR (n:=n) h
  exact⟨by simpa using a,by rw[b];simp,by rw[c];rfl⟩
 |n+ 1,[],l,l',r',h=>by cases h
def Mad.all (A:Mad):List Addr:=A.m::A.ls
theorem FM.get {A:Mad} {H H':Hp} (F:FM A H H') {a:Addr} {o:HO} (e:H a=some o) (n:a∉A.all):H' a=some o:=F a o e (fun z=>n (by rw[z];exact ah)) fun z=>n (ai _ z)
theorem FM.upd {A:Mad} {H H':Hp} {l:Addr} {o:HO} (F:FM A H H') (h:H l=none):FM A H (L2.Internal.upd H' l o):=fun a u e n m=>by rw[fe (fb e h)];exact F a u e n m
theorem Mc.new {C:Addr} {H:Hp} {A:Mad} {tu:Nat} {s:Ms} (M:Mc C H A tu s) {l:Addr} (h:H l=none):l∉A.all:=fun z=>by
 obtain⟨o,⟨_,e1,_⟩,⟨_,e2,_⟩,⟨_,e3,_⟩,⟨_,e4,_⟩,⟨_,e5,_⟩,_⟩:=M
 simp only[Mad.all,Mad.ls,aj,bt,or_false]at z
 rcases z with rfl|rfl|rfl|rfl|rfl|rfl
 ·rw[h]at o;cases o
 ·rw[h]at e1;cases e1
 ·rw[h]at e2;cases e2
 ·rw[h]at e3;cases e3
 ·rw[h]at e4;cases e4
 ·rw[h]at e5;cases e5
theorem Mc.oth {C:Addr} {H:Hp} {A:Mad} {tu:Nat} {s:Ms} (M:Mc C H A tu s) {l:Addr} {xs:List V} {o:HO} (h:l∉A.all) (e:H l=some (.lst xs)):Mc C (L2.Internal.upd H l o) A tu s:=by
 have k:TK H (L2.Internal.upd H l o):=(vE e).tk
 have ne:∀{b:Addr},b∈A.all->(L2.Internal.upd H l o) b=H b:=fun m=>fe fun z=>h (by rw[<-z];exact m)
 obtain⟨o,⟨x1,e1,i1⟩,⟨x2,e2,i2⟩,⟨x3,e3,i3⟩,⟨x4,e4,i4⟩,⟨x5,e5,i5⟩,nd⟩:=M
 exact⟨by rw[ne (by simp[Mad.all])];exact o,⟨x1,by rw[ne (by simp[Mad.all,Mad.ls])];exact e1,i1.mono k⟩,⟨x2,by rw[ne (by simp[Mad.all,Mad.ls])];exact e2,i2.mono k⟩,⟨x3,by rw[ne (by simp[Mad.all,Mad.ls])];exact e3,i3.mono k⟩,⟨x4,by rw[ne (by simp[Mad.all,Mad.ls])];exact e4,i4.mono k⟩,⟨x5,by rw[ne (by simp[Mad.all,Mad.ls])];exact e5,i5.mono k⟩,nd⟩
theorem yJ {H:Hp}:∀{xs:List V} {ds:List Dt},Ims H xs ds->Ims H xs.reverse ds.reverse
 |_,_,.nil=> .nil
 |_,_,.cons a b=>by rw[aX,aX];exact(yJ b).app (.cons a .nil)
abbrev hdT (i:Nat) (x:Str):TT:=cT (tOp (cEq false) (tOp Cb (cV i) (tC (.int 0))) (tC (.str x)))
theorem vW {i:Nat} {x s:Str} {t:Addr} {ys:List V} {σ:St} {H:Hp} {k:Bool->Hp->Prop} {b:Bool} (hσ:σ[i]?=some (some (.ref t))) (et:H t=some (.tup (.str s::ys))) (e:decide (s=x)=b) (h:k b H):hdT i x σ H k:=by
 show onV σ[i]? _
 rw[hσ]
 refine⟨_,et,fg (eY (j:=0) rfl) ?_⟩
 dsimp only[tC,cEq,onB]
 rw[dR,e]
 exact h
theorem qI {i:Nat} {x s:Str} {t:Addr} {ys:List V} {σ:St} {H:Hp} {T u:TS} {D:oG} (hσ:σ[i]?=some (some (.ref t))) (et:H t=some (.tup (.str s::ys))) (e:decide (s=x)=false) (h:u D σ H):um (Ai (hdT i x) T sx) u D σ H:=vW hσ et e (gR h)
theorem yK {i:Nat} {x s:Str} {t:Addr} {ys:List V} {σ:St} {H:Hp} {T u:TS} {D:oG} (hσ:σ[i]?=some (some (.ref t))) (et:H t=some (.tup (.str s::ys))) (e:decide (s=x)=true) (h:T {D with nx:=u D} σ H):um (Ai (hdT i x) T sx) u D σ H:=vW hσ et e (iM h)
theorem Du {a b:Int} {H:Hp} {F:Bool->Hp->Prop} (e:¬b<=a) (h:F false H):cI0 (fun i j=> .bl (decide (j<=i))) (.int a) (.int b) H fun x H'=>onB x fun k=>F k H':=by show F (decide (b<=a)) H;rw[decide_eq_false e];exact h
theorem Dv {a b:Int} {H:Hp} {F:Bool->Hp->Prop} (e:b<=a) (h:F true H):cI0 (fun i j=> .bl (decide (j<=i))) (.int a) (.int b) H fun x H'=>onB x fun k=>F k H':=by show F (decide (b<=a)) H;rw[decide_eq_true e];exact h
theorem qJ {H:Hp} {t:Addr} {ρ:Ro} (h:Im H (.ref t) ρ.d):∃ys,H t=some (.tup (.str ρ.s::ys))/\Ims H ys ρ.r:=by
 unfold Ro.d at h
 cases h with
 |tup e i=>
  cases i with
  |cons a i=>cases a;exact⟨_,e,i⟩
theorem vX {H:Hp} {l:Addr} {ys:List V} {y:V} {Q:VK} (e:H l=some (.lst (ys++[y]))) (q:Q y (L2.Internal.upd H l (.lst ys))):FE (.ref l) [] H Q:=⟨l,_,y,rfl,rfl,e,by rw[aN,aY,Nat.add_sub_cancel,aI (b6 _),cn];rfl,by rw[List.dropLast_concat];exact q⟩
inductive XTr (C:Addr) (vs:List V) (H:Hp) (Q:VK):Prop
 |mk (A:Mad) (tu:Nat) (s:Ms) (n:Nat) (l rd:List Vl) (e:vs=[.ref A.m,.int (n:Int)]) (M:Mc C H A tu s) (hn:n<=1000) (ht:tkR n s.rd []=some (l,rd)) (q:∀H' a xs,H a=none->H' a=some (.lst xs)->Ims H' xs (l.map Vl.d)->Mc C H' A tu {s with rd:=rd}->FM A H H'->Q (.ref a) H')
def ES (C:Addr):Sp:=fun vs H Q _=>XTr C vs H Q
def TrI (C:Addr) (A:Mad) (tu:Nat) (s:Ms) (n:Nat) (H:Hp) (tl:Addr) (i:Nat) (σ:St) (H2:Hp):Prop:=∃(o:Option V) (xs:List V),σ=[some (.ref A.m),some (.int (n:Int)),some (.ref tl),o]/\H2 tl=some (.lst xs)/\Ims H2 xs ((s.rd.take i).map Vl.d)/\Mc C H2 A tu {s with rd:=s.rd.drop i}/\FM A H H2
theorem l8 (T:Txt K mg):gu P w K mg base CX0 1 T.a_Machine_take_ready T.fd_Machine_take_ready ["self","count"] (ES T.a_Machine):=by
 refine T.F_Machine_take_ready.ok iY (fun vs H Q E h=>?_) (fun cdv A0 outer s0 H vs Q E hr h=>?_)
 ·obtain⟨A,tu,s,n,l,rd,rfl,_⟩:=h
  rfl
 obtain⟨A,tu,s,n,l,rd,rfl,M,hn,ht,q⟩:=h
 refine⟨_,(eR (fC (i:=2) iY.nd rfl (.inl rfl) (gH eS))
  (eR (lG PassesOwn.never rfl (sy rfl T.z_range (eQ (cv 1) eS)) (jj (i:=3) iY.nd rfl (.inl rfl))
   (eW (fE (ka (ko dG dH dI gq (PE.mono (cv 2)) (eQ (PE.mono (vA dG dJ dM vB (fN T.cl_Machine T.n_Machine_ready (cv 0)))) eS))))))
  (eW (fG (wF rfl rfl T.z_list rfl T.z_reversed (eQ (cv 2) eS)))))),?_⟩
 have sl:sizeLine=16777216:=sizeLine_eq
 obtain⟨t1,t2,t3⟩:=oR ht
 refine⟨(by show 0<=sizeLine;decide),fun tl htl=>?_⟩
 have S1:=eX htl (.lst [])
 have M1:=M.same S1
 have nt:=M.new htl
 have e1:(L2.Internal.upd H tl (.lst [])) tl=some (.lst []):=eV
 dsimp only[iQ]
 refine⟨_,rfl,by lia,by lia,sC (TrI T.a_Machine A tu s n H tl) ⟨none,[],rfl,e1,.nil,M1,FM.same S1⟩ ?_ ?_⟩
 ·rintro i σ H2 hi ⟨o,xs,rfl,e2,i2,M2,F2⟩
  rw[d6]at hi
  obtain⟨v,hv⟩:∃v,s.rd[i]?=some v:=⟨_,bq (by lia)⟩
  have hdr:s.rd.drop i=v::s.rd.drop (i+ 1):=by
   obtain⟨z1,z2⟩:=aq.mp hv
   rw[bH z1,z2]
  obtain⟨ys,y,er,iy,M3,F3⟩:=M2.rdO hdr
  have e3:(L2.Internal.upd H2 A.rd (.lst ys)) tl=some (.lst xs):=F3.get e2 nt
  have i3:=i2.mono (M2.tk F3)
  have iy3:=iy.mono (M2.tk F3)
  have F03:=F2.trans F3
  refine⟨⟨_,e2⟩,_,⟨_,_,M2.o,nB⟩,.inl ⟨rfl,_,SqL.of er⟩,vX er ⟨xs,e3,?_,?_⟩⟩
  ·rw[i2.length,aC,aH];lia
  dsimp only
  generalize L2.Internal.upd H2 A.rd (.lst ys)=H3 at e3 i3 iy3 F03 M3⊢
  refine⟨_,_,rfl,eV,?_,M3.oth nt e3,F03.upd htl⟩
  rw[bR,hv,a9]
  exact(i3.app (.cons iy3 .nil)).mono (vE e3).tk
 ·rintro σ H2 ⟨o,xs,rfl,e2,i2,M2,F2⟩
  rw[d6]at i2 M2
  refine⟨tl,xs,rfl,SqL.of e2,fun a ha=>?_⟩
  have S3:=eX ha (.lst xs.reverse)
  refine q _ a _ ?_ eV ?_ (by rw[t3];exact M2.same S3) (F2.trans (FM.same S3))
  ·cases hh:H a with
   |none=>rfl
   |some o=>
    by_cases z:a∈A.all
    ·exact absurd z (M2.new ha)
    ·rw[F2.get hh z]at ha;cases ha
  ·rw[t2,aD,List.map_reverse]
   exact(yJ i2).mono (fK.tk S3)
inductive XFp (ρ:Ro) (vs:List V) (H:Hp) (Q:VK):Prop
 |mk (t:Addr) (e:vs=[.ref t]) (it:Im H (.ref t) ρ.d) (q:∀l H',fK H H'->H l=none->H' l=some (.lst ((mD ρ).map V.int))->Q (.ref l) H')
def ET:Sp:=fun vs H Q _=>∃ρ:Ro,ρ.ok/\XFp ρ vs H Q
theorem mE (T:Txt K mg):gu P w K mg base CX0 7 T.a_first_parts T.fd_first_parts ["row"] ET:=by
 have G_places_in:=oo (P:=P) (w:=w) (base:=base) T
 refine T.F_first_parts.ok qg (fun vs H Q E h=>?_) (fun cdv A0 outer s0 H vs Q E hr h=>?_)
 ·obtain⟨ρ,ro,t,rfl,_⟩:=h
  rfl
 obtain⟨ρ,ro,t,rfl,it,q⟩:=h
 refine⟨_,(eR (gr (fz ki (ft fq (cv 0) eU (fun _ _=>rfl)) fc (fD _))
   (eW (fG (gH eS)))
   fw)
  (eR (gr (fz ki (ft fq (cv 0) eU (fun _ _=>rfl)) fc (fD _))
   (eW (fG (gH (eQ (ft fq (cv 0) eU (fun _ _=>rfl)) eS))))
   fw)
  (eR (gr (fz ki (ft fq (cv 0) eU (fun _ _=>rfl)) fc (fD _))
   (eW (fG (gH (eQ (ft fq (cv 0) eU (fun _ _=>rfl)) eS))))
   fw)
  (eW (fG (fA G_places_in (hr.mono (by decide)) rfl T.m_places_in T.k_places_in T.b_places_in .nil fO (eQ (cv 0) eS))))))),?_⟩
 obtain⟨ys,et,iy⟩:=qJ it
 obtain⟨_,hC,hF,hL⟩:=ρ.hd ro
 cases ρ with
 |fn w k=>exact yK rfl et hF ⟨(by show 0<=sizeLine;decide),fun l hl=>q l _ (eX hl _) hl eV⟩
 |lt w a b=>
  cases iy with
  |cons h1 iy=>
   cases iy with
   |cons h2 iy=>
    cases h2
    exact qI rfl et hF (yK rfl et hL ⟨_,et,fg (eY (j:=2) rfl) ⟨(by show 1<=sizeLine;decide),fun l hl=>q l _ (eX hl _) hl eV⟩⟩)
 |case a b=>
  cases iy with
  |cons h1 iy=>
   cases h1
   exact qI rfl et hF (qI rfl et hL (yK rfl et hC ⟨_,et,fg (eY (j:=1) rfl) ⟨(by show 1<=sizeLine;decide),fun l hl=>q l _ (eX hl _) hl eV⟩⟩))
 |_=>exact qI rfl et hF (qI rfl et hL (qI rfl et hC ⟨t,_,rfl,it,ro,q⟩))
structure Ctx (CP:Addr) (H:Hp) (A:Mad) (names:List Str) (roots:List Nat) (ρs:List Ro) (ho:Nat->Option Hm):Prop where
 p:∃n r w dx xs,PrA CP H A.p n r w dx xs names roots ρs/\A.p∉A.all/\n∉A.all/\r∉A.all/\w∉A.all
 h:∃hs,H A.h=some (.lst hs)/\A.h∉A.all/\∀(k:Nat) (ρ:Ro),ρs[k]?=some ρ->∃y,hs[k]?=some y/\Im H y (hoD (ho k))
 ok:∀ρ∈ρs,ρ.ok
theorem Ctx.fm {C CP:Addr} {H H':Hp} {A:Mad} {tu:Nat} {s:Ms} {names:List Str} {roots:List Nat} {ρs:List Ro} {ho:Nat->Option Hm} (c:Ctx CP H A names roots ρs ho) (M:Mc C H A tu s) (F:FM A H H'):Ctx CP H' A names roots ρs ho:=by
 have k:=M.tk F
 obtain⟨⟨n,r,w,dx,xs,pr,n1,n2,n3,n4⟩,⟨hs,e,n5,hh⟩,ok⟩:=c
 exact⟨⟨n,r,w,dx,xs,⟨F.get pr.o n1,F.get pr.n n2,F.get pr.r n3,F.get pr.w n4,pr.i.mono k⟩,n1,n2,n3,n4⟩,⟨hs,F.get e n5,n5,fun j ρ hj=>let⟨y,a,b⟩:=hh j ρ hj;⟨y,a,b.mono k⟩⟩,ok⟩
theorem mY {p h me ha de st rd:Addr} {tu bg:Int} {en:V}:(fMc p h tu bg en me ha de st rd).lookup ("program":Str)=some (.ref p):=by kernel_rfl
theorem yL {p h me ha de st rd:Addr} {tu bg:Int} {en:V}:(fMc p h tu bg en me ha de st rd).lookup ("homes":Str)=some (.ref h):=by kernel_rfl
theorem BW {p h me ha de st rd:Addr} {tu bg v:Int} {en:V}:jh "begun" (.int v) (fMc p h tu bg en me ha de st rd)=fMc p h tu v en me ha de st rd:=by kernel_rfl
theorem uY {ρ:Ro} (h:ρ.ok):(mD ρ).length<=101:=by
 cases ρ with
 |rcd l=>have:l.length<=100:=h.1;show(l.map _).length<=_;rw[aC];lia
 |row l=>have:l.length<=100:=h;show l.length<=_;lia
 |op o l=>have:l.length<=100:=h.2;show l.length<=_;lia
 |_=>exact of_decide_eq_true rfl
theorem yM {C:Addr} {H:Hp} {A:Mad} {tu:Nat} {s:Ms} {σ:St} {j i:Nat} {m:Str} {p:Int} {x:V} {sc:Ev} {t:Stp} {D:oG} (hσ:σ[0]?=some (some (.ref A.m))) (hp:σ[j]?=some (some (.int p))) (hx:σ[i]?=some (some x)) (M:Mc C H A tu s) (ix:Im H x sc.d) (ht:t.d= .tup [sD m,kD p,sc.d]) (ls:s.st.length<10000000) (k:∀H',Mc C H' A tu {s with st:=t::s.st}->FM A H H'->D.nx σ H'):
  Cn (FL (AG C "steps" (cV 0)) (FC (mI (tC (.str m)) (mI (cV j) (mI (cV i) xD))))) D σ H:=by
 have sl:sizeLine=16777216:=sizeLine_eq
 show onV σ[0]? _
 rw[hσ]
 obtain⟨xs,e,_⟩:=M.st
 refine⟨_,⟨_,_,M.o,kM⟩,⟨_,e⟩,?_⟩
 show onV σ[j]? _
 rw[hp]
 show onV σ[i]? _
 rw[hx]
 refine⟨(by show 3<=sizeLine;decide),fun a ha=>?_⟩
 have S1:=eX ha (.tup [.str m,.int p,x])
 have M1:=M.same S1
 have i1:Im (L2.Internal.upd H a (.tup [.str m,.int p,x])) (.ref a) t.d:=by rw[ht];exact mX ha (.cons (.flat rfl) (.cons (.flat rfl) (.cons ix .nil)))
 obtain⟨xs1,e1,l1,M2,F2⟩:=M1.stP i1
 exact⟨xs1,e1,by lia,k _ M2 ((FM.same S1).trans F2)⟩
inductive XBe (C CP:Addr) (vs:List V) (H:Hp) (Q:VK):Prop
 |mk (A:Mad) (tu:Nat) (s:Ms) (p:Int) (sc:Ev) (x:V) (ρ:Ro) (names:List Str) (roots:List Nat) (ρs:List Ro) (ho:Nat->Option Hm) (e:vs=[.ref A.m,.int p,x]) (M:Mc C H A tu s) (c:Ctx CP H A names roots ρs ho) (hk:tu<=s.bg\/∃k:Nat,p=k/\ρs[k]?=some ρ) (ix:Im H x sc.d) (hb:Bd 9000000 s) (q:∀H',Mc C H' A tu (if tu<=s.bg then{s with en:=some "turns"}else{s with bg:=s.bg+ 1,st:=(mD ρ).map (fun k=> .beg k sc)++ .par p sc::s.st})->FM A H H'->Q .non H')
def EU (C CP:Addr):Sp:=fun vs H Q _=>XBe C CP vs H Q
def BgI (C:Addr) (A:Mad) (tu:Nat) (s:Ms) (k:Nat) (sc:Ev) (x:V) (ρ:Ro) (H:Hp) (lp:Addr) (i:Nat) (σ:St) (H2:Hp):Prop:=∃(o:Option V),σ=[some (.ref A.m),some (.int (k:Int)),some x,o]/\Mc C H2 A tu {s with bg:=s.bg+ 1,st:=((mD ρ).drop ((mD ρ).length-i)).map (fun k=> .beg k sc)++ .par (k:Int) sc::s.st}/\Im H2 x sc.d/\FM A H H2/\H2 lp=some (.lst ((mD ρ).map V.int))
theorem oB (T:Txt K mg):gu P w K mg base CX0 8 T.a_Machine_begin T.fd_Machine_begin ["self","place","scope"] (EU T.a_Machine T.a_Program):=by
 have G_first_parts:=mE (P:=P) (w:=w) (base:=base) T
 refine T.F_Machine_begin.ok lI (fun vs H Q E h=>?_) (fun cdv A0 outer s0 H vs Q E hr h=>?_)
 ·obtain⟨A,tu,s,k,sc,x,ρ,names,roots,ρs,ho,rfl,_⟩:=h
  rfl
 obtain⟨A,tu,s,p,sc,x,ρ,names,roots,ρs,ho,rfl,M,c,hk,ix,hb,q⟩:=h
 refine⟨_,(eR (gr (fz EA (fN T.cl_Machine T.n_Machine_begun (cv 0)) (fN T.cl_Machine T.n_Machine_turns (cv 0)) (fD _))
   (eR (iD T.cl_Machine T.n_Machine_end (iK (PE.mono (cv 0)) (PE.mono fc) rfl))
   (eW xn))
   fw)
  (eR (sF (cv 0) eU An)
  (eR (fE (ka (ko dG dH dI gq (PE.mono (fN T.cl_Machine T.n_Machine_steps (cv 0))) (eQ (PE.mono (gG (eQ fc (eQ (cv 1) (eQ (cv 2) eS))))) eS))))
  (eW (lG PassesOwn.never rfl (C3 rfl T.z_reversed (eQ (fA G_first_parts (hr.mono (by decide)) rfl T.m_first_parts T.k_first_parts T.b_first_parts .nil fO (eQ (ft f7 (fN T.cl_Program T.n_Program_rows (fN T.cl_Machine T.n_Machine_program (cv 0))) (cv 1) (fun _ _=>rfl)) eS)) eS)) (jj (i:=3) lI.nd rfl (.inl rfl))
   (eW (fE (ka (ko dG dH dI gq (PE.mono (fN T.cl_Machine T.n_Machine_steps (cv 0))) (eQ (PE.mono (gG (eQ fc (eQ (cv 3) (eQ (cv 2) eS))))) eS)))))))))),?_⟩
 have sl:sizeLine=16777216:=sizeLine_eq
 refine⟨_,⟨_,_,M.o,qa⟩,_,⟨_,_,M.o,yH⟩,?_⟩
 by_cases ht:tu<=s.bg
 ·rw[if_pos ht]at q
  obtain⟨M3,F3⟩:=M.setO s.bg (some "turns")
  refine Dv (by lia) (iM ⟨_,_,M.o,by show 10<1000;decide,?_⟩)
  rw[oQ]
  exact q _ M3 F3
 rw[if_neg ht]at q
 refine Du (by lia) (gR ?_)
 obtain⟨k,rfl,hk1⟩:=hk.resolve_left ht
 replace hk:=hk1
 obtain⟨M1,F1⟩:=M.setO (s.bg+ 1) s.en
 refine⟨A.m,_,_,_,_,rfl,M.o,T.cl_Machine,T.n_Machine_begun,qa,?_⟩
 refine⟨_,_,rfl,rfl,_,_,M.o,by show 10<1000;decide,?_⟩
 rw[show((s.bg:Int)+ 1)=((s.bg+ 1:Nat):Int) by lia,BW]
 have ix1:=ix.mono (M.tk F1)
 have c1:=c.fm M F1
 dsimp only
 generalize L2.Internal.upd H A.m (.ins T.a_Machine A.dx (fMc A.p A.h tu ((s.bg+ 1:Nat):Int) (enV s.en) A.me A.ha A.de A.st A.rd))=H1 at M1 F1 ix1 c1⊢
 have lst:=hb.2.2.2.1
 refine yM (sc:=sc) (t:= .par (k:Int) sc) (m:="parts") rfl rfl rfl M1 ix1 rfl (by show s.st.length<_;lia) fun H2 M2 F2=>?_
 have ix2:=ix1.mono (M1.tk F2)
 have F02:=F1.trans F2
 have c2:=c1.fm M1 F2
 obtain⟨n,r,w,dx,xs,pr,n1,n2,n3,n4⟩:=c2.p
 obtain⟨tr,ys,hxt,etr,_,him⟩:=rQ pr.i hk
 have rok:=c.ok ρ (aM hk)
 refine⟨_,⟨_,_,M2.o,mY⟩,_,⟨_,_,pr.o,rO _ _ _⟩,_,pr.w,fg (eY hxt) ⟨ρ,rok,tr,rfl,him,fun lp H3 S3 hlp e3=>?_⟩⟩
 have M3:=M2.same S3
 have nl:=M2.new hlp
 have fl:(mD ρ).length<=101:=uY rok
 refine⟨lp,_,rfl,SqL.of e3,BV (xs:=(mD ρ).map V.int) (BgI T.a_Machine A tu s k sc x ρ H lp) ⟨none,rfl,?_,ix2.mono (fK.tk S3),F02.trans (FM.same S3),e3⟩ (fun i σ H4 _ ⟨_,_,_,_,_,e⟩=>SqL.of e) ?_ ?_⟩
 ·rw[Nat.sub_zero,bP]
  exact M3
 ·rintro i v σ H4 hi hx ⟨o,rfl,M4,ix4,F4,e4⟩
  rw[aC]at hi hx
  rw[aK]at hx
  obtain⟨j,hj,rfl⟩:=cD.mp hx
  refine yM (sc:=sc) (t:= .beg j sc) (m:="begin") rfl rfl rfl M4 ix4 rfl ?_ fun H5 M5 F5=>⟨_,rfl,?_,ix4.mono (M4.tk F5),F4.trans F5,F5.get e4 nl⟩
  ·show(((mD ρ).drop _).map _++_::s.st).length<_
   rw[aN,aC,az,aU]
   lia
  ·have e:(mD ρ).drop ((mD ρ).length-(i+ 1))=j::(mD ρ).drop ((mD ρ).length-i):=by
    obtain⟨z1,z2⟩:=aq.mp hj
    rw[show(mD ρ).length-(i+ 1)=(mD ρ).length-1-i by lia,bH z1,z2,show(mD ρ).length-1-i+ 1=(mD ρ).length-i by lia]
   rw[e]
   exact M5
 ·rintro σ H4 ⟨o,rfl,M4,ix4,F4,e4⟩
  rw[aC,cn,List.drop_zero]at M4
  exact q _ M4 F4
theorem tS {j:Nat} {σ:St} {a b:Int} {H:Hp} {F:Bool->Hp->Prop} {c:Bool} (hj:σ[j]?=some (some (.int b))) (e:decide (a=b)=c) (h:F (!c) H):cV j σ H fun y H2=>cEq true (.int a) y H2 fun x H'=>onB x fun k=>F k H':=by show onV σ[j]? _;rw[hj];show F (xor true (decide (a=b))) H;rw[e,dS];exact h
def Ev.sz:Ev->Nat
 | .nil=>0
 | .cons _ _ sc=>sc.sz+ 1
inductive XHv (vs:List V) (H:Hp) (Q:VK):Prop
 |mk (sc:Ev) (p:Int) (v:Vl) (x:V) (e:vs=[x,.int p]) (ix:Im H x sc.d) (hv:tQ sc p=some v) (q:∀y,Im H y v.d->Q y H)
def EV:Sp:=fun vs H Q _=>XHv vs H Q
theorem Dw {H:Hp} {x:V} {b:Int} {v:Vl} {sc:Ev} (h:Im H x (Ev.cons b v sc).d):∃t y z,x= .ref t/\H t=some (.tup [.int b,y,z])/\Im H y v.d/\Im H z sc.d:=by
 rw[Ev.d]at h
 cases h with
 |tup e i=>
  cases i with
  |cons h1 i=>
   cases i with
   |cons h2 i=>
    cases i with
    |cons h3 i=>
     cases i
     cases h1
     exact⟨_,_,_,rfl,e,h2,h3⟩
def HvI (x0:V) (p:Int) (v:Vl) (H:Hp) (m:Nat) (σ:St) (H2:Hp):Prop:=H2=H/\∃(sc:Ev) (x:V),m=sc.sz/\σ=[some x0,some (.int p),some x]/\Im H x sc.d/\tQ sc p=some v
theorem rV (T:Txt K mg):gu P w K mg base CX0 1 T.a_held_value T.fd_held_value ["scope","place"] EV:=by
 refine T.F_held_value.ok lj (fun vs H Q E h=>?_) (fun cdv A0 outer s0 H vs Q E hr h=>?_)
 ·obtain⟨sc,p,v,x,rfl,_⟩:=h
  rfl
 obtain⟨sc,p,v,x,rfl,ix,hv,q⟩:=h
 refine⟨_,(eR (fC (i:=2) lj.nd rfl (.inl rfl) (cv 0))
  (eR (mi PassesOwn.never (fz mK (ft fq (cv 2) eU (fun _ _=>rfl)) (cv 1) (fD _))
   (eW (fC (i:=2) lj.nd rfl (.inl rfl) (ft fq (cv 2) eU (fun _ _=>rfl)))))
  (eW (fG (ft fq (cv 2) eU (fun _ _=>rfl)))))),?_⟩
 refine⟨HvI x p v H,⟨_,rfl,sc,x,rfl,rfl,ix,hv⟩,?_⟩
 rintro m σ H2 ⟨rfl,sc,y,rfl,rfl,iy,hv⟩
 cases sc with
 |nil=>cases hv
 |cons b u sc=>
  obtain⟨t,y1,z,rfl,et,i1,i2⟩:=Dw iy
  refine⟨_,et,fg (eY (j:=0) rfl) ?_⟩
  unfold tQ at hv
  by_cases e:b=p
  ·rw[if_pos e]at hv
   cases hv
   refine tS rfl (decide_eq_true e) ?_
   exact gR ⟨_,et,fg (eY (j:=1) rfl) (q _ i1)⟩
  ·rw[if_neg e]at hv
   refine tS rfl (decide_eq_false e) ?_
   exact iM ⟨fun σ' H'=>HvI x p v H2 sc.sz σ' H',fun σ' H' h=>⟨_,b8 _,h⟩,⟨_,et,fg (eY (j:=2) rfl) ⟨rfl,sc,z,rfl,rfl,i2,hv⟩⟩⟩
inductive XW (C CP:Addr) (U:Ro->Prop) (vs:List V) (H:Hp) (Q:VK):Prop
 |mk (A:Mad) (tu:Nat) (s s':Ms) (k:Nat) (sc:Ev) (t ps:Addr) (x:V) (xs:List V) (l:List Vl) (ρ:Ro) (names:List Str) (roots:List Nat) (ρs:List Ro) (ho:Nat->Option Hm) (e:vs=[.ref A.m,.ref t,.int (k:Int),x,.ref ps]) (M:Mc C H A tu s) (c:Ctx CP H A names roots ρs ho) (hk:ρs[k]?=some ρ) (hu:U ρ) (it:Im H (.ref t) ρ.d) (ix:Im H x sc.d) (ep:H ps=some (.lst xs)) (np:ps∉A.all) (il:Ims H xs (l.map Vl.d)) (hb:Bd 9000000 s) (hw:lD (ho k) k sc ρ l s=some s') (q:∀H',Mc C H' A tu s'->FM A H H'->Q .non H')
def kb (C CP:Addr) (U:Ro->Prop):Sp:=fun vs H Q _=>XW C CP U vs H Q
theorem oq {C:Addr} {H:Hp} {A:Mad} {tu:Nat} {s:Ms} {k:Int} {a:Addr} {xs:List V} {ds:List Dt} {v:Vl} {Q:VK} (M:Mc C H A tu s) (hb:Bd 9500000 s) (ha:H a=none) (i:Ims H xs ds) (hv:v.d= .tup ds) (q:∀H',Mc C H' A tu (mw k v s)->FM A H H'->Q .non H'):vV C [.ref A.m,.int k,.ref a] (L2.Internal.upd H a (.tup xs)) Q E0:=
 have b1:=hb.2.1
 have b2:=hb.2.2.2.2
 ⟨A,tu,s,k,_,v,rfl,M.same (eX ha _),by rw[hv];exact mX ha i,by lia,by lia,fun H' M' F'=>q H' M' ((FM.same (eX ha _)).trans F')⟩
theorem uZ {C:Addr} {H:Hp} {A:Mad} {tu:Nat} {s:Ms} {k:Int} {x:V} {v:Vl} {Q:VK} (M:Mc C H A tu s) (hb:Bd 9500000 s) (i:Im H x v.d) (q:∀H',Mc C H' A tu (mw k v s)->FM A H H'->Q .non H'):vV C [.ref A.m,.int k,x] H Q E0:=
 have b1:=hb.2.1
 have b2:=hb.2.2.2.2
 ⟨A,tu,s,k,_,v,rfl,M,i,by lia,by lia,q⟩
theorem Bd.le {n m:Nat} {s:Ms} (h:Bd n s) (k:autoParam (n<=m) L2.Internal.auD._auto_1):Bd m s:=h.mono k
theorem u0 (T:Txt K mg):gu P w K mg base CX0 4 T.a_work_num T.fd_work_num ["machine","row","place","scope","parts"] (kb T.a_Machine T.a_Program fun ρ=>∃n,ρ= .num n):=by
 have G_Machine_finish:=fX (P:=P) (w:=w) (base:=base) T
 refine T.F_work_num.ok uK (fun vs H Q E h=>?_) (fun cdv A0 outer s0 H vs Q E hr h=>?_)
 ·obtain⟨A,tu,s,s',k,sc,t,ps,x,xs,l,ρ,names,roots,ρs,ho,rfl,_⟩:=h
  rfl
 obtain⟨A,tu,s,s',k,sc,t,ps,x,xs,l,ρ,names,roots,ρs,ho,rfl,M,c,hk,⟨n,rfl⟩,it,ix,ep,np,il,hb,hw,q⟩:=h
 refine⟨_,(eW (fE (f6 (fQ (PE.mono (cv 0)) T.cl_Machine T.me_Machine_finish G_Machine_finish (hr.mono (by decide)) T.b_Machine_finish .nil fO (eQ (cv 2) (eQ (gG (eQ fc (eQ (ft fq (cv 1) eU (fun _ _=>rfl)) (eQ (cv 2) eS)))) eS)))))),?_⟩
 obtain⟨ys,et,iy⟩:=qJ it
 cases iy with
 |cons h1 iy=>
  cases h1
  cases l with
  |cons v l=>exact nomatch(show(none:Option Ms)=some s' from hw)
  |nil=>
   cases cz.inj hw
   exact⟨⟨_,_,M.o,ic (by decide+kernel)⟩,_,et,fg (eY (j:=1) rfl) ⟨(by show 3<=sizeLine;decide),fun a ha=>oq (v:= .num n k) M hb.le ha (.cons (.flat rfl) (.cons (.flat rfl) (.cons (.flat rfl) .nil))) (by rw[Vl.d];rfl) q⟩⟩
theorem vY {i:Nat} {x s:Str} {t:Addr} {ys:List V} {σ:St} {H:Hp} {T u:TS} {D:oG} (hσ:σ[i]?=some (some (.ref t))) (et:H t=some (.tup (.str s::ys))) (e:decide (s=x)=false) (h:u D σ H):Ai (hdT i x) T u D σ H:=vW hσ et e (gR h)
theorem yN {i:Nat} {x s:Str} {t:Addr} {ys:List V} {σ:St} {H:Hp} {T u:TS} {D:oG} (hσ:σ[i]?=some (some (.ref t))) (et:H t=some (.tup (.str s::ys))) (e:decide (s=x)=true) (h:T D σ H):Ai (hdT i x) T u D σ H:=vW hσ et e (iM h)
theorem EW {H:Hp} {xs:List V} {a:Vl} (h:Ims H xs ([a].map Vl.d)):∃x,xs=[x]/\Im H x a.d:=by
 cases h with
 |cons h1 h=>cases h;exact⟨_,rfl,h1⟩
theorem Dx {H:Hp} {xs:List V} {a b:Vl} (h:Ims H xs ([a,b].map Vl.d)):∃x y,xs=[x,y]/\Im H x a.d/\Im H y b.d:=by
 cases h with
 |cons h1 h=>
  cases h with
  |cons h2 h=>cases h;exact⟨_,_,rfl,h1,h2⟩
theorem rW {H:Hp} {x:V} {a b:Dt} (h:Im H x (.tup [a,b])):∃t y z,x= .ref t/\H t=some (.tup [y,z])/\Im H y a/\Im H z b:=by
 cases h with
 |tup e i=>
  cases i with
  |cons h1 i=>
   cases i with
   |cons h2 i=>cases i;exact⟨_,_,_,rfl,e,h1,h2⟩
theorem nF {α:Type} {l:List α} {i:Int} {a:α} (h:atZ l i=some a):∃k:Nat,i=(k:Int)/\l[k]?=some a:=by
 cases i with
 |ofNat k=>exact⟨k,rfl,h⟩
 |negSucc k=>cases h
theorem u4 {C:Addr} {H:Hp} {A:Mad} {tu:Nat} {s:Ms} {k b:Int} {a:Addr} {xs:List V} {ds:List Dt} {sc:Ev} {Q:VK} (M:Mc C H A tu s) (hb:Bd 9500000 s) (ha:H a=none) (i:Ims H xs ds) (hv:sc.d= .tup ds) (q:∀H',Mc C H' A tu (oA b sc k s)->FM A H H'->Q .non H'):yI C [.ref A.m,.int b,.ref a,.int k] (L2.Internal.upd H a (.tup xs)) Q E0:=
 have b1:=hb.2.2.2.1
 ⟨A,tu,s,b,k,_,sc,rfl,M.same (eX ha _),by rw[hv];exact mX ha i,by lia,fun H' M' F'=>q H' M' ((FM.same (eX ha _)).trans F')⟩
theorem Bd.come {v:Vl} {p k:Int} {f:Bool} {s:Ms} (h:Bd 9000000 s):Bd 9400000 (iJ v p k f s):=by
 obtain⟨a,b,c,d,e⟩:=h
 exact⟨by show(_::s.me).length<=_;rw[az];lia,bX b (by decide),bX c (by decide),bX d (by decide),bX e (by decide)⟩
theorem wY (T:Txt K mg):gu P w K mg base CX0 4 T.a_work_fn T.fd_work_fn ["machine","row","place","scope","parts"] (kb T.a_Machine T.a_Program fun ρ=>∃n b,ρ= .fn n b):=by
 have G_Machine_finish:=fX (P:=P) (w:=w) (base:=base) T
 refine T.F_work_fn.ok wM (fun vs H Q E h=>?_) (fun cdv A0 outer s0 H vs Q E hr h=>?_)
 ·obtain⟨A,tu,s,s',k,sc,t,ps,x,xs,l,ρ,names,roots,ρs,ho,rfl,_⟩:=h
  rfl
 obtain⟨A,tu,s,s',k,sc,t,ps,x,xs,l,ρ,names,roots,ρs,ho,rfl,M,c,hk,⟨n,b,rfl⟩,it,ix,ep,np,il,hb,hw,q⟩:=h
 refine⟨_,(eW (fE (f6 (fQ (PE.mono (cv 0)) T.cl_Machine T.me_Machine_finish G_Machine_finish (hr.mono (by decide)) T.b_Machine_finish .nil fO (eQ (cv 2) (eQ (gG (eQ fc (eQ (gG (eQ (ft fq (cv 1) eU (fun _ _=>rfl)) (eQ (cv 3) eS))) (eQ (cv 2) eS)))) eS)))))),?_⟩
 obtain⟨ys,et,iy⟩:=qJ it
 obtain⟨y,et⟩:∃y,H t=some (.tup [.str "fn",y,.int b]):=by
  cases iy with
  |cons h1 iy=>
   cases iy with
   |cons h2 iy=>cases h2;cases iy;exact⟨_,et⟩
 cases l with
 |cons v l=>exact nomatch(show(none:Option Ms)=some s' from hw)
 |nil=>
  cases cz.inj hw
  refine⟨⟨_,_,M.o,ic (by decide+kernel)⟩,_,et,fg (eY (j:=2) rfl) ⟨(by show 2<=sizeLine;decide),fun a1 h1=>⟨(by show 3<=sizeLine;decide),fun a ha=>?_⟩⟩⟩
  have S1:=eX h1 (.tup [.int b,x])
  exact oq (v:= .fn b sc k) (M.same S1) hb.le ha (.cons (.flat rfl) (.cons (mX h1 (.cons (.flat rfl) (.cons ix .nil))) (.cons (.flat rfl) .nil))) (by rw[Vl.d];rfl) fun H' M' F'=>q H' M' ((FM.same S1).trans F')
theorem va (T:Txt K mg):gu P w K mg base CX0 4 T.a_work_let T.fd_work_let ["machine","row","place","scope","parts"] (kb T.a_Machine T.a_Program fun ρ=>∃n a b,ρ= .lt n a b):=by
 have G_Machine_go_into:=jF (P:=P) (w:=w) (base:=base) T
 refine T.F_work_let.ok uL (fun vs H Q E h=>?_) (fun cdv A0 outer s0 H vs Q E hr h=>?_)
 ·obtain⟨A,tu,s,s',k,sc,t,ps,x,xs,l,ρ,names,roots,ρs,ho,rfl,_⟩:=h
  rfl
 obtain⟨A,tu,s,s',k,sc,t,ps,x,xs,l,ρ,names,roots,ρs,ho,rfl,M,c,hk,⟨n,b0,b,rfl⟩,it,ix,ep,np,il,hb,hw,q⟩:=h
 refine⟨_,(eW (fE (f6 (fQ (PE.mono (cv 0)) T.cl_Machine T.me_Machine_go_into G_Machine_go_into (hr.mono (by decide)) T.b_Machine_go_into .nil fO (eQ (ft fq (cv 1) eU (fun _ _=>rfl)) (eQ (gG (eQ (ft fq (cv 1) eU (fun _ _=>rfl)) (eQ (ft f7 (cv 4) eU (fun _ _=>rfl)) (eQ (cv 3) eS)))) (eQ (cv 2) eS))))))),?_⟩
 obtain⟨ys,et,iy⟩:=qJ it
 obtain⟨y,et⟩:∃y,H t=some (.tup [.str "let",y,.int b0,.int b]):=by
  cases iy with
  |cons h1 iy=>
   cases iy with
   |cons h2 iy=>
    cases h2
    cases iy with
    |cons h3 iy=>cases h3;cases iy;exact⟨_,et⟩
 match l,hw,il with
 |[],hw,_=>exact nomatch(show(none:Option Ms)=some s' from hw)
 |_::_::_,hw,_=>exact nomatch(show(none:Option Ms)=some s' from hw)
 |[v],hw,il=>
  obtain⟨y,rfl,iv⟩:=EW il
  cases cz.inj hw
  exact⟨⟨_,_,M.o,ic (by decide+kernel)⟩,_,et,fg (eY (j:=3) rfl) ⟨_,et,fg (eY (j:=2) rfl) ⟨_,ep,fg (eY (j:=0) rfl) ⟨(by show 3<=sizeLine;decide),fun a ha=>u4 (sc:= .cons b0 v sc) M hb.le ha (.cons (.flat rfl) (.cons iv (.cons ix .nil))) (by rw[Ev.d];rfl) q⟩⟩⟩⟩
theorem vb (T:Txt K mg):gu P w K mg base CX0 4 T.a_work_tag T.fd_work_tag ["machine","row","place","scope","parts"] (kb T.a_Machine T.a_Program fun ρ=>∃n b,ρ= .tag n b):=by
 have G_Machine_finish:=fX (P:=P) (w:=w) (base:=base) T
 refine T.F_work_tag.ok uM (fun vs H Q E h=>?_) (fun cdv A0 outer s0 H vs Q E hr h=>?_)
 ·obtain⟨A,tu,s,s',k,sc,t,ps,x,xs,l,ρ,names,roots,ρs,ho,rfl,_⟩:=h
  rfl
 obtain⟨A,tu,s,s',k,sc,t,ps,x,xs,l,ρ,names,roots,ρs,ho,rfl,M,c,hk,⟨n,b,rfl⟩,it,ix,ep,np,il,hb,hw,q⟩:=h
 refine⟨_,(eW (fE (f6 (fQ (PE.mono (cv 0)) T.cl_Machine T.me_Machine_finish G_Machine_finish (hr.mono (by decide)) T.b_Machine_finish .nil fO (eQ (cv 2) (eQ (gG (eQ fc (eQ (gG (eQ (ft fq (cv 1) eU (fun _ _=>rfl)) (eQ (ft f7 (cv 4) eU (fun _ _=>rfl)) eS))) (eQ (cv 2) eS)))) eS)))))),?_⟩
 obtain⟨ys,et,iy⟩:=qJ it
 obtain⟨y,et⟩:∃y,H t=some (.tup [.str "tag",.str n,y]):=by
  cases iy with
  |cons h1 iy=>
   cases h1
   cases iy with
   |cons h2 iy=>cases iy;exact⟨_,et⟩
 match l,hw,il with
 |[],hw,_=>exact nomatch(show(none:Option Ms)=some s' from hw)
 |_::_::_,hw,_=>exact nomatch(show(none:Option Ms)=some s' from hw)
 |[v],hw,il=>
  obtain⟨y,rfl,iv⟩:=EW il
  cases cz.inj hw
  refine⟨⟨_,_,M.o,ic (by decide+kernel)⟩,_,et,fg (eY (j:=1) rfl) ⟨_,ep,fg (eY (j:=0) rfl) ⟨(by show 2<=sizeLine;decide),fun a1 h1=>⟨(by show 3<=sizeLine;decide),fun a ha=>?_⟩⟩⟩⟩
  have S1:=eX h1 (.tup [.str n,y])
  exact oq (v:= .tag n v k) (M.same S1) hb.le ha (.cons (.flat rfl) (.cons (mX h1 (.cons (.flat rfl) (.cons iv .nil))) (.cons (.flat rfl) .nil))) (by rw[Vl.d];rfl) fun H' M' F'=>q H' M' ((FM.same S1).trans F')
theorem tT (T:Txt K mg):gu P w K mg base CX0 4 T.a_work_name T.fd_work_name ["machine","row","place","scope","parts"] (kb T.a_Machine T.a_Program fun ρ=>∃n,ρ= .name n):=by
 have G_Machine_finish:=fX (P:=P) (w:=w) (base:=base) T
 have G_held_value:=rV (P:=P) (w:=w) (base:=base) T
 refine T.F_work_name.ok oa (fun vs H Q E h=>?_) (fun cdv A0 outer s0 H vs Q E hr h=>?_)
 ·obtain⟨A,tu,s,s',k,sc,t,ps,x,xs,l,ρ,names,roots,ρs,ho,rfl,_⟩:=h
  rfl
 obtain⟨A,tu,s,s',k,sc,t,ps,x,xs,l,ρ,names,roots,ρs,ho,rfl,M,c,hk,⟨n,rfl⟩,it,ix,ep,np,il,hb,hw,q⟩:=h
 refine⟨_,(eR (fC (i:=5) oa.nd rfl (.inl rfl) (ft f7 (fN T.cl_Machine T.n_Machine_homes (cv 0)) (cv 2) (fun _ _=>rfl)))
  (eW (gr (fz ki (ft fq (cv 5) eU (fun _ _=>rfl)) fc (fD _))
   (eW (fE (f6 (fQ (PE.mono (cv 0)) T.cl_Machine T.me_Machine_finish G_Machine_finish (hr.mono (by decide)) T.b_Machine_finish .nil fO (eQ (cv 2) (eQ (ft f7 (fN T.cl_Machine T.n_Machine_defined (cv 0)) (ft fq (cv 5) eU (fun _ _=>rfl)) (fun _ _=>rfl)) eS))))))
   (eW (fE (f6 (fQ (PE.mono (cv 0)) T.cl_Machine T.me_Machine_finish G_Machine_finish (hr.mono (by decide)) T.b_Machine_finish .nil fO (eQ (cv 2) (eQ (fA G_held_value (hr.mono (by decide)) rfl T.m_held_value T.k_held_value T.b_held_value .nil fO (eQ (cv 3) (eQ (ft fq (cv 5) eU (fun _ _=>rfl)) eS))) eS))))))))),?_⟩
 cases l with
 |cons v l=>exact nomatch(show(none:Option Ms)=some s' from hw)
 |nil=>
  obtain⟨hs,eh,_,hh⟩:=c.h
  obtain⟨y,ey,iy⟩:=hh k _ hk
  have hw:(match ho k with|some h=>if h.1="def" then(atZ s.de h.2).map fun v=>mw k v s else(tQ sc h.2).map fun v=>mw k v s|none=>none)=some s':=hw
  cases e:ho k with
  |none=>rw[e]at hw;cases hw
  |some h=>
   rw[e]at hw iy
   obtain⟨th,y1,y2,rfl,eth,i1,i2⟩:=rW (show Im H y (.tup [.flat (.str h.1),.flat (.int h.2)])from iy)
   cases i1
   cases i2
   have hw:(if h.1="def" then(atZ s.de h.2).map fun v=>mw k v s else(tQ sc h.2).map fun v=>mw k v s)=some s':=hw
   refine⟨_,⟨_,_,M.o,yL⟩,_,eh,fg (eY ey) ?_⟩
   dsimp only[iQ]
   by_cases hd:h.1="def"
   ·rw[if_pos hd]at hw
    obtain⟨v,hv,rfl⟩:=cD.mp hw
    obtain⟨j,ej,hj⟩:=nF hv
    obtain⟨zs,ez,iz⟩:=M.de
    have lz:=iz.length
    rw[aC]at lz
    have hjl:=(aq.mp hj).1
    obtain⟨d,hd',im⟩:=kU iz (bq (show j<zs.length by lia))
    rw[aK,hj]at hd'
    cases hd'
    refine yN rfl eth (decide_eq_true hd) ?_
    exact⟨⟨_,_,M.o,ic (by decide+kernel)⟩,_,⟨_,_,M.o,mW⟩,_,eth,fg (eY (j:=1) rfl) ⟨_,ez,fg (by rw[ej];exact eY (bq (show j<zs.length by lia))) (uZ M hb.le im q)⟩⟩
   ·rw[if_neg hd]at hw
    obtain⟨v,hv,rfl⟩:=cD.mp hw
    refine vY rfl eth (decide_eq_false hd) ?_
    exact⟨⟨_,_,M.o,ic (by decide+kernel)⟩,_,eth,fg (eY (j:=1) rfl) ⟨sc,h.2,v,x,rfl,ix,hv,fun y iy=>uZ M hb.le iy q⟩⟩
section
variable {hm:Option Hm} {p:Int} {sc:Ev} {ks:List Int} {s s':Ms} {a b:Vl}
theorem qK {o:Str} (h2:o="call"\/o="join"\/o="add"\/o="sub"\/o="less") {l:List Vl} (h:lD hm p sc (.op o ks) l s=some s'):∃a b,l=[a,b]:=by
 have no:∀l',l'=l->lD hm p sc (.op o ks) l' s=none->False:=fun l' e z=>by rw[e,h]at z;cases z
 match l,no with
 |[a,b],_=>exact⟨a,b,rfl⟩
 |[],no=>exact(no _ rfl (by rcases h2 with rfl|rfl|rfl|rfl|rfl<;>kernel_rfl)).elim
 |[_],no=>exact(no _ rfl (by rcases h2 with rfl|rfl|rfl|rfl|rfl<;>kernel_rfl)).elim
 |_::_::_::_,no=>exact(no _ rfl (by rcases h2 with rfl|rfl|rfl|rfl|rfl<;>kernel_rfl)).elim
theorem yO:lD hm p sc (.op "call" ks) [a,b] s=match a with
  | .fn c e _=>some (oA c (.cons c b e) p (iJ a p 0 true s))
  |_=>some (iJ a p 0 false s):=by kernel_rfl
theorem vc:lD hm p sc (.op "join" ks) [a,b] s=if(ie "row" a b p s).2 then if 500<(jE a).length\/500<(jE b).length then none else if 60<(jE a++jE b).length then some {(ie "row" a b p s).1 with en:=some "full"}else some (mw p (.row (lP (jE a++jE b)) p) (ie "row" a b p s).1)else some (ie "row" a b p s).1:=by kernel_rfl
theorem AM:lD hm p sc (.op "add" ks) [a,b] s=if(ie "num" a b p s).2 then some (mw p (.num (lC a+lC b) p) (ie "num" a b p s).1)else some (ie "num" a b p s).1:=by kernel_rfl
theorem AN:lD hm p sc (.op "sub" ks) [a,b] s=if(ie "num" a b p s).2 then some (mw p (.num (lC a-lC b) p) (ie "num" a b p s).1)else some (ie "num" a b p s).1:=by kernel_rfl
theorem yP:lD hm p sc (.op "less" ks) [a,b] s=if(ie "num" a b p s).2 then some (mw p (AL (decide (lC a<lC b)) p) (ie "num" a b p s).1)else some (ie "num" a b p s).1:=by kernel_rfl
theorem rX {sh:Str} (h:(ie sh a b p s).2=true):a.s=sh/\b.s=sh:=by
 unfold ie at h
 cases e:isS sh a with
 |false=>rw[e]at h;cases h
 |true=>rw[e]at h;exact⟨of_decide_eq_true e,of_decide_eq_true h⟩
theorem Bd.both {sh:Str} (h:Bd 9000000 s):Bd 9400000 (ie sh a b p s).1:=by
 obtain⟨h1,h2,h3,h4,h5⟩:=h
 have d:(9000000:Nat)<=9400000:=by decide
 unfold ie
 cases isS sh a with
 |false=>exact⟨by show(_::s.me).length<=_;rw[az];lia,bX h2 d,bX h3 d,bX h4 d,bX h5 d⟩
 |true=>exact⟨by show(_::_::s.me).length<=_;rw[az,az];lia,bX h2 d,bX h3 d,bX h4 d,bX h5 d⟩
end
theorem qL {v:Vl} (h:v.s="num"):∃n p,v= .num n p:=by
 cases v with
 |num n p=>exact⟨n,p,rfl⟩
 |fn _ _ _=>exact absurd (show("fn":Str)="num" from h) (by decide+kernel)
 |rcd _ _=>exact absurd (show("rec":Str)="num" from h) (by decide+kernel)
 |tag _ _ _=>exact absurd (show("tag":Str)="num" from h) (by decide+kernel)
 |row _ _=>exact absurd (show("row":Str)="num" from h) (by decide+kernel)
theorem AO {v:Vl} (h:v.s="row"):∃n p,v= .row n p:=by
 cases v with
 |row n p=>exact⟨n,p,rfl⟩
 |fn _ _ _=>exact absurd (show("fn":Str)="row" from h) (by decide+kernel)
 |rcd _ _=>exact absurd (show("rec":Str)="row" from h) (by decide+kernel)
 |tag _ _ _=>exact absurd (show("tag":Str)="row" from h) (by decide+kernel)
 |num _ _=>exact absurd (show("num":Str)="row" from h) (by decide+kernel)
theorem ot {H:Hp} {x:V} {n p:Int} (h:Im H x (Vl.num n p).d):∃t,x= .ref t/\H t=some (.tup [.str "num",.int n,.int p]):=by
 obtain⟨t,y,rfl,e,i⟩:=nE h
 cases(show Im H y (kD n)from i)
 exact⟨t,rfl,e⟩
theorem AQ {C:Addr} {H:Hp} {A:Mad} {tu:Nat} {s:Ms} {k:Int} {a1 a2 a3 a:Addr} {f:Bool} {Q:VK} (M:Mc C H A tu s) (hb:Bd 9500000 s) (h1:H a1=none) (h2:(L2.Internal.upd H a1 (.tup [])) a2=none) (h3:(L2.Internal.upd (L2.Internal.upd H a1 (.tup [])) a2 (.tup [.str "rec",.ref a1,.int k])) a3=none)
  (h4:(L2.Internal.upd (L2.Internal.upd (L2.Internal.upd H a1 (.tup [])) a2 (.tup [.str "rec",.ref a1,.int k])) a3 (.tup [.str (if f then "yes" else "no"),.ref a2])) a=none) (q:∀H',Mc C H' A tu (mw k (AL f k) s)->FM A H H'->Q .non H'):
  vV C [.ref A.m,.int k,.ref a] (L2.Internal.upd (L2.Internal.upd (L2.Internal.upd (L2.Internal.upd H a1 (.tup [])) a2 (.tup [.str "rec",.ref a1,.int k])) a3 (.tup [.str (if f then "yes" else "no"),.ref a2])) a (.tup [.str "tag",.ref a3,.int k])) Q E0:=by
 have S:=((eX h1 (.tup [])).trans (eX h2 (.tup [.str "rec",.ref a1,.int k]))).trans (eX h3 (.tup [.str (if f then "yes" else "no"),.ref a2]))
 exact oq (v:=AL f k) (M.same S) hb h4 (.cons (.flat rfl) (.cons (mX h3 (.cons (.flat rfl) (.cons (mX h2 (.cons (.flat rfl) (.cons (mX h1 .nil) (.cons (.flat rfl) .nil)))) .nil))) (.cons (.flat rfl) .nil))) (by unfold AL;rw[Vl.d,Vl.d,Vls.ds];rfl) fun H' M' F'=>q H' M' ((FM.same S).trans F')
theorem vd (T:Txt K mg):gu P w K mg base CX0 4 T.a_work_row T.fd_work_row ["machine","row","place","scope","parts"] (kb T.a_Machine T.a_Program fun ρ=>∃ks,ρ= .row ks):=by
 have G_Machine_finish:=fX (P:=P) (w:=w) (base:=base) T
 refine T.F_work_row.ok uN (fun vs H Q E h=>?_) (fun cdv A0 outer s0 H vs Q E hr h=>?_)
 ·obtain⟨A,tu,s,s',k,sc,t,ps,x,xs,l,ρ,names,roots,ρs,ho,rfl,_⟩:=h
  rfl
 obtain⟨A,tu,s,s',k,sc,t,ps,x,xs,l,ρ,names,roots,ρs,ho,rfl,M,c,hk,⟨ks,rfl⟩,it,ix,ep,np,il,hb,hw,q⟩:=h
 refine⟨_,(eW (fE (f6 (fQ (PE.mono (cv 0)) T.cl_Machine T.me_Machine_finish G_Machine_finish (hr.mono (by decide)) T.b_Machine_finish .nil fO (eQ (cv 2) (eQ (gG (eQ fc (eQ (gS jx rfl T.z_tuple jz (eQ (cv 4) eS)) (eQ (cv 2) eS)))) eS)))))),?_⟩
 cases cz.inj (show some (mw k (.row (lP l) k) s)=some s' from hw)
 refine⟨⟨_,_,M.o,ic (by decide+kernel)⟩,ps,xs,rfl,.inl ⟨SqL.of ep,fun a1 h1=>⟨(by show 3<=sizeLine;decide),fun a ha=>?_⟩⟩⟩
 have S1:=eX h1 (.tup xs)
 exact oq (v:= .row (lP l) k) (M.same S1) hb.le ha (.cons (.flat rfl) (.cons (mX h1 il) (.cons (.flat rfl) .nil))) (by rw[Vl.d,z7,l7];rfl) fun H' M' F'=>q H' M' ((FM.same S1).trans F')
theorem tU (T:Txt K mg):gu P w K mg base CX0 4 T.a_work_call T.fd_work_call ["machine","row","place","scope","parts"] (kb T.a_Machine T.a_Program fun ρ=>∃ks,ρ= .op "call" ks):=by
 have G_Machine_comes_as:=kN (P:=P) (w:=w) (base:=base) T
 have G_Machine_go_into:=jF (P:=P) (w:=w) (base:=base) T
 refine T.F_work_call.ok oe (fun vs H Q E h=>?_) (fun cdv A0 outer s0 H vs Q E hr h=>?_)
 ·obtain⟨A,tu,s,s',k,sc,t,ps,x,xs,l,ρ,names,roots,ρs,ho,rfl,_⟩:=h
  rfl
 obtain⟨A,tu,s,s',k,sc,t,ps,x,xs,l,ρ,names,roots,ρs,ho,rfl,M,c,hk,⟨ks,rfl⟩,it,ix,ep,np,il,hb,hw,q⟩:=h
 refine⟨_,(eW (gr (jd (f6 (fQ (PE.mono (cv 0)) T.cl_Machine T.me_Machine_comes_as G_Machine_comes_as (hr.mono (by decide)) T.b_Machine_comes_as .nil fO (eQ fc (eQ (ft f7 (cv 4) eU (fun _ _=>rfl)) (eQ (cv 2) (eQ eU eS)))))))
   (eR (fC (i:=5) oe.nd rfl (.inl rfl) (ft fq (ft f7 (cv 4) eU (fun _ _=>rfl)) eU (fun _ _=>rfl)))
   (eW (fE (f6 (fQ (PE.mono (cv 0)) T.cl_Machine T.me_Machine_go_into G_Machine_go_into (hr.mono (by decide)) T.b_Machine_go_into .nil fO (eQ (ft fq (cv 5) eU (fun _ _=>rfl)) (eQ (gG (eQ (ft fq (cv 5) eU (fun _ _=>rfl)) (eQ (ft f7 (cv 4) eU (fun _ _=>rfl)) (eQ (ft fq (cv 5) eU (fun _ _=>rfl)) eS)))) (eQ (cv 2) eS))))))))
   fw)),?_⟩
 obtain⟨f,a,rfl⟩:=qK (.inl rfl) hw
 obtain⟨x0,x1,rfl,i0,i1⟩:=Dx il
 rw[yO]at hw
 have b1:=hb.1
 refine⟨⟨_,_,M.o,ic (by decide+kernel)⟩,_,ep,fg (eY (j:=0) rfl) ⟨A,tu,s,"fn",x0,f,k,0,rfl,M,i0,by lia,fun H1 M1 F1=>?_⟩⟩
 have ep1:=F1.get ep np
 have i01:=i0.mono (M.tk F1)
 have i11:=i1.mono (M.tk F1)
 have no:f.s≠"fn"->some (iJ f k 0 false s)=some s'->isS "fn" f=false/\∀H',Mc T.a_Machine H' A tu (iJ f k 0 (isS "fn" f) s)->FM A H H'->Q .non H':=fun n e=>by
  have:isS "fn" f=false:=decide_eq_false n
  refine⟨this,?_⟩
  rw[this,cz.inj e]
  exact q
 cases f with
 |fn c e pf=>
  have e1:isS "fn" (.fn c e pf)=true:=by kernel_rfl
  rw[e1]at M1⊢
  cases cz.inj (show some (oA c (.cons c a e) k (iJ (.fn c e pf) k 0 true s))=some s' from hw)
  obtain⟨t0,y,rfl,et,iy⟩:=nE i01
  obtain⟨t1,y1,y2,rfl,et1,j1,j2⟩:=rW (show Im H1 y (.tup [kD c,e.d])from iy)
  cases j1
  refine⟨_,rfl,iM ⟨_,ep1,fg (eY (j:=0) rfl) ⟨_,et,fg (eY (j:=1) rfl) ?_⟩⟩⟩
  exact⟨⟨_,_,M1.o,ic (by decide+kernel)⟩,_,et1,fg (eY (j:=0) rfl) ⟨_,et1,fg (eY (j:=0) rfl) ⟨_,ep1,fg (eY (j:=1) rfl) ⟨_,et1,fg (eY (j:=1) rfl) ⟨(by show 3<=sizeLine;decide),fun a' ha=>u4 (sc:= .cons c a e) M1 hb.come.le ha (.cons (.flat rfl) (.cons i11 (.cons j2 .nil))) (by rw[Ev.d];rfl) fun H' M' F'=>q H' M' (F1.trans F')⟩⟩⟩⟩⟩
 |num _ _=>obtain⟨z,qq⟩:=no (by show("num":Str)≠"fn";decide+kernel) hw;rw[z]at qq M1⊢;exact⟨_,rfl,gR (qq _ M1 F1)⟩
 |rcd _ _=>obtain⟨z,qq⟩:=no (by show("rec":Str)≠"fn";decide+kernel) hw;rw[z]at qq M1⊢;exact⟨_,rfl,gR (qq _ M1 F1)⟩
 |tag _ _ _=>obtain⟨z,qq⟩:=no (by show("tag":Str)≠"fn";decide+kernel) hw;rw[z]at qq M1⊢;exact⟨_,rfl,gR (qq _ M1 F1)⟩
 |row _ _=>obtain⟨z,qq⟩:=no (by show("row":Str)≠"fn";decide+kernel) hw;rw[z]at qq M1⊢;exact⟨_,rfl,gR (qq _ M1 F1)⟩
theorem ve (T:Txt K mg):gu P w K mg base CX0 4 T.a_work_add T.fd_work_add ["machine","row","place","scope","parts"] (kb T.a_Machine T.a_Program fun ρ=>∃ks,ρ= .op "add" ks):=by
 have G_Machine_both_come_as:=gX (P:=P) (w:=w) (base:=base) T
 have G_Machine_finish:=fX (P:=P) (w:=w) (base:=base) T
 refine T.F_work_add.ok uO (fun vs H Q E h=>?_) (fun cdv A0 outer s0 H vs Q E hr h=>?_)
 ·obtain⟨A,tu,s,s',k,sc,t,ps,x,xs,l,ρ,names,roots,ρs,ho,rfl,_⟩:=h
  rfl
 obtain⟨A,tu,s,s',k,sc,t,ps,x,xs,l,ρ,names,roots,ρs,ho,rfl,M,c,hk,⟨ks,rfl⟩,it,ix,ep,np,il,hb,hw,q⟩:=h
 refine⟨_,(eW (gr (jd (f6 (fQ (PE.mono (cv 0)) T.cl_Machine T.me_Machine_both_come_as G_Machine_both_come_as (hr.mono (by decide)) T.b_Machine_both_come_as .nil fO (eQ fc (eQ (cv 4) (eQ (cv 2) eS))))))
   (eW (fE (f6 (fQ (PE.mono (cv 0)) T.cl_Machine T.me_Machine_finish G_Machine_finish (hr.mono (by decide)) T.b_Machine_finish .nil fO (eQ (cv 2) (eQ (gG (eQ fc (eQ (fH kQ (ft fq (ft f7 (cv 4) eU (fun _ _=>rfl)) eU (fun _ _=>rfl)) (ft fq (ft f7 (cv 4) eU (fun _ _=>rfl)) eU (fun _ _=>rfl))) (eQ (cv 2) eS)))) eS))))))
   fw)),?_⟩
 obtain⟨a,b,rfl⟩:=qK (.inr (.inr (.inl rfl))) hw
 obtain⟨x0,x1,rfl,i0,i1⟩:=Dx il
 rw[AM]at hw
 have b1:=hb.1
 refine⟨⟨_,_,M.o,ic (by decide+kernel)⟩,A,tu,s,"num",ps,x0,x1,a,b,k,rfl,M,ep,fun z=>np (by rw[z];exact ah),fun z=>np (ai _ z),i0,i1,by lia,fun H1 M1 F1=>?_⟩
 cases e:(ie "num" a b k s).2 with
 |false=>
  rw[e,if_neg dN]at hw
  cases cz.inj hw
  exact⟨_,rfl,gR (q _ M1 F1)⟩
 |true=>
  rw[e,if_pos rfl]at hw
  obtain⟨ea,eb⟩:=rX e
  obtain⟨n,pn,rfl⟩:=qL ea
  obtain⟨m,pm,rfl⟩:=qL eb
  cases cz.inj hw
  obtain⟨ta,rfl,eta⟩:=ot (i0.mono (M.tk F1))
  obtain⟨tb,rfl,etb⟩:=ot (i1.mono (M.tk F1))
  have ep1:=F1.get ep np
  exact⟨_,rfl,iM ⟨⟨_,_,M1.o,ic (by decide+kernel)⟩,_,ep1,fg (eY (j:=0) rfl) ⟨_,eta,fg (eY (j:=1) rfl) ⟨_,ep1,fg (eY (j:=1) rfl) ⟨_,etb,fg (eY (j:=1) rfl) ⟨(by show 3<=sizeLine;decide),fun a' ha=>oq (v:= .num (n+m) k) M1 hb.both.le ha (.cons (.flat rfl) (.cons (.flat rfl) (.cons (.flat rfl) .nil))) (by rw[Vl.d];rfl) fun H' M' F'=>q H' M' (F1.trans F')⟩⟩⟩⟩⟩⟩
theorem vf (T:Txt K mg):gu P w K mg base CX0 4 T.a_work_sub T.fd_work_sub ["machine","row","place","scope","parts"] (kb T.a_Machine T.a_Program fun ρ=>∃ks,ρ= .op "sub" ks):=by
 have G_Machine_both_come_as:=gX (P:=P) (w:=w) (base:=base) T
 have G_Machine_finish:=fX (P:=P) (w:=w) (base:=base) T
 refine T.F_work_sub.ok uP (fun vs H Q E h=>?_) (fun cdv A0 outer s0 H vs Q E hr h=>?_)
 ·obtain⟨A,tu,s,s',k,sc,t,ps,x,xs,l,ρ,names,roots,ρs,ho,rfl,_⟩:=h
  rfl
 obtain⟨A,tu,s,s',k,sc,t,ps,x,xs,l,ρ,names,roots,ρs,ho,rfl,M,c,hk,⟨ks,rfl⟩,it,ix,ep,np,il,hb,hw,q⟩:=h
 refine⟨_,(eW (gr (jd (f6 (fQ (PE.mono (cv 0)) T.cl_Machine T.me_Machine_both_come_as G_Machine_both_come_as (hr.mono (by decide)) T.b_Machine_both_come_as .nil fO (eQ fc (eQ (cv 4) (eQ (cv 2) eS))))))
   (eW (fE (f6 (fQ (PE.mono (cv 0)) T.cl_Machine T.me_Machine_finish G_Machine_finish (hr.mono (by decide)) T.b_Machine_finish .nil fO (eQ (cv 2) (eQ (gG (eQ fc (eQ (fH lV (ft fq (ft f7 (cv 4) eU (fun _ _=>rfl)) eU (fun _ _=>rfl)) (ft fq (ft f7 (cv 4) eU (fun _ _=>rfl)) eU (fun _ _=>rfl))) (eQ (cv 2) eS)))) eS))))))
   fw)),?_⟩
 obtain⟨a,b,rfl⟩:=qK (.inr (.inr (.inr (.inl rfl)))) hw
 obtain⟨x0,x1,rfl,i0,i1⟩:=Dx il
 rw[AN]at hw
 have b1:=hb.1
 refine⟨⟨_,_,M.o,ic (by decide+kernel)⟩,A,tu,s,"num",ps,x0,x1,a,b,k,rfl,M,ep,fun z=>np (by rw[z];exact ah),fun z=>np (ai _ z),i0,i1,by lia,fun H1 M1 F1=>?_⟩
 cases e:(ie "num" a b k s).2 with
 |false=>
  rw[e,if_neg dN]at hw
  cases cz.inj hw
  exact⟨_,rfl,gR (q _ M1 F1)⟩
 |true=>
  rw[e,if_pos rfl]at hw
  obtain⟨ea,eb⟩:=rX e
  obtain⟨n,pn,rfl⟩:=qL ea
  obtain⟨m,pm,rfl⟩:=qL eb
  cases cz.inj hw
  obtain⟨ta,rfl,eta⟩:=ot (i0.mono (M.tk F1))
  obtain⟨tb,rfl,etb⟩:=ot (i1.mono (M.tk F1))
  have ep1:=F1.get ep np
  exact⟨_,rfl,iM ⟨⟨_,_,M1.o,ic (by decide+kernel)⟩,_,ep1,fg (eY (j:=0) rfl) ⟨_,eta,fg (eY (j:=1) rfl) ⟨_,ep1,fg (eY (j:=1) rfl) ⟨_,etb,fg (eY (j:=1) rfl) ⟨(by show 3<=sizeLine;decide),fun a' ha=>oq (v:= .num (n-m) k) M1 hb.both.le ha (.cons (.flat rfl) (.cons (.flat rfl) (.cons (.flat rfl) .nil))) (by rw[Vl.d];rfl) fun H' M' F'=>q H' M' (F1.trans F')⟩⟩⟩⟩⟩⟩
theorem tV (T:Txt K mg):gu P w K mg base CX0 4 T.a_work_less T.fd_work_less ["machine","row","place","scope","parts"] (kb T.a_Machine T.a_Program fun ρ=>∃ks,ρ= .op "less" ks):=by
 have G_Machine_both_come_as:=gX (P:=P) (w:=w) (base:=base) T
 have G_Machine_finish:=fX (P:=P) (w:=w) (base:=base) T
 refine T.F_work_less.ok oj (fun vs H Q E h=>?_) (fun cdv A0 outer s0 H vs Q E hr h=>?_)
 ·obtain⟨A,tu,s,s',k,sc,t,ps,x,xs,l,ρ,names,roots,ρs,ho,rfl,_⟩:=h
  rfl
 obtain⟨A,tu,s,s',k,sc,t,ps,x,xs,l,ρ,names,roots,ρs,ho,rfl,M,c,hk,⟨ks,rfl⟩,it,ix,ep,np,il,hb,hw,q⟩:=h
 refine⟨_,(eW (gr (jd (f6 (fQ (PE.mono (cv 0)) T.cl_Machine T.me_Machine_both_come_as G_Machine_both_come_as (hr.mono (by decide)) T.b_Machine_both_come_as .nil fO (eQ fc (eQ (cv 4) (eQ (cv 2) eS))))))
   (eR (fC (i:=5) oj.nd rfl (.inl rfl) (qQ (fz BB (ft fq (ft f7 (cv 4) eU (fun _ _=>rfl)) eU (fun _ _=>rfl)) (ft fq (ft f7 (cv 4) eU (fun _ _=>rfl)) eU (fun _ _=>rfl)) (fD _)) fc fc))
   (eW (fE (f6 (fQ (PE.mono (cv 0)) T.cl_Machine T.me_Machine_finish G_Machine_finish (hr.mono (by decide)) T.b_Machine_finish .nil fO (eQ (cv 2) (eQ (gG (eQ fc (eQ (gG (eQ (cv 5) (eQ (gG (eQ fc (eQ (gG eS) (eQ (cv 2) eS)))) eS))) (eQ (cv 2) eS)))) eS)))))))
   fw)),?_⟩
 obtain⟨a,b,rfl⟩:=qK (.inr (.inr (.inr (.inr rfl)))) hw
 obtain⟨x0,x1,rfl,i0,i1⟩:=Dx il
 rw[yP]at hw
 have b1:=hb.1
 refine⟨⟨_,_,M.o,ic (by decide+kernel)⟩,A,tu,s,"num",ps,x0,x1,a,b,k,rfl,M,ep,fun z=>np (by rw[z];exact ah),fun z=>np (ai _ z),i0,i1,by lia,fun H1 M1 F1=>?_⟩
 cases e:(ie "num" a b k s).2 with
 |false=>
  rw[e,if_neg dN]at hw
  cases cz.inj hw
  exact⟨_,rfl,gR (q _ M1 F1)⟩
 |true=>
  rw[e,if_pos rfl]at hw
  obtain⟨ea,eb⟩:=rX e
  obtain⟨n,pn,rfl⟩:=qL ea
  obtain⟨m,pm,rfl⟩:=qL eb
  cases cz.inj hw
  obtain⟨ta,rfl,eta⟩:=ot (i0.mono (M.tk F1))
  obtain⟨tb,rfl,etb⟩:=ot (i1.mono (M.tk F1))
  have ep1:=F1.get ep np
  refine⟨_,rfl,iM ⟨_,ep1,fg (eY (j:=0) rfl) ⟨_,eta,fg (eY (j:=1) rfl) ⟨_,ep1,fg (eY (j:=1) rfl) ⟨_,etb,fg (eY (j:=1) rfl) ?_⟩⟩⟩⟩⟩
  dsimp only[cI0,onB]
  cases hd:decide (n<m)with
  |true=>
   refine iM ?_
   dsimp only[iQ,tC]
   exact⟨⟨_,_,M1.o,ic (by decide+kernel)⟩,(by show 0<=sizeLine;decide),fun a1 h1=>⟨(by show 3<=sizeLine;decide),fun a2 h2=>⟨(by show 2<=sizeLine;decide),fun a3 h3=>⟨(by show 3<=sizeLine;decide),fun a' ha=>AQ (f:=true) M1 hb.both.le h1 h2 h3 ha (by rw[<-hd];exact fun H' M' F'=>q H' M' (F1.trans F'))⟩⟩⟩⟩
  |false=>
   refine gR ?_
   dsimp only[iQ,tC]
   exact⟨⟨_,_,M1.o,ic (by decide+kernel)⟩,(by show 0<=sizeLine;decide),fun a1 h1=>⟨(by show 3<=sizeLine;decide),fun a2 h2=>⟨(by show 2<=sizeLine;decide),fun a3 h3=>⟨(by show 3<=sizeLine;decide),fun a' ha=>AQ (f:=false) M1 hb.both.le h1 h2 h3 ha (by rw[<-hd];exact fun H' M' F'=>q H' M' (F1.trans F'))⟩⟩⟩⟩
theorem yQ {H:Hp} {x:V} {l:Vlr} {p:Int} (h:Im H x (Vl.row l p).d):∃t u zs,x= .ref t/\H t=some (.tup [.str "row",.ref u,.int p])/\H u=some (.tup zs)/\Ims H zs ((l6 l).map Vl.d):=by
 obtain⟨t,y,rfl,e,i⟩:=nE h
 have i:Im H y (.tup l.ds):=i
 rw[z7]at i
 cases i with
 |tup e2 i2=>exact⟨t,_,_,rfl,e,e2,i2⟩
theorem BX {K:PySem.W.Frag} {H:Hp} {a b:Addr} {xs ys:List V} {ds es:List Dt} {Q:VK} (ea:H a=some (.tup xs)) (eb:H b=some (.tup ys)) (ia:Ims H xs ds) (ib:Ims H ys es) (hl:xs.length+ys.length<=sizeLine) (q:∀(z:Addr) (zs:List V) (H':Hp),fK H H'->H' z=some (.tup zs)->Ims H' zs (ds++es)->Q (.ref z) H'):C5 K (.ref a) (.ref b) H Q:=by
 refine⟨a,b,xs,ys,rfl,rfl,SqT.of ea,SqT.of eb,hl,fun z=>?_,fun z=>?_,fun p hp=>?_⟩
 ·subst z
  cases ia
  exact q b ys H (fun _ _ e=>e) eb ib
 ·subst z
  cases ib
  rw[aD]at q
  exact q a xs H (fun _ _ e=>e) ea ia
 ·exact q p _ _ (eX hp _) eV ((ia.app ib).mono (fK.tk (eX hp _)))
theorem AR {v:Vl} (h:v.s="tag"):∃t x p,v= .tag t x p:=by
 cases v with
 |tag n x p=>exact⟨n,x,p,rfl⟩
 |fn _ _ _=>exact absurd (show("fn":Str)="tag" from h) (by decide+kernel)
 |rcd _ _=>exact absurd (show("rec":Str)="tag" from h) (by decide+kernel)
 |row _ _=>exact absurd (show("row":Str)="tag" from h) (by decide+kernel)
 |num _ _=>exact absurd (show("num":Str)="tag" from h) (by decide+kernel)
theorem qM {hm:Option Hm} {p b:Int} {sc:Ev} {ks:List (Str×Str×Int)} {s:Ms} {v:Vl} (h:v.s≠"tag"):lD hm p sc (.case b ks) [v] s=some (iJ v p 0 false s):=by
 cases v with
 |tag _ _ _=>exact absurd rfl h
 |_=>rfl
theorem rY {H H':Hp} (k:TK H H'):∀{l:List V} {m:List (Str×V)},Prs H l m->Prs H' l m
 |_,_,.nil=> .nil
 |_,_,.cons h t=> .cons (k _ _ h) (rY k t)
theorem vZ {H:Hp} {a:Addr} {p:Str×V} (e:H a=some (.tup [.str p.1,p.2])):∀{l:List V} {m:List (Str×V)},Prs H l m->Prs H (l++[.ref a]) (m++[p])
 |_,_,.nil=> .cons e .nil
 |_,_,.cons h t=> .cons h (vZ e t)
def amP (p:Str×Str×Int):Str×V:=(p.1,.int p.2.2)
theorem BY {K:PySem.W.Frag} {a:Addr} {te:TE} {Q:VK} {τ:St} {H1:Hp} {D:Addr} {xs:List V} {α:Type} {f:α->Dt} {g:α->Str×V} {l:List α} (e:H1 a=some (.tup xs)) (I:Ims H1 xs (l.map f)) (hn:l.length<=100) (hD:H1 D=none) (hτ:τ.set 0 none=τ)
  (ht:∀(x:α) (v:V) H (R:VK),Im H v (f x)->(∀p,H p=none->R (.ref p) (upd H p (.tup [.str (g x).1,(g x).2])))->te (τ.set 0 (some v)) H R)
  (hq:∀H' zs,fK H1 H'->H' D=some (.lst zs)->Prs H' zs (l.map g)->Q (.ref D) H'):LcP (Itt K a) 0 ph te Q τ H1 D:=by
 have sl:sizeLine=16777216:=sizeLine_eq
 have lx:=I.length
 rw[aC]at lx
 refine yh l.length (by lia) (fun ys H=>Prs H ys ((l.take ys.length).map g)) (fun xs H H' h k=>rY k h) hD hτ (fun k H S h=>AD e S (by lia)) (fun H S=>by rw[<-lx];exact AE e S) .nil ?_ ?_
 ·intro k H v H3 ys Z S hk y hys hl hz
  obtain⟨rfl,hv⟩:=y
  have hv:=hv _ (SqT.of (S _ _ e))
  obtain⟨d,hd,him⟩:=kU I hv
  rw[aK]at hd
  obtain⟨x,hx⟩:∃x,l[k]?=some x:=⟨_,bq hk⟩
  rw[hx]at hd
  cases hd
  refine ht x v H3 Z (him.mono (fK.tk S)) fun p hp=>hz _ _ (eX hp _) ?_
  rw[aN,hl,aY,bR,hx,a9,<-hl]
  exact vZ eV (rY (fK.tk (eX hp _)) hys)
 ·intro H' ys S hys hl e'
  rw[hl,bh]at hys
  exact hq H' ys S e' hys
theorem AS:∀(l:List (Str×Str×Int)) (t:Str),je ((l.map amP).map kf) (Sum.inr t)=(lkI l t).map V.int
 |[],t=>rfl
 |p::l,t=>by
  rw[aB,aB,lkI]
  by_cases e:p.1=t
  ·rw[if_pos e,i9 (show(kf (amP p)).1=Sum.inr t from congrArg Sum.inr e)]
   rfl
  ·rw[if_neg e,ja (fun z=>e (Sum.inr.inj z)),AS l t]
theorem yR {l:List (Str×Str×Int)} (h:(l.map Prod.fst).Nodup) (t:Str):je (iL [] ((l.map amP).map kf)) (Sum.inr t)=(lkI l t).map V.int:=by
 have nd:(((l.map amP).map kf).map (·.1)).Nodup:=by
  rw[br,br]
  have e:List.map (((fun(x:Key×V)=>x.1)∘kf)∘amP) l=(l.map Prod.fst).map (Sum.inr:Str->Key):=by rw[br];rfl
  rw[e]
  exact List.Pairwise.map _ (fun a b h z=>h (Sum.inr.inj z)) h
 rw[mV _ _ _ nd,AS]
 cases lkI l t<;>rfl
theorem tW (T:Txt K mg):gu P w K mg base CX0 4 T.a_work_join T.fd_work_join ["machine","row","place","scope","parts"] (kb T.a_Machine T.a_Program fun ρ=>∃ks,ρ= .op "join" ks):=by
 have G_Machine_both_come_as:=gX (P:=P) (w:=w) (base:=base) T
 have G_Machine_finish:=fX (P:=P) (w:=w) (base:=base) T
 refine T.F_work_join.ok oh (fun vs H Q E h=>?_) (fun cdv A0 outer s0 H vs Q E hr h=>?_)
 ·obtain⟨A,tu,s,s',k,sc,t,ps,x,xs,l,ρ,names,roots,ρs,ho,rfl,_⟩:=h
  rfl
 obtain⟨A,tu,s,s',k,sc,t,ps,x,xs,l,ρ,names,roots,ρs,ho,rfl,M,c,hk,⟨ks,rfl⟩,it,ix,ep,np,il,hb,hw,q⟩:=h
 refine⟨_,(eW (gr (jd (f6 (fQ (PE.mono (cv 0)) T.cl_Machine T.me_Machine_both_come_as G_Machine_both_come_as (hr.mono (by decide)) T.b_Machine_both_come_as .nil fO (eQ fc (eQ (cv 4) (eQ (cv 2) eS))))))
   (eR (fC (i:=5) oh.nd rfl (.inl rfl) (fH BC (ft fq (ft f7 (cv 4) eU (fun _ _=>rfl)) eU (fun _ _=>rfl)) (ft fq (ft f7 (cv 4) eU (fun _ _=>rfl)) eU (fun _ _=>rfl))))
   (eW (gr (fz sZ (fV fS rfl T.z_len jy (eQ (cv 5) eS)) (nJ rfl T.m_MOST_JOINED) (fD _))
    (eW (iD T.cl_Machine T.n_Machine_end (iK (PE.mono (cv 0)) (PE.mono fc) rfl)))
    (eW (fE (f6 (fQ (PE.mono (cv 0)) T.cl_Machine T.me_Machine_finish G_Machine_finish (hr.mono (by decide)) T.b_Machine_finish .nil fO (eQ (cv 2) (eQ (gG (eQ fc (eQ (cv 5) (eQ (cv 2) eS)))) eS)))))))))
   fw)),?_⟩
 have sl:sizeLine=16777216:=sizeLine_eq
 obtain⟨a,b,rfl⟩:=qK (.inr (.inl rfl)) hw
 obtain⟨x0,x1,rfl,i0,i1⟩:=Dx il
 rw[vc]at hw
 have b1:=hb.1
 refine⟨⟨_,_,M.o,ic (by decide+kernel)⟩,A,tu,s,"row",ps,x0,x1,a,b,k,rfl,M,ep,fun z=>np (by rw[z];exact ah),fun z=>np (ai _ z),i0,i1,by lia,fun H1 M1 F1=>?_⟩
 cases e:(ie "row" a b k s).2 with
 |false=>
  rw[e,if_neg dN]at hw
  cases cz.inj hw
  exact⟨_,rfl,gR (q _ M1 F1)⟩
 |true=>
  rw[e,if_pos rfl]at hw
  obtain⟨ea,eb⟩:=rX e
  obtain⟨n,pn,rfl⟩:=AO ea
  obtain⟨m,pm,rfl⟩:=AO eb
  by_cases h5:500<(jE (.row n pn)).length\/500<(jE (.row m pm)).length
  ·rw[if_pos h5]at hw;cases hw
  rw[if_neg h5]at hw
  have h5:(l6 n).length<=500/\(l6 m).length<=500:=by
   rw[not_or,cw,cw]at h5
   exact h5
  obtain⟨ta,ua,za,rfl,eta,eua,ia⟩:=yQ (i0.mono (M.tk F1))
  obtain⟨tb,ub,zb,rfl,etb,eub,ib⟩:=yQ (i1.mono (M.tk F1))
  have ep1:=F1.get ep np
  have la:=ia.length
  have lb:=ib.length
  rw[aC]at la lb
  refine⟨_,rfl,iM ⟨_,ep1,fg (eY (j:=0) rfl) ⟨_,eta,fg (eY (j:=1) rfl) ⟨_,ep1,fg (eY (j:=1) rfl) ⟨_,etb,fg (eY (j:=1) rfl) ?_⟩⟩⟩⟩⟩
  refine BX eua eub ia ib (by lia) fun z zs H2 S2 ez iz=>?_
  rw[<-a9]at iz
  have M2:=M1.same S2
  have F2:=F1.trans (FM.same S2)
  have lz:=iz.length
  rw[aC]at lz
  dsimp only[iQ]
  refine⟨z,zs,rfl,.inr (SqT.of ez),?_⟩
  by_cases h6:60<(l6 n++l6 m).length
  ·rw[if_pos (show 60<(jE (.row n pn)++jE (.row m pm)).length from h6)]at hw
   cases cz.inj hw
   dsimp only[tC,cI0,onB]
   rw[decide_eq_true (show(60:Int)<(zs.length:Int) by lia)]
   refine iM ⟨_,_,M2.o,by show 10<1000;decide,?_⟩
   rw[oQ]
   obtain⟨M3,F3⟩:=M2.setO _ (some "full")
   exact q _ M3 (F2.trans F3)
  ·rw[if_neg (show ¬60<(jE (.row n pn)++jE (.row m pm)).length from h6)]at hw
   cases cz.inj hw
   dsimp only[tC,cI0,onB]
   rw[decide_eq_false (show ¬(60:Int)<(zs.length:Int) by lia)]
   refine gR ⟨⟨_,_,M2.o,ic (by decide+kernel)⟩,(by show 3<=sizeLine;decide),fun a' ha=>oq (v:= .row (lP (l6 n++l6 m)) k) M2 hb.both.le ha (.cons (.flat rfl) (.cons (.tup ez iz) (.cons (.flat rfl) .nil))) (by rw[Vl.d,z7,l7];rfl) fun H' M' F'=>q H' M' (F2.trans F')⟩
theorem tX (T:Txt K mg):gu P w K mg base CX0 4 T.a_work_case T.fd_work_case ["machine","row","place","scope","parts"] (kb T.a_Machine T.a_Program fun ρ=>∃b ks,ρ= .case b ks):=by
 have G_Machine_comes:=lJ (P:=P) (w:=w) (base:=base) T
 have G_Machine_go_into:=jF (P:=P) (w:=w) (base:=base) T
 refine T.F_work_case.ok kS (fun vs H Q E h=>?_) (fun cdv A0 outer s0 H vs Q E hr h=>?_)
 ·obtain⟨A,tu,s,s',k,sc,t,ps,x,xs,l,ρ,names,roots,ρs,ho,rfl,_⟩:=h
  rfl
 have hu:=sR hr
 obtain⟨A,tu,s,s',k,sc,t,ps,x,xs,l,ρ,names,roots,ρs,ho,rfl,M,c,hk,⟨b,ks,rfl⟩,it,ix,ep,np,il,hb,hw,q⟩:=h
 refine⟨_,(eR (fC (i:=5) kS.nd rfl (.inl rfl) (gS (wG rfl) rfl T.z_dict xW (eQ (sS rfl (Bw (x:="arm") rfl (by decide+kernel) (by decide+kernel) rfl rfl) (qp (ft fq (cv 1) eU (fun _ _=>rfl))) (fun _ _ _ _ _=>nM) (fun _ _ _ _ _=>(gG (eQ (ft fq (cv 0) eU (fun _ _=>rfl)) (eQ (ft fq (cv 0) eU (fun _ _=>rfl)) eS))))) eS)))
  (eR (fC (i:=6) kS.nd rfl (.inl rfl) (ft fq (ft f7 (cv 4) eU (fun _ _=>rfl)) eU (fun _ _=>rfl)))
  (eW (gr (jd (f6 (fQ (PE.mono (cv 0)) T.cl_Machine T.me_Machine_comes G_Machine_comes (hr.mono (by decide)) T.b_Machine_comes .nil fO (eQ (ft f7 (cv 4) eU (fun _ _=>rfl)) (eQ (cv 2) (eQ eU (eQ (m8 (jf ki (ft fq (ft f7 (cv 4) eU (fun _ _=>rfl)) eU (fun _ _=>rfl)) fc (fD _)) (m7 (xk (Ao hu (ft fq (cv 6) eU (fun _ _=>rfl)) (cv 5)) rfl))) eS)))))))
   (eR (fC (i:=7) kS.nd rfl (.inl rfl) (qX hu (cv 5) (ft fq (cv 6) eU (fun _ _=>rfl)) (fun _ _=>rfl)))
   (eW (fE (f6 (fQ (PE.mono (cv 0)) T.cl_Machine T.me_Machine_go_into G_Machine_go_into (hr.mono (by decide)) T.b_Machine_go_into .nil fO (eQ (cv 7) (eQ (gG (eQ (cv 7) (eQ (ft fq (cv 6) eU (fun _ _=>rfl)) (eQ (cv 3) eS)))) (eQ (cv 2) eS))))))))
   fw)))),?_⟩
 obtain⟨ys,et,iy⟩:=qJ it
 have rok:(ks.length<=100/\(ks.map Prod.fst).Nodup):=c.ok _ (aM hk)
 obtain⟨u,zs,et,eu,iz⟩:∃u zs,H t=some (.tup [.str "case",.int b,.ref u])/\H u=some (.tup zs)/\Ims H zs (ks.map amD):=by
  cases iy with
  |cons h1 iy=>
   cases h1
   cases iy with
   |cons h2 iy=>
    cases iy
    cases h2 with
    |tup e2 i2=>exact⟨_,_,et,e2,i2⟩
 refine⟨_,et,fg (eY (j:=2) rfl) ⟨u,rfl,⟨_,SqT.of eu⟩,fun D hD=>?_⟩⟩
 refine BY (g:=amP) eu iz rok.1 hD rfl (fun p v H2 R im hR=>?_) fun H1 ws S1 eD pD=>?_
 ·cases im with
  |tup e2 i2=>
   cases i2 with
   |cons h1 i2=>
    cases h1
    cases i2 with
    |cons h2 i2=>
     cases h2
     cases i2 with
     |cons h3 i2=>
      cases h3
      exact⟨_,e2,fg (eY (j:=0) rfl) ⟨_,e2,fg (eY (j:=2) rfl) ⟨(by show 2<=sizeLine;decide),hR⟩⟩⟩
 refine⟨D,ws,_,rfl,eD,pD,by rw[aC];lia,fun d hd=>?_⟩
 have S2:=S1.trans (eX hd (.dK (iL [] ((ks.map amP).map kf))))
 have ed:(L2.Internal.upd H1 d (.dK (iL [] ((ks.map amP).map kf)))) d=some (.dK (iL [] ((ks.map amP).map kf))):=eV
 dsimp only[iQ]
 generalize L2.Internal.upd H1 d (.dK (iL [] ((ks.map amP).map kf)))=H2 at S2 ed⊢
 have M2:=M.same S2
 match l,hw,il with
 |[],hw,_=>exact nomatch(show(none:Option Ms)=some s' from hw)
 |_::_::_,hw,_=>exact nomatch(show(none:Option Ms)=some s' from hw)
 |[v],hw,il=>
  obtain⟨y,rfl,iv⟩:=EW il
  have iv2:=iv.mono (fK.tk S2)
  have ep2:=S2 _ _ ep
  obtain⟨t0,y,rfl,et0,iy⟩:=nE iv2
  refine⟨_,ep2,fg (eY (j:=0) rfl) ⟨_,et0,fg (eY (j:=1) rfl) ?_⟩⟩
  dsimp only[iQ]
  refine⟨⟨_,_,M2.o,ic (by decide+kernel)⟩,_,ep2,fg (eY (j:=0) rfl) ⟨_,ep2,fg (eY (j:=0) rfl) ⟨_,et0,fg (eY (j:=0) rfl) ?_⟩⟩⟩
  have b1:=hb.1
  have nd:=(M.same S1).new hd
  have F2:FM A H H2:=FM.same S2
  dsimp only[tC,cEq]
  refine⟨_,rfl,?_⟩
  rw[dR]
  by_cases nt:v.s="tag"
  ·obtain⟨t',x',pt,rfl⟩:=AR nt
   obtain⟨ty,y1,y2,rfl,ety,j1,j2⟩:=rW (show Im H2 y (.tup [sD t',x'.d])from iy)
   cases j1
   rw[decide_eq_true (show(Vl.tag t' x' pt).s="tag" from rfl)]
   have g:=uu.k (k:=(Sum.inr t':Key)) ed
   rw[yR rok.2]at g
   have hw:(match lkI ks t' with|some b=>some (oA b (.cons b x' sc) k (iJ (.tag t' x' pt) k 0 true s))|none=>some (iJ (.tag t' x' pt) k 0 false s))=some s':=hw
   refine iM ⟨_,ety,fg (eY (j:=0) rfl) ⟨d,_,rfl,g,A,tu,s,_,.tag t' x' pt,k,0,_,rfl,M2,iv2,by lia,fun H3 M3 F3=>⟨_,rfl,?_⟩⟩⟩
   cases e:lkI ks t' with
   |none=>
    rw[e]at hw M3
    cases cz.inj hw
    exact gR (q _ M3 (F2.trans F3))
   |some bd=>
    rw[e]at hw M3
    cases cz.inj hw
    have k3:=M2.tk F3
    have g3:=uu.k (k:=(Sum.inr t':Key)) (F3.get ed nd)
    rw[yR rok.2,e]at g3
    exact iM ⟨_,k3 _ _ ety,fg (eY (j:=0) rfl) ⟨d,_,rfl,g3,⟨_,_,M3.o,ic (by decide+kernel)⟩,_,k3 _ _ ety,fg (eY (j:=1) rfl) ⟨(by show 3<=sizeLine;decide),fun a ha=>u4 (sc:= .cons bd x' sc) M3 hb.come.le ha (.cons (.flat rfl) (.cons (j2.mono k3) (.cons ((ix.mono (fK.tk S2)).mono k3) .nil))) (by rw[Ev.d];rfl) fun H' M' F'=>q H' M' ((F2.trans F3).trans F')⟩⟩⟩
  ·rw[qM nt]at hw
   rw[decide_eq_false nt]
   refine gR ⟨A,tu,s,_,v,k,0,false,rfl,M2,iv2,by lia,fun H3 M3 F3=>⟨_,rfl,gR ?_⟩⟩
   cases cz.inj hw
   exact q _ M3 (F2.trans F3)
def U0:Ro->Prop
 | .get _ _=>False
 | .rcd _=>False
 | .op o _=>o="call"\/o="join"\/o="add"\/o="sub"\/o="less"
 |_=>True
inductive WkS (T:Txt K mg):Addr->Sp->Prop
 |num:WkS T T.a_work_num (kb T.a_Machine T.a_Program fun ρ=>∃n,ρ= .num n)
 |name:WkS T T.a_work_name (kb T.a_Machine T.a_Program fun ρ=>∃n,ρ= .name n)
 |fn:WkS T T.a_work_fn (kb T.a_Machine T.a_Program fun ρ=>∃n b,ρ= .fn n b)
 |call:WkS T T.a_work_call (kb T.a_Machine T.a_Program fun ρ=>∃ks,ρ= .op "call" ks)
 |lt:WkS T T.a_work_let (kb T.a_Machine T.a_Program fun ρ=>∃n a b,ρ= .lt n a b)
 |tag:WkS T T.a_work_tag (kb T.a_Machine T.a_Program fun ρ=>∃n b,ρ= .tag n b)
 |case:WkS T T.a_work_case (kb T.a_Machine T.a_Program fun ρ=>∃b ks,ρ= .case b ks)
 |row:WkS T T.a_work_row (kb T.a_Machine T.a_Program fun ρ=>∃ks,ρ= .row ks)
 |join:WkS T T.a_work_join (kb T.a_Machine T.a_Program fun ρ=>∃ks,ρ= .op "join" ks)
 |add:WkS T T.a_work_add (kb T.a_Machine T.a_Program fun ρ=>∃ks,ρ= .op "add" ks)
 |sub:WkS T T.a_work_sub (kb T.a_Machine T.a_Program fun ρ=>∃ks,ρ= .op "sub" ks)
 |less:WkS T T.a_work_less (kb T.a_Machine T.a_Program fun ρ=>∃ks,ρ= .op "less" ks)
theorem WkS.at {T:Txt K mg} {X:Cx} (e1:X.prog=P) (e2:X.w=w) (e3:X.K=K) (e4:X.mg=mg) (e5:X.base=base) {f:Addr} {sp:Sp} (h:WkS T f sp):FN X CX0 4 f sp:=by
 subst e1 e2 e3 e4 e5
 cases h with
 |num=>exact⟨_,_,u0 T,T.k_work_num,T.b_work_num⟩
 |name=>exact⟨_,_,tT T,T.k_work_name,T.b_work_name⟩
 |fn=>exact⟨_,_,wY T,T.k_work_fn,T.b_work_fn⟩
 |call=>exact⟨_,_,tU T,T.k_work_call,T.b_work_call⟩
 |lt=>exact⟨_,_,va T,T.k_work_let,T.b_work_let⟩
 |tag=>exact⟨_,_,vb T,T.k_work_tag,T.b_work_tag⟩
 |case=>exact⟨_,_,tX T,T.k_work_case,T.b_work_case⟩
 |row=>exact⟨_,_,vd T,T.k_work_row,T.b_work_row⟩
 |join=>exact⟨_,_,tW T,T.k_work_join,T.b_work_join⟩
 |add=>exact⟨_,_,ve T,T.k_work_add,T.b_work_add⟩
 |sub=>exact⟨_,_,vf T,T.k_work_sub,T.b_work_sub⟩
 |less=>exact⟨_,_,tV T,T.k_work_less,T.b_work_less⟩
structure Wk (P:Program) (w:World) (T:Txt K mg) where
 a:Addr
 m:mg "WORKERS"=some (.ref a)
 kvs:List (Key×V)
 kd:xZ P w K a kvs
 yes:∀ρ,U0 ρ->∃f U,je kvs (Sum.inr ρ.s)=some (.ref f)/\WkS T f (kb T.a_Machine T.a_Program U)/\U ρ
inductive XWp (C CP:Addr) (vs:List V) (H:Hp) (Q:VK):Prop
 |mk (A:Mad) (tu:Nat) (s s':Ms) (k:Nat) (sc:Ev) (x:V) (ρ:Ro) (l rd:List Vl) (names:List Str) (roots:List Nat) (ρs:List Ro) (ho:Nat->Option Hm) (e:vs=[.ref A.m,.int (k:Int),x]) (M:Mc C H A tu s) (c:Ctx CP H A names roots ρs ho) (hk:ρs[k]?=some ρ) (hu:U0 ρ) (ix:Im H x sc.d) (hb:Bd 9000000 s) (ht:tkR (mD ρ).length s.rd []=some (l,rd)) (hw:lD (ho k) k sc ρ l {s with rd:=rd}=some s') (q:∀H',Mc C H' A tu s'->FM A H H'->Q .non H')
def EY (C CP:Addr):Sp:=fun vs H Q _=>XWp C CP vs H Q
theorem ma (T:Txt K mg) (W:Wk P w T):gu P w K mg base CX0 8 T.a_Machine_work_parts T.fd_Machine_work_parts ["self","place","scope"] (EY T.a_Machine T.a_Program):=by
 have G_first_parts:=mE (P:=P) (w:=w) (base:=base) T
 have G_Machine_take_ready:=l8 (P:=P) (w:=w) (base:=base) T
 refine T.F_Machine_work_parts.ok jX (fun vs H Q E h=>?_) (fun cdv A0 outer s0 H vs Q E hr h=>?_)
 ·obtain⟨A,tu,s,s',k,sc,x,ρ,l,rd,names,roots,ρs,ho,rfl,_⟩:=h
  rfl
 obtain⟨A,tu,s,s',k,sc,x,ρ,l,rd,names,roots,ρs,ho,rfl,M,c,hk,hu,ix,hb,ht,hw,q⟩:=h
 refine⟨_,(eR (fC (i:=3) jX.nd rfl (.inl rfl) (ft f7 (fN T.cl_Program T.n_Program_rows (fN T.cl_Machine T.n_Machine_program (cv 0))) (cv 1) (fun _ _=>rfl)))
  (eW (fE (zE (fun f sp (h:WkS T f sp)=>h.at rfl rfl rfl rfl rfl) (hr.mono (by decide)) fO (yd W.kd (zt rfl W.m) (ft fq (cv 3) eU (fun _ _=>rfl)) (fun _ _=>rfl)) (eQ (cv 0) (eQ (cv 3) (eQ (cv 1) (eQ (cv 2) (eQ (f6 (fQ (PE.mono (cv 0)) T.cl_Machine T.me_Machine_take_ready G_Machine_take_ready (hr.mono (by decide)) T.b_Machine_take_ready .nil fO (eQ (fV fS rfl T.z_len jy (eQ (fA G_first_parts (hr.mono (by decide)) rfl T.m_first_parts T.k_first_parts T.b_first_parts .nil fO (eQ (cv 3) eS)) eS)) eS))) eS))))))))),?_⟩
 obtain⟨n,r,w,dx,xs,pr,n1,n2,n3,n4⟩:=c.p
 obtain⟨tr,ys,hxt,etr,_,him⟩:=rQ pr.i hk
 have rok:=c.ok ρ (aM hk)
 obtain⟨f,U,hv,hS,hU⟩:=W.yes ρ hu
 refine⟨_,⟨_,_,M.o,mY⟩,_,⟨_,_,pr.o,rO _ _ _⟩,_,pr.w,fg (eY hxt) ?_⟩
 dsimp only[iQ]
 refine⟨_,etr,fg (eY (j:=0) rfl) ⟨Sum.inr ρ.s,_,rfl,rfl,hv,f,_,rfl,hS,?_⟩⟩
 refine⟨⟨_,_,M.o,ic (by decide+kernel)⟩,ρ,rok,tr,rfl,him,fun lp H1 S1 hlp e1=>?_⟩
 have M1:=M.same S1
 have fl:(mD ρ).length<=101:=uY rok
 refine⟨lp,_,rfl,.inl (SqL.of e1),A,tu,s,(mD ρ).length,l,rd,?_,M1,by lia,ht,fun H2 ps zs h0 ep iz M2 F2=>?_⟩
 ·rw[aC];rfl
 have c2:=(c.fm M (FM.same S1)).fm M1 F2
 have k2:TK H H2:=fun a xs e=>M1.tk F2 _ _ (fK.tk S1 _ _ e)
 have F02:=(FM.same (A:=A) S1).trans F2
 obtain⟨t1,_,t3⟩:=oR ht
 refine⟨A,tu,_,s',k,sc,tr,ps,x,zs,l,ρ,names,roots,ρs,ho,rfl,M2,c2,hk,hU,him.mono k2,ix.mono k2,ep,M1.new h0,iz,?_,hw,fun H' M' F'=>q H' M' (F02.trans F')⟩
 obtain⟨b1,b2,b3,b4,b5⟩:=hb
 exact⟨b1,b2,b3,b4,by show rd.length<=_;rw[t3,aU];lia⟩
structure Gw (d:Nat) (s s':Ms):Prop where
 me:s'.me.length<=s.me.length+ 2
 ha:s'.ha.length<=s.ha.length+ 1
 de:s'.de=s.de
 st:s'.st.length<=s.st.length+ 200
 rd:s'.rd.length<=s.rd.length+ 1
 bg:s'.bg=s.bg+d
theorem AU {p:Int} {v:Vl} {s s0:Ms} (h1:s.me.length<=s0.me.length+ 2) (h2:s.ha=s0.ha) (h3:s.de=s0.de) (h4:s.st=s0.st) (h5:s.rd=s0.rd) (h6:s.bg=s0.bg):Gw 0 s0 (mw p v s):=⟨h1,by show(_::s.ha).length<=_;rw[az,h2];exact b6 _,h3,by show s.st.length<=_;rw[h4];lia,by show(v::s.rd).length<=_;rw[az,h5];lia,h6⟩
theorem yS {p b:Int} {sc:Ev} {s s0:Ms} (h1:s.me.length<=s0.me.length+ 2) (h2:s.ha=s0.ha) (h3:s.de=s0.de) (h4:s.st=s0.st) (h5:s.rd=s0.rd) (h6:s.bg=s0.bg):Gw 0 s0 (oA b sc p s):=⟨h1,by show s.ha.length<=_;rw[h2];lia,h3,by show(_::_::s.st).length<=_;rw[az,az,h4];lia,by show s.rd.length<=_;rw[h5];lia,h6⟩
theorem BZ {p k:Int} {v:Vl} {f:Bool} {s:Ms}:Gw 0 s (iJ v p k f s):=⟨by show(_::s.me).length<=_;rw[az];lia,by show s.ha.length<=_;lia,rfl,by show s.st.length<=_;lia,by show s.rd.length<=_;lia,rfl⟩
theorem rZ {p k:Int} {v:Vl} {f:Bool} {s:Ms}:(iJ v p k f s).me.length=s.me.length+ 1:=by rfl
theorem v3 {sh:Str} {a b:Vl} {p:Int} {s:Ms}:(ie sh a b p s).1.me.length<=s.me.length+ 2/\(ie sh a b p s).1.ha=s.ha/\(ie sh a b p s).1.de=s.de/\(ie sh a b p s).1.st=s.st/\(ie sh a b p s).1.rd=s.rd/\(ie sh a b p s).1.bg=s.bg:=by
 unfold ie
 cases isS sh a with
 |false=>exact⟨by show(iJ a p 0 false s).me.length<=_;rw[rZ];lia,rfl,rfl,rfl,rfl,rfl⟩
 |true=>exact⟨by show(iJ b p 1 _ (iJ a p 0 true s)).me.length<=_;rw[rZ,rZ];lia,rfl,rfl,rfl,rfl,rfl⟩
theorem qb {sh:Str} {a b:Vl} {p:Int} {s:Ms} {e:Option Str}:Gw 0 s {(ie sh a b p s).1 with en:=e}:=by
 obtain⟨h1,h2,h3,h4,h5,h6⟩:=v3 (sh:=sh) (a:=a) (b:=b) (p:=p) (s:=s)
 exact⟨h1,by show(ie sh a b p s).1.ha.length<=_;rw[h2];lia,h3,by show(ie sh a b p s).1.st.length<=_;rw[h4];lia,by show(ie sh a b p s).1.rd.length<=_;rw[h5];lia,h6⟩
theorem r6 {sh:Str} {a b v:Vl} {p q:Int} {s:Ms}:Gw 0 s (mw q v (ie sh a b p s).1):=by
 obtain⟨h1,h2,h3,h4,h5,h6⟩:=v3 (sh:=sh) (a:=a) (b:=b) (p:=p) (s:=s)
 exact AU h1 h2 h3 h4 h5 h6
theorem z8 {p k q b:Int} {v:Vl} {f:Bool} {sc:Ev} {s:Ms}:Gw 0 s (oA b sc q (iJ v p k f s)):=yS (by rw[rZ];lia) rfl rfl rfl rfl rfl
theorem B0 {hm:Option Hm} {p:Int} {sc:Ev} {ρ:Ro} {l:List Vl} {s s':Ms} (hu:U0 ρ) (h:lD hm p sc ρ l s=some s'):Gw 0 s s':=by
 have fi:∀{v:Vl},some (mw p v s)=some s'->Gw 0 s s':=fun e=>by cases cz.inj e;exact AU (by lia) rfl rfl rfl rfl rfl
 have cm:∀{v:Vl} {k:Int} {f:Bool},some (iJ v p k f s)=some s'->Gw 0 s s':=fun e=>by cases cz.inj e;exact BZ
 have ci:∀{v:Vl} {k b:Int} {f:Bool} {sc:Ev},some (oA b sc p (iJ v p k f s))=some s'->Gw 0 s s':=fun e=>by cases cz.inj e;exact z8
 cases ρ with
 |get a b=>exact hu.elim
 |rcd l=>exact hu.elim
 |num n=>cases l with
  |nil=>exact fi h
  |cons _ _=>cases h
 |fn n b=>cases l with
  |nil=>exact fi h
  |cons _ _=>cases h
 |row ks=>exact fi h
 |name n=>cases l with
  |cons _ _=>cases h
  |nil=>
   cases hm with
   |none=>cases h
   |some hm=>
    have h:(if hm.1="def" then(atZ s.de hm.2).map fun v=>mw p v s else(tQ sc hm.2).map fun v=>mw p v s)=some s':=h
    split at h<;>obtain⟨v,_,e⟩:=cD.mp h<;>exact fi (congrArg some e)
 |tag n b=>match l,h with
  |[v],h=>exact fi h
 |lt n a b=>match l,h with
  |[v],h=>cases cz.inj h;exact yS (by lia) rfl rfl rfl rfl rfl
 |case b ks=>match l,h with
  |[v],h=>
   by_cases nt:v.s="tag"
   ·obtain⟨t,x,pt,rfl⟩:=AR nt
    have h:(match lkI ks t with|some b=>some (oA b (.cons b x sc) p (iJ (.tag t x pt) p 0 true s))|none=>some (iJ (.tag t x pt) p 0 false s))=some s':=h
    split at h
    ·exact ci h
    ·exact cm h
   ·rw[qM nt]at h
    exact cm h
 |op o ks=>
  obtain⟨a,b,rfl⟩:=qK hu h
  rcases hu with rfl|rfl|rfl|rfl|rfl
  ·rw[yO]at h
   split at h
   ·exact ci h
   ·exact cm h
  ·rw[vc]at h
   split at h
   ·split at h
    ·cases h
    ·split at h
     ·cases cz.inj h;exact qb
     ·cases cz.inj h;exact r6
   ·cases cz.inj h;exact qb
  ·rw[AM]at h
   split at h
   ·cases cz.inj h;exact r6
   ·cases cz.inj h;exact qb
  ·rw[AN]at h
   split at h
   ·cases cz.inj h;exact r6
   ·cases cz.inj h;exact qb
  ·rw[yP]at h
   split at h
   ·cases cz.inj h;exact r6
   ·cases cz.inj h;exact qb
inductive xb (ρs:List Ro) (ho:Nat->Option Hm) (tu:Nat):Nat->Ms->Ms->Prop
 |stop {s:Ms} (h:s.en≠none\/s.st=[]):xb ρs ho tu 0 s s
 |step {n:Nat} {s s' s2:Ms} (h0:s.en=none) (h:rS ρs ho tu s=some s') (r:xb ρs ho tu n s' s2):xb ρs ho tu (n+ 1) s s2
theorem yT {ρs:List Ro} {ho:Nat->Option Hm} {tu:Nat} {s s':Ms} (ok:∀ρ∈ρs,ρ.ok) (hu:∀ρ∈ρs,U0 ρ) (h:rS ρs ho tu s=some s'):Gw 0 s s'\/uX s.st=true/\Gw 1 s s':=by
 unfold rS at h
 split at h
 ·cases cz.inj h
  refine .inl ⟨by show s.me.length<=_;lia,by show s.ha.length<=_;lia,rfl,by show s.st.tail.length<=_;rw[List.length_tail];lia,by show s.rd.length<=_;lia,rfl⟩
 unfold my at h
 cases hs:s.st with
 |nil=>rw[hs]at h;cases h
 |cons t r=>
  rw[hs]at h
  cases t with
  |beg p sc=>
   have h:(match atZ ρs p with|some ρ=>some {s with bg:=s.bg+ 1,st:=(mD ρ).map (fun k=>Stp.beg k sc)++ .par p sc::r}|none=>none)=some s':=h
   cases e:atZ ρs p with
   |none=>rw[e]at h;cases h
   |some ρ=>
    rw[e]at h
    obtain⟨k,rfl,hk⟩:=nF e
    cases cz.inj h
    have fl:=uY (ok ρ (aM hk))
    refine .inr ⟨rfl,by show s.me.length<=_;lia,by show s.ha.length<=_;lia,rfl,by show(List.map _ _++_::r).length<=_;rw[aN,aC,az,hs,az];lia,by show s.rd.length<=_;lia,rfl⟩
  |par p sc=>
   have h:(match atZ ρs p with|some ρ=>(match tkR (mD ρ).length s.rd []with|some (l,rd)=>lD (ho p.toNat) p sc ρ l {s with st:=r,rd:=rd}|none=>none)|none=>none)=some s':=h
   cases e:atZ ρs p with
   |none=>rw[e]at h;cases h
   |some ρ=>
    rw[e]at h
    obtain⟨k,rfl,hk⟩:=nF e
    have h:(match tkR (mD ρ).length s.rd []with|some (l,rd)=>lD (ho (k:Int).toNat) k sc ρ l {s with st:=r,rd:=rd}|none=>none)=some s':=h
    cases et:tkR (mD ρ).length s.rd []with
    |none=>rw[et]at h;cases h
    |some z=>
     obtain⟨l,rd⟩:=z
     rw[et]at h
     have g:=B0 (hu ρ (aM hk)) (show lD _ _ _ _ _ _=_ from h)
     obtain⟨_,_,t3⟩:=oR et
     have g4:s'.st.length<=r.length+ 200:=g.st
     have g5:s'.rd.length<=rd.length+ 1:=g.rd
     rw[t3,aU]at g5
     exact .inl ⟨g.me,g.ha,g.de,by rw[hs,az];lia,by lia,g.bg⟩
  |hand p=>
   cases hr:s.rd with
   |nil=>rw[hr]at h;cases h
   |cons v rd=>
    rw[hr]at h
    cases cz.inj (show some (mw p v {s with st:=r,rd:=rd})=some s' from h)
    exact .inl ⟨by show s.me.length<=_;lia,by show(_::s.ha).length<=_;rw[az];lia,rfl,by show r.length<=_;rw[hs,az];lia,by show(v::rd).length<=_;rw[hr];lia,rfl⟩
theorem Gw.bd {d n:Nat} {s s':Ms} (g:Gw d s s') (b:Bd n s):Bd (n+ 200) s':=by
 obtain⟨b1,b2,b3,b4,b5⟩:=b
 have:=g.me
 have:=g.ha
 have:=g.st
 have:=g.rd
 exact⟨by lia,by lia,by rw[g.de];lia,by lia,by lia⟩
theorem yU {ρs:List Ro} {ho:Nat->Option Hm} {tu n:Nat} {s s':Ms} (ok:∀ρ∈ρs,ρ.ok) (hu:∀ρ∈ρs,U0 ρ) (h:rS ρs ho tu s=some s') (b:Bd n s):Bd (n+ 200) s':=by
 rcases yT ok hu h with g|⟨_,g⟩
 ·exact g.bd b
 ·exact g.bd b
theorem yV (e:Option Str):decide (enV e=V.non)=decide (e=none):=by
 cases e with
 |none=>rfl
 |some x=>rw[decide_eq_false (fun z=>nomatch z),decide_eq_false (fun z=>nomatch z)]
theorem Dy {H:Hp} {x:V} {t:Stp} (h:Im H x t.d):∃a y,x= .ref a/\match t with
  | .beg p sc=>H a=some (.tup [.str "begin",.int p,y])/\Im H y sc.d
  | .par p sc=>H a=some (.tup [.str "parts",.int p,y])/\Im H y sc.d
  | .hand p=>H a=some (.tup [.str "hand",.int p,y]):=by
 have go:∀{m:Str} {p:Int} {d:Dt},Im H x (.tup [sD m,kD p,d])->∃a y,x= .ref a/\H a=some (.tup [.str m,.int p,y])/\Im H y d:=fun h=>by
  cases h with
  |tup e i=>
   cases i with
   |cons h1 i=>
    cases h1
    cases i with
    |cons h2 i=>
     cases h2
     cases i with
     |cons h3 i=>cases i;exact⟨_,_,rfl,e,h3⟩
 cases t with
 |beg p sc=>obtain⟨a,y,e,h1,h2⟩:=go h;exact⟨a,y,e,h1,h2⟩
 |par p sc=>obtain⟨a,y,e,h1,h2⟩:=go h;exact⟨a,y,e,h1,h2⟩
 |hand p=>obtain⟨a,y,e,h1,h2⟩:=go h;exact⟨a,y,e,h1⟩
inductive XWs (C CP:Addr) (vs:List V) (H:Hp) (Q:VK):Prop
 |mk (A:Mad) (tu n b:Nat) (s s':Ms) (names:List Str) (roots:List Nat) (ρs:List Ro) (ho:Nat->Option Hm) (e:vs=[.ref A.m]) (M:Mc C H A tu s) (c:Ctx CP H A names roots ρs ho) (hu:∀ρ∈ρs,U0 ρ) (r:xb ρs ho tu n s s') (hb:Bd b s) (hn:b+ 200*n<=9000000) (q:∀H',Mc C H' A tu s'->FM A H H'->Q .non H')
def EZ (C CP:Addr):Sp:=fun vs H Q _=>XWs C CP vs H Q
def WsI (C CP:Addr) (A:Mad) (tu:Nat) (s':Ms) (ρs:List Ro) (ho:Nat->Option Hm) (H:Hp) (m:Nat) (σ:St) (H2:Hp):Prop:=∃(o:Option V) (s1:Ms) (b:Nat),σ=[some (.ref A.m),o]/\Mc C H2 A tu s1/\FM A H H2/\xb ρs ho tu m s1 s'/\Bd b s1/\b+ 200*m<=9000000
theorem md (T:Txt K mg) (W:Wk P w T):gu P w K mg base CX0 9 T.a_Machine_work_steps T.fd_Machine_work_steps ["self"] (EZ T.a_Machine T.a_Program):=by
 have G_Machine_begin:=oB (P:=P) (w:=w) (base:=base) T
 have G_Machine_work_parts:=ma (base:=base) T W
 have G_Machine_finish:=fX (P:=P) (w:=w) (base:=base) T
 refine T.F_Machine_work_steps.ok jW (fun vs H Q E h=>?_) (fun cdv A0 outer s0 H vs Q E hr h=>?_)
 ·obtain⟨A,tu,n,b,s,s',names,roots,ρs,ho,rfl,_⟩:=h
  rfl
 obtain⟨A,tu,n,b,s,s',names,roots,ρs,ho,rfl,M,c,hu,r,hb,hn,q⟩:=h
 refine⟨_,(eW (mi PassesOwn.never (PW.pt (xm (sv (xj (fN T.cl_Machine T.n_Machine_end (cv 0)))) (uk (fz sZ (fV fS rfl T.z_len jy (eQ (fN T.cl_Machine T.n_Machine_steps (cv 0)) eS)) eU (fD _)))))
   (eR (fC (i:=1) jW.nd rfl (.inl rfl) (vA dG dJ dM vB (fN T.cl_Machine T.n_Machine_steps (cv 0))))
   (eW (gr (fz ki (ft fq (cv 1) eU (fun _ _=>rfl)) fc (fD _))
    (eW (fE (f6 (fQ (PE.mono (cv 0)) T.cl_Machine T.me_Machine_begin G_Machine_begin (hr.mono (by decide)) T.b_Machine_begin .nil fO (eQ (ft fq (cv 1) eU (fun _ _=>rfl)) (eQ (ft fq (cv 1) eU (fun _ _=>rfl)) eS))))))
    (eW (gr (fz ki (ft fq (cv 1) eU (fun _ _=>rfl)) fc (fD _))
     (eW (fE (f6 (fQ (PE.mono (cv 0)) T.cl_Machine T.me_Machine_work_parts G_Machine_work_parts (hr.mono (by decide)) T.b_Machine_work_parts .nil fO (eQ (ft fq (cv 1) eU (fun _ _=>rfl)) (eQ (ft fq (cv 1) eU (fun _ _=>rfl)) eS))))))
     (eW (fE (f6 (fQ (PE.mono (cv 0)) T.cl_Machine T.me_Machine_finish G_Machine_finish (hr.mono (by decide)) T.b_Machine_finish .nil fO (eQ (ft fq (cv 1) eU (fun _ _=>rfl)) (eQ (vA dG dJ dM vB (fN T.cl_Machine T.n_Machine_ready (cv 0))) eS))))))))))))),?_⟩
 refine⟨WsI T.a_Machine T.a_Program A tu s' ρs ho H,⟨n,none,s,b,rfl,M,FM.refl,r,hb,hn⟩,?_⟩
 rintro m σ H2 ⟨o,s1,b,rfl,M2,F2,r,hb,hn⟩
 have c2:=c.fm M F2
 refine⟨_,⟨_,_,M2.o,pZ⟩,_,rfl,?_⟩
 rw[yV]
 cases r with
 |stop hs=>
  by_cases he:s'.en=none
  ·rw[decide_eq_true he]
   have hs:=hs.resolve_left (fun z=>z he)
   obtain⟨xs,e,i⟩:=M2.st
   rw[hs]at i
   cases i
   refine iM ⟨_,⟨_,_,M2.o,kM⟩,_,_,rfl,.inl (SqL.of e),?_⟩
   dsimp only[tC,cI0,onB]
   rw[decide_eq_false (show ¬(0:Int)<(([]:List V).length:Int)from fun z=>absurd z (by decide))]
   exact gR (q _ M2 F2)
  ·rw[decide_eq_false he]
   exact gR (gR (q _ M2 F2))
 |@step n _ s3 _ h0 h r=>
  rw[decide_eq_true h0]
  have hb3:Bd (b+ 200) s3:=yU c.ok hu h hb
  have hbb:Bd 9000000 s1:=hb.mono (by lia)
  have hn3:b+ 200+ 200*n<=9000000:=by lia
  obtain⟨t,rs,hst⟩:∃t rs,s1.st=t::rs:=by
   cases e:s1.st with
   |cons t rs=>exact⟨t,rs,rfl⟩
   |nil=>
    unfold rS at h
    rw[if_neg (by rw[e];exact fun z=>nomatch z.1)]at h
    unfold my at h
    rw[e]at h
    cases h
  obtain⟨xs,y,e,iy,M3,F3⟩:=M2.stO hst
  have done:∀(o:Option V) H',Mc T.a_Machine H' A tu s3->FM A (L2.Internal.upd H2 A.st (.lst xs)) H'->WsI T.a_Machine T.a_Program A tu s' ρs ho H n [some (.ref A.m),o] H':=fun o H' M' F'=>⟨o,s3,b+ 200,rfl,M',(F2.trans F3).trans F',r,hb3,hn3⟩
  refine iM ⟨_,⟨_,_,M2.o,kM⟩,_,_,rfl,.inl (SqL.of e),?_⟩
  dsimp only[tC,cI0,onB]
  rw[decide_eq_true (show(0:Int)<((xs++[y]).length:Int) by rw[aN,aY];lia)]
  refine iM ⟨_,fun σ' H' p=>⟨n,b8 _,p⟩,_,⟨_,_,M2.o,kM⟩,.inl ⟨rfl,_,SqL.of e⟩,vX e ?_⟩
  have iy3:=iy.mono (M2.tk F3)
  have c3:=c2.fm M2 F3
  dsimp only[iQ]
  generalize L2.Internal.upd H2 A.st (.lst xs)=H3 at M3 F3 iy3 c3 done⊢
  have bd3:Bd 9000000 {s1 with st:=rs}:=by
   obtain⟨b1,b2,b3,b4,b5⟩:=hbb
   exact⟨b1,b2,b3,by rw[hst,az]at b4;show rs.length<=_;lia,b5⟩
  unfold rS at h
  obtain⟨a,z,rfl,hh⟩:=Dy iy3
  cases t with
  |beg p sc=>
   refine yN rfl hh.1 (by decide+kernel) ⟨⟨_,_,M3.o,ic (by decide+kernel)⟩,_,hh.1,fg (eY (j:=1) rfl) ⟨_,hh.1,fg (eY (j:=2) rfl) ?_⟩⟩
   by_cases ht:tu<=s1.bg
   ·rw[if_pos ⟨by rw[hst];rfl,ht⟩]at h
    cases cz.inj h
    refine⟨A,tu,_,p,sc,z,.num 0,names,roots,ρs,ho,rfl,M3,c3,.inl ht,hh.2,bd3,fun H' M' F'=>done _ H' ?_ F'⟩
    rw[if_pos (show tu<=s1.bg from ht)]at M'
    rw[hst]
    exact M'
   ·rw[if_neg (fun z=>ht z.2)]at h
    unfold my at h
    rw[hst]at h
    have h:(match atZ ρs p with|some ρ=>some {s1 with bg:=s1.bg+ 1,st:=(mD ρ).map (fun k=>Stp.beg k sc)++ .par p sc::rs}|none=>none)=some s3:=h
    cases ea:atZ ρs p with
    |none=>rw[ea]at h;cases h
    |some ρ=>
     rw[ea]at h
     cases cz.inj h
     refine⟨A,tu,_,p,sc,z,ρ,names,roots,ρs,ho,rfl,M3,c3,.inr (nF ea),hh.2,bd3,fun H' M' F'=>done _ H' ?_ F'⟩
     rw[if_neg (show ¬tu<=s1.bg from ht)]at M'
     exact M'
  |par p sc=>
   rw[if_neg (fun z=>by rw[hst]at z;exact nomatch z.1)]at h
   unfold my at h
   rw[hst]at h
   have h:(match atZ ρs p with|some ρ=>(match tkR (mD ρ).length s1.rd []with|some (l,rd)=>lD (ho p.toNat) p sc ρ l {s1 with st:=rs,rd:=rd}|none=>none)|none=>none)=some s3:=h
   cases ea:atZ ρs p with
   |none=>rw[ea]at h;cases h
   |some ρ=>
    rw[ea]at h
    obtain⟨k,rfl,hk⟩:=nF ea
    have h:(match tkR (mD ρ).length s1.rd []with|some (l,rd)=>lD (ho (k:Int).toNat) k sc ρ l {s1 with st:=rs,rd:=rd}|none=>none)=some s3:=h
    cases et:tkR (mD ρ).length s1.rd []with
    |none=>rw[et]at h;cases h
    |some zz=>
     obtain⟨l,rd⟩:=zz
     rw[et]at h
     refine vY rfl hh.1 (by decide+kernel) (yN rfl hh.1 (by decide+kernel) ⟨⟨_,_,M3.o,ic (by decide+kernel)⟩,_,hh.1,fg (eY (j:=1) rfl) ⟨_,hh.1,fg (eY (j:=2) rfl) ?_⟩⟩)
     exact⟨A,tu,_,s3,k,sc,z,ρ,l,rd,names,roots,ρs,ho,rfl,M3,c3,hk,hu ρ (aM hk),hh.2,bd3,et,h,fun H' M' F'=>done _ H' M' F'⟩
  |hand p=>
   rw[if_neg (fun z=>by rw[hst]at z;exact nomatch z.1)]at h
   unfold my at h
   rw[hst]at h
   cases hr':s1.rd with
   |nil=>rw[hr']at h;cases h
   |cons v rd=>
    rw[hr']at h
    cases cz.inj (show some (mw p v {s1 with st:=rs,rd:=rd})=some s3 from h)
    obtain⟨xs',y',e',iv,M4,F4⟩:=M3.rdO (show({s1 with st:=rs}:Ms).rd=v::rd from hr')
    refine vY rfl hh (by decide+kernel) (vY rfl hh (by decide+kernel) ⟨⟨_,_,M3.o,ic (by decide+kernel)⟩,_,hh,fg (eY (j:=1) rfl) ⟨_,⟨_,_,M3.o,nB⟩,.inl ⟨rfl,_,SqL.of e'⟩,vX e' ?_⟩⟩)
    refine uZ (Q:=fun _ H'=>WsI T.a_Machine T.a_Program A tu s' ρs ho H n [some (.ref A.m),some (.ref a)] H') M4 ?_ (iv.mono (M3.tk F4)) fun H' M' F'=>done _ H' M' (F4.trans F')
    obtain⟨b1,b2,b3,b4,b5⟩:=bd3
    have b5:s1.rd.length<=9000000:=b5
    rw[hr',az]at b5
    exact⟨bX b1 (by decide),bX b2 (by decide),bX b3 (by decide),bX b4 (by decide),by show rd.length<=_;lia⟩
structure MJ (C dx m:Addr) (H H':Hp) (fs:List (Str×V)) (ls:List Addr):Prop where
 o:H' m=some (.ins C dx fs)
 k:∀z o,H z=some o->z≠m->H' z=some o
 l:∀a∈ls,H' a=some (.lst [])/\H a=none
 n:ls.Nodup
 m0:m∉ls
section
variable {C dx m:Addr} {H H':Hp} {fs:List (Str×V)} {ls:List Addr}
theorem MJ.fld (j:MJ C dx m H H' fs ls) (gs:List (Str×V)):MJ C dx m H (upd H' m (.ins C dx gs)) gs ls:=⟨eV,fun z o e n=>by rw[fe n];exact j.k z o e n,fun a ha=>⟨by rw[fe (fun z=>j.m0 (by rw[<-z];exact ha))];exact(j.l a ha).1,(j.l a ha).2⟩,j.n,j.m0⟩
theorem MJ.new (j:MJ C dx m H H' fs ls) (hm:(H m).isSome=true) {a:Addr} (h:H' a=none):MJ C dx m H (upd H' a (.lst [])) fs (ls++[a]):=by
 have nm:a≠m:=fun z=>by rw[z,j.o]at h;cases h
 have h0:H a=none:=by
  cases e:H a with
  |none=>rfl
  |some o=>rw[j.k a o e nm]at h;cases h
 have nl:a∉ls:=fun z=>by rw[(j.l a z).1]at h;cases h
 refine⟨by rw[fe nm.symm];exact j.o,fun z o e n=>by rw[fe (fb e h0)];exact j.k z o e n,fun b hb=>?_,?_,fun z=>?_⟩
 ·rcases ak.mp hb with hb|hb
  ·exact⟨by rw[fe (fun z=>nl (by rw[<-z];exact hb))];exact(j.l b hb).1,(j.l b hb).2⟩
  ·rw[a8.mp hb];exact⟨eV,h0⟩
 ·rw[List.nodup_append]
  refine⟨j.n,aE.mpr ⟨(fun z=>by cases z),bS⟩,fun x hx y hy z=>nl ?_⟩
  rw[a8.mp hy]at z
  rw[<-z]
  exact hx
 ·rcases ak.mp z with z|z
  ·exact j.m0 z
  ·exact nm (a8.mp z).symm
end
def s0M:Ms:=⟨0,none,[],[],[],[],[]⟩
inductive XMi (C:Addr) (vs:List V) (H:Hp) (Q:VK):Prop
 |mk (m dx p h:Addr) (tu:Int) (e:vs=[.ref m,.ref p,.ref h,.int tu]) (o:H m=some (.ins C dx [])) (q:∀H' me ha de st rd,MJ C dx m H H' (fMc p h tu 0 .non me ha de st rd) [me,ha,de,st,rd]->Q .non H')
def E1 (C:Addr):Sp:=fun vs H Q _=>XMi C vs H Q
theorem mZ (T:Txt K mg):gu P w K mg base CX0 1 T.a_Machine___init__ T.fd_Machine___init__ ["self","program","homes","turns"] (E1 T.a_Machine):=by
 refine T.F_Machine___init__.ok mM (fun vs H Q E h=>?_) (fun cdv A0 outer s0 H vs Q E hr h=>?_)
 ·obtain⟨m,dx,p,h,tu,rfl,_⟩:=h
  rfl
 obtain⟨m,dx,p,h,tu,rfl,o,q⟩:=h
 refine⟨_,(eR (iD T.cl_Machine T.n_Machine_program (iK (PE.mono (cv 0)) (PE.mono (cv 1)) rfl))
  (eR (iD T.cl_Machine T.n_Machine_homes (iK (PE.mono (cv 0)) (PE.mono (cv 2)) rfl))
  (eR (iD T.cl_Machine T.n_Machine_turns (iK (PE.mono (cv 0)) (PE.mono (cv 3)) rfl))
  (eR (iD T.cl_Machine T.n_Machine_begun (iK (PE.mono (cv 0)) (PE.mono eU) rfl))
  (eR (iD T.cl_Machine T.n_Machine_end (iK (PE.mono (cv 0)) (PE.mono qo) rfl))
  (eR (iD T.cl_Machine T.n_Machine_meets (iK (PE.mono (cv 0)) (PE.mono (gH eS)) rfl))
  (eR (iD T.cl_Machine T.n_Machine_had (iK (PE.mono (cv 0)) (PE.mono (gH eS)) rfl))
  (eR (iD T.cl_Machine T.n_Machine_defined (iK (PE.mono (cv 0)) (PE.mono (gH eS)) rfl))
  (eR (iD T.cl_Machine T.n_Machine_steps (iK (PE.mono (cv 0)) (PE.mono (gH eS)) rfl))
  (eW (iD T.cl_Machine T.n_Machine_ready (iK (PE.mono (cv 0)) (PE.mono (gH eS)) rfl)))))))))))),?_⟩
 have im:(H m).isSome=true:=by rw[o];rfl
 have j0:MJ T.a_Machine dx m H H [] []:=⟨o,fun _ _ e _=>e,fun a ha=>(by cases ha),bS,fun z=>(by cases z)⟩
 refine⟨_,_,o,(by show 0<1000;decide),?_⟩
 have j1:=j0.fld (jh "program" (.ref p) [])
 dsimp only
 generalize upd H m (.ins T.a_Machine dx (jh "program" (.ref p) []))=H1 at j1⊢
 refine⟨_,_,j1.o,(by show 1<1000;decide),?_⟩
 have j2:=j1.fld (jh "homes" (.ref h) (jh "program" (.ref p) []))
 dsimp only
 generalize upd H1 m _=H2 at j2⊢
 refine⟨_,_,j2.o,(by show 2<1000;decide),?_⟩
 have j3:=j2.fld (jh "turns" (.int tu) (jh "homes" (.ref h) (jh "program" (.ref p) [])))
 dsimp only
 generalize upd H2 m _=H3 at j3⊢
 refine⟨_,_,j3.o,(by show 3<1000;decide),?_⟩
 have j4:=j3.fld (jh "begun" (.int 0) (jh "turns" (.int tu) (jh "homes" (.ref h) (jh "program" (.ref p) []))))
 dsimp only
 generalize upd H3 m _=H4 at j4⊢
 refine⟨_,_,j4.o,(by show 4<1000;decide),?_⟩
 have e5:jh "end" .non (jh "begun" (.int 0) (jh "turns" (.int tu) (jh "homes" (.ref h) (jh "program" (.ref p) []))))=([("program",.ref p),("homes",.ref h),("turns",.int tu),("begun",.int 0),("end",.non)]:List (Str×V)):=by kernel_rfl
 have j5:=j4.fld (jh "end" .non (jh "begun" (.int 0) (jh "turns" (.int tu) (jh "homes" (.ref h) (jh "program" (.ref p) [])))))
 dsimp only
 generalize upd H4 m _=H5 at j5⊢
 rw[e5]at j5
 refine⟨(by show 0<=sizeLine;decide),fun me h6=>?_⟩
 have k6:=j5.new im h6
 refine⟨_,_,k6.o,(by show 5<1000;decide),?_⟩
 have j6:=k6.fld (jh "meets" (.ref me) [("program",.ref p),("homes",.ref h),("turns",.int tu),("begun",.int 0),("end",.non)])
 dsimp only
 generalize upd (upd H5 me _) m _=H6 at j6⊢
 refine⟨(by show 0<=sizeLine;decide),fun ha h7=>?_⟩
 have k7:=j6.new im h7
 refine⟨_,_,k7.o,(by show 6<1000;decide),?_⟩
 have j7:=k7.fld (jh "had" (.ref ha) (jh "meets" (.ref me) [("program",.ref p),("homes",.ref h),("turns",.int tu),("begun",.int 0),("end",.non)]))
 dsimp only
 generalize upd (upd H6 ha _) m _=H7 at j7⊢
 refine⟨(by show 0<=sizeLine;decide),fun de h8=>?_⟩
 have k8:=j7.new im h8
 refine⟨_,_,k8.o,(by show 7<1000;decide),?_⟩
 have j8:=k8.fld (jh "defined" (.ref de) (jh "had" (.ref ha) (jh "meets" (.ref me) [("program",.ref p),("homes",.ref h),("turns",.int tu),("begun",.int 0),("end",.non)])))
 dsimp only
 generalize upd (upd H7 de _) m _=H8 at j8⊢
 refine⟨(by show 0<=sizeLine;decide),fun st h9=>?_⟩
 have k9:=j8.new im h9
 refine⟨_,_,k9.o,(by show 8<1000;decide),?_⟩
 have j9:=k9.fld (jh "steps" (.ref st) (jh "defined" (.ref de) (jh "had" (.ref ha) (jh "meets" (.ref me) [("program",.ref p),("homes",.ref h),("turns",.int tu),("begun",.int 0),("end",.non)]))))
 dsimp only
 generalize upd (upd H8 st _) m _=H9 at j9⊢
 refine⟨(by show 0<=sizeLine;decide),fun rd h10=>?_⟩
 have k10:=j9.new im h10
 refine⟨_,_,k10.o,(by show 9<1000;decide),?_⟩
 refine q _ me ha de st rd ?_
 have j10:=k10.fld (fMc p h tu 0 .non me ha de st rd)
 have e10:jh "ready" (.ref rd) (jh "steps" (.ref st) (jh "defined" (.ref de) (jh "had" (.ref ha) (jh "meets" (.ref me) [("program",.ref p),("homes",.ref h),("turns",.int tu),("begun",.int 0),("end",.non)]))))=fMc p h tu 0 .non me ha de st rd:=by kernel_rfl
 rw[e10]
 exact j10
def fRn (en v:V) (me ha:Addr) (bg:Int):List (Str×V):=[("end",en),("value",v),("meets",.ref me),("had",.ref ha),("begun",.int bg)]
inductive XRi (C:Addr) (vs:List V) (H:Hp) (Q:VK):Prop
 |mk (m dx me ha:Addr) (en v:V) (bg:Int) (e:vs=[.ref m,en,v,.ref me,.ref ha,.int bg]) (o:H m=some (.ins C dx [])) (q:∀H',H' m=some (.ins C dx (fRn en v me ha bg))->(∀z o,H z=some o->z≠m->H' z=some o)->Q .non H')
def Dz (C:Addr):Sp:=fun vs H Q _=>XRi C vs H Q
theorem qd (T:Txt K mg):gu P w K mg base CX0 1 T.a_Run___init__ T.fd_Run___init__ ["self","end","value","meets","had","begun"] (Dz T.a_Run):=by
 refine T.F_Run___init__.ok pP (fun vs H Q E h=>?_) (fun cdv A0 outer s0 H vs Q E hr h=>?_)
 ·obtain⟨m,dx,me,ha,en,v,bg,rfl,_⟩:=h
  rfl
 obtain⟨m,dx,me,ha,en,v,bg,rfl,o,q⟩:=h
 refine⟨_,(eR (iD T.cl_Run T.n_Run_end (iK (PE.mono (cv 0)) (PE.mono (cv 1)) rfl))
  (eR (iD T.cl_Run T.n_Run_value (iK (PE.mono (cv 0)) (PE.mono (cv 2)) rfl))
  (eR (iD T.cl_Run T.n_Run_meets (iK (PE.mono (cv 0)) (PE.mono (cv 3)) rfl))
  (eR (iD T.cl_Run T.n_Run_had (iK (PE.mono (cv 0)) (PE.mono (cv 4)) rfl))
  (eW (iD T.cl_Run T.n_Run_begun (iK (PE.mono (cv 0)) (PE.mono (cv 5)) rfl))))))),?_⟩
 refine⟨_,_,o,(by show 0<1000;decide),_,_,eV,(by show 1<1000;decide),_,_,eV,(by show 2<1000;decide),_,_,eV,(by show 3<1000;decide),_,_,eV,(by show 4<1000;decide),?_⟩
 refine q _ ?_ fun z o e hz=>?_
 ·rw[eV]
  exact congrArg (fun l=>some (HO.ins T.a_Run dx l)) (by kernel_rfl)
 ·rw[fe hz,fe hz,fe hz,fe hz,fe hz]
  exact e
theorem xb.bd {ρs:List Ro} {ho:Nat->Option Hm} {tu n:Nat} {s s':Ms} (ok:∀ρ∈ρs,ρ.ok) (hu:∀ρ∈ρs,U0 ρ) (r:xb ρs ho tu n s s'):∀{b:Nat},Bd b s->Bd (b+ 200*n) s':=by
 induction r with
 |stop h=>exact fun hb=>hb
 |step h0 h r ih=>exact fun hb=>(ih (yU ok hu h hb)).mono (by lia)
inductive oC (ρs:List Ro) (ho:Nat->Option Hm) (tu:Nat):Nat->List Nat->Ms->Ms->Prop
 |done {s:Ms}:oC ρs ho tu 0 [] s {s with en:=some "done"}
 |ends {n r:Nat} {rs:List Nat} {s s':Ms} (h:xb ρs ho tu n {s with st:= .beg (r:Int) .nil::s.st} s') (he:s'.en≠none):oC ρs ho tu n (r::rs) s s'
 |next {n m r:Nat} {rs:List Nat} {s s' s2:Ms} {v:Vl} {rd:List Vl} (h:xb ρs ho tu n {s with st:= .beg (r:Int) .nil::s.st} s') (he:s'.en=none) (hr:s'.rd=v::rd) (t:oC ρs ho tu m rs {s' with rd:=rd,de:=s'.de++[v]} s2):oC ρs ho tu (n+m+ 3) (r::rs) s s2
theorem B2 {α:Type} (ys:List α) (y:α):atI (ys++[y]) (-1)=some y:=by
 unfold atI ixN
 rw[if_neg (by decide),aN,aY,if_pos (by lia),show((-1:Int)+((ys.length+ 1:Nat):Int)).toNat=ys.length by lia]
 show(ys++[y])[ys.length]?=_
 rw[aI (b6 _),cn]
 rfl
inductive XPg (C CP:Addr) (vs:List V) (H:Hp) (Q:VK):Prop
 |mk (A:Mad) (tu n b:Nat) (s s':Ms) (names:List Str) (roots:List Nat) (ρs:List Ro) (ho:Nat->Option Hm) (e:vs=[.ref A.m]) (M:Mc C H A tu s) (c:Ctx CP H A names roots ρs ho) (hu:∀ρ∈ρs,U0 ρ) (r:oC ρs ho tu n roots s s') (hb:Bd b s) (hn:b+ 200*n<=8000000) (q:∀H',Mc C H' A tu s'->FM A H H'->Q .non H')
def E2 (C CP:Addr):Sp:=fun vs H Q _=>XPg C CP vs H Q
def PgI (C:Addr) (A:Mad) (tu:Nat) (s':Ms) (roots:List Nat) (ρs:List Ro) (ho:Nat->Option Hm) (H:Hp) (i:Nat) (σ:St) (H2:Hp):Prop:=∃(o:Option V) (s1:Ms) (b m:Nat),σ=[some (.ref A.m),o]/\Mc C H2 A tu s1/\FM A H H2/\oC ρs ho tu m (roots.drop i) s1 s'/\Bd b s1/\b+ 200*m<=8000000
theorem lE (T:Txt K mg) (W:Wk P w T):gu P w K mg base CX0 10 T.a_Machine_work_program T.fd_Machine_work_program ["self"] (E2 T.a_Machine T.a_Program):=by
 have G_Machine_work_steps:=md (base:=base) T W
 refine T.F_Machine_work_program.ok jC (fun vs H Q E h=>?_) (fun cdv A0 outer s0 H vs Q E hr h=>?_)
 ·obtain⟨A,tu,n,b,s,s',names,roots,ρs,ho,rfl,_⟩:=h
  rfl
 obtain⟨A,tu,n,b,s,s',names,roots,ρs,ho,rfl,M,c,hu,r,hb,hn,q⟩:=h
 refine⟨_,(eR (lG PassesOwn.never rfl (mG (fN T.cl_Program T.n_Program_roots (fN T.cl_Machine T.n_Machine_program (cv 0)))) (jj (i:=1) jC.nd rfl (.inl rfl))
   (eR (fE (ka (ko dG dH dI gq (PE.mono (fN T.cl_Machine T.n_Machine_steps (cv 0))) (eQ (PE.mono (gG (eQ fc (eQ (cv 1) (eQ qo eS))))) eS))))
   (eR (fE (f6 (i8 (PE.mono (cv 0)) T.cl_Machine T.me_Machine_work_steps G_Machine_work_steps (hr.mono (by decide)) T.b_Machine_work_steps .nil fO)))
   (eR (gr (sv (A4 (fN T.cl_Machine T.n_Machine_end (cv 0))))
    (eW xn)
    fw)
   (eW (fE (ka (ko dG dH dI gq (PE.mono (fN T.cl_Machine T.n_Machine_defined (cv 0))) (eQ (PE.mono (vA dG dJ dM vB (fN T.cl_Machine T.n_Machine_ready (cv 0)))) eS)))))))))
  (eW (iD T.cl_Machine T.n_Machine_end (iK (PE.mono (cv 0)) (PE.mono fc) rfl)))),?_⟩
 have sl:sizeLine=16777216:=sizeLine_eq
 obtain⟨na,rl,w,dx,xs,pr,n1,n2,n3,n4⟩:=c.p
 refine⟨_,⟨_,_,M.o,mY⟩,_,⟨_,_,pr.o,vU _ _ _⟩,_,rfl,⟨_,SqL.of pr.r⟩,qR (xs:=roots.map nI) (PgI T.a_Machine A tu s' roots ρs ho H) ⟨none,s,b,n,rfl,M,FM.refl,r,hb,hn⟩ (fun i σ H2 _ ⟨_,_,_,_,_,_,F,_⟩=>SqL.of (F.get pr.r n3)) ?_ ?_⟩
 ·rintro i v σ H2 hx ⟨o,s1,b,m,rfl,M2,F2,r,hb,hn⟩
  rw[aK]at hx
  obtain⟨j,hj,rfl⟩:=cD.mp hx
  have hdr:roots.drop i=j::roots.drop (i+ 1):=by
   obtain⟨z1,z2⟩:=aq.mp hj
   rw[bH z1,z2]
  rw[hdr]at r
  have c2:=c.fm M F2
  obtain⟨ys,e,_⟩:=M2.st
  have b4:=hb.2.2.2.1
  have b3:=hb.2.2.1
  refine⟨_,⟨_,_,M2.o,kM⟩,⟨_,e⟩,(by show 3<=sizeLine;decide),fun a ha=>?_⟩
  have S1:=eX ha (.tup [.str "begin",.int (j:Int),.non])
  have M3:=M2.same S1
  have i1:Im (L2.Internal.upd H2 a (.tup [.str "begin",.int (j:Int),.non])) (.ref a) (Stp.beg (j:Int) .nil).d:=by
   rw[Stp.d,Ev.d]
   exact mX ha (.cons (.flat rfl) (.cons (.flat rfl) (.cons (.flat rfl) .nil)))
  obtain⟨ys1,e1,l1,M4,F4⟩:=M3.stP i1
  refine⟨ys1,e1,by lia,?_⟩
  have F04:=(F2.trans (FM.same S1)).trans F4
  have c4:=(c2.fm M2 (FM.same S1)).fm M3 F4
  dsimp only[nI]
  generalize L2.Internal.upd (L2.Internal.upd H2 a (.tup [.str "begin",.int (j:Int),.non])) A.st (.lst (ys1++[.ref a]))=H4 at M4 F4 F04 c4⊢
  have hb4:Bd (b+ 1) {s1 with st:= .beg (j:Int) .nil::s1.st}:=by
   obtain⟨b1,b2,b3,b4,b5⟩:=hb
   exact⟨by show s1.me.length<=_;lia,by show s1.ha.length<=_;lia,by show s1.de.length<=_;lia,by show(_::s1.st).length<=_;rw[az];lia,by show s1.rd.length<=_;lia⟩
  cases r with
  |ends h he=>
   refine⟨⟨_,_,M4.o,ic (by decide+kernel)⟩,A,tu,m,b+ 1,_,s',names,roots,ρs,ho,rfl,M4,c4,hu,h,hb4,by lia,fun H5 M5 F5=>?_⟩
   refine⟨_,⟨_,_,M5.o,pZ⟩,_,rfl,?_⟩
   rw[yV,decide_eq_false he]
   exact iM (q _ M5 (F04.trans F5))
  |@next n0 m0 _ _ _ s5 _ v rd h he hr' t=>
   refine⟨⟨_,_,M4.o,ic (by decide+kernel)⟩,A,tu,n0,b+ 1,_,s5,names,roots,ρs,ho,rfl,M4,c4,hu,h,hb4,by lia,fun H5 M5 F5=>?_⟩
   have hb5:=h.bd c.ok hu hb4
   refine⟨_,⟨_,_,M5.o,pZ⟩,_,rfl,?_⟩
   rw[yV,decide_eq_true he]
   obtain⟨zs,ez,_⟩:=M5.de
   obtain⟨xs',y',e',iv,M6,F6⟩:=M5.rdO hr'
   obtain⟨zs,ez6,lz,M7,F7⟩:=M6.deP (iv.mono (M5.tk F6))
   have ld:=hb5.2.2.1
   refine gR ⟨_,⟨_,_,M5.o,mW⟩,⟨_,ez⟩,_,⟨_,_,M5.o,nB⟩,.inl ⟨rfl,_,SqL.of e'⟩,vX e' ⟨zs,ez6,?_,?_⟩⟩
   ·rw[lz];show s5.de.length<_;lia
   ·refine⟨_,_,b+ 1+ 200*n0+ 1,m0,rfl,M7,((F04.trans F5).trans F6).trans F7,t,?_,by lia⟩
    obtain⟨b1,b2,b3,b4,b5⟩:=hb5
    rw[hr',az]at b5
    exact⟨by show s5.me.length<=_;lia,by show s5.ha.length<=_;lia,by show(s5.de++[v]).length<=_;rw[aN,aY];lia,by show s5.st.length<=_;lia,by show rd.length<=_;lia⟩
 ·rintro σ H2 ⟨o,s1,b,m,rfl,M2,F2,r,hb,hn⟩
  rw[aC,bP]at r
  cases r
  obtain⟨M3,F3⟩:=M2.setO s1.bg (some "done")
  refine⟨_,_,M2.o,by show 10<1000;decide,?_⟩
  rw[oQ]
  exact q _ M3 (F2.trans F3)
structure RnA (C:Addr) (H:Hp) (r:Addr) (s:Ms):Prop where
 o:∃dx v me ha,H r=some (.ins C dx (fRn (enV s.en) v me ha s.bg))/\(∃xs,H me=some (.lst xs)/\Ims H xs (s.me.reverse.map meD))/\(∃xs,H ha=some (.lst xs)/\Ims H xs (s.ha.reverse.map haD))/\(s.en≠some ("done":Str)->v= .non)/\∀u,s.en=some ("done":Str)->s.de.getLast?=some u->Im H v u.d
inductive XRn (C CP:Addr) (vs:List V) (H:Hp) (Q:VK):Prop
 |mk (p h n0 r0 w0 dx:Addr) (tu n:Nat) (xs hs:List V) (s':Ms) (names:List Str) (roots:List Nat) (ρs:List Ro) (ho:Nat->Option Hm) (e:vs=[.ref p,.ref h,.int (tu:Int)]) (pr:PrA CP H p n0 r0 w0 dx xs names roots ρs) (eh:H h=some (.lst hs)) (ih:∀(k:Nat) (ρ:Ro),ρs[k]?=some ρ->∃y,hs[k]?=some y/\Im H y (hoD (ho k))) (ok:∀ρ∈ρs,ρ.ok) (hu:∀ρ∈ρs,U0 ρ) (r:oC ρs ho tu n roots s0M s') (hn:200*n<=8000000) (he:∃e,s'.en=some e) (hd:s'.en=some ("done":Str)->s'.de≠[]) (q:∀r H',fK H H'->H r=none->RnA C H' r s'->Q (.ref r) H')
def E3 (C CP:Addr):Sp:=fun vs H Q _=>XRn C CP vs H Q
theorem DA (T:Txt K mg) (W:Wk P w T):gu P w K mg base CX0 11 T.a_run T.fd_run ["program","homes","turns"] (E3 T.a_Run T.a_Program):=by
 have G_Machine___init__:=mZ (P:=P) (w:=w) (base:=base) T
 have G_Run___init__:=qd (P:=P) (w:=w) (base:=base) T
 have G_Machine_work_program:=lE (base:=base) T W
 refine T.F_run.ok yu (fun vs H Q E h=>?_) (fun cdv A0 outer s0 H vs Q E hr h=>?_)
 ·obtain⟨p,h,n0,r0,w0,dx,tu,n,xs,hs,s',names,roots,ρs,ho,rfl,_⟩:=h
  rfl
 obtain⟨p,h,n0,r0,w0,dx,tu,n,xs,hs,s',names,roots,ρs,ho,rfl,pr,eh,ih,ok,hu,r,hn,⟨en,he⟩,hd,q⟩:=h
 refine⟨_,(eR (fC (i:=3) yu.nd rfl (.inl rfl) (qV T.mk_Machine G_Machine___init__ (hr.mono (by decide)) rfl T.m_Machine T.b_Machine___init__ .nil fO (eQ (cv 0) (eQ (cv 1) (eQ (cv 2) eS)))))
  (eR (fE (f6 (i8 (PE.mono (cv 3)) T.cl_Machine T.me_Machine_work_program G_Machine_work_program (hr.mono (by decide)) T.b_Machine_work_program .nil fO)))
  (eR (fC (i:=4) yu.nd rfl (.inl rfl) (qQ (fz ki (fN T.cl_Machine T.n_Machine_end (cv 3)) fc (fD _)) (ft f7 (fN T.cl_Machine T.n_Machine_defined (cv 3)) (Ed Cy eU) (fun _ _=>rfl)) qo))
  (eW (fG (qV T.mk_Run G_Run___init__ (hr.mono (by decide)) rfl T.m_Run T.b_Run___init__ .nil fO (eQ (fN T.cl_Machine T.n_Machine_end (cv 3)) (eQ (cv 4) (eQ (fN T.cl_Machine T.n_Machine_meets (cv 3)) (eQ (fN T.cl_Machine T.n_Machine_had (cv 3)) (eQ (fN T.cl_Machine T.n_Machine_begun (cv 3)) eS))))))))))),?_⟩
 intro m mx hm hmx nmx
 have S0:fK H (upd (upd H mx (.own m)) m (.ins T.a_Machine mx [])):=iu (iu (fun _ _ e=>e) hmx _) hm _
 refine⟨m,mx,p,h,(tu:Int),rfl,eV,fun H1 me ha de st rd j=>⟨rfl,?_⟩⟩
 have S1:fK H H1:=fun b o e=>j.k b o (S0 b o e) (fb e hm)
 have l0:∀a∈[me,ha,de,st,rd],H a=none:=fun a ha=>S0.free (j.l a ha).2
 let A:Mad:=⟨m,mx,p,h,me,ha,de,st,rd⟩
 have nal:∀{a:Addr} {o:HO},H a=some o->a∉A.all:=fun{a o} e z=>by
  rcases aj.mp z with z|z
  ·rw[z,hm]at e;cases e
  ·rw[l0 a z]at e;cases e
 have em:∀a∈[me,ha,de,st,rd],H1 a=some (.lst []):=fun a ha=>(j.l a ha).1
 have M1:Mc T.a_Machine H1 A tu s0M:=⟨j.o,⟨_,em me (by simp),.nil⟩,⟨_,em ha (by simp),.nil⟩,⟨_,em de (by simp),.nil⟩,⟨_,em st (by simp),.nil⟩,⟨_,em rd (by simp),.nil⟩,j.n⟩
 have k1:=fK.tk S1
 have c1:Ctx T.a_Program H1 A names roots ρs ho:=⟨⟨n0,r0,w0,dx,xs,pr.same S1,nal pr.o,nal pr.n,nal pr.r,nal pr.w⟩,⟨hs,S1 _ _ eh,nal eh,fun k ρ e=>let⟨y,a,b⟩:=ih k ρ e;⟨y,a,b.mono k1⟩⟩,ok⟩
 dsimp only[iQ]
 refine⟨⟨_,_,M1.o,ic (by decide+kernel)⟩,A,tu,n,0,s0M,s',names,roots,ρs,ho,rfl,M1,c1,hu,r,⟨b6 _,b6 _,b6 _,b6 _,b6 _⟩,by lia,fun H2 M2 F2=>?_⟩
 have S2:fK H H2:=fun b o e=>F2.get (S1 b o e) (nal e)
 have fin:∀v,(s'.en≠some ("done":Str)->v= .non)->(∀u,s'.en=some ("done":Str)->s'.de.getLast?=some u->Im H2 v u.d)->B9 (CD T.a_Run (Dz T.a_Run) [] E0 (mI (AG T.a_Machine "end" (cV 3)) (mI (cV 4) (mI (AG T.a_Machine "meets" (cV 3)) (mI (AG T.a_Machine "had" (cV 3)) (mI (AG T.a_Machine "begun" (cV 3)) xD)))))) {nx:=fun _ H'=>Q .non H',rt:=Q} [some (.ref p),some (.ref h),some (.int tu),some (.ref m),some v] H2:=fun v h1 h2=>by
  refine⟨_,⟨_,_,M2.o,pZ⟩,_,⟨_,_,M2.o,tR⟩,_,⟨_,_,M2.o,yG⟩,_,⟨_,_,M2.o,qa⟩,fun rr rx hrr hrx nrx=>?_⟩
  have S3:fK H2 (upd (upd H2 rx (.own rr)) rr (.ins T.a_Run rx [])):=iu (iu (fun _ _ e=>e) hrx _) hrr _
  refine⟨rr,rx,me,ha,enV s'.en,v,(s'.bg:Int),rfl,eV,fun H4 e4 k4=>⟨rfl,?_⟩⟩
  have S4:fK H2 H4:=fun b o e=>k4 b o (S3 b o e) (fb e hrr)
  obtain⟨xs1,e1,i1⟩:=M2.me
  obtain⟨xs2,e2,i2⟩:=M2.ha
  have tk4:=fK.tk S4
  exact q rr H4 (S2.trans S4) (S2.free hrr) ⟨rx,v,me,ha,e4,⟨xs1,S4 _ _ e1,i1.mono tk4⟩,⟨xs2,S4 _ _ e2,i2.mono tk4⟩,h1,fun u a b=>(h2 u a b).mono tk4⟩
 refine⟨_,⟨_,_,M2.o,pZ⟩,?_⟩
 by_cases hdn:s'.en=some ("done":Str)
 ·obtain⟨l,u,hl⟩:∃l u,s'.de=l++[u]:=⟨_,_,(bD (hd hdn)).symm⟩
  obtain⟨zs,ez,iz⟩:=M2.de
  rw[hl]at iz
  obtain⟨ys,y,rfl,_,iy⟩:=rT iz
  rw[hdn]
  dsimp only[tC,cEq,onB,enV]
  rw[decide_eq_true rfl]
  refine iM ⟨_,⟨_,_,M2.o,mW⟩,_,rfl,_,ez,fg (B2 ys y) ?_⟩
  dsimp only[iQ]
  exact fin y (fun n=>absurd hdn n) fun u' _ e=>by rw[hl,List.getLast?_concat]at e;cases e;exact iy
 ·rw[he]
  dsimp only[tC,cEq,onB,enV]
  rw[decide_eq_false (fun z=>hdn (by rw[he,z]))]
  refine gR ?_
  dsimp only[iQ]
  exact fin .non (fun _=>rfl) (fun u e=>absurd e hdn)
def itU (ρs:List Ro) (ho:Nat->Option Hm):Nat->Ms->Option Ms
 |0,s=>some s
 |n+ 1,s=>match s.en with
  |none=>match my ρs ho s with
   |some s'=>itU ρs ho n s'
   |none=>none
  |some _=>none
section
variable {ρs:List Ro} {ho:Nat->Option Hm} {tu:Nat}
theorem r8 {n:Nat} {s s':Ms} (h:itU ρs ho (n+ 1) s=some s'):s.en=none/\∃s1,my ρs ho s=some s1/\itU ρs ho n s1=some s':=by
 unfold itU at h
 cases e:s.en with
 |some x=>rw[e]at h;cases h
 |none=>
  rw[e]at h
  cases e1:my ρs ho s with
  |none=>rw[e1]at h;cases h
  |some s1=>rw[e1]at h;exact⟨rfl,s1,rfl,h⟩
theorem vg {n:Nat} {s s1 s':Ms} (h0:s.en=none) (h1:my ρs ho s=some s1) (h:itU ρs ho n s1=some s'):itU ρs ho (n+ 1) s=some s':=by
 unfold itU
 rw[h0,h1]
 exact h
theorem vh:∀{n m:Nat} {s s1 s2:Ms},itU ρs ho n s=some s1->itU ρs ho m s1=some s2->itU ρs ho (n+m) s=some s2
 |0,m,s,s1,s2,h,k=>by cases h;rw[ck];exact k
 |n+ 1,m,s,s1,s2,h,k=>by
  obtain⟨h0,s3,h1,h2⟩:=r8 h
  rw[Nat.add_right_comm]
  exact vg h0 h1 (vh h2 k)
theorem AV {s s1:Ms} (hb:uX s.st=true) (h:my ρs ho s=some s1):s1.bg=s.bg+ 1:=by
 unfold my at h
 cases e:s.st with
 |nil=>rw[e]at hb;cases hb
 |cons t r=>
  rw[e]at h hb
  cases t with
  |beg p sc=>
   have h:(match atZ ρs p with|some ρ=>some {s with bg:=s.bg+ 1,st:=(mD ρ).map (fun k=>Stp.beg k sc)++ .par p sc::r}|none=>none)=some s1:=h
   cases ea:atZ ρs p with
   |none=>rw[ea]at h;cases h
   |some ρ=>rw[ea]at h;cases cz.inj h;rfl
  |par p sc=>cases hb
  |hand p=>cases hb
theorem yW (s:Ms) (h:¬(uX s.st=true/\tu<=s.bg)):rS ρs ho tu s=my ρs ho s:=by unfold rS;rw[if_neg h]
theorem DB (ok:∀ρ∈ρs,ρ.ok) (hu:∀ρ∈ρs,U0 ρ) {s s1:Ms} (h:my ρs ho s=some s1):s.bg<=s1.bg/\(uX s.st=false->s1.bg=s.bg):=by
 have e:=yW (ρs:=ρs) (ho:=ho) (tu:=s.bg+ 1) s (fun z=>absurd z.2 (Nat.not_succ_le_self _))
 rcases yT ok hu (e.trans h)with g|⟨b,g⟩
 ·have:=g.bg
  exact⟨by lia,fun _=>by lia⟩
 ·have:=g.bg
  exact⟨by lia,fun z=>by rw[b]at z;cases z⟩
theorem oS (ok:∀ρ∈ρs,ρ.ok) (hu:∀ρ∈ρs,U0 ρ) {s':Ms} (hs:s'.en≠none\/s'.st=[]) (ht:s'.bg<=tu):∀{n:Nat} {s:Ms},itU ρs ho n s=some s'->xb ρs ho tu n s s'/\s.bg<=s'.bg
 |0,s,h=>by cases h;exact⟨.stop hs,b6 _⟩
 |n+ 1,s,h=>by
  obtain⟨h0,s1,h1,h2⟩:=r8 h
  obtain⟨r,l⟩:=oS ok hu hs ht h2
  have b:=(DB ok hu h1).1
  refine⟨.step h0 ((yW s fun z=>?_).trans h1) r,by lia⟩
  have:=AV z.1 h1
  lia
theorem v5 (ok:∀ρ∈ρs,ρ.ok) (hu:∀ρ∈ρs,U0 ρ) {s':Ms} (ht:tu<s'.bg):∀{n:Nat} {s:Ms},itU ρs ho n s=some s'->s.bg<=tu->∃n' s2,n'<=n/\xb ρs ho tu n' s s2/\s2.en=some ("turns":Str)/\s2.bg=tu
 |0,s,h,hb=>by cases h;lia
 |n+ 1,s,h,hb=>by
  obtain⟨h0,s1,h1,h2⟩:=r8 h
  by_cases z:uX s.st=true/\tu<=s.bg
  ·refine⟨1,{s with en:=some "turns",st:=s.st.tail},by lia,.step h0 (by unfold rS;rw[if_pos z]) (.stop (.inl fun w=>nomatch w)),rfl,by show s.bg=tu;lia⟩
  ·have b:s1.bg<=tu:=by
    cases e:uX s.st with
    |false=>rw[(DB ok hu h1).2 e];exact hb
    |true=>
     have:=AV e h1
     have:¬tu<=s.bg:=fun y=>z ⟨e,y⟩
     lia
   obtain⟨n',s2,l,r,a,c⟩:=v5 ok hu ht h2 b
   exact⟨n'+ 1,s2,by lia,.step h0 ((yW s z).trans h1) r,a,c⟩
end
def roK:TM.Internal.Kn->List Nat->Ro
 | .num n,_=> .num n
 | .name w,_=> .name w
 | .fn w,p::_=> .fn w p
 | .tag w,p::_=> .tag w p
 | .lt w,p::q::_=> .lt w p q
 | .case l,p::ps=> .case p ((l.zip ps).map fun q=>(q.1.1,q.1.2,(q.2:Int)))
 | .row _,ps=> .row (ps.map fun p:Nat=>(p:Int))
 | .op s _,ps=> .op s (ps.map fun p:Nat=>(p:Int))
 |_,_=> .num 0
def exK:TM.Internal.Kn->List Nat->List (Option (Str×Hm))
 | .fn w,[p]=>[some (w,("fn",(p:Int)))]
 | .lt w,[p,_]=>[none,some (w,("let",(p:Int)))]
 | .case l,_::ps=>none::(l.zip ps).map fun q=>some (q.1.2,("arm",(q.2:Int)))
 |_,ps=>ps.map fun _=>none
def exS (sc:List (Str×Hm)):Option (Str×Hm)->List (Str×Hm)
 |none=>sc
 |some e=>e::sc
mutual
def roT:TM.Internal.Tr->Nat->List (Str×Hm)->List (Ro×List (Str×Hm))
 | .mk κ ks,p,sc=>(roK κ (TM.Internal.offs ks (p+ 1)),sc)::FU ks (p+ 1) (exK κ (TM.Internal.offs ks (p+ 1))) sc
def FU:List TM.Internal.Tr->Nat->List (Option (Str×Hm))->List (Str×Hm)->List (Ro×List (Str×Hm))
 |t::ts,p,e::es,sc=>roT t p (exS sc e)++FU ts (p+t.sz) es sc
 |_,_,_,_=>[]
end
def nmT (w:Str):TM.Internal.Tr:= .mk (.name w) []
def nuT (n:Int):TM.Internal.Tr:= .mk (.num n) []
def o2T (o:Str) (a b:TM.Internal.Tr):TM.Internal.Tr:= .mk (.op o 2) [a,b]
def r1T (a:TM.Internal.Tr):TM.Internal.Tr:= .mk (.row 1) [a]
def agT (S:Int):TM.Internal.Tr:=o2T "call" (nmT "turn") (o2T "sub" (nmT "n") (nuT S))
def moT (S:Int):Nat->TM.Internal.Tr
 |0=>o2T "add" (nuT 41) (agT S)
 |1=>o2T "join" (r1T (nmT "n")) (agT S)
 |2=> .mk (.tag "more") [agT S]
 |3=>agT S
 |4=>o2T "add" (agT S) (nmT "n")
 |5=>o2T "join" (agT S) (r1T (nmT "n"))
 |6=> .mk (.lt "m") [nmT "n",o2T "add" (agT S) (nmT "m")]
 |7=> .mk (.lt "m") [nmT "n",o2T "join" (agT S) (r1T (nmT "m"))]
 |8=> .mk (.case [("t","m")]) [.mk (.tag "t") [nmT "n"],o2T "add" (agT S) (nmT "m")]
 |_=> .mk (.case [("t","m")]) [.mk (.tag "t") [nmT "n"],o2T "join" (agT S) (r1T (nmT "m"))]
def isJ:Nat->Bool
 |1=>true
 |5=>true
 |7=>true
 |9=>true
 |_=>false
def baT (k:Nat):TM.Internal.Tr:=match isJ k with
 |true=> .mk (.row 0) []
 |false=>nuT 5
def tuT (k:Nat) (S L:Int):TM.Internal.Tr:= .mk (.fn "n") [.mk (.case [("yes","y"),("no","n2")]) [o2T "less" (nmT "n") (nuT L),baT k,moT S k]]
def alT (N:Int):TM.Internal.Tr:=o2T "call" (nmT "turn") (nuT N)
def prL (k:Nat) (S L N:Int):List (Ro×List (Str×Hm)):=roT (tuT k S L) 0 [("turn",("def",0))]++roT (alT N) (tuT k S L).sz [("turn",("def",0))]
def prR (k:Nat) (S L N:Int):List Ro:=(prL k S L N).map Prod.fst
def lkS:List (Str×Hm)->Str->Option Hm
 |[]=>fun _=>none
 |e::l=>wid (lkS l) e.1 e.2
def prO (k:Nat) (S L N:Int):Nat->Str->Option Hm:=fun i=>match(prL k S L N)[i]? with
 |some e=>lkS e.2
 |none=>fun _=>none
def prH (k:Nat) (S L N:Int):Nat->Option Hm:=fun i=>match(prL k S L N)[i]? with
 |some e=>duo (prO k S L N) i e.1
 |none=>none
def vlK (S ps:Int) (up:Int->Int->Vl->Vl) (bs:Vl):Nat->Int->Int->Vl
 |0,_,_=>bs
 |t+ 1,n,p=>up n p (vlK S ps up bs t (n-S) ps)
section
variable {ρs:List Ro} {ho:Nat->Option Hm}
def pj (s:Ms):Nat×Option Str×Nat×Nat×List Vl×List Stp×List Vl:=(s.bg,s.en,s.me.length,s.ha.length,s.de,s.st,s.rd)
def Rch (ρs:List Ro) (ho:Nat->Option Hm) (N B A C:Nat) (de:List Vl) (st:List Stp) (rd:List Vl) (st':List Stp) (rd':List Vl):Prop:=∀bg me ha,∃me' ha',me'.length=me.length+A/\ha'.length=ha.length+C/\itU ρs ho N ⟨bg,none,me,ha,de,st,rd⟩=some ⟨bg+B,none,me',ha',de,st',rd'⟩
theorem Rch.of {N B A C:Nat} {de:List Vl} {st st':List Stp} {rd rd':List Vl} (h:∀bg me ha,(itU ρs ho N ⟨bg,none,me,ha,de,st,rd⟩).map pj=some (bg+B,none,me.length+A,ha.length+C,de,st',rd')):Rch ρs ho N B A C de st rd st' rd':=fun bg me ha=>by
 obtain⟨s,hs,e⟩:=cD.mp (h bg me ha)
 obtain⟨b,en,m,h2,d,t,r⟩:=s
 simp only[pj,Prod.mk.injEq]at e
 obtain⟨rfl,rfl,e3,e4,rfl,rfl,rfl⟩:=e
 exact⟨m,h2,e3,e4,hs⟩
theorem Rch.trans {N B A C N' B' A' C':Nat} {de:List Vl} {st st' st2:List Stp} {rd rd' rd2:List Vl} (h:Rch ρs ho N B A C de st rd st' rd') (k:Rch ρs ho N' B' A' C' de st' rd' st2 rd2):Rch ρs ho (N+N') (B+B') (A+A') (C+C') de st rd st2 rd2:=fun bg me ha=>by
 obtain⟨m1,h1,a1,c1,e1⟩:=h bg me ha
 obtain⟨m2,h2,a2,c2,e2⟩:=k (bg+B) m1 h1
 exact⟨m2,h2,by lia,by lia,by rw[<-Nat.add_assoc];exact vh e1 e2⟩
theorem Rch.eq {N B A C N' B' A' C':Nat} {de:List Vl} {st st':List Stp} {rd rd':List Vl} (h:Rch ρs ho N B A C de st rd st' rd') (e1:N=N') (e2:B=B') (e3:A=A') (e4:C=C'):Rch ρs ho N' B' A' C' de st rd st' rd':=by subst e1 e2 e3 e4;exact h
def zc (ρs:List Ro) (ho:Nat->Option Hm) (N B:Nat) (de:List Vl) (st:List Stp) (rd:List Vl):Prop:=∀bg me ha,∃me' ha' st' rd',itU ρs ho N ⟨bg,none,me,ha,de,st,rd⟩=some ⟨bg+B,some "full",me',ha',de,st',rd'⟩
theorem Rch.full {N B A C N' B':Nat} {de:List Vl} {st st':List Stp} {rd rd':List Vl} (h:Rch ρs ho N B A C de st rd st' rd') (k:zc ρs ho N' B' de st' rd'):zc ρs ho (N+N') (B+B') de st rd:=fun bg me ha=>by
 obtain⟨m1,h1,a1,c1,e1⟩:=h bg me ha
 obtain⟨m2,h2,st2,rd2,e2⟩:=k (bg+B) m1 h1
 exact⟨m2,h2,st2,rd2,by rw[<-Nat.add_assoc];exact vh e1 e2⟩
theorem zc.eq {N B N' B':Nat} {de:List Vl} {st:List Stp} {rd:List Vl} (h:zc ρs ho N B de st rd) (e1:N=N') (e2:B=B'):zc ρs ho N' B' de st rd:=by subst e1 e2;exact h
theorem yX {q:Nat} {x y:Int} {e:Ev} {la lb:Vlr} {pa pb:Int} {de rd:List Vl} {st:List Stp} {bg:Nat} {me:List (Int×Int×Int)} {ha:List (Int×Int)} (h:ρs[q]?=some (.op "join" [x,y])) (l1:(l6 la).length<=500) (l2:(l6 lb).length<=500):
  my ρs ho ⟨bg,none,me,ha,de,.par (q:Int) e::st,.row lb pb:: .row la pa::rd⟩=if 60<(l6 la++l6 lb).length then some ⟨bg,some "full",(pb,q,1)::(pa,q,0)::me,ha,de,st,rd⟩else some ⟨bg,none,(pb,q,1)::(pa,q,0)::me,(q,q)::ha,de,st,.row (lP (l6 la++l6 lb)) q::rd⟩:=by
 unfold my
 have ez:atZ ρs (q:Int)=some (.op "join" [x,y]):=h
 show(match atZ ρs (q:Int)with|some ρ=>(match tkR (mD ρ).length (.row lb pb:: .row la pa::rd) []with|some (l,r2)=>lD (ho (q:Int).toNat) q e ρ l ⟨bg,none,me,ha,de,st,r2⟩|none=>none)|none=>none)=_
 rw[ez]
 show lD (ho (q:Int).toNat) q e (.op "join" [x,y]) [.row la pa,.row lb pb] ⟨bg,none,me,ha,de,st,rd⟩=_
 rw[vc]
 have b2:ie "row" (.row la pa) (.row lb pb) q ⟨bg,none,me,ha,de,st,rd⟩=(⟨bg,none,(pb,q,1)::(pa,q,0)::me,ha,de,st,rd⟩,true):=by kernel_rfl
 rw[b2]
 have n5:¬(500<(jE (.row la pa)).length\/500<(jE (.row lb pb)).length):=by
  show ¬(500<(l6 la).length\/500<(l6 lb).length)
  lia
 show(if true=true then if 500<(jE (.row la pa)).length\/500<(jE (.row lb pb)).length then none else _ else _)=_
 rw[if_pos rfl,if_neg n5]
 rfl
theorem r9 {q:Nat} {x y:Int} {e:Ev} {la lb:Vlr} {pa pb:Int} {de rd:List Vl} {st:List Stp} (h:ρs[q]?=some (.op "join" [x,y])) (hl:(l6 la).length+(l6 lb).length<=60):Rch ρs ho 1 0 2 1 de (.par (q:Int) e::st) (.row lb pb:: .row la pa::rd) st (.row (lP (l6 la++l6 lb)) q::rd):=fun bg me ha=>by
 have js:=yX (ho:=ho) (e:=e) (pa:=pa) (pb:=pb) (de:=de) (rd:=rd) (st:=st) (bg:=bg) (me:=me) (ha:=ha) h (show(l6 la).length<=500 by lia) (show(l6 lb).length<=500 by lia)
 rw[if_neg (by rw[aN];lia)]at js
 exact⟨_,_,rfl,rfl,vg rfl js rfl⟩
theorem nG {q:Nat} {x y:Int} {e:Ev} {la lb:Vlr} {pa pb:Int} {de rd:List Vl} {st:List Stp} (h:ρs[q]?=some (.op "join" [x,y])) (hl:(l6 la).length+(l6 lb).length=61):zc ρs ho 1 0 de (.par (q:Int) e::st) (.row lb pb:: .row la pa::rd):=fun bg me ha=>by
 have js:=yX (ho:=ho) (e:=e) (pa:=pa) (pb:=pb) (de:=de) (rd:=rd) (st:=st) (bg:=bg) (me:=me) (ha:=ha) h (show(l6 la).length<=500 by lia) (show(l6 lb).length<=500 by lia)
 rw[if_pos (by rw[aN];lia)]at js
 exact⟨_,_,_,_,vg rfl js rfl⟩
theorem se {S L:Int} {de:List Vl} {fr:Int->Int->List Stp} {rR:Int->Int->List Vl} {ps:Int} {up:Int->Int->Vl->Vl} {ok:Nat->Vl->Prop} {bs:Vl} {lim sd su bd bu ad au cd cu:Nat} (h0:ok 0 bs)
  (hb:∀n p st rd,n<L->Rch ρs ho 11 5 3 5 de (.beg 1 (.cons 1 (.num n p) .nil)::st) rd st (bs::rd))
  (hd:∀n p st rd,¬n<L->Rch ρs ho sd bd ad cd de (.beg 1 (.cons 1 (.num n p) .nil)::st) rd (.beg 1 (.cons 1 (.num (n-S) ps) .nil)::(fr n p++st)) (rR n p++rd))
  (hu:∀t v n p st rd,ok t v->t<lim->ok (t+ 1) (up n p v)/\Rch ρs ho su bu au cu de (fr n p++st) (v::(rR n p++rd)) st (up n p v::rd)):
  ∀(t:Nat) (n p:Int) (st:List Stp) (rd:List Vl),t<=lim->(∀j:Nat,j<t->L<=n-j*S)->n-t*S<L->ok t (vlK S ps up bs t n p)/\Rch ρs ho (11+t*(sd+su)) (5+t*(bd+bu)) (3+t*(ad+au)) (5+t*(cd+cu)) de (.beg 1 (.cons 1 (.num n p) .nil)::st) rd st (vlK S ps up bs t n p::rd)
 |0,n,p,st,rd,_,_,h=>⟨h0,(hb n p st rd (by simpa using h)).eq (by lia) (by lia) (by lia) (by lia)⟩
 |t+ 1,n,p,st,rd,hl,hj,h=>by
  have z:=hj 0 (by lia)
  rw[d8,d9,ee]at z
  have mv:∀j:Nat,n-S-j*S=n-((j+ 1:Nat):Int)*S:=fun j=>by rw[eg,eA,eB];lia
  obtain⟨o,r⟩:=se h0 hb hd hu t (n-S) ps (fr n p++st) (rR n p++rd) (by lia) (fun j hj'=>by rw[mv];exact hj (j+ 1) (by lia)) (by rw[mv];exact h)
  obtain⟨o2,r2⟩:=hu t _ n p st rd o (by lia)
  refine⟨o2,(((hd n p st rd (by lia)).trans r).trans r2).eq ?_ ?_ ?_ ?_⟩<;>rw[cx t 1,Nat.one_mul]<;>lia
theorem v7 {S L:Int} {de:List Vl} {fr:Int->Int->List Stp} {rR:Int->Int->List Vl} {ps:Int} {up:Int->Int->Vl->Vl} {ok:Nat->Vl->Prop} {bs:Vl} {sd su bd bu ad au cd cu sf:Nat} (h0:ok 0 bs)
  (hb:∀n p st rd,n<L->Rch ρs ho 11 5 3 5 de (.beg 1 (.cons 1 (.num n p) .nil)::st) rd st (bs::rd))
  (hd:∀n p st rd,¬n<L->Rch ρs ho sd bd ad cd de (.beg 1 (.cons 1 (.num n p) .nil)::st) rd (.beg 1 (.cons 1 (.num (n-S) ps) .nil)::(fr n p++st)) (rR n p++rd))
  (hu:∀t v n p st rd,ok t v->t<60->ok (t+ 1) (up n p v)/\Rch ρs ho su bu au cu de (fr n p++st) (v::(rR n p++rd)) st (up n p v::rd))
  (hf:∀v n p st rd,ok 60 v->zc ρs ho sf bu de (fr n p++st) (v::(rR n p++rd))):
  ∀(m:Nat) (n p:Int) (st:List Stp) (rd:List Vl),(∀j:Nat,j<m+ 61->L<=n-j*S)->n-((m+ 61:Nat):Int)*S<L->zc ρs ho (11+ 60*(sd+su)+(m+ 1)*sd+sf) (5+ 60*(bd+bu)+(m+ 1)*bd+bu) de (.beg 1 (.cons 1 (.num n p) .nil)::st) rd
 |m,n,p,st,rd,hj,h=>by
  have z:=hj 0 (by lia)
  rw[d8,d9,ee]at z
  have mv:∀j:Nat,n-S-j*S=n-((j+ 1:Nat):Int)*S:=fun j=>by rw[eg,eA,eB];lia
  have d:=hd n p st rd (by lia)
  cases m with
  |zero=>
   obtain⟨o,r⟩:=se h0 hb hd hu 60 (n-S) ps (fr n p++st) (rR n p++rd) (b6 _) (fun j hj'=>by rw[mv];exact hj (j+ 1) (by lia)) (by rw[mv];exact h)
   exact((d.trans r).full (hf _ n p st rd o)).eq (by lia) (by lia)
  |succ m=>
   refine(d.full (v7 h0 hb hd hu hf m (n-S) ps (fr n p++st) (rR n p++rd) (fun j hj'=>by rw[mv];exact hj (j+ 1) (by lia)) (by rw[mv,show m+ 61+ 1=m+ 1+ 61 by lia];exact h))).eq ?_ ?_<;>rw[cx (m+ 1) 1,Nat.one_mul]<;>lia
end
def e6K (n p:Int):Ev:= .cons 6 (.rcd .nil 2) (.cons 1 (.num n p) .nil)
def frK (n p:Int):Nat->List Stp
 |0=>[.hand 8,.par 6 (e6K n p),.hand 1]
 |1=>[.hand 9,.par 6 (e6K n p),.hand 1]
 |2=>[.hand 7,.par 6 (e6K n p),.hand 1]
 |3=>[.hand 6,.hand 1]
 |4=>[.hand 7,.beg 12 (e6K n p),.par 6 (e6K n p),.hand 1]
 |5=>[.hand 7,.beg 12 (e6K n p),.par 6 (e6K n p),.hand 1]
 |6=>[.hand 9,.beg 14 (.cons 7 (.num n p) (e6K n p)),.par 8 (.cons 7 (.num n p) (e6K n p)),.hand 6,.hand 1]
 |7=>[.hand 9,.beg 14 (.cons 7 (.num n p) (e6K n p)),.par 8 (.cons 7 (.num n p) (e6K n p)),.hand 6,.hand 1]
 |_=>[.hand 10,.beg 15 (.cons 9 (.num n p) (e6K n p)),.par 9 (.cons 9 (.num n p) (e6K n p)),.hand 6,.hand 1]
def rRK (n p:Int):Nat->List Vl
 |0=>[.num 41 7]
 |1=>[.row (.cons (.num n p) .nil) 7]
 |_=>[]
def psK (k:Nat):Int:=([10,11,9,8,9,9,11,11,12,12]:List Int).getD k 0
def upK (k:Nat) (n p:Int) (v:Vl):Vl:=match k with
 |0=> .num (41+lC v) 6
 |1=> .row (lP (.num n p::jE v)) 6
 |2=> .tag "more" v 6
 |3=>v
 |4=> .num (lC v+n) 6
 |5=> .row (lP (jE v++[.num n p])) 6
 |6=> .num (lC v+n) 8
 |7=> .row (lP (jE v++[.num n p])) 8
 |8=> .num (lC v+n) 9
 |_=> .row (lP (jE v++[.num n p])) 9
def bsK (k:Nat):Vl:=match isJ k with
 |true=> .row .nil 5
 |false=> .num 5 5
def okK (k t:Nat) (v:Vl):Prop:=match k with
 |2=>True
 |3=>True
 |k=>match isJ k with
  |true=>∃l q,v= .row (lP l) q/\l.length=t
  |false=>∃x q,v= .num x q
def deK:List Vl:=[.fn 1 .nil 0]
def dnK (k:Nat):Nat×Nat×Nat×Nat:=([(21,11,6,8),(23,12,6,9),(19,10,6,7),(18,9,6,7),(19,10,6,7),(19,10,6,7),(23,12,6,8),(23,12,6,8),(25,13,7,9),(25,13,7,9)]:List (Nat×Nat×Nat×Nat)).getD k (0,0,0,0)
def uwK (k:Nat):Nat×Nat×Nat×Nat:=([(3,0,2,3),(3,0,2,3),(3,0,0,3),(2,0,0,2),(5,1,2,4),(7,2,2,5),(6,1,2,5),(8,2,2,6),(6,1,2,5),(8,2,2,6)]:List (Nat×Nat×Nat×Nat)).getD k (0,0,0,0)
theorem ten {k:Nat} (h:k<10):k=0\/k=1\/k=2\/k=3\/k=4\/k=5\/k=6\/k=7\/k=8\/k=9:=by lia
section
variable {S L N:Int}
theorem stA {k:Nat} (h:k<10) (n p:Int) (st:List Stp) (rd:List Vl):Rch (prR k S L N) (prH k S L N) 7 4 2 3 deK (.beg 1 (.cons 1 (.num n p) .nil)::st) rd (.par 1 (.cons 1 (.num n p) .nil)::st) (AL (decide (n<L)) 2::rd):=by
 rcases ten h with rfl|rfl|rfl|rfl|rfl|rfl|rfl|rfl|rfl|rfl<;>exact Rch.of fun _ _ _=>by kernel_rfl
theorem stB {k:Nat} (h:k<10) (n p:Int) (st:List Stp) (rd:List Vl):Rch (prR k S L N) (prH k S L N) 4 1 1 2 deK (.par 1 (.cons 1 (.num n p) .nil)::st) (AL true 2::rd) st (bsK k::rd):=by
 rcases ten h with rfl|rfl|rfl|rfl|rfl|rfl|rfl|rfl|rfl|rfl<;>exact Rch.of fun _ _ _=>by kernel_rfl
theorem stC {k:Nat} (h:k<10) (n p:Int) (st:List Stp) (rd:List Vl):Rch (prR k S L N) (prH k S L N) ((dnK k).1-7) ((dnK k).2.1-4) ((dnK k).2.2.1-2) ((dnK k).2.2.2-3) deK (.par 1 (.cons 1 (.num n p) .nil)::st) (AL false 2::rd) (.beg 1 (.cons 1 (.num (n-S) (psK k)) .nil)::(frK n p k++st)) (rRK n p k++rd):=by
 rcases ten h with rfl|rfl|rfl|rfl|rfl|rfl|rfl|rfl|rfl|rfl<;>exact Rch.of fun _ _ _=>by kernel_rfl
theorem hbK {k:Nat} (h:k<10):∀(n p:Int) (st:List Stp) (rd:List Vl),n<L->Rch (prR k S L N) (prH k S L N) 11 5 3 5 deK (.beg 1 (.cons 1 (.num n p) .nil)::st) rd st (bsK k::rd):=fun n p st rd hn=>by
 have a:=stA (S:=S) (L:=L) (N:=N) h n p st rd
 rw[decide_eq_true hn]at a
 exact a.trans (stB h n p st rd)
theorem E4 {k:Nat} (h:k<10):7<=(dnK k).1/\4<=(dnK k).2.1/\2<=(dnK k).2.2.1/\3<=(dnK k).2.2.2:=by
 rcases ten h with rfl|rfl|rfl|rfl|rfl|rfl|rfl|rfl|rfl|rfl<;>decide
theorem hdK {k:Nat} (h:k<10):∀(n p:Int) (st:List Stp) (rd:List Vl),¬n<L->Rch (prR k S L N) (prH k S L N) (dnK k).1 (dnK k).2.1 (dnK k).2.2.1 (dnK k).2.2.2 deK (.beg 1 (.cons 1 (.num n p) .nil)::st) rd (.beg 1 (.cons 1 (.num (n-S) (psK k)) .nil)::(frK n p k++st)) (rRK n p k++rd):=fun n p st rd hn=>by
 have a:=stA (S:=S) (L:=L) (N:=N) h n p st rd
 rw[decide_eq_false hn]at a
 obtain⟨d1,d2,d3,d4⟩:=E4 h
 exact(a.trans (stC h n p st rd)).eq (by lia) (by lia) (by lia) (by lia)
end
section
variable {S L N:Int}
theorem huN {k:Nat} (h:k<10) (hj:isJ k=false):∀(t:Nat) (v:Vl) (n p:Int) (st:List Stp) (rd:List Vl),okK k t v->t<1000->okK k (t+ 1) (upK k n p v)/\Rch (prR k S L N) (prH k S L N) (uwK k).1 (uwK k).2.1 (uwK k).2.2.1 (uwK k).2.2.2 deK (frK n p k++st) (v::(rRK n p k++rd)) st (upK k n p v::rd):=fun t v n p st rd o _=>by
 rcases ten h with rfl|rfl|rfl|rfl|rfl|rfl|rfl|rfl|rfl|rfl
 ·obtain⟨x,q,rfl⟩:=o;exact⟨⟨_,_,rfl⟩,Rch.of fun _ _ _=>by kernel_rfl⟩
 ·cases hj
 ·exact⟨trivial,Rch.of fun _ _ _=>by kernel_rfl⟩
 ·exact⟨trivial,Rch.of fun _ _ _=>by kernel_rfl⟩
 ·obtain⟨x,q,rfl⟩:=o;exact⟨⟨_,_,rfl⟩,Rch.of fun _ _ _=>by kernel_rfl⟩
 ·cases hj
 ·obtain⟨x,q,rfl⟩:=o;exact⟨⟨_,_,rfl⟩,Rch.of fun _ _ _=>by kernel_rfl⟩
 ·cases hj
 ·obtain⟨x,q,rfl⟩:=o;exact⟨⟨_,_,rfl⟩,Rch.of fun _ _ _=>by kernel_rfl⟩
 ·cases hj
theorem sg {l:List Vl} {x:Vl}:(l6 (lP l)++[x]).length=l.length+ 1/\(x::l6 (lP l)).length=l.length+ 1:=by rw[l7,aN,az];exact⟨rfl,rfl⟩
theorem FV (l:List Vl) (q n p:Int) (st:List Stp) (rd:List Vl):Rch (prR 1 S L N) (prH 1 S L N) 1 0 0 1 deK (frK n p 1++st) (.row (lP l) q::(rRK n p 1++rd)) (.par ((6:Nat):Int) (e6K n p):: .hand 1::st) (.row (lP l) q:: .row (.cons (.num n p) .nil) 7::rd):=Rch.of fun _ _ _=>by kernel_rfl
theorem d3_1 (w:Vl) (st:List Stp) (rd:List Vl):Rch (prR 1 S L N) (prH 1 S L N) 1 0 0 1 deK (.hand 1::st) (w::rd) st (w::rd):=Rch.of fun _ _ _=>by kernel_rfl
theorem FW:(prR 1 S L N)[(6:Nat)]?=some (.op "join" [7,9]):=by kernel_rfl
theorem FX (l:List Vl) (q n p:Int) (st:List Stp) (rd:List Vl):Rch (prR 5 S L N) (prH 5 S L N) 5 2 0 3 deK (frK n p 5++st) (.row (lP l) q::(rRK n p 5++rd)) (.par ((6:Nat):Int) (e6K n p):: .hand 1::st) (.row (.cons (.num n p) .nil) 12:: .row (lP l) q::rd):=Rch.of fun _ _ _=>by kernel_rfl
theorem d3_5 (w:Vl) (st:List Stp) (rd:List Vl):Rch (prR 5 S L N) (prH 5 S L N) 1 0 0 1 deK (.hand 1::st) (w::rd) st (w::rd):=Rch.of fun _ _ _=>by kernel_rfl
theorem FY:(prR 5 S L N)[(6:Nat)]?=some (.op "join" [7,12]):=by kernel_rfl
theorem FZ (l:List Vl) (q n p:Int) (st:List Stp) (rd:List Vl):Rch (prR 7 S L N) (prH 7 S L N) 5 2 0 3 deK (frK n p 7++st) (.row (lP l) q::(rRK n p 7++rd)) (.par ((8:Nat):Int) (.cons 7 (.num n p) (e6K n p)):: .hand 6:: .hand 1::st) (.row (.cons (.num n p) .nil) 14:: .row (lP l) q::rd):=Rch.of fun _ _ _=>by kernel_rfl
theorem d3_7 (w:Vl) (st:List Stp) (rd:List Vl):Rch (prR 7 S L N) (prH 7 S L N) 2 0 0 2 deK (.hand 6:: .hand 1::st) (w::rd) st (w::rd):=Rch.of fun _ _ _=>by kernel_rfl
theorem F0:(prR 7 S L N)[(8:Nat)]?=some (.op "join" [9,14]):=by kernel_rfl
theorem F8 (l:List Vl) (q n p:Int) (st:List Stp) (rd:List Vl):Rch (prR 9 S L N) (prH 9 S L N) 5 2 0 3 deK (frK n p 9++st) (.row (lP l) q::(rRK n p 9++rd)) (.par ((9:Nat):Int) (.cons 9 (.num n p) (e6K n p)):: .hand 6:: .hand 1::st) (.row (.cons (.num n p) .nil) 15:: .row (lP l) q::rd):=Rch.of fun _ _ _=>by kernel_rfl
theorem d3_9 (w:Vl) (st:List Stp) (rd:List Vl):Rch (prR 9 S L N) (prH 9 S L N) 2 0 0 2 deK (.hand 6:: .hand 1::st) (w::rd) st (w::rd):=Rch.of fun _ _ _=>by kernel_rfl
theorem F9:(prR 9 S L N)[(9:Nat)]?=some (.op "join" [10,15]):=by kernel_rfl
theorem huJ {k:Nat} (h:k<10) (hj:isJ k=true):∀(t:Nat) (v:Vl) (n p:Int) (st:List Stp) (rd:List Vl),okK k t v->t<60->okK k (t+ 1) (upK k n p v)/\Rch (prR k S L N) (prH k S L N) (uwK k).1 (uwK k).2.1 (uwK k).2.2.1 (uwK k).2.2.2 deK (frK n p k++st) (v::(rRK n p k++rd)) st (upK k n p v::rd):=fun t v n p st rd o ht=>by
 rcases ten h with rfl|rfl|rfl|rfl|rfl|rfl|rfl|rfl|rfl|rfl
 ·cases hj
 ·obtain⟨l,q,rfl,hl⟩:=o
  exact⟨⟨_,_,rfl,by rw[<-hl];exact sg.2⟩,((FV l q n p st rd).trans (r9 FW (by rw[l7];show 1+l.length<=60;lia))).trans (d3_1 _ st rd)⟩
 ·cases hj
 ·cases hj
 ·cases hj
 ·obtain⟨l,q,rfl,hl⟩:=o
  exact⟨⟨_,_,rfl,by rw[<-hl];exact sg.1⟩,((FX l q n p st rd).trans (r9 FY (by rw[l7];show l.length+ 1<=60;lia))).trans (d3_5 _ st rd)⟩
 ·cases hj
 ·obtain⟨l,q,rfl,hl⟩:=o
  exact⟨⟨_,_,rfl,by rw[<-hl];exact sg.1⟩,((FZ l q n p st rd).trans (r9 F0 (by rw[l7];show l.length+ 1<=60;lia))).trans (d3_7 _ st rd)⟩
 ·cases hj
 ·obtain⟨l,q,rfl,hl⟩:=o
  exact⟨⟨_,_,rfl,by rw[<-hl];exact sg.1⟩,((F8 l q n p st rd).trans (r9 F9 (by rw[l7];show l.length+ 1<=60;lia))).trans (d3_9 _ st rd)⟩
theorem hfJ {k:Nat} (h:k<10) (hj:isJ k=true):∃sf,sf<=10/\∀(v:Vl) (n p:Int) (st:List Stp) (rd:List Vl),okK k 60 v->zc (prR k S L N) (prH k S L N) sf (uwK k).2.1 deK (frK n p k++st) (v::(rRK n p k++rd)):=by
 rcases ten h with rfl|rfl|rfl|rfl|rfl|rfl|rfl|rfl|rfl|rfl
 ·cases hj
 ·exact⟨2,by decide,fun v n p st rd o=>by obtain⟨l,q,rfl,hl⟩:=o;exact(FV l q n p st rd).full (nG FW (by rw[l7];show 1+l.length=61;lia))⟩
 ·cases hj
 ·cases hj
 ·cases hj
 ·exact⟨6,by decide,fun v n p st rd o=>by obtain⟨l,q,rfl,hl⟩:=o;exact(FX l q n p st rd).full (nG FY (by rw[l7];show l.length+ 1=61;lia))⟩
 ·cases hj
 ·exact⟨6,by decide,fun v n p st rd o=>by obtain⟨l,q,rfl,hl⟩:=o;exact(FZ l q n p st rd).full (nG F0 (by rw[l7];show l.length+ 1=61;lia))⟩
 ·cases hj
 ·exact⟨6,by decide,fun v n p st rd o=>by obtain⟨l,q,rfl,hl⟩:=o;exact(F8 l q n p st rd).full (nG F9 (by rw[l7];show l.length+ 1=61;lia))⟩
end
def rwB:Ro->Bool
 | .rcd _=>false
 | .get _ _=>false
 | .case _ l=>decide (l.length<=100)&&decide ((l.map Prod.fst).Nodup)
 | .row ks=>decide (ks.length<=100)
 | .op o ks=>decide (o="call"\/o="join"\/o="add"\/o="sub"\/o="less")&&decide (ks.length<=100)
 |_=>true
theorem DC {ρ:Ro} (h:rwB ρ=true):ρ.ok/\U0 ρ:=by
 cases ρ with
 |rcd _=>cases h
 |get _ _=>cases h
 |case b l=>
  have h:(decide (l.length<=100)&&decide ((l.map Prod.fst).Nodup))=true:=h
  simp only[dP,decide_eq_true_eq]at h
  exact⟨h,trivial⟩
 |row ks=>
  have h:ks.length<=100:=of_decide_eq_true h
  exact⟨h,trivial⟩
 |op o ks=>
  have h:(decide (o="call"\/o="join"\/o="add"\/o="sub"\/o="less")&&decide (ks.length<=100))=true:=h
  simp only[dP,decide_eq_true_eq]at h
  refine⟨⟨?_,h.2⟩,h.1⟩
  rcases h.1 with rfl|rfl|rfl|rfl|rfl<;>decide+kernel
 |_=>exact⟨trivial,trivial⟩
def rtK (k:Nat):Nat:=([13,14,12,11,13,14,15,16,16,17]:List Nat).getD k 0
def eaK (k:Nat):Nat:=(dnK k).2.1+(uwK k).2.1
def mtK (k:Nat):Nat:=(dnK k).2.2.1+(uwK k).2.2.1
theorem z9 {k:Nat} (h:k<10):(dnK k).2.2.2+(uwK k).2.2.2=eaK k/\(dnK k).1+(uwK k).1<=40/\(dnK k).1<=25:=by
 rcases ten h with rfl|rfl|rfl|rfl|rfl|rfl|rfl|rfl|rfl|rfl<;>decide
section
variable {S L N:Int}
theorem qN {k:Nat} (h:k<10):∀ρ∈prR k S L N,ρ.ok/\U0 ρ:=by
 have e:(prR k S L N).all rwB=true:=by rcases ten h with rfl|rfl|rfl|rfl|rfl|rfl|rfl|rfl|rfl|rfl<;>kernel_rfl
 exact fun ρ hρ=>DC (bF.mp e ρ hρ)
theorem st_1 {k:Nat} (h:k<10):Rch (prR k S L N) (prH k S L N) 2 1 0 1 [] [.beg 0 .nil] [] [] [.fn 1 .nil 0]:=by
 rcases ten h with rfl|rfl|rfl|rfl|rfl|rfl|rfl|rfl|rfl|rfl<;>exact Rch.of fun _ _ _=>by kernel_rfl
theorem Ga {k:Nat} (h:k<10):Rch (prR k S L N) (prH k S L N) 6 3 1 2 deK [.beg (rtK k:Int) .nil] [] (.beg 1 (.cons 1 (.num N ((rtK k+ 2:Nat):Int)) .nil)::[.hand (rtK k:Int)]) []:=by
 rcases ten h with rfl|rfl|rfl|rfl|rfl|rfl|rfl|rfl|rfl|rfl<;>exact Rch.of fun _ _ _=>by kernel_rfl
theorem st_3 {k:Nat} (h:k<10) (v:Vl):Rch (prR k S L N) (prH k S L N) 1 0 0 1 deK [.hand (rtK k:Int)] [v] [] [v]:=by
 rcases ten h with rfl|rfl|rfl|rfl|rfl|rfl|rfl|rfl|rfl|rfl<;>exact Rch.of fun _ _ _=>by kernel_rfl
def Stt (S L N:Int) (t:Nat):Prop:=(∀j:Nat,j<t->L<=N-j*S)/\N-t*S<L
theorem DD {k:Nat} (h:k<10):okK k 0 (bsK k):=by
 rcases ten h with rfl|rfl|rfl|rfl|rfl|rfl|rfl|rfl|rfl|rfl
 ·exact⟨_,_,rfl⟩
 ·exact⟨[],_,rfl,rfl⟩
 ·trivial
 ·trivial
 ·exact⟨_,_,rfl⟩
 ·exact⟨[],_,rfl,rfl⟩
 ·exact⟨_,_,rfl⟩
 ·exact⟨[],_,rfl,rfl⟩
 ·exact⟨_,_,rfl⟩
 ·exact⟨[],_,rfl,rfl⟩
def vaK (k t:Nat) (S N:Int):Vl:=vlK S (psK k) (upK k) (bsK k) t N ((rtK k+ 2:Nat):Int)
theorem AW {k t:Nat} (h:k<10) (ht:t<=250) (hj:isJ k=true->t<=60) (hs:Stt S L N t):okK k t (vaK k t S N)/\Rch (prR k S L N) (prH k S L N) (6+(11+t*((dnK k).1+(uwK k).1))+ 1) (8+t*eaK k) (4+t*mtK k) (8+t*eaK k) deK [.beg (rtK k:Int) .nil] [] [] [vaK k t S N]:=by
 have fin:∀lim,t<=lim->(∀(t:Nat) (v:Vl) (n p:Int) (st:List Stp) (rd:List Vl),okK k t v->t<lim->okK k (t+ 1) (upK k n p v)/\Rch (prR k S L N) (prH k S L N) (uwK k).1 (uwK k).2.1 (uwK k).2.2.1 (uwK k).2.2.2 deK (frK n p k++st) (v::(rRK n p k++rd)) st (upK k n p v::rd))->_:=fun lim hl hu=>se (DD h) (hbK (S:=S) (L:=L) (N:=N) h) (hdK h) hu t N ((rtK k+ 2:Nat):Int) [.hand (rtK k:Int)] [] hl hs.1 hs.2
 have hh:=(z9 h).1
 have key:okK k t (vaK k t S N)/\Rch (prR k S L N) (prH k S L N) (11+t*((dnK k).1+(uwK k).1)) (5+t*((dnK k).2.1+(uwK k).2.1)) (3+t*((dnK k).2.2.1+(uwK k).2.2.1)) (5+t*((dnK k).2.2.2+(uwK k).2.2.2)) deK (.beg 1 (.cons 1 (.num N ((rtK k+ 2:Nat):Int)) .nil)::[.hand (rtK k:Int)]) [] [.hand (rtK k:Int)] [vaK k t S N]:=by
  cases e:isJ k with
  |true=>exact fin 60 (hj e) (huJ h e)
  |false=>exact fin 1000 (by lia) (huN h e)
 rw[hh]at key
 refine⟨key.1,(((Ga h).trans key.2).trans (st_3 h _)).eq rfl ?_ ?_ ?_⟩
 ·show 3+(5+t*eaK k)+ 0=_;lia
 ·show 1+(3+t*mtK k)+ 0=_;lia
 ·lia
theorem v8 {k m:Nat} (h:k<10) (hj:isJ k=true) (hm:m<=200) (hs:Stt S L N (m+ 61)):∃n,n<=10000/\zc (prR k S L N) (prH k S L N) n (8+ 61*(uwK k).2.1+(m+ 61)*(dnK k).2.1) deK [.beg (rtK k:Int) .nil] []:=by
 obtain⟨sf,hsf,hf⟩:=hfJ (S:=S) (L:=L) (N:=N) h hj
 have f:=v7 (DD h) (hbK (S:=S) (L:=L) (N:=N) h) (hdK h) (huJ h hj) hf m N ((rtK k+ 2:Nat):Int) [.hand (rtK k:Int)] [] hs.1 hs.2
 obtain⟨_,h2,h3⟩:=z9 h
 have hmul:(m+ 1)*(dnK k).1<=201*25:=cy (by lia) h3
 refine⟨6+(11+ 60*((dnK k).1+(uwK k).1)+(m+ 1)*(dnK k).1+sf),by lia,((Ga h).full f).eq rfl ?_⟩
 rw[cx m 61,cx m 1]
 lia
theorem vi {k tu:Nat} (h:k<10) (ht:1<=tu):∃ha,ha.length=1/\xb (prR k S L N) (prH k S L N) tu 2 {s0M with st:= .beg ((0:Nat):Int) .nil::s0M.st} ⟨1,none,[],ha,[],[],[.fn 1 .nil 0]⟩:=by
 obtain⟨me,ha,h1,h2,e⟩:=st_1 (S:=S) (L:=L) (N:=N) h 0 [] []
 have e0:me=[]:=bJ h1
 subst e0
 have p:=qN (S:=S) (L:=L) (N:=N) h
 exact⟨ha,h2,(oS (fun ρ hρ=>(p ρ hρ).1) (fun ρ hρ=>(p ρ hρ).2) (.inr rfl) (show 0+ 1<=tu by lia) e).1⟩
theorem Aa {k t tu:Nat} (h:k<10) (ht:t<=250) (hj:isJ k=true->t<=60) (hs:Stt S L N t) (hu:9+t*eaK k<=tu):
  ∃m s',m<=40000/\oC (prR k S L N) (prH k S L N) tu m [0,rtK k] s0M s'/\s'.en=some ("done":Str)/\s'.bg=9+t*eaK k/\s'.ha.length=9+t*eaK k/\s'.me.length=4+t*mtK k/\s'.de=[.fn 1 .nil 0,vaK k t S N]:=by
 obtain⟨ha,hl,r1⟩:=vi (S:=S) (L:=L) (N:=N) h (show 1<=tu by lia)
 obtain⟨me2,ha2,h1,h2,e⟩:=(AW h ht hj hs).2 1 [] ha
 have p:=qN (S:=S) (L:=L) (N:=N) h
 have r2:=(oS (fun ρ hρ=>(p ρ hρ).1) (fun ρ hρ=>(p ρ hρ).2) (.inr rfl) (show 1+(8+t*eaK k)<=tu by lia) e).1
 have b:t*((dnK k).1+(uwK k).1)<=250*40:=cy ht (z9 h).2.1
 refine⟨_,_,?_,.next r1 rfl rfl (.next r2 rfl rfl .done),rfl,?_,?_,?_,rfl⟩
 ·lia
 ·show 1+(8+t*eaK k)=_;lia
 ·show ha2.length=_;lia
 ·show me2.length=_;rw[h1];show 0+_=_;lia
theorem Ab {k m tu:Nat} (h:k<10) (hj:isJ k=true) (hm:m<=200) (hs:Stt S L N (m+ 61)) (hu:9+ 61*(uwK k).2.1+(m+ 61)*(dnK k).2.1<=tu):
  ∃m' s',m'<=40000/\oC (prR k S L N) (prH k S L N) tu m' [0,rtK k] s0M s'/\s'.en=some ("full":Str)/\s'.bg=9+ 61*(uwK k).2.1+(m+ 61)*(dnK k).2.1:=by
 obtain⟨ha,hl,r1⟩:=vi (S:=S) (L:=L) (N:=N) h (show 1<=tu by lia)
 obtain⟨n,hn,f⟩:=v8 h hj hm hs
 obtain⟨me2,ha2,st2,rd2,e⟩:=f 1 [] ha
 have p:=qN (S:=S) (L:=L) (N:=N) h
 have r2:=(oS (fun ρ hρ=>(p ρ hρ).1) (fun ρ hρ=>(p ρ hρ).2) (.inl (by intro z;cases z)) (show 1+(8+ 61*(uwK k).2.1+(m+ 61)*(dnK k).2.1)<=tu by lia) e).1
 exact⟨_,_,by lia,.next r1 rfl rfl (.ends r2 fun z=>nomatch z),rfl,by show 1+(8+ 61*(uwK k).2.1+(m+ 61)*(dnK k).2.1)=_;lia⟩
theorem yY {k t tu:Nat} (h:k<10) (ht:t<=250) (hs:Stt S L N t) (h1:1<=tu) (hu:if isJ k=true/\60<t then tu<9+ 61*(uwK k).2.1+t*(dnK k).2.1 else tu<9+t*eaK k):
  ∃m s',m<=40000/\oC (prR k S L N) (prH k S L N) tu m [0,rtK k] s0M s'/\s'.en=some ("turns":Str)/\s'.bg=tu:=by
 obtain⟨ha,hl,r1⟩:=vi (S:=S) (L:=L) (N:=N) h h1
 have p:=qN (S:=S) (L:=L) (N:=N) h
 have fin:∀{n:Nat} {s':Ms},n<=39000->tu<s'.bg->itU (prR k S L N) (prH k S L N) n ⟨1,none,[],ha,deK,[.beg (rtK k:Int) .nil],[]⟩=some s'->∃m s',m<=40000/\oC (prR k S L N) (prH k S L N) tu m [0,rtK k] s0M s'/\s'.en=some ("turns":Str)/\s'.bg=tu:=fun hn hb e=>by
  obtain⟨n',s2,l,r2,a,b⟩:=v5 (fun ρ hρ=>(p ρ hρ).1) (fun ρ hρ=>(p ρ hρ).2) hb e h1
  exact⟨_,s2,by lia,.next r1 rfl rfl (.ends r2 fun z=>by rw[a]at z;cases z),a,b⟩
 by_cases c:isJ k=true/\60<t
 ·rw[if_pos c]at hu
  obtain⟨m,rfl⟩:∃m,t=m+ 61:=⟨t-61,by lia⟩
  obtain⟨n,hn,f⟩:=v8 h c.1 (by lia) hs
  obtain⟨me2,ha2,st2,rd2,e⟩:=f 1 [] ha
  exact fin (by lia) (show tu<1+(8+ 61*(uwK k).2.1+(m+ 61)*(dnK k).2.1) by lia) e
 ·rw[if_neg c]at hu
  obtain⟨me2,ha2,h1,h2,e⟩:=(AW h ht (fun z=>cw.mp fun y=>c ⟨z,y⟩) hs).2 1 [] ha
  have b:t*((dnK k).1+(uwK k).1)<=250*40:=cy ht (z9 h).2.1
  exact fin (by lia) (show tu<1+(8+t*eaK k) by lia) e
end
open GR.Internal (Op Gp toks lO jc fJ fu WOk TAt kj)
def gdB (L:List (Ro×List (Str×Hm))) (roots:List Nat):Bool:=(aa L.length).all fun k=>match L[k]? with
 |some (ρ,sc)=>(ρ.pl.zip ρ.ex).all (fun q=>match q.1 with
   | .ofNat m=>decide (k<m)&&(match L[m]? with|some e=>decide (e.2=exS sc q.2)|none=>false)
   | .negSucc _=>false)&&(roots.contains k||(aa k).any fun k'=>match L[k']? with|some e=>e.1.pl.contains (k:Int)|none=>false)&&(match ρ with| .name x=>(lkS sc x).isSome|_=>true)
 |none=>false
theorem E5 (sc:List (Str×Hm)) (e:Option (Str×Hm)):lkS (exS sc e)=exG (lkS sc) e:=by
 cases e with
 |none=>rfl
 |some p=>rfl
section
variable {S L N:Int}
theorem tY {k i:Nat} {e:Ro×List (Str×Hm)} (h:(prL k S L N)[i]?=some e):prO k S L N i=lkS e.2:=by unfold prO;rw[h]
theorem yZ {k i:Nat} {ρ:Ro} (h:(prR k S L N)[i]?=some ρ):∃sc,(prL k S L N)[i]?=some (ρ,sc):=by
 unfold prR at h
 rw[aK]at h
 obtain⟨e,he,rfl⟩:=cD.mp h
 exact⟨e.2,he⟩
theorem gd_k {k:Nat} (h:k<10):y9 ["turn","all"] [0,rtK k] (prR k S L N) (prO k S L N):=by
 have e:gdB (prL k S L N) [0,rtK k]=true:=by rcases ten h with rfl|rfl|rfl|rfl|rfl|rfl|rfl|rfl|rfl|rfl<;>kernel_rfl
 have l:(prR k S L N).length<=1000/\rtK k<(prR k S L N).length/\(prL k S L N)[0]?=some ((Ro.fn "n" 1,[("turn",("def",0))]):Ro×List (Str×Hm))/\(prL k S L N)[rtK k]?=some ((Ro.op "call" [((rtK k+ 1:Nat):Int),((rtK k+ 2:Nat):Int)],[("turn",("def",0))]):Ro×List (Str×Hm)):=by
  rcases ten h with rfl|rfl|rfl|rfl|rfl|rfl|rfl|rfl|rfl|rfl<;>exact⟨of_decide_eq_true (by kernel_rfl),of_decide_eq_true (by kernel_rfl),by kernel_rfl,by kernel_rfl⟩
 obtain⟨l1,l2,l3,l4⟩:=l
 have ll:(prR k S L N).length=(prL k S L N).length:=aC _
 have g0:G0 ["turn","all"] 1=lkS [("turn",("def",0))]:=rfl
 have at':∀(i:Nat) (ρ:Ro),(prR k S L N)[i]?=some ρ->∃sc,(prL k S L N)[i]?=some (ρ,sc)/\(∀q∈ρ.pl.zip ρ.ex,(match q.1 with| .ofNat m=>decide (i<m)&&(match(prL k S L N)[m]? with|some e=>decide (e.2=exS sc q.2)|none=>false)| .negSucc _=>false)=true)/\([0,rtK k].contains i||(aa i).any fun k'=>match(prL k S L N)[k']? with|some e=>e.1.pl.contains (i:Int)|none=>false)=true/\(match ρ with| .name x=>(lkS sc x).isSome|_=>true)=true:=fun i ρ hi=>by
  obtain⟨sc,hs⟩:=yZ hi
  have:=bF.mp e i (af.mpr (aq.mp hs).1)
  rw[hs]at this
  simp only[dP]at this
  exact⟨sc,hs,fun q hq=>bF.mp this.1.1 q hq,this.1.2,this.2⟩
 refine⟨by decide+kernel,by decide,rfl,fun ρ hρ=>(qN h ρ hρ).1,l1,fun i r hr=>?_,fun i r ρ hr hρ=>?_,fun i ρ j c e' hi hc he=>?_,fun i hi=>?_,fun i x hi=>?_⟩
 ·match i,hr with
  |0,hr=>cases hr;lia
  |1,hr=>cases hr;exact l2
 ·obtain⟨sc,hs⟩:=yZ hρ
  match i,hr with
  |0,hr=>cases hr;rw[l3]at hs;cases hs;rw[tY l3];exact g0.symm
  |1,hr=>cases hr;rw[l4]at hs;cases hs;rw[tY l4];exact g0.symm
 ·obtain⟨sc,hs,hk,_⟩:=at' i ρ hi
  have hz:(ρ.pl.zip ρ.ex)[j]?=some (c,e'):=by rw[List.getElem?_zip_eq_some];exact⟨hc,he⟩
  have:=hk (c,e') (aM hz)
  cases c with
  |negSucc z=>cases this
  |ofNat m=>
   have this:(decide (i<m)&&(match(prL k S L N)[m]? with|some e=>decide (e.2=exS sc e')|none=>false))=true:=this
   rw[dP]at this
   refine⟨m,rfl,of_decide_eq_true this.1,?_⟩
   cases hm:(prL k S L N)[m]? with
   |none=>rw[hm]at this;cases this.2
   |some e2=>
    rw[hm]at this
    rw[tY hm,tY hs,of_decide_eq_true this.2,E5]
 ·obtain⟨ρ,hρ⟩:∃ρ,(prR k S L N)[i]?=some ρ:=⟨_,bq hi⟩
  obtain⟨sc,hs,_,hk,_⟩:=at' i ρ hρ
  rw[Bool.or_eq_true]at hk
  rcases hk with hk|hk
  ·have:i∈[0,rtK k]:=by simpa using hk
   rcases aj.mp this with e|e
   ·exact .inl ⟨0,by rw[e];rfl⟩
   ·exact .inl ⟨1,by rw[a8.mp e];rfl⟩
  ·obtain⟨k',h1,h2⟩:=a7.mp hk
   cases hm:(prL k S L N)[k']? with
   |none=>rw[hm]at h2;cases h2
   |some e2=>
    rw[hm]at h2
    refine .inr ⟨k',e2.1,af.mp h1,?_,by simpa using h2⟩
    unfold prR
    rw[aK,hm]
    rfl
 ·obtain⟨sc,hs,_,_,hk⟩:=at' i _ hi
  rw[tY hs]
  exact cA.mp hk
theorem DE {k i:Nat} {ρ:Ro} (h:(prR k S L N)[i]?=some ρ):prH k S L N i=duo (prO k S L N) i ρ:=by
 obtain⟨sc,hs⟩:=yZ h
 unfold prH
 rw[hs]
end
open GR.Internal (Op Gp toks lO jc fJ fu WOk TAt kj)
def AX (w:Str):Prop:=w.cps.toList≠[]/\∀k∈w.cps.toList,k≠32/\k≠10/\k≠40/\k≠41
theorem fgp:∀c∈GR.Internal.FG.cps.toList,c≠32/\c≠10/\c≠40/\c≠41:=by decide+kernel
theorem Ac {n:Int} (h0:0<=n) (h1:n<10^60):AX (TM.Internal.numS n)/\(TM.Internal.numS n).length<=60:=by
 obtain⟨f1,f2,f3⟩:=GR.Internal.str_fig (k:=59) h0 h1
 refine⟨⟨fun z=>?_,fun k hk=>fgp k (f1 k hk)⟩,f3⟩
 obtain⟨c,r,e⟩:=GR.Internal.first_of (x:=TM.Internal.numS n) f2
 rw[z]at e
 cases e
def okW (w:Str):Prop:=w≠""/\w.length<=60/\∀c∈w.cps.toList,c<128
structure Gi (x:Str) (ts:List Str) (a b:Nat):Prop where
 op:Op x ts
 ln:x.length+ 1<=a
 wl:ts.length<=b
 ok:∀w∈ts,okW w
theorem B3 {x:Str} {n:Nat} (hp:AX x) (hl:x.length<=n) (hn:n<=60) (ha:∀c∈x.cps.toList,c<128):Gi x [x] (n+ 1) 1:=by
 refine⟨Op.word hp.1 hp.2,by lia,b6 _,fun w hw=>?_⟩
 rw[a8.mp hw]
 refine⟨fun z=>hp.1 (by rw[z];rfl),by lia,ha⟩
theorem E6:∀c∈GR.Internal.FG.cps.toList,c<128:=by decide+kernel
theorem v9 {n:Int} (h0:0<=n) (h1:n<10^60):Gi (TM.Internal.numS n) [TM.Internal.numS n] 61 1:=by
 obtain⟨a,b⟩:=Ac h0 h1
 obtain⟨f1,_,_⟩:=GR.Internal.str_fig (k:=59) h0 h1
 exact B3 a b (by decide) fun c hc=>E6 c (f1 c hc)
def dtk (n:Str) (t:TM.Internal.Tr):List Str:=("(":Str)::"def"::n::(t.tk++[(")":Str)])
def xf:List Str->List TM.Internal.Tr->List Str
 |n::ns,t::ts=>dtk n t++xf ns ts
 |_,_=>[]
theorem wa:∀{ns:List Str} {ts:List TM.Internal.Tr},ns.length=ts.length->(∀n∈ns,fu n=true)->TM.Internal.oks ts->(∀t∈ts,t.nest<=24)->∀(rows:List Dt) (names:List Str) (roots:List Dt),rows.length+TM.Internal.szs ts<=160->
  jc (xf ns ts) rows names roots=some (names++ns,roots++(TM.Internal.offs ts rows.length).map TM.Internal.kD,rows++TM.Internal.rws ts rows.length)
 |[],[],_,_,_,_,rows,names,roots,_=>by
  show jc [] rows names roots=_
  rw[GR.Internal.defs_nil,TM.Internal.offs,TM.Internal.rws,aD,aS,aD,aD]
 |n::ns,t::ts,hl,hn,ho,hd,rows,names,roots,hz=>by
  rw[TM.Internal.oks]at ho
  rw[TM.Internal.szs]at hz
  have e:=TM.Internal.rd_all 24 t ho.1 (hd t ah) ((")":Str)::xf ns ts) rows (by lia)
  have lr:(rows++t.rw rows.length).length=rows.length+t.sz:=by rw[aN,TM.Internal.Tr.rw_len]
  have h1:xf (n::ns) (t::ts)=("(":Str)::"def"::n::(t.tk++(")":Str)::xf ns ts):=by
   show dtk n t++xf ns ts=_
   unfold dtk
   rw[aQ,aQ,aQ,bG]
   rfl
  rw[h1,GR.Internal.defs_yes (hn n ah) e,wa (by simpa using hl) (fun x hx=>hn x (ai _ hx)) ho.2 (fun x hx=>hd x (ai _ hx)) _ _ _ (by rw[lr];lia),lr,TM.Internal.offs,TM.Internal.rws,aB,bG,bG,bG]
  rfl
theorem Ad {ns:List Str} {ts:List TM.Internal.Tr} (hl:ns.length=ts.length) (hn:∀n∈ns,fu n=true) (ho:TM.Internal.oks ts) (hd:∀t∈ts,t.nest<=24) (hz:TM.Internal.szs ts<=160) (h1:1<=ns.length) (h12:ns.length<=12):lO (xf ns ts)=some (ns,(TM.Internal.offs ts 0).map TM.Internal.kD,TM.Internal.rws ts 0):=by
 unfold lO
 rw[wa hl hn ho hd [] [] [] (by rw[aR,ck];exact hz)]
 show(if 1<=([]++ns).length/\([]++ns).length<=12 then _ else _)=_
 rw[bK,if_pos ⟨h1,h12⟩]
 rfl
theorem DF {ws:List Str} (hl:ws.length<=30000) (h:∀w∈ws,okW w):WOk ws:=⟨hl,fun x hx=>by
 obtain⟨a,b,c⟩:=h x hx
 exact⟨a,by lia,fun k hk=>by have:=c k hk;lia⟩⟩
mutual
def gF:Dt->Bool
 | .flat v=>(match v with| .int _=>true| .str _=>true|_=>false)
 | .tup ds=>decide (ds.length<=1000)&&gFs ds
 | .lst _=>false
def gFs:List Dt->Bool
 |[]=>true
 |d::ds=>gF d&&gFs ds
end
mutual
theorem DG {K:PySem.W.Frag} {H:Hp}:∀{x:V} {d:Dt},TAt K H x d->gF d=true->Im H x d
 |_,_,.flat h,g=> .flat (by
   rename_i v
   cases v with
   |int n=>rfl
   |str z=>rfl
   |_=>simp[gF]at g)
 |_,_,.tup h hs,g=>by
  rw[gF,dP]at g
  exact .tup h (oT hs g.2)
theorem oT {K:PySem.W.Frag} {H:Hp}:∀{xs:List V} {ds:List Dt},kj K H xs ds->gFs ds=true->Ims H xs ds
 |_,_,.nil,_=> .nil
 |_,_,.cons h t,g=>by
  rw[gFs,dP]at g
  exact .cons (DG h g.1) (oT t g.2)
end
theorem DH {H:Hp}:∀{ps:List Nat} {xs:List V},Ims H xs (ps.map TM.Internal.kD)->xs=ps.map fun k:Nat=>V.int (k:Int)
 |[],xs,h=>by cases h;rfl
 |p::ps,xs,h=>by
  rw[aB,TM.Internal.kD]at h
  cases h with
  |cons h t=>
   cases h
   rw[DH t]
   rfl
open GR.Internal (Op Gp toks lO jc fJ fu WOk TAt kj)
theorem Gb {a:TM.Internal.Tr} (h:a.ok):TM.Internal.oks [a]:=by rw[TM.Internal.oks,TM.Internal.oks];exact⟨h,trivial⟩
theorem E7 {a b:TM.Internal.Tr} (h:a.ok) (k:b.ok):TM.Internal.oks [a,b]:=by rw[TM.Internal.oks];exact⟨h,Gb k⟩
theorem qO {w:Str} (h:fu w=true):(nmT w).ok:=by unfold nmT;rw[TM.Internal.Tr.ok,TM.Internal.oks];exact⟨h,rfl,trivial⟩
theorem y0 {n:Int} (h:0<=n/\n<10^60):(nuT n).ok:=by unfold nuT;rw[TM.Internal.Tr.ok,TM.Internal.oks];exact⟨h,rfl,trivial⟩
theorem y3 {κ:TM.Internal.Kn} {a:TM.Internal.Tr} (hk:κ.ok) (e:1=κ.ar) (h:a.ok):(TM.Internal.Tr.mk κ [a]).ok:=by rw[TM.Internal.Tr.ok];exact⟨hk,e,Gb h⟩
theorem y4 {κ:TM.Internal.Kn} {a b:TM.Internal.Tr} (hk:κ.ok) (e:2=κ.ar) (h:a.ok) (k:b.ok):(TM.Internal.Tr.mk κ [a,b]).ok:=by rw[TM.Internal.Tr.ok];exact⟨hk,e,E7 h k⟩
theorem DI:∀o∈(["call","sub","add","join","less"]:List Str),(o,2)∈TM.Internal.ops:=by decide+kernel
theorem oE {o:Str} {a b:TM.Internal.Tr} (ho:o∈(["call","sub","add","join","less"]:List Str)) (h:a.ok) (k:b.ok):(o2T o a b).ok:=y4 (DI o ho) rfl h k
theorem mf:fu "turn"=true/\fu "n"=true/\fu "m"=true/\fu "more"=true/\fu "t"=true/\fu "yes"=true/\fu "y"=true/\fu "no"=true/\fu "n2"=true/\fu "all"=true:=by decide+kernel
section
variable {S L N:Int}
theorem E8 (h:0<=S/\S<10^60):(agT S).ok:=oE (by decide+kernel) (qO mf.1) (oE (by decide+kernel) (qO mf.2.1) (y0 h))
theorem E9 {k:Nat} (hk:k<10) (h:0<=S/\S<10^60):(moT S k).ok:=by
 have a:=E8 h
 have n:=qO mf.2.1
 have m:=qO mf.2.2.1
 have rn:(r1T (nmT "n")).ok:=y3 (show 1<=8 by decide) rfl n
 have rm:(r1T (nmT "m")).ok:=y3 (show 1<=8 by decide) rfl m
 have cs:(TM.Internal.Kn.case [("t","m")]).ok:=⟨by decide,by decide,by decide+kernel⟩
 have tg:(TM.Internal.Tr.mk (.tag "t") [nmT "n"]).ok:=y3 mf.2.2.2.2.1 rfl n
 rcases ten hk with rfl|rfl|rfl|rfl|rfl|rfl|rfl|rfl|rfl|rfl
 ·exact oE (by decide+kernel) (y0 (by decide)) a
 ·exact oE (by decide+kernel) rn a
 ·exact y3 mf.2.2.2.1 rfl a
 ·exact a
 ·exact oE (by decide+kernel) a n
 ·exact oE (by decide+kernel) a rn
 ·exact y4 mf.2.2.1 rfl n (oE (by decide+kernel) a m)
 ·exact y4 mf.2.2.1 rfl n (oE (by decide+kernel) a rm)
 ·exact y4 cs rfl tg (oE (by decide+kernel) a m)
 ·exact y4 cs rfl tg (oE (by decide+kernel) a rm)
theorem Fb (k:Nat):(baT k).ok:=by
 unfold baT
 cases isJ k with
 |true=>show(TM.Internal.Tr.mk (.row 0) []).ok;rw[TM.Internal.Tr.ok,TM.Internal.oks];exact⟨by show 0<=8;decide,rfl,trivial⟩
 |false=>exact y0 (by decide)
theorem Fc {k:Nat} (hk:k<10) (h:0<=S/\S<10^60) (hl:0<=L/\L<10^60):(tuT k S L).ok:=by
 refine y3 mf.2.1 rfl ?_
 rw[TM.Internal.Tr.ok,TM.Internal.oks]
 exact⟨⟨by decide,by decide,by decide+kernel⟩,rfl,oE (by decide+kernel) (qO mf.2.1) (y0 hl),E7 (Fb k) (E9 hk h)⟩
theorem Fe (h:0<=N/\N<10^60):(alT N).ok:=oE (by decide+kernel) (qO mf.1) (y0 h)
theorem Gd {k:Nat} (h:k<10):(prR k S L N).map Ro.d=TM.Internal.rws [tuT k S L,alT N] 0/\TM.Internal.offs [tuT k S L,alT N] 0=[0,rtK k]/\gFs (TM.Internal.rws [tuT k S L,alT N] 0)=true/\TM.Internal.szs [tuT k S L,alT N]<=160/\(tuT k S L).nest<=24/\(alT N).nest<=24/\(xf ["turn","all"] [tuT k S L,alT N]).length<=30000:=by
 rcases ten h with rfl|rfl|rfl|rfl|rfl|rfl|rfl|rfl|rfl|rfl<;>exact⟨by kernel_rfl,by kernel_rfl,by kernel_rfl,of_decide_eq_true (by kernel_rfl),of_decide_eq_true (by kernel_rfl),of_decide_eq_true (by kernel_rfl),of_decide_eq_true (by kernel_rfl)⟩
theorem DJ {k:Nat} (hk:k<10) (h:0<=S/\S<10^60) (hl:0<=L/\L<10^60) (hn:0<=N/\N<10^60):lO (xf ["turn","all"] [tuT k S L,alT N])=some ((["turn","all"]:List Str),([0,rtK k]:List Nat).map TM.Internal.kD,(prR k S L N).map Ro.d):=by
 obtain⟨e1,e2,_,e4,e5,e6,_⟩:=Gd (S:=S) (L:=L) (N:=N) hk
 rw[e1,<-e2]
 refine Ad rfl (by decide+kernel) (E7 (Fc hk h hl) (Fe hn)) (fun t ht=>?_) e4 (by decide) (by decide)
 rcases aj.mp ht with rfl|ht
 ·exact e5
 ·rw[a8.mp ht];exact e6
end
structure Gq (x:Str) (ts:List Str) (a:Nat):Prop where
 g:Gp x ts
 l:x.length<=a
 o:∀w∈ts,okW w
theorem Gq.le {x:Str} {ts:List Str} {a b:Nat} (h:Gq x ts a) (k:autoParam (a<=b) L2.Internal.auD._auto_1):Gq x ts b:=⟨h.g,bX h.l k,h.o⟩
theorem wZ {ts us:List Str} (h:∀w∈ts,okW w) (k:∀w∈us,okW w):∀w∈ts++us,okW w:=fun w hw=>(ak.mp hw).elim (h w) (k w)
def Cd (w:Str):Bool:=decide (w≠"")&&decide (w.length<=60)&&w.cps.toList.all fun c=>decide (c<128)
theorem si {ts:List Str} (h:ts.all Cd=true):∀w∈ts,okW w:=fun w hw=>by
 have:=bF.mp h w hw
 unfold Cd at this
 simp only[dP,decide_eq_true_eq,bF]at this
 exact⟨this.1.1,this.1.2,this.2⟩
theorem Gq.app {x y:Str} {ts us:List Str} {a b:Nat} (h:Gq x ts a) (k:Gq y us b):Gq (x++y) (ts++us) (a+b):=⟨h.g.app k.g,by rw[Str.length_append];have:=h.l;have:=k.l;lia,wZ h.o k.o⟩
theorem Gq.num {x y z:Str} {ts us:List Str} {a b:Nat} {n:Int} (h:Gq x ts a) (hn:0<=n/\n<10^60) (hz:(")":Str)++y=z) (k:Gq y us b):Gq (x++TM.Internal.numS n++z) (ts++[TM.Internal.numS n]++[(")":Str)]++us) (a+ 61+b):=by
 have g:=v9 hn.1 hn.2
 rw[<-hz,<-GR.Internal.cat_assoc]
 refine⟨(h.g.app_op g.op).close.app k.g,?_,wZ (wZ (wZ h.o g.ok) (si (by decide+kernel))) k.o⟩
 rw[Str.length_append,Str.length_append,Str.length_append,show(")":Str).length=1 by decide+kernel]
 have:=h.l
 have:=k.l
 have:=g.ln
 lia
def agS (S:Int):Str:="(call turn (sub n "++TM.Internal.numS S++"))"
def moS (S:Int):Nat->Str
 |0=>"(add 41 "++agS S++")"
 |1=>"(join (row n) "++agS S++")"
 |2=>"(tag more "++agS S++")"
 |3=>agS S
 |4=>"(add "++agS S++" n)"
 |5=>"(join "++agS S++" (row n))"
 |6=>"(let m n "++("(add "++agS S++" m)")++")"
 |7=>"(let m n "++("(join "++agS S++" (row m))")++")"
 |8=>"(case (tag t n) t m "++("(add "++agS S++" m)")++")"
 |_=>"(case (tag t n) t m "++("(join "++agS S++" (row m))")++")"
def baS (k:Nat):Str:=match isJ k with
 |true=>"(row)"
 |false=>"5"
def boS (k:Nat) (S L:Int):Str:="(case (less n "++TM.Internal.numS L++") yes y "++baS k++" no n2 "++moS S k++")"
def txS (k:Nat) (S L N:Int):Str:="(def turn (fn n "++boS k S L++"))\n(def all (call turn "++TM.Internal.numS N++"))"
theorem kO {x:Str} {ts:List Str} {a:Nat} (h:(decide ((T1.W x.cps.toList).2=[])&&decide ((T1.W x.cps.toList).1.map GR.Internal.St1=ts)&&decide (x.length<=a)&&ts.all Cd)=true):Gq x ts a:=by
 simp only[dP,decide_eq_true_eq]at h
 exact⟨h.1.1,h.1.2,si h.2⟩
section
variable {S L N:Int}
theorem Ge (h:0<=S/\S<10^60):Gq (agS S) (agT S).tk 100:=by
 have q:=(kO (x:="(call turn (sub n ") (ts:=["(","call","turn","(","sub","n"]) (a:=30) (by decide+kernel)).num h (y:=")") (z:="))") (by decide+kernel) (kO (ts:=[")"]) (a:=1) (by decide+kernel))
 exact q.le
theorem Gf {k:Nat} (hk:k<10) (h:0<=S/\S<10^60):Gq (moS S k) (moT S k).tk 300:=by
 have a:=Ge h
 have lit:∀{x y:Str} {ts us tt:List Str},(decide ((T1.W x.cps.toList).2=[])&&decide ((T1.W x.cps.toList).1.map GR.Internal.St1=ts)&&decide (x.length<=40)&&ts.all Cd)=true->(decide ((T1.W y.cps.toList).2=[])&&decide ((T1.W y.cps.toList).1.map GR.Internal.St1=us)&&decide (y.length<=40)&&us.all Cd)=true->ts++(agT S).tk++us=tt->Gq (x++agS S++y) tt 180:=fun hx hy e=>e▸((kO hx).app a).app (kO hy)
 have wr:∀{x z:Str} {ts us tt:List Str},(decide ((T1.W x.cps.toList).2=[])&&decide ((T1.W x.cps.toList).1.map GR.Internal.St1=ts)&&decide (x.length<=40)&&ts.all Cd)=true->Gq z us 180->ts++us++[(")":Str)]=tt->Gq (x++z++")") tt 300:=fun hx hz e=>by
  have q:=((kO hx).app hz).app (kO (x:=")") (ts:=[")"]) (a:=1) (by decide+kernel))
  rw[e]at q
  exact q.le
 have up:∀{z:Str} {us:List Str},Gq z us 180->Gq z us 300:=fun q=>q.le
 rcases ten hk with rfl|rfl|rfl|rfl|rfl|rfl|rfl|rfl|rfl|rfl
 ·exact up (lit (ts:=["(","add","41"]) (us:=[")"]) (by decide+kernel) (by decide+kernel) (by kernel_rfl))
 ·exact up (lit (ts:=["(","join","(","row","n",")"]) (us:=[")"]) (by decide+kernel) (by decide+kernel) (by kernel_rfl))
 ·exact up (lit (ts:=["(","tag","more"]) (us:=[")"]) (by decide+kernel) (by decide+kernel) (by kernel_rfl))
 ·exact a.le
 ·exact up (lit (ts:=["(","add"]) (us:=["n",")"]) (by decide+kernel) (by decide+kernel) (by kernel_rfl))
 ·exact up (lit (ts:=["(","join"]) (us:=["(","row","n",")",")"]) (by decide+kernel) (by decide+kernel) (by kernel_rfl))
 ·exact wr (ts:=["(","let","m","n"]) (by decide+kernel) (lit (ts:=["(","add"]) (us:=["m",")"]) (by decide+kernel) (by decide+kernel) rfl) (by kernel_rfl)
 ·exact wr (ts:=["(","let","m","n"]) (by decide+kernel) (lit (ts:=["(","join"]) (us:=["(","row","m",")",")"]) (by decide+kernel) (by decide+kernel) rfl) (by kernel_rfl)
 ·exact wr (ts:=["(","case","(","tag","t","n",")","t","m"]) (by decide+kernel) (lit (ts:=["(","add"]) (us:=["m",")"]) (by decide+kernel) (by decide+kernel) rfl) (by kernel_rfl)
 ·exact wr (ts:=["(","case","(","tag","t","n",")","t","m"]) (by decide+kernel) (lit (ts:=["(","join"]) (us:=["(","row","m",")",")"]) (by decide+kernel) (by decide+kernel) rfl) (by kernel_rfl)
theorem tx_q {k:Nat} (hk:k<10) (h:0<=S/\S<10^60) (hl:0<=L/\L<10^60) (hn:0<=N/\N<10^60):Gq (txS k S L N) (xf ["turn","all"] [tuT k S L,alT N]) 3000:=by
 have b0:=(kO (x:="(case (less n ") (ts:=["(","case","(","less","n"]) (a:=40) (by decide+kernel)).num hl (y:=" yes y ") (z:=") yes y ") (by decide+kernel) (kO (ts:=["yes","y"]) (a:=40) (by decide+kernel))
 have b1:∃us,Gq ("(case (less n "++TM.Internal.numS L++") yes y "++baS k++" no n2 ") us 500/\us=(["(","case","(","less","n"]:List Str)++[TM.Internal.numS L]++[(")":Str)]++(["yes","y"]:List Str)++(baT k).tk++(["no","n2"]:List Str):=by
  unfold baS baT
  cases isJ k with
  |true=>
   have q:=(b0.app (kO (x:="(row)") (ts:=["(","row",")"]) (a:=10) (by decide+kernel))).app (kO (x:=" no n2 ") (ts:=["no","n2"]) (a:=10) (by decide+kernel))
   exact⟨_,q.le,rfl⟩
  |false=>
   have o5:Op "5" ["5"]:=by unfold Op toks;decide+kernel
   have g5:=(b0.g.app_op o5).gap_then (y:="no n2 ") (z:=" no n2 ") (us:=["no","n2"]) (by decide+kernel) (kO (a:=10) (by decide+kernel)).g
   refine⟨_,⟨g5,?_,wZ (wZ b0.o (si (by decide+kernel))) (si (by decide+kernel))⟩,?_⟩
   ·rw[Str.length_append,Str.length_append]
    have:=b0.l
    rw[show("5":Str).length=1 by decide+kernel,show(" no n2 ":Str).length=7 by decide+kernel]
    lia
   ·have e:(nuT 5).tk=(["5"]:List Str):=by decide+kernel
    show _=_++(nuT 5).tk++_
    rw[e]
 obtain⟨us,q1,e1⟩:=b1
 have q2:=(q1.app (Gf hk h)).app (kO (x:=")") (ts:=[")"]) (a:=1) (by decide+kernel))
 have q3:=((((kO (x:="(def turn (fn n ") (ts:=["(","def","turn","(","fn","n"]) (a:=40) (by decide+kernel)).app q2).app (kO (x:="))\n(def all (call turn ") (ts:=[")",")","(","def","all","(","call","turn"]) (a:=40) (by decide+kernel))).num hn (y:=")") (z:="))") (by decide+kernel) (kO (ts:=[")"]) (a:=1) (by decide+kernel)))
 have e:(["(","def","turn","(","fn","n"]:List Str)++(us++(moT S k).tk++[(")":Str)])++([")",")","(","def","all","(","call","turn"]:List Str)++[TM.Internal.numS N]++[(")":Str)]++[(")":Str)]=xf ["turn","all"] [tuT k S L,alT N]:=by
  rw[e1]
  rcases ten hk with rfl|rfl|rfl|rfl|rfl|rfl|rfl|rfl|rfl|rfl<;>kernel_rfl
 rw[<-e]
 exact q3.le
end
def clK (ns:List Int) (k:Nat):Int:=ns.getD k 0
def sK (ns:List Int):Int:=1+clK ns 2%10^(30:Int).toNat
def lK (ns:List Int):Int:=10^(30:Int).toNat+clK ns 3%10^(30:Int).toNat
def nK (ns:List Int) (t:Int):Int:=lK ns+t*sK ns-1-clK ns 4%sK ns
theorem p30:(0:Int)<10^(30:Int).toNat:=by decide+kernel
theorem D2 (ns:List Int):1<=sK ns/\sK ns<=10^30:=by
 have a:=eC (clK ns 2) (Int.ne_of_gt p30)
 have b:=eE (clK ns 2) p30
 have e:(10:Int)^(30:Int).toNat=10^30:=rfl
 unfold sK
 rw[e]at*
 lia
theorem Ff (ns:List Int):10^30<=lK ns/\lK ns<2*10^30:=by
 have a:=eC (clK ns 3) (Int.ne_of_gt p30)
 have b:=eE (clK ns 3) p30
 have e:(10:Int)^(30:Int).toNat=10^30:=rfl
 unfold lK
 rw[e]at*
 lia
def Ae:Sp:=fun vs H Q _=>∃n:Int,vs=[.int n]/\Q (.bl true) H
theorem lF (T:Txt K mg):gu P w K mg base CX0 1 T.a_whole T.fd_whole ["_law_x"] Ae:=by
 refine T.F_whole.ok rL (fun vs H Q E h=>?_) (fun cdv A0 outer s0 H vs Q E hr h=>?_)
 ·obtain⟨n,rfl,_⟩:=h
  rfl
 obtain⟨n,rfl,q⟩:=h
 refine⟨_,(eW (fG (m8 (fV kg rfl T.z_isinstance gT (eQ (cv 0) (eQ (nj rfl T.z_int nZ) eS))) (m7 (Cm (fV kg rfl T.z_isinstance gT (eQ (cv 0) (eQ (nj rfl T.z_bool Bt) eS)))))))),?_⟩
 exact⟨_,_,_,_,true,rfl,fun _ r=>r,.int n,rfl,_,rfl,iM ⟨_,_,_,_,false,rfl,fun _ r=>r,.int n,rfl,_,rfl,q⟩⟩
def B4 (K:PySem.W.Frag):Sp:=fun vs H Q _=>∃(a:Addr) (ns:List Int) (k:Nat),vs=[.ref a,.int (k:Int)]/\SqL K H a (ns.map V.int)/\Q (.int (clK ns k)) H
theorem i6 (T:Txt K mg):gu P w K mg base CX0 1 T.a_cell_at T.fd_cell_at ["_law_script","_law_k"] (B4 K):=by
 refine T.F_cell_at.ok pO (fun vs H Q E h=>?_) (fun cdv A0 outer s0 H vs Q E hr h=>?_)
 ·obtain⟨a,ns,k,rfl,_⟩:=h
  rfl
 obtain⟨a,ns,k,rfl,hs,q⟩:=h
 refine⟨_,(eR (gr (fz BB (cv 1) (fV fS rfl T.z_len jy (eQ (cv 0) eS)) (fD _))
   (eW (fG (ft uB (cv 0) (cv 1) (fun _ _=>rfl))))
   fw)
  (eW (fG eU))),?_⟩
 refine⟨a,_,rfl,.inl hs,?_⟩
 dsimp only[cI0,onB]
 rw[aC]
 by_cases h:k<ns.length
 ·rw[decide_eq_true (show(k:Int)<(ns.length:Int) by lia)]
  have e:(ns.map V.int)[k]?=some (.int (clK ns k)):=by
   rw[aK,bq h]
   unfold clK
   rw[bb,bq h]
   rfl
  exact iM ⟨a,_,(k:Int),_,rfl,rfl,hs,eY e,q⟩
 ·rw[decide_eq_false (show ¬(k:Int)<(ns.length:Int) by lia)]
  have e:clK ns k=0:=by
   unfold clK
   rw[bb,bz (by lia)]
   rfl
  rw[e]at q
  exact gR q
theorem ue {x y:Str} {a b:Nat} (hx:x.length<=a) (hy:y.length<=b) (h:autoParam (a+b<=16000000) L2.Internal.auD._auto_1):x.length+y.length<=sizeLine:=by
 have sl:sizeLine=16777216:=sizeLine_eq
 lia
theorem uf {x y:Str} {a b:Nat} (hx:x.length<=a) (hy:y.length<=b):(x++y).length<=a+b:=by rw[Str.length_append];lia
theorem DM {x:Str} {Q:VK} {H1:Hp} {D l:Addr} {ys:List Str} (hx:x.length<=40) (e:H1 l=some (.lst (ys.map V.str))) (hy:∀y∈ys,y.length<=200) (hl:ys.length<=100) (hD:H1 D=none) (hq:∀H',fK H1 H'->H' D=some (.lst ((ys.map fun y=>x++y++")").map V.str))->Q (.ref D) H'):LcP (Itl K l) 0 ph (tOp cS (tOp cS (tC (.str x)) (cV 0)) (tC (.str ")"))) Q [none] H1 D:=by
 have sl:sizeLine=16777216:=sizeLine_eq
 have ll:(ys.map V.str).length=ys.length:=aC _
 have l1:(")":Str).length<=1:=by decide+kernel
 refine yh ys.length (by lia) (fun zs H=>zs=((ys.take zs.length).map fun y=>x++y++")").map V.str) (fun xs H H' h _=>h) hD rfl (fun k H S h=>AA e S (by lia)) (fun H S=>by rw[<-ll];exact AB e S) rfl ?_ ?_
 ·intro k H v H3 zs Z S hk y hzs hlz hz
  obtain⟨rfl,hv⟩:=y
  have hv:=hv _ (SqL.of (S _ _ e))
  rw[aK]at hv
  obtain⟨y,hy1,rfl⟩:=cD.mp hv
  have ly:=hy y (aM hy1)
  refine⟨ue hx ly,ue (uf hx ly) l1,hz _ _ (fK.refl _) ?_⟩
  rw[aN,hlz,aY,bR,hy1,a9,a9,<-hlz,<-hzs]
  rfl
 ·intro H' zs S hzs hlz e'
  rw[hlz,bh]at hzs
  exact hq H' S (by rw[e',hzs])
def naS (S:Int):Str:="(add "++agS S++" m)"
def njS (S:Int):Str:="(join "++agS S++" (row m))"
def B5 (K:PySem.W.Frag):Sp:=fun vs H Q _=>∃(a:Addr) (ns:List Int) (k:Nat) (N:Int),vs=[.ref a,.int (k:Int),.int N]/\SqL K H a (ns.map V.int)/\k<10/\(0<=N/\N<10^60)/\∀H',fK H H'->Q (.str (txS k (sK ns) (lK ns) N)) H'
theorem tZ (T:Txt K mg):gu P w K mg base CX0 2 T.a_text T.fd_text ["_law_script","_law_sort","_law_start_here"] (B5 K):=by
 have G_cell_at:=i6 (P:=P) (w:=w) (base:=base) T
 refine T.F_text.ok gL (fun vs H Q E h=>?_) (fun cdv A0 outer s0 H vs Q E hr h=>?_)
 ·obtain⟨a,ns,k,N,rfl,_⟩:=h
  rfl
 obtain⟨a,ns,k,N,rfl,hs,hk,hn,q⟩:=h
 refine⟨_,(eR (fC (i:=3) gL.nd rfl (.inl rfl) (gS lR rfl T.z_str xV (eQ (fH kQ eU (fH kR (fA G_cell_at (hr.mono (by decide)) rfl T.m_cell_at T.k_cell_at T.b_cell_at .nil fO (eQ (cv 0) (eQ eU eS))) (fH n9 eU eU))) eS)))
  (eR (fC (i:=4) gL.nd rfl (.inl rfl) (gS lR rfl T.z_str xV (eQ (fH kQ (fH n9 eU eU) (fH kR (fA G_cell_at (hr.mono (by decide)) rfl T.m_cell_at T.k_cell_at T.b_cell_at .nil fO (eQ (cv 0) (eQ eU eS))) (fH n9 eU eU))) eS)))
  (eR (fC (i:=5) gL.nd rfl (.inl rfl) (fH gv (fH gv fc (cv 3)) fc))
  (eR (fC (i:=6) gL.nd rfl (.inl rfl) (gH (eQ (fH gv (fH gv fc (cv 5)) fc) (eQ (fH gv (fH gv fc (cv 5)) fc) (eQ (fH gv (fH gv fc (cv 5)) fc) (eQ (cv 5) eS))))))
  (eR (fC (i:=7) gL.nd rfl (.inl rfl) (gH (eQ (fH gv (fH gv fc (cv 5)) fc) (eQ (fH gv (fH gv fc (cv 5)) fc) eS))))
  (eR (fC (i:=8) gL.nd rfl (.inl rfl) (gH (eQ (fH gv (fH gv fc (cv 5)) fc) (eQ (fH gv (fH gv fc (cv 5)) fc) eS))))
  (eR (fC (i:=6) gL.nd rfl (.inl rfl) (fH xR (fH xR (cv 6) (cv 7)) (sS rfl (Bw (x:="_law_one") rfl (by decide+kernel) (by decide+kernel) rfl rfl) (mG (cv 8)) (fun _ _ _ _ _=>nM) (fun _ _ _ _ _=>(fH gv (fH gv fc (cv 0)) fc)))))
  (eR (fC (i:=6) gL.nd rfl (.inl rfl) (ft f7 (fH xR (cv 6) (sS rfl (Bw (x:="_law_one") rfl (by decide+kernel) (by decide+kernel) rfl rfl) (mG (cv 8)) (fun _ _ _ _ _=>nM) (fun _ _ _ _ _=>(fH gv (fH gv fc (cv 0)) fc)))) (cv 1) (fun _ _=>rfl)))
  (eR (fC (i:=9) gL.nd rfl (.inl rfl) (ft f7 (gH (eQ fc (eQ fc eS))) (gS lQ rfl T.z_int nZ (eQ (jf kW (cv 1) (gH (eQ eU (eQ eU (eQ eU (eQ eU eS))))) rfl) eS)) (fun _ _=>rfl)))
  (eR (fC (i:=10) gL.nd rfl (.inl rfl) (fH gv (fH gv (fH gv (fH gv (fH gv (fH gv fc (cv 4)) fc) (cv 9)) fc) (cv 6)) fc))
  (eW (fG (fH gv (fH gv (fH gv (fH gv fc (cv 10)) fc) (gS lR rfl T.z_str xV (eQ (cv 2) eS))) fc))))))))))))),?_⟩
 have sl:sizeLine=16777216:=sizeLine_eq
 have sb:=D2 ns
 have lb:=Ff ns
 have sh:0<=sK ns/\sK ns<10^60:=by lia
 have lh:0<=lK ns/\lK ns<10^60:=by lia
 have nS:=(v9 sh.1 sh.2).ln
 have nL:=(v9 lh.1 lh.2).ln
 have nN:=(v9 hn.1 hn.2).ln
 have nS:(TM.Internal.numS (sK ns)).length<=60:=by lia
 have nL:(TM.Internal.numS (lK ns)).length<=60:=by lia
 have nN:(TM.Internal.numS N).length<=60:=by lia
 have lA:(agS (sK ns)).length<=100:=(Ge sh).l
 have lM:(moS (sK ns) k).length<=300:=(Gf hk sh).l
 have l4:∀x∈(["(call turn (sub n ","))","(add 41 ",")","(join (row n) ","(tag more ","(add "," n)","(join "," (row n))"," m)"," (row m))","(let m n ","(case (tag t n) t m ","(case (less n ",") yes y ","5","(row)"," no n2 ","(def turn (fn n ","))\n(def all (call turn "]:List Str),x.length<=40:=by decide+kernel
 have lB:(baS k).length<=40:=by unfold baS;cases isJ k<;>exact l4 _ (by decide+kernel)
 refine⟨a,ns,2,rfl,hs,⟨by decide,by decide,by decide⟩,p30,_,rfl,GR.Internal.log_ok (n:=sK ns) sh.1 (by lia),?_⟩
 refine⟨⟨by decide,by decide,by decide⟩,a,ns,3,rfl,hs,⟨by decide,by decide,by decide⟩,p30,_,rfl,GR.Internal.log_ok (n:=lK ns) lh.1 (by lia),?_⟩
 refine⟨ue (l4 _ (by decide+kernel)) nS,ue (uf (l4 _ (by decide+kernel)) nS) (l4 _ (by decide+kernel)),?_⟩
 have two:∀{x y:Str},x.length<=40->y.length<=40->(x.length+(agS (sK ns)).length<=sizeLine/\(x++agS (sK ns)).length+y.length<=sizeLine):=fun hx hy=>⟨ue hx lA,ue (uf hx lA) hy⟩
 have t1:=two (l4 "(add 41 " (by decide+kernel)) (l4 ")" (by decide+kernel))
 have t2:=two (l4 "(join (row n) " (by decide+kernel)) (l4 ")" (by decide+kernel))
 have t3:=two (l4 "(tag more " (by decide+kernel)) (l4 ")" (by decide+kernel))
 refine⟨t1.1,t1.2,t2.1,t2.2,t3.1,t3.2,(by show 4<=sizeLine;decide),fun p1 h1=>?_⟩
 dsimp only[iQ]
 generalize hh:upd H p1 _=H1
 have S1:fK H H1:=by rw[<-hh];exact eX h1 _
 have e1:H1 p1=some (.lst ([moS (sK ns) 0,moS (sK ns) 1,moS (sK ns) 2,moS (sK ns) 3].map V.str)):=by rw[<-hh];exact eV
 clear hh
 have t4:=two (l4 "(add " (by decide+kernel)) (l4 " n)" (by decide+kernel))
 have t5:=two (l4 "(join " (by decide+kernel)) (l4 " (row n))" (by decide+kernel))
 have t6:=two (l4 "(add " (by decide+kernel)) (l4 " m)" (by decide+kernel))
 have t7:=two (l4 "(join " (by decide+kernel)) (l4 " (row m))" (by decide+kernel))
 refine⟨t4.1,t4.2,t5.1,t5.2,(by show 2<=sizeLine;decide),fun p2 h2=>?_⟩
 dsimp only[iQ]
 generalize hh:upd H1 p2 _=H2
 have S2:fK H1 H2:=by rw[<-hh];exact eX h2 _
 have e2:H2 p2=some (.lst ([moS (sK ns) 4,moS (sK ns) 5].map V.str)):=by rw[<-hh];exact eV
 clear hh
 refine⟨t6.1,t6.2,t7.1,t7.2,(by show 2<=sizeLine;decide),fun p3 h3=>?_⟩
 dsimp only[iQ]
 generalize hh:upd H2 p3 _=H3
 have S3:fK H2 H3:=by rw[<-hh];exact eX h3 _
 have e3:H3 p3=some (.lst ([naS (sK ns),njS (sK ns)].map V.str)):=by rw[<-hh];exact eV
 clear hh
 have S13:=S2.trans S3
 have lN:∀y∈[naS (sK ns),njS (sK ns)],y.length<=200:=fun y hy=>by
  rcases aj.mp hy with rfl|hy
  ·exact bX (uf (uf (l4 "(add " (by decide+kernel)) lA) (l4 " m)" (by decide+kernel))) (by decide)
  ·rw[a8.mp hy]
   exact bX (uf (uf (l4 "(join " (by decide+kernel)) lA) (l4 " (row m))" (by decide+kernel))) (by decide)
 show um _ _ _ [some (.ref a),some (.int k),some (.int N),some (.str (TM.Internal.numS (sK ns))),some (.str (TM.Internal.numS (lK ns))),some (.str (agS (sK ns))),some (.ref p1),some (.ref p2),some (.ref p3),none,none] H3
 refine⟨p1,p2,_,_,rfl,rfl,S13 _ _ e1,S3 _ _ e2,by show 4+ 2<=sizeLine;lia,fun p4 h4=>?_⟩
 refine⟨p3,rfl,⟨_,SqL.of (eX h4 _ _ _ e3)⟩,fun p5 h5=>DM (l4 "(let m n " (by decide+kernel)) (eX h4 _ _ _ e3) lN (by show 2<=100;decide) h5 fun H5 S5 e5=>?_⟩
 have e4:=S5 _ _ (show(upd H3 p4 _) p4=some (.lst ([moS (sK ns) 0,moS (sK ns) 1,moS (sK ns) 2,moS (sK ns) 3,moS (sK ns) 4,moS (sK ns) 5].map V.str))from eV)
 have S35:=(eX h4 _).trans S5
 refine⟨p4,p5,_,_,rfl,rfl,e4,e5,by show 6+ 2<=sizeLine;lia,fun p6 h6=>?_⟩
 have S36:=S35.trans (eX h6 (.lst ([moS (sK ns) 0,moS (sK ns) 1,moS (sK ns) 2,moS (sK ns) 3,moS (sK ns) 4,moS (sK ns) 5,moS (sK ns) 6,moS (sK ns) 7].map V.str)))
 have e6:(upd H5 p6 (.lst ([moS (sK ns) 0,moS (sK ns) 1,moS (sK ns) 2,moS (sK ns) 3,moS (sK ns) 4,moS (sK ns) 5,moS (sK ns) 6,moS (sK ns) 7].map V.str))) p6=some (.lst ([moS (sK ns) 0,moS (sK ns) 1,moS (sK ns) 2,moS (sK ns) 3,moS (sK ns) 4,moS (sK ns) 5,moS (sK ns) 6,moS (sK ns) 7].map V.str)):=eV
 show um _ _ _ [some (.ref a),some (.int k),some (.int N),some (.str (TM.Internal.numS (sK ns))),some (.str (TM.Internal.numS (lK ns))),some (.str (agS (sK ns))),some (.ref p6),some (.ref p2),some (.ref p3),none,none] (upd H5 p6 (.lst ([moS (sK ns) 0,moS (sK ns) 1,moS (sK ns) 2,moS (sK ns) 3,moS (sK ns) 4,moS (sK ns) 5,moS (sK ns) 6,moS (sK ns) 7].map V.str)))
 generalize upd H5 p6 _=H6 at S36 e6⊢
 refine⟨p3,rfl,⟨_,SqL.of (S36 _ _ e3)⟩,fun p7 h7=>DM (l4 "(case (tag t n) t m " (by decide+kernel)) (S36 _ _ e3) lN (by show 2<=100;decide) h7 fun H7 S7 e7=>?_⟩
 refine⟨p6,p7,_,_,rfl,rfl,S7 _ _ e6,e7,by show 8+ 2<=sizeLine;lia,fun p8 h8=>?_⟩
 have m10:([moS (sK ns) 0,moS (sK ns) 1,moS (sK ns) 2,moS (sK ns) 3,moS (sK ns) 4,moS (sK ns) 5,moS (sK ns) 6,moS (sK ns) 7,moS (sK ns) 8,moS (sK ns) 9].map V.str)[k]?=some (.str (moS (sK ns) k)):=by rcases ten hk with rfl|rfl|rfl|rfl|rfl|rfl|rfl|rfl|rfl|rfl<;>rfl
 refine⟨([moS (sK ns) 0,moS (sK ns) 1,moS (sK ns) 2,moS (sK ns) 3,moS (sK ns) 4,moS (sK ns) 5,moS (sK ns) 6,moS (sK ns) 7,moS (sK ns) 8,moS (sK ns) 9].map V.str),eV,fg (eY m10) ?_⟩
 have S8:=(((S1.trans S13).trans S36).trans S7).trans (eX h8 (.lst ([moS (sK ns) 0,moS (sK ns) 1,moS (sK ns) 2,moS (sK ns) 3,moS (sK ns) 4,moS (sK ns) 5,moS (sK ns) 6,moS (sK ns) 7,moS (sK ns) 8,moS (sK ns) 9].map V.str)))
 show um _ _ _ [some (.ref a),some (.int k),some (.int N),some (.str (TM.Internal.numS (sK ns))),some (.str (TM.Internal.numS (lK ns))),some (.str (agS (sK ns))),some (.str (moS (sK ns) k)),some (.ref p2),some (.ref p3),none,none] (upd H7 p8 (.lst ([moS (sK ns) 0,moS (sK ns) 1,moS (sK ns) 2,moS (sK ns) 3,moS (sK ns) 4,moS (sK ns) 5,moS (sK ns) 6,moS (sK ns) 7,moS (sK ns) 8,moS (sK ns) 9].map V.str)))
 generalize upd H7 p8 _=H8 at S8⊢
 refine⟨(by show 2<=sizeLine;decide),fun p9 h9=>⟨(by show 4<=sizeLine;decide),fun p10 h10=>?_⟩⟩
 have S9:=eX h9 (.lst [.str "5",.str "(row)"])
 have S10:=eX h10 (.lst [.int 1,.int 5,.int 7,.int 9])
 refine⟨p10,_,rfl,.inl (SqL.of eV),rfl,rfl,.inr ⟨_,rfl,[.str "5",.str "(row)"],S10 _ _ eV,fg (v:= .str (baS k)) ?_ ?_⟩⟩
 ·rcases ten hk with rfl|rfl|rfl|rfl|rfl|rfl|rfl|rfl|rfl|rfl<;>kernel_rfl
 have S11:=(S8.trans S9).trans S10
 show um _ _ _ [some (.ref a),some (.int k),some (.int N),some (.str (TM.Internal.numS (sK ns))),some (.str (TM.Internal.numS (lK ns))),some (.str (agS (sK ns))),some (.str (moS (sK ns) k)),some (.ref p2),some (.ref p3),some (.str (baS k)),none] _
 have a1:=uf (l4 "(case (less n " (by decide+kernel)) nL
 have a2:=uf a1 (l4 ") yes y " (by decide+kernel))
 have a3:=uf a2 lB
 have a4:=uf a3 (l4 " no n2 " (by decide+kernel))
 have a5:=uf a4 lM
 have a6:=uf a5 (l4 ")" (by decide+kernel))
 refine⟨ue (l4 "(case (less n " (by decide+kernel)) nL,ue a1 (l4 ") yes y " (by decide+kernel)),ue a2 lB,ue a3 (l4 " no n2 " (by decide+kernel)),ue a4 lM,ue a5 (l4 ")" (by decide+kernel)),?_⟩
 have b1:=uf (l4 "(def turn (fn n " (by decide+kernel)) a6
 have b2:=uf b1 (l4 "))\n(def all (call turn " (by decide+kernel))
 have b3:=uf b2 nN
 exact⟨ue (l4 "(def turn (fn n " (by decide+kernel)) a6,ue b1 (l4 "))\n(def all (call turn " (by decide+kernel)),N,rfl,GR.Internal.log_ok hn.1 (by lia),ue b2 nN,ue b3 (l4 "))" (by decide+kernel)),q _ S11⟩
theorem DN:∀{v:V},ox v=true->eqV v v=true
 | .non,_=>rfl
 | .bl b,_=>by cases b<;>rfl
 | .int i,_=>by simp[eqV]
 | .str z,_=>by simp[eqV]
 | .ref _,h=>absurd h dN
 | .byt _,h=>by first|(simp[eqV];done)|exact absurd h dN
mutual
theorem DO {H:Hp}:∀{v:V} {d:Dt},Im H v d->eqD d d=true/\nO d d=true
 |v,_,.flat h=>by
  refine⟨?_,by simp[nO]⟩
  rw[eqD]
  exact DN (by cases v<;>first|rfl|cases h)
 |_,_,.tup _ hs=>by
  obtain⟨h1,h2⟩:=AY hs
  exact⟨by rw[eqD];exact h1,by rw[nO];exact h2⟩
theorem AY {H:Hp}:∀{v:List V} {d:List Dt},Ims H v d->ud d d=true/\pq d d=true
 |_,_,.nil=>⟨by rw[ud],by simp[pq]⟩
 |_,_,.cons h hs=>by
  obtain⟨h1,h2⟩:=DO h
  obtain⟨h3,h4⟩:=AY hs
  exact⟨by rw[ud,h1,h3];rfl,by rw[pq,h2,h4];rfl⟩
end
mutual
theorem B6 {K:PySem.W.Frag} {H:Hp}:∀{v:V} {d:Dt},Im H v d->At K H v d
 |v,_,.flat h=> .flat (by cases v<;>first|rfl|cases h)
 |_,_,.tup h hs=> .tup (SqT.of h) (y6 hs)
theorem y6 {K:PySem.W.Frag} {H:Hp}:∀{v:List V} {d:List Dt},Ims H v d->Ats K H v d
 |_,_,.nil=> .nil
 |_,_,.cons h hs=> .cons (B6 h) (y6 hs)
end
theorem Fg {d:Dt} (h:eqD d d=true):(if true=true then !eqD d d else eqD d d)=false:=by
 rw[if_pos rfl,h]
 rfl
theorem y8 {K:PySem.W.Frag} {a:Addr} {xs:List V} {g:TG} {tb:TS} {D:oG} {σ:St} {H:Hp} (Pv:Nat->St->Hp->Prop) (h0:Pv 0 σ H) (hl:∀i σ H,i<=xs.length->Pv i σ H->SqT K H a xs)
  (hs:∀(i:Nat) (x:V) (σ:St) (H:Hp) (T:Addr),xs[i]?=some x->Pv i σ H->H T=none->g (.ref T) σ (upd H T (.tup [.int (i:Int),x])) fun σ2 H2=>tb {D with nx:=Pv (i+ 1),ct:=Pv (i+ 1),bk:=D.nx} σ2 H2) (hd:∀σ H,Pv xs.length σ H->D.nx σ H):
  ∃W:Nat->Nat->St->Hp->Prop,(∃m,W 0 m σ H)/\∀i m σ H,W i m σ H->
   ((C6 K a).stop i H/\D.nx σ H)\/((C6 K a).go i H/\∃N:St->Hp->Prop,(∀σ' H',N σ' H'->∃m',m'<m/\W (i+ 1) m' σ' H')/\∀x H',(C6 K a).yld i H x H'->g x σ H' fun σ2 H2=>tb {D with nx:=N,ct:=N,bk:=D.nx} σ2 H2):=by
 refine⟨fun i m σ H=>m=xs.length-i/\i<=xs.length/\Pv i σ H,⟨xs.length,by simp,b7 _,h0⟩,?_⟩
 rintro i m σ H ⟨rfl,hi,p⟩
 have q:=hl i σ H hi p
 by_cases hlt:i<xs.length
 ·refine .inr ⟨⟨xs,xs[i],q,by simp[hlt]⟩,Pv (i+ 1),fun σ' H' p'=>⟨xs.length-(i+ 1),by lia,rfl,hlt,p'⟩,fun v H' y=>?_⟩
  obtain⟨T,x,rfl,hT,rfl,hx⟩:=y
  exact hs i x σ H T (hx xs q) p hT
 ·have e:i=xs.length:=by lia
  subst e
  exact .inl ⟨⟨xs,q,rfl⟩,hd σ H p⟩
def enK (S n p ps:Int) (j:Nat):Vl:= .num (n-j*S) (if j=0 then p else ps)
def enL (S ps n p:Int) (t:Nat):List Vl:=(aa t).map (enK S n p ps)
theorem Af (S ps n p:Int) (t:Nat):enL S ps n p (t+ 1)= .num n p::enL S ps (n-S) ps t:=by
 unfold enL
 rw[bj,aB,br]
 congr 1
 ·show Vl.num (n-((0:Nat):Int)*S) p=_
  rw[d8,d9,ee]
 ·refine bM fun j _=>?_
  show Vl.num (n-((j+ 1:Nat):Int)*S) (if j+ 1=0 then p else ps)= .num (n-S-j*S) (if j=0 then ps else ps)
  rw[if_neg (Nat.succ_ne_zero j),ite_self,eg,eA,eB,show n-(j*S+S)=n-S-j*S by lia]
theorem AZ {S ps n p:Int} {t j:Nat} (h:j<t):(enL S ps n p t)[j]?=some (enK S n p ps j):=by unfold enL;rw[aK,List.getElem?_range h];rfl
theorem vj (S ps n p:Int) (t:Nat):(enL S ps n p t).length=t:=by unfold enL;rw[aC,List.length_range]
def jlK (k t:Nat) (S n p:Int):List Vl:=if k=1 then enL S (psK k) n p t else(enL S (psK k) n p t).reverse
def plK (k t:Nat):Int:=if t=0 then 5 else([6,6,5,5,6,6,8,8,9,9]:List Int).getD k 0
theorem Gg {k:Nat} (h:k<10) (hj:isJ k=true) (S:Int):∀(t:Nat) (n p:Int),vlK S (psK k) (upK k) (bsK k) t n p= .row (lP (jlK k t S n p)) (plK k t)
 |0,n,p=>by rcases ten h with rfl|rfl|rfl|rfl|rfl|rfl|rfl|rfl|rfl|rfl<;>first|rfl|cases hj
 |t+ 1,n,p=>by
  rw[vlK,Gg h hj S t]
  unfold jlK
  rw[Af]
  rcases ten h with rfl|rfl|rfl|rfl|rfl|rfl|rfl|rfl|rfl|rfl
  ·cases hj
  ·rw[if_pos rfl,if_pos rfl]
   show Vl.row (lP (_::l6 (lP _))) 6=_
   rw[l7]
   rfl
  ·cases hj
  ·cases hj
  ·cases hj
  ·rw[if_neg (by decide),if_neg (by decide),aX]
   show Vl.row (lP (l6 (lP _)++[_])) 6=_
   rw[l7]
   rfl
  ·cases hj
  ·rw[if_neg (by decide),if_neg (by decide),aX]
   show Vl.row (lP (l6 (lP _)++[_])) 8=_
   rw[l7]
   rfl
  ·cases hj
  ·rw[if_neg (by decide),if_neg (by decide),aX]
   show Vl.row (lP (l6 (lP _)++[_])) 9=_
   rw[l7]
   rfl
def duK (k t:Nat) (S n:Int):Int:=if 3<k then 5+t*n-S*(((t:Int)*(t-1))/2)else 5+ 41*t*(if k=0 then 1 else 0)
theorem half (t:Nat):(((t+ 1:Nat):Int)*(((t+ 1:Nat):Int)-1))/2=((t:Int)*(t-1))/2+t:=by
 have e:((t+ 1:Nat):Int)*(((t+ 1:Nat):Int)-1)=(t:Int)*(t-1)+t*2:=by
  rw[eg,Int.add_sub_cancel,eA,Int.mul_sub,d5,eB]
  lia
 rw[e,Int.add_mul_ediv_right _ _ (by decide)]
theorem Gh {k:Nat} (h:k<10) (hj:isJ k=false) (h2:k≠2) (S:Int):∀(t:Nat) (n p:Int),vlK S (psK k) (upK k) (bsK k) t n p= .num (duK k t S n) (plK k t)
 |0,n,p=>by
  rw[vlK]
  rcases ten h with rfl|rfl|rfl|rfl|rfl|rfl|rfl|rfl|rfl|rfl
  ·rfl
  ·cases hj
  ·exact absurd rfl h2
  ·rfl
  ·unfold duK;rw[if_pos (by decide),d8,d9,d9];simp;rfl
  ·cases hj
  ·unfold duK;rw[if_pos (by decide),d8,d9,d9];simp;rfl
  ·cases hj
  ·unfold duK;rw[if_pos (by decide),d8,d9,d9];simp;rfl
  ·cases hj
 |t+ 1,n,p=>by
  rw[vlK,Gh h hj h2 S t]
  have big:3<k->duK k t S (n-S)+n=duK k (t+ 1) S n:=fun hk=>by
   unfold duK
   rw[if_pos hk,if_pos hk,half,Int.mul_add,eg,eA,eB,Int.mul_sub,Int.mul_comm S t]
   lia
  rcases ten h with rfl|rfl|rfl|rfl|rfl|rfl|rfl|rfl|rfl|rfl
  ·show Vl.num (41+duK 0 t S (n-S)) 6= .num (duK 0 (t+ 1) S n) 6
   congr 1
   show 41+(5+ 41*(t:Int)*1)=5+ 41*((t+ 1:Nat):Int)*1
   lia
  ·cases hj
  ·exact absurd rfl h2
  ·show Vl.num (duK 3 t S (n-S)) (plK 3 t)= .num (duK 3 (t+ 1) S n) (plK 3 (t+ 1))
   have e:plK 3 t=5:=by unfold plK;exact ite_self _
   rw[e]
   show Vl.num (5+ 41*(t:Int)*0) 5= .num (5+ 41*((t+ 1:Nat):Int)*0) 5
   rw[eF,eF]
  ·show Vl.num (duK 4 t S (n-S)+n) 6=_;rw[big (by decide)];rfl
  ·cases hj
  ·show Vl.num (duK 6 t S (n-S)+n) 8=_;rw[big (by decide)];rfl
  ·cases hj
  ·show Vl.num (duK 8 t S (n-S)+n) 9=_;rw[big (by decide)];rfl
  ·cases hj
theorem Fh (S:Int):∀(t:Nat) (n p n' p':Int),vlK S (psK 2) (upK 2) (bsK 2) t n p=vlK S (psK 2) (upK 2) (bsK 2) t n' p'
 |0,_,_,_,_=>rfl
 |t+ 1,n,p,n',p'=>congrArg (fun v=>Vl.tag "more" v 6) (Fh S t (n-S) (psK 2) (n'-S) (psK 2))
theorem Ag {i j:Int} (h:0<=i/\i<=1000):Cr i j:= .inl ⟨by lia,by lia⟩
def Ah (K:PySem.W.Frag):Sp:=fun vs H Q _=>∃(a:Addr) (ns:List Int) (t:Nat),vs=[.ref a,.int (t:Int)]/\SqL K H a (ns.map V.int)/\t<=1000/\Q (.int (nK ns t)) H
theorem sj (T:Txt K mg):gu P w K mg base CX0 2 T.a_start T.fd_start ["_law_script","_law_times"] (Ah K):=by
 have G_cell_at:=i6 (P:=P) (w:=w) (base:=base) T
 refine T.F_start.ok lq (fun vs H Q E h=>?_) (fun cdv A0 outer s0 H vs Q E hr h=>?_)
 ·obtain⟨a,ns,t,rfl,_⟩:=h
  rfl
 obtain⟨a,ns,t,rfl,hs,ht,q⟩:=h
 refine⟨_,(eR (fC (i:=2) lq.nd rfl (.inl rfl) (fH kQ eU (fH kR (fA G_cell_at (hr.mono (by decide)) rfl T.m_cell_at T.k_cell_at T.b_cell_at .nil fO (eQ (cv 0) (eQ eU eS))) (fH n9 eU eU))))
  (eR (fC (i:=3) lq.nd rfl (.inl rfl) (fH kQ (fH n9 eU eU) (fH kR (fA G_cell_at (hr.mono (by decide)) rfl T.m_cell_at T.k_cell_at T.b_cell_at .nil fO (eQ (cv 0) (eQ eU eS))) (fH n9 eU eU))))
  (eW (fG (fH lV (fH lV (fH kQ (cv 3) (fH lW (cv 1) (cv 2))) eU) (fH kR (fA G_cell_at (hr.mono (by decide)) rfl T.m_cell_at T.k_cell_at T.b_cell_at .nil fO (eQ (cv 0) (eQ eU eS))) (cv 2))))))),?_⟩
 have sb:=D2 ns
 refine⟨a,ns,2,rfl,hs,⟨by decide,by decide,by decide⟩,p30,?_⟩
 refine⟨⟨by decide,by decide,by decide⟩,a,ns,3,rfl,hs,⟨by decide,by decide,by decide⟩,p30,?_⟩
 exact⟨Ag (by lia),a,ns,4,rfl,hs,show 0<sK ns by lia,q⟩
def DP (K:PySem.W.Frag):Sp:=fun vs H Q _=>∃(a:Addr) (ns:List Int) (x:V) (k t:Nat) (N q0:Int),vs=[x,.ref a,.int (k:Int),.int N,.int (t:Int)]/\SqL K H a (ns.map V.int)/\k<10/\isJ k=true/\t<=60/\Im H x (Vl.row (lP (jlK k t (sK ns) N ((rtK k+ 2:Nat):Int))) q0).d/\∀H',fK H H'->Q (.bl true) H'
def RwI (x:V) (a:Addr) (k t:Nat) (N S:Int) (H:Hp) (i:Nat) (σ:St) (H2:Hp):Prop:=∃(o6 o7 o8 o9:Option V),σ=[some x,some (.ref a),some (.int (k:Int)),some (.int N),some (.int (t:Int)),some (.int S),o6,o7,o8,o9]/\fK H H2
theorem vk (T:Txt K mg):gu P w K mg base CX0 3 T.a_row T.fd_row ["_law_value","_law_script","_law_sort","_law_start_here","_law_times"] (DP K):=by
 have G_cell_at:=i6 (P:=P) (w:=w) (base:=base) T
 have G_whole:=lF (P:=P) (w:=w) (base:=base) T
 refine T.F_row.ok jU (fun vs H Q E h=>?_) (fun cdv A0 outer s0 H vs Q E hr h=>?_)
 ·obtain⟨a,ns,x,k,t,N,q0,rfl,_⟩:=h
  rfl
 have hu:=sR hr
 obtain⟨a,ns,x,k,t,N,q0,rfl,hs,hk,hj,ht,ix,q⟩:=h
 refine⟨_,(eR (fC (i:=5) jU.nd rfl (.inl rfl) (fH kQ eU (fH kR (fA G_cell_at (hr.mono (by decide)) rfl T.m_cell_at T.k_cell_at T.b_cell_at .nil fO (eQ (cv 1) (eQ eU eS))) (fH n9 eU eU))))
  (eR (gr (PW.pt (mF (kn (jd (fV kg rfl T.z_isinstance gT (eQ (ft fq (cv 0) eU (fun _ _=>rfl)) (eQ (nj rfl T.z_tuple jz) eS))))) (m5 (fz mK (fV fS rfl T.z_len jy (eQ (ft fq (cv 0) eU (fun _ _=>rfl)) eS)) (cv 4) (fD _)))))
   (eW (fG m3))
   fw)
  (eR (lG PassesOwn.never rfl (zG rfl T.z_enumerate (eQ (ft fq (cv 0) eU (fun _ _=>rfl)) eS)) (xp rfl (mh (jj (i:=6) jU.nd rfl (.inl rfl)) (mh (jj (i:=7) jU.nd rfl (.inl rfl)) uo)))
   (eR (gr (PW.pt (mF (kn (jd (fV kg rfl T.z_isinstance gT (eQ (cv 7) (eQ (nj rfl T.z_tuple jz) eS))))) (mF (fz mK (fV fS rfl T.z_len jy (eQ (cv 7) eS)) eU (fD _)) (mF (kn (jd (fA G_whole (hr.mono (by decide)) rfl T.m_whole T.k_whole T.b_whole .nil fO (eQ (ft fq (cv 7) eU (fun _ _=>rfl)) eS)))) (m5 (kn (jd (fA G_whole (hr.mono (by decide)) rfl T.m_whole T.k_whole T.b_whole .nil fO (eQ (ft fq (cv 7) eU (fun _ _=>rfl)) eS)))))))))
    (eW (fG m3))
    fw)
   (eR (fC (i:=8) jU.nd rfl (.inl rfl) (ft f7 (gH (eQ (cv 6) (eQ (fH lV (fH lV (cv 4) eU) (cv 6)) eS))) (gS lQ rfl T.z_int nZ (eQ (jf sZ (cv 2) eU (fD _)) eS)) (fun _ _=>rfl)))
   (eR (fC (i:=9) jU.nd rfl (.inl rfl) (ft f7 (qX hu (Bj (oK eU (gH (eQ eU (eQ eU eS))) (oK eU (gH (eQ eU (eQ eU eS))) (oK eU (gH (eQ eU (eQ eU eS))) (oK eU (gH (eQ eU (eQ eU eS))) Bi)))) rfl rfl (fun z=>nomatch z) (by decide)) (cv 2) (fun _ _=>rfl)) (gS lQ rfl T.z_int nZ (eQ (jf sZ (cv 8) eU (fD _)) eS)) (fun _ _=>rfl)))
   (eW (gr (fz (CU hr) (cv 7) (gG (eQ fc (eQ (fH lV (cv 3) (fH lW (cv 8) (cv 5))) (eQ (cv 9) eS)))) (fD _))
    (eW (fG m3))
    fw))))))
  (eW (fG m3))))),?_⟩
 have sl:sizeLine=16777216:=sizeLine_eq
 obtain⟨tx,u,zs,rfl,etx,eu,iz⟩:=yQ ix
 rw[l7]at iz
 have lz:=iz.length
 have ll:(jlK k t (sK ns) N ((rtK k+ 2:Nat):Int)).length=t:=by unfold jlK;split<;>simp only[bA,vj]
 rw[aC,ll]at lz
 refine⟨a,ns,2,rfl,hs,⟨by decide,by decide,by decide⟩,p30,?_⟩
 dsimp only[cI0,iQ]
 show um _ _ _ [some (.ref tx),some (.ref a),some (.int k),some (.int N),some (.int t),some (.int (sK ns)),none,none,none,none] H
 refine⟨_,etx,fg (eY (j:=1) rfl) ⟨_,_,_,_,true,rfl,fun _ r=>r,.tup eu,rfl,_,rfl,gR ⟨_,etx,fg (eY (j:=1) rfl) ⟨u,zs,rfl,.inr (SqT.of eu),?_⟩⟩⟩⟩
 refine tS rfl (decide_eq_true (by lia)) ?_
 refine gR ⟨_,etx,fg (eY (j:=1) rfl) ⟨u,rfl,⟨_,SqT.of eu⟩,y8 (xs:=zs) (RwI (.ref tx) a k t N (sK ns) H) ⟨none,none,none,none,rfl,fK.refl _⟩ (fun i σ H2 _ ⟨_,_,_,_,_,S⟩=>SqT.of (S _ _ eu)) ?_ ?_⟩⟩
 ·rintro i v σ H2 tt hx ⟨o6,o7,o8,o9,rfl,S⟩ htt
  have hi:=(aq.mp hx).1
  obtain⟨d,hd,him⟩:=kU iz hx
  obtain⟨j,hjt,hjz,hjl⟩:∃j:Nat,j<t/\(j:Int)=(if k=1 then(i:Int)else(t:Int)-1-i)/\(jlK k t (sK ns) N ((rtK k+ 2:Nat):Int))[i]?=some (enK (sK ns) N ((rtK k+ 2:Nat):Int) (psK k) j):=by
   unfold jlK
   by_cases h1:k=1
   ·exact⟨i,by lia,by rw[if_pos h1],by rw[if_pos h1];exact AZ (by lia)⟩
   ·refine⟨t-1-i,by lia,by rw[if_neg h1];lia,?_⟩
    rw[if_neg h1,bx (by rw[vj];lia),vj]
    exact AZ (by lia)
  rw[aK,hjl]at hd
  cases hd
  have sT:=eX htt (.tup [.int (i:Int),v])
  refine⟨tt,_,rfl,SqT.of eV,rfl,_,_,rfl,_,_,rfl,rfl,?_⟩
  have S3:=S.trans sT
  generalize upd H2 tt (.tup [.int (i:Int),v])=H3 at sT S3⊢
  have im3:=him.mono (fK.tk S3)
  have im4:Im H3 v (Vl.num (N-j*sK ns) (if j=0 then((rtK k+ 2:Nat):Int)else psK k)).d:=im3
  obtain⟨tv,rfl,etv⟩:=ot im4
  refine⟨_,_,_,_,true,rfl,fun _ r=>r,.tup etv,rfl,_,rfl,gR ⟨tv,_,rfl,.inr (SqT.of etv),?_⟩⟩
  dsimp only[tC,cEq,onB]
  rw[decide_eq_true (show((([V.str "num",V.int (N-j*sK ns),V.int (if j=0 then((rtK k+ 2:Nat):Int)else psK k)]:List V).length:Nat):Int)=3 from rfl)]
  refine gR ⟨_,etv,fg (eY (j:=1) rfl) ⟨_,rfl,_,rfl,gR ⟨_,etv,fg (eY (j:=2) rfl) ⟨_,rfl,_,rfl,?_⟩⟩⟩⟩
  refine gR ⟨(by show 2<=sizeLine;decide),fun p1 h1=> .inr ⟨_,rfl,[.int (i:Int),.int ((t:Int)-1-i)],eV,fg (v:= .int (j:Int)) ?_ ?_⟩⟩
  ·rw[hjz]
   rcases ten hk with rfl|rfl|rfl|rfl|rfl|rfl|rfl|rfl|rfl|rfl<;>first|rfl|cases hj
  have S4:=S3.trans (eX h1 (.lst [.int (i:Int),.int ((t:Int)-1-i)]))
  have im5:=im4.mono (fK.tk (eX h1 (.lst [.int (i:Int),.int ((t:Int)-1-i)])))
  dsimp only[iQ]
  generalize upd H3 p1 _=H4 at S4 im5⊢
  intro pd hpd
  have S5:=eX hpd (.dK [])
  have ed:(upd H4 pd (.dK [])) pd=some (.dK []):=eV
  generalize upd H4 pd (.dK [])=H5 at S5 ed⊢
  refine⟨(by show 2<=sizeLine;decide),fun q1 g1=>⟨(by show 2<=sizeLine;decide),fun q2 g2=>⟨(by show 2<=sizeLine;decide),fun q3 g3=>⟨(by show 2<=sizeLine;decide),fun q4 g4=>?_⟩⟩⟩⟩
  have r1:=eX g1 (.lst [.int 16,.int 11])
  have f1:(upd H5 q1 (.lst [.int 16,.int 11])) q1=some (.lst [.int 16,.int 11]):=eV
  generalize hh:upd H5 q1 _=H6 at r1 f1 g2 g3 g4⊢
  clear hh
  have r2:=eX g2 (.lst [.int 16,.int 9])
  have f2:(upd H6 q2 (.lst [.int 16,.int 9])) q2=some (.lst [.int 16,.int 9]):=eV
  generalize hh:upd H6 q2 _=H7 at r2 f2 g3 g4⊢
  clear hh
  have r3:=eX g3 (.lst [.int 18,.int 11])
  have f3:(upd H7 q3 (.lst [.int 18,.int 11])) q3=some (.lst [.int 18,.int 11]):=eV
  generalize hh:upd H7 q3 _=H8 at r3 f3 g4⊢
  clear hh
  have r4:=eX g4 (.lst [.int 19,.int 12])
  have f4:(upd H8 q4 (.lst [.int 19,.int 12])) q4=some (.lst [.int 19,.int 12]):=eV
  generalize hh:upd H8 q4 _=H9 at r4 f4⊢
  clear hh
  have S59:=((r1.trans r2).trans r3).trans r4
  have ed9:=S59 _ _ ed
  have S9:=(S4.trans S5).trans S59
  have im9:=im5.mono (fK.tk (S5.trans S59))
  refine⟨ed9,[(Sum.inl 1,.ref q1),(Sum.inl 5,.ref q2),(Sum.inl 7,.ref q3),(Sum.inl 9,.ref q4)],rfl,by show 4<=15;decide,?_⟩
  obtain⟨qk,hv,hq⟩:∃qk,je (iL [] [(Sum.inl 1,V.ref q1),(Sum.inl 5,.ref q2),(Sum.inl 7,.ref q3),(Sum.inl 9,.ref q4)]) (Sum.inl (k:Int):Key)=some (.ref qk)/\H9 qk=some (.lst [.int ((rtK k+ 2:Nat):Int),.int (psK k)]):=by
   rcases ten hk with rfl|rfl|rfl|rfl|rfl|rfl|rfl|rfl|rfl|rfl
   ·cases hj
   ·exact⟨q1,by kernel_rfl,r4 _ _ (r3 _ _ (r2 _ _ f1))⟩
   ·cases hj
   ·cases hj
   ·cases hj
   ·exact⟨q2,by kernel_rfl,r4 _ _ (r3 _ _ f2)⟩
   ·cases hj
   ·exact⟨q3,by kernel_rfl,r4 _ _ f3⟩
   ·cases hj
   ·exact⟨q4,by kernel_rfl,f4⟩
  have e10:(upd H9 pd (.dK (iL [] [(Sum.inl 1,V.ref q1),(Sum.inl 5,.ref q2),(Sum.inl 7,.ref q3),(Sum.inl 9,.ref q4)]))) pd=some (.dK (iL [] [(Sum.inl 1,V.ref q1),(Sum.inl 5,.ref q2),(Sum.inl 7,.ref q3),(Sum.inl 9,.ref q4)])):=eV
  have k10:TK H9 (upd H9 pd (.dK (iL [] [(Sum.inl 1,V.ref q1),(Sum.inl 5,.ref q2),(Sum.inl 7,.ref q3),(Sum.inl 9,.ref q4)]))):=yF ed9 (fun zs z=>nomatch z)
  have q10:(upd H9 pd (.dK (iL [] [(Sum.inl 1,V.ref q1),(Sum.inl 5,.ref q2),(Sum.inl 7,.ref q3),(Sum.inl 9,.ref q4)]))) qk=some (.lst [.int ((rtK k+ 2:Nat):Int),.int (psK k)]):=by rw[fe (kc hq ed9 (fun z=>nomatch z))];exact hq
  have S10:fK H (upd H9 pd (.dK (iL [] [(Sum.inl 1,V.ref q1),(Sum.inl 5,.ref q2),(Sum.inl 7,.ref q3),(Sum.inl 9,.ref q4)]))):=iu S9 (S4.free hpd) _
  dsimp only[iQ]
  generalize upd H9 pd (.dK (iL [] [(Sum.inl 1,V.ref q1),(Sum.inl 5,.ref q2),(Sum.inl 7,.ref q3),(Sum.inl 9,.ref q4)]))=H10 at e10 k10 q10 S10⊢
  have im10:=im9.mono k10
  have gk:=uu.k (k:=(Sum.inl (k:Int):Key)) e10
  rw[hv]at gk
  refine⟨pd,_,rfl,gk,.inr ⟨_,rfl,_,q10,fg (v:= .int (if j=0 then((rtK k+ 2:Nat):Int)else psK k)) ?_ ?_⟩⟩
  ·by_cases j0:j=0
   ·rw[if_pos j0,decide_eq_false (by lia)];rfl
   ·rw[if_neg j0,decide_eq_true (by lia)];rfl
  refine⟨Ag (by lia),(by show 3<=sizeLine;decide),fun tn htn=>?_⟩
  have S11:=eX htn (.tup [.str "num",.int (N-j*sK ns),.int (if j=0 then((rtK k+ 2:Nat):Int)else psK k)])
  have im11:=im10.mono (fK.tk S11)
  have in11:Im (upd H10 tn (.tup [.str "num",.int (N-j*sK ns),.int (if j=0 then((rtK k+ 2:Nat):Int)else psK k)])) (.ref tn) (Vl.num (N-j*sK ns) (if j=0 then((rtK k+ 2:Nat):Int)else psK k)).d:=by
   rw[Vl.d]
   exact mX htn (.cons (.flat rfl) (.cons (.flat rfl) (.cons (.flat rfl) .nil)))
  obtain⟨qe,qc⟩:=DO im11
  refine⟨tv,tn,_,_,rfl,rfl,B6 im11,B6 in11,qc,by rw[Vl.d];simp[sD,kD,sq,jG],?_⟩
  rw[Fg qe]
  dsimp only[onB]
  exact gR ⟨_,_,_,_,rfl,S10.trans S11⟩
 ·rintro σ H2 ⟨o6,o7,o8,o9,rfl,S⟩
  exact q _ S
theorem D3 {σ:St} {a b:Int} {H:Hp} {F:Bool->Hp->Prop} (e:a=b) (h:F false H):tC (.int b) σ H fun y H2=>cEq true (.int a) y H2 fun x H'=>onB x fun k=>F k H':=by show F (xor true (decide (a=b))) H;rw[decide_eq_true e];exact h
theorem Fi {σ:St} {a b:Str} {H:Hp} {F:Bool->Hp->Prop} (e:a=b) (h:F false H):tC (.str b) σ H fun y H2=>cEq true (.str a) y H2 fun x H'=>onB x fun k=>F k H':=by show F (xor true (decide (a=b))) H;rw[decide_eq_true e];exact h
theorem Fj {v:V} {i:Nat} {u:TS} {D:oG} {σ:St} {H:Hp} (h:u D (σ.set i (some v)) H):um (DV (tC v) (iQ i)) u D σ H:=h
theorem nX {t u:TS} {D:oG} {σ:St} {H:Hp} (N:St->Hp->Prop) (k:∀σ' H',N σ' H'->u D σ' H') (w:∀D':oG,(∀σ' H',N σ' H'->D'.nx σ' H')->t D' σ H):um t u D σ H:=w {D with nx:=u D} k
def fvK (k t:Nat) (S N:Int):Vl:=if isJ k=true then .row (lP (jlK k t S N ((rtK k+ 2:Nat):Int))) (plK k t)else .num (duK k t S N) (plK k t)
def viK (k t:Nat) (S N:Int) (i:Nat):Vl:=if k=2 then vlK S (psK 2) (upK 2) (bsK 2) (t-i) 0 0 else fvK k t S N
theorem Fm {k:Nat} (h:k<10) (t:Nat) (S N:Int):vaK k t S N=viK k t S N 0:=by
 unfold viK
 by_cases h2:k=2
 ·subst h2
  rw[if_pos rfl]
  exact Fh S t _ _ _ _
 ·rw[if_neg h2]
  unfold fvK vaK
  cases hj:isJ k with
  |true=>rw[if_pos rfl,Gg h hj]
  |false=>rw[if_neg dN,Gh h hj h2]
theorem Fn {k t:Nat} (S N:Int):viK k t S N (if k=2 then t else 0)=fvK k t S N:=by
 unfold viK
 by_cases h2:k=2
 ·subst h2
  rw[if_pos rfl,if_pos rfl,cn]
  have e:plK 2 t=5:=by unfold plK;exact ite_self _
  show Vl.num 5 5= .num (5+ 41*(t:Int)*0) (plK 2 t)
  rw[e,eF]
  rfl
 ·rw[if_neg h2]
theorem fv_p (k t:Nat) (S N:Int):(fvK k t S N).p=plK k t/\(fvK k t S N).s=if isJ k=true then "row" else "num":=by
 unfold fvK
 cases isJ k<;>exact⟨rfl,rfl⟩
def DQ (K:PySem.W.Frag):Sp:=fun vs H Q _=>∃(a:Addr) (ns:List Int) (x:V) (k t:Nat) (N:Int),vs=[x,.ref a,.int (k:Int),.int N,.int (t:Int)]/\SqL K H a (ns.map V.int)/\k<10/\(isJ k=true->t<=60)/\t<=300/\Im H x (vaK k t (sK ns) N).d/\∀H',fK H H'->Q (.bl true) H'
def DuI (a:Addr) (k t:Nat) (N S:Int) (H:Hp) (i:Nat) (σ:St) (H2:Hp):Prop:=H2=H/\∃(y:V) (o5:Option V),σ=[some y,some (.ref a),some (.int (k:Int)),some (.int N),some (.int (t:Int)),o5,none,none]/\Im H y (viK k t S N i).d
theorem vm (T:Txt K mg):gu P w K mg base CX0 4 T.a_due T.fd_due ["_law_value","_law_script","_law_sort","_law_start_here","_law_times"] (DQ K):=by
 have G_cell_at:=i6 (P:=P) (w:=w) (base:=base) T
 have G_whole:=lF (P:=P) (w:=w) (base:=base) T
 have G_row:=vk (P:=P) (w:=w) (base:=base) T
 refine T.F_due.ok ju (fun vs H Q E h=>?_) (fun cdv A0 outer s0 H vs Q E hr h=>?_)
 ·obtain⟨a,ns,x,k,t,N,rfl,_⟩:=h
  rfl
 obtain⟨a,ns,x,k,t,N,rfl,hs,hk,hj,ht,ix,q⟩:=h
 refine⟨_,(eR (lG PassesOwn.never rfl (sy rfl T.z_range (eQ (fH lW (cv 4) (gS lQ rfl T.z_int nZ (eQ (jf ki (cv 2) eU (fD _)) eS))) eS)) (jj (i:=5) ju.nd rfl (.inl rfl))
   (eR (gr (PW.pt (mF (kn (jd (fV kg rfl T.z_isinstance gT (eQ (cv 0) (eQ (nj rfl T.z_tuple jz) eS))))) (mF (fz mK (fV fS rfl T.z_len jy (eQ (cv 0) eS)) eU (fD _)) (mF (fz mK (ft fq (cv 0) eU (fun _ _=>rfl)) fc (fD _)) (m5 (fz mK (ft fq (cv 0) eU (fun _ _=>rfl)) eU (fD _)))))))
    (eW (fG m3))
    fw)
   (eR (gr (PW.pt (mF (kn (jd (fV kg rfl T.z_isinstance gT (eQ (ft fq (cv 0) eU (fun _ _=>rfl)) (eQ (nj rfl T.z_tuple jz) eS))))) (mF (fz mK (fV fS rfl T.z_len jy (eQ (ft fq (cv 0) eU (fun _ _=>rfl)) eS)) eU (fD _)) (m5 (fz mK (ft fq (ft fq (cv 0) eU (fun _ _=>rfl)) eU (fun _ _=>rfl)) fc (fD _))))))
    (eW (fG m3))
    fw)
   (eW (fC (i:=0) ju.nd rfl (.inl rfl) (ft fq (ft fq (cv 0) eU (fun _ _=>rfl)) eU (fun _ _=>rfl)))))))
  (eR (gr (PW.pt (mF (kn (jd (fV kg rfl T.z_isinstance gT (eQ (cv 0) (eQ (nj rfl T.z_tuple jz) eS))))) (mF (fz mK (fV fS rfl T.z_len jy (eQ (cv 0) eS)) eU (fD _)) (m5 (kn (jd (fA G_whole (hr.mono (by decide)) rfl T.m_whole T.k_whole T.b_whole .nil fO (eQ (ft fq (cv 0) eU (fun _ _=>rfl)) eS))))))))
   (eW (fG m3))
   fw)
  (eR (fC (i:=6) ju.nd rfl (.inl rfl) eU)
  (eR (gr (fz sZ (cv 4) eU (fD _))
   (eW (fC (i:=6) ju.nd rfl (.inl rfl) (ft f7 (gH (rf (xs:=[6,6,5,5,6,6,8,8,9,9]) (by decide+kernel))) (cv 2) (fun _ _=>rfl))))
   fw)
  (eR (gr (fz mK (ft fq (cv 0) eU (fun _ _=>rfl)) (cv 6) (fD _))
   (eW (fG m3))
   fw)
  (eR (gr (fz kW (cv 2) (gH (eQ eU (eQ eU (eQ eU (eQ eU eS))))) rfl)
   (eW (fG (m8 (jf ki (ft fq (cv 0) eU (fun _ _=>rfl)) fc (fD _)) (m7 (fA G_row (hr.mono (by decide)) rfl T.m_row T.k_row T.b_row .nil fO (eQ (cv 0) (eQ (cv 1) (eQ (cv 2) (eQ (cv 3) (eQ (cv 4) eS))))))))))
   fw)
  (eR (fC (i:=7) ju.nd rfl (.inl rfl) (fH kQ eU (fH lW (fH lW eU (cv 4)) (gS lQ rfl T.z_int nZ (eQ (jf ki (cv 2) eU (fD _)) eS)))))
  (eR (gr (fz sZ (cv 2) eU (fD _))
   (eW (fC (i:=7) ju.nd rfl (.inl rfl) (fH lV (fH kQ eU (fH lW (cv 4) (cv 3))) (fH lW (fH kQ eU (fH kR (fA G_cell_at (hr.mono (by decide)) rfl T.m_cell_at T.k_cell_at T.b_cell_at .nil fO (eQ (cv 1) (eQ eU eS))) (fH n9 eU eU))) (fH pz (fH lW (cv 4) (fH lV (cv 4) eU)) eU)))))
   fw)
  (eW (fG (m8 (jf ki (ft fq (cv 0) eU (fun _ _=>rfl)) fc (fD _)) (m8 (fA G_whole (hr.mono (by decide)) rfl T.m_whole T.k_whole T.b_whole .nil fO (eQ (ft fq (cv 0) eU (fun _ _=>rfl)) eS)) (m7 (jf ki (ft fq (cv 0) eU (fun _ _=>rfl)) (cv 7) (fD _))))))))))))))),?_⟩
 have sl:sizeLine=16777216:=sizeLine_eq
 rw[Fm hk]at ix
 have en:((t:Int)*(if decide ((k:Int)=2)=true then 1 else 0)).toNat=if k=2 then t else 0:=by
  by_cases h2:k=2
  ·rw[if_pos h2,decide_eq_true (by lia),if_pos rfl,d5,d6]
  ·rw[if_neg h2,decide_eq_false (by lia),if_neg dN,eF];rfl
 have eb: -(2^62)<=(t:Int)*(if decide ((k:Int)=2)=true then 1 else 0)/\(t:Int)*(if decide ((k:Int)=2)=true then 1 else 0)<2^62:=by
  by_cases h2:k=2
  ·rw[decide_eq_true (by lia),if_pos rfl,d5];lia
  ·rw[decide_eq_false (by lia),if_neg dN,eF];decide
 refine .inr ⟨_,rfl,Ag (by lia),_,rfl,?_,?_,sC (DuI a k t N (sK ns) H) ⟨rfl,x,none,rfl,ix⟩ ?_ ?_⟩
 ·rw[dR];exact eb.1
 ·rw[dR];exact eb.2
 ·rw[dR,en]
  rintro i σ H2 hi ⟨rfl,y,o5,rfl,iy⟩
  have h2:k=2:=by
   by_cases h2:k=2
   ·exact h2
   ·rw[if_neg h2]at hi;lia
  rw[if_pos h2]at hi
  subst h2
  have e1:viK 2 t (sK ns) N i= .tag "more" (viK 2 t (sK ns) N (i+ 1)) 6:=by
   unfold viK
   rw[if_pos rfl,if_pos rfl,show t-i=(t-(i+ 1))+ 1 by lia,vlK]
   exact congrArg (fun v=>Vl.tag "more" v 6) (Fh _ _ _ _ _ _)
  rw[e1]at iy
  obtain⟨ty,yb,rfl,ety,ib⟩:=nE iy
  obtain⟨tb,y1,y2,rfl,etb,j1,j2⟩:=rW (show Im H2 yb (.tup [sD "more",(viK 2 t (sK ns) N (i+ 1)).d])from ib)
  cases j1
  have ety:H2 ty=some (.tup [.str "tag",.ref tb,.int 6]):=ety
  refine⟨_,_,_,_,true,rfl,fun _ r=>r,.tup ety,rfl,_,rfl,gR ⟨ty,_,rfl,.inr (SqT.of ety),?_⟩⟩
  refine D3 rfl ?_
  refine gR ⟨_,ety,fg (eY (j:=0) rfl) ?_⟩
  refine Fi rfl ?_
  refine gR ⟨_,ety,fg (eY (j:=2) rfl) ?_⟩
  refine D3 rfl ?_
  refine gR ⟨_,ety,fg (eY (j:=1) rfl) ⟨_,_,_,_,true,rfl,fun _ r=>r,.tup etb,rfl,_,rfl,gR ⟨_,ety,fg (eY (j:=1) rfl) ⟨tb,_,rfl,.inr (SqT.of etb),?_⟩⟩⟩⟩
  refine D3 rfl ?_
  refine gR ⟨_,ety,fg (eY (j:=1) rfl) ⟨_,etb,fg (eY (j:=0) rfl) ?_⟩⟩
  refine Fi rfl ?_
  exact gR ⟨_,ety,fg (eY (j:=1) rfl) ⟨_,etb,fg (eY (j:=1) rfl) ⟨rfl,_,_,rfl,j2⟩⟩⟩
 ·rw[dR,en]
  rintro σ H2 ⟨rfl,y,o5,rfl,iy⟩
  rw[Fn]at iy
  obtain⟨ty,yb,rfl,ety,ib⟩:=nE iy
  obtain⟨fp,fs⟩:=fv_p k t (sK ns) N
  rw[fp,fs]at ety
  refine⟨_,_,_,_,true,rfl,fun _ r=>r,.tup ety,rfl,_,rfl,gR ⟨ty,_,rfl,.inr (SqT.of ety),?_⟩⟩
  refine D3 rfl ?_
  refine gR ⟨_,ety,fg (eY (j:=2) rfl) ⟨_,rfl,_,rfl,gR ?_⟩⟩
  dsimp only[sx]
  refine Fj ?_
  refine nX (fun σ' H'=>σ'=[some (.ref ty),some (.ref a),some (.int (k:Int)),some (.int N),some (.int (t:Int)),o5,some (.int (plK k t)),none]/\fK H2 H') ?_ ?_
  rotate_left
  ·intro D' hD
   show(if decide ((0:Int)<(t:Int))=true then _ else _)
   by_cases t0:t=0
   ·rw[decide_eq_false (by lia)]
    have e:plK k t=5:=by unfold plK;rw[if_pos t0]
    exact gR (hD _ _ ⟨by rw[e];rfl,fK.refl _⟩)
   ·rw[decide_eq_true (by lia)]
    have e:(([6,6,5,5,6,6,8,8,9,9]:List Int).map V.int)[k]?=some (.int (plK k t)):=by unfold plK;rw[if_neg t0];rcases ten hk with rfl|rfl|rfl|rfl|rfl|rfl|rfl|rfl|rfl|rfl<;>rfl
    exact iM ⟨(by show 10<=sizeLine;decide),fun p hp=>⟨_,eV,fg (eY e) (hD _ _ ⟨rfl,eX hp _⟩)⟩⟩
  rintro σ' H3 ⟨rfl,S3⟩
  have ety3:=S3 _ _ ety
  refine⟨_,ety3,fg (eY (j:=2) rfl) ?_⟩
  refine tS rfl (decide_eq_true rfl) ?_
  refine gR ⟨(by show 4<=sizeLine;decide),fun p1 h1=>⟨p1,_,rfl,.inl (SqL.of eV),rfl,rfl,?_⟩⟩
  have S4:=S3.trans (eX h1 (.lst [.int 1,.int 5,.int 7,.int 9]))
  have ejn:(if false=true then !inV (.int (k:Int)) [.int 1,.int 5,.int 7,.int 9]else inV (.int (k:Int)) [.int 1,.int 5,.int 7,.int 9])=isJ k:=by rcases ten hk with rfl|rfl|rfl|rfl|rfl|rfl|rfl|rfl|rfl|rfl<;>kernel_rfl
  rw[ejn]
  generalize upd H3 p1 _=H4 at S4⊢
  have ety4:=S4 _ _ ety
  have iy4:=iy.mono (fK.tk S4)
  have hs4:=S4.seq hs
  cases e:isJ k with
  |true=>
   rw[e,if_pos rfl]at ety4
   have iy5:Im H4 (.ref ty) (Vl.row (lP (jlK k t (sK ns) N ((rtK k+ 2:Nat):Int))) (plK k t)).d:=by
    unfold fvK at iy4
    rw[if_pos e]at iy4
    exact iy4
   dsimp only[onB]
   refine iM ⟨_,ety4,fg (eY (j:=0) rfl) ?_⟩
   dsimp only[tC,cEq]
   refine⟨_,rfl,?_⟩
   rw[dR,decide_eq_true rfl]
   exact iM ⟨a,ns,.ref ty,k,t,N,plK k t,rfl,hs4,hk,e,hj e,iy5,fun H' S'=>q _ (S4.trans S')⟩
  |false=>
   rw[e,if_neg dN]at ety4
   have iy5:Im H4 (.ref ty) (Vl.num (duK k t (sK ns) N) (plK k t)).d:=by
    unfold fvK at iy4
    rw[e,if_neg dN]at iy4
    exact iy4
   obtain⟨ty',ez,ety5⟩:=ot iy5
   cases ez
   dsimp only[onB]
   refine gR ⟨Ag (by lia),.inr ⟨_,rfl,.inl ⟨by lia,by lia⟩,?_⟩⟩
   dsimp only[cI0,iQ]
   show um _ _ _ [some (.ref ty),some (.ref a),some (.int (k:Int)),some (.int N),some (.int (t:Int)),o5,some (.int (plK k t)),some (.int (5+ 41*(t:Int)*(if(xor false (decide ((k:Int)=0)))=true then 1 else 0)))] H4
   refine nX (fun σ' H'=>σ'=[some (.ref ty),some (.ref a),some (.int (k:Int)),some (.int N),some (.int (t:Int)),o5,some (.int (plK k t)),some (.int (duK k t (sK ns) N))]/\H'=H4) ?_ ?_
   rotate_left
   ·intro D' hD
    show(if decide ((3:Int)<(k:Int))=true then _ else _)
    by_cases k3:3<k
    ·rw[decide_eq_true (by lia)]
     refine iM ⟨Ag (by lia),a,ns,2,rfl,hs4,⟨by decide,by decide,by decide⟩,p30,?_⟩
     have tt:((t*t:Nat):Int)=(t:Int)*t:=eG t t
     have tb:t*t<=300*300:=cy ht ht
     have tm:(t:Int)*((t:Int)-1)=((t*t:Nat):Int)-t:=by rw[Int.mul_sub,d5,tt]
     have hb: -(2^64)<(t:Int)*((t:Int)-1)/2/\(t:Int)*((t:Int)-1)/2<2^64:=by rw[tm];lia
     exact⟨Ag (by lia),⟨by decide,by decide⟩,.inr hb,hD _ _ ⟨by unfold duK;rw[if_pos k3];rfl,rfl⟩⟩
    ·rw[decide_eq_false (by lia)]
     refine gR (hD _ _ ⟨?_,rfl⟩)
     unfold duK
     rw[if_neg k3,dR]
     by_cases k0:k=0
     ·rw[if_pos k0,decide_eq_true (by lia)];rfl
     ·rw[if_neg k0,decide_eq_false (by lia)];rfl
   rintro σ' H5 ⟨rfl,rfl⟩
   refine⟨_,ety5,fg (eY (j:=0) rfl) ?_⟩
   dsimp only[tC,cEq]
   refine⟨_,rfl,?_⟩
   rw[dR,decide_eq_true rfl]
   refine iM ⟨_,ety5,fg (eY (j:=1) rfl) ⟨_,rfl,_,rfl,iM ⟨_,ety5,fg (eY (j:=1) rfl) ?_⟩⟩⟩
   show Q (.bl (xor false (decide (duK k t (sK ns) N=duK k t (sK ns) N)))) H5
   rw[decide_eq_true rfl]
   exact q _ S4
open GR.Internal (kj)
theorem DR {g:Int->Int->V} {i j:Int} {H:Hp} {Q:VK} (h:Q (g i j) H):cI0 g (.int i) (.int j) H Q:=h
def bnK (k t:Nat):Nat:=if isJ k=true/\60<t then 9+ 61*(uwK k).2.1+t*(dnK k).2.1 else 9+t*eaK k
theorem Fo {k t:Nat} (h:k<10) (h1:(isJ k&&decide (k≠1))=true) (ht:60<t):(131+(t:Int)*((eaK k:Int)-2))=(bnK k t:Int):=by
 unfold bnK
 rcases ten h with rfl|rfl|rfl|rfl|rfl|rfl|rfl|rfl|rfl|rfl
 ·cases h1
 ·cases h1
 ·cases h1
 ·cases h1
 ·cases h1
 ·rw[if_pos ⟨rfl,ht⟩];show 131+(t:Int)*(((12:Nat):Int)-2)=((9+ 61*2+t*10:Nat):Int);lia
 ·cases h1
 ·rw[if_pos ⟨rfl,ht⟩];show 131+(t:Int)*(((14:Nat):Int)-2)=((9+ 61*2+t*12:Nat):Int);lia
 ·cases h1
 ·rw[if_pos ⟨rfl,ht⟩];show 131+(t:Int)*(((15:Nat):Int)-2)=((9+ 61*2+t*13:Nat):Int);lia
theorem DS {k t:Nat} (h:¬((isJ k&&decide (k≠1))=true/\60<t)):9+(t:Int)*(eaK k:Int)=(bnK k t:Int):=by
 unfold bnK
 by_cases c:isJ k=true/\60<t
 ·have k1:k=1:=by
   by_cases k1:k=1
   ·exact k1
   ·exact absurd ⟨by rw[c.1,decide_eq_true k1];rfl,c.2⟩ h
  subst k1
  rw[if_pos c]
  show 9+(t:Int)*((12:Nat):Int)=((9+ 61*0+t*12:Nat):Int)
  lia
 ·rw[if_neg c,Int.natCast_add,eG]
  rfl
theorem Fp {S L N:Int} {k t tu:Nat} (h:k<10) (ht:t<=250) (hs:Stt S L N t) (h1:1<=tu):∃m s',m<=40000/\oC (prR k S L N) (prH k S L N) tu m [0,rtK k] s0M s'/\((tu<bnK k t/\s'.en=some ("turns":Str)/\s'.bg=tu)\/(bnK k t<=tu/\s'.bg=bnK k t/\((isJ k=true/\60<t/\s'.en=some ("full":Str))\/(¬(isJ k=true/\60<t)/\s'.en=some ("done":Str)/\s'.ha.length=bnK k t/\s'.me.length=4+t*mtK k/\s'.de=[.fn 1 .nil 0,vaK k t S N])))):=by
 by_cases c:tu<bnK k t
 ·obtain⟨m,s',a,b,d,e⟩:=yY h ht hs h1 (by unfold bnK at c;split<;>rename_i z<;>first|(rw[if_pos z]at c;exact c)|(rw[if_neg z]at c;exact c))
  exact⟨m,s',a,b,.inl ⟨c,d,e⟩⟩
 ·by_cases j:isJ k=true/\60<t
  ·have eb:bnK k t=9+ 61*(uwK k).2.1+t*(dnK k).2.1:=by unfold bnK;rw[if_pos j]
   obtain⟨m0,rfl⟩:∃m0,t=m0+ 61:=⟨t-61,by lia⟩
   obtain⟨m,s',a,b,d,e⟩:=Ab h j.1 (by lia) hs (show _<=tu by lia)
   exact⟨m,s',a,b,.inr ⟨by lia,by rw[e,eb],.inl ⟨j.1,j.2,d⟩⟩⟩
  ·have eb:bnK k t=9+t*eaK k:=by unfold bnK;rw[if_neg j]
   obtain⟨m,s',a,b,d,e,f,g,i⟩:=Aa h ht (fun z=>cw.mp fun y=>j ⟨z,y⟩) hs (show _<=tu by lia)
   exact⟨m,s',a,b,.inr ⟨by lia,by rw[e,eb],.inr ⟨j,d,by rw[f,eb],g,i⟩⟩⟩
theorem vn {en v:V} {me ha:Addr} {bg:Int}:(fRn en v me ha bg).lookup ("end":Str)=some en/\(fRn en v me ha bg).lookup ("value":Str)=some v/\(fRn en v me ha bg).lookup ("meets":Str)=some (.ref me)/\(fRn en v me ha bg).lookup ("had":Str)=some (.ref ha)/\(fRn en v me ha bg).lookup ("begun":Str)=some (.int bg):=⟨by kernel_rfl,by kernel_rfl,by kernel_rfl,by kernel_rfl,by kernel_rfl⟩
theorem A1 {C r dx me ha:Addr} {bg:Int} {m:Str} {D:oG} {σ:St} {H:Hp} (hσ:σ[8]?=some (some (.ref r))) (er:H r=some (.ins C dx (fRn (.str m) .non me ha bg))) (q:D.rt (.bl true) H):B9 (Ck (tOp (cEq false) (AG C "end" (cV 8)) (tC (.str m))) (Fs (AG C "value" (cV 8)))) D σ H:=by
 obtain⟨f1,f2,_⟩:=vn (en:= .str m) (v:= .non) (me:=me) (ha:=ha) (bg:=bg)
 show onV σ[8]? _
 rw[hσ]
 refine⟨_,⟨_,_,er,f1⟩,?_⟩
 dsimp only[tC,cEq]
 refine⟨_,rfl,?_⟩
 rw[dR,decide_eq_true rfl]
 refine iM ?_
 show onV σ[8]? _
 rw[hσ]
 refine⟨_,⟨_,_,er,f2⟩,?_⟩
 show D.rt (.bl (decide (V.non=V.non))) H
 rw[decide_eq_true rfl]
 exact q
theorem uc {z:Int} (h:0<=z):∃n:Nat,z=(n:Int):=⟨z.toNat,(Int.toNat_of_nonneg h).symm⟩
theorem DT (ns:List Int) (t:Nat) (ht:t<=300):Stt (sK ns) (lK ns) (nK ns t) t/\0<=nK ns t/\nK ns t<10^60:=by
 have sb:=D2 ns
 have lb:=Ff ns
 have c0:=eC (clK ns 4) (show sK ns≠0 by lia)
 have c1:=eE (clK ns 4) (show 0<sK ns by lia)
 have m0:0<=(t:Int)*sK ns:=Int.mul_nonneg (by lia) (by lia)
 have m1:(t:Int)*sK ns<=300*10^30:=Int.mul_le_mul (by lia) sb.2 (by lia) (by decide)
 unfold nK
 refine⟨⟨fun j hj=>?_,by lia⟩,by lia,by lia⟩
 have m2:((j+ 1:Nat):Int)*sK ns<=(t:Int)*sK ns:=Int.mul_le_mul_of_nonneg_right (by lia) (by lia)
 rw[eg,eA,eB]at m2
 lia
theorem ea_k {k:Nat} (h:k<10):(([11,12,10,9,11,12,13,14,14,15]:List Int).map V.int)[k]?=some (.int (eaK k:Int))/\(([8,8,6,6,8,8,8,8,9,9]:List Int).map V.int)[k]?=some (.int (mtK k:Int))/\9<=eaK k/\eaK k<=15/\mtK k<=9/\(uwK k).2.1<=2:=by
 rcases ten h with rfl|rfl|rfl|rfl|rfl|rfl|rfl|rfl|rfl|rfl<;>exact⟨rfl,rfl,by decide,by decide,by decide,by decide⟩
theorem B7 {f:Addr} {fd:FuncData} (T:Txt K mg) (D:Dk P w K mg) (W:Wk P w T) (F:Fun K "law" "law" rG f fd):gu P w K mg base CX0 150 f fd ["_law_script"] (vO K):=by
 have g1:=wR (P:=P) (w:=w) (base:=base) T
 have g2:=wU T g1
 have g3:=tN T g1
 have ga:=pS (P:=P) (w:=w) (base:=base) T
 have g4:=qi (P:=P) (w:=w) (base:=base) T ga
 have gc:=qj (P:=P) (w:=w) (base:=base) T
 have gp:=mQ T g4
 have gn:=mS T g4 g2
 have ge:=yy T D ga g4 gp gn g2 g3 gc 24
 have G_read:=BP T (uS T) (ny T) ga gp gn ge gc (mU T)
 have G_cell_at:=i6 (P:=P) (w:=w) (base:=base) T
 have G_whole:=lF (P:=P) (w:=w) (base:=base) T
 have G_text:=tZ (P:=P) (w:=w) (base:=base) T
 have G_start:=sj (P:=P) (w:=w) (base:=base) T
 have G_due:=vm (P:=P) (w:=w) (base:=base) T
 have G_homes_of:=uW (P:=P) (w:=w) (base:=base) T
 have G_run:=DA (base:=base) T W
 clear g1 g2 g3 ga g4 gc gp gn ge
 refine F.ok lH (fun vs H Q E h=>?_) (fun cdv A outer s H vs Q E hr h=>?_)
 ·obtain⟨a,ns,rfl,_⟩:=h
  rfl
 obtain⟨ad,ns,rfl,hsq,hlen,q⟩:=h
 refine⟨_,(eR (fC (i:=1) lH.nd rfl (.inl rfl) (fH kR (fA G_cell_at (hr.mono (by decide)) rfl T.m_cell_at T.k_cell_at T.b_cell_at .nil fO (eQ (cv 0) (eQ eU eS))) eU))
  (eR (fC (i:=2) lH.nd rfl (.inl rfl) (ft f7 (gH (rf (xs:=[11,12,10,9,11,12,13,14,14,15]) (by decide+kernel))) (cv 1) (fun _ _=>rfl)))
  (eR (fC (i:=3) lH.nd rfl (.inl rfl) (fH kR (fA G_cell_at (hr.mono (by decide)) rfl T.m_cell_at T.k_cell_at T.b_cell_at .nil fO (eQ (cv 0) (eQ eU eS))) eU))
  (eR (gr (fz ki (fH kR (fH pz (fA G_cell_at (hr.mono (by decide)) rfl T.m_cell_at T.k_cell_at T.b_cell_at .nil fO (eQ (cv 0) (eQ eU eS))) eU) eU) eU (fD _))
   (eW (fC (i:=3) lH.nd rfl (.inl rfl) (fH kQ eU (fH kR (fA G_cell_at (hr.mono (by decide)) rfl T.m_cell_at T.k_cell_at T.b_cell_at .nil fO (eQ (cv 0) (eQ eU eS))) eU))))
   fw)
  (eR (gr (fz ki (fH kR (fH pz (fA G_cell_at (hr.mono (by decide)) rfl T.m_cell_at T.k_cell_at T.b_cell_at .nil fO (eQ (cv 0) (eQ eU eS))) eU) eU) eU (fD _))
   (eW (fC (i:=3) lH.nd rfl (.inl rfl) (fH lV (fH pz eU (cv 2)) (fH kR (fA G_cell_at (hr.mono (by decide)) rfl T.m_cell_at T.k_cell_at T.b_cell_at .nil fO (eQ (cv 0) (eQ eU eS))) eU))))
   fw)
  (eR (fC (i:=4) lH.nd rfl (.inl rfl) (fA G_start (hr.mono (by decide)) rfl T.m_start T.k_start T.b_start .nil fO (eQ (cv 0) (eQ (cv 3) eS))))
  (eR (fC (i:=5) lH.nd rfl (.inl rfl) (fH kQ eU (fH lW (cv 3) (cv 2))))
  (eR (gr (PW.pt (xm (fz kW (cv 1) (gH (eQ eU (eQ eU (eQ eU eS)))) rfl) (uk (fz sZ (cv 3) eU (fD _)))))
   (eW (fC (i:=5) lH.nd rfl (.inl rfl) (fH kQ eU (fH lW (cv 3) (fH lV (cv 2) eU)))))
   fw)
  (eR (fC (i:=6) lH.nd rfl (.inl rfl) (ft f7 (gH (eQ (cv 5) (eQ (fH lV (cv 5) eU) (eQ eU eS)))) (fH kR (fH pz (fA G_cell_at (hr.mono (by decide)) rfl T.m_cell_at T.k_cell_at T.b_cell_at .nil fO (eQ (cv 0) (eQ eU eS))) eU) eU) (fun _ _=>rfl)))
  (eR (fC (i:=7) lH.nd rfl (.inl rfl) (fA G_read (hr.mono (by decide)) rfl T.m_read T.k_read T.b_read .nil Eu (eQ (fA G_text (hr.mono (by decide)) rfl T.m_text T.k_text T.b_text .nil fO (eQ (cv 0) (eQ (cv 1) (eQ (cv 4) eS)))) eS)))
  (eR (fC (i:=8) lH.nd rfl (.inl rfl) (fA G_run (hr.mono (by decide)) rfl T.m_run T.k_run T.b_run .nil fO (eQ (cv 7) (eQ (fA G_homes_of (hr.mono (by decide)) rfl T.m_homes_of T.k_homes_of T.b_homes_of .nil fO (eQ (cv 7) eS)) (eQ (cv 6) eS)))))
  (eR (gr (PW.pt (mF (kn (jd (fA G_whole (hr.mono (by decide)) rfl T.m_whole T.k_whole T.b_whole .nil fO (eQ (fN T.cl_Run T.n_Run_begun (cv 8)) eS)))) (m5 (fz mK (fN T.cl_Run T.n_Run_begun (cv 8)) (fV (xy rfl) rfl T.z_min CV (eQ (cv 5) (eQ (cv 6) eS))) (fD _)))))
   (eW (fG m3))
   fw)
  (eR (gr (fz BB (cv 6) (cv 5) (fD _))
   (eW (fG (m8 (jf ki (fN T.cl_Run T.n_Run_end (cv 8)) fc (fD _)) (m7 (xk (xj (fN T.cl_Run T.n_Run_value (cv 8))))))))
   fw)
  (eR (gr (PW.pt (xm (fz kW (cv 1) (gH (eQ eU (eQ eU (eQ eU (eQ eU eS))))) rfl) (uk (fz sZ (cv 3) eU (fD _)))))
   (eW (fG (m8 (jf ki (fN T.cl_Run T.n_Run_end (cv 8)) fc (fD _)) (m7 (xk (xj (fN T.cl_Run T.n_Run_value (cv 8))))))))
   fw)
  (eR (gr (PW.pt (mF (fz mK (fN T.cl_Run T.n_Run_end (cv 8)) fc (fD _)) (m5 (fz mK (fV fS rfl T.z_len jy (eQ (fN T.cl_Run T.n_Run_had (cv 8)) eS)) (cv 5) (fD _)))))
   (eW (fG m3))
   fw)
  (eR (gr (fz mK (fV fS rfl T.z_len jy (eQ (fN T.cl_Run T.n_Run_meets (cv 8)) eS)) (fH kQ eU (fH lW (cv 3) (ft f7 (gH (rf (xs:=[8,8,6,6,8,8,8,8,9,9]) (by decide+kernel))) (cv 1) (fun _ _=>rfl)))) (fD _))
   (eW (fG m3))
   fw)
  (eW (fG (fA G_due (hr.mono (by decide)) rfl T.m_due T.k_due T.b_due .nil fO (eQ (fN T.cl_Run T.n_Run_value (cv 8)) (eQ (cv 0) (eQ (cv 1) (eQ (cv 4) (eQ (cv 3) eS)))))))))))))))))))))))),?_⟩
 have sl:sizeLine=16777216:=sizeLine_eq
 obtain⟨k,ek⟩:=uc (eC (clK ns 0) (show(10:Int)≠0 by decide))
 have hk:k<10:=by have:=eE (clK ns 0) (show(0:Int)<10 by decide);lia
 obtain⟨ea1,ea2,ea3,ea4,ea5,ea6⟩:=ea_k hk
 refine⟨ad,ns,0,rfl,hsq,show(0:Int)<10 by decide,?_⟩
 dsimp only[iQ]
 rw[ek]
 refine⟨(by show 10<=sizeLine;decide),fun p1 h1=>⟨_,eV,fg (eY ea1) ?_⟩⟩
 have S1:=eX h1 (.lst (([11,12,10,9,11,12,13,14,14,15]:List Int).map V.int))
 dsimp only[iQ]
 generalize upd H p1 _=H1 at S1⊢
 have hs1:=S1.seq hsq
 refine⟨ad,ns,1,rfl,hs1,show(0:Int)<133 by decide,?_⟩
 dsimp only[iQ]
 refine nX (fun σ' H'=>H'=H1/\∃t:Nat,t<=221/\σ'=[some (.ref ad),some (.int k),some (.int (eaK k:Int)),some (.int (t:Int)),none,none,none,none,none]) ?_ ?_
 rotate_left
 ·intro D' hD
  have c1:=eC (clK ns 1) (show(133:Int)≠0 by decide)
  have c2:=eE (clK ns 1) (show(0:Int)<133 by decide)
  have c3:=eC (clK ns 1) (show(6:Int)≠0 by decide)
  have c4:=eE (clK ns 1) (show(0:Int)<6 by decide)
  obtain⟨t1,e1⟩:=uc c1
  obtain⟨t2,e2⟩:=uc (show 0<=58+clK ns 1%6 by lia)
  refine⟨ad,ns,0,rfl,hs1,⟨by decide,by decide⟩,show(0:Int)<3 by decide,?_⟩
  dsimp only[tC,cEq,onB]
  cases decide (clK ns 0/10%3=0)with
  |true=>exact iM ⟨ad,ns,1,rfl,hs1,show(0:Int)<6 by decide,hD _ _ ⟨rfl,t2,by lia,by rw[<-e2];rfl⟩⟩
  |false=>exact gR (hD _ _ ⟨rfl,t1,by lia,by rw[<-e1];rfl⟩)
 rintro _ H1 ⟨rfl,t0,ht0,rfl⟩
 refine nX (fun σ' H'=>H'=H1/\∃t:Nat,t<=221/\σ'=[some (.ref ad),some (.int k),some (.int (eaK k:Int)),some (.int (t:Int)),none,none,none,none,none]) ?_ ?_
 rotate_left
 ·intro D' hD
  have c3:=eC (clK ns 1) (show(9:Int)≠0 by decide)
  have c4:=eE (clK ns 1) (show(0:Int)<9 by decide)
  have d1:1991/(eaK k:Int)<=221/\132<=1991/(eaK k:Int):=by
   rcases ten hk with rfl|rfl|rfl|rfl|rfl|rfl|rfl|rfl|rfl|rfl<;>decide
  obtain⟨t2,e2⟩:=uc (show 0<=1991/(eaK k:Int)-clK ns 1%9 by lia)
  refine⟨ad,ns,0,rfl,hs1,⟨by decide,by decide⟩,show(0:Int)<16 by decide,?_⟩
  dsimp only[tC,cEq,onB]
  cases decide (clK ns 0/90%16=0)with
  |true=>exact iM ⟨⟨by lia,by lia⟩,ad,ns,1,rfl,hs1,show(0:Int)<9 by decide,hD _ _ ⟨rfl,t2,by lia,by rw[<-e2];rfl⟩⟩
  |false=>exact gR (hD _ _ ⟨rfl,t0,ht0,rfl⟩)
 rintro _ H1 ⟨rfl,t,ht,rfl⟩
 obtain⟨stt,n0,n1⟩:=DT ns t (by lia)
 refine⟨ad,ns,t,rfl,hs1,by lia,Ag (by lia),?_⟩
 dsimp only[iQ]
 refine DR ?_
 refine nX (fun σ' H'=>fK H1 H'/\σ'=[some (.ref ad),some (.int k),some (.int (eaK k:Int)),some (.int (t:Int)),some (.int (nK ns t)),some (.int (bnK k t:Int)),none,none,none]) ?_ ?_
 rotate_left
 ·intro D' hD
  refine⟨(by show 3<=sizeLine;decide),fun p hp=>⟨p,_,rfl,.inl (SqL.of eV),rfl,rfl,?_⟩⟩
  have ein:(if false=true then !inV (.int (k:Int)) [.int 5,.int 7,.int 9]else inV (.int (k:Int)) [.int 5,.int 7,.int 9])=(isJ k&&decide (k≠1)):=by rcases ten hk with rfl|rfl|rfl|rfl|rfl|rfl|rfl|rfl|rfl|rfl<;>kernel_rfl
  rw[ein]
  have Sp:=eX hp (.lst [.int 5,.int 7,.int 9])
  cases e5:(isJ k&&decide (k≠1))with
  |true=>
   dsimp only[onB]
   refine iM ?_
   show(if decide ((60:Int)<(t:Int))=true then _ else _)
   by_cases t6:60<t
   ·rw[decide_eq_true (by lia)]
    exact iM ⟨Ag (by lia),hD _ _ ⟨Sp,by rw[<-Fo hk e5 t6];rfl⟩⟩
   ·rw[decide_eq_false (by lia)]
    exact gR (hD _ _ ⟨Sp,by rw[<-DS (fun z=>t6 z.2)];rfl⟩)
  |false=>
   dsimp only[onB]
   exact gR (gR (hD _ _ ⟨Sp,by rw[<-DS (fun z=>by rw[e5]at z;exact dN z.1)];rfl⟩))
 rintro _ H2 ⟨S2,rfl⟩
 have b9:9<=bnK k t:=by unfold bnK;split<;>lia
 obtain⟨mm,em⟩:=uc (eC (clK ns 0/30) (show(3:Int)≠0 by decide))
 have hm3:mm<3:=by have:=eE (clK ns 0/30) (show(0:Int)<3 by decide);lia
 obtain⟨tu,htu,etu⟩:∃tu:Nat,1<=tu/\([V.int (bnK k t:Int),V.int ((bnK k t:Int)-1),V.int 2000]:List V)[mm]?=some (.int (tu:Int)):=by
  match mm,hm3 with
  |0,_=>exact⟨bnK k t,by lia,rfl⟩
  |1,_=>exact⟨bnK k t-1,by lia,by show some (V.int ((bnK k t:Int)-1))=_;congr 2;lia⟩
  |2,_=>exact⟨2000,by lia,rfl⟩
 obtain⟨m,s',hm,rP,cs⟩:=Fp (S:=sK ns) (L:=lK ns) (N:=nK ns t) hk (show t<=250 by lia) stt htu
 refine⟨(by show 3<=sizeLine;decide),fun p3 h3=>?_⟩
 have S3:=(S1.trans S2).trans (eX h3 (.lst [.int (bnK k t:Int),.int ((bnK k t:Int)-1),.int 2000]))
 refine⟨ad,ns,0,rfl,S3.seq hsq,⟨by decide,by decide⟩,show(0:Int)<3 by decide,?_⟩
 dsimp only
 rw[em]
 refine⟨_,eV,fg (eY etu) ?_⟩
 dsimp only[iQ]
 generalize upd H2 p3 _=H3 at S3⊢
 refine⟨ad,ns,k,nK ns t,rfl,S3.seq hsq,hk,⟨n0,n1⟩,fun H4 S4=>?_⟩
 have sb:=D2 ns
 have lb:=Ff ns
 have sh:0<=sK ns/\sK ns<10^60:=by lia
 have lh:0<=lK ns/\lK ns<10^60:=by lia
 have tq:=tx_q hk sh lh ⟨n0,n1⟩
 have et:GR.Internal.toks (txS k (sK ns) (lK ns) (nK ns t))=xf ["turn","all"] [tuT k (sK ns) (lK ns),alT (nK ns t)]:=tq.g.op
 obtain⟨w1,w2,w3,_,_,_,w7⟩:=Gd (S:=sK ns) (L:=lK ns) (N:=nK ns t) hk
 have rd:=DJ hk sh lh ⟨n0,n1⟩
 rw[<-et]at rd
 refine⟨_,GR.Internal.toks (txS k (sK ns) (lK ns) (nK ns t)),rfl,bX tq.l (by decide),GR.Internal.toks_v _,by rw[et];exact DF w7 tq.o,fun names roots rows g nl tl rl rtv rwv H5 hread S5 _ _ _ pr tr tw=>?_,fun hno=>absurd (rd.symm.trans hno) (by simp)⟩
 rw[rd]at hread
 obtain⟨rfl,rfl,rfl⟩:(["turn","all"]:List Str)=names/\([0,rtK k]:List Nat).map TM.Internal.kD=roots/\(prR k (sK ns) (lK ns) (nK ns t)).map Ro.d=rows:=by
  have:=cz.inj hread
  exact⟨congrArg Prod.fst this,congrArg (fun x=>x.2.1) this,congrArg (fun x=>x.2.2) this⟩
 have ertv:=DH (oT tr (by rfl))
 have erwv:=oT tw (by rw[w1];exact w3)
 obtain⟨dx,ob⟩:=pr.ob
 have prr:=pr.rt
 rw[ertv]at prr
 have prA:PrA T.a_Program H5 g nl tl rl dx rwv ["turn","all"] [0,rtK k] (prR k (sK ns) (lK ns) (nK ns t)):=⟨ob,pr.nm,prr,pr.rw,erwv⟩
 dsimp only[iQ]
 have gd:=gd_k (S:=sK ns) (L:=lK ns) (N:=nK ns t) hk
 refine⟨g,nl,tl,rl,dx,rwv,_,_,_,_,rfl,prA,gd,fun lh2 ys H6 S6 _ el ly hoa=>?_⟩
 have pa:=qN (S:=sK ns) (L:=lK ns) (N:=nK ns t) hk
 refine⟨g,lh2,nl,tl,rl,dx,tu,m,rwv,ys,s',_,_,_,prH k (sK ns) (lK ns) (nK ns t),rfl,prA.same S6,el,fun i ρ hi=>?_,fun ρ hρ=>(pa ρ hρ).1,fun ρ hρ=>(pa ρ hρ).2,rP,by lia,?_,?_,fun r H7 S7 _ ra=>?_⟩
 ·have hil:=(aq.mp hi).1
  obtain⟨y,hy⟩:∃y,ys[i]?=some y:=⟨_,bq (by lia)⟩
  exact⟨y,hy,by rw[DE hi];exact hoa i y ρ hy hi⟩
 ·rcases cs with⟨_,e,_⟩|⟨_,_,⟨_,_,e⟩|⟨_,e,_⟩⟩
  ·exact⟨_,e⟩
  ·exact⟨_,e⟩
  ·exact⟨_,e⟩
 ·intro z
  rcases cs with⟨_,e,_⟩|⟨_,_,⟨_,_,e⟩|⟨_,_,_,_,e⟩⟩
  ·rw[e]at z;exact absurd (cz.inj z) (by decide+kernel)
  ·rw[e]at z;exact absurd (cz.inj z) (by decide+kernel)
  ·rw[e];exact fun z=>nomatch z
 obtain⟨dx',v,me,ha,er,⟨xs1,em1,i1⟩,⟨xs2,eh2,i2⟩,hv1,hv2⟩:=ra.o
 obtain⟨_,_,_,_,f5⟩:=vn (en:=enV s'.en) (v:=v) (me:=me) (ha:=ha) (bg:=s'.bg)
 dsimp only[iQ]
 refine⟨_,⟨_,_,er,f5⟩,_,rfl,_,rfl,gR ⟨_,⟨_,_,er,f5⟩,_,_,rfl,?_⟩⟩
 have emin:(s'.bg:Int)=if(tu:Int)<(bnK k t:Int)then(tu:Int)else(bnK k t:Int):=by
  rcases cs with⟨c,_,e⟩|⟨c,e,_⟩
  ·rw[if_pos (by lia),e]
  ·rw[if_neg (by lia),e]
 dsimp only[cEq,onB]
 rw[decide_eq_true emin]
 refine gR ?_
 dsimp only[sx]
 show(if decide ((tu:Int)<(bnK k t:Int))=true then _ else _)
 rcases cs with⟨c,e,_⟩|⟨c,_,cs⟩
 ·rw[e,hv1 (by rw[e];exact fun z=>absurd (cz.inj z) (by decide+kernel))]at er
  rw[decide_eq_true (by lia)]
  exact iM (A1 rfl er (q _))
 rw[decide_eq_false (by lia)]
 refine gR ?_
 dsimp only[sx]
 have ejn:(if false=true then !inV (.int (k:Int)) [.int 1,.int 5,.int 7,.int 9]else inV (.int (k:Int)) [.int 1,.int 5,.int 7,.int 9])=isJ k:=by rcases ten hk with rfl|rfl|rfl|rfl|rfl|rfl|rfl|rfl|rfl|rfl<;>kernel_rfl
 rcases cs with⟨j,t6,e⟩|⟨j,e,lh3,lm,ede⟩
 ·refine⟨(by show 4<=sizeLine;decide),fun p8 h8=>⟨p8,_,rfl,.inl (SqL.of eV),rfl,rfl,?_⟩⟩
  rw[ejn,j]
  have S8:=eX h8 (.lst [.int 1,.int 5,.int 7,.int 9])
  generalize upd H7 p8 _=H8 at S8⊢
  have er8:=S8 _ _ er
  rw[e,hv1 (by rw[e];exact fun z=>absurd (cz.inj z) (by decide+kernel))]at er8
  dsimp only[onB]
  refine iM ?_
  show(if decide ((60:Int)<(t:Int))=true then _ else _)
  rw[decide_eq_true (by lia)]
  exact iM (A1 rfl er8 (q _))
 refine nX (fun σ' H'=>σ'=[some (.ref ad),some (.int k),some (.int (eaK k:Int)),some (.int (t:Int)),some (.int (nK ns t)),some (.int (bnK k t:Int)),some (.int (tu:Int)),some (.ref g),some (.ref r)]/\fK H7 H') ?_ ?_
 rotate_left
 ·intro D' hD
  refine⟨(by show 4<=sizeLine;decide),fun p8 h8=>⟨p8,_,rfl,.inl (SqL.of eV),rfl,rfl,?_⟩⟩
  rw[ejn]
  have S8:=eX h8 (.lst [.int 1,.int 5,.int 7,.int 9])
  generalize upd H7 p8 _=H8 at S8⊢
  dsimp only[onB]
  cases ej:isJ k with
  |true=>
   refine iM ?_
   show(if decide ((60:Int)<(t:Int))=true then _ else _)
   rw[decide_eq_false (by have y:¬60<t:=fun y=>j ⟨ej,y⟩;lia)]
   exact gR (hD _ _ ⟨rfl,S8⟩)
  |false=>exact gR (gR (hD _ _ ⟨rfl,S8⟩))
 rintro _ H8 ⟨rfl,S8⟩
 have er8:=S8 _ _ er
 rw[e]at er8
 obtain⟨f1,f2,f3,f4,_⟩:=vn (en:= .str "done") (v:=v) (me:=me) (ha:=ha) (bg:=s'.bg)
 have iv:=(hv2 (vaK k t (sK ns) (nK ns t)) e (by rw[ede];rfl)).mono (fK.tk S8)
 have l1:=i1.length
 have l2:=i2.length
 rw[aC,bA]at l1 l2
 refine⟨_,⟨_,_,er8,f1⟩,?_⟩
 refine Fi rfl ?_
 refine gR ⟨_,⟨_,_,er8,f4⟩,_,_,rfl,.inl (SqL.of (S8 _ _ eh2)),?_⟩
 refine tS rfl (decide_eq_true (by lia)) ?_
 refine gR ?_
 dsimp only[sx]
 refine⟨_,⟨_,_,er8,f3⟩,_,_,rfl,.inl (SqL.of (S8 _ _ em1)),(by show 10<=sizeLine;decide),fun p9 h9=>⟨_,eV,fg (eY ea2) ⟨Ag (by lia),?_⟩⟩⟩
 have S9:=eX h9 (.lst (([8,8,6,6,8,8,8,8,9,9]:List Int).map V.int))
 generalize upd H8 p9 _=H9 at S9⊢
 have el:(xs1.length:Int)=4+(t:Int)*(mtK k:Int):=by rw[l1,lm,Int.natCast_add,eG];rfl
 dsimp only[cI0,cEq,onB]
 rw[decide_eq_true el]
 have S09:fK H H9:=((((S3.trans S4).trans S5).trans S6).trans S7).trans (S8.trans S9)
 exact gR ⟨_,⟨_,_,S9 _ _ er8,f2⟩,ad,ns,v,k,t,nK ns t,rfl,S09.seq hsq,hk,fun z=>cw.mp fun y=>j ⟨z,y⟩,by lia,iv.mono (fK.tk S9),fun H' _=>q _⟩
open GR.Internal (stP stT)
theorem i7 {l:List (Str×Tok×Addr)}:(l.map (·.1)).Nodup->∀x∈l,je (l.map fun p=>((Sum.inr p.1:Key),V.ref p.2.2)) (Sum.inr x.1)=some (.ref x.2.2):=by
 induction l with
 |nil=>exact fun _ x hx=>nomatch hx
 |cons y r ih=>
  intro hn x hx
  rw[aB,aE]at hn
  unfold je
  rw[aB,aO]
  rcases aj.mp hx with e|hm
  ·subst e
   rw[decide_eq_true rfl]
   rfl
  ·have ne:¬(Sum.inr y.1:Key)=Sum.inr x.1:=fun z=>hn.1 (by rw[Sum.inr.inj z];exact List.mem_map_of_mem hm)
   rw[decide_eq_false ne]
   exact ih hn.2 x hm
theorem DU {l:List (Str×Tok×Addr)} {h:Str} (hn:h∉l.map (·.1)):je (l.map fun p=>((Sum.inr p.1:Key),V.ref p.2.2)) (Sum.inr h)=none:=by
 unfold je
 rw[Option.map_eq_none_iff,List.find?_eq_none]
 intro kv hkv z
 obtain⟨p,hp,rfl⟩:=aZ.mp hkv
 have e:(Sum.inr p.1:Key)=Sum.inr h:=of_decide_eq_true z
 exact hn (by rw[<-Sum.inr.inj e];exact List.mem_map_of_mem hp)
def sO {P:Program} {w:World} {K:PySem.W.Frag} {mg:Str->Option Value} {a:Addr} {n:Nat} {t1 t2 t3 t4 t5 t6 t7 t8 t9 t10 t11:Tok} {q1 q2 q3 q4 q5 q6 q7 q8 q9 q10 q11:Addr} (m:mg "STEADY_FORMS"=some (.ref a)) (ha:(a==sysModules)=false) (hl:K.lookup a=some ⟨.type "dict",none,.dict #[⟨PyData.keyHash w.params "fn",.str "fn" t1,.ref q1⟩,⟨PyData.keyHash w.params "call",.str "call" t2,.ref q2⟩,⟨PyData.keyHash w.params "let",.str "let" t3,.ref q3⟩,⟨PyData.keyHash w.params "get",.str "get" t4,.ref q4⟩,⟨PyData.keyHash w.params "tag",.str "tag" t5,.ref q5⟩,⟨PyData.keyHash w.params "at",.str "at" t6,.ref q6⟩,⟨PyData.keyHash w.params "join",.str "join" t7,.ref q7⟩,⟨PyData.keyHash w.params "size",.str "size" t8,.ref q8⟩,⟨PyData.keyHash w.params "add",.str "add" t9,.ref q9⟩,⟨PyData.keyHash w.params "sub",.str "sub" t10,.ref q10⟩,⟨PyData.keyHash w.params "less",.str "less" t11,.ref q11⟩] n,#[]⟩)
  (h1:∀H:Hp,SqT K H q1 [V.str "name",V.str "expr"]) (h2:∀H:Hp,SqT K H q2 [V.str "expr",V.str "expr"]) (h3:∀H:Hp,SqT K H q3 [V.str "name",V.str "expr",V.str "expr"]) (h4:∀H:Hp,SqT K H q4 [V.str "expr",V.str "name"]) (h5:∀H:Hp,SqT K H q5 [V.str "name",V.str "expr"]) (h6:∀H:Hp,SqT K H q6 [V.str "expr",V.str "expr",V.str "expr"]) (h7:∀H:Hp,SqT K H q7 [V.str "expr",V.str "expr"]) (h8:∀H:Hp,SqT K H q8 [V.str "expr"]) (h9:∀H:Hp,SqT K H q9 [V.str "expr",V.str "expr"]) (h10:∀H:Hp,SqT K H q10 [V.str "expr",V.str "expr"]) (h11:∀H:Hp,SqT K H q11 [V.str "expr",V.str "expr"]):Dk P w K mg where
 a:=a
 m:=m
 kvs:=([("fn",t1,q1),("call",t2,q2),("let",t3,q3),("get",t4,q4),("tag",t5,q5),("at",t6,q6),("join",t7,q7),("size",t8,q8),("add",t9,q9),("sub",t10,q10),("less",t11,q11)]:List (Str×Tok×Addr)).map fun p=>((Sum.inr p.1:Key),V.ref p.2.2)
 kd:=vD ha hl rfl (by show(["fn","call","let","get","tag","at","join","size","add","sub","less"]:List Str).Nodup;decide+kernel)
 no:=fun h e=>DU (l:=[("fn",t1,q1),("call",t2,q2),("let",t3,q3),("get",t4,q4),("tag",t5,q5),("at",t6,q6),("join",t7,q7),("size",t8,q8),("add",t9,q9),("sub",t10,q10),("less",t11,q11)]) (by
  show h∉(["fn","call","let","get","tag","at","join","size","add","sub","less"]:List Str)
  intro z
  have e1:∀k∈(["fn","call","let","get","tag","at","join","size","add","sub","less"]:List Str),stP k≠none:=by decide+kernel
  exact e1 h z e)
 yes:=fun h ps e=>by
  have hn:(([("fn",t1,q1),("call",t2,q2),("let",t3,q3),("get",t4,q4),("tag",t5,q5),("at",t6,q6),("join",t7,q7),("size",t8,q8),("add",t9,q9),("sub",t10,q10),("less",t11,q11)]:List (Str×Tok×Addr)).map (·.1)).Nodup:=by show(["fn","call","let","get","tag","at","join","size","add","sub","less"]:List Str).Nodup;decide+kernel
  unfold stP at e
  obtain⟨p,hp,rfl⟩:=cD.mp e
  have hm:=bQ hp
  have hh:p.1=h:=of_decide_eq_true (List.find?_some (p:=fun p:Str×List Bool=>decide (p.1=h)) hp)
  subst hh
  clear hp e
  unfold stT at hm
  simp only[aj,bt,or_false]at hm
  rcases hm with rfl|rfl|rfl|rfl|rfl|rfl|rfl|rfl|rfl|rfl|rfl
  ·exact⟨q1,i7 hn ("fn",t1,q1) (ah ..),h1⟩
  ·exact⟨q2,i7 hn ("call",t2,q2) (ai _ (ah ..)),h2⟩
  ·exact⟨q3,i7 hn ("let",t3,q3) (ai _ (ai _ (ah ..))),h3⟩
  ·exact⟨q4,i7 hn ("get",t4,q4) (ai _ (ai _ (ai _ (ah ..)))),h4⟩
  ·exact⟨q5,i7 hn ("tag",t5,q5) (ai _ (ai _ (ai _ (ai _ (ah ..))))),h5⟩
  ·exact⟨q6,i7 hn ("at",t6,q6) (ai _ (ai _ (ai _ (ai _ (ai _ (ah ..)))))),h6⟩
  ·exact⟨q7,i7 hn ("join",t7,q7) (ai _ (ai _ (ai _ (ai _ (ai _ (ai _ (ah ..))))))),h7⟩
  ·exact⟨q8,i7 hn ("size",t8,q8) (ai _ (ai _ (ai _ (ai _ (ai _ (ai _ (ai _ (ah ..)))))))),h8⟩
  ·exact⟨q9,i7 hn ("add",t9,q9) (ai _ (ai _ (ai _ (ai _ (ai _ (ai _ (ai _ (ai _ (ah ..))))))))),h9⟩
  ·exact⟨q10,i7 hn ("sub",t10,q10) (ai _ (ai _ (ai _ (ai _ (ai _ (ai _ (ai _ (ai _ (ai _ (ah ..)))))))))),h10⟩
  ·exact⟨q11,i7 hn ("less",t11,q11) (ai _ (ai _ (ai _ (ai _ (ai _ (ai _ (ai _ (ai _ (ai _ (ai _ (ah ..))))))))))),h11⟩
def Fq {P:Program} {w:World} {K:PySem.W.Frag} {mg:Str->Option Value} (T:Txt K mg) {a:Addr} {n:Nat} {t_num t_name t_fn t_call t_let t_rec t_get t_tag t_case t_row t_at t_join t_size t_add t_sub t_less:Tok} {q_rec q_get q_at q_size:Addr} (m:mg "WORKERS"=some (.ref a)) (ha:(a==sysModules)=false) (hl:K.lookup a=some ⟨.type "dict",none,.dict #[⟨PyData.keyHash w.params "num",.str "num" t_num,.ref T.a_work_num⟩,⟨PyData.keyHash w.params "name",.str "name" t_name,.ref T.a_work_name⟩,⟨PyData.keyHash w.params "fn",.str "fn" t_fn,.ref T.a_work_fn⟩,⟨PyData.keyHash w.params "call",.str "call" t_call,.ref T.a_work_call⟩,⟨PyData.keyHash w.params "let",.str "let" t_let,.ref T.a_work_let⟩,⟨PyData.keyHash w.params "rec",.str "rec" t_rec,.ref q_rec⟩,⟨PyData.keyHash w.params "get",.str "get" t_get,.ref q_get⟩,⟨PyData.keyHash w.params "tag",.str "tag" t_tag,.ref T.a_work_tag⟩,⟨PyData.keyHash w.params "case",.str "case" t_case,.ref T.a_work_case⟩,⟨PyData.keyHash w.params "row",.str "row" t_row,.ref T.a_work_row⟩,⟨PyData.keyHash w.params "at",.str "at" t_at,.ref q_at⟩,⟨PyData.keyHash w.params "join",.str "join" t_join,.ref T.a_work_join⟩,⟨PyData.keyHash w.params "size",.str "size" t_size,.ref q_size⟩,⟨PyData.keyHash w.params "add",.str "add" t_add,.ref T.a_work_add⟩,⟨PyData.keyHash w.params "sub",.str "sub" t_sub,.ref T.a_work_sub⟩,⟨PyData.keyHash w.params "less",.str "less" t_less,.ref T.a_work_less⟩] n,#[]⟩):Wk P w T where
 a:=a
 m:=m
 kvs:=([("num",t_num,T.a_work_num),("name",t_name,T.a_work_name),("fn",t_fn,T.a_work_fn),("call",t_call,T.a_work_call),("let",t_let,T.a_work_let),("rec",t_rec,q_rec),("get",t_get,q_get),("tag",t_tag,T.a_work_tag),("case",t_case,T.a_work_case),("row",t_row,T.a_work_row),("at",t_at,q_at),("join",t_join,T.a_work_join),("size",t_size,q_size),("add",t_add,T.a_work_add),("sub",t_sub,T.a_work_sub),("less",t_less,T.a_work_less)]:List (Str×Tok×Addr)).map fun p=>((Sum.inr p.1:Key),V.ref p.2.2)
 kd:=vD ha hl rfl (by show(["num","name","fn","call","let","rec","get","tag","case","row","at","join","size","add","sub","less"]:List Str).Nodup;decide+kernel)
 yes:=fun ρ hu=>by
  have hn:(([("num",t_num,T.a_work_num),("name",t_name,T.a_work_name),("fn",t_fn,T.a_work_fn),("call",t_call,T.a_work_call),("let",t_let,T.a_work_let),("rec",t_rec,q_rec),("get",t_get,q_get),("tag",t_tag,T.a_work_tag),("case",t_case,T.a_work_case),("row",t_row,T.a_work_row),("at",t_at,q_at),("join",t_join,T.a_work_join),("size",t_size,q_size),("add",t_add,T.a_work_add),("sub",t_sub,T.a_work_sub),("less",t_less,T.a_work_less)]:List (Str×Tok×Addr)).map (·.1)).Nodup:=by show(["num","name","fn","call","let","rec","get","tag","case","row","at","join","size","add","sub","less"]:List Str).Nodup;decide+kernel
  cases ρ with
  |num _=>exact⟨_,_,i7 hn ("num",t_num,T.a_work_num) (aM (i:=0) rfl),.num,_,rfl⟩
  |name _=>exact⟨_,_,i7 hn ("name",t_name,T.a_work_name) (aM (i:=1) rfl),.name,_,rfl⟩
  |fn _ _=>exact⟨_,_,i7 hn ("fn",t_fn,T.a_work_fn) (aM (i:=2) rfl),.fn,_,_,rfl⟩
  |tag _ _=>exact⟨_,_,i7 hn ("tag",t_tag,T.a_work_tag) (aM (i:=7) rfl),.tag,_,_,rfl⟩
  |lt _ _ _=>exact⟨_,_,i7 hn ("let",t_let,T.a_work_let) (aM (i:=4) rfl),.lt,_,_,_,rfl⟩
  |get _ _=>exact hu.elim
  |rcd _=>exact hu.elim
  |case _ _=>exact⟨_,_,i7 hn ("case",t_case,T.a_work_case) (aM (i:=8) rfl),.case,_,_,rfl⟩
  |row _=>exact⟨_,_,i7 hn ("row",t_row,T.a_work_row) (aM (i:=9) rfl),.row,_,rfl⟩
  |op o ks=>
   rcases hu with rfl|rfl|rfl|rfl|rfl
   ·exact⟨_,_,i7 hn ("call",t_call,T.a_work_call) (aM (i:=3) rfl),.call,_,rfl⟩
   ·exact⟨_,_,i7 hn ("join",t_join,T.a_work_join) (aM (i:=11) rfl),.join,_,rfl⟩
   ·exact⟨_,_,i7 hn ("add",t_add,T.a_work_add) (aM (i:=13) rfl),.add,_,rfl⟩
   ·exact⟨_,_,i7 hn ("sub",t_sub,T.a_work_sub) (aM (i:=14) rfl),.sub,_,rfl⟩
   ·exact⟨_,_,i7 hn ("less",t_less,T.a_work_less) (aM (i:=15) rfl),.less,_,rfl⟩
end K63.Internal
namespace PySem.W.Fast
def tw16994840651826196559:=0
def tw3721308965074996971:=0
def tw17019036019315101597:=0
def tw10934489809262084242:=0
def tw5987700438216619515:=0
def tw8589930190336282726:=0
def tw2818204444737360953:=0
def tw17030648334967652476:=0
def tw9284202007614596258:=0
def tw1560591877581672911:=0
def tw11024681948561621406:=0
def tw4679657216149405723:=0
def tw7152468283332502527:=0
def tw162107090879523144:=0
def tw13084834263948455586:=0
def tw3651129177164034763:=0
def tw8035961219551157803:=0
def tw12210119017571529334:=0
def tw2809258011854143829:=0
def tw10641269116000534102:=0
def tw4533039486790320192:=0
def tw8140299212561879356:=0
def tw2170168298696805427:=0
def tw16595028062818341869:=0
def tw14811131182123479568:=0
def tw13322597816187549973:=0
def tw7112103716897156381:=0
def tw10842925109570198767:=0
def tw5449882374070290911:=0
def tw9569486263572656984:=0
def tw476646392811624087:=0
def tw14289692003766940789:=0
def tw10889617072447802095:=0
def tw8628784746627019993:=0
def tw9524358938205889905:=0
def tw17124673785787536434:=0
def tw18189539739738993707:=0
def tw16483305426598176879:=0
def tw7202700890002942556:=0
def tw18118060586675279294:=0
def tw3868511309382219388:=0
def tw5243671616996146189:=0
def tw9173234241554153865:=0
def tw13582197955520202099:=0
def tw5365339657343320830:=0
def tw12340763432371027030:=0
def tw3116544890342465329:=0
def tw4100915128361660243:=0
def tw17551155438230251647:=0
def tw6845137194839766808:=0
def tw738167993888341033:=0
def tw11900612396119650602:=0
def tw7152218170705311291:=0
def tw8892184159778809792:=0
def tw853703027230132936:=0
def tw2413864049597748093:=0
def tw13471845541376977313:=0
def tw10885426983543173885:=0
def tw10398426584168969074:=0
def tw1189343058044162686:=0
def tw6227899811578286013:=0
def tw10069820126435063534:=0
def tw9092405903962278156:=0
def tw7693639143490854414:=0
def tw4340654251834215000:=0
def tw2476347722921094481:=0
def tw12081793580039078532:=0
def tw13037223149419234455:=0
def tw8798339761474426439:=0
def tw11422182129579055927:=0
def tw8651988568893821173:=0
def tw13091874604572121038:=0
def tw8378721714176710836:=0
def tw6762078353165432615:=0
def tw12272181659410482523:=0
def tw2367093803812403226:=0
def tw6373421845716124829:=0
def tw15675341214211154330:=0
def tw1370125687265733955:=0
def tw13265697309485700918:=0
def tw15649691257033937978:=0
def tw5510958939305090865:=0
def tw9143563238414788201:=0
def tw606984184097791834:=0
def tw15876120000531736965:=0
def tw10964000269865203768:=0
def tw14533733132716919042:=0
def tw15756890686756054870:=0
def tw2177017150326128698:=0
def tw8967639235030732500:=0
def tw17380443914234818047:=0
def tw16598027959228417685:=0
def tw13072257195148126636:=0
def tw11483842839019346523:=0
def tw17331076402109622907:=0
def tw9725159565495119085:=0
def tw5173872014837103404:=0
def tw12410250875379724108:=0
def tw15419456479318348973:=0
def tw16674039459896658520:=0
def tw6034792851706758507:=0
def tw13530899733440986386:=0
def tw7005056007638729188:=0
def tw104587425581155235:=0
def tw12420077785838721083:=0
def tw1703913195218726564:=0
def tw9286435393601935548:=0
def tw14269344333051616775:=0
def tw12884482415882536219:=0
def tw11808941439659280940:=0
def tw11182785555682174345:=0
def tw13261857252775537514:=0
def tw12492771622928884997:=0
def tw10164922916993446850:=0
def tw13149146656235245560:=0
def tw8749524618394630219:=0
def tw6931132415481749079:=0
def tw12897614512342396775:=0
def tw11179292898883342216:=0
def tw14225253706623359432:=0
def tw4787217111505524896:=0
def tw10290062475743477724:=0
def tw7265620427642504682:=0
def tw16767206166184521149:=0
def tw7441174331233856328:=0
def tw9047185208759211173:=0
def tw15804131905740113621:=0
def tw4888217114155810180:=0
def tw15800330612911505692:=0
def tw1169916458664807971:=0
def tw592783236746266612:=0
def tw13189109185569959627:=0
def tw10138062530742659339:=0
def tw14526152062538977360:=0
def tw1229705599861719208:=0
def tw11901405365655022827:=0
def tw1720195165119474677:=0
def tw3303504595781808112:=0
def tw1246493187157632200:=0
def tw13452663486137812834:=0
def tw17953184641428883811:=0
def tw9806874267979929401:=0
def tw17020875665511721006:=0
def tw2620290281591599616:=0
def tw6989227697512194385:=0
def tw10725598303029090619:=0
def tw7111082953553230918:=0
def tw3864855728865494276:=0
def tw1592393186092398502:=0
def tw6801341842259027873:=0
def tw4434955765992932537:=0
def tw11544579582655560927:=0
def tw10842966555649834587:=0
def tw3980517261566888647:=0
def tw13428293509010247048:=0
def tw8659741818374622070:=0
def tw5670257590819458882:=0
def tw9397467685657094326:=0
def tw17537942890854267035:=0
def tw10544035842181837163:=0
def tw15480362485333629043:=0
def tw6522285530835390747:=0
def tw5946714265920354700:=0
def tw2339678912676601877:=0
def tw9479782871654515718:=0
def tw4983576605879161195:=0
def tw5784218099671047874:=0
def tw4420204398318264959:=0
def tw3722308037587062475:=0
def tw5522551886345821064:=0
def tw3294825502079512797:=0
def tw1748052961740110311:=0
def tw6610271786378367661:=0
def tw12145225370686708921:=0
def tw738994191338412501:=0
def tw4844943632069228645:=0
def tw16050555902038818489:=0
def tw3774000962363796806:=0
def tw6215332547680293306:=0
def tw17824210721153513737:=0
def tw2465768397865495990:=0
def tw12569411424365180780:=0
def tw1608201040765335843:=0
def tw3838809158371413152:=0
def tw550437581927720412:=0
def tw17298232931539905646:=0
def tw18279956469234684297:=0
def tw8435383368940378100:=0
def tw8807796856727978074:=0
def tw11519980730792806400:=0
def tw11146706054943579734:=0
def tw9652988507624561019:=0
def tw8551600864377135358:=0
def tw504592012871328027:=0
def tw2508850018534392963:=0
def tw13034147090318033544:=0
def tw10805642051240579921:=0
def tw6129851979470593262:=0
def tw4673111436794774039:=0
def tw3111348865146493749:=0
def tw13676671916844646430:=0
def tw5569306370503438094:=0
def tw11518147768591709296:=0
def tw1867614672392112919:=0
def tw17089817819310437394:=0
def tw7486694675985014344:=0
def tw17710448491660578487:=0
def tw1922664369885645792:=0
def tw11728585355972140746:=0
def tw15413875541712899250:=0
def tw5322470043991096326:=0
def tw11752988822033632559:=0
def tw11078563347540303256:=0
def tw11240477096629589943:=0
def tw13350425270592251375:=0
def tw3722857756866437236:=0
def tw17740063232317259454:=0
def tw3607500515865932390:=0
def tw14272807727441712685:=0
def tw17383308190700066485:=0
def tw5002104444942302050:=0
end PySem.W.Fast
namespace K63.Internal
open PySem L2.Internal
theorem all_mk {l:PySem.W.OpenLaw} {w:World} {K:PySem.W.Frag} {h:Heap} {mg:Str->Option Value} {fa fL:Addr} (X:K.In h) (G:h.Ns mainGlobals mg) (hfa:mg "law"=some (.ref fa))
  {u1 u2 u3 w4_0 w4_1 w4_2 w4_3 w4_4 w4_5 w4_6 w4_7 w4_8 w4_9 w4_10 w4_11 w4_12 w4_13 w4_14 u5 u6 u7 u8 u9 u10 u11 u12 tD1 tD2 tD3 tD4 tD5 tD6 tD7 tD8 tD9 tD10 tD11 uD1_0 uD1_1 uD2_0 uD2_1 uD3_0 uD3_1 uD3_2 uD4_0 uD4_1 uD5_0 uD5_1 uD6_0 uD6_1 uD6_2 uD7_0 uD7_1 uD8_0 uD9_0 uD9_1 uD10_0 uD10_1 uD11_0 uD11_1 tW0 tW1 tW2 tW3 tW4 tW5 tW6 tW7 tW8 tW9 tW10 tW11 tW12 tW13 tW14 tW15:Tok} {p4 f13 f14 f15 f16 f17 f18 f19 f20 f21 f22 f23 f24 f25 f26 f27 f28 f29 f30 f31 f32 f33 f34 f35 f36 f37 f38 f39 f40 f41 f42 f43 f44 f45 f46 f47 f48 f49 f50 f51 f52 f53 C54 C55 C56 C57 C58 f59 f60 f61 f62 f63 f64 f65 f66 f67 f68 f69 C70 f71 C72 f73 C74 f75 f76 f77 f78 f79 f80 f81 f82 f83 f84 f85 f86 pD qD1 qD2 qD3 qD4 qD5 qD6 qD7 qD8 qD9 qD10 qD11 pW:Addr} {od4 od13 an13 od14 an14 od15 an15 od16 an16 od17 an17 od18 an18 od19 an19 od20 an20 od21 an21 od22 an22 od23 an23 od24 an24 od25 an25 od26 an26 od27 an27 od28 an28 od29 an29 od30 an30 od31 an31 od32 an32 od33 an33 od34 an34 od35 an35 od36 an36 od37 an37 od38 an38 od39 an39 od40 an40 od41 an41 od42 an42 od43 an43 od44 an44 od45 an45 od46 an46 od47 an47 od48 an48 od49 an49 od50 an50 od51 an51 od52 an52 od53 an53 od59 an59 od60 an60 od61 an61 od62 an62 od63 an63 od64 an64 od65 an65 od66 an66 od67 an67 od68 an68 od69 an69 od71 an71 od73 an73 od75 an75 od76 an76 od77 an77 od78 an78 od79 an79 od80 an80 od81 an81 od82 an82 od83 an83 od84 an84 od85 an85 od86 an86 odD1 odD2 odD3 odD4 odD5 odD6 odD7 odD8 odD9 odD10 odD11 odL anL:Option Addr} {n4 nD nD1 nD2 nD3 nD4 nD5 nD6 nD7 nD8 nD9 nD10 nD11 nW:Nat} {sl4 sl13 sl14 sl15 sl16 sl17 sl18 sl19 sl20 sl21 sl22 sl23 sl24 sl25 sl26 sl27 sl28 sl29 sl30 sl31 sl32 sl33 sl34 sl35 sl36 sl37 sl38 sl39 sl40 sl41 sl42 sl43 sl44 sl45 sl46 sl47 sl48 sl49 sl50 sl51 sl52 sl53 sl59 sl60 sl61 sl62 sl63 sl64 sl65 sl66 sl67 sl68 sl69 sl71 sl73 sl75 sl76 sl77 sl78 sl79 sl80 sl81 sl82 sl83 sl84 sl85 sl86 slD1 slD2 slD3 slD4 slD5 slD6 slD7 slD8 slD9 slD10 slD11 slL:Array (Option Value)} {oc13 kV13 dc13 pm13 cd13 ct13 oc14 kV14 dc14 pm14 cd14 ct14 oc15 kV15 dc15 pm15 cd15 ct15 oc16 kV16 dc16 pm16 cd16 ct16 oc17 kV17 dc17 pm17 cd17 ct17 oc18 kV18 dc18 pm18 cd18 ct18 oc19 kV19 dc19 pm19 cd19 ct19 oc20 kV20 dc20 pm20 cd20 ct20 oc21 kV21 dc21 pm21 cd21 ct21 oc22 kV22 dc22 pm22 cd22 ct22 oc23 kV23 dc23 pm23 cd23 ct23 oc24 kV24 dc24 pm24 cd24 ct24 oc25 kV25 dc25 pm25 cd25 ct25 oc26 kV26 dc26 pm26 cd26 ct26 oc27 kV27 dc27 pm27 cd27 ct27 oc28 kV28 dc28 pm28 cd28 ct28 oc29 kV29 dc29 pm29 cd29 ct29 oc30 kV30 dc30 pm30 cd30 ct30 oc31 kV31 dc31 pm31 cd31 ct31 oc32 kV32 dc32 pm32 cd32 ct32 oc33 kV33 dc33 pm33 cd33 ct33 oc34 kV34 dc34 pm34 cd34 ct34 oc35 kV35 dc35 pm35 cd35 ct35 oc36 kV36 dc36 pm36 cd36 ct36 oc37 kV37 dc37 pm37 cd37 ct37 oc38 kV38 dc38 pm38 cd38 ct38 oc39 kV39 dc39 pm39 cd39 ct39 oc40 kV40 dc40 pm40 cd40 ct40 oc41 kV41 dc41 pm41 cd41 ct41 oc42 kV42 dc42 pm42 cd42 ct42 oc43 kV43 dc43 pm43 cd43 ct43 oc44 kV44 dc44 pm44 cd44 ct44 oc45 kV45 dc45 pm45 cd45 ct45 oc46 kV46 dc46 pm46 cd46 ct46 oc47 kV47 dc47 pm47 cd47 ct47 oc48 kV48 dc48 pm48 cd48 ct48 oc49 kV49 dc49 pm49 cd49 ct49 oc50 kV50 dc50 pm50 cd50 ct50 oc51 kV51 dc51 pm51 cd51 ct51 oc52 kV52 dc52 pm52 cd52 ct52 oc53 kV53 dc53 pm53 cd53 ct53 oc59 kV59 dc59 pm59 cd59 ct59 oc60 kV60 dc60 pm60 cd60 ct60 oc61 kV61 dc61 pm61 cd61 ct61 oc62 kV62 dc62 pm62 cd62 ct62 oc63 kV63 dc63 pm63 cd63 ct63 oc64 kV64 dc64 pm64 cd64 ct64 oc65 kV65 dc65 pm65 cd65 ct65 oc66 kV66 dc66 pm66 cd66 ct66 oc67 kV67 dc67 pm67 cd67 ct67 oc68 kV68 dc68 pm68 cd68 ct68 oc69 kV69 dc69 pm69 cd69 ct69 oc71 kV71 dc71 pm71 cd71 ct71 oc73 kV73 dc73 pm73 cd73 ct73 oc75 kV75 dc75 pm75 cd75 ct75 oc76 kV76 dc76 pm76 cd76 ct76 oc77 kV77 dc77 pm77 cd77 ct77 oc78 kV78 dc78 pm78 cd78 ct78 oc79 kV79 dc79 pm79 cd79 ct79 oc80 kV80 dc80 pm80 cd80 ct80 oc81 kV81 dc81 pm81 cd81 ct81 oc82 kV82 dc82 pm82 cd82 ct82 oc83 kV83 dc83 pm83 cd83 ct83 oc84 kV84 dc84 pm84 cd84 ct84 oc85 kV85 dc85 pm85 cd85 ct85 oc86 kV86 dc86 pm86 cd86 ct86 ocL kVL dcL pmL cdL ctL:Value}
  (g1:dw K mainGlobals "MOST_JOINED"=some (some (.int 60 u1)))
  (g2:dw K mainGlobals "LETTERS"=some (some (.str "abcdefghijklmnopqrstuvwxyz" u2)))
  (g3:dw K mainGlobals "FIGURES"=some (some (.str "0123456789" u3)))
  (g4:dw K mainGlobals "KEPT_WORDS"=some (some (.ref p4)))
  (h4:K.lookup p4=some ⟨.type "tuple",od4,.seq #[.str "def" w4_0,.str "fn" w4_1,.str "call" w4_2,.str "let" w4_3,.str "rec" w4_4,.str "get" w4_5,.str "tag" w4_6,.str "case" w4_7,.str "row" w4_8,.str "at" w4_9,.str "join" w4_10,.str "size" w4_11,.str "add" w4_12,.str "sub" w4_13,.str "less" w4_14] n4,sl4⟩)
  (g5:dw K mainGlobals "MOST_FIGURES"=some (some (.int 60 u5)))
  (g6:dw K mainGlobals "MOST_SIGNS"=some (some (.int 12 u6)))
  (g7:dw K mainGlobals "MOST_DEFINITIONS"=some (some (.int 12 u7)))
  (g8:dw K mainGlobals "MOST_FIELDS"=some (some (.int 6 u8)))
  (g9:dw K mainGlobals "MOST_ARMS"=some (some (.int 6 u9)))
  (g10:dw K mainGlobals "MOST_THINGS"=some (some (.int 8 u10)))
  (g11:dw K mainGlobals "MOST_PLACES"=some (some (.int 160 u11)))
  (g12:dw K mainGlobals "MOST_NEST"=some (some (.int 24 u12)))
  (a13:dw K mainGlobals "parts_of"=some (some (.ref f13)))
  (l13:K.lookup f13=some ⟨oc13,od13,.func (dm "parts_of" "parts_of" (fj jH) (fh jH) (eT jH) .none kV13 dc13 pm13 an13 cd13 ct13),sl13⟩)
  (c13:dr K cd13 "parts_of"=true)
  (k13:cZ K (.ref f13)=true)
  (a14:dw K mainGlobals "places_in"=some (some (.ref f14)))
  (l14:K.lookup f14=some ⟨oc14,od14,.func (dm "places_in" "places_in" (fj jk) (fh jk) (eT jk) .none kV14 dc14 pm14 an14 cd14 ct14),sl14⟩)
  (c14:dr K cd14 "places_in"=true)
  (k14:cZ K (.ref f14)=true)
  (a15:dw K mainGlobals "flat"=some (some (.ref f15)))
  (l15:K.lookup f15=some ⟨oc15,od15,.func (dm "flat" "flat" (fj pL) (fh pL) (eT pL) .none kV15 dc15 pm15 an15 cd15 ct15),sl15⟩)
  (c15:dr K cd15 "flat"=true)
  (k15:cZ K (.ref f15)=true)
  (a16:dw K mainGlobals "first_parts"=some (some (.ref f16)))
  (l16:K.lookup f16=some ⟨oc16,od16,.func (dm "first_parts" "first_parts" (fj iF) (fh iF) (eT iF) .none kV16 dc16 pm16 an16 cd16 ct16),sl16⟩)
  (c16:dr K cd16 "first_parts"=true)
  (k16:cZ K (.ref f16)=true)
  (a17:dw K mainGlobals "held_value"=some (some (.ref f17)))
  (l17:K.lookup f17=some ⟨oc17,od17,.func (dm "held_value" "held_value" (fj iU) (fh iU) (eT iU) .none kV17 dc17 pm17 an17 cd17 ct17),sl17⟩)
  (c17:dr K cd17 "held_value"=true)
  (k17:cZ K (.ref f17)=true)
  (a18:dw K mainGlobals "work_num"=some (some (.ref f18)))
  (l18:K.lookup f18=some ⟨oc18,od18,.func (dm "work_num" "work_num" (fj jI) (fh jI) (eT jI) .none kV18 dc18 pm18 an18 cd18 ct18),sl18⟩)
  (c18:dr K cd18 "work_num"=true)
  (k18:cZ K (.ref f18)=true)
  (a19:dw K mainGlobals "work_name"=some (some (.ref f19)))
  (l19:K.lookup f19=some ⟨oc19,od19,.func (dm "work_name" "work_name" (fj jl) (fh jl) (eT jl) .none kV19 dc19 pm19 an19 cd19 ct19),sl19⟩)
  (c19:dr K cd19 "work_name"=true)
  (k19:cZ K (.ref f19)=true)
  (a20:dw K mainGlobals "work_fn"=some (some (.ref f20)))
  (l20:K.lookup f20=some ⟨oc20,od20,.func (dm "work_fn" "work_fn" (fj kz) (fh kz) (eT kz) .none kV20 dc20 pm20 an20 cd20 ct20),sl20⟩)
  (c20:dr K cd20 "work_fn"=true)
  (k20:cZ K (.ref f20)=true)
  (a21:dw K mainGlobals "work_call"=some (some (.ref f21)))
  (l21:K.lookup f21=some ⟨oc21,od21,.func (dm "work_call" "work_call" (fj jm) (fh jm) (eT jm) .none kV21 dc21 pm21 an21 cd21 ct21),sl21⟩)
  (c21:dr K cd21 "work_call"=true)
  (k21:cZ K (.ref f21)=true)
  (a22:dw K mainGlobals "work_let"=some (some (.ref f22)))
  (l22:K.lookup f22=some ⟨oc22,od22,.func (dm "work_let" "work_let" (fj jJ) (fh jJ) (eT jJ) .none kV22 dc22 pm22 an22 cd22 ct22),sl22⟩)
  (c22:dr K cd22 "work_let"=true)
  (k22:cZ K (.ref f22)=true)
  (a23:dw K mainGlobals "work_rec"=some (some (.ref f23)))
  (l23:K.lookup f23=some ⟨oc23,od23,.func (dm "work_rec" "work_rec" (fj kl) (fh kl) (eT kl) .none kV23 dc23 pm23 an23 cd23 ct23),sl23⟩)
  (c23:dr K cd23 "work_rec"=true)
  (k23:cZ K (.ref f23)=true)
  (a24:dw K mainGlobals "work_get"=some (some (.ref f24)))
  (l24:K.lookup f24=some ⟨oc24,od24,.func (dm "work_get" "work_get" (fj km) (fh km) (eT km) .none kV24 dc24 pm24 an24 cd24 ct24),sl24⟩)
  (c24:dr K cd24 "work_get"=true)
  (k24:cZ K (.ref f24)=true)
  (a25:dw K mainGlobals "work_tag"=some (some (.ref f25)))
  (l25:K.lookup f25=some ⟨oc25,od25,.func (dm "work_tag" "work_tag" (fj jK) (fh jK) (eT jK) .none kV25 dc25 pm25 an25 cd25 ct25),sl25⟩)
  (c25:dr K cd25 "work_tag"=true)
  (k25:cZ K (.ref f25)=true)
  (a26:dw K mainGlobals "work_case"=some (some (.ref f26)))
  (l26:K.lookup f26=some ⟨oc26,od26,.func (dm "work_case" "work_case" (fj jn) (fh jn) (eT jn) .none kV26 dc26 pm26 an26 cd26 ct26),sl26⟩)
  (c26:dr K cd26 "work_case"=true)
  (k26:cZ K (.ref f26)=true)
  (a27:dw K mainGlobals "work_row"=some (some (.ref f27)))
  (l27:K.lookup f27=some ⟨oc27,od27,.func (dm "work_row" "work_row" (fj jL) (fh jL) (eT jL) .none kV27 dc27 pm27 an27 cd27 ct27),sl27⟩)
  (c27:dr K cd27 "work_row"=true)
  (k27:cZ K (.ref f27)=true)
  (a28:dw K mainGlobals "work_at"=some (some (.ref f28)))
  (l28:K.lookup f28=some ⟨oc28,od28,.func (dm "work_at" "work_at" (fj kY) (fh kY) (eT kY) .none kV28 dc28 pm28 an28 cd28 ct28),sl28⟩)
  (c28:dr K cd28 "work_at"=true)
  (k28:cZ K (.ref f28)=true)
  (a29:dw K mainGlobals "work_join"=some (some (.ref f29)))
  (l29:K.lookup f29=some ⟨oc29,od29,.func (dm "work_join" "work_join" (fj jo) (fh jo) (eT jo) .none kV29 dc29 pm29 an29 cd29 ct29),sl29⟩)
  (c29:dr K cd29 "work_join"=true)
  (k29:cZ K (.ref f29)=true)
  (a30:dw K mainGlobals "work_size"=some (some (.ref f30)))
  (l30:K.lookup f30=some ⟨oc30,od30,.func (dm "work_size" "work_size" (fj jM) (fh jM) (eT jM) .none kV30 dc30 pm30 an30 cd30 ct30),sl30⟩)
  (c30:dr K cd30 "work_size"=true)
  (k30:cZ K (.ref f30)=true)
  (a31:dw K mainGlobals "work_add"=some (some (.ref f31)))
  (l31:K.lookup f31=some ⟨oc31,od31,.func (dm "work_add" "work_add" (fj jN) (fh jN) (eT jN) .none kV31 dc31 pm31 an31 cd31 ct31),sl31⟩)
  (c31:dr K cd31 "work_add"=true)
  (k31:cZ K (.ref f31)=true)
  (a32:dw K mainGlobals "work_sub"=some (some (.ref f32)))
  (l32:K.lookup f32=some ⟨oc32,od32,.func (dm "work_sub" "work_sub" (fj jO) (fh jO) (eT jO) .none kV32 dc32 pm32 an32 cd32 ct32),sl32⟩)
  (c32:dr K cd32 "work_sub"=true)
  (k32:cZ K (.ref f32)=true)
  (a33:dw K mainGlobals "work_less"=some (some (.ref f33)))
  (l33:K.lookup f33=some ⟨oc33,od33,.func (dm "work_less" "work_less" (fj jq) (fh jq) (eT jq) .none kV33 dc33 pm33 an33 cd33 ct33),sl33⟩)
  (c33:dr K cd33 "work_less"=true)
  (k33:cZ K (.ref f33)=true)
  (a34:dw K mainGlobals "run"=some (some (.ref f34)))
  (l34:K.lookup f34=some ⟨oc34,od34,.func (dm "run" "run" (fj uI) (fh uI) (eT uI) .none kV34 dc34 pm34 an34 cd34 ct34),sl34⟩)
  (c34:dr K cd34 "run"=true)
  (k34:cZ K (.ref f34)=true)
  (a35:dw K mainGlobals "words_of"=some (some (.ref f35)))
  (l35:K.lookup f35=some ⟨oc35,od35,.func (dm "words_of" "words_of" (fj jP) (fh jP) (eT jP) .none kV35 dc35 pm35 an35 cd35 ct35),sl35⟩)
  (c35:dr K cd35 "words_of"=true)
  (k35:cZ K (.ref f35)=true)
  (a36:dw K mainGlobals "is_name"=some (some (.ref f36)))
  (l36:K.lookup f36=some ⟨oc36,od36,.func (dm "is_name" "is_name" (fj kA) (fh kA) (eT kA) .none kV36 dc36 pm36 an36 cd36 ct36),sl36⟩)
  (c36:dr K cd36 "is_name"=true)
  (k36:cZ K (.ref f36)=true)
  (a37:dw K mainGlobals "is_number"=some (some (.ref f37)))
  (l37:K.lookup f37=some ⟨oc37,od37,.func (dm "is_number" "is_number" (fj jr) (fh jr) (eT jr) .none kV37 dc37 pm37 an37 cd37 ct37),sl37⟩)
  (c37:dr K cd37 "is_number"=true)
  (k37:cZ K (.ref f37)=true)
  (a38:dw K mainGlobals "made_of"=some (some (.ref f38)))
  (l38:K.lookup f38=some ⟨oc38,od38,.func (dm "made_of" "made_of" (fj kB) (fh kB) (eT kB) .none kV38 dc38 pm38 an38 cd38 ct38),sl38⟩)
  (c38:dr K cd38 "made_of"=true)
  (k38:cZ K (.ref f38)=true)
  (a39:dw K mainGlobals "read"=some (some (.ref f39)))
  (l39:K.lookup f39=some ⟨oc39,od39,.func (dm "read" "read" (fj pM) (fh pM) (eT pM) .none kV39 dc39 pm39 an39 cd39 ct39),sl39⟩)
  (c39:dr K cd39 "read"=true)
  (k39:cZ K (.ref f39)=true)
  (a40:dw K mainGlobals "check_count"=some (some (.ref f40)))
  (l40:K.lookup f40=some ⟨oc40,od40,.func (dm "check_count" "check_count" (fj iG) (fh iG) (eT iG) .none kV40 dc40 pm40 an40 cd40 ct40),sl40⟩)
  (c40:dr K cd40 "check_count"=true)
  (k40:cZ K (.ref f40)=true)
  (a41:dw K mainGlobals "homes_of"=some (some (.ref f41)))
  (l41:K.lookup f41=some ⟨oc41,od41,.func (dm "homes_of" "homes_of" (fj jQ) (fh jQ) (eT jQ) .none kV41 dc41 pm41 an41 cd41 ct41),sl41⟩)
  (c41:dr K cd41 "homes_of"=true)
  (k41:cZ K (.ref f41)=true)
  (a42:dw K mainGlobals "refuse_twice"=some (some (.ref f42)))
  (l42:K.lookup f42=some ⟨oc42,od42,.func (dm "refuse_twice" "refuse_twice" (fj ig) (fh ig) (eT ig) .none kV42 dc42 pm42 an42 cd42 ct42),sl42⟩)
  (c42:dr K cd42 "refuse_twice"=true)
  (k42:cZ K (.ref f42)=true)
  (a43:dw K mainGlobals "words_once"=some (some (.ref f43)))
  (l43:K.lookup f43=some ⟨oc43,od43,.func (dm "words_once" "words_once" (fj iV) (fh iV) (eT iV) .none kV43 dc43 pm43 an43 cd43 ct43),sl43⟩)
  (c43:dr K cd43 "words_once"=true)
  (k43:cZ K (.ref f43)=true)
  (a44:dw K mainGlobals "home_of"=some (some (.ref f44)))
  (l44:K.lookup f44=some ⟨oc44,od44,.func (dm "home_of" "home_of" (fj kC) (fh kC) (eT kC) .none kV44 dc44 pm44 an44 cd44 ct44),sl44⟩)
  (c44:dr K cd44 "home_of"=true)
  (k44:cZ K (.ref f44)=true)
  (a45:dw K mainGlobals "root_scopes"=some (some (.ref f45)))
  (l45:K.lookup f45=some ⟨oc45,od45,.func (dm "root_scopes" "root_scopes" (fj iH) (fh iH) (eT iH) .none kV45 dc45 pm45 an45 cd45 ct45),sl45⟩)
  (c45:dr K cd45 "root_scopes"=true)
  (k45:cZ K (.ref f45)=true)
  (a46:dw K mainGlobals "inner_scopes"=some (some (.ref f46)))
  (l46:K.lookup f46=some ⟨oc46,od46,.func (dm "inner_scopes" "inner_scopes" (fj ij) (fh ij) (eT ij) .none kV46 dc46 pm46 an46 cd46 ct46),sl46⟩)
  (c46:dr K cd46 "inner_scopes"=true)
  (k46:cZ K (.ref f46)=true)
  (a47:dw K mainGlobals "widened"=some (some (.ref f47)))
  (l47:K.lookup f47=some ⟨oc47,od47,.func (dm "widened" "widened" (fj kE) (fh kE) (eT kE) .none kV47 dc47 pm47 an47 cd47 ct47),sl47⟩)
  (c47:dr K cd47 "widened"=true)
  (k47:cZ K (.ref f47)=true)
  (a48:dw K mainGlobals "_law_whole"=some (some (.ref f48)))
  (l48:K.lookup f48=some ⟨oc48,od48,.func (dm "_law_whole" "_law_whole" (fj iW) (fh iW) (eT iW) .none kV48 dc48 pm48 an48 cd48 ct48),sl48⟩)
  (c48:dr K cd48 "_law_whole"=true)
  (k48:cZ K (.ref f48)=true)
  (a49:dw K mainGlobals "_law_cell_at"=some (some (.ref f49)))
  (l49:K.lookup f49=some ⟨oc49,od49,.func (dm "_law_cell_at" "_law_cell_at" (fj ik) (fh ik) (eT ik) .none kV49 dc49 pm49 an49 cd49 ct49),sl49⟩)
  (c49:dr K cd49 "_law_cell_at"=true)
  (k49:cZ K (.ref f49)=true)
  (a50:dw K mainGlobals "_law_text"=some (some (.ref f50)))
  (l50:K.lookup f50=some ⟨oc50,od50,.func (dm "_law_text" "_law_text" (fj jt) (fh jt) (eT jt) .none kV50 dc50 pm50 an50 cd50 ct50),sl50⟩)
  (c50:dr K cd50 "_law_text"=true)
  (k50:cZ K (.ref f50)=true)
  (a51:dw K mainGlobals "_law_start"=some (some (.ref f51)))
  (l51:K.lookup f51=some ⟨oc51,od51,.func (dm "_law_start" "_law_start" (fj iX) (fh iX) (eT iX) .none kV51 dc51 pm51 an51 cd51 ct51),sl51⟩)
  (c51:dr K cd51 "_law_start"=true)
  (k51:cZ K (.ref f51)=true)
  (a52:dw K mainGlobals "_law_row"=some (some (.ref f52)))
  (l52:K.lookup f52=some ⟨oc52,od52,.func (dm "_law_row" "_law_row" (fj jR) (fh jR) (eT jR) .none kV52 dc52 pm52 an52 cd52 ct52),sl52⟩)
  (c52:dr K cd52 "_law_row"=true)
  (k52:cZ K (.ref f52)=true)
  (a53:dw K mainGlobals "_law_due"=some (some (.ref f53)))
  (l53:K.lookup f53=some ⟨oc53,od53,.func (dm "_law_due" "_law_due" (fj jS) (fh jS) (eT jS) .none kV53 dc53 pm53 an53 cd53 ct53),sl53⟩)
  (c53:dr K cd53 "_law_due"=true)
  (k53:cZ K (.ref f53)=true)
  (a54:dw K mainGlobals "FlowError"=some (some (.ref C54)))
  (x54:dv K C54 [.type "ValueError",.type "Exception",.type "BaseException",.type "object"] "ValueError.__new__"=true)
  (a55:dw K mainGlobals "BadText"=some (some (.ref C55)))
  (x55:dv K C55 [.type "ValueError",.type "Exception",.type "BaseException",.type "object"] "ValueError.__new__"=true)
  (a56:dw K mainGlobals "Twice"=some (some (.ref C56)))
  (a57:dw K mainGlobals "NoName"=some (some (.ref C57)))
  (a58:dw K mainGlobals "Machine"=some (some (.ref C58)))
  (pg58:cM K C58 Str.empty=true)
  (hd58:cN K C58=true)
  (po58:cR K C58=true)
  (sa58:cO K (.ref C58) "__setattr__"=some (some (.builtin "object.__setattr__")))
  (t1_58:cO K (.ref C58) "__class__"=some (some (.builtin "object.__class__")))
  (t2_58:cY K (.builtin "object.__class__") "__get__"=some (some (.builtin "getset_descriptor.__get__")))
  (t3_58:c7 K (.builtin "object.__class__")=some true)
  (t4_58:c8 K C58 (.type "object")=some true)
  (n58_program:cO K (.ref C58) "program"=some none)
  (n58_homes:cO K (.ref C58) "homes"=some none)
  (n58_turns:cO K (.ref C58) "turns"=some none)
  (n58_begun:cO K (.ref C58) "begun"=some none)
  (n58_end:cO K (.ref C58) "end"=some none)
  (n58_meets:cO K (.ref C58) "meets"=some none)
  (n58_had:cO K (.ref C58) "had"=some none)
  (n58_defined:cO K (.ref C58) "defined"=some none)
  (n58_steps:cO K (.ref C58) "steps"=some none)
  (n58_ready:cO K (.ref C58) "ready"=some none)
  (i59:cO K (.ref C58) "__init__"=some (some (.ref f59)))
  (j59:cQ K (.ref f59)=true)
  (l59:K.lookup f59=some ⟨oc59,od59,.func (dm "__init__" "Machine.__init__" (fj gw) (fh gw) (eT gw) .none kV59 dc59 pm59 an59 cd59 ct59),sl59⟩)
  (c59:dr K cd59 "Machine.__init__"=true)
  (k59:cZ K (.ref f59)=true)
  (mk58:cW K C58=true)
  (kc58:cZ K (.ref C58)=true)
  (i60:cO K (.ref C58) "work_program"=some (some (.ref f60)))
  (j60:cQ K (.ref f60)=true)
  (l60:K.lookup f60=some ⟨oc60,od60,.func (dm "work_program" "Machine.work_program" (fj fY) (fh fY) (eT fY) .none kV60 dc60 pm60 an60 cd60 ct60),sl60⟩)
  (c60:dr K cd60 "Machine.work_program"=true)
  (k60:cZ K (.ref f60)=true)
  (i61:cO K (.ref C58) "work_steps"=some (some (.ref f61)))
  (j61:cQ K (.ref f61)=true)
  (l61:K.lookup f61=some ⟨oc61,od61,.func (dm "work_steps" "Machine.work_steps" (fj f9) (fh f9) (eT f9) .none kV61 dc61 pm61 an61 cd61 ct61),sl61⟩)
  (c61:dr K cd61 "Machine.work_steps"=true)
  (k61:cZ K (.ref f61)=true)
  (i62:cO K (.ref C58) "begin"=some (some (.ref f62)))
  (j62:cQ K (.ref f62)=true)
  (l62:K.lookup f62=some ⟨oc62,od62,.func (dm "begin" "Machine.begin" (fj hG) (fh hG) (eT hG) .none kV62 dc62 pm62 an62 cd62 ct62),sl62⟩)
  (c62:dr K cd62 "Machine.begin"=true)
  (k62:cZ K (.ref f62)=true)
  (i63:cO K (.ref C58) "work_parts"=some (some (.ref f63)))
  (j63:cQ K (.ref f63)=true)
  (l63:K.lookup f63=some ⟨oc63,od63,.func (dm "work_parts" "Machine.work_parts" (fj gb) (fh gb) (eT gb) .none kV63 dc63 pm63 an63 cd63 ct63),sl63⟩)
  (c63:dr K cd63 "Machine.work_parts"=true)
  (k63:cZ K (.ref f63)=true)
  (i64:cO K (.ref C58) "take_ready"=some (some (.ref f64)))
  (j64:cQ K (.ref f64)=true)
  (l64:K.lookup f64=some ⟨oc64,od64,.func (dm "take_ready" "Machine.take_ready" (fj gf) (fh gf) (eT gf) .none kV64 dc64 pm64 an64 cd64 ct64),sl64⟩)
  (c64:dr K cd64 "Machine.take_ready"=true)
  (k64:cZ K (.ref f64)=true)
  (i65:cO K (.ref C58) "finish"=some (some (.ref f65)))
  (j65:cQ K (.ref f65)=true)
  (l65:K.lookup f65=some ⟨oc65,od65,.func (dm "finish" "Machine.finish" (fj gQ) (fh gQ) (eT gQ) .none kV65 dc65 pm65 an65 cd65 ct65),sl65⟩)
  (c65:dr K cd65 "Machine.finish"=true)
  (k65:cZ K (.ref f65)=true)
  (i66:cO K (.ref C58) "go_into"=some (some (.ref f66)))
  (j66:cQ K (.ref f66)=true)
  (l66:K.lookup f66=some ⟨oc66,od66,.func (dm "go_into" "Machine.go_into" (fj gI) (fh gI) (eT gI) .none kV66 dc66 pm66 an66 cd66 ct66),sl66⟩)
  (c66:dr K cd66 "Machine.go_into"=true)
  (k66:cZ K (.ref f66)=true)
  (i67:cO K (.ref C58) "comes"=some (some (.ref f67)))
  (j67:cQ K (.ref f67)=true)
  (l67:K.lookup f67=some ⟨oc67,od67,.func (dm "comes" "Machine.comes" (fj hI) (fh hI) (eT hI) .none kV67 dc67 pm67 an67 cd67 ct67),sl67⟩)
  (c67:dr K cd67 "Machine.comes"=true)
  (k67:cZ K (.ref f67)=true)
  (i68:cO K (.ref C58) "comes_as"=some (some (.ref f68)))
  (j68:cQ K (.ref f68)=true)
  (l68:K.lookup f68=some ⟨oc68,od68,.func (dm "comes_as" "Machine.comes_as" (fj gx) (fh gx) (eT gx) .none kV68 dc68 pm68 an68 cd68 ct68),sl68⟩)
  (c68:dr K cd68 "Machine.comes_as"=true)
  (k68:cZ K (.ref f68)=true)
  (i69:cO K (.ref C58) "both_come_as"=some (some (.ref f69)))
  (j69:cQ K (.ref f69)=true)
  (l69:K.lookup f69=some ⟨oc69,od69,.func (dm "both_come_as" "Machine.both_come_as" (fj fZ) (fh fZ) (eT fZ) .none kV69 dc69 pm69 an69 cd69 ct69),sl69⟩)
  (c69:dr K cd69 "Machine.both_come_as"=true)
  (k69:cZ K (.ref f69)=true)
  (a70:dw K mainGlobals "Run"=some (some (.ref C70)))
  (pg70:cM K C70 Str.empty=true)
  (hd70:cN K C70=true)
  (po70:cR K C70=true)
  (sa70:cO K (.ref C70) "__setattr__"=some (some (.builtin "object.__setattr__")))
  (t1_70:cO K (.ref C70) "__class__"=some (some (.builtin "object.__class__")))
  (t2_70:cY K (.builtin "object.__class__") "__get__"=some (some (.builtin "getset_descriptor.__get__")))
  (t3_70:c7 K (.builtin "object.__class__")=some true)
  (t4_70:c8 K C70 (.type "object")=some true)
  (n70_end:cO K (.ref C70) "end"=some none)
  (n70_value:cO K (.ref C70) "value"=some none)
  (n70_meets:cO K (.ref C70) "meets"=some none)
  (n70_had:cO K (.ref C70) "had"=some none)
  (n70_begun:cO K (.ref C70) "begun"=some none)
  (i71:cO K (.ref C70) "__init__"=some (some (.ref f71)))
  (j71:cQ K (.ref f71)=true)
  (l71:K.lookup f71=some ⟨oc71,od71,.func (dm "__init__" "Run.__init__" (fj ip) (fh ip) (eT ip) .none kV71 dc71 pm71 an71 cd71 ct71),sl71⟩)
  (c71:dr K cd71 "Run.__init__"=true)
  (k71:cZ K (.ref f71)=true)
  (mk70:cW K C70=true)
  (kc70:cZ K (.ref C70)=true)
  (a72:dw K mainGlobals "Program"=some (some (.ref C72)))
  (pg72:cM K C72 Str.empty=true)
  (hd72:cN K C72=true)
  (po72:cR K C72=true)
  (sa72:cO K (.ref C72) "__setattr__"=some (some (.builtin "object.__setattr__")))
  (t1_72:cO K (.ref C72) "__class__"=some (some (.builtin "object.__class__")))
  (t2_72:cY K (.builtin "object.__class__") "__get__"=some (some (.builtin "getset_descriptor.__get__")))
  (t3_72:c7 K (.builtin "object.__class__")=some true)
  (t4_72:c8 K C72 (.type "object")=some true)
  (n72_names:cO K (.ref C72) "names"=some none)
  (n72_roots:cO K (.ref C72) "roots"=some none)
  (n72_rows:cO K (.ref C72) "rows"=some none)
  (i73:cO K (.ref C72) "__init__"=some (some (.ref f73)))
  (j73:cQ K (.ref f73)=true)
  (l73:K.lookup f73=some ⟨oc73,od73,.func (dm "__init__" "Program.__init__" (fj gy) (fh gy) (eT gy) .none kV73 dc73 pm73 an73 cd73 ct73),sl73⟩)
  (c73:dr K cd73 "Program.__init__"=true)
  (k73:cZ K (.ref f73)=true)
  (mk72:cW K C72=true)
  (kc72:cZ K (.ref C72)=true)
  (a74:dw K mainGlobals "Reader"=some (some (.ref C74)))
  (pg74:cM K C74 Str.empty=true)
  (hd74:cN K C74=true)
  (po74:cR K C74=true)
  (sa74:cO K (.ref C74) "__setattr__"=some (some (.builtin "object.__setattr__")))
  (t1_74:cO K (.ref C74) "__class__"=some (some (.builtin "object.__class__")))
  (t2_74:cY K (.builtin "object.__class__") "__get__"=some (some (.builtin "getset_descriptor.__get__")))
  (t3_74:c7 K (.builtin "object.__class__")=some true)
  (t4_74:c8 K C74 (.type "object")=some true)
  (n74_words:cO K (.ref C74) "words"=some none)
  (n74_taken:cO K (.ref C74) "taken"=some none)
  (n74_rows:cO K (.ref C74) "rows"=some none)
  (i75:cO K (.ref C74) "__init__"=some (some (.ref f75)))
  (j75:cQ K (.ref f75)=true)
  (l75:K.lookup f75=some ⟨oc75,od75,.func (dm "__init__" "Reader.__init__" (fj gJ) (fh gJ) (eT gJ) .none kV75 dc75 pm75 an75 cd75 ct75),sl75⟩)
  (c75:dr K cd75 "Reader.__init__"=true)
  (k75:cZ K (.ref f75)=true)
  (mk74:cW K C74=true)
  (kc74:cZ K (.ref C74)=true)
  (i76:cO K (.ref C74) "ahead"=some (some (.ref f76)))
  (j76:cQ K (.ref f76)=true)
  (l76:K.lookup f76=some ⟨oc76,od76,.func (dm "ahead" "Reader.ahead" (fj iq) (fh iq) (eT iq) .none kV76 dc76 pm76 an76 cd76 ct76),sl76⟩)
  (c76:dr K cd76 "Reader.ahead"=true)
  (k76:cZ K (.ref f76)=true)
  (i77:cO K (.ref C74) "take"=some (some (.ref f77)))
  (j77:cQ K (.ref f77)=true)
  (l77:K.lookup f77=some ⟨oc77,od77,.func (dm "take" "Reader.take" (fj iI) (fh iI) (eT iI) .none kV77 dc77 pm77 an77 cd77 ct77),sl77⟩)
  (c77:dr K cd77 "Reader.take"=true)
  (k77:cZ K (.ref f77)=true)
  (i78:cO K (.ref C74) "pass_over"=some (some (.ref f78)))
  (j78:cQ K (.ref f78)=true)
  (l78:K.lookup f78=some ⟨oc78,od78,.func (dm "pass_over" "Reader.pass_over" (fj gz) (fh gz) (eT gz) .none kV78 dc78 pm78 an78 cd78 ct78),sl78⟩)
  (c78:dr K cd78 "Reader.pass_over"=true)
  (k78:cZ K (.ref f78)=true)
  (i79:cO K (.ref C74) "take_name"=some (some (.ref f79)))
  (j79:cQ K (.ref f79)=true)
  (l79:K.lookup f79=some ⟨oc79,od79,.func (dm "take_name" "Reader.take_name" (fj gA) (fh gA) (eT gA) .none kV79 dc79 pm79 an79 cd79 ct79),sl79⟩)
  (c79:dr K cd79 "Reader.take_name"=true)
  (k79:cZ K (.ref f79)=true)
  (i80:cO K (.ref C74) "take_expr"=some (some (.ref f80)))
  (j80:cQ K (.ref f80)=true)
  (l80:K.lookup f80=some ⟨oc80,od80,.func (dm "take_expr" "Reader.take_expr" (fj gB) (fh gB) (eT gB) .none kV80 dc80 pm80 an80 cd80 ct80),sl80⟩)
  (c80:dr K cd80 "Reader.take_expr"=true)
  (k80:cZ K (.ref f80)=true)
  (i81:cO K (.ref C74) "take_row"=some (some (.ref f81)))
  (j81:cQ K (.ref f81)=true)
  (l81:K.lookup f81=some ⟨oc81,od81,.func (dm "take_row" "Reader.take_row" (fj gK) (fh gK) (eT gK) .none kV81 dc81 pm81 an81 cd81 ct81),sl81⟩)
  (c81:dr K cd81 "Reader.take_row"=true)
  (k81:cZ K (.ref f81)=true)
  (i82:cO K (.ref C74) "take_form"=some (some (.ref f82)))
  (j82:cQ K (.ref f82)=true)
  (l82:K.lookup f82=some ⟨oc82,od82,.func (dm "take_form" "Reader.take_form" (fj gC) (fh gC) (eT gC) .none kV82 dc82 pm82 an82 cd82 ct82),sl82⟩)
  (c82:dr K cd82 "Reader.take_form"=true)
  (k82:cZ K (.ref f82)=true)
  (i83:cO K (.ref C74) "take_steady"=some (some (.ref f83)))
  (j83:cQ K (.ref f83)=true)
  (l83:K.lookup f83=some ⟨oc83,od83,.func (dm "take_steady" "Reader.take_steady" (fj gh) (fh gh) (eT gh) .none kV83 dc83 pm83 an83 cd83 ct83),sl83⟩)
  (c83:dr K cd83 "Reader.take_steady"=true)
  (k83:cZ K (.ref f83)=true)
  (i84:cO K (.ref C74) "take_fields"=some (some (.ref f84)))
  (j84:cQ K (.ref f84)=true)
  (l84:K.lookup f84=some ⟨oc84,od84,.func (dm "take_fields" "Reader.take_fields" (fj gj) (fh gj) (eT gj) .none kV84 dc84 pm84 an84 cd84 ct84),sl84⟩)
  (c84:dr K cd84 "Reader.take_fields"=true)
  (k84:cZ K (.ref f84)=true)
  (i85:cO K (.ref C74) "take_arms"=some (some (.ref f85)))
  (j85:cQ K (.ref f85)=true)
  (l85:K.lookup f85=some ⟨oc85,od85,.func (dm "take_arms" "Reader.take_arms" (fj gE) (fh gE) (eT gE) .none kV85 dc85 pm85 an85 cd85 ct85),sl85⟩)
  (c85:dr K cd85 "Reader.take_arms"=true)
  (k85:cZ K (.ref f85)=true)
  (i86:cO K (.ref C74) "take_things"=some (some (.ref f86)))
  (j86:cQ K (.ref f86)=true)
  (l86:K.lookup f86=some ⟨oc86,od86,.func (dm "take_things" "Reader.take_things" (fj gm) (fh gm) (eT gm) .none kV86 dc86 pm86 an86 cd86 ct86),sl86⟩)
  (c86:dr K cd86 "Reader.take_things"=true)
  (k86:cZ K (.ref f86)=true)
  (z_ValueError:dw K mainGlobals "ValueError"=some none)
  (z_all:dw K mainGlobals "all"=some none)
  (z_bool:dw K mainGlobals "bool"=some none)
  (z_dict:dw K mainGlobals "dict"=some none)
  (z_enumerate:dw K mainGlobals "enumerate"=some none)
  (z_int:dw K mainGlobals "int"=some none)
  (z_isinstance:dw K mainGlobals "isinstance"=some none)
  (z_len:dw K mainGlobals "len"=some none)
  (z_list:dw K mainGlobals "list"=some none)
  (z_min:dw K mainGlobals "min"=some none)
  (z_range:dw K mainGlobals "range"=some none)
  (z_reversed:dw K mainGlobals "reversed"=some none)
  (z_str:dw K mainGlobals "str"=some none)
  (z_tuple:dw K mainGlobals "tuple"=some none)
  (z_zip:dw K mainGlobals "zip"=some none)
  (gD:dw K mainGlobals "STEADY_FORMS"=some (some (.ref pD)))
  (sD:(pD==sysModules)=false)
  (hD:K.lookup pD=some ⟨.type "dict",none,.dict #[⟨PyData.keyHash w.params "fn",.str "fn" tD1,.ref qD1⟩,⟨PyData.keyHash w.params "call",.str "call" tD2,.ref qD2⟩,⟨PyData.keyHash w.params "let",.str "let" tD3,.ref qD3⟩,⟨PyData.keyHash w.params "get",.str "get" tD4,.ref qD4⟩,⟨PyData.keyHash w.params "tag",.str "tag" tD5,.ref qD5⟩,⟨PyData.keyHash w.params "at",.str "at" tD6,.ref qD6⟩,⟨PyData.keyHash w.params "join",.str "join" tD7,.ref qD7⟩,⟨PyData.keyHash w.params "size",.str "size" tD8,.ref qD8⟩,⟨PyData.keyHash w.params "add",.str "add" tD9,.ref qD9⟩,⟨PyData.keyHash w.params "sub",.str "sub" tD10,.ref qD10⟩,⟨PyData.keyHash w.params "less",.str "less" tD11,.ref qD11⟩] nD,#[]⟩)
  (hD1:K.lookup qD1=some ⟨.type "tuple",odD1,.seq #[.str "name" uD1_0,.str "expr" uD1_1] nD1,slD1⟩)
  (hD2:K.lookup qD2=some ⟨.type "tuple",odD2,.seq #[.str "expr" uD2_0,.str "expr" uD2_1] nD2,slD2⟩)
  (hD3:K.lookup qD3=some ⟨.type "tuple",odD3,.seq #[.str "name" uD3_0,.str "expr" uD3_1,.str "expr" uD3_2] nD3,slD3⟩)
  (hD4:K.lookup qD4=some ⟨.type "tuple",odD4,.seq #[.str "expr" uD4_0,.str "name" uD4_1] nD4,slD4⟩)
  (hD5:K.lookup qD5=some ⟨.type "tuple",odD5,.seq #[.str "name" uD5_0,.str "expr" uD5_1] nD5,slD5⟩)
  (hD6:K.lookup qD6=some ⟨.type "tuple",odD6,.seq #[.str "expr" uD6_0,.str "expr" uD6_1,.str "expr" uD6_2] nD6,slD6⟩)
  (hD7:K.lookup qD7=some ⟨.type "tuple",odD7,.seq #[.str "expr" uD7_0,.str "expr" uD7_1] nD7,slD7⟩)
  (hD8:K.lookup qD8=some ⟨.type "tuple",odD8,.seq #[.str "expr" uD8_0] nD8,slD8⟩)
  (hD9:K.lookup qD9=some ⟨.type "tuple",odD9,.seq #[.str "expr" uD9_0,.str "expr" uD9_1] nD9,slD9⟩)
  (hD10:K.lookup qD10=some ⟨.type "tuple",odD10,.seq #[.str "expr" uD10_0,.str "expr" uD10_1] nD10,slD10⟩)
  (hD11:K.lookup qD11=some ⟨.type "tuple",odD11,.seq #[.str "expr" uD11_0,.str "expr" uD11_1] nD11,slD11⟩)
  (gW:dw K mainGlobals "WORKERS"=some (some (.ref pW)))
  (sW:(pW==sysModules)=false)
  (hW:K.lookup pW=some ⟨.type "dict",none,.dict #[⟨PyData.keyHash w.params "num",.str "num" tW0,.ref f18⟩,⟨PyData.keyHash w.params "name",.str "name" tW1,.ref f19⟩,⟨PyData.keyHash w.params "fn",.str "fn" tW2,.ref f20⟩,⟨PyData.keyHash w.params "call",.str "call" tW3,.ref f21⟩,⟨PyData.keyHash w.params "let",.str "let" tW4,.ref f22⟩,⟨PyData.keyHash w.params "rec",.str "rec" tW5,.ref f23⟩,⟨PyData.keyHash w.params "get",.str "get" tW6,.ref f24⟩,⟨PyData.keyHash w.params "tag",.str "tag" tW7,.ref f25⟩,⟨PyData.keyHash w.params "case",.str "case" tW8,.ref f26⟩,⟨PyData.keyHash w.params "row",.str "row" tW9,.ref f27⟩,⟨PyData.keyHash w.params "at",.str "at" tW10,.ref f28⟩,⟨PyData.keyHash w.params "join",.str "join" tW11,.ref f29⟩,⟨PyData.keyHash w.params "size",.str "size" tW12,.ref f30⟩,⟨PyData.keyHash w.params "add",.str "add" tW13,.ref f31⟩,⟨PyData.keyHash w.params "sub",.str "sub" tW14,.ref f32⟩,⟨PyData.keyHash w.params "less",.str "less" tW15,.ref f33⟩] nW,#[]⟩)
  (aL:dw K mainGlobals "law"=some (some (.ref fL))) (lL:K.lookup fL=some ⟨ocL,odL,.func (dm "law" "law" (fj rG) (fh rG) (eT rG) .none kVL dcL pmL anL cdL ctL),slL⟩) (cL:dr K cdL "law"=true) (kL:cZ K (.ref fL)=true):
  ∃fd:FuncData,(∀(s:Shared) (v:Value),BindsTo s fd ⟨[v],[]⟩ [("_law_script",v)])/\∀base:Heap,K.In base->base.Ns mainGlobals mg->gu l.prog w K mg base CX0 150 fa fd ["_law_script"] (vO K):=by
 have e:=hfa.symm.trans (dy X G aL)
 cases e
 let T:Txt K mg:=⟨u1,dy X G g1,
  u2,dy X G g2,
  u3,dy X G g3,
  p4,dy X G g4,fun _=> .inr ⟨_,_,_,h4,rfl,rfl,(by show 15<=sizeLine;decide),(.cons ⟨_,rfl⟩ (.cons ⟨_,rfl⟩ (.cons ⟨_,rfl⟩ (.cons ⟨_,rfl⟩ (.cons ⟨_,rfl⟩ (.cons ⟨_,rfl⟩ (.cons ⟨_,rfl⟩ (.cons ⟨_,rfl⟩ (.cons ⟨_,rfl⟩ (.cons ⟨_,rfl⟩ (.cons ⟨_,rfl⟩ (.cons ⟨_,rfl⟩ (.cons ⟨_,rfl⟩ (.cons ⟨_,rfl⟩ (.cons ⟨_,rfl⟩ .nil)))))))))))))))⟩,
  u5,dy X G g5,
  u6,dy X G g6,
  u7,dy X G g7,
  u8,dy X G g8,
  u9,dy X G g9,
  u10,dy X G g10,
  u11,dy X G g11,
  u12,dy X G g12,
  f13,_,eZ (st:=jH) l13 c13 k13,(eZ (st:=jH) l13 c13 k13).binds (ps:=["row"]) (fun _ _ _ _ _ _=>lS (fun _=>l0 rfl)),dy X G a13,k13,
  f14,_,eZ (st:=jk) l14 c14 k14,(eZ (st:=jk) l14 c14 k14).binds (ps:=["row"]) (fun _ _ _ _ _ _=>lS (fun _=>l0 rfl)),dy X G a14,k14,
  f15,_,eZ (st:=pL) l15 c15 k15,(eZ (st:=pL) l15 c15 k15).binds (ps:=["parts"]) (fun _ _ _ _ _ _=>lS (fun _=>l0 rfl)),dy X G a15,k15,
  f16,_,eZ (st:=iF) l16 c16 k16,(eZ (st:=iF) l16 c16 k16).binds (ps:=["row"]) (fun _ _ _ _ _ _=>lS (fun _=>l0 rfl)),dy X G a16,k16,
  f17,_,eZ (st:=iU) l17 c17 k17,(eZ (st:=iU) l17 c17 k17).binds (ps:=["scope","place"]) (fun _ _ _ _ _ _=>lS (fun _=>lS (fun _=>l0 rfl))),dy X G a17,k17,
  f18,_,eZ (st:=jI) l18 c18 k18,(eZ (st:=jI) l18 c18 k18).binds (ps:=["machine","row","place","scope","parts"]) (fun _ _ _ _ _ _=>lS (fun _=>lS (fun _=>lS (fun _=>lS (fun _=>lS (fun _=>l0 rfl)))))),dy X G a18,k18,
  f19,_,eZ (st:=jl) l19 c19 k19,(eZ (st:=jl) l19 c19 k19).binds (ps:=["machine","row","place","scope","parts"]) (fun _ _ _ _ _ _=>lS (fun _=>lS (fun _=>lS (fun _=>lS (fun _=>lS (fun _=>l0 rfl)))))),dy X G a19,k19,
  f20,_,eZ (st:=kz) l20 c20 k20,(eZ (st:=kz) l20 c20 k20).binds (ps:=["machine","row","place","scope","parts"]) (fun _ _ _ _ _ _=>lS (fun _=>lS (fun _=>lS (fun _=>lS (fun _=>lS (fun _=>l0 rfl)))))),dy X G a20,k20,
  f21,_,eZ (st:=jm) l21 c21 k21,(eZ (st:=jm) l21 c21 k21).binds (ps:=["machine","row","place","scope","parts"]) (fun _ _ _ _ _ _=>lS (fun _=>lS (fun _=>lS (fun _=>lS (fun _=>lS (fun _=>l0 rfl)))))),dy X G a21,k21,
  f22,_,eZ (st:=jJ) l22 c22 k22,(eZ (st:=jJ) l22 c22 k22).binds (ps:=["machine","row","place","scope","parts"]) (fun _ _ _ _ _ _=>lS (fun _=>lS (fun _=>lS (fun _=>lS (fun _=>lS (fun _=>l0 rfl)))))),dy X G a22,k22,
  f23,_,eZ (st:=kl) l23 c23 k23,(eZ (st:=kl) l23 c23 k23).binds (ps:=["machine","row","place","scope","parts"]) (fun _ _ _ _ _ _=>lS (fun _=>lS (fun _=>lS (fun _=>lS (fun _=>lS (fun _=>l0 rfl)))))),dy X G a23,k23,
  f24,_,eZ (st:=km) l24 c24 k24,(eZ (st:=km) l24 c24 k24).binds (ps:=["machine","row","place","scope","parts"]) (fun _ _ _ _ _ _=>lS (fun _=>lS (fun _=>lS (fun _=>lS (fun _=>lS (fun _=>l0 rfl)))))),dy X G a24,k24,
  f25,_,eZ (st:=jK) l25 c25 k25,(eZ (st:=jK) l25 c25 k25).binds (ps:=["machine","row","place","scope","parts"]) (fun _ _ _ _ _ _=>lS (fun _=>lS (fun _=>lS (fun _=>lS (fun _=>lS (fun _=>l0 rfl)))))),dy X G a25,k25,
  f26,_,eZ (st:=jn) l26 c26 k26,(eZ (st:=jn) l26 c26 k26).binds (ps:=["machine","row","place","scope","parts"]) (fun _ _ _ _ _ _=>lS (fun _=>lS (fun _=>lS (fun _=>lS (fun _=>lS (fun _=>l0 rfl)))))),dy X G a26,k26,
  f27,_,eZ (st:=jL) l27 c27 k27,(eZ (st:=jL) l27 c27 k27).binds (ps:=["machine","row","place","scope","parts"]) (fun _ _ _ _ _ _=>lS (fun _=>lS (fun _=>lS (fun _=>lS (fun _=>lS (fun _=>l0 rfl)))))),dy X G a27,k27,
  f28,_,eZ (st:=kY) l28 c28 k28,(eZ (st:=kY) l28 c28 k28).binds (ps:=["machine","row","place","scope","parts"]) (fun _ _ _ _ _ _=>lS (fun _=>lS (fun _=>lS (fun _=>lS (fun _=>lS (fun _=>l0 rfl)))))),dy X G a28,k28,
  f29,_,eZ (st:=jo) l29 c29 k29,(eZ (st:=jo) l29 c29 k29).binds (ps:=["machine","row","place","scope","parts"]) (fun _ _ _ _ _ _=>lS (fun _=>lS (fun _=>lS (fun _=>lS (fun _=>lS (fun _=>l0 rfl)))))),dy X G a29,k29,
  f30,_,eZ (st:=jM) l30 c30 k30,(eZ (st:=jM) l30 c30 k30).binds (ps:=["machine","row","place","scope","parts"]) (fun _ _ _ _ _ _=>lS (fun _=>lS (fun _=>lS (fun _=>lS (fun _=>lS (fun _=>l0 rfl)))))),dy X G a30,k30,
  f31,_,eZ (st:=jN) l31 c31 k31,(eZ (st:=jN) l31 c31 k31).binds (ps:=["machine","row","place","scope","parts"]) (fun _ _ _ _ _ _=>lS (fun _=>lS (fun _=>lS (fun _=>lS (fun _=>lS (fun _=>l0 rfl)))))),dy X G a31,k31,
  f32,_,eZ (st:=jO) l32 c32 k32,(eZ (st:=jO) l32 c32 k32).binds (ps:=["machine","row","place","scope","parts"]) (fun _ _ _ _ _ _=>lS (fun _=>lS (fun _=>lS (fun _=>lS (fun _=>lS (fun _=>l0 rfl)))))),dy X G a32,k32,
  f33,_,eZ (st:=jq) l33 c33 k33,(eZ (st:=jq) l33 c33 k33).binds (ps:=["machine","row","place","scope","parts"]) (fun _ _ _ _ _ _=>lS (fun _=>lS (fun _=>lS (fun _=>lS (fun _=>lS (fun _=>l0 rfl)))))),dy X G a33,k33,
  f34,_,eZ (st:=uI) l34 c34 k34,(eZ (st:=uI) l34 c34 k34).binds (ps:=["program","homes","turns"]) (fun _ _ _ _ _ _=>lS (fun _=>lS (fun _=>lS (fun _=>l0 rfl)))),dy X G a34,k34,
  f35,_,eZ (st:=jP) l35 c35 k35,(eZ (st:=jP) l35 c35 k35).binds (ps:=["text"]) (fun _ _ _ _ _ _=>lS (fun _=>l0 rfl)),dy X G a35,k35,
  f36,_,eZ (st:=kA) l36 c36 k36,(eZ (st:=kA) l36 c36 k36).binds (ps:=["word"]) (fun _ _ _ _ _ _=>lS (fun _=>l0 rfl)),dy X G a36,k36,
  f37,_,eZ (st:=jr) l37 c37 k37,(eZ (st:=jr) l37 c37 k37).binds (ps:=["word"]) (fun _ _ _ _ _ _=>lS (fun _=>l0 rfl)),dy X G a37,k37,
  f38,_,eZ (st:=kB) l38 c38 k38,(eZ (st:=kB) l38 c38 k38).binds (ps:=["word","signs"]) (fun _ _ _ _ _ _=>lS (fun _=>lS (fun _=>l0 rfl))),dy X G a38,k38,
  f39,_,eZ (st:=pM) l39 c39 k39,(eZ (st:=pM) l39 c39 k39).binds (ps:=["text"]) (fun _ _ _ _ _ _=>lS (fun _=>l0 rfl)),dy X G a39,k39,
  f40,_,eZ (st:=iG) l40 c40 k40,(eZ (st:=iG) l40 c40 k40).binds (ps:=["what","count","least","most"]) (fun _ _ _ _ _ _=>lS (fun _=>lS (fun _=>lS (fun _=>lS (fun _=>l0 rfl))))),dy X G a40,k40,
  f41,_,eZ (st:=jQ) l41 c41 k41,(eZ (st:=jQ) l41 c41 k41).binds (ps:=["program"]) (fun _ _ _ _ _ _=>lS (fun _=>l0 rfl)),dy X G a41,k41,
  f42,_,eZ (st:=ig) l42 c42 k42,(eZ (st:=ig) l42 c42 k42).binds (ps:=["words"]) (fun _ _ _ _ _ _=>lS (fun _=>l0 rfl)),dy X G a42,k42,
  f43,_,eZ (st:=iV) l43 c43 k43,(eZ (st:=iV) l43 c43 k43).binds (ps:=["row"]) (fun _ _ _ _ _ _=>lS (fun _=>l0 rfl)),dy X G a43,k43,
  f44,_,eZ (st:=kC) l44 c44 k44,(eZ (st:=kC) l44 c44 k44).binds (ps:=["row","place","scope"]) (fun _ _ _ _ _ _=>lS (fun _=>lS (fun _=>lS (fun _=>l0 rfl)))),dy X G a44,k44,
  f45,_,eZ (st:=iH) l45 c45 k45,(eZ (st:=iH) l45 c45 k45).binds (ps:=["program"]) (fun _ _ _ _ _ _=>lS (fun _=>l0 rfl)),dy X G a45,k45,
  f46,_,eZ (st:=ij) l46 c46 k46,(eZ (st:=ij) l46 c46 k46).binds (ps:=["row","scope"]) (fun _ _ _ _ _ _=>lS (fun _=>lS (fun _=>l0 rfl))),dy X G a46,k46,
  f47,_,eZ (st:=kE) l47 c47 k47,(eZ (st:=kE) l47 c47 k47).binds (ps:=["scope","name","home"]) (fun _ _ _ _ _ _=>lS (fun _=>lS (fun _=>lS (fun _=>l0 rfl)))),dy X G a47,k47,
  f48,_,eZ (st:=iW) l48 c48 k48,(eZ (st:=iW) l48 c48 k48).binds (ps:=["_law_x"]) (fun _ _ _ _ _ _=>lS (fun _=>l0 rfl)),dy X G a48,k48,
  f49,_,eZ (st:=ik) l49 c49 k49,(eZ (st:=ik) l49 c49 k49).binds (ps:=["_law_script","_law_k"]) (fun _ _ _ _ _ _=>lS (fun _=>lS (fun _=>l0 rfl))),dy X G a49,k49,
  f50,_,eZ (st:=jt) l50 c50 k50,(eZ (st:=jt) l50 c50 k50).binds (ps:=["_law_script","_law_sort","_law_start_here"]) (fun _ _ _ _ _ _=>lS (fun _=>lS (fun _=>lS (fun _=>l0 rfl)))),dy X G a50,k50,
  f51,_,eZ (st:=iX) l51 c51 k51,(eZ (st:=iX) l51 c51 k51).binds (ps:=["_law_script","_law_times"]) (fun _ _ _ _ _ _=>lS (fun _=>lS (fun _=>l0 rfl))),dy X G a51,k51,
  f52,_,eZ (st:=jR) l52 c52 k52,(eZ (st:=jR) l52 c52 k52).binds (ps:=["_law_value","_law_script","_law_sort","_law_start_here","_law_times"]) (fun _ _ _ _ _ _=>lS (fun _=>lS (fun _=>lS (fun _=>lS (fun _=>lS (fun _=>l0 rfl)))))),dy X G a52,k52,
  f53,_,eZ (st:=jS) l53 c53 k53,(eZ (st:=jS) l53 c53 k53).binds (ps:=["_law_value","_law_script","_law_sort","_law_start_here","_law_times"]) (fun _ _ _ _ _ _=>lS (fun _=>lS (fun _=>lS (fun _=>lS (fun _=>lS (fun _=>l0 rfl)))))),dy X G a53,k53,
  C54,dy X G a54,x54,
  C55,dy X G a55,x55,
  C56,dy X G a56,
  C57,dy X G a57,
  C58,dy X G a58,⟨pg58,hd58,po58,sa58⟩,fun _ _ _ _ e=> .ins e ⟨pg58,hd58,po58,sa58⟩ t1_58 t2_58 t3_58 t4_58,n58_program,n58_homes,n58_turns,n58_begun,n58_end,n58_meets,n58_had,n58_defined,n58_steps,n58_ready,f59,_,eZ (st:=gw) l59 c59 k59,(eZ (st:=gw) l59 c59 k59).binds (ps:=["self","program","homes","turns"]) (fun _ _ _ _ _ _=>lS (fun _=>lS (fun _=>lS (fun _=>lS (fun _=>l0 rfl))))),⟨mk58,i59,j59,kc58⟩,f60,_,eZ (st:=fY) l60 c60 k60,(eZ (st:=fY) l60 c60 k60).binds (ps:=["self"]) (fun _ _ _ _ _ _=>lS (fun _=>l0 rfl)),⟨i60,j60,k60⟩,f61,_,eZ (st:=f9) l61 c61 k61,(eZ (st:=f9) l61 c61 k61).binds (ps:=["self"]) (fun _ _ _ _ _ _=>lS (fun _=>l0 rfl)),⟨i61,j61,k61⟩,f62,_,eZ (st:=hG) l62 c62 k62,(eZ (st:=hG) l62 c62 k62).binds (ps:=["self","place","scope"]) (fun _ _ _ _ _ _=>lS (fun _=>lS (fun _=>lS (fun _=>l0 rfl)))),⟨i62,j62,k62⟩,f63,_,eZ (st:=gb) l63 c63 k63,(eZ (st:=gb) l63 c63 k63).binds (ps:=["self","place","scope"]) (fun _ _ _ _ _ _=>lS (fun _=>lS (fun _=>lS (fun _=>l0 rfl)))),⟨i63,j63,k63⟩,f64,_,eZ (st:=gf) l64 c64 k64,(eZ (st:=gf) l64 c64 k64).binds (ps:=["self","count"]) (fun _ _ _ _ _ _=>lS (fun _=>lS (fun _=>l0 rfl))),⟨i64,j64,k64⟩,f65,_,eZ (st:=gQ) l65 c65 k65,(eZ (st:=gQ) l65 c65 k65).binds (ps:=["self","place","value"]) (fun _ _ _ _ _ _=>lS (fun _=>lS (fun _=>lS (fun _=>l0 rfl)))),⟨i65,j65,k65⟩,f66,_,eZ (st:=gI) l66 c66 k66,(eZ (st:=gI) l66 c66 k66).binds (ps:=["self","body","scope","place"]) (fun _ _ _ _ _ _=>lS (fun _=>lS (fun _=>lS (fun _=>lS (fun _=>l0 rfl))))),⟨i66,j66,k66⟩,f67,_,eZ (st:=hI) l67 c67 k67,(eZ (st:=hI) l67 c67 k67).binds (ps:=["self","value","place","slot","fits"]) (fun _ _ _ _ _ _=>lS (fun _=>lS (fun _=>lS (fun _=>lS (fun _=>lS (fun _=>l0 rfl)))))),⟨i67,j67,k67⟩,f68,_,eZ (st:=gx) l68 c68 k68,(eZ (st:=gx) l68 c68 k68).binds (ps:=["self","shape","value","place","slot"]) (fun _ _ _ _ _ _=>lS (fun _=>lS (fun _=>lS (fun _=>lS (fun _=>lS (fun _=>l0 rfl)))))),⟨i68,j68,k68⟩,f69,_,eZ (st:=fZ) l69 c69 k69,(eZ (st:=fZ) l69 c69 k69).binds (ps:=["self","shape","parts","place"]) (fun _ _ _ _ _ _=>lS (fun _=>lS (fun _=>lS (fun _=>lS (fun _=>l0 rfl))))),⟨i69,j69,k69⟩,
  C70,dy X G a70,⟨pg70,hd70,po70,sa70⟩,fun _ _ _ _ e=> .ins e ⟨pg70,hd70,po70,sa70⟩ t1_70 t2_70 t3_70 t4_70,n70_end,n70_value,n70_meets,n70_had,n70_begun,f71,_,eZ (st:=ip) l71 c71 k71,(eZ (st:=ip) l71 c71 k71).binds (ps:=["self","end","value","meets","had","begun"]) (fun _ _ _ _ _ _=>lS (fun _=>lS (fun _=>lS (fun _=>lS (fun _=>lS (fun _=>lS (fun _=>l0 rfl))))))),⟨mk70,i71,j71,kc70⟩,
  C72,dy X G a72,⟨pg72,hd72,po72,sa72⟩,fun _ _ _ _ e=> .ins e ⟨pg72,hd72,po72,sa72⟩ t1_72 t2_72 t3_72 t4_72,n72_names,n72_roots,n72_rows,f73,_,eZ (st:=gy) l73 c73 k73,(eZ (st:=gy) l73 c73 k73).binds (ps:=["self","names","roots","rows"]) (fun _ _ _ _ _ _=>lS (fun _=>lS (fun _=>lS (fun _=>lS (fun _=>l0 rfl))))),⟨mk72,i73,j73,kc72⟩,
  C74,dy X G a74,⟨pg74,hd74,po74,sa74⟩,fun _ _ _ _ e=> .ins e ⟨pg74,hd74,po74,sa74⟩ t1_74 t2_74 t3_74 t4_74,n74_words,n74_taken,n74_rows,f75,_,eZ (st:=gJ) l75 c75 k75,(eZ (st:=gJ) l75 c75 k75).binds (ps:=["self","words"]) (fun _ _ _ _ _ _=>lS (fun _=>lS (fun _=>l0 rfl))),⟨mk74,i75,j75,kc74⟩,f76,_,eZ (st:=iq) l76 c76 k76,(eZ (st:=iq) l76 c76 k76).binds (ps:=["self"]) (fun _ _ _ _ _ _=>lS (fun _=>l0 rfl)),⟨i76,j76,k76⟩,f77,_,eZ (st:=iI) l77 c77 k77,(eZ (st:=iI) l77 c77 k77).binds (ps:=["self"]) (fun _ _ _ _ _ _=>lS (fun _=>l0 rfl)),⟨i77,j77,k77⟩,f78,_,eZ (st:=gz) l78 c78 k78,(eZ (st:=gz) l78 c78 k78).binds (ps:=["self","wanted"]) (fun _ _ _ _ _ _=>lS (fun _=>lS (fun _=>l0 rfl))),⟨i78,j78,k78⟩,f79,_,eZ (st:=gA) l79 c79 k79,(eZ (st:=gA) l79 c79 k79).binds (ps:=["self"]) (fun _ _ _ _ _ _=>lS (fun _=>l0 rfl)),⟨i79,j79,k79⟩,f80,_,eZ (st:=gB) l80 c80 k80,(eZ (st:=gB) l80 c80 k80).binds (ps:=["self","depth"]) (fun _ _ _ _ _ _=>lS (fun _=>lS (fun _=>l0 rfl))),⟨i80,j80,k80⟩,f81,_,eZ (st:=gK) l81 c81 k81,(eZ (st:=gK) l81 c81 k81).binds (ps:=["self","depth"]) (fun _ _ _ _ _ _=>lS (fun _=>lS (fun _=>l0 rfl))),⟨i81,j81,k81⟩,f82,_,eZ (st:=gC) l82 c82 k82,(eZ (st:=gC) l82 c82 k82).binds (ps:=["self","head","depth"]) (fun _ _ _ _ _ _=>lS (fun _=>lS (fun _=>lS (fun _=>l0 rfl)))),⟨i82,j82,k82⟩,f83,_,eZ (st:=gh) l83 c83 k83,(eZ (st:=gh) l83 c83 k83).binds (ps:=["self","parts","depth"]) (fun _ _ _ _ _ _=>lS (fun _=>lS (fun _=>lS (fun _=>l0 rfl)))),⟨i83,j83,k83⟩,f84,_,eZ (st:=gj) l84 c84 k84,(eZ (st:=gj) l84 c84 k84).binds (ps:=["self","depth"]) (fun _ _ _ _ _ _=>lS (fun _=>lS (fun _=>l0 rfl))),⟨i84,j84,k84⟩,f85,_,eZ (st:=gE) l85 c85 k85,(eZ (st:=gE) l85 c85 k85).binds (ps:=["self","depth"]) (fun _ _ _ _ _ _=>lS (fun _=>lS (fun _=>l0 rfl))),⟨i85,j85,k85⟩,f86,_,eZ (st:=gm) l86 c86 k86,(eZ (st:=gm) l86 c86 k86).binds (ps:=["self","depth"]) (fun _ _ _ _ _ _=>lS (fun _=>lS (fun _=>l0 rfl))),⟨i86,j86,k86⟩,
  dz X G z_ValueError,
  dz X G z_all,
  dz X G z_bool,
  dz X G z_dict,
  dz X G z_enumerate,
  dz X G z_int,
  dz X G z_isinstance,
  dz X G z_len,
  dz X G z_list,
  dz X G z_min,
  dz X G z_range,
  dz X G z_reversed,
  dz X G z_str,
  dz X G z_tuple,
  dz X G z_zip⟩
 exact⟨dm "law" "law" (fj rG) (fh rG) (eT rG) .none kVL dcL pmL anL cdL ctL,fun s v=> .of_eq rfl,fun base _ _=>B7 T (sO (dy X G gD) sD hD (fun _=> .inr ⟨_,_,_,hD1,rfl,rfl,(by show 2<=sizeLine;decide),(.cons ⟨_,rfl⟩ (.cons ⟨_,rfl⟩ .nil))⟩) (fun _=> .inr ⟨_,_,_,hD2,rfl,rfl,(by show 2<=sizeLine;decide),(.cons ⟨_,rfl⟩ (.cons ⟨_,rfl⟩ .nil))⟩) (fun _=> .inr ⟨_,_,_,hD3,rfl,rfl,(by show 3<=sizeLine;decide),(.cons ⟨_,rfl⟩ (.cons ⟨_,rfl⟩ (.cons ⟨_,rfl⟩ .nil)))⟩) (fun _=> .inr ⟨_,_,_,hD4,rfl,rfl,(by show 2<=sizeLine;decide),(.cons ⟨_,rfl⟩ (.cons ⟨_,rfl⟩ .nil))⟩) (fun _=> .inr ⟨_,_,_,hD5,rfl,rfl,(by show 2<=sizeLine;decide),(.cons ⟨_,rfl⟩ (.cons ⟨_,rfl⟩ .nil))⟩) (fun _=> .inr ⟨_,_,_,hD6,rfl,rfl,(by show 3<=sizeLine;decide),(.cons ⟨_,rfl⟩ (.cons ⟨_,rfl⟩ (.cons ⟨_,rfl⟩ .nil)))⟩) (fun _=> .inr ⟨_,_,_,hD7,rfl,rfl,(by show 2<=sizeLine;decide),(.cons ⟨_,rfl⟩ (.cons ⟨_,rfl⟩ .nil))⟩) (fun _=> .inr ⟨_,_,_,hD8,rfl,rfl,(by show 1<=sizeLine;decide),(.cons ⟨_,rfl⟩ .nil)⟩) (fun _=> .inr ⟨_,_,_,hD9,rfl,rfl,(by show 2<=sizeLine;decide),(.cons ⟨_,rfl⟩ (.cons ⟨_,rfl⟩ .nil))⟩) (fun _=> .inr ⟨_,_,_,hD10,rfl,rfl,(by show 2<=sizeLine;decide),(.cons ⟨_,rfl⟩ (.cons ⟨_,rfl⟩ .nil))⟩) (fun _=> .inr ⟨_,_,_,hD11,rfl,rfl,(by show 2<=sizeLine;decide),(.cons ⟨_,rfl⟩ (.cons ⟨_,rfl⟩ .nil))⟩)) (Fq T (dy X G gW) sW hW) (eZ (st:=rG) lL cL kL)⟩
theorem walk {l:PySem.W.OpenLaw} {q:Program} {loose:List Str} {XP:(Str->Option Value)->Heap->Prop} {YP:World->Heap->Prop} {d:DefRec} {K:Params->PySem.W.Frag} (hn:l.most=some 63) (hdf:d.params.defaults=[])
  (hY:∀(w:World) (h:Heap),YP w h->(K w.params).In h)
  (F:∀(w:World) (mg:Str->Option Value) (fa:Addr) (h:Heap),(K w.params).In h->h.Ns mainGlobals mg->mg d.name=some (.ref fa)->
   ∃fd:FuncData,(∀(s:Shared) (u:Value),BindsTo s fd ⟨[u],[]⟩ [("_law_script",u)])/\∀base:Heap,(K w.params).In base->base.Ns mainGlobals mg->gu l.prog w (K w.params) mg base CX0 150 fa fd ["_law_script"] (vO (K w.params))):
  PySem.W.WalkO q loose XP YP l.row.toRowW d [] (fun f vs=>PySem.call f vs):=
 L2.Internal.walk_of (n:=63) (k:=150) (x:="_law_script") (CX:=fun _=>CX0) (sp:=fun w=>vO (K w.params)) hn (by decide) hdf ⟨rfl,by decide,by decide⟩ hY F (fun _ _ a ns hl _ hS=>⟨a,ns,rfl,hS,hl,fun _=>rfl⟩) fun _ _ _ _ _ z=>z
end K63.Internal
open PySem PySem.W PyProof.Rows
set_option maxRecDepth 100000 in
set_option maxHeartbeats 0 in
theorem PySem.Challenge.cw_flowkinds_k63_turning_round_holds : PySem.Challenge.rw_flowkinds_k63_turning_round.Holds := by
 w_on; o_law; k_head; (case hw => w_witness2)
 k_fill
 refine K63.Internal.walk (l := PySem.Challenge.rw_flowkinds_k63_turning_round) rfl rfl (fun w h Y => PySem.W.kIn_of Y) ?F
 case F =>
  intro w mg fa h KX G hmg
  apply K63.Internal.all_mk KX G hmg
  all_goals first | k_is | k_exc | rfl
