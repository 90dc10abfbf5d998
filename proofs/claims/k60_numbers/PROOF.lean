import PyProof.Rows.All
import Wide.All
import OpenK.AllK
import Wide.FinOn
import Lean
import PyProof.EqAt
import PyProof.EqKinds
import PyProof.TupleCall
import PyProof.NeKinds
import PySem.Challenge.RW_flowkinds_k60_numbers
set_option Elab.async false
set_option linter.all false
set_option maxRecDepth 100000
set_option maxHeartbeats 4000000
set_option genInjectivity false
set_option genSizeOf false
set_option bootstrap.genMatcherCode false
set_option compiler.extract_closed false
theorem fZ {c:Prop} {h:Decidable c} (hnc:¬c) {α:Sort u} {t e:α}:(ite c t e)=e:=if_neg hnc
theorem gx {c:Prop} {h:Decidable c} (hc:c) {α:Sort u} {t e:α}:(ite c t e)=t:=if_pos hc
theorem gR {p:Prop} [Decidable p] (h:p):decide p=true:=decide_eq_true h
theorem ig {p:Prop} [Decidable p] (h:¬p):decide p=false:=decide_eq_false h
theorem gq {p:Prop} (h:p:=by decide+kernel):p:=h
theorem n6:0<=PySem.sizeLine:=by decide
theorem tO:1<=PySem.sizeLine:=by decide
theorem my:2<=PySem.sizeLine:=by decide
theorem nA:3<=PySem.sizeLine:=by decide
theorem zln4:4<=PySem.sizeLine:=by decide
theorem Fo:5<=PySem.sizeLine:=by decide
theorem Fp:15<=PySem.sizeLine:=by decide
open List renaming all_cons→aY,all_eq_true→bI,all_map→bw,any_cons→aR,any_eq_true→bc,append_assoc→bJ,append_cancel_left→cf,append_nil→aD,cons_append→aS,dropLast_concat_getLast→bG,drop_eq_getElem_cons→bK,drop_length→bV,drop_zero→b0,eq_nil_of_length_eq_zero→bO,filterMap_cons→ag,filter_append→bH,find?_cons→aQ,flatten_cons→bN,forall_mem_cons→bR,getD_eq_getElem?_getD→bo,getElem?_append_left→aK,getElem?_append_right→aJ,getElem?_cons_succ→bC,getElem?_eq_getElem→bz,getElem?_eq_none→bD,getElem?_eq_some_iff→au,getElem?_map→aM,getElem?_of_mem→cb,getElem?_set_ne→aw,getElem?_set_self→av,getElem?_take→b9,head?_drop→bU,headD_eq_head?_getD→bT,length→aH,length_append→aO,length_cons→az,length_drop→aW,length_eq_zero_iff→bF,length_filter_le→bq,length_map→aC,length_nil→aT,length_range→cg,length_replicate→aP,length_reverse→bE,length_set→aX,length_singleton→ba,length_take→aI,length_zip→bQ,lookup→aA,lookup_cons→bj,map_append→bh,map_congr_left→bS,map_cons→aB,map_map→bA,map_nil→aU,mem_append→ao,mem_append_left→aq,mem_append_right→ay,mem_cons→ak,mem_cons_of_mem→aj,mem_cons_self→ah,mem_filterMap→ax,mem_iff_getElem?→b7,mem_map→bb,mem_of_getElem?→aN,mem_of_mem_drop→bL,mem_of_mem_take→cc,mem_range→af,mem_singleton→bf,mem_singleton_self→cm,nil_append→bP,nodup_append→bX,nodup_cons→aE,nodup_nil→b6,not_mem_nil→bB,of_mem_zip→aF,range→aa,range_succ_eq_map→bu,replicate→aG,replicate_succ'→cj,reverse_append→b8,reverse_cons→aZ,set_set→bp,singleton_append→bM,size_toArray→aV,take_add_one→bY,take_append_drop→bW,take_length→br,take_of_length_le→bZ,zip→bx
open Nat renaming add_sub_cancel_left→cR,le_add_right→cF,le_of_lt→cx,le_refl→cz,le_succ→cC,le_succ_of_le→cQ,le_trans→cw,lt_irrefl→cq,lt_of_le_of_lt→cD,lt_of_lt_of_le→cn,lt_succ_of_lt→cE,lt_succ_self→cB,mul_le_mul_right→cW,ne_of_gt→cy,ne_of_lt→cu,not_lt_zero→cO,sub_self→cM,succ_le_succ→cP,succ_pos→cU,toDigits→cG,toDigits_append_toDigits→cJ,toDigits_of_lt_base→cH,zero_add→cK,zero_le→cA
open Option renaming isSome_iff_exists→cY,isSome_map→c9,map_eq_some_iff→da,map_some→cZ,some→cX
open PySem.W renaming callWith_K→dJ,cellsFrom_some→dN,codeIn→dP,codeRec_of→dQ,emptyDict→dC,excIn→dR,findIn→du,fnOf→dO,hasDictIn→dt,hideAll→di,hideAll_get→dj,instObj→df,isFn→dy,keepIn→dE,kia_one→dG,kitOne→dF,kitx_dict→dI,kitx_list→dH,lookIn→dn,makesIn→dB,methodCall_KW→dM,methodObj→dh,mg_none_of→ee,mg_of→dZ,nsIn→dW,nsOkIn→dU,of_hideAll→dm,plainGet→dr,plainGet_of→dw,plainOver→dz,specialIn→dD,subIn→dS,tailIn→dY,takerIn→dA
open PySem.F renaming args_tuple_add_2→eB,entry_tuple_add→eA,excBase_ValueError→eC,plainAttrs_list→eG,plainAttrs_str→eF,slot_dict_getitem→eg,slot_dict_update→eE,slot_list_append→eI,slot_list_pop→eK,slot_str_join→eM,slot_tuple_add→ej,type_list_append→eJ,type_list_pop→eL,type_str_join→eO
open Bool renaming and_eq_true→eR,and_false→eS,eq_iff_iff→eQ,false_ne_true→eP,false_xor→eT,true_and→eU
open Array renaming getElem?_eq_getElem→eX,getElem?_toList→eW,length_toList→eV,toList_append→eY
open Int renaming emod_lt_of_pos→fe,emod_nonneg→fc,eq_ofNat_of_zero_le→fb,toNat_natCast→eZ
open PySem.Heap renaming get?_push_of_some→fh,get?_push_size→fg,get?_update_other→fq,get?_update_self→fo,lt_size→ff,size_push→fj
open PyProof.Rows renaming callWith_type1→fu,slot_tuple_getitem→fw
noncomputable section
namespace L2.Internal
theorem auR (h:True=True:=by rfl):True:=trivial
theorem auD (h:True:=by decide):True:=trivial
theorem auI (h:True->True=True:=by intro _;rfl):True:=trivial
theorem auL (h:True=True\/True:=by first|exact .inl rfl|exact .inr rfl|assumption):True:=trivial
open PySem PySem.Spec PyProof.Rows
abbrev Key:=Sum Int Str
def xr:Key->Value->Bool
 | .inl k,v=>Value.isInt k v
 | .inr x,v=>Value.isStrOf x v
def keyH (w:World):Key->Int
 | .inl k=>hashInt k
 | .inr x=>hashStr w x
theorem iB:∀{k:Key} {v:Value},xr k v=true->(∃i t,k=Sum.inl i/\v=Value.int i t)\/(∃x t,k=Sum.inr x/\v=Value.str x t)
 | .inl i,v,h=>by
  obtain⟨t,e⟩:=Value.isInt_shape (k:=i) (v:=v) h
  exact .inl ⟨i,t,rfl,e⟩
 | .inr x,v,h=>by
  obtain⟨t,e⟩:=Value.isStrOf_shape (x:=x) (v:=v) h
  exact .inr ⟨x,t,rfl,e⟩
theorem yp (i:Int) (t:Tok):xr (.inl i) (.int i t)=true:=by simp[xr,Value.isInt]
theorem pK (x:Str) (t:Tok):xr (.inr x) (.str x t)=true:=by simp[xr,Value.isStrOf]
theorem Dy (a b:Int):decide ((Sum.inl a:Key)=Sum.inl b)=(a==b):=by
 by_cases e:a=b
 ·subst e;simp
 ·have h:¬(Sum.inl a:Key)=Sum.inl b:=fun q=>e (Sum.inl.inj q)
  rw[ig h]
  exact(beq_eq_false_iff_ne.mpr e).symm
theorem Dz (a b:Str):decide ((Sum.inr a:Key)=Sum.inr b)=decide (a=b):=by
 by_cases e:a=b
 ·subst e;simp
 ·have h:¬(Sum.inr a:Key)=Sum.inr b:=fun q=>e (Sum.inr.inj q)
  rw[ig h,ig e]
theorem DA (a:Int) (b:Str):decide ((Sum.inl a:Key)=Sum.inr b)=false:=ig (fun q=>nomatch q)
theorem DB (a:Str) (b:Int):decide ((Sum.inr a:Key)=Sum.inl b)=false:=ig (fun q=>nomatch q)
def jg (prog:Program) (w:World):PySem.KeyKind prog w Key where
 is:=xr
 hash:=keyH w
 inj:=fun v a b ha hb=>by
  rcases iB ha with⟨i,t,rfl,rfl⟩|⟨x,t,rfl,rfl⟩
  ·rcases iB hb with⟨j,u,rfl,e⟩|⟨y,u,rfl,e⟩
   ·injection e with e1 _;rw[e1]
   ·exact nomatch e
  ·rcases iB hb with⟨j,u,rfl,e⟩|⟨y,u,rfl,e⟩
   ·exact nomatch e
   ·injection e with e1 _;rw[e1]
 byValue:=fun k v h=>by
  rcases iB h with⟨i,t,rfl,rfl⟩|⟨x,t,rfl,rfl⟩<;>rfl
 pyHash:=fun hv h=>by
  rcases iB hv with⟨i,t,rfl,rfl⟩|⟨x,t,rfl,rfl⟩
  ·exact wpAny_pyHash_int h
  ·exact wpAny_pyHash_str h
 eqBool:=fun hu hv h=>by
  rcases iB hu with⟨i,t,rfl,rfl⟩|⟨x,t,rfl,rfl⟩
  ·rcases iB hv with⟨j,u,rfl,rfl⟩|⟨y,u,rfl,rfl⟩
   ·rw[Dy]at h;exact wpAny_eqBool_int h
   ·rw[DA]at h;exact SeqAt.EqAt.int_str i t y u _ _ _ _ h
  ·rcases iB hv with⟨j,u,rfl,rfl⟩|⟨y,u,rfl,rfl⟩
   ·rw[DB]at h;exact SeqAt.EqAt.str_int x t j u _ _ _ _ h
   ·rw[Dz]at h;exact wpAny_eqBool_str h
 «strs»:=fun k x t v h=>by
  rcases iB h with⟨i,u,rfl,e⟩|⟨y,u,rfl,e⟩
  ·exact nomatch e
  ·injection e with e1 _
   subst e1
   cases v<;>rfl
theorem uZ (prog:Program) (w:World) (i:Int) (t:Tok):(jg prog w).is (.inl i) (.int i t)=true:=yp i t
theorem u0 (prog:Program) (w:World) (x:Str) (t:Tok):(jg prog w).is (.inr x) (.str x t)=true:=pK x t
end L2.Internal
namespace L2.Internal
open PySem PySem.Spec PyProof.Rows
set_option genInjectivity true in
inductive V where
 |non|bl (b:Bool)|int (i:Int)|str (x:Str)|byt (b:Array UInt8)|flt (b:UInt64)|ref (a:Addr)|ty (n:String)
 deriving DecidableEq
def iq:V->Value->Prop
 | .non,u=>u=Value.none
 | .bl b,u=>u=Value.bool b
 | .int i,u=>∃t,u=Value.int i t
 | .str x,u=>∃t,u=Value.str x t
 | .byt b,u=>∃t,u=Value.bytes b t
 | .flt b,u=>∃t,u=Value.float b t
 | .ref a,u=>u=Value.ref a
 | .ty n,u=>u=Value.type n
abbrev ik:List V->List Value->Prop:=Paired iq
theorem ik.length {xs:List V} {us:List Value} (r:ik xs us):xs.length=us.length:=Paired.length r
theorem ik.get:∀{xs:List V} {us:List Value} {i:Nat} {x:V},ik xs us->xs[i]?=some x->∃u,us[i]?=some u/\iq x u
 |_,_,_,_,.nil,e=>by simp at e
 |_,_,0,_,.cons r _,e=>by simp at e;subst e;exact⟨_,rfl,r⟩
 |_,_,i+ 1,x,.cons _ t,e=>by
  obtain⟨u,h1,h2⟩:=ik.get (i:=i) (x:=x) t (by simpa using e)
  exact⟨u,by simpa using h1,h2⟩
theorem ik.set {x:V} {u:Value} (r:iq x u):∀{xs:List V} {us:List Value} (i:Nat),ik xs us->ik (xs.set i x) (us.set i u)
 |_,_,_,.nil=> .nil
 |_,_,0,.cons _ t=> .cons r t
 |_,_,i+ 1,.cons q t=> .cons q (ik.set r i t)
theorem ik.append:∀{xs ys:List V} {us ws:List Value},ik xs us->ik ys ws->ik (xs++ys) (us++ws)
 |_,_,_,_,.nil,s=>s
 |_,_,_,_,.cons r t,s=> .cons r (ik.append t s)
theorem ik.take:∀{xs:List V} {us:List Value} (n:Nat),ik xs us->ik (xs.take n) (us.take n)
 |_,_,0,_=> .nil
 |_,_,_+ 1,.nil=> .nil
 |_,_,n+ 1,.cons r t=> .cons r (ik.take n t)
theorem ik.drop:∀{xs:List V} {us:List Value} (n:Nat),ik xs us->ik (xs.drop n) (us.drop n)
 |_,_,0,r=>r
 |_,_,_+ 1,.nil=> .nil
 |_,_,n+ 1,.cons _ t=>ik.drop n t
def rY:Option V->Option Value->Prop
 |some v,some u=>iq v u
 |none,none=>True
 |_,_=>False
def KV {κ:Type}:List (κ×V)->List (κ×Value)->Prop:=Paired fun(p:κ×V) (q:κ×Value)=>p.1=q.1/\iq p.2 q.2
def kV:Key->V
 | .inl i=> .int i
 | .inr x=> .str x
inductive HO where
 |lst (xs:List V)
 |tup (xs:List V)
 |dK (kvs:List (Key×V))|dT (kvs:List (List Key×V))
 |set (S:Int->Bool) (n:Nat)
 |ins (C dx:Addr) (fs:List (Str×V))
 |own (x:Addr)
 |xd (fs:List (Str×V))
 |met (f x:Addr)
 |rng (lo hi:Int)
 |frz (o:Obj) (u:HO)
 |tbl (ps:Array Value)
 |ext (φ:Heap->Prop)
abbrev Hp:=Addr->Option HO
def yl (h:Heap) (a:Addr) (items:Array Value):Prop:=∃o,h.get? a=some o/\o.cls= .type "tuple"/\∃n,o.data= .seq items n/\o.dict=none
theorem yl.tup {h:Heap} {a:Addr} {items:Array Value}:yl h a items->IsTup h a items
 |⟨o,h1,h2,n,h3,_⟩=>⟨o,h1,h2,n,h3⟩
theorem yl.lt {h:Heap} {a:Addr} {items:Array Value} (p:yl h a items):a<h.objs.size:=by
 obtain⟨o,e,_⟩:=p
 exact ff e
theorem yl.new (h:Heap) (items:Array Value):yl (h.push {cls:= .type "tuple",data:= .seq items}) h.objs.size items:=⟨_,fg _ rfl,rfl,_,rfl,rfl⟩
def upd (H:Hp) (a:Addr) (o:HO):Hp:=fun b=>if b=a then some o else H b
theorem fC {H:Hp} {a:Addr} {o:HO}:upd H a o a=some o:=by unfold upd;rw[gx rfl]
theorem fO {H:Hp} {a b:Addr} {o:HO} (h:b≠a):upd H a o b=H b:=by unfold upd;rw[fZ h]
theorem yq {H:Hp} {a:Addr} {o u:HO}:upd (upd H a o) a u=upd H a u:=by
 funext b;unfold upd;split<;>rfl
theorem jX {H:Hp} {a b:Addr} {o u:HO} (h:H a=some o) (h':H b=some u) (d:o≠u):a≠b:=by
 intro e;subst e;rw[h]at h';exact d (cX.inj h')
theorem fJ {H:Hp} {a b:Addr} {o:HO} (h:H a=some o) (h':H b=none):a≠b:=by
 intro e;subst e;rw[h]at h';cases h'
section
variable (P:Program) (w:World)
def jn (H:Hp) (h:Heap) (a:Addr):HO->Prop
 | .lst xs=>xs.length<=sizeLine/\∃(its:List Value) (n:Nat),ik xs its/\h.get? a=some {cls:= .type "list",data:= .seq its.toArray n}
 | .tup xs=>xs.length<=sizeLine/\∃its:List Value,ik xs its/\yl h a its.toArray
 | .dK kvs=>kvs.length<=sizeLine/\(a==sysModules)=false/\∃vs,KV kvs vs/\h.DictOf (jg P w) a vs
 | .dT kvs=>kvs.length<=sizeLine/\(a==sysModules)=false/\∃xs:List (List Key×Addr×Value),
   Paired (fun(p:List Key×V) (q:List Key×Addr×Value)=>p.1=q.1/\H q.2.1=some (.tup (p.1.map kV))/\iq p.2 q.2.2) kvs xs/\
   ∃o es ep,h.get? a=some o/\o.ExactDict/\o.data= .dict es ep/\es.toList=xs.map (entryOfKey (tupleKind (jg P w)))/\(xs.map (·.1)).Nodup
 | .set S n=>h.SetOf (intKind P w) a S n
 | .ins C dx fs=>H dx=some (.own a)/\fs.length<=1000/\dx≠a/\h.get? a=some (df C dx)/\
   ∃mA,h.Ns1 dx mA/\(∀f,rY (fs.lookup f) (mA f))/\PySem.Within mA (fs.map (·.1))
 | .own _=>∃o,h.get? a=some o
 | .xd fs=>∃mA,h.Ns1 a mA/\∀f,rY (fs.lookup f) (mA f)
 | .rng lo hi=>∃t u v,h.get? a=some {cls:= .type "range",data:= .fields #[.int lo t,.int hi u,.int 1 v]}
 | .frz o u=>h.get? a=some o/\jn H h a u
 | .tbl ps=>h.get? a=some {cls:= .none,data:= .fields ps}
 | .met f x=>h.get? a=some (dh (.ref f) (.ref x))
 | .ext φ=>φ h/\(∃o,h.get? a=some o)/\∀h1 h2:Heap,φ h1->(∀o,h1.get? a=some o->h2.get? a=some o)->φ h2
def HOk (H:Hp) (h:Heap):Prop:=∀a o,H a=some o->jn P w H h a o
end
section
variable {P:Program} {w:World} {H H':Hp} {h h':Heap} {a:Addr} {o:HO}
theorem jn.lt (x:jn P w H h a o):a<h.objs.size:=by
 cases o with
 |lst xs=>obtain⟨_,_,_,_,e⟩:=x;exact ff e
 |tup xs=>obtain⟨_,_,_,p⟩:=x;exact p.lt
 |dK kvs=>obtain⟨_,_,_,_,o,_,_,e,_⟩:=x;exact ff e
 |dT kvs=>obtain⟨_,_,_,_,o,_,_,e,_⟩:=x;exact ff e
 |set S n=>obtain⟨o,_,_,_,e,_⟩:=x;exact ff e
 |ins C dx fs=>obtain⟨_,_,_,e,_⟩:=x;exact ff e
 |own y=>obtain⟨_,e⟩:=x;exact ff e
 |xd fs=>obtain⟨_,⟨_,_,_,e,_⟩,_⟩:=x;exact ff e
 |rng lo hi=>obtain⟨_,_,_,e⟩:=x;exact ff e
 |frz ob u=>obtain⟨e,_⟩:=x;exact ff e
 |tbl ps=>exact ff (show h.get? a=some _ from x)
 |met f y=>exact ff (show h.get? a=some _ from x)
 |ext φ=>obtain⟨_,⟨_,e⟩,_⟩:=x;exact ff e
theorem Paired.mapP {α β:Type} {F G:α->β->Prop}:∀{l₁:List α} {l₂:List β},Paired F l₁ l₂->(∀a b,F a b->G a b)->Paired G l₁ l₂
 |_,_,.nil,_=> .nil
 |_,_,.cons r t,f=> .cons (f _ _ r) (Paired.mapP t f)
theorem jn.stay (x:jn P w H h a o) (k:∀b u,(b=a\/H b=some (.own a))->h.get? b=some u->h'.get? b=some u)
  (ho:∀b,H b=some (.own a)->H' b=some (.own a)) (ht:∀b xs,H b=some (.tup xs)->H' b=some (.tup xs)):jn P w H' h' a o:=by
 induction o with
 |lst xs=>obtain⟨z,its,n,r,e⟩:=x;exact⟨z,its,n,r,k _ _ (.inl rfl) e⟩
 |tup xs=>obtain⟨z,its,r,ob,e,c⟩:=x;exact⟨z,its,r,ob,k _ _ (.inl rfl) e,c⟩
 |dK kvs=>obtain⟨z,y,vs,r,ob,es,ep,e,c⟩:=x;exact⟨z,y,vs,r,ob,es,ep,k _ _ (.inl rfl) e,c⟩
 |dT kvs=>
  obtain⟨z,y,xs,r,ob,es,ep,e,c⟩:=x
  exact⟨z,y,xs,Paired.mapP r fun p q z=>⟨z.1,ht _ _ z.2.1,z.2.2⟩,ob,es,ep,k _ _ (.inl rfl) e,c⟩
 |set S n=>obtain⟨ob,es,ep,t,e,c⟩:=x;exact⟨ob,es,ep,t,k _ _ (.inl rfl) e,c⟩
 |ins C dx fs=>
  obtain⟨d,z,ne,e,mA,⟨od,es,ep,e2,c⟩,r⟩:=x
  exact⟨ho _ d,z,ne,k _ _ (.inl rfl) e,mA,⟨od,es,ep,k _ _ (.inr d) e2,c⟩,r⟩
 |own y=>obtain⟨ob,e⟩:=x;exact⟨ob,k _ _ (.inl rfl) e⟩
 |xd fs=>obtain⟨mA,⟨od,es,ep,e,c⟩,r⟩:=x;exact⟨mA,⟨od,es,ep,k _ _ (.inl rfl) e,c⟩,r⟩
 |rng lo hi=>obtain⟨t,u,v,e⟩:=x;exact⟨t,u,v,k _ _ (.inl rfl) e⟩
 |frz ob u ih=>obtain⟨e,q⟩:=x;exact⟨k _ _ (.inl rfl) e,ih q⟩
 |tbl ps=>
  have e:h.get? a=some {cls:= .none,data:= .fields ps}:=x
  show h'.get? a=some {cls:= .none,data:= .fields ps}
  exact k a _ (.inl rfl) e
 |met f y=>
  have e:h.get? a=some (dh (.ref f) (.ref y)):=x
  show h'.get? a=some (dh (.ref f) (.ref y))
  exact k a _ (.inl rfl) e
 |ext φ=>obtain⟨p,⟨o,e⟩,st⟩:=x;exact⟨st _ _ p fun o q=>k _ _ (.inl rfl) q,⟨o,k _ _ (.inl rfl) e⟩,st⟩
theorem HOk.lt (x:HOk P w H h) (e:H a=some o):a<h.objs.size:=(x a o e).lt
theorem HOk.fresh (x:HOk P w H h) (e:h.objs.size<=a):H a=none:=by
 cases q:H a with
 |none=>rfl
 |some u=>exact absurd (cn (x.lt q) e) (cq _)
theorem HOk.kept (x:HOk P w H h) (k:∀b u,h.get? b=some u->h'.get? b=some u):HOk P w H h':=fun a o e=>
 (x a o e).stay (fun b u _ q=>k b u q) (fun _ q=>q) fun _ _ q=>q
theorem HOk.laid (x:HOk P w H h) (k:∀b u,h.get? b=some u->h'.get? b=some u) (hp:h.objs.size<=a) (new:jn P w (upd H a o) h' a o):HOk P w (upd H a o) h':=fun b u e=>by
 have hn:=x.fresh hp
 by_cases hb:b=a
 ·subst hb;rw[fC]at e;cases e;exact new
 ·rw[fO hb]at e
  exact(x b u e).stay (fun c v _ q=>k c v q) (fun c q=>by rw[fO (fJ q hn)];exact q) fun c xs q=>by rw[fO (fJ q hn)];exact q
end
def Rd (H:Hp) (a:Addr) (u:HO):Prop:=H a=some u\/∃o,H a=some (.frz o u)
theorem Rd.ok {P:Program} {w:World} {H:Hp} {h:Heap} {a:Addr} {u:HO} (r:Rd H a u) (x:HOk P w H h):jn P w H h a u:=by
 rcases r with r|⟨o,r⟩
 ·exact x a u r
 ·obtain⟨_,q⟩:=x a _ r
  exact q
def Mut:Option HO->Prop
 |some (.lst _)=>True
 |some (.dK _)=>True
 |some (.dT _)=>True
 |some (.set _ _)=>True
 |some (.ins _ _ _)=>True
 |some (.ext _)=>True
 |_=>False
section
variable {P:Program} {w:World} {H:Hp} {h h':Heap} {x e:Addr} {o':HO}
theorem HOk.write (ok:HOk P w H h) (mu:Mut (H x)) (he:e=x\/H e=some (.own x)) (k:∀b u,b≠e->h.get? b=some u->h'.get? b=some u) (heo:∃u,h'.get? e=some u)
  (new:jn P w (upd H x o') h' x o'):HOk P w (upd H x o') h':=fun b u q=>by
 have nown:∀c y,H c=some (.own y)->c≠x:=fun c y r z=>by subst z;rw[r]at mu;exact mu
 have ntup:∀c xs,H c=some (.tup xs)->c≠x:=fun c xs r z=>by subst z;rw[r]at mu;exact mu
 by_cases hb:b=x
 ·subst hb;rw[fC]at q;cases q;exact new
 ·rw[fO hb]at q
  by_cases hbe:b=e
  ·have q':H b=some (.own x):=by
    rcases he with z|z
    ·exact absurd (hbe.trans z) hb
    ·rw[hbe];exact z
   rw[q]at q';cases q'
   obtain⟨v,hv⟩:=heo
   exact⟨v,by rw[hbe];exact hv⟩
  ·refine(ok b u q).stay (fun c v hc r=>k c v ?_ r) (fun c r=>by rw[fO (nown c b r)];exact r) fun c xs r=>by rw[fO (ntup c xs r)];exact r
   rcases hc with rfl|hc
   ·exact hbe
   ·rintro rfl
    rcases he with z|z
    ·exact nown c b hc z
    ·rw[hc]at z;cases z;exact hb rfl
end
structure Un (fs ex:List Addr) (H H':Hp) (h h':Heap):Prop where
 keep:∀b o,h.get? b=some o->H b=none->b∉fs->b∉ex->h'.get? b=some o
 slot:∀b o,h.get? b=some o->H b=none->b∈fs->b∉ex->∃sl,h'.get? b=some {o with slots:=sl}
 free:∀b o,h.get? b=some o->H b=none->b∉ex->H' b=none
 there:∀b o,h.get? b=some o->b∉ex->∃o',h'.get? b=some o'
 tups:∀b xs,H b=some (.tup xs)->H' b=some (.tup xs)
 frzs:∀b o u,H b=some (.frz o u)->H' b=some (.frz o u)
 tbls:∀b ps,H b=some (.tbl ps)->∃more,H' b=some (.tbl (ps++more))
section
variable {fs fs' ex ex':List Addr} {H H1 H2:Hp} {h h1 h2 h':Heap} {a x e:Addr} {o:HO}
theorem Un.any (u:Un fs ex H H1 h h1) {b:Addr} {ob:Obj} (q:h.get? b=some ob) (n:H b=none) (hx:b∉ex):∃sl,h1.get? b=some {ob with slots:=sl}:=by
 by_cases hb:b∈fs
 ·exact u.slot b ob q n hb hx
 ·exact⟨ob.slots,u.keep b ob q n hb hx⟩
theorem Un.trans (a:Un fs ex H H1 h h1) (b:Un fs ex H1 H2 h1 h2):Un fs ex H H2 h h2 where
 keep:=fun c ob q n hc hx=>b.keep c ob (a.keep c ob q n hc hx) (a.free c ob q n hx) hc hx
 slot:=fun c ob q n hc hx=>by
  obtain⟨sl,e1⟩:=a.slot c ob q n hc hx
  obtain⟨sl',e2⟩:=b.slot c _ e1 (a.free c ob q n hx) hc hx
  exact⟨sl',e2⟩
 free:=fun c ob q n hx=>by
  obtain⟨o',e1⟩:=a.there c ob q hx
  exact b.free c o' e1 (a.free c ob q n hx) hx
 there:=fun c ob q hx=>by
  obtain⟨o',e1⟩:=a.there c ob q hx
  exact b.there c o' e1 hx
 tups:=fun c xs q=>b.tups c xs (a.tups c xs q)
 frzs:=fun c ob xs q=>b.frzs c ob xs (a.frzs c ob xs q)
 tbls:=fun c ps q=>by
  obtain⟨m1,e1⟩:=a.tbls c ps q
  obtain⟨m2,e2⟩:=b.tbls c _ e1
  exact⟨m1++m2,by rw[e2,Array.append_assoc]⟩
theorem Un.kept (k:∀b u,h.get? b=some u->h'.get? b=some u):Un fs ex H H h h':=
 ⟨fun b ob q _ _ _=>k b ob q,fun b ob q _ _ _=>⟨ob.slots,k b ob q⟩,fun _ _ _ n _=>n,fun b ob q _=>⟨ob,k b ob q⟩,fun _ _ q=>q,fun _ _ _ q=>q,fun _ ps q=>⟨#[],by rw[q];simp⟩⟩
theorem Un.refl:Un fs ex H H h h:=Un.kept fun _ _ q=>q
theorem Un.laid (k:∀b u,h.get? b=some u->h'.get? b=some u) (hp:h.objs.size<=a) (hn:H a=none):Un fs ex H (upd H a o) h h' where
 keep:=fun b u q _ _ _=>k b u q
 slot:=fun b u q _ _ _=>⟨u.slots,k b u q⟩
 free:=fun b u q n _=>by rw[fO (cu (cn (ff q) hp))];exact n
 there:=fun b u q _=>⟨u,k b u q⟩
 tups:=fun b xs q=>by rw[fO (fJ q hn)];exact q
 frzs:=fun b u xs q=>by rw[fO (fJ q hn)];exact q
 tbls:=fun b ps q=>⟨#[],by rw[fO (fJ q hn),q];simp⟩
theorem Un.write (mu:Mut (H x)) (he:e=x\/H e=some (.own x)) (k:∀b u,b≠e->h.get? b=some u->h'.get? b=some u) (heo:∃u,h'.get? e=some u):Un fs ex H (upd H x o) h h':=by
 have hx:∀b,H b=none->b≠x:=fun b n z=>by subst z;rw[n]at mu;exact mu
 have hb:∀b,H b=none->b≠e:=fun b n z=>by
  subst z
  rcases he with r|r
  ·exact hx b n r
  ·rw[n]at r;cases r
 have hm:∀b u,H b=some u->¬Mut (some u)->b≠x:=fun b u q nm z=>by subst z;rw[q]at mu;exact nm mu
 refine⟨fun b u q n _ _=>k b u (hb b n) q,fun b u q n _ _=>⟨u.slots,k b u (hb b n) q⟩,fun b u q n _=>by rw[fO (hx b n)];exact n,fun b u q _=>?_,
  fun b xs q=>by rw[fO (hm b _ q fun z=>z)];exact q,fun b u xs q=>by rw[fO (hm b _ q fun z=>z)];exact q,fun b ps q=>⟨#[],by rw[fO (hm b _ q fun z=>z),q];simp⟩⟩
 by_cases hbe:b=e
 ·subst hbe;exact heo
 ·exact⟨u,k b u hbe q⟩
end
def trk (h:Heap) (H:Hp):List Addr:=(aa h.objs.size).filter fun a=>(H a).isSome
def Aw (h:Heap) (H:Hp):Heap:=di h (trk h H)
theorem yr (h:Heap) (H:Hp):(Aw h H).objs.size=h.objs.size:=PySem.W.hideAll_size _ _
theorem Ax {h:Heap} {H:Hp} {b:Addr} {o:Obj} (e:h.get? b=some o) (n:H b=none):(Aw h H).get? b=some o:=
 dj _ e fun hm=>by
  have q:(H b).isSome=true:=(List.mem_filter.mp hm).2
  rw[n]at q;simp at q
theorem BW {h:Heap} {H:Hp} {b:Addr} {o:Obj} (e:(Aw h H).get? b=some o):h.get? b=some o/\H b=none:=by
 have e':h.get? b=some o:=dm (trk h H) e
 refine⟨e',?_⟩
 cases q:H b with
 |none=>rfl
 |some x=>
  have hm:b∈trk h H:=List.mem_filter.mpr ⟨af.mpr (ff e'),by simp[q]⟩
  have z:(Aw h H).get? b=none:=PySem.W.hideAll_none (trk h H) hm
  rw[z]at e;cases e
structure Mod (K:PySem.W.Frag) (mg:Str->Option Value) (base:Heap):Prop where
 kin:K.In base
 glob:base.Ns mainGlobals mg
 blt:∃mb,base.Ns builtinsNs mb/\∀x:Str,x≠"__name__"->mb x=bootBuiltins x
 nolimit:base.NoLimit
structure Cx where
 prog:Program
 w:World
 K:PySem.W.Frag
 mg:Str->Option Value
 base:Heap
 A:Around
 N:List Str
 s₀:Shared
 H₀:Hp
 env:Env
 outer:List Env
 stack:List Env
 ex:List Addr
 fn:Str->Bool
 calm:Bool
 pn:List (Addr×Obj)
 xe:Value->Shared->Prop
def frs (l:List Env):List Addr:=l.filterMap (·.frame)
abbrev Cx.fs (X:Cx):List Addr:=frs X.outer
def Vis (sc:Scope) (x:Str):Prop:=sc.names.lookup x=some .local\/sc.names.lookup x=some .cell\/sc.names.lookup x=some .free
def Loc (sc:Scope) (x:Str):Prop:=sc.names.lookup x=some .local\/sc.names.lookup x=some .cell
def Look (env:Env) (h:Heap) (m:Str->Option Value) (x:Str) (u:Value):Prop:=
 (env.kindOf x=some .local/\m x=some u)\/((env.kindOf x=some .cell\/env.kindOf x=some .free)/\∃c,env.cells.lookup x=some c/\h.IsCell c (some u))
structure Cx.Ok (X:Cx):Prop where
 mod:Mod X.K X.mg X.base
 kind:X.env.scope.kind= .function
 glob:X.env.globals=mainGlobals
 blt:X.env.builtins=builtinsNs
 above:X.s₀.heap.objs.size<=X.env.locals
 inj:∀x y c,X.env.cells.lookup x=some c->X.env.cells.lookup y=some c->x=y
 has:∀x,(X.env.kindOf x=some .cell\/X.env.kindOf x=some .free)->∃c,X.env.cells.lookup x=some c
 cab:∀x c,X.fn x=true->X.env.cells.lookup x=some c->X.s₀.heap.objs.size<=c
 hd:X.calm=true->X.A.handled=none
 frames:X.A.frames=some X.stack
 stk:X.stack=X.outer\/(X.stack=X.env::X.outer/\X.env.frame=some X.env.locals)
 exf:∀b∈X.ex,b≠X.env.locals/\∀x c,X.env.cells.lookup x=some c->c≠b
 bs:∀b o,X.base.get? b=some o->X.s₀.heap.get? b=some o/\X.H₀ b=none
 bsz:X.base.objs.size<=X.s₀.heap.objs.size
 noex:∀b o,X.base.get? b=some o->b∉X.ex
 exfs:∀b∈X.ex,b∉X.fs
 funs:X.s₀.heap.FunFrames X.base X.outer
 frf:∀b∈X.fs,X.H₀ b=none
structure Inv (X:Cx) (pz:List (Addr×Obj)) (σ:List (Option V)) (H:Hp) (s:Shared):Prop where
 ok:X.Ok
 os:s.os=X.s₀.os
 bare:AllBare s.gens
 base:Un X.fs X.ex X.H₀ H X.s₀.heap s.heap
 loc:∃m,s.heap.Ns X.env.locals m/\∀(i:Nat) (x:Str) (v:V),X.N[i]?=some x->σ[i]?=some (some v)->Vis X.env.scope x->∃u,iq v u/\Look X.env s.heap m x u
 cell:∀x c,X.env.cells.lookup x=some c->∃v,s.heap.IsCell c v
 free:H X.env.locals=none
 freeC:∀x c,X.env.cells.lookup x=some c->H c=none
 pin:∀p∈X.pn++pz,s.heap.get? p.1=some p.2/\H p.1=none/\p.1≠X.env.locals/\p.1∉X.fs/\∀v,p.2.data≠ .cell v
 hok:HOk X.prog X.w H s.heap
 len:σ.length=X.N.length
section
variable {X:Cx} {pz:List (Addr×Obj)} {σ:List (Option V)} {H H':Hp} {s:Shared} {h':Heap}
theorem Cx.Ok.nofr (ok:X.Ok) {b:Addr} {o:Obj} (e:X.base.get? b=some o):b∉X.fs:=fun hb=>by
 have:=(ok.funs.mem hb).1
 rw[e]at this;cases this
theorem Inv.bs (I:Inv X pz σ H s):∀b o,X.base.get? b=some o->s.heap.get? b=some o/\H b=none:=fun b o e=>
 ⟨I.base.keep b o (I.ok.bs b o e).1 (I.ok.bs b o e).2 (I.ok.nofr e) (I.ok.noex b o e),I.base.free b o (I.ok.bs b o e).1 (I.ok.bs b o e).2 (I.ok.noex b o e)⟩
theorem Inv.bk (I:Inv X pz σ H s):∀b o,X.base.get? b=some o->s.heap.get? b=some o:=fun b o e=>(I.bs b o e).1
theorem Inv.mod (I:Inv X pz σ H s):Mod X.K X.mg X.base:=I.ok.mod
theorem Inv.kIn (I:Inv X pz σ H s):X.K.In s.heap:=I.ok.mod.kin.keeps I.bk
theorem Inv.lt (I:Inv X pz σ H s):X.env.locals<s.heap.objs.size:=let⟨_,hn,_⟩:=I.loc;hn.lt
theorem Inv.sz (I:Inv X pz σ H s):X.s₀.heap.objs.size<=s.heap.objs.size:=cw I.ok.above (cx I.lt)
theorem Inv.nofs (I:Inv X pz σ H s) {a:Addr} (h:s.heap.objs.size<=a):a∉X.fs:=fun hb=>by
 obtain⟨_,o,ho,_⟩:=I.ok.funs.mem hb
 exact absurd (cn (ff ho) (cw I.sz h)) (cq _)
theorem Inv.cne (I:Inv X pz σ H s):∀x c,X.env.cells.lookup x=some c->c≠X.env.locals:=fun x c e z=>by
 obtain⟨v,o,ho,hd⟩:=I.cell x c e
 obtain⟨m,⟨o',es,ep,ho',hd',_⟩,_⟩:=I.loc
 rw[z,ho']at ho;cases ho;rw[hd']at hd;cases hd
theorem Inv.funs (I:Inv X pz σ H s):s.heap.FunFrames X.base X.outer:=by
 have all:∀(l:List Env),(∀b∈frs l,b∈X.fs)->X.s₀.heap.FunFrames X.base l->s.heap.FunFrames X.base l:=by
  intro l
  induction l with
  |nil=>intro _ _;trivial
  |cons env r ih=>
   intro hs hl
   obtain⟨hk,⟨L,o,hf,hn,ho,hd⟩,hr⟩:=hl
   have hL:L∈X.fs:=hs L (by unfold frs;rw[ag,hf];exact ah)
   obtain⟨sl,e⟩:=I.base.slot L o ho (I.ok.frf L hL) hL fun z=>I.ok.exfs L z hL
   exact⟨hk,⟨L,_,hf,hn,e,hd⟩,ih (fun b hb=>hs b (by unfold frs;rw[ag,hf];exact aj _ hb)) hr⟩
 exact all X.outer (fun _ hb=>hb) I.ok.funs
theorem Inv.stack (I:Inv X pz σ H s):s.heap.FunFrames X.base X.stack:=by
 rcases I.ok.stk with e|⟨e,hf⟩
 ·rw[e];exact I.funs
 ·rw[e]
  obtain⟨m,hn,_⟩:=I.loc
  refine .cons (by rw[I.ok.kind];decide) hf hn ?_ I.funs
  exact Heap.get?_none_of_le (cw I.ok.bsz I.ok.above)
theorem Inv.stkSub (I:Inv X pz σ H s):∀b∈frs X.stack,b∈X.env.locals::X.fs:=fun b hb=>by
 rcases I.ok.stk with e|⟨e,hf⟩
 ·rw[e]at hb;exact aj _ hb
 ·rw[e]at hb
  unfold frs at hb
  rw[ag,hf]at hb
  exact hb
theorem Inv.stkFree (I:Inv X pz σ H s):∀b∈frs X.stack,H b=none:=fun b hb=>by
 rcases ak.mp (I.stkSub b hb)with e|hb
 ·rw[e];exact I.free
 ·obtain⟨_,o,ho,_⟩:=I.ok.funs.mem hb
  exact I.base.free b o ho (I.ok.frf b hb) fun z=>I.ok.exfs b z hb
theorem Inv.step {g':Array GenState} {t':Nat} {d':Drawn} {ch:List Addr} (I:Inv X pz σ H s)
  (hch:∀b∈ch,(b∈X.ex\/X.s₀.heap.objs.size<=b)/\b≠X.env.locals/\(∀x c,X.env.cells.lookup x=some c->c≠b)/\∀p∈X.pn++pz,p.1≠b)
  (keep:∀b o,b≠X.env.locals->b∉X.fs->b∉ch->s.heap.get? b=some o->H b=none->h'.get? b=some o)
  (slot:∀b o,b≠X.env.locals->b∈X.fs->b∉ch->s.heap.get? b=some o->H b=none->∃sl,h'.get? b=some {o with slots:=sl}) (free:∀b o,b∉ch->s.heap.get? b=some o->H b=none->H' b=none)
  (there:∀b o,b∉ch->s.heap.get? b=some o->∃o',h'.get? b=some o')
  (tups:∀b xs,H b=some (.tup xs)->H' b=some (.tup xs)) (frzs:∀b o u,H b=some (.frz o u)->H' b=some (.frz o u)) (tbls:∀b ps,H b=some (.tbl ps)->∃more,H' b=some (.tbl (ps++more)))
  (ns:∀m,s.heap.Ns X.env.locals m->h'.Ns X.env.locals m) (hok:HOk X.prog X.w H' h') (hg:AllBare g'):
  Inv X pz σ H' {s with heap:=h',gens:=g',drawn:=d',toks:=t'}:=by
 have neL:∀b o,X.s₀.heap.get? b=some o->b≠X.env.locals:=fun b o e=>cu (cn (ff e) I.ok.above)
 have neC:∀b o,X.s₀.heap.get? b=some o->b∉X.ex->b∉ch:=fun b o e hx hb=>by
  rcases(hch b hb).1 with z|z
  ·exact hx z
  ·exact absurd (cn (ff e) z) (cq _)
 have cellK:∀x c,X.env.cells.lookup x=some c->∀v,s.heap.IsCell c v->h'.IsCell c v:=fun x c e v ⟨o,ho,hd⟩=>by
  have nch:c∉ch:=fun z=>(hch c z).2.2.1 x c e rfl
  by_cases hc:c∈X.fs
  ·obtain⟨sl,q⟩:=slot c o (I.cne x c e) hc nch ho (I.freeC x c e)
   exact⟨_,q,hd⟩
  ·exact⟨o,keep c o (I.cne x c e) hc nch ho (I.freeC x c e),hd⟩
 refine⟨I.ok,I.os,hg,⟨fun b o e n hb hx=>?_,fun b o e n hb hx=>?_,fun b o e n hx=>?_,fun b o e hx=>?_,fun b xs e=>tups b xs (I.base.tups b xs e),fun b o xs e=>frzs b o xs (I.base.frzs b o xs e),fun b ps e=>?_⟩,?_,fun x c e=>?_,?_,fun x c e=>?_,fun p hp=>?_,hok,I.len⟩
 ·exact keep b o (neL b o e) hb (neC b o e hx) (I.base.keep b o e n hb hx) (I.base.free b o e n hx)
 ·obtain⟨sl,e1⟩:=I.base.slot b o e n hb hx
  obtain⟨sl',e2⟩:=slot b _ (neL b o e) hb (neC b o e hx) e1 (I.base.free b o e n hx)
  exact⟨sl',e2⟩
 ·obtain⟨o',e1⟩:=I.base.there b o e hx
  exact free b o' (neC b o e hx) e1 (I.base.free b o e n hx)
 ·obtain⟨o',e1⟩:=I.base.there b o e hx
  exact there b o' (neC b o e hx) e1
 ·obtain⟨m1,e1⟩:=I.base.tbls b ps e
  obtain⟨m2,e2⟩:=tbls b _ e1
  exact⟨m1++m2,by rw[e2,Array.append_assoc]⟩
 ·obtain⟨m,hn,hl⟩:=I.loc
  refine⟨m,ns m hn,fun i x v e1 e2 e3=>?_⟩
  obtain⟨u,r,l⟩:=hl i x v e1 e2 e3
  refine⟨u,r,?_⟩
  rcases l with l|⟨k,c,e,z⟩
  ·exact .inl l
  ·exact .inr ⟨k,c,e,cellK x c e _ z⟩
 ·obtain⟨v,z⟩:=I.cell x c e
  exact⟨v,cellK x c e v z⟩
 ·obtain⟨m,⟨o,_,_,ho,_⟩,_⟩:=I.loc
  exact free _ o (fun z=>(hch _ z).2.1 rfl) ho I.free
 ·obtain⟨v,o,ho,hd⟩:=I.cell x c e
  exact free c o (fun z=>(hch c z).2.2.1 x c e rfl) ho (I.freeC x c e)
 ·obtain⟨e,n,ne,nf,d⟩:=I.pin p hp
  have nch:p.1∉ch:=fun z=>(hch p.1 z).2.2.2 p hp rfl
  exact⟨keep p.1 p.2 ne nf nch e n,free p.1 p.2 nch e n,ne,nf,d⟩
theorem Inv.un {t':Nat} (I:Inv X pz σ H s) (u:Un X.fs [] H H' s.heap h') (hok:HOk X.prog X.w H' h'):Inv X pz σ H' {s with heap:=h',toks:=t'}:=by
 obtain⟨m,⟨o,es,ep,ho,r⟩,_⟩:=id I.loc
 obtain⟨sl,hL⟩:=u.any ho I.free (by simp)
 exact I.step (g':=s.gens) (d':=s.drawn) (ch:=[]) (fun _ z=>nomatch z) (fun b o _ hb _ e n=>u.keep b o e n hb (by simp)) (fun b o _ hb _ e n=>u.slot b o e n hb (by simp)) (fun b o _ e n=>u.free b o e n (by simp)) (fun b o _ e=>u.there b o e (by simp)) u.tups u.frzs u.tbls (fun m' hm=>by
  obtain⟨o',es',ep',ho',r'⟩:=hm
  rw[ho]at ho';cases ho'
  exact⟨_,es',ep',hL,r'⟩) hok I.bare
theorem Inv.call {g':Array GenState} {t':Nat} {d':Drawn} {ch:List Addr} (I:Inv X pz σ H s) (u:Un (frs X.stack) ch H H' s.heap h') (hok:HOk X.prog X.w H' h') (hg:AllBare g')
  (hch:∀b∈ch,(b∈X.ex\/X.s₀.heap.objs.size<=b)/\b≠X.env.locals/\(∀x c,X.env.cells.lookup x=some c->c≠b)/\∀p∈X.pn++pz,p.1≠b):
  Inv X pz σ H' {s with heap:=h',gens:=g',drawn:=d',toks:=t'}:=by
 obtain⟨m,⟨o,es,ep,ho,r⟩,_⟩:=id I.loc
 obtain⟨sl,hL⟩:=u.any ho I.free fun z=>(hch _ z).2.1 rfl
 exact I.step (ch:=ch) hch (fun b o hL hb hc e n=>u.keep b o e n (fun z=>(ak.mp (I.stkSub b z)).elim hL hb) hc) (fun b o _ _ hc e n=>u.any e n hc) (fun b o hc e n=>u.free b o e n hc) (fun b o hc e=>u.there b o e hc) u.tups u.frzs u.tbls (fun m' hm=>by
  obtain⟨o',es',ep',ho',r'⟩:=hm
  rw[ho]at ho';cases ho'
  exact⟨_,es',ep',hL,r'⟩) hok hg
theorem Inv.turned {t':Nat} {it:Addr} (I:Inv X pz σ H s) (k:∀b o,b≠it->s.heap.get? b=some o->h'.get? b=some o) (hn:H it=none) (hL:it≠X.env.locals)
  (h1:it∈X.ex\/X.s₀.heap.objs.size<=it) (h2:∀x c,X.env.cells.lookup x=some c->c≠it) (h3:∀p∈X.pn++pz,p.1≠it):Inv X pz σ H {s with heap:=h',toks:=t'}:=by
 have nit:∀b u,H b=some u->b≠it:=fun b u e z=>by rw[z,hn]at e;cases e
 refine I.step (g':=s.gens) (d':=s.drawn) (ch:=[it]) (fun b hb=>?_) (fun b o _ _ hc e _=>k b o (fun z=>hc (by simp[z])) e) (fun b o _ _ hc e _=>⟨o.slots,k b o (fun z=>hc (by simp[z])) e⟩) (fun _ _ _ _ n=>n)
  (fun b o hc e=>⟨o,k b o (fun z=>hc (by simp[z])) e⟩) (fun _ _ e=>e) (fun _ _ _ e=>e) (fun b ps e=>⟨#[],by rw[e];simp⟩) (fun m hm=>?_) (fun b u e=>?_) I.bare
 ·have e:b=it:=by simpa using hb
  subst e
  exact⟨h1,hL,h2,h3⟩
 ·obtain⟨o,es,ep,ho,r⟩:=hm
  exact⟨o,es,ep,k _ o (Ne.symm hL) ho,r⟩
 ·refine(I.hok b u e).stay (fun c v hc q=>k c v ?_ q) (fun _ q=>q) fun _ _ q=>q
  rcases hc with z|z
  ·rw[z];exact nit b u e
  ·exact nit c _ z
theorem Inv.tok (I:Inv X pz σ H s) (t:Nat):Inv X pz σ H {s with toks:=t}:=I.un (h':=s.heap) (t':=t) Un.refl I.hok
theorem Inv.kept {t':Nat} (I:Inv X pz σ H s) (k:∀b u,s.heap.get? b=some u->h'.get? b=some u):Inv X pz σ H {s with heap:=h',toks:=t'}:=I.un (Un.kept k) (I.hok.kept k)
theorem Inv.laid {a:Addr} {o:HO} {t':Nat} (I:Inv X pz σ H s) (k:∀b u,s.heap.get? b=some u->h'.get? b=some u) (hp:s.heap.objs.size<=a) (new:jn X.prog X.w (upd H a o) h' a o):
  Inv X pz σ (upd H a o) {s with heap:=h',toks:=t'}:=I.un (Un.laid k hp (I.hok.fresh hp)) (I.hok.laid k hp new)
theorem Inv.write {x e:Addr} {o:HO} {t':Nat} (I:Inv X pz σ H s) (mu:Mut (H x)) (he:e=x\/H e=some (.own x)) (k:∀b u,b≠e->s.heap.get? b=some u->h'.get? b=some u) (heo:∃u,h'.get? e=some u)
  (new:jn X.prog X.w (upd H x o) h' x o):Inv X pz σ (upd H x o) {s with heap:=h',toks:=t'}:=I.un (Un.write mu he k heo) (I.hok.write mu he k heo new)
theorem Inv.pins_of {pins':List (Addr×Obj)} (I:Inv X pz σ H s) (h:∀p∈pins',s.heap.get? p.1=some p.2/\H p.1=none/\p.1≠X.env.locals/\p.1∉X.fs/\∀v,p.2.data≠ .cell v):Inv X pins' σ H s:=
 ⟨I.ok,I.os,I.bare,I.base,I.loc,I.cell,I.free,I.freeC,fun p hp=>(ao.mp hp).elim (fun z=>I.pin p (aq _ z)) (h p),I.hok,I.len⟩
theorem v7 {N:List Str} (hN:N.Nodup) {i j:Nat} {x:Str} (a:N[i]?=some x) (b:N[j]?=some x):i=j:=by
 obtain⟨h1,e1⟩:=au.mp a
 obtain⟨h2,e2⟩:=au.mp b
 exact(List.getElem_inj hN).mp (e1.trans e2.symm)
theorem yt {M:Model} {A:Around} {E:Value->Shared->Prop} {i:Nat} {x:Str} {v:V} {u:Value} {Q:Unit->Shared->Prop} (I:Inv X pz σ H s) (hN:X.N.Nodup) (hi:X.N[i]?=some x) (hx:Loc X.env.scope x) (r:iq v u)
  (h:∀s',Inv X pz (σ.set i (some v)) H s'->(∃a,Heap.SameBut a s.heap s'.heap/\(a=X.env.locals\/X.env.cells.lookup x=some a))->Q () s') (hf:autoParam (X.fn x=true\/X.env.scope.names.lookup x=some .local) L2.Internal.auL._auto_1):wpAny M A (storeName X.env x u) Q E s:=by
 obtain⟨m,hn,hl⟩:=id I.loc
 have hcls:(X.env.scope.kind== .class||(X.env.scope.kind== .module&&X.env.locals !=X.env.globals))=false:=by rw[I.ok.kind];rfl
 have hiσ:i<σ.length:=by rw[I.len];exact(au.mp hi).1
 have cne:=I.cne
 have tracked:∀{a:Addr} {h':Heap},(∃o,s.heap.get? a=some o/\H a=none)->Heap.SameBut a s.heap h'->HOk X.prog X.w H h':=fun{a h'} ha hs b ob e=>by
  obtain⟨_,_,hfree⟩:=ha
  refine(I.hok b ob e).stay (fun c w' hc q=>(hs.2 c ?_).trans q) (fun _ q=>q) fun _ _ q=>q
  rintro rfl
  rcases hc with rfl|hc
  ·rw[hfree]at e;cases e
  ·rw[hfree]at hc;cases hc
 rcases hx with hk|hk
 ·refine wpAny_storeName_local hk hn (fun h' hn' hs=>?_) hcls
  obtain⟨oL,_,_,hoL,_⟩:=id hn
  refine h _ ⟨I.ok,I.os,I.bare,⟨fun b o e n hb hx=>?_,fun b o e n hb hx=>?_,I.base.free,fun b o e hx=>?_,I.base.tups,I.base.frzs,I.base.tbls⟩,⟨_,hn',fun j y v' e1 e2 e3=>?_⟩,fun y c e=>?_,I.free,I.freeC,fun p hp=>?_,tracked ⟨oL,hoL,I.free⟩ hs,by simpa using I.len⟩ ⟨_,hs,.inl rfl⟩
  ·exact(hs.2 b (cu (cn (ff e) I.ok.above))).trans (I.base.keep b o e n hb hx)
  ·obtain⟨sl,e1⟩:=I.base.slot b o e n hb hx
   exact⟨sl,(hs.2 b (cu (cn (ff e) I.ok.above))).trans e1⟩
  ·obtain⟨o',e1⟩:=I.base.there b o e hx
   exact⟨o',(hs.2 b (cu (cn (ff e) I.ok.above))).trans e1⟩
  ·by_cases hj:j=i
   ·subst hj
    rw[hi]at e1;cases e1
    rw[av hiσ]at e2
    cases e2
    exact⟨u,r,.inl ⟨hk,by simp⟩⟩
   ·rw[aw (Ne.symm hj)]at e2
    obtain⟨u',r',q⟩:=hl j y v' e1 e2 e3
    refine⟨u',r',?_⟩
    rcases q with⟨k,e⟩|⟨k,c,e,z⟩
    ·refine .inl ⟨k,?_⟩
     have:y≠x:=fun e=>hj (v7 hN e1 (e▸hi))
     simp[this,e]
    ·exact .inr ⟨k,c,e,z.sameBut hs (cne y c e)⟩
  ·obtain⟨w',z⟩:=I.cell y c e
   exact⟨w',z.sameBut hs (cne y c e)⟩
  ·obtain⟨e,n,ne,nf,d⟩:=I.pin p hp
   exact⟨(hs.2 p.1 ne).trans e,n,ne,nf,d⟩
 ·have hfn:X.fn x=true:=by
   rcases hf with z|z
   ·exact z
   ·rw[z]at hk;cases hk
  obtain⟨c,hc⟩:=I.ok.has x (.inl hk)
  obtain⟨w',z⟩:=I.cell x c hc
  refine wpAny_storeName_cell I.ok.kind hk hc z (fun h' hc' hs=>?_)
  obtain⟨oc,hoc,hocd⟩:=id z
  refine h {s with heap:=h'} ⟨I.ok,I.os,I.bare,⟨fun b o e n hb hx=>?_,fun b o e n hb hx=>?_,I.base.free,fun b o e hx=>?_,I.base.tups,I.base.frzs,I.base.tbls⟩,⟨m,hn.sameBut hs (Ne.symm (cne x c hc)),fun j y v' e1 e2 e3=>?_⟩,fun y c' e=>?_,I.free,I.freeC,fun p hp=>?_,tracked ⟨oc,hoc,I.freeC x c hc⟩ hs,by simpa using I.len⟩ ⟨c,hs,.inr hc⟩
  ·exact(hs.2 b (cu (cn (ff e) (I.ok.cab x c hfn hc)))).trans (I.base.keep b o e n hb hx)
  ·obtain⟨sl,e1⟩:=I.base.slot b o e n hb hx
   exact⟨sl,(hs.2 b (cu (cn (ff e) (I.ok.cab x c hfn hc)))).trans e1⟩
  ·obtain⟨o',e1⟩:=I.base.there b o e hx
   exact⟨o',(hs.2 b (cu (cn (ff e) (I.ok.cab x c hfn hc)))).trans e1⟩
  ·by_cases hj:j=i
   ·subst hj
    rw[hi]at e1;cases e1
    rw[av hiσ]at e2
    cases e2
    exact⟨u,r,.inr ⟨.inl hk,c,hc,hc'⟩⟩
   ·rw[aw (Ne.symm hj)]at e2
    obtain⟨u',r',q⟩:=hl j y v' e1 e2 e3
    refine⟨u',r',?_⟩
    rcases q with q|⟨k,c',e,z'⟩
    ·exact .inl q
    ·refine .inr ⟨k,c',e,z'.sameBut hs ?_⟩
     rintro rfl
     exact hj (v7 hN e1 (I.ok.inj _ _ _ e hc▸hi))
  ·by_cases hcc:c'=c
   ·subst hcc;exact⟨_,hc'⟩
   ·obtain⟨w2,z2⟩:=I.cell y c' e
    exact⟨w2,z2.sameBut hs hcc⟩
  ·obtain⟨e,n,ne,nf,d⟩:=I.pin p hp
   refine⟨(hs.2 p.1 ?_).trans e,n,ne,nf,d⟩
   intro q
   rw[q,hoc]at e
   have q':oc=p.2:=cX.inj e
   exact d w' (by rw[<-q'];exact hocd)
theorem nB {M:Model} {A:Around} {E:Value->Shared->Prop} {i:Nat} {x:Str} {v:V} {u:Value} {Q:Unit->Shared->Prop} (I:Inv X pz σ H s) (hN:X.N.Nodup) (hi:X.N[i]?=some x) (hx:Loc X.env.scope x) (r:iq v u)
  (h:∀s',Inv X pz (σ.set i (some v)) H s'->Q () s') (hf:autoParam (X.fn x=true\/X.env.scope.names.lookup x=some .local) L2.Internal.auL._auto_1):wpAny M A (storeName X.env x u) Q E s:=
 yt I hN hi hx r (fun s' I' _=>h s' I') hf
theorem Inv.call' {s':Shared} {ch:List Addr} (I:Inv X pz σ H s) (ho:s'.os=s.os) (u:Un (frs X.stack) ch H H' s.heap s'.heap) (hok:HOk X.prog X.w H' s'.heap) (hg:AllBare s'.gens)
  (hch:∀b∈ch,(b∈X.ex\/X.s₀.heap.objs.size<=b)/\b≠X.env.locals/\(∀x c,X.env.cells.lookup x=some c->c≠b)/\∀p∈X.pn++pz,p.1≠b):Inv X pz σ H' s':=by
 obtain⟨h',g',d',t',o'⟩:=s'
 have e:o'=s.os:=ho
 subst e
 exact I.call (g':=g') (t':=t') (d':=d') u hok hg hch
end
abbrev XK:=Value->Option Addr->Hp->Prop
abbrev St:=List (Option V)
abbrev VK:=V->Hp->Prop
abbrev TE:=St->Hp->VK->Prop
abbrev TT:=St->Hp->(Bool->Hp->Prop)->Prop
abbrev TA:=St->Hp->(List V->Hp->Prop)->Prop
structure qN where
 nx:St->Hp->Prop
 rt:VK
 bk:St->Hp->Prop:=fun _ _=>False
 ct:St->Hp->Prop:=fun _ _=>False
abbrev TS:=qN->St->Hp->Prop
def EP (X:Cx) (pz:List (Addr×Obj)) (σ:St) (Q:VK) (u:Value) (s':Shared):Prop:=∃v H',Inv X pz σ H' s'/\iq v u/\Q v H'
def TP (X:Cx) (pz:List (Addr×Obj)) (σ:St) (Q:Bool->Hp->Prop) (b:Bool) (s':Shared):Prop:=∃H',Inv X pz σ H' s'/\Q b H'
def AP (X:Cx) (pz:List (Addr×Obj)) (σ:St) (Q:List V->Hp->Prop) (us:List Value) (s':Shared):Prop:=∃vs H',Inv X pz σ H' s'/\ik vs us/\Q vs H'
def SP (X:Cx) (pz:List (Addr×Obj)) (D:qN) (f:Flow) (s':Shared):Prop:=
 match f with
 | .next=>∃σ' H',Inv X pz σ' H' s'/\D.nx σ' H'
 | .brk=>∃σ' H',Inv X pz σ' H' s'/\D.bk σ' H'
 | .cont=>∃σ' H',Inv X pz σ' H' s'/\D.ct σ' H'
 | .ret u=>∃v σ' H',Inv X pz σ' H' s'/\iq v u/\D.rt v H'
def PE (X:Cx) (e:Expr) (t:TE):Prop:=
 ∀(pz:List (Addr×Obj)) (s:Shared) (σ:St) (H:Hp) (Q:VK),Inv X pz σ H s->t σ H Q->wpAny (model X.prog X.w) X.A (eval e X.env) (EP X pz σ Q) X.xe s
def PT (X:Cx) (e:Expr) (t:TT):Prop:=
 ∀(pz:List (Addr×Obj)) (s:Shared) (σ:St) (H:Hp) (Q:Bool->Hp->Prop),Inv X pz σ H s->t σ H Q->wpAny (model X.prog X.w) X.A (isTrue e X.env (eval e X.env)) (TP X pz σ Q) X.xe s
def PW (X:Cx) (e:Expr) (t:TT):Prop:=
 ∀(whole:Sem Value) (pz:List (Addr×Obj)) (s:Shared) (σ:St) (H:Hp) (Q:Bool->Hp->Prop),Inv X pz σ H s->t σ H Q->wpAny (model X.prog X.w) X.A (isTrue e X.env whole) (TP X pz σ Q) X.xe s
theorem PW.pt {X:Cx} {e:Expr} {t:TT} (h:PW X e t):PT X e t:=h _
def PA (X:Cx) (es:List Expr) (t:TA):Prop:=
 ∀(pos:Pos) (pz:List (Addr×Obj)) (s:Shared) (σ:St) (H:Hp) (Q:List V->Hp->Prop),Inv X pz σ H s->t σ H Q->wpAny (model X.prog X.w) X.A (spliced (backTo pos (starEach es X.env))) (AP X pz σ Q) X.xe s
def PS (X:Cx) (st:Stmt) (t:TS):Prop:=
 ∀(pz:List (Addr×Obj)) (s:Shared) (σ:St) (H:Hp) (D:qN),Inv X pz σ H s->t D σ H->wpAny (model X.prog X.w) X.A (exec st X.env) (SP X pz D) X.xe s
def PSs (X:Cx) (st:List Stmt) (t:TS):Prop:=
 ∀(pz:List (Addr×Obj)) (s:Shared) (σ:St) (H:Hp) (D:qN),Inv X pz σ H s->t D σ H->wpAny (model X.prog X.w) X.A (execs st X.env) (SP X pz D) X.xe s
theorem thn {α:Type} {t:Sem α} {Q Q':α->Shared->Prop} {M:Model} {A:Around} {E:Value->Shared->Prop} {s:Shared} (h:wpAny M A t Q E s) (hQ:∀a s,Q a s->Q' a s):wpAny M A t Q' E s:=wpAny_mono h hQ fun _ _ x=>x
section
variable {X:Cx}
def Du (i:Nat):TE:=fun σ H Q=>∃v,σ[i]?=some (some v)/\Q v H
def tC (v:V):TE:=fun _ H Q=>Q v H
theorem DC {i:Nat} {x:Str} {pos:Pos} (hN:X.N[i]?=some x) (hv:Vis X.env.scope x) (hd:autoParam ((x==("__debug__":Str))=false) L2.Internal.auD._auto_1) (hcd:autoParam ((x==("__classdict__":Str))=false) L2.Internal.auD._auto_1):PE X (.Name x pos) (Du i):=by
 intro pz s σ H Q I h
 obtain⟨v,e,h⟩:=h
 obtain⟨m,hn,hl⟩:=I.loc
 obtain⟨u,r,l⟩:=hl i x v hN e hv
 have fin:EP X pz σ Q u s:=⟨v,H,I,r,h⟩
 rcases l with⟨hk,hm⟩|⟨hk,c,hc,hcell⟩
 ·exact wpAny_Name (wpAny_loadName_local I.ok.kind hk hn hm fin) hd
 ·rcases hk with hk|hk
  ·exact wpAny_Name (wpAny_loadName_cell I.ok.kind hk hc hcell fin) hd
  ·exact wpAny_Name (wpAny_loadName_free I.ok.kind hk hc hcell fin hcd) hd
theorem fF {i j pos}:PE X (.Constant (.int i) j pos) (tC (.int i)):=fun _ _ _ H _ I h=>wpAny_Constant_int ⟨.int i,H,I.tok _,⟨_,rfl⟩,h⟩
theorem rZ {b j pos}:PE X (.Constant (.bool b) j pos) (tC (.bl b)):=fun _ _ _ H _ I h=>Constant_bool ⟨.bl b,H,I,rfl,h⟩
theorem lG {j pos}:PE X (.Constant .none j pos) (tC .non):=fun _ _ _ H _ I h=>Constant_none ⟨.non,H,I,rfl,h⟩
theorem fQ {x j pos}:PE X (.Constant (.str x) j pos) (tC (.str x)):=fun _ _ _ H _ I h=>Calls.Constant_str ⟨.str x,H,I.tok _,⟨_,rfl⟩,h⟩
def Gl (X:Cx) (x:Str):Prop:=X.env.kindOf x=some .globalImplicit
theorem r6 {E:Value->Shared->Prop} {pz:List (Addr×Obj)} {s:Shared} {σ:St} {H:Hp} {x:Str} {u:Value} {pos:Pos} {Q:Value->Shared->Prop} (I:Inv X pz σ H s) (hg:Gl X x) (hm:X.mg x=some u) (h:Q u s)
  (hd:autoParam ((x==("__debug__":Str))=false) L2.Internal.auD._auto_1):wpAny (model X.prog X.w) X.A (eval (.Name x pos) X.env) Q E s:=
 Calls.Name_function_global I.ok.kind hg (Calls.loadGlobal_global (by rw[I.ok.glob];exact I.mod.glob.keeps I.bk) hm h) hd
theorem nE {E:Value->Shared->Prop} {pz:List (Addr×Obj)} {s:Shared} {σ:St} {H:Hp} {x:Str} {u:Value} {pos:Pos} {Q:Value->Shared->Prop} (I:Inv X pz σ H s) (hg:Gl X x) (hm:X.mg x=none) (hv:bootBuiltins x=some u) (h:Q u s)
  (hn:autoParam (x≠"__name__") L2.Internal.auD._auto_1) (hd:autoParam ((x==("__debug__":Str))=false) L2.Internal.auD._auto_1):wpAny (model X.prog X.w) X.A (eval (.Name x pos) X.env) Q E s:=by
 obtain⟨mb,h1,h2⟩:=I.mod.blt
 exact Calls.Name_function_global I.ok.kind hg (Calls.loadGlobal_builtin (by rw[I.ok.glob];exact I.mod.glob.keeps I.bk) hm (by rw[I.ok.blt];exact h1.keeps I.bk) ((h2 x hn).trans hv) h) hd
theorem u4 {x:Str} {v:V} {u:Value} {pos:Pos} (hg:Gl X x) (hm:X.mg x=some u) (r:iq v u) (hd:autoParam ((x==("__debug__":Str))=false) L2.Internal.auD._auto_1):PE X (.Name x pos) (tC v):=
 fun _ _ _ H _ I h=>r6 I hg hm ⟨v,H,I,r,h⟩ hd
theorem BX {x:Str} {v:V} {u:Value} {pos:Pos} (hg:Gl X x) (hm:X.mg x=none) (hv:bootBuiltins x=some u) (r:iq v u) (hn:autoParam (x≠"__name__") L2.Internal.auD._auto_1) (hd:autoParam ((x==("__debug__":Str))=false) L2.Internal.auD._auto_1):PE X (.Name x pos) (tC v):=
 fun _ _ _ H _ I h=>nE I hg hm hv ⟨v,H,I,r,h⟩ hn hd
variable {a b:Expr} {ta tb:TE} {pos:Pos}
def PC (X:Cx) (op:CmpOp) (a b:Expr) (t:TE):Prop:=
 ∀(pz:List (Addr×Obj)) (s:Shared) (σ:St) (H:Hp) (Q:VK),Inv X pz σ H s->t σ H Q->
  wpAny (model X.prog X.w) X.A (eval a X.env) (fun v s₁=>wpAny (model X.prog X.w) X.A (eval b X.env) (fun u s₂=>wpAny (model X.prog X.w) X.A (compareOp op v u) (EP X pz σ Q) X.xe s₂) X.xe s₁) X.xe s
theorem Ay (b:Expr) {op:CmpOp} (h:op≠ .In) (h2:op≠ .NotIn):behindInMarks op b=false:=by
 have e1:(op==CmpOp.In)=false:=by cases op<;>first|rfl|exact absurd rfl h
 have e2:(op==CmpOp.NotIn)=false:=by cases op<;>first|rfl|exact absurd rfl h2
 cases b<;>simp[behindInMarks,e1,e2]
def tIsN (ta:TE):TE:=fun σ H Q=>ta σ H fun x H1=>Q (.bl (decide (x= .non))) H1
def Fq (ta:TE):TE:=fun σ H Q=>ta σ H fun x H1=>Q (.bl (!decide (x= .non))) H1
theorem iq.none_iff {x:V} {v:Value} (r:iq x v):(v==Value.none)=decide (x= .non):=by
 cases x with
 |non=>cases r;rfl
 |bl _=>cases r;rfl
 |int _=>obtain⟨t,rfl⟩:=r;rfl
 |str _=>obtain⟨t,rfl⟩:=r;rfl
 |byt _=>obtain⟨t,rfl⟩:=r;rfl
 |flt _=>obtain⟨t,rfl⟩:=r;rfl
 |ref _=>cases r;rfl
 |ty _=>cases r;rfl
theorem Bn {j pos'} (ha:PE X a ta):PC X .Is a (.Constant .none j pos') (tIsN ta):=by
 intro pz s σ H Q I h
 refine thn (ha pz s σ H _ I h) fun v s1 ⟨x,H1,I1,r1,q1⟩=>?_
 exact Constant_none (is_none_gen ⟨.bl _,H1,I1,by rw[r1.none_iff];rfl,q1⟩)
theorem BY {j pos'} (ha:PE X a ta):PC X .IsNot a (.Constant .none j pos') (Fq ta):=by
 intro pz s σ H Q I h
 refine thn (ha pz s σ H _ I h) fun v s1 ⟨x,H1,I1,r1,q1⟩=>?_
 exact Constant_none (isnot_none_gen ⟨.bl _,H1,I1,by rw[r1.none_iff];rfl,q1⟩)
def tB (t:TE):TT:=fun σ H Q=>t σ H fun x H1=>∃c,x= .bl c/\Q c H1
theorem rp {op:CmpOp} {t:TE} (h:PC X op a b t) (h1:behindInMarks op b=false:=by first|exact Ay _ (by decide) (by decide)|rfl):PT X (.Compare a [op] [b] pos) (tB t):=by
 intro pz s σ H Q I hw
 refine wpAny_isTrue_Compare1 (thn (h pz s σ H _ I hw) fun v s1 h1=>thn h1 fun u s2 h2=>thn h2 fun c s3 ⟨x,H1,I1,r1,q1⟩=>?_) h1
 obtain⟨d,rfl,q⟩:=q1
 cases r1
 exact wpAny_truthy_bool ⟨H1,I1,q⟩
theorem jk {e:Expr} {t:TE} (h:PE X e t) (he:autoParam (∀whole,isTrue e X.env whole=(do let v<-whole;standAt e.pos;holding [v] (truthy v))) L2.Internal.auI._auto_1):PT X e (tB t):=by
 intro pz s σ H Q I hw
 refine isTrue_plain (thn (h pz s σ H _ I hw) fun v s1 ⟨x,H1,I1,r1,q1⟩=>?_) (he _)
 obtain⟨d,rfl,q⟩:=q1
 cases r1
 exact wpAny_truthy_bool ⟨H1,I1,q⟩
variable {tA tB':TT} {rest:List Expr}
def tAnd (t u:TT):TT:=fun σ H Q=>t σ H fun c H1=>if c=true then u σ H1 Q else Q false H1
def tOr (t u:TT):TT:=fun σ H Q=>t σ H fun c H1=>if c=true then Q true H1 else u σ H1 Q
def tNot (t:TT):TT:=fun σ H Q=>t σ H fun c H1=>Q (!c) H1
theorem BZ (ha:PT X a tA):PW X (.BoolOp .And [a] pos) tA:=by
 intro wh pz s σ H Q I h
 refine isTrue_and (thn (ha pz s σ H Q I h) fun c s1 e=>?_)
 cases c with
 |true=>exact isTrue_and_nil e
 |false=>exact e
theorem rq (ha:PT X a tA):PW X (.BoolOp .Or [a] pos) tA:=by
 intro wh pz s σ H Q I h
 refine isTrue_or (thn (ha pz s σ H Q I h) fun c s1 e=>?_)
 cases c with
 |false=>exact isTrue_or_nil e
 |true=>exact e
theorem DD (ha:PT X a tA) (hb:PW X (.BoolOp .And (b::rest) pos) tB'):PW X (.BoolOp .And (a::b::rest) pos) (tAnd tA tB'):=by
 intro wh pz s σ H Q I h
 refine isTrue_and (thn (ha pz s σ H _ I h) fun c s1 ⟨H1,I1,q1⟩=>?_)
 cases c with
 |true=>exact hb wh pz s1 σ H1 Q I1 q1
 |false=>exact⟨H1,I1,q1⟩
theorem pL (ha:PT X a tA) (hb:PW X (.BoolOp .Or (b::rest) pos) tB'):PW X (.BoolOp .Or (a::b::rest) pos) (tOr tA tB'):=by
 intro wh pz s σ H Q I h
 refine isTrue_or (thn (ha pz s σ H _ I h) fun c s1 ⟨H1,I1,q1⟩=>?_)
 cases c with
 |true=>exact⟨H1,I1,q1⟩
 |false=>exact hb wh pz s1 σ H1 Q I1 q1
theorem jQ (ha:PT X a tA):PT X (.UnaryOp .Not a pos) (tNot tA):=by
 intro pz s σ H Q I h
 exact isTrue_not (ha pz s σ H (fun c H1=>Q (!c) H1) I h)
def Fs (ta tb:TE):TE:=fun σ H Q=>ta σ H fun x H1=>∃c,x= .bl c/\if c=true then tb σ H1 Q else Q (.bl false) H1
def tOrV (ta tb:TE):TE:=fun σ H Q=>ta σ H fun x H1=>∃c,x= .bl c/\if c=true then Q (.bl true) H1 else tb σ H1 Q
def Ft (ta:TE):TE:=fun σ H Q=>ta σ H fun x H1=>∃c,x= .bl c/\Q (.bl (!c)) H1
theorem pM {op} {t:TE} (h:PE X a t):PE X (.BoolOp op [a] pos) t:=fun pz s σ H Q I hw=>BoolOp_one (h pz s σ H Q I hw)
theorem rA (ha:PE X a ta) (hb:PE X (.BoolOp .And (b::rest) pos) tb):PE X (.BoolOp .And (a::b::rest) pos) (Fs ta tb):=by
 intro pz s σ H Q I h
 refine BoolOp_and (thn (ha pz s σ H _ I h) fun v s1 ⟨x,H1,I1,r1,q1⟩=>?_)
 obtain⟨c,rfl,q1⟩:=q1
 cases r1
 refine wpAny_truthy_bool ?_
 cases c with
 |true=>exact hb pz s1 σ H1 Q I1 q1
 |false=>exact⟨.bl false,H1,I1,rfl,q1⟩
theorem Fu (ha:PE X a ta) (hb:PE X (.BoolOp .Or (b::rest) pos) tb):PE X (.BoolOp .Or (a::b::rest) pos) (tOrV ta tb):=by
 intro pz s σ H Q I h
 refine BoolOp_or (thn (ha pz s σ H _ I h) fun v s1 ⟨x,H1,I1,r1,q1⟩=>?_)
 obtain⟨c,rfl,q1⟩:=q1
 cases r1
 refine wpAny_truthy_bool ?_
 cases c with
 |false=>exact hb pz s1 σ H1 Q I1 q1
 |true=>exact⟨.bl true,H1,I1,rfl,q1⟩
theorem DE (ha:PE X a ta):PE X (.UnaryOp .Not a pos) (Ft ta):=by
 intro pz s σ H Q I h
 refine UnaryOp_ (thn (ha pz s σ H _ I h) fun v s1 ⟨x,H1,I1,r1,q1⟩=>?_)
 obtain⟨c,rfl,q1⟩:=q1
 cases r1
 exact not_of (wpAny_truthy_bool ⟨.bl (!c),H1,I1,rfl,q1⟩)
def tIf (t:TT) (ta tb:TE):TE:=fun σ H Q=>t σ H fun c H1=>if c=true then ta σ H1 Q else tb σ H1 Q
theorem r8 {c:Expr} (hc:PT X c tA) (ha:PE X a ta) (hb:PE X b tb):PE X (.IfExp c a b pos) (tIf tA ta tb):=by
 intro pz s σ H Q I h
 refine wpAny_IfExp (thn (hc pz s σ H _ I h) fun d s1 ⟨H1,I1,q1⟩=>?_)
 cases d with
 |true=>exact ha pz s1 σ H1 Q I1 q1
 |false=>exact hb pz s1 σ H1 Q I1 q1
end
def SqL (K:PySem.W.Frag) (H:Hp) (a:Addr) (xs:List V):Prop:=
 Rd H a (.lst xs)\/
  ∃(o:Obj) (its:Array Value) (n:Nat),K.lookup a=some o/\o.cls= .type "list"/\o.dict=none/\o.data= .seq its n/\its.size<=sizeLine/\ik xs its.toList
def SqT (K:PySem.W.Frag) (H:Hp) (a:Addr) (xs:List V):Prop:=
 Rd H a (.tup xs)\/
  ∃(o:Obj) (its:Array Value) (n:Nat),K.lookup a=some o/\o.cls= .type "tuple"/\o.data= .seq its n/\its.size<=sizeLine/\ik xs its.toList
def absV:Value->Option V
 | .none=>some .non
 | .bool b=>some (.bl b)
 | .int i _=>some (.int i)
 | .str x _=>some (.str x)
 | .bytes b _=>some (.byt b)
 | .float b _=>some (.flt b)
 | .ref a=>some (.ref a)
 | .type n=>some (.ty n)
 |_=>none
theorem iq.abs {x:V} {u:Value} (r:iq x u):absV u=some x:=by
 cases x with
 |non=>cases r;rfl
 |bl _=>cases r;rfl
 |int _=>obtain⟨t,rfl⟩:=r;rfl
 |str _=>obtain⟨t,rfl⟩:=r;rfl
 |byt _=>obtain⟨t,rfl⟩:=r;rfl
 |flt _=>obtain⟨t,rfl⟩:=r;rfl
 |ref _=>cases r;rfl
 |ty _=>cases r;rfl
theorem iq.inj {x y:V} {u:Value} (r:iq x u) (q:iq y u):x=y:=cX.inj (r.abs.symm.trans q.abs)
theorem ik.inj:∀{xs ys:List V} {us:List Value},ik xs us->ik ys us->xs=ys
 |_,_,_,.nil,.nil=>rfl
 |_,_,_,.cons r t,.cons r' t'=>by rw[r.inj r',ik.inj t t']
section
variable {X:Cx} {pz:List (Addr×Obj)} {σ:St} {H:Hp} {s:Shared} {a:Addr} {xs ys:List V}
theorem SqL.of {K:PySem.W.Frag} (h:H a=some (.lst xs)):SqL K H a xs:= .inl (.inl h)
theorem SqT.of {K:PySem.W.Frag} (h:H a=some (.tup xs)):SqT K H a xs:= .inl (.inl h)
theorem Inv.list (I:Inv X pz σ H s) (h:SqL X.K H a xs):∃its:List Value,ik xs its/\PlainL s.heap a its.toArray/\xs.length<=sizeLine:=by
 rcases h with h|⟨o,its,n,hk,hc,hd,hs,hz,r⟩
 ·obtain⟨z,its,n,r,e⟩:=h.ok I.hok
  exact⟨its,r,⟨_,n,e,rfl,rfl,rfl⟩,z⟩
 ·refine⟨its.toList,r,⟨o,n,I.kIn a o hk,hc,hd,by simpa using hs⟩,?_⟩
  have e:=r.length
  simp only[eV]at e
  lia
theorem Inv.tuple (I:Inv X pz σ H s) (h:SqT X.K H a xs):∃its:List Value,ik xs its/\IsTup s.heap a its.toArray/\xs.length<=sizeLine:=by
 rcases h with h|⟨o,its,n,hk,hc,hs,hz,r⟩
 ·obtain⟨z,its,r,p⟩:=h.ok I.hok
  exact⟨its,r,p.tup,z⟩
 ·refine⟨its.toList,r,⟨o,I.kIn a o hk,hc,n,by simpa using hs⟩,?_⟩
  have e:=r.length
  simp only[eV]at e
  lia
theorem Inv.list_inj (I:Inv X pz σ H s) (h:SqL X.K H a xs) (h':SqL X.K H a ys):xs=ys:=by
 obtain⟨its,r,⟨o,n,e,_,_,d⟩,_⟩:=I.list h
 obtain⟨its',r',⟨o',n',e',_,_,d'⟩,_⟩:=I.list h'
 rw[e]at e';cases e'
 rw[d]at d'
 injection d' with d1 _
 have:its=its':=by simpa using congrArg Array.toList d1
 subst this
 exact r.inj r'
theorem Inv.tuple_inj (I:Inv X pz σ H s) (h:SqT X.K H a xs) (h':SqT X.K H a ys):xs=ys:=by
 obtain⟨its,r,⟨o,e,_,n,d⟩,_⟩:=I.tuple h
 obtain⟨its',r',⟨o',e',_,n',d'⟩,_⟩:=I.tuple h'
 rw[e]at e';cases e'
 rw[d]at d'
 injection d' with d1 _
 have:its=its':=by simpa using congrArg Array.toList d1
 subst this
 exact r.inj r'
end
abbrev Cx.wish (X:Cx) (E:Value->Shared->Prop):Cx:={X with xe:=E}
abbrev Cx.nox (X:Cx):Cx:=X.wish fun _ _=>False
theorem Cx.Ok.wish {X:Cx} (ok:X.Ok) (E:Value->Shared->Prop):(X.wish E).Ok:=
 ⟨ok.mod,ok.kind,ok.glob,ok.blt,ok.above,ok.inj,ok.has,ok.cab,ok.hd,ok.frames,ok.stk,ok.exf,ok.bs,ok.bsz,ok.noex,ok.exfs,ok.funs,ok.frf⟩
theorem Cx.Ok.unwish {X:Cx} {E:Value->Shared->Prop} (ok:(X.wish E).Ok):X.Ok:=
 ⟨ok.mod,ok.kind,ok.glob,ok.blt,ok.above,ok.inj,ok.has,ok.cab,ok.hd,ok.frames,ok.stk,ok.exf,ok.bs,ok.bsz,ok.noex,ok.exfs,ok.funs,ok.frf⟩
section
variable {X:Cx} {pz:List (Addr×Obj)} {σ:St} {H:Hp} {s:Shared} {E:Value->Shared->Prop}
theorem Inv.wish (I:Inv X pz σ H s) (E:Value->Shared->Prop):Inv (X.wish E) pz σ H s:=⟨I.ok.wish E,I.os,I.bare,I.base,I.loc,I.cell,I.free,I.freeC,I.pin,I.hok,I.len⟩
theorem Inv.unwish (I:Inv (X.wish E) pz σ H s):Inv X pz σ H s:=⟨I.ok.unwish,I.os,I.bare,I.base,I.loc,I.cell,I.free,I.freeC,I.pin,I.hok,I.len⟩
theorem SP.unwish {D:qN} {f:Flow} {s':Shared} (h:SP (X.wish E) pz D f s'):SP X pz D f s':=by
 cases f with
 |next=>obtain⟨σ',H',I,q⟩:=h;exact⟨σ',H',I.unwish,q⟩
 |brk=>obtain⟨σ',H',I,q⟩:=h;exact⟨σ',H',I.unwish,q⟩
 |cont=>obtain⟨σ',H',I,q⟩:=h;exact⟨σ',H',I.unwish,q⟩
 |ret u=>obtain⟨v,σ',H',I,r,q⟩:=h;exact⟨v,σ',H',I.unwish,r,q⟩
theorem PE.nox {e:Expr} {t:TE} (h:PE X.nox e t):PE X e t:=fun pz s σ H Q I hw=>
 wpAny_mono (h pz s σ H Q (I.wish _) hw) (fun _ _ ⟨v,H',I',r,q⟩=>⟨v,H',I'.unwish,r,q⟩) fun _ _ z=>False.elim z
theorem PT.nox {e:Expr} {t:TT} (h:PT X.nox e t):PT X e t:=fun pz s σ H Q I hw=>
 wpAny_mono (h pz s σ H Q (I.wish _) hw) (fun _ _ ⟨H',I',q⟩=>⟨H',I'.unwish,q⟩) fun _ _ z=>False.elim z
theorem PSs.nox {st:List Stmt} {t:TS} (h:PSs X.nox st t):PSs X st t:=fun pz s σ H D I hw=>
 wpAny_mono (h pz s σ H D (I.wish _) hw) (fun _ _ q=>q.unwish) fun _ _ z=>False.elim z
end
section
variable {X:Cx} {st:Stmt} {rest:List Stmt} {t u:TS} {e:Expr} {te:TE} {pos:Pos}
def r9:TS:=fun D σ H=>D.nx σ H
def ym (t u:TS):TS:=fun D σ H=>t {D with nx:=u D} σ H
theorem gm:PSs X [] r9:=fun _ _ σ H _ I h=>wpAny_execs_nil ⟨σ,H,I,h⟩
theorem fA (h1:PS X st t) (h2:PSs X rest u):PSs X (st::rest) (ym t u):=by
 intro pz s σ H D I h
 refine wpAny_execs_cons (thn (h1 pz s σ H {D with nx:=u D} I h) fun f s1 q=>?_)
 cases f with
 |next=>
  obtain⟨σ',H',I',q⟩:=q
  exact h2 pz s1 σ' H' D I' q
 |ret v=>exact q
 |brk=>exact q
 |cont=>exact q
theorem fG (h1:PS X st t):PSs X [st] t:=by
 intro pz s σ H D I h
 refine wpAny_execs_cons (thn (h1 pz s σ H D I h) fun f s1 q=>?_)
 cases f with
 |next=>exact wpAny_execs_nil q
 |ret v=>exact q
 |brk=>exact q
 |cont=>exact q
theorem Inv.quiet {pz:List (Addr×Obj)} {σ:St} {H:Hp} {s:Shared} (I:Inv X pz σ H s):interactive X.env=false:=by simp[interactive,I.ok.kind]
def DF (te:TE):TS:=fun D σ H=>te σ H fun _ H1=>D.nx σ H1
theorem gh (he:PE X e te) (hs:autoParam (swapsWith e none pos.line X.env=pure false) L2.Internal.auR._auto_1):PS X (.Expr e pos) (DF te):=by
 intro pz s σ H D I h
 exact wpAny_Expr_any (thn (he pz s σ H _ I h) fun v s1 ⟨x,H1,I1,r1,q1⟩=>⟨σ,H1,I1,q1⟩) I.quiet hs
def E9 (te:TE):TS:=fun D σ H=>te σ H D.rt
theorem f7 (he:PE X e te):PS X (.Return (some e) pos) (E9 te):=by
 intro pz s σ H D I h
 exact wpAny_Return_some (thn (he pz s σ H _ I h) fun v s1 ⟨x,H1,I1,r1,q1⟩=>⟨x,σ,H1,I1,r1,q1⟩)
def Fv:TS:=fun D _ H=>D.rt .non H
theorem yu:PS X (.Return none pos) Fv:=fun _ _ σ H _ I h=>wpAny_Return_none ⟨.non,σ,H,I,rfl,h⟩
def Bo (c:TT) (t u:TS):TS:=fun D σ H=>c σ H fun b H1=>if b=true then t D σ H1 else u D σ H1
theorem gL {c:Expr} {a b:List Stmt} {tc:TT} (hc:PT X c tc) (ha:PSs X a t) (hb:PSs X b u):PS X (.If c a b pos) (Bo tc t u):=by
 intro pz s σ H D I h
 refine wpAny_If (thn (hc pz s σ H _ I h) fun d s1 ⟨H1,I1,q1⟩=>?_)
 cases d with
 |true=>exact ha pz s1 σ H1 D I1 q1
 |false=>exact hb pz s1 σ H1 D I1 q1
def Bp:TS:=fun _ _ _=>False
theorem v8:PS X st Bp:=fun _ _ _ _ _ _ h=>h.elim
theorem yv {sts:List Stmt}:PSs X sts Bp:=fun _ _ _ _ _ _ h=>h.elim
end
abbrev TG:=V->St->Hp->(St->Hp->Prop)->Prop
abbrev TGs:=List V->St->Hp->(St->Hp->Prop)->Prop
def PG (X:Cx) (target:Expr) (t:TG):Prop:=
 ∀(pz:List (Addr×Obj)) (s:Shared) (σ:St) (H:Hp) (v:V) (u:Value) (Q:St->Hp->Prop),Inv X pz σ H s->iq v u->t v σ H Q->
  wpAny (model X.prog X.w) X.A (assign target X.env u) (fun _ s'=>∃σ' H',Inv X pz σ' H' s'/\Q σ' H') X.xe s
def PGs (X:Cx) (ts:List Expr) (t:TGs):Prop:=
 ∀(pz:List (Addr×Obj)) (s:Shared) (σ:St) (H:Hp) (vs:List V) (us:List Value) (Q:St->Hp->Prop),Inv X pz σ H s->ik vs us->t vs σ H Q->
  wpAny (model X.prog X.w) X.A (assignInOrder ((assignEach ts X.env).map (·.2)) us) (fun _ s'=>∃σ' H',Inv X pz σ' H' s'/\Q σ' H') X.xe s
abbrev Fw:=V->V->V->Hp->(Hp->Prop)->Prop
def G6 (X:Cx) (t:Fw):Prop:=
 ∀(pz:List (Addr×Obj)) (s:Shared) (σ:St) (H:Hp) (o i v:V) (ov iv u:Value) (Q:Hp->Prop),Inv X pz σ H s->iq o ov->iq i iv->iq v u->t o i v H Q->
  wpAny (model X.prog X.w) X.A (setItem ov iv u) (fun _ s'=>∃H',Inv X pz σ H' s'/\Q H') X.xe s
section
variable {X:Cx} {pos:Pos}
def gJ (i:Nat):TG:=fun v σ H Q=>Q (σ.set i (some v)) H
theorem vc {i:Nat} {x:Str} (hN:X.N.Nodup) (hi:X.N[i]?=some x) (hx:Loc X.env.scope x) (hf:autoParam (X.fn x=true\/X.env.scope.names.lookup x=some .local) L2.Internal.auL._auto_1):PG X (.Name x pos) (gJ i):=by
 intro pz s σ H v u Q I r h
 exact wpAny_assign_Name (nB I hN hi hx r (fun s' I'=>⟨_,H,I',h⟩) hf)
def Fy:TGs:=fun vs σ H Q=>vs=[]/\Q σ H
def yw (t:TG) (u:TGs):TGs:=fun vs σ H Q=>∃v r,vs=v::r/\t v σ H fun σ' H'=>u r σ' H' Q
theorem vd:PGs X [] Fy:=by
 intro pz s σ H vs us Q I r h
 obtain⟨e,h⟩:=h
 subst e
 cases r
 exact assignInOrder_nil ⟨σ,H,I,h⟩
theorem mh {e:Expr} {es:List Expr} {t:TG} {u:TGs} (h1:PG X e t) (h2:PGs X es u)
  (hs:autoParam ((assignEach (e::es) X.env).map (·.2)=assign e X.env::(assignEach es X.env).map (·.2)) L2.Internal.auR._auto_1):PGs X (e::es) (yw t u):=by
 intro pz s σ H vs us Q I r h
 obtain⟨v,vr,e1,h⟩:=h
 subst e1
 cases r with
 |cons r rr=>
  rw[hs]
  refine assignInOrder_cons (thn (h1 pz s σ H _ _ _ I r h) fun _ s1 ⟨σ1,H1,I1,q1⟩=>?_)
  exact h2 pz s1 σ1 H1 _ _ Q I1 rr q1
def FA (K:PySem.W.Frag) (n:Nat) (t:TGs):TG:=fun v σ H Q=>∃a xs,v= .ref a/\SqT K H a xs/\xs.length=n/\t xs σ H Q
theorem yx {es:List Expr} {k:Nat} {t:TGs} {n:Nat} (hc:X.calm=true) (h:PGs X es t)
  (hn:autoParam ((assignEach es X.env).length=n) L2.Internal.auR._auto_1) (hst:autoParam ((assignEach es X.env).findIdx? (·.1)=none) L2.Internal.auR._auto_1):PG X (.Tuple es k pos) (FA X.K n t):=by
 intro pz s σ H v u Q I r hw
 obtain⟨a,xs,e1,hq,hl,hw⟩:=hw
 subst e1
 cases r
 obtain⟨its,rv,ht,hz⟩:=I.tuple hq
 refine assign_Tuple_tuple (I.ok.hd hc) ht (by simp[hn,<-hl,rv.length]) hst fun h' hx=>?_
 have I1:Inv X pz σ H {s with heap:=h'}:=I.kept (t':=s.toks) fun b o e=>hx b o (cu (ff e)) e
 exact h pz _ σ H xs _ Q I1 (by simpa using rv) hw
def gSub (to ti:TE) (t:Fw):TG:=fun v σ H Q=>to σ H fun o H1=>ti σ H1 fun i H2=>t o i v H2 fun H3=>Q σ H3
theorem rB {o i:Expr} {to ti:TE} {t:Fw} (ho:PE X o to) (hi:PE X i ti) (hs:G6 X t)
  (ha:∀v,assign (.Subscript o i pos) X.env v=(do
   let ov<-holding [v] (eval o X.env)
   let iv<-holding [v,ov] (eval i X.env)
   standAt pos
   holding [v,ov,iv] (setItem ov iv v)
   release [v,ov,iv] []):=by intro _;rfl):PG X (.Subscript o i pos) (gSub to ti t):=by
 intro pz s σ H v u Q I r h
 rw[ha]
 refine wpAny_bind (wpAny_holding (thn (ho pz s σ H _ I h) fun ov s1 ⟨x,H1,I1,r1,q1⟩=>?_))
 refine wpAny_bind (wpAny_holding (thn (hi pz s1 σ H1 _ I1 q1) fun iv s2 ⟨y,H2,I2,r2,q2⟩=>?_))
 refine wpAny_bind (wpAny_standAt (wpAny_bind (wpAny_holding (thn (hs pz s2 σ H2 x y v ov iv u _ I2 r1 r2 r q2) fun _ s3 ⟨H3,I3,q3⟩=>?_))))
 exact wpAny_release ⟨σ,H3,I3,q3⟩
def DG (te:TE) (g:TG):TS:=fun D σ H=>te σ H fun x H1=>g x σ H1 D.nx
theorem rC {tg e:Expr} {te:TE} {g:TG} (he:PE X e te) (hg:PG X tg g) (hs:autoParam (swapsWithSole [tg] e pos.line X.env=pure false) L2.Internal.auR._auto_1) (hw:autoParam (swappedStores [tg] e X.env=pure none) L2.Internal.auR._auto_1)
  (h1:autoParam ((assignEach [tg] X.env).map (·.2)=[assign tg X.env]) L2.Internal.auR._auto_1):PS X (.Assign [tg] e pos) (DG te g):=by
 intro pz s σ H D I h
 refine wpAny_Assign_stores (thn (he pz s σ H _ I h) fun v s1 ⟨x,H1,I1,r1,q1⟩=>?_) hs hw
 rw[h1]
 exact thn (hg pz s1 σ H1 x v _ I1 r1 q1) fun _ s2 q=>q
theorem DH {i:Nat} {x:Str} {e:Expr} {te:TE} {pos':Pos} (hN:X.N.Nodup) (hi:X.N[i]?=some x) (hx:Loc X.env.scope x) (he:PE X e te) (hs:autoParam (swapsWith e (some (.Name x pos')) pos.line X.env=pure false) L2.Internal.auR._auto_1) (hf:autoParam (X.fn x=true\/X.env.scope.names.lookup x=some .local) L2.Internal.auL._auto_1):
  PS X (.Assign [.Name x pos'] e pos) (DG te (gJ i)):=by
 intro pz s σ H D I h
 refine wpAny_Assign_Name (thn (he pz s σ H _ I h) fun v s1 ⟨y,H1,I1,r1,q1⟩=>?_) hs
 exact nB I1 hN hi hx r1 (fun s2 I2=>⟨_,H1,I2,q1⟩) hf
end
section
variable {X:Cx} {pos:Pos}
def DI (c:TT) (tb:TS):TS:=fun D σ H=>∃W:Nat->St->Hp->Prop,(∃m,W m σ H)/\∀m σ H,W m σ H->
 c σ H fun b H1=>if b=true then ∃N:St->Hp->Prop,(∀σ' H',N σ' H'->∃m',m'<m/\W m' σ' H')/\tb {D with nx:=N,ct:=N,bk:=D.nx} σ H1 else D.nx σ H1
theorem nF {c:Expr} {body:List Stmt} {tc:TT} {tb:TS} (hp:PassesOwn (model X.prog X.w) X.A X.env X.xe) (hc:PT X c tc) (hb:PSs X body tb):PS X (.While c body [] pos) (DI tc tb):=by
 intro pz s σ H D I h
 obtain⟨W,⟨m0,w0⟩,turn⟩:=h
 refine wpAny_While (codeAny_whileLoop (fun n s'=>∃σ' H',Inv X pz σ' H' s'/\W n σ' H') ?_ m0 ⟨σ,H,I,w0⟩)
 rintro n s1 ⟨σ1,H1,I1,w1⟩
 refine wpAny_passesOwn hp (thn (hc pz s1 σ1 H1 _ I1 (turn n σ1 H1 w1)) fun b s2 ⟨H2,I2,q2⟩=>?_)
 cases b with
 |true=>
  obtain⟨N,hN,q2⟩:=q2
  rw[gx rfl]
  refine wpAny_passesOwn hp (thn (hb pz s2 σ1 H2 _ I2 q2) fun f s3 q3=>?_)
  cases f with
  |next=>
   obtain⟨σ3,H3,I3,n3⟩:=q3
   obtain⟨m',hm,w3⟩:=hN σ3 H3 n3
   exact⟨m',hm,σ3,H3,I3,w3⟩
  |cont=>
   obtain⟨σ3,H3,I3,n3⟩:=q3
   obtain⟨m',hm,w3⟩:=hN σ3 H3 n3
   exact⟨m',hm,σ3,H3,I3,w3⟩
  |brk=>exact q3
  |ret v=>exact q3
 |false=>
  rw[fZ eP]
  exact wpAny_execs_nil ⟨σ1,H2,I2,q2⟩
end
structure It where
 go:Nat->Hp->Prop
 yld:Nat->Hp->V->Hp->Prop
 stop:Nat->Hp->Prop
def xw (X:Cx) (pz:List (Addr×Obj)) (H:Hp) (b:Addr):Prop:=
 H b=none/\b≠X.env.locals/\b∉X.fs/\(b∈X.ex\/X.s₀.heap.objs.size<=b)/\(∀x c,X.env.cells.lookup x=some c->c≠b)/\∀p∈X.pn++pz,p.1≠b
theorem Inv.fpOk {X:Cx} {pz:List (Addr×Obj)} {σ:St} {H H':Hp} {s:Shared} {b:Addr} (I:Inv X pz σ H s) (hb:s.heap.objs.size<=b) (hn:H' b=none):xw X pz H' b:=by
 refine⟨hn,cy (cn I.lt hb),I.nofs hb,.inr (cw I.sz hb),fun x c e z=>?_,fun p hp z=>?_⟩
 ·obtain⟨v,q⟩:=I.cell x c e
  exact absurd (cn q.lt (by rw[z];exact hb)) (cq _)
 ·exact absurd (cn (ff (I.pin p hp).1) (by rw[z];exact hb)) (cq _)
structure Bq (P:Program) (w:World) (K:PySem.W.Frag) (tg:Expr) (J:It) (fp:List Addr) (it:Addr) (tn:Nat->Heap->Prop):Prop where
 mem:it∈fp
 obj:∀i h,tn i h->∀b∈fp,∃o,h.get? b=some o/\∀v,o.data≠ .cell v
 keep:∀i h h',tn i h->(∀b∈fp,∀o,h.get? b=some o->h'.get? b=some o)->tn i h'
 item:∀(X:Cx),X.prog=P->X.w=w->X.K=K->X.calm=true->∀(i:Nat) (pz:List (Addr×Obj)) (s:Shared) (σ:St) (H:Hp) (E:Value->Shared->Prop),Inv X pz σ H s->(∀b∈fp,xw X pz H b)->tn i s.heap->J.go i H->
  wpAny (model P w) X.A (pyNext (.ref it)) (fun r s1=>∃u,r=some u/\
   wpAny (model P w) X.A (letOwnedTupleGo tg (.ref it) u) (fun _ s2=>∃x H',Inv X pz σ H' s2/\iq x u/\J.yld i H x H'/\tn (i+ 1) s2.heap/\∀b∈fp,H' b=none) E s1) E s
 done:∀(X:Cx),X.prog=P->X.w=w->X.K=K->X.calm=true->∀(i:Nat) (pz:List (Addr×Obj)) (s:Shared) (σ:St) (H:Hp) (E:Value->Shared->Prop),Inv X pz σ H s->(∀b∈fp,xw X pz H b)->tn i s.heap->J.stop i H->
  wpAny (model P w) X.A (pyNext (.ref it)) (fun r s1=>r=none/\Inv X pz σ H s1) E s
 self:∀(A:Around) (i:Nat) (s:Shared) (Q:Value->Shared->Prop) (E:Value->Shared->Prop),tn i s.heap->Q (.ref it) s->wpAny (model P w) A (pyIter (.ref it)) Q E s
abbrev TI:=St->Hp->(It->Hp->Prop)->Prop
def PIE (X:Cx) (pz:List (Addr×Obj)) (σ:St) (tg:Expr) (R:It->Hp->Prop) (itv:Value) (s2:Shared):Prop:=
 ∃(it:Addr) (fp:List Addr) (tn:Nat->Heap->Prop) (J:It) (H':Hp),itv= .ref it/\Inv X pz σ H' s2/\Bq X.prog X.w X.K tg J fp it tn/\tn 0 s2.heap/\(∀b∈fp,xw X pz H' b)/\R J H'
def PI (X:Cx) (tg iter:Expr) (wi:TI):Prop:=
 ∀(pz:List (Addr×Obj)) (s:Shared) (σ:St) (H:Hp) (R:It->Hp->Prop),Inv X pz σ H s->wi σ H R->
  wpAny (model X.prog X.w) X.A (eval iter X.env) (fun v s1=>wpAny (model X.prog X.w) X.A (pyIter v) (PIE X pz σ tg R) X.xe s1) X.xe s
theorem xx {M : Model} {A : Around} {E : Value -> Shared -> Prop} {s : Shared} {tg : Expr} {it : Addr} {u : Value} {o : Obj} {n : String} {vs : Array Value} {Q : Unit -> Shared -> Prop} (ho : s.heap.get? it = some o) (hc : o.cls = .type n) (hd : o.data = .fields vs)
  (hn : ["enumerate", "zip", "dict_itemiterator", "dict_reverseitemiterator", "odict_iterator", "itertools.zip_longest", "itertools.pairwise"].contains n = false) (hQ : Q () s) : wpAny M A (letOwnedTupleGo tg (.ref it) u) Q E s := by
 unfold letOwnedTupleGo
 cases tg <;> first
  | exact wpAny_pure hQ
  | (cases u <;> first
    | exact wpAny_pure hQ
    | (refine wpAny_bind (wpAny_load ho ?_)
       rw [hc, hd]
       show wpAny M A (if (["enumerate", "zip", "dict_itemiterator", "dict_reverseitemiterator", "odict_iterator", "itertools.zip_longest", "itertools.pairwise"].contains n && vs[0]? == some (rawInt _)) = true then _ else _) Q E s
       rw [fZ (by intro h; rw [hn, Bool.false_and] at h; cases h)]
       exact wpAny_pure hQ))
def Itl (K:PySem.W.Frag) (a:Addr):It:=
 ⟨fun i H=>∃xs x,SqL K H a xs/\xs[i]?=some x,fun i H x H'=>H'=H/\∀xs,SqL K H a xs->xs[i]?=some x,fun i H=>∃xs,SqL K H a xs/\xs.length<=i⟩
def Itt (K:PySem.W.Frag) (a:Addr):It:=
 ⟨fun i H=>∃xs x,SqT K H a xs/\xs[i]?=some x,fun i H x H'=>H'=H/\∀xs,SqT K H a xs->xs[i]?=some x,fun i H=>∃xs,SqT K H a xs/\xs.length<=i⟩
def Itr (lo:Int) (n:Nat):It:=⟨fun i _=>i<n,fun i H x H'=>H'=H/\x= .int (lo+i),fun i _=>n<=i⟩
theorem yy {P:Program} {w:World} {K:PySem.W.Frag} {tg:Expr} (a it:Addr):Bq P w K tg (Itl K a) [it] it (fun i h=>h.IsListIter it a i) where
 mem:=by simp
 obj:=fun i h st b hb=>by
  have e:b=it:=by simpa using hb
  subst e
  obtain⟨o,e,c,d⟩:=st
  exact⟨o,e,fun v z=>by rw[d]at z;cases z⟩
 keep:=fun i h h' st k=>st.at fun o e=>k it (by simp) o e
 item:=by
  intro X hP hw hK hc i pz s σ H E I hf st hg
  subst hP hw hK
  obtain⟨xs,x,hq,hx⟩:=hg
  obtain⟨its,rv,p,hz⟩:=I.list hq
  obtain⟨u,hu,ru⟩:=rv.get hx
  obtain⟨f0,f1,f2,f3,f4,f5⟩:=hf it (by simp)
  refine wpAny_pyNext_list_item st p.isList (x:=u) (by simpa using hu) fun h' st' sb=>?_
  have I1:Inv X pz σ H {s with heap:=h'}:=I.turned (t':=s.toks) (fun b o hb e=>(sb.2 b hb).trans e) f0 f1 f3 f4 f5
  obtain⟨o,e,c,d⟩:=id st'
  exact⟨u,rfl,xx (s:={s with heap:=h'}) e c d (by decide) ⟨x,H,I1,ru,⟨rfl,fun ys hy=>by rw[I.list_inj hy hq];exact hx⟩,st',fun b hb=>(hf b hb).1⟩⟩
 done:=by
  intro X hP hw hK hc i pz s σ H E I hf st hg
  subst hP hw hK
  obtain⟨xs,hq,hx⟩:=hg
  obtain⟨its,rv,p,hz⟩:=I.list hq
  obtain⟨f0,f1,f2,f3,f4,f5⟩:=hf it (by simp)
  have hl:=rv.length
  exact wpAny_pyNext_list_end (I.ok.hd hc) st p.isList (by simp;lia) fun h' eb=>⟨rfl,I.turned (t':=s.toks) (fun b o hb e=>eb b o hb e) f0 f1 f3 f4 f5⟩
 self:=fun _ _ _ _ _ st h=>wpAny_pyIter_listiter st h
theorem xy {P:Program} {w:World} {K:PySem.W.Frag} {tg:Expr} (a it:Addr):Bq P w K tg (Itt K a) [it] it (fun i h=>h.IsTupleIter it a i) where
 mem:=by simp
 obj:=fun i h st b hb=>by
  have e:b=it:=by simpa using hb
  subst e
  obtain⟨o,e,c,d⟩:=st
  exact⟨o,e,fun v z=>by rw[d]at z;cases z⟩
 keep:=fun i h h' st k=>st.at fun o e=>k it (by simp) o e
 item:=by
  intro X hP hw hK hc i pz s σ H E I hf st hg
  subst hP hw hK
  obtain⟨xs,x,hq,hx⟩:=hg
  obtain⟨its,rv,p,hz⟩:=I.tuple hq
  obtain⟨u,hu,ru⟩:=rv.get hx
  obtain⟨f0,f1,f2,f3,f4,f5⟩:=hf it (by simp)
  refine wpAny_pyNext_tuple_item st (show s.heap.IsTuple a its.toArray from p) (x:=u) (by simpa using hu) fun h' st' sb=>?_
  have I1:Inv X pz σ H {s with heap:=h'}:=I.turned (t':=s.toks) (fun b o hb e=>(sb.2 b hb).trans e) f0 f1 f3 f4 f5
  obtain⟨o,e,c,d⟩:=id st'
  exact⟨u,rfl,xx (s:={s with heap:=h'}) e c d (by decide) ⟨x,H,I1,ru,⟨rfl,fun ys hy=>by rw[I.tuple_inj hy hq];exact hx⟩,st',fun b hb=>(hf b hb).1⟩⟩
 done:=by
  intro X hP hw hK hc i pz s σ H E I hf st hg
  subst hP hw hK
  obtain⟨xs,hq,hx⟩:=hg
  obtain⟨its,rv,p,hz⟩:=I.tuple hq
  obtain⟨f0,f1,f2,f3,f4,f5⟩:=hf it (by simp)
  have hl:=rv.length
  exact wpAny_pyNext_tuple_end (I.ok.hd hc) st (show s.heap.IsTuple a its.toArray from p) (by simp;lia) fun h' eb=>⟨rfl,I.turned (t':=s.toks) (fun b o hb e=>eb b o hb e) f0 f1 f3 f4 f5⟩
 self:=fun _ _ _ _ _ st h=>wpAny_pyIter_tupleiter st h
theorem xA {P:Program} {w:World} {K:PySem.W.Frag} {tg:Expr} (it:Addr) (lo:Int) (n:Nat):Bq P w K tg (Itr lo n) [it] it (fun i h=>IsRangeIter h it (lo+(i:Nat)*1) ((n:Int)-(i:Nat)) 1) where
 mem:=by simp
 obj:=fun i h st b hb=>by
  have e:b=it:=by simpa using hb
  subst e
  exact⟨_,st,fun v z=>by
   have z':Data.fields _=Data.cell v:=z
   cases z'⟩
 keep:=fun i h h' st k=>k it (by simp) _ st
 item:=by
  intro X hP hw hK hc i pz s σ H E I hf st hg
  subst hP hw hK
  obtain⟨f0,f1,f2,f3,f4,f5⟩:=hf it (by simp)
  have W:=Walks.range (prog:=X.prog) (w:=X.w) (I.ok.hd hc) it lo 1 n
  refine W.item i s _ _ hg st fun v h' tk hv st' kk=>?_
  obtain⟨t,rfl⟩:=hv
  have I1:Inv X pz σ H {s with heap:=h',toks:=tk}:=I.turned (fun b o hb e=>kk b o (by simpa using hb) e) f0 f1 f3 f4 f5
  refine⟨_,rfl,xx (s:={s with heap:=h',toks:=tk}) (n:="range_iterator") st' rfl rfl (by decide) ⟨.int (lo+i),H,I1,⟨t,?_⟩,⟨rfl,rfl⟩,st',fun b hb=>(hf b hb).1⟩⟩
  rw[Int.mul_one]
 done:=by
  intro X hP hw hK hc i pz s σ H E I hf st hg
  subst hP hw hK
  obtain⟨f0,f1,f2,f3,f4,f5⟩:=hf it (by simp)
  exact wpAny_pyNext_range_end (I.ok.hd hc) st (by have:n<=i:=hg;lia) fun h' eb=>⟨rfl,I.turned (t':=s.toks) (fun b o hb e=>eb b o hb e) f0 f1 f3 f4 f5⟩
 self:=fun _ _ _ _ _ st h=>wpAny_pyIter_rangeiter st h
section
variable {X:Cx} {tg:Expr}
def FC (K:PySem.W.Frag) (tl:TE):TI:=fun σ H R=>tl σ H fun x H1=>∃a,x= .ref a/\(∃xs,SqL K H1 a xs)/\R (Itl K a) H1
def iTup (K:PySem.W.Frag) (tl:TE):TI:=fun σ H R=>tl σ H fun x H1=>∃a,x= .ref a/\(∃xs,SqT K H1 a xs)/\R (Itt K a) H1
theorem jh {l:Expr} {tl:TE} (hl:PE X l tl):PI X tg l (FC X.K tl):=by
 intro pz s σ H R I h
 refine thn (hl pz s σ H _ I h) fun v s1 ⟨x,H1,I1,r1,q1⟩=>?_
 obtain⟨a,e,⟨xs,hq⟩,q⟩:=q1
 subst e
 cases r1
 obtain⟨its,rv,p,hz⟩:=I1.list hq
 refine wpAny_pyIter_list p.isList ?_
 refine⟨s1.heap.objs.size,[s1.heap.objs.size],_,_,H1,rfl,I1.kept (t':=s1.toks) fun b o e=>fh _ e,yy a _,⟨_,fg _ rfl,rfl,rfl⟩,fun b hb=>?_,q⟩
 have e:b=s1.heap.objs.size:=by simpa using hb
 subst e
 exact I1.fpOk (cz _) (I1.hok.fresh (cz _))
theorem pO {l:Expr} {tl:TE} (hl:PE X l tl):PI X tg l (iTup X.K tl):=by
 intro pz s σ H R I h
 refine thn (hl pz s σ H _ I h) fun v s1 ⟨x,H1,I1,r1,q1⟩=>?_
 obtain⟨a,e,⟨xs,hq⟩,q⟩:=q1
 subst e
 cases r1
 obtain⟨its,rv,p,hz⟩:=I1.tuple hq
 refine wpAny_pyIter_tuple (show s1.heap.IsTuple a its.toArray from p) ?_
 refine⟨s1.heap.objs.size,[s1.heap.objs.size],_,_,H1,rfl,I1.kept (t':=s1.toks) fun b o e=>fh _ e,xy a _,⟨_,fg _ rfl,rfl,rfl⟩,fun b hb=>?_,q⟩
 have e:b=s1.heap.objs.size:=by simpa using hb
 subst e
 exact I1.fpOk (cz _) (I1.hok.fresh (cz _))
theorem Az {pz:List (Addr×Obj)} {σ:St} {H:Hp} {s:Shared} {R:It->Hp->Prop} {E:Value->Shared->Prop} {lo hi:Int} {t u v:Tok} {tk:Nat} (I:Inv X pz σ H s) (h1: -(2^62)<=lo) (h2:lo<2^62) (h3: -(2^62)<=hi) (h4:hi<2^62)
  (q:R (Itr lo (hi-lo).toNat) H):wpAny (model X.prog X.w) X.A (pyIter (.ref s.heap.objs.size)) (PIE X pz σ tg R) E {s with heap:=s.heap.push {cls:= .type "range",data:= .fields #[.int lo t,.int hi u,.int 1 v]},toks:=tk}:=by
 refine wpAny_pyIter_range (IsRange.new ..) (small_one h1 h2 h3 h4) ?_
 have I1:Inv X pz σ H {s with heap:=s.heap.push {cls:= .type "range",data:= .fields #[.int lo t,.int hi u,.int 1 v]},toks:=tk}:=I.kept fun b o e=>fh _ e
 refine⟨(s.heap.push {cls:= .type "range",data:= .fields #[.int lo t,.int hi u,.int 1 v]}).objs.size,[(s.heap.push {cls:= .type "range",data:= .fields #[.int lo t,.int hi u,.int 1 v]}).objs.size],_,_,H,rfl,
  I1.kept (t':=tk) fun b o e=>fh _ e,xA _ lo (hi-lo).toNat,?_,fun b hb=>?_,q⟩
 ·have e1:lo+((0:Nat):Int)*1=lo:=by simp
  have e2:(((hi-lo).toNat:Nat):Int)-((0:Nat):Int)=Builtin.Range.rangeSize lo hi 1:=by rw[rangeSize_one];split<;>lia
  show IsRangeIter _ _ (lo+((0:Nat):Int)*1) ((((hi-lo).toNat:Nat):Int)-((0:Nat):Int)) 1
  rw[e1,e2]
  exact fg _ rfl
 ·have e:b=(s.heap.push {cls:= .type "range",data:= .fields #[.int lo t,.int hi u,.int 1 v]}).objs.size:=by simpa using hb
  subst e
  exact I1.fpOk (cz _) (I1.hok.fresh (cz _))
def FD (ta:TA):TI:=fun σ H R=>ta σ H fun vs H1=>∃j:Int,vs=[.int j]/\-(2^62)<=j/\j<2^62/\R (Itr 0 j.toNat) H1
theorem nG {a:Expr} {ta:TA} {p pos:Pos} (hg:Gl X "range") (hm:X.mg "range"=none) (ha:PA X [a] ta) (hs:autoParam (starEach [a] X.env=[(false,eval a X.env)]) L2.Internal.auR._auto_1):PI X tg (.Call (.Name "range" p) [a] [] pos) (FD ta):=by
 intro pz s σ H R I h
 refine Call_ (nE I hg hm boot_range (fu (thn (ha pos pz s σ H _ I h) fun us s1 ⟨vs,H1,I1,r1,q1⟩=>?_) hs rfl))
 obtain⟨j,e,q1,q2,q⟩:=q1
 subst e
 cases r1 with
 |cons r rr=>
  cases rr
  obtain⟨t,rfl⟩:=r
  exact call_range_1 (Az I1 (by lia) (by lia) q1 q2 (by simpa using q))
def tFor (wi:TI) (g:TG) (tb:TS):TS:=fun D σ H=>wi σ H fun J H1=>∃W:Nat->Nat->St->Hp->Prop,(∃m,W 0 m σ H1)/\∀i m σ H,W i m σ H->
 (J.stop i H/\D.nx σ H)\/(J.go i H/\∃N:St->Hp->Prop,(∀σ' H',N σ' H'->∃m',m'<m/\W (i+ 1) m' σ' H')/\∀x H',J.yld i H x H'->g x σ H' fun σ2 H2=>tb {D with nx:=N,ct:=N,bk:=D.nx} σ2 H2)
def rD (fp:List Addr) (h:Heap):List (Addr×Obj):=fp.filterMap fun b=>(h.get? b).map fun o=>(b,o)
theorem jW {fp:List Addr} {h:Heap} {b:Addr} {o:Obj} (hb:b∈fp) (e:h.get? b=some o):(b,o)∈rD fp h:=ax.mpr ⟨b,hb,by rw[e];rfl⟩
theorem yz {fp:List Addr} {h:Heap} {p:Addr×Obj} (hp:p∈rD fp h):p.1∈fp/\h.get? p.1=some p.2:=by
 obtain⟨b,hb,e⟩:=ax.mp hp
 cases q:h.get? b with
 |none=>rw[q]at e;cases e
 |some o=>
  rw[q]at e
  have e':(b,o)=p:=cX.inj e
  subst e'
  exact⟨hb,q⟩
theorem Inv.pinned {pz:List (Addr×Obj)} {σ:St} {H:Hp} {s:Shared} {fp:List Addr} (I:Inv X pz σ H s) (hf:∀b∈fp,xw X pz H b) (ho:∀b∈fp,∃o,s.heap.get? b=some o/\∀v,o.data≠ .cell v):Inv X (pz++rD fp s.heap) σ H s:=
 I.pins_of fun p hp=>(ao.mp hp).elim (fun z=>I.pin p (ay _ z)) fun z=>by
  obtain⟨hb,e⟩:=yz z
  obtain⟨f0,f1,f2,_⟩:=hf p.1 hb
  obtain⟨o,e',d⟩:=ho p.1 hb
  rw[e]at e';cases e'
  exact⟨e,f0,f1,f2,d⟩
theorem Inv.unpinned {pz pl:List (Addr×Obj)} {σ:St} {H:Hp} {s:Shared} (I:Inv X (pz++pl) σ H s):Inv X pz σ H s:=I.pins_of fun p hp=>I.pin p (ay _ (aq _ hp))
theorem iZ {iter:Expr} {body:List Stmt} {wi:TI} {g:TG} {tb:TS} {pos:Pos} (hp:PassesOwn (model X.prog X.w) X.A X.env X.xe) (hc:X.calm=true) (hi:PI X tg iter wi) (hg:PG X tg g) (hb:PSs X body tb)
  (hs:autoParam (∀x,foldedSetIterable iter X.env x=pure x) L2.Internal.auI._auto_1):PS X (.For tg iter body [] pos) (tFor wi g tb):=by
 intro pz s σ H D I h
 refine wpAny_For (thn (hi pz s σ H _ I h) fun v s1 h1=>thn h1 fun itv s2 h2=>?_) hs
 obtain⟨it,fp,tn,J,H2,e,I2,T,st2,f2,W,⟨m0,w0⟩,turn⟩:=h2
 subst e
 have stat:∀{H':Hp},(∀b∈fp,H' b=none)->∀b∈fp,xw X pz H' b:=fun hn b hb=>⟨hn b hb,(f2 b hb).2⟩
 refine codeAny_forLoop_any (fun n s'=>∃i σ' H',Inv X pz σ' H' s'/\tn i s'.heap/\(∀b∈fp,H' b=none)/\W i n σ' H') ?_ m0 ⟨0,σ,H2,I2,st2,fun b hb=>(f2 b hb).1,w0⟩
 rintro n s3 ⟨i,σ3,H3,I3,st3,fr3,w3⟩
 rcases turn i n σ3 H3 w3 with⟨stop,qn⟩|⟨go,N,hN,step⟩
 ·refine wpAny_passesOwn hp (thn (T.done X rfl rfl rfl hc i pz s3 σ3 H3 X.xe I3 (stat fr3) st3 stop) fun r s4 ⟨hr,I4⟩=>?_)
  subst hr
  exact wpAny_execs_nil ⟨σ3,H3,I4,qn⟩
 ·refine wpAny_passesOwn hp (thn (T.item X rfl rfl rfl hc i pz s3 σ3 H3 X.xe I3 (stat fr3) st3 go) fun r s4 ⟨u,hr,h4⟩=>?_)
  subst hr
  refine wpAny_passesOwn hp (thn h4 fun _ s5 ⟨x,H5,I5,r5,y5,st5,fr5⟩=>?_)
  have I5':=I5.pinned (stat fr5) (T.obj _ _ st5)
  refine wpAny_passesOwn hp (thn (hg _ s5 σ3 H5 x u _ I5' r5 (step x H5 y5)) fun _ s6 ⟨σ6,H6,I6,q6⟩=>?_)
  refine wpAny_passesOwn hp (thn (hb _ s6 σ6 H6 _ I6 q6) fun f s7 q7=>?_)
  have again:∀{σ7:St} {H7:Hp},Inv X (pz++rD fp s5.heap) σ7 H7 s7->N σ7 H7->∃m,m<n/\∃i σ' H',Inv X pz σ' H' s7/\tn i s7.heap/\(∀b∈fp,H' b=none)/\W i m σ' H':=fun{σ7 H7} I7 n7=>by
   obtain⟨m',hm,w7⟩:=hN σ7 H7 n7
   refine⟨m',hm,i+ 1,σ7,H7,I7.unpinned,T.keep _ _ _ st5 fun b hb o e=>(I7.pin (b,o) (ay _ (ay _ (jW hb e)))).1,fun b hb=>?_,w7⟩
   obtain⟨o,e,d⟩:=T.obj _ _ st5 b hb
   exact(I7.pin (b,o) (ay _ (ay _ (jW hb e)))).2.1
  cases f with
  |next=>obtain⟨σ7,H7,I7,n7⟩:=q7;exact again I7 n7
  |cont=>obtain⟨σ7,H7,I7,n7⟩:=q7;exact again I7 n7
  |brk=>obtain⟨σ7,H7,I7,q7⟩:=q7;exact⟨σ7,H7,I7.unpinned,q7⟩
  |ret v=>obtain⟨x7,σ7,H7,I7,r7,q7⟩:=q7;exact⟨x7,σ7,H7,I7.unpinned,r7,q7⟩
end
theorem jo {K:PySem.W.Frag} {a:Addr} {xs:List V} {g:TG} {tb:TS} {D:qN} {σ:St} {H:Hp} (Pv:Nat->St->Hp->Prop) (h0:Pv 0 σ H) (hl:∀i σ H,i<=xs.length->Pv i σ H->SqL K H a xs)
  (hs:∀i x σ H,xs[i]?=some x->Pv i σ H->g x σ H fun σ2 H2=>tb {D with nx:=Pv (i+ 1),ct:=Pv (i+ 1),bk:=D.nx} σ2 H2) (hd:∀σ H,Pv xs.length σ H->D.nx σ H):
  ∃W:Nat->Nat->St->Hp->Prop,(∃m,W 0 m σ H)/\∀i m σ H,W i m σ H->
   ((Itl K a).stop i H/\D.nx σ H)\/((Itl K a).go i H/\∃N:St->Hp->Prop,(∀σ' H',N σ' H'->∃m',m'<m/\W (i+ 1) m' σ' H')/\∀x H',(Itl K a).yld i H x H'->g x σ H' fun σ2 H2=>tb {D with nx:=N,ct:=N,bk:=D.nx} σ2 H2):=by
 refine⟨fun i m σ H=>m=xs.length-i/\i<=xs.length/\Pv i σ H,⟨xs.length,by simp,cA _,h0⟩,?_⟩
 rintro i m σ H ⟨rfl,hi,p⟩
 have q:=hl i σ H hi p
 by_cases hlt:i<xs.length
 ·refine .inr ⟨⟨xs,xs[i],q,by simp[hlt]⟩,Pv (i+ 1),fun σ' H' p'=>⟨xs.length-(i+ 1),by lia,rfl,hlt,p'⟩,fun x H' y=>?_⟩
  obtain⟨e,y⟩:=y
  subst e
  exact hs i x σ _ (y xs q) p
 ·have e:i=xs.length:=by lia
  subst e
  exact .inl ⟨⟨xs,q,cz _⟩,hd σ H p⟩
theorem ve {K:PySem.W.Frag} {a:Addr} {xs:List V} {g:TG} {tb:TS} {D:qN} {σ:St} {H:Hp} (Pv:Nat->St->Hp->Prop) (h0:Pv 0 σ H) (hl:∀i σ H,i<=xs.length->Pv i σ H->SqT K H a xs)
  (hs:∀i x σ H,xs[i]?=some x->Pv i σ H->g x σ H fun σ2 H2=>tb {D with nx:=Pv (i+ 1),ct:=Pv (i+ 1),bk:=D.nx} σ2 H2) (hd:∀σ H,Pv xs.length σ H->D.nx σ H):
  ∃W:Nat->Nat->St->Hp->Prop,(∃m,W 0 m σ H)/\∀i m σ H,W i m σ H->
   ((Itt K a).stop i H/\D.nx σ H)\/((Itt K a).go i H/\∃N:St->Hp->Prop,(∀σ' H',N σ' H'->∃m',m'<m/\W (i+ 1) m' σ' H')/\∀x H',(Itt K a).yld i H x H'->g x σ H' fun σ2 H2=>tb {D with nx:=N,ct:=N,bk:=D.nx} σ2 H2):=by
 refine⟨fun i m σ H=>m=xs.length-i/\i<=xs.length/\Pv i σ H,⟨xs.length,by simp,cA _,h0⟩,?_⟩
 rintro i m σ H ⟨rfl,hi,p⟩
 have q:=hl i σ H hi p
 by_cases hlt:i<xs.length
 ·refine .inr ⟨⟨xs,xs[i],q,by simp[hlt]⟩,Pv (i+ 1),fun σ' H' p'=>⟨xs.length-(i+ 1),by lia,rfl,hlt,p'⟩,fun x H' y=>?_⟩
  obtain⟨e,y⟩:=y
  subst e
  exact hs i x σ _ (y xs q) p
 ·have e:i=xs.length:=by lia
  subst e
  exact .inl ⟨⟨xs,q,cz _⟩,hd σ H p⟩
theorem nH {lo:Int} {n:Nat} {g:TG} {tb:TS} {D:qN} {σ:St} {H:Hp} (Pv:Nat->St->Hp->Prop) (h0:Pv 0 σ H)
  (hs:∀i σ H,i<n->Pv i σ H->g (.int (lo+i)) σ H fun σ2 H2=>tb {D with nx:=Pv (i+ 1),ct:=Pv (i+ 1),bk:=D.nx} σ2 H2) (hd:∀σ H,Pv n σ H->D.nx σ H):
  ∃W:Nat->Nat->St->Hp->Prop,(∃m,W 0 m σ H)/\∀i m σ H,W i m σ H->
   ((Itr lo n).stop i H/\D.nx σ H)\/((Itr lo n).go i H/\∃N:St->Hp->Prop,(∀σ' H',N σ' H'->∃m',m'<m/\W (i+ 1) m' σ' H')/\∀x H',(Itr lo n).yld i H x H'->g x σ H' fun σ2 H2=>tb {D with nx:=N,ct:=N,bk:=D.nx} σ2 H2):=by
 refine⟨fun i m σ H=>m=n-i/\i<=n/\Pv i σ H,⟨n,by simp,cA _,h0⟩,?_⟩
 rintro i m σ H ⟨rfl,hi,p⟩
 by_cases hlt:i<n
 ·refine .inr ⟨hlt,Pv (i+ 1),fun σ' H' p'=>⟨n-(i+ 1),by lia,rfl,hlt,p'⟩,fun x H' y=>?_⟩
  obtain⟨e,y⟩:=y
  subst e y
  exact hs i σ _ hlt p
 ·have e:i=n:=by lia
  subst e
  exact .inl ⟨cz _,hd σ H p⟩
abbrev R2:=V->V->Hp->VK->Prop
def OpR (X:Cx) (f:Value->Value->Sem Value) (r:R2):Prop:=
 ∀(pz:List (Addr×Obj)) (s:Shared) (σ:St) (H:Hp) (x y:V) (v u:Value) (Q:VK),Inv X pz σ H s->iq x v->iq y u->r x y H Q->
  wpAny (model X.prog X.w) X.A (f v u) (EP X pz σ Q) X.xe s
def UnR (X:Cx) (f:Value->Sem Value) (r:V->Hp->VK->Prop):Prop:=
 ∀(pz:List (Addr×Obj)) (s:Shared) (σ:St) (H:Hp) (x:V) (v:Value) (Q:VK),Inv X pz σ H s->iq x v->r x H Q->
  wpAny (model X.prog X.w) X.A (f v) (EP X pz σ Q) X.xe s
def mI (X:Cx) (f:Value) (r:List V->Hp->VK->Prop):Prop:=
 ∀(pz:List (Addr×Obj)) (s:Shared) (σ:St) (H:Hp) (xs:List V) (us:List Value) (Q:VK),Inv X pz σ H s->ik xs us->r xs H Q->
  wpAny (model X.prog X.w) X.A (call f us) (EP X pz σ Q) X.xe s
def tOp (r:R2) (ta tb:TE):TE:=fun σ H Q=>ta σ H fun x H1=>tb σ H1 fun y H2=>r x y H2 Q
def tUn (r:V->Hp->VK->Prop) (ta:TE):TE:=fun σ H Q=>ta σ H fun x H1=>r x H1 Q
def rI (C:Int->Int->Prop) (g:Int->Int->V):R2:=fun x y H Q=>∃i j,x= .int i/\y= .int j/\C i j/\Q (g i j) H
def rI0 (g:Int->Int->V):R2:=fun x y H Q=>∃i j,x= .int i/\y= .int j/\Q (g i j) H
def rU (g:Int->V):V->Hp->VK->Prop:=fun x H Q=>∃i,x= .int i/\Q (g i) H
section
variable {X:Cx} {a b c:Expr} {ta tb tc:TE} {pos:Pos}
theorem FF (ha:PE X a ta) (hb:PE X b tb) {pz:List (Addr×Obj)} {s:Shared} {σ:St} {H:Hp} {R:V->V->Hp->Prop} (I:Inv X pz σ H s)
  (h:ta σ H fun x H1=>tb σ H1 fun y H2=>R x y H2) {Q:Value->Shared->Prop} {f:Value->Value->Sem Value}
  (hf:∀v u s2 x y H2,Inv X pz σ H2 s2->iq x v->iq y u->R x y H2->wpAny (model X.prog X.w) X.A (f v u) Q X.xe s2):
  wpAny (model X.prog X.w) X.A (eval a X.env) (fun v s₁=>wpAny (model X.prog X.w) X.A (eval b X.env) (fun u s₂=>wpAny (model X.prog X.w) X.A (f v u) Q X.xe s₂) X.xe s₁) X.xe s:=by
 refine thn (ha pz s σ H _ I h) fun v s1 ⟨x,H1,I1,r1,q1⟩=>?_
 refine thn (hb pz s1 σ H1 _ I1 q1) fun u s2 ⟨y,H2,I2,r2,q2⟩=>?_
 exact hf v u s2 x y H2 I2 r1 r2 q2
theorem gK {op:Operator} {r:R2} (ho:OpR X (binaryOp op) r) (ha:PE X a ta) (hb:PE X b tb):PE X (.BinOp a op b pos) (tOp r ta tb):=by
 intro pz s σ H Q I h
 exact wpAny_BinOp (FF ha hb I h fun v u s2 x y H2 I2 rx ry q=>ho pz s2 σ H2 x y v u Q I2 rx ry q)
theorem xB {op:UnaryOp} {r:V->Hp->VK->Prop} (ho:UnR X (unaryOp op) r) (ha:PE X a ta):PE X (.UnaryOp op a pos) (tUn r ta):=by
 intro pz s σ H Q I h
 exact UnaryOp_ (thn (ha pz s σ H _ I h) fun v s1 ⟨x,H1,I1,r1,q1⟩=>ho pz s1 σ H1 x v Q I1 r1 q1)
theorem opI {f:Value->Value->Sem Value} {C:Int->Int->Prop} {g:Int->Int->Int}
  (rule:∀(i j:Int) (t u:Tok) (s:Shared) (Q:Value->Shared->Prop) (E:Value->Shared->Prop),C i j->Q (.int (g i j) s.toks) {s with toks:=s.toks+ 1}->wpAny (model X.prog X.w) X.A (f (.int i t) (.int j u)) Q E s):
  OpR X f (rI C fun i j=> .int (g i j)):=by
 intro pz s σ H x y v u Q I rx ry h
 obtain⟨i,j,rfl,rfl,hc,q⟩:=h
 obtain⟨t,rfl⟩:=rx
 obtain⟨t',rfl⟩:=ry
 exact rule i j t t' s _ _ hc ⟨.int (g i j),H,I.tok _,⟨_,rfl⟩,q⟩
theorem G7 {f:Value->Value->Sem Value} {g:Int->Int->Int}
  (rule:∀(i j:Int) (t u:Tok) (s:Shared) (Q:Value->Shared->Prop) (E:Value->Shared->Prop),Q (.int (g i j) s.toks) {s with toks:=s.toks+ 1}->wpAny (model X.prog X.w) X.A (f (.int i t) (.int j u)) Q E s):
  OpR X f (rI0 fun i j=> .int (g i j)):=by
 intro pz s σ H x y v u Q I rx ry h
 obtain⟨i,j,rfl,rfl,q⟩:=h
 obtain⟨t,rfl⟩:=rx
 obtain⟨t',rfl⟩:=ry
 exact rule i j t t' s _ _ ⟨.int (g i j),H,I.tok _,⟨_,rfl⟩,q⟩
theorem Fb {f:Value->Value->Sem Value} {g:Int->Int->Bool}
  (rule:∀(i j:Int) (t u:Tok) (s:Shared) (Q:Value->Shared->Prop) (E:Value->Shared->Prop),Q (.bool (g i j)) s->wpAny (model X.prog X.w) X.A (f (.int i t) (.int j u)) Q E s):
  OpR X f (rI0 fun i j=> .bl (g i j)):=by
 intro pz s σ H x y v u Q I rx ry h
 obtain⟨i,j,rfl,rfl,q⟩:=h
 obtain⟨t,rfl⟩:=rx
 obtain⟨t',rfl⟩:=ry
 exact rule i j t t' s _ _ ⟨.bl (g i j),H,I,rfl,q⟩
def G8 (i j:Int):Prop:=0<j/\j<1073741824
def G9 (i j:Int):Prop:=0<=j/\j<=1000000/\i.natAbs<2^64
theorem Br:OpR X (binaryOp .Add) (rI0 fun i j=> .int (i+j)):=G7 fun _ _ _ _ _ _ _ q=>add_int q
theorem DJ:OpR X (binaryOp .Sub) (rI0 fun i j=> .int (i-j)):=G7 fun _ _ _ _ _ _ _ q=>sub_int q
theorem B0:OpR X (binaryOp .FloorDiv) (rI G8 fun i j=> .int (i/j)):=opI fun i j _ _ _ _ _ hc q=>by
 have h1:(0:Int)<j:=hc.1
 have h2:j<1073741824:=hc.2
 exact floordiv_int (by lia) (by rw[Int.fdiv_eq_ediv_of_nonneg i (by lia)];exact q) (.inl (PyProof.noPylong_small (by lia)))
theorem DM:OpR X (binaryOp .Mod) (rI (fun _ j=>0<j) fun i j=> .int (i%j)):=opI fun i j _ _ _ _ _ hc q=>by
 have h1:(0:Int)<j:=hc
 exact mod_int' (by lia) (by rw[Int.fmod_eq_emod_of_nonneg i (by lia)];exact q)
theorem DN:OpR X (binaryOp .Pow) (rI G9 fun i j=> .int (i^j.toNat)):=opI fun _ _ _ _ _ _ _ hc q=>pow_int_small hc.1 hc.2.1 hc.2.2 q
theorem unI {f:Value->Sem Value} {g:Int->Int}
  (rule:∀(i:Int) (t:Tok) (s:Shared) (Q:Value->Shared->Prop) (E:Value->Shared->Prop),Q (.int (g i) s.toks) {s with toks:=s.toks+ 1}->wpAny (model X.prog X.w) X.A (f (.int i t)) Q E s):
  UnR X f (rU fun i=> .int (g i)):=by
 intro pz s σ H x v Q I rx h
 obtain⟨i,rfl,q⟩:=h
 obtain⟨t,rfl⟩:=rx
 exact rule i t s _ _ ⟨.int (g i),H,I.tok _,⟨_,rfl⟩,q⟩
theorem rE:UnR X (unaryOp .USub) (rU fun i=> .int (-i)):=unI fun _ _ _ _ _ q=>neg_int q
end
def Ha:V->V->Bool
 | .non,.non=>true| .non,.int _=>true| .int _,.non=>true| .non,.bl _=>true| .bl _,.non=>true| .non,.str _=>true| .str _,.non=>true
 | .int _,.int _=>true| .bl _,.bl _=>true| .str _,.str _=>true| .byt _,.byt _=>true
 | .int _,.str _=>true| .str _,.int _=>true| .bl _,.str _=>true| .str _,.bl _=>true
 |_,_=>false
def rEq:R2:=fun x y H Q=>Ha x y=true/\Q (.bl (decide (x=y))) H
def rNe:R2:=fun x y H Q=>Ha x y=true/\Q (.bl (!decide (x=y))) H
theorem yA {i j:Int}:decide (V.int i=V.int j)=(i==j):=by
 rw[eQ]
 simp
theorem Bs {i j:Bool}:decide (V.bl i=V.bl j)=(i==j):=by
 rw[eQ]
 simp
theorem yB {i j:Str}:decide (V.str i=V.str j)=(i==j):=by
 rw[eQ]
 simp
theorem yC {i j:Array UInt8}:decide (V.byt i=V.byt j)=(i.toList==j.toList):=by
 rw[eQ]
 cases i
 cases j
 simp
section
variable {X:Cx} {a b c:Expr} {ta tb tc:TE} {pos:Pos}
theorem gZ {pz:List (Addr×Obj)} {σ:St} {H:Hp} {s:Shared} {Q:VK} {k k':Bool} (I:Inv X pz σ H s) (q:Q (.bl k) H) (e:k=k'):EP X pz σ Q (.bool k') s:=by
 subst e
 exact⟨.bl k,H,I,rfl,q⟩
theorem sd:OpR X (compareOp .Eq) rEq:=by
 intro pz s σ H x y v u Q I rx ry h
 obtain⟨hs,q⟩:=h
 cases x with
 |non=>
  cases rx
  cases y with
  |non=>cases ry;exact PySem.EqNone.eq_none_none (gZ I q (by simp))
  |bl j=>cases ry;exact PySem.EqNone.eq_none_bool (gZ I q (by simp))
  |int j=>obtain⟨t',rfl⟩:=ry;exact PySem.EqNone.eq_none_int (gZ I q (by simp))
  |str j=>obtain⟨t',rfl⟩:=ry;exact PySem.EqNone.eq_none_str (gZ I q (by simp))
  |_=>exact absurd (show false=true from hs) eP
 |bl i=>
  cases rx
  cases y with
  |non=>cases ry;exact PySem.EqNone.eq_bool_none (gZ I q (by simp))
  |bl j=>cases ry;exact eq_bool (gZ I q Bs)
  |str j=>obtain⟨t',rfl⟩:=ry;exact PySem.EqMixed.eq_bool_str (gZ I q (by simp))
  |_=>exact absurd (show false=true from hs) eP
 |int i=>
  obtain⟨t,rfl⟩:=rx
  cases y with
  |non=>cases ry;exact PySem.EqNone.eq_int_none (gZ I q (by simp))
  |int j=>obtain⟨t',rfl⟩:=ry;exact eq_int (gZ I q yA)
  |str j=>obtain⟨t',rfl⟩:=ry;exact PySem.EqMixed.eq_int_str (gZ I q (by simp))
  |_=>exact absurd (show false=true from hs) eP
 |str i=>
  obtain⟨t,rfl⟩:=rx
  cases y with
  |non=>cases ry;exact PySem.EqNone.eq_str_none (gZ I q (by simp))
  |bl j=>cases ry;exact PySem.EqMixed.eq_str_bool (gZ I q (by simp))
  |int j=>obtain⟨t',rfl⟩:=ry;exact PySem.EqMixed.eq_str_int (gZ I q (by simp))
  |str j=>obtain⟨t',rfl⟩:=ry;exact eq_str (gZ I q yB)
  |_=>exact absurd (show false=true from hs) eP
 |byt i=>
  obtain⟨t,rfl⟩:=rx
  cases y with
  |byt j=>obtain⟨t',rfl⟩:=ry;exact PySem.W.eq_bytes (gZ I q yC)
  |_=>exact absurd (show false=true from hs) eP
 |_=>cases y<;>exact absurd (show false=true from hs) eP
theorem mJ:OpR X (compareOp .NotEq) rNe:=by
 intro pz s σ H x y v u Q I rx ry h
 obtain⟨hs,q⟩:=h
 cases x with
 |non=>
  cases rx
  cases y with
  |non=>cases ry;exact PySem.EqNone.ne_none_none (gZ I q (by simp))
  |bl j=>cases ry;exact PySem.EqNone.ne_none_bool (gZ I q (by simp))
  |int j=>obtain⟨t',rfl⟩:=ry;exact PySem.EqNone.ne_none_int (gZ I q (by simp))
  |str j=>obtain⟨t',rfl⟩:=ry;exact PySem.EqNone.ne_none_str (gZ I q (by simp))
  |_=>exact absurd (show false=true from hs) eP
 |bl i=>
  cases rx
  cases y with
  |non=>cases ry;exact PySem.EqNone.ne_bool_none (gZ I q (by simp))
  |bl j=>cases ry;exact ne_bool (gZ I q (congrArg not Bs))
  |str j=>obtain⟨t',rfl⟩:=ry;exact PySem.EqMixed.ne_bool_str (gZ I q (by simp))
  |_=>exact absurd (show false=true from hs) eP
 |int i=>
  obtain⟨t,rfl⟩:=rx
  cases y with
  |non=>cases ry;exact PySem.EqNone.ne_int_none (gZ I q (by simp))
  |int j=>obtain⟨t',rfl⟩:=ry;exact ne_int (gZ I q (congrArg not yA))
  |str j=>obtain⟨t',rfl⟩:=ry;exact PySem.EqMixed.ne_int_str (gZ I q (by simp))
  |_=>exact absurd (show false=true from hs) eP
 |str i=>
  obtain⟨t,rfl⟩:=rx
  cases y with
  |non=>cases ry;exact PySem.EqNone.ne_str_none (gZ I q (by simp))
  |bl j=>cases ry;exact PySem.EqMixed.ne_str_bool (gZ I q (by simp))
  |int j=>obtain⟨t',rfl⟩:=ry;exact PySem.EqMixed.ne_str_int (gZ I q (by simp))
  |str j=>obtain⟨t',rfl⟩:=ry;exact ne_str (gZ I q (congrArg not yB))
  |_=>exact absurd (show false=true from hs) eP
 |byt i=>
  obtain⟨t,rfl⟩:=rx
  cases y with
  |byt j=>obtain⟨t',rfl⟩:=ry;exact PySem.W.ne_bytes (gZ I q (congrArg not yC))
  |_=>exact absurd (show false=true from hs) eP
 |_=>cases y<;>exact absurd (show false=true from hs) eP
theorem FH:OpR X (compareOp .Lt) (rI0 fun i j=> .bl (decide (i<j))):=Fb fun _ _ _ _ _ _ _ q=>lt_int q
theorem xC:OpR X (compareOp .LtE) (rI0 fun i j=> .bl (decide (i<=j))):=Fb fun _ _ _ _ _ _ _ q=>le_int q
theorem B2:OpR X (compareOp .Gt) (rI0 fun i j=> .bl (decide (j<i))):=Fb fun _ _ _ _ _ _ _ q=>gt_int q
theorem FI:OpR X (compareOp .GtE) (rI0 fun i j=> .bl (decide (j<=i))):=Fb fun _ _ _ _ _ _ _ q=>ge_int q
theorem tP:OpR X (compareOp .In) (fun x y H Q=>∃i j,x= .str i/\y= .str j/\Q (.bl (!(Builtin.Str.occurrences j i 0 j.length 1).isEmpty)) H):=by
 intro pz s σ H x y v u Q I rx ry h
 obtain⟨i,j,rfl,rfl,q⟩:=h
 obtain⟨t,rfl⟩:=rx
 obtain⟨t',rfl⟩:=ry
 exact in_str (gZ I q rfl)
theorem yD (b:Expr) {op:CmpOp} (h:autoParam (op≠ .In) L2.Internal.auD._auto_1) (h2:autoParam (op≠ .NotIn) L2.Internal.auD._auto_1):behindInMarks op b=false:=by
 have e1:(op==CmpOp.In)=false:=by cases op<;>first|rfl|exact absurd rfl h
 have e2:(op==CmpOp.NotIn)=false:=by cases op<;>first|rfl|exact absurd rfl h2
 cases b<;>simp[behindInMarks,e1,e2]
theorem kQ {op:CmpOp} {r:R2} (ho:OpR X (compareOp op) r) (ha:PE X a ta) (hb:PE X b tb) (hm:behindInMarks op b=false:=by exact yD _):PE X (.Compare a [op] [b] pos) (tOp r ta tb):=by
 intro pz s σ H Q I h
 exact wpAny_Compare1 (FF ha hb I h fun v u s2 x y H2 I2 rx ry q=>ho pz s2 σ H2 x y v u Q I2 rx ry q) hm
def DO (t:TE):TT:=fun σ H Q=>t σ H fun x H'=>∃k,x= .bl k/\Q k H'
theorem iI {op:CmpOp} {r:R2} (ho:OpR X (compareOp op) r) (ha:PE X a ta) (hb:PE X b tb) (hm:behindInMarks op b=false:=by exact yD _):PT X (.Compare a [op] [b] pos) (DO (tOp r ta tb)):=by
 intro pz s σ H Q I h
 refine wpAny_isTrue_Compare1 (thn (ha pz s σ H _ I h) fun v s1 ⟨x,H1,I1,r1,q1⟩=>thn (hb pz s1 σ H1 _ I1 q1) fun u s2 ⟨y,H2,I2,r2,q2⟩=>
  thn (ho pz s2 σ H2 x y v u _ I2 r1 r2 q2) fun c s3 ⟨z,H3,I3,r3,k,e,q3⟩=>?_) hm
 subst e
 cases r3
 exact wpAny_truthy_bool ⟨H3,I3,q3⟩
def DP (r r':R2) (ta tb tc:TE):TE:=fun σ H Q=>ta σ H fun x H1=>tb σ H1 fun y H2=>r x y H2 fun z H3=>∃k,z= .bl k/\
 (if k=true then tc σ H3 fun w' H4=>r' y w' H4 Q else Q (.bl false) H3)
theorem se {op op':CmpOp} {r r':R2} (ho:OpR X (compareOp op) r) (ho':OpR X (compareOp op') r') (ha:PE X a ta) (hb:PE X b tb) (hc:PE X c tc)
  (hm:lastMarks [op,op'] [b,c]=false:=by with_unfolding_all rfl):PT X (.Compare a [op,op'] [b,c] pos) (DO (DP r r' ta tb tc)):=by
 intro pz s σ H Q I h
 refine isTrue_chain (thn (ha pz s σ H _ I h) fun v s1 ⟨x,H1,I1,r1,q1⟩=>test_link (thn (hb pz s1 σ H1 _ I1 q1) fun u s2 ⟨y,H2,I2,r2,q2⟩=>
  thn (ho pz s2 σ H2 x y v u _ I2 r1 r2 q2) fun d s3 ⟨z,H3,I3,r3,k,e,q3⟩=>?_)) hm
 subst e
 cases r3
 refine wpAny_truthy_bool ?_
 cases k with
 |false=>
  obtain⟨k',e',q'⟩:=q3
  cases e'
  exact ite_ff ⟨H3,I3,q'⟩
 |true=>
  refine ite_tt (test_last (thn (hc pz s3 σ H3 _ I3 q3) fun w' s4 ⟨z',H4,I4,r4,q4⟩=>thn (ho' pz s4 σ H4 y z' u w' _ I4 r2 r4 q4) fun d' s5 ⟨z2,H5,I5,r5,k2,e2,q5⟩=>?_))
  subst e2
  cases r5
  exact wpAny_truthy_bool ⟨H5,I5,q5⟩
theorem rF:(sizeLine:Nat)<2^63:=by rw[sizeLine_eq];decide
theorem rG:OpR X (binaryOp .Add) (fun x y H Q=>∃i j,x= .str i/\y= .str j/\i.length+j.length<=sizeLine/\Q (.str (i++j)) H):=by
 intro pz s σ H x y v u Q I rx ry h
 obtain⟨i,j,rfl,rfl,hz,q⟩:=h
 obtain⟨t,rfl⟩:=rx
 obtain⟨t',rfl⟩:=ry
 exact add_str (fun t' tk=>⟨.str (i++j),H,I.tok _,⟨_,rfl⟩,q⟩) hz
theorem lH {x:V} {us:List Value} (r:ik [x] us):∃u,us=[u]/\iq x u:=by
 cases r with
 |cons r1 r2=>cases r2;exact⟨_,rfl,r1⟩
theorem B3 {x y:V} {us:List Value} (r:ik [x,y] us):∃u w',us=[u,w']/\iq x u/\iq y w':=by
 cases r with
 |cons r1 r2=>
  cases r2 with
  |cons r3 r4=>cases r4;exact⟨_,_,rfl,r1,r3⟩
theorem yE (hc:X.calm=true):mI X (.builtin "max") (fun xs H Q=>∃i j,xs=[.int i,.int j]/\Q (.int (if j>i then j else i)) H):=by
 intro pz s σ H xs us Q I r h
 obtain⟨i,j,rfl,q⟩:=h
 obtain⟨u,w',rfl,⟨t,rfl⟩,⟨t',rfl⟩⟩:=B3 r
 refine max_two_ints (I.ok.hd hc) fun h' tk k=>⟨_,H,I.kept k,?_,q⟩
 by_cases hj:j>i
 ·rw[gx hj,gx hj];exact⟨_,rfl⟩
 ·rw[fZ hj,fZ hj];exact⟨_,rfl⟩
theorem yF (hc:X.calm=true):mI X (.builtin "min") (fun xs H Q=>∃i j,xs=[.int i,.int j]/\Q (.int (if j<i then j else i)) H):=by
 intro pz s σ H xs us Q I r h
 obtain⟨i,j,rfl,q⟩:=h
 obtain⟨u,w',rfl,⟨t,rfl⟩,⟨t',rfl⟩⟩:=B3 r
 refine min_two_ints (I.ok.hd hc) fun h' tk k=>⟨_,H,I.kept k,?_,q⟩
 by_cases hj:j<i
 ·rw[gx hj,gx hj];exact⟨_,rfl⟩
 ·rw[fZ hj,fZ hj];exact⟨_,rfl⟩
theorem yG:mI X (.type "int") (fun xs H Q=>(∃i,xs=[.int i]/\Q (.int i) H)\/∃k,xs=[.bl k]/\Q (.int (if k then 1 else 0)) H):=by
 intro pz s σ H xs us Q I r h
 rcases h with⟨i,rfl,q⟩|⟨k,rfl,q⟩
 ·obtain⟨u,rfl,t,rfl⟩:=lH r
  exact call_int_int ⟨.int i,H,I,⟨_,rfl⟩,q⟩
 ·obtain⟨u,rfl,r1⟩:=lH r
  cases r1
  exact call_int_bool ⟨.int (if k then 1 else 0),H,I.tok _,⟨_,rfl⟩,q⟩
theorem tQ:mI X (.type "str") (fun xs H Q=>∃i,xs=[.int i]/\i.natAbs.log2<1920/\Q (.str (toString i)) H):=by
 intro pz s σ H xs us Q I r h
 obtain⟨i,rfl,hz,q⟩:=h
 obtain⟨u,rfl,t,rfl⟩:=lH r
 exact PySem.P.str_of_int hz ⟨.str _,H,I.tok _,⟨_,rfl⟩,q⟩
end
structure B4 (h:Heap) (x dx C:Addr) (mA:Str->Option Value):Prop where
 obj:h.get? x=some (df C dx)
 ns:h.Ns1 dx mA
 ne:dx≠x
theorem yH {h:Heap} {dx:Addr} {mA:Str->Option Value} (n:h.Ns1 dx mA):∃od,h.get? dx=some od/\∀name,dn name od=some (mA name):=by
 obtain⟨o,es,ep,ho,hd,hk,_,hm⟩:=n
 refine⟨o,ho,fun name=>?_⟩
 have e:=hm name
 unfold nsFind findBy at e
 rw[<-Array.find?_toList]at e
 unfold dn
 rw[hd]
 dsimp only
 split
 ·rename_i y q
  rw[q]at e
  exact congrArg some e
 ·rename_i q
  rw[q]at e
  have a:es.toList.any (·.refKey)=false:=by
   rw[List.any_eq_false]
   intro y hy
   obtain⟨z,t,hkey⟩:=hk y (Array.mem_toList_iff.mp hy)
   simp[DictEntry.refKey,hkey]
  have a':¬es.toList.any (·.refKey)=true:=by rw[a];exact eP
  rw[fZ a']
  exact congrArg some e
theorem B4.look {h:Heap} {x dx C:Addr} {mA:Str->Option Value} (I:B4 h x dx C mA):∃od,PySem.W.InstAt h x (df C dx) C (some od)/\∀name,dn name od=some (mA name):=
 let⟨od,ho,hl⟩:=yH I.ns
 ⟨od,⟨I.obj,rfl,rfl,ho⟩,hl⟩
section
variable {prog:Program} {w:World} {A:Around} {E:Value->Shared->Prop} {s:Shared} {K:PySem.W.Frag} {x dx C f:Addr} {mA:Str->Option Value} {name:Str} {v:Value}
theorem B5 {expr:Bool} {Q:Value->Shared->Prop} (X:K.In s.heap) (I:B4 s.heap x dx C mA) (hg:dr K C name=true) (hh:dt K C=true)
  (ha:du K (.ref C) name=some none) (hv:mA name=some v) (hv':PySem.W.handedIn v=true) (h:Q v {s with toks:=s.toks+ 1}):
  wpAny (model prog w) A (getAttr (.ref x) name expr) Q E s:=by
 obtain⟨od,J,hl⟩:=I.look
 exact PySem.W.get_value X J (dw hg).1 (PySem.W.findObj_own hh ha rfl (by rw[hl,hv])) hv' h
theorem AA {pl:Sem Bool} {Q:Value×List Value->Shared->Prop} (X:K.In s.heap) (I:B4 s.heap x dx C mA) (hg:dr K C name=true)
  (hf:du K (.ref C) name=some (some (.ref f))) (ht:dy K (.ref f)=true) (hv:mA name=none) (h:Q (.ref f,[.ref x]) s):
  wpAny (model prog w) A (getMethod (.ref x) name pl) Q E s:=by
 obtain⟨od,J,hl⟩:=I.look
 exact PySem.W.method_fn X J (dw hg).1 (dw hg).2 hf (beq_iff_eq.mp ht) (by show(dn name od).map (·.isSome)=some false;rw[hl,hv];rfl) h
theorem B6 {ns:List Str} {Q:Unit->Shared->Prop} (X:K.In s.heap) (I:B4 s.heap x dx C mA)
  (hs:du K (.ref C) "__setattr__"=some (some (.builtin "object.__setattr__"))) (hp:dz K C=true) (ht:dA K C name=some none) (hh:dt K C=true)
  (hw:PySem.Within mA ns) (hsz:ns.length<=sizeLine)
  (h:∀h',B4 h' x dx C (fun y=>if y=name then some v else mA y)->Heap.SameBut dx s.heap h'->Q () {s with heap:=h',toks:=s.toks+ 2}):
  wpAny (model prog w) A (setAttr (.ref x) name v) Q E s:=by
 obtain⟨od,J,hl⟩:=I.look
 refine PySem.W.set_plain X J hs (PySem.W.osa_open (s:={s with toks:=s.toks+ 1}) (r:=none) X J hp ht fun b=>?_)
 obtain⟨cd,hc,hd'⟩:=PySem.W.any_some hh
 have hx:s.heap.get? x=some ⟨.ref C,some dx,.plain,#[]⟩:=I.obj
 refine wpAny_bind (wpAny_pure (wpAny_bind (wpAny_bind (wpAny_loadPart hx (wpAny_bind (PySem.W.Looks.here (s:={s with toks:=s.toks+ 1}) (PySem.W.looks_clsIn X hc) ?_))))))
 rw[hd']
 refine wpAny_pure (a:=some dx) (wpAny_bind (wpAny_pure (wpAny_bind ?_)))
 refine wpAny_nsSet1 (s:={s with toks:=s.toks+ 1}) I.ns fun h' hn2 hs2=>?_
 obtain⟨oD,esD,epD,hoD,hdD,hcD⟩:=hn2.count (PySem.Within.cons name v hw)
 refine wpAny_bind (wpAny_lookBehind hoD (by rw[hdD];exact pastItsLine_dict (cw hcD (by rw[az];lia))) ?_)
 exact wpAny_pure (h _ ⟨(hs2.2 _ (Ne.symm I.ne)).trans I.obj,hn2,I.ne⟩ hs2)
theorem AB {R:Result->Shared->Prop} {vs:List Value} {kw:List (Str×Value)} (X:K.In s.heap) (hm:dB K C=true)
  (hi:du K (.ref C) "__init__"=some (some (.ref f))) (hf:PySem.W.typeIn K (.ref f)=some (.type "function"))
  (h:codeAny (model prog w) (A.under (.builtin "type.__call__" ⟨.ref C::vs,kw⟩)) (.call (.ref f) ⟨.ref (s.heap.objs.size+ 1)::vs,kw⟩) (PySem.W.InitBack (s.heap.objs.size+ 1) R)
   {s with heap:=(s.heap.push dC).push (df C s.heap.objs.size)}):
  codeAny (model prog w) A (.call (.ref C) ⟨vs,kw⟩) R s:=by
 obtain⟨hh,g,d,t,os⟩:=s
 exact PySem.W.make_core (PySem.W.makes_of X hm) (PySem.W.looks_findIn X hi) (fun self=>PySem.W.bind_fn X self hf) (.inl rfl) h
end
def mi (f:Str) (v:V):List (Str×V)->List (Str×V)
 |[]=>[(f,v)]
 |(g,x)::r=>if g=f then(g,v)::r else(g,x)::mi f v r
theorem pP (f g:Str) (v:V):∀fs:List (Str×V),(mi f v fs).lookup g=if g=f then some v else fs.lookup g
 |[]=>by
  show aA g [(f,v)]=_
  by_cases h:g=f
  ·have hb:(g==f)=true:=beq_iff_eq.mpr h
   simp only[aA,hb,gx h]
  ·have hb:(g==f)=false:=beq_eq_false_iff_ne.mpr h
   simp only[aA,hb,fZ h]
 |(k,x)::r=>by
  have ih:=pP f g v r
  rw[show mi f v ((k,x)::r)=(if k=f then(k,v)::r else(k,x)::mi f v r)from rfl]
  by_cases hk:k=f
  ·rw[gx hk]
   by_cases h:g=k
   ·have hb:(g==k)=true:=beq_iff_eq.mpr h
    simp only[aA,hb,gx (h.trans hk)]
   ·have hb:(g==k)=false:=beq_eq_false_iff_ne.mpr h
    simp only[aA,hb,fZ (fun e:g=f=>h (e.trans hk.symm))]
  ·rw[fZ hk]
   by_cases h:g=k
   ·have hb:(g==k)=true:=beq_iff_eq.mpr h
    simp only[aA,hb,fZ (fun e:g=f=>hk (h.symm.trans e))]
   ·have hb:(g==k)=false:=beq_eq_false_iff_ne.mpr h
    simp only[aA,hb]
    exact ih
theorem pQ (f:Str) (v:V):∀fs:List (Str×V),f∈(mi f v fs).map (·.1)/\∀g,g∈fs.map (·.1)->g∈(mi f v fs).map (·.1)
 |[]=>⟨by simp[mi],fun g h=>by simp at h⟩
 |(k,x)::r=>by
  obtain⟨i1,i2⟩:=pQ f v r
  rw[show mi f v ((k,x)::r)=(if k=f then(k,v)::r else(k,x)::mi f v r)from rfl]
  by_cases hk:k=f
  ·rw[gx hk]
   subst hk
   exact⟨by simp,fun g h=>by simpa using h⟩
  ·rw[fZ hk]
   refine⟨?_,fun g h=>?_⟩
   ·rw[aB]
    exact aj _ i1
   ·rw[aB]at h⊢
    rcases ak.mp h with e|e
    ·exact ak.mpr (.inl e)
    ·exact aj _ (i2 g e)
theorem pR (f:Str) (v:V):∀fs:List (Str×V),(mi f v fs).length<=fs.length+ 1
 |[]=>by simp[mi]
 |(k,x)::r=>by
  have ih:=pR f v r
  rw[show mi f v ((k,x)::r)=(if k=f then(k,v)::r else(k,x)::mi f v r)from rfl]
  by_cases hk:k=f
  ·rw[gx hk,az,az];lia
  ·rw[fZ hk,az,az];lia
theorem rY.some_of {v:V} {o:Option Value} (r:rY (some v) o):∃u,o=some u/\iq v u:=by
 cases o with
 |none=>exact(show False from r).elim
 |some u=>exact⟨u,rfl,r⟩
theorem rY.none_of {o:Option Value} (r:rY none o):o=none:=by
 cases o with
 |none=>rfl
 |some u=>exact(show False from r).elim
theorem yI {v:V} {u:Value} (r:iq v u):PySem.W.handedIn u=true:=by
 cases v with
 |non=>cases(show u=Value.none from r);rfl
 |bl b=>cases(show u=Value.bool b from r);rfl
 |int i=>obtain⟨t,e⟩:=(show ∃t,u=Value.int i t from r);cases e;rfl
 |str x=>obtain⟨t,e⟩:=(show ∃t,u=Value.str x t from r);cases e;rfl
 |byt b=>obtain⟨t,e⟩:=(show ∃t,u=Value.bytes b t from r);cases e;rfl
 |flt b=>obtain⟨t,e⟩:=(show ∃t,u=Value.float b t from r);cases e;rfl
 |ref a=>cases(show u=Value.ref a from r);rfl
 |ty n=>cases(show u=Value.type n from r);rfl
section
variable {P:Program} {w:World} {H H':Hp} {h h':Heap} {a C dx:Addr} {fs fs':List (Str×V)}
theorem sg (hok:HOk P w H h) (e:H a=some (.ins C dx fs)):∃mA,B4 h a dx C mA/\(∀f,rY (fs.lookup f) (mA f))/\PySem.Within mA (fs.map (·.1))/\fs.length<=1000/\H dx=some (.own a):=by
 obtain⟨d,z,ne,ob,mA,n,r,q⟩:=(show jn P w H h a (.ins C dx fs)from hok a _ e)
 exact⟨mA,⟨ob,n,ne⟩,r,q,z,d⟩
end
structure Cls (K:PySem.W.Frag) (C:Addr):Prop where
 pg:dr K C Str.empty=true
 hd:dt K C=true
 po:dz K C=true
 sa:du K (.ref C) "__setattr__"=some (some (.builtin "object.__setattr__"))
theorem Cls.get {K:PySem.W.Frag} {C:Addr} (c:Cls K C) (f:Str):dr K C f=true:=c.pg
def ic (K:PySem.W.Frag) (C:Addr) (f:Str):Prop:=du K (.ref C) f=some none
theorem ic.taker {K:PySem.W.Frag} {C:Addr} {f:Str} (n:ic K C f):dA K C f=some none:=by
 unfold dA
 rw[show du K (.ref C) f=some none from n]
 rfl
structure Con (K:PySem.W.Frag) (C:Addr) (f:Str) (v:V) (u:Value):Prop where
 at_:du K (.ref C) f=some (some u)
 rel:iq v u
 get:dD K u "__get__"=some none
 cp:PySem.W.copiedNames.contains f=false
structure Fc (K:PySem.W.Frag) (C:Addr) (m:Str) (f:Addr):Prop where
 at_:du K (.ref C) m=some (some (.ref f))
 fn:dy K (.ref f)=true
 kp:dE K (.ref f)=true
section
variable {X:Cx} {pz:List (Addr×Obj)} {σ:St} {H:Hp} {s:Shared} {a C dx:Addr} {fs:List (Str×V)} {f:Str} {v:V} {A:Around} {E:Value->Shared->Prop}
theorem rH {b:Bool} {Q:Value->Shared->Prop} (I:Inv X pz σ H s) (e:H a=some (.ins C dx fs)) (c:Cls X.K C) (n:ic X.K C f) (l:fs.lookup f=some v)
  (h:∀u s',Inv X pz σ H s'->iq v u->Q u s'):wpAny (model X.prog X.w) A (getAttr (.ref a) f b) Q E s:=by
 obtain⟨mA,O,r,_,_,_⟩:=sg I.hok e
 obtain⟨u,hu,ru⟩:=rY.some_of (v:=v) (o:=mA f) (by rw[<-l];exact r f)
 exact B5 I.kIn O (c.get f) c.hd n hu (yI ru) (h u _ (I.tok _) ru)
theorem rJ {m:Str} {g:Addr} {pl:Sem Bool} {Q:Value×List Value->Shared->Prop} (I:Inv X pz σ H s) (e:H a=some (.ins C dx fs)) (c:Cls X.K C) (k:Fc X.K C m g) (l:fs.lookup m=none)
  (h:Q (.ref g,[.ref a]) s):wpAny (model X.prog X.w) A (getMethod (.ref a) m pl) Q E s:=by
 obtain⟨mA,O,r,_,_,_⟩:=sg I.hok e
 have hn:mA m=none:=rY.none_of (by rw[<-l];exact r m)
 exact AA I.kIn O (c.get m) k.at_ k.fn hn h
theorem rK {y:V} {u:Value} {Q:Unit->Shared->Prop} (I:Inv X pz σ H s) (e:H a=some (.ins C dx fs)) (c:Cls X.K C) (n:ic X.K C f) (hl:fs.length<1000) (ry:iq y u)
  (h:∀s',Inv X pz σ (upd H a (.ins C dx (mi f y fs))) s'->Q () s'):wpAny (model X.prog X.w) A (setAttr (.ref a) f u) Q E s:=by
 obtain⟨mA,O,r,wi,_,ho⟩:=sg I.hok e
 have hz:(fs.map (·.1)).length<=sizeLine:=by rw[aC,sizeLine_eq];lia
 refine B6 I.kIn O c.sa c.po n.taker c.hd wi hz fun h' O' sb=>h _ ?_
 have hd:∃o,h'.get? dx=some o:=let⟨o,_,_,e',_⟩:=O'.ns;⟨o,e'⟩
 refine I.write (x:=a) (e:=dx) (by rw[e];exact True.intro) (.inr ho) (fun b q hb z=>(sb.2 b hb).trans z) hd ?_
 refine⟨by rw[fO O.ne];exact ho,?_,O.ne,O'.obj,_,O'.ns,fun g=>?_,fun g hg=>?_⟩
 ·have:=pR f y fs;lia
 ·show rY ((mi f y fs).lookup g) (if g=f then some u else mA g)
  rw[pP]
  by_cases q:g=f
  ·rw[gx q,gx q];exact ry
  ·rw[fZ q,fZ q];exact r g
 ·by_cases q:g=f
  ·rw[q];exact(pQ f y fs).1
  ·refine(pQ f y fs).2 g (wi g fun z=>hg ?_)
   show(if g=f then some u else mA g)=none
   rw[fZ q];exact z
theorem Inv.made (I:Inv X pz σ H s):Inv X pz σ (upd (upd H s.heap.objs.size (.own (s.heap.objs.size+ 1))) (s.heap.objs.size+ 1) (.ins C s.heap.objs.size []))
  {s with heap:=(s.heap.push dC).push (df C s.heap.objs.size)}:=by
 have e1:(s.heap.push dC).get? s.heap.objs.size=some dC:=fg s.heap rfl
 have e2:((s.heap.push dC).push (df C s.heap.objs.size)).get? (s.heap.objs.size+ 1)=some (df C s.heap.objs.size):=by
  have:=fg (s.heap.push dC) (o:=df C s.heap.objs.size) rfl
  rwa[fj]at this
 have e3:(s.heap.push dC).Ns s.heap.objs.size (fun _=>none):=⟨dC,#[],_,e1,rfl,(fun e he=>absurd he (by simp)),fun _=>rfl⟩
 have I1:=I.laid (a:=s.heap.objs.size) (o:= .own (s.heap.objs.size+ 1)) (h':=s.heap.push dC) (t':=s.toks) (fun b u q=>fh _ q) (cz _) ⟨_,e1⟩
 refine I1.laid (a:=s.heap.objs.size+ 1) (o:= .ins C s.heap.objs.size []) (t':=s.toks) (fun b u q=>fh _ q) (Nat.le_of_eq (fj _ _)) ?_
 have ne:s.heap.objs.size≠s.heap.objs.size+ 1:=cu (cB _)
 refine⟨by rw[fO ne,fC],cA _,ne,e2,fun _=>none,(Heap.Ns1.of_empty e3).at fun o q=>fh _ q,fun _=>True.intro,fun y hy=>absurd rfl hy⟩
theorem B7 {prog:Program} {w:World} {env:Env} {e:Expr} {f:Str} {pos:Pos} {s:Shared} {Q:Value->Shared->Prop} (hb:attributeBase e f env (eval e env)=eval e env)
  (h:wpAny (model prog w) A (eval e env) (fun o s₁=>wpAny (model prog w) A (getAttr o f true) Q E s₁) E s):wpAny (model prog w) A (eval (.Attribute e f pos) env) Q E s:=
 Attribute_any_ h (by rw[arm_eval_Attribute,hb])
end
def tFld (K:PySem.W.Frag) (ta:TE) (f:Str):TE:=fun σ H Q=>ta σ H fun x H1=>∃a C dx fs v,x= .ref a/\H1 a=some (.ins C dx fs)/\Cls K C/\ic K C f/\fs.lookup f=some v/\Q v H1
def Hb (K:PySem.W.Frag) (ta tv:TE) (f:Str):TS:=fun D σ H=>tv σ H fun y H1=>ta σ H1 fun x H2=>∃a C dx fs,x= .ref a/\H2 a=some (.ins C dx fs)/\Cls K C/\ic K C f/\fs.length<1000/\
 D.nx σ (upd H2 a (.ins C dx (mi f y fs)))
def Hc (X:Cx) (op:Operator) (rd:V->V->Hp->VK->Prop):Prop:=
 ∀(pz:List (Addr×Obj)) (s:Shared) (σ:St) (H:Hp) (x y:V) (u v:Value) (Q:VK),Inv X pz σ H s->iq x u->iq y v->rd x y H Q->wpAny (model X.prog X.w) X.A (inplaceOp op u v) (EP X pz σ Q) X.xe s
def B8 (K:PySem.W.Frag) (ta tv:TE) (rd:V->V->Hp->VK->Prop) (f:Str):TS:=fun D σ H=>ta σ H fun x H1=>∃a C dx fs v,x= .ref a/\H1 a=some (.ins C dx fs)/\Cls K C/\ic K C f/\fs.lookup f=some v/\
 tv σ H1 fun y H2=>rd v y H2 fun z H3=>∃dx' fs',H3 a=some (.ins C dx' fs')/\fs'.length<1000/\D.nx σ (upd H3 a (.ins C dx' (mi f z fs')))
section
variable {X:Cx} {o e value:Expr} {f:Str} {pos pos' tpos:Pos} {ta tv:TE}
theorem nJ (he:PE X e ta) (hb:attributeBase e f X.env (eval e X.env)=eval e X.env):PE X (.Attribute e f pos) (tFld X.K ta f):=by
 intro pz s σ H Q I h
 refine B7 hb (thn (he pz s σ H _ I h) fun u s1 ⟨x,H1,I1,rx,a,C,dx,fs,v,ex,ea,c,n,l,q⟩=>?_)
 subst ex
 obtain rfl:u=Value.ref a:=rx
 exact rH I1 ea c n l fun u' s2 I2 ru=>⟨v,H1,I2,ru,q⟩
theorem iN (ha:PE X o ta) (hv:PE X value tv) (hs:swapsWith value (some (.Attribute o f pos')) pos.line X.env=pure false):PS X (.Assign [.Attribute o f pos'] value pos) (Hb X.K ta tv f):=by
 intro pz s σ H D I h
 refine plainObj_wpAny_Assign_Attribute (thn (hv pz s σ H _ I h) fun u s1 ⟨y,H1,I1,ry,q⟩=>thn (ha pz s1 σ H1 _ I1 q) fun ov s2 ⟨x,H2,I2,rx,a,C,dx,fs,ex,ea,c,n,l,q2⟩=>?_) hs
 subst ex
 obtain rfl:ov=Value.ref a:=rx
 exact rK I2 ea c n l ry fun s3 I3=>⟨σ,_,I3,q2⟩
theorem tR {op:Operator} {rd:V->V->Hp->VK->Prop} (ha:PE X o ta) (hv:PE X value tv) (hop:Hc X op rd):PS X (.AugAssign (.Attribute o f tpos) op value pos) (B8 X.K ta tv rd f):=by
 intro pz s σ H D I h
 refine wpAny_AugAssign_AttributeAny (thn (ha pz s σ H _ I h) fun ov s1 ⟨x,H1,I1,rx,a,C,dx,fs,v,ex,ea,c,n,l,q⟩=>?_)
 subst ex
 obtain rfl:ov=Value.ref a:=rx
 refine rH I1 ea c n l fun u s2 I2 ru=>thn (hv pz s2 σ H1 _ I2 q) fun w3 s3 ⟨y,H2,I3,ry,q3⟩=>thn (hop pz s3 σ H2 v y u w3 _ I3 ru ry q3) fun w4 s4 ⟨z,H3,I4,rz,dx',fs',ea',l',q4⟩=>?_
 exact rK I4 ea' c n l' rz fun s5 I5=>⟨σ,_,I5,q4⟩
def rAdd:V->V->Hp->VK->Prop:=fun x y H Q=>∃i j,x= .int i/\y= .int j/\Q (.int (i+j)) H
theorem Bt:Hc X .Add rAdd:=by
 rintro pz s σ H x y u v Q I rx ry ⟨i,j,rfl,rfl,q⟩
 obtain⟨t,rfl⟩:=(show ∃t,u=Value.int i t from rx)
 obtain⟨t',rfl⟩:=(show ∃t',v=Value.int j t' from ry)
 exact PyProof.Rows.iadd_int ⟨.int (i+j),H,I.tok _,⟨_,rfl⟩,q⟩
end
section
variable {X:Cx} {pz:List (Addr×Obj)} {σ:St} {H:Hp} {s:Shared} {A:Around} {E:Value->Shared->Prop} {Q:Value->Shared->Prop} {c:Value} {b:Bool}
inductive vf (K:PySem.W.Frag) (H:Hp):V->Value->Prop where
 |non:vf K H .non (.type "NoneType")
 |bl (x:Bool):vf K H (.bl x) (.type "bool")
 |int (i:Int):vf K H (.int i) (.type "int")
 |str (x:Str):vf K H (.str x) (.type "str")
 |flt (x:UInt64):vf K H (.flt x) (.type "float")
 |lst {a:Addr} {xs:List V} (e:H a=some (.lst xs)):vf K H (.ref a) (.type "list")
 |frz {a:Addr} {o:Obj} {xs:List V} (e:H a=some (.frz o (.lst xs))):vf K H (.ref a) (.type "list")
 |tup {a:Addr} {xs:List V} (e:H a=some (.tup xs)):vf K H (.ref a) (.type "tuple")
 |dK {a:Addr} {kvs:List (Key×V)} (e:H a=some (.dK kvs)):vf K H (.ref a) (.type "dict")
 |dT {a:Addr} {kvs:List (List Key×V)} (e:H a=some (.dT kvs)):vf K H (.ref a) (.type "dict")
 |ins {a C dx:Addr} {fs:List (Str×V)} (e:H a=some (.ins C dx fs)) (cl:Cls K C) (ha:du K (.ref C) "__class__"=some (some (.builtin "object.__class__")))
   (hn:dD K (.builtin "object.__class__") "__get__"=some (some (.builtin "getset_descriptor.__get__"))) (htk:PySem.W.takesIn K (.builtin "object.__class__")=some true)
   (hm:PySem.W.mroIn K C (.type "object")=some true):vf K H (.ref a) (.ref C)
theorem yJ {x:V} {u t:Value} (I:Inv X pz σ H s) (rx:iq x u) (ty:vf X.K H x t) (e:dF X.K t c=some b) (h:∀tk,Q (.bool b) {s with toks:=tk}):
  wpAny (model X.prog X.w) A (call (.builtin "isinstance") [u,c]) Q E s:=by
 cases ty with
 |non=>cases(show u=Value.none from rx);exact dG PySem.W.kitx_none I.kIn True.intro e (fun z=>nomatch z) h
 |bl y=>cases(show u=Value.bool y from rx);exact dG PySem.W.kitx_bool I.kIn True.intro e (fun z=>nomatch z) h
 |int i=>obtain⟨t,q⟩:=(show ∃t,u=Value.int i t from rx);cases q;exact dG PySem.W.kitx_int I.kIn True.intro e (fun z=>nomatch z) h
 |str y=>obtain⟨t,q⟩:=(show ∃t,u=Value.str y t from rx);cases q;exact dG PySem.W.kitx_str I.kIn True.intro e (fun z=>nomatch z) h
 |flt y=>obtain⟨t,q⟩:=(show ∃t,u=Value.float y t from rx);cases q;exact dG PySem.W.kitx_float I.kIn True.intro e (fun z=>nomatch z) h
 |@lst a xs ea=>
  cases(show u=Value.ref a from rx)
  obtain⟨_,_,n,_,h1⟩:=(show jn X.prog X.w H s.heap a (.lst xs)from I.hok a _ ea)
  exact dG dH I.kIn ⟨_,h1,rfl⟩ e (fun z=>nomatch z) h
 |@frz a ob xs ea=>
  cases(show u=Value.ref a from rx)
  obtain⟨_,_,_,n,_,h1⟩:=(show jn X.prog X.w H s.heap a (.frz ob (.lst xs))from I.hok a _ ea)
  exact dG dH I.kIn ⟨_,h1,rfl⟩ e (fun z=>nomatch z) h
 |@tup a xs ea=>
  cases(show u=Value.ref a from rx)
  obtain⟨_,_,_,p⟩:=(show jn X.prog X.w H s.heap a (.tup xs)from I.hok a _ ea)
  obtain⟨o,h1,h2,_⟩:=p
  exact dG PySem.W.kitx_tuple I.kIn ⟨o,h1,h2⟩ e (fun z=>nomatch z) h
 |@dK a kvs ea=>
  cases(show u=Value.ref a from rx)
  obtain⟨_,_,vs,_,p⟩:=(show jn X.prog X.w H s.heap a (.dK kvs)from I.hok a _ ea)
  obtain⟨o,es,ep,h1,h2,_⟩:=p
  exact dG dI I.kIn ⟨o,h1,h2.1⟩ e (fun z=>nomatch z) h
 |@dT a kvs ea=>
  cases(show u=Value.ref a from rx)
  obtain⟨_,_,xs,_,o,es,ep,h1,h2,_⟩:=(show jn X.prog X.w H s.heap a (.dT kvs)from I.hok a _ ea)
  exact dG dI I.kIn ⟨o,h1,h2.1⟩ e (fun z=>nomatch z) h
 |@ins a C dx fs ea cl ha hn htk hm=>
  cases(show u=Value.ref a from rx)
  obtain⟨mA,O,_⟩:=sg I.hok ea
  obtain⟨od,J,_⟩:=O.look
  exact dG (PySem.W.kitx_own (cl.get _) cl.hd ha hn htk hm) I.kIn J e (fun z=>nomatch z) h
end
structure mj (k:Nat) (A:Around):Prop where
 hd:A.handled=none
 dp:A.depth+ 2*k+ 5<recursionLimit
 un:A.units+ 16*k+ 200<cLine
theorem mj.mono {j k:Nat} {A:Around} (r:mj k A) (h:j<=k):mj j A:=⟨r.hd,by have:=r.dp;lia,by have:=r.un;lia⟩
theorem mj.m {j k:Nat} {A:Around} (r:mj k A) (h:autoParam (j<=k) L2.Internal.auD._auto_1):mj j A:=r.mono h
theorem mj.deeper {k:Nat} {A:Around} (r:mj (k+ 1) A) (env:Env):mj k (A.deeper env):=
 ⟨r.hd,by have:=r.dp;show A.depth+ 1+ 2*k+ 5<_;lia,by have:=r.un;show A.units+ 3+ 16*k+ 200<_;lia⟩
theorem xD {A:Around} {C:Addr} {us:List Value} {kw:List (Str×Value)}:(A.under (.builtin "type.__call__" ⟨.ref C::us,kw⟩)).depth=A.depth+ 1:=by
 first|rfl|simp[Around.under,Code.weight,Code.isCreation,Code.isGuard,Code.isCaller,Code.frames,Code.isFrame,guardIds]
theorem xE {A:Around} {C:Addr} {us:List Value} {kw:List (Str×Value)}:(A.under (.builtin "type.__call__" ⟨.ref C::us,kw⟩)).units=A.units+ 1:=by
 first|rfl|simp[Around.under,Code.cUnits,Code.frames,Code.isFrame]
theorem mj.make {k:Nat} {A:Around} (r:mj (k+ 1) A) (C:Addr) (us:List Value) (kw:List (Str×Value)):mj k (A.under (.builtin "type.__call__" ⟨.ref C::us,kw⟩)):=
 ⟨r.hd,by have:=r.dp;rw[xD];lia,by have:=r.un;rw[xE];lia⟩
theorem mj.depth {k:Nat} {A:Around} (r:mj k A):A.depth<recursionLimit:=by have:=r.dp;lia
theorem mj.units {k:Nat} {A:Around} (r:mj k A):A.units+ 64<cLine:=by have:=r.un;lia
def Ar:TA:=fun _ H Q=>Q [] H
def qO (ta:TE) (tr:TA):TA:=fun σ H Q=>ta σ H fun x H1=>tr σ H1 fun xs H2=>Q (x::xs) H2
section
variable {X:Cx} {e:Expr} {es:List Expr} {te:TE} {t:TA} {pos:Pos}
theorem fD:PA X [] Ar:=fun _ _ _ _ H Q I h=>Calls.spliced_nil ⟨[],H,I,.nil,h⟩
theorem fz (ha:PE X e te) (hr:PA X es t) (hs:autoParam (starEach (e::es) X.env=(false,eval e X.env)::starEach es X.env) L2.Internal.auR._auto_1):PA X (e::es) (qO te t):=by
 intro pos pz s σ H Q I h
 rw[hs]
 show wpAny _ _ (spliced ((false,eval e X.env)::backTo pos (starEach es X.env))) _ _ s
 refine Calls.spliced_cons (thn (ha pz s σ H _ I h) fun u s1 ⟨x,H1,I1,r1,q1⟩=>?_)
 exact thn (hr pos pz s1 σ H1 _ I1 q1) fun us s2 ⟨xs,H2,I2,r2,q2⟩=>⟨x::xs,H2,I2,.cons r1 r2,q2⟩
def Hd (t:TA):TE:=fun σ H Q=>t σ H fun xs H1=>xs.length<=sizeLine/\∀p,H1 p=none->Q (.ref p) (upd H1 p (.tup xs))
def FJ (t:TA):TE:=fun σ H Q=>t σ H fun xs H1=>xs.length<=sizeLine/\∀p,H1 p=none->Q (.ref p) (upd H1 p (.lst xs))
theorem gC {x1} (h:PA X es t):PE X (.Tuple es x1 pos) (Hd t):=by
 intro pz s σ H Q I hq
 refine wpAny_Tuple_spliced (thn (h pos pz s σ H _ I hq) fun us s1 ⟨xs,H1,I1,r,z,q⟩=>⟨by rw[<-r.length];exact z,?_⟩)
 have hf:H1 s1.heap.objs.size=none:=I1.hok.fresh (cz _)
 refine⟨.ref s1.heap.objs.size,upd H1 s1.heap.objs.size (.tup xs),I1.laid (t':=s1.toks) (fun b u e=>fh _ e) (cz _) ?_,rfl,q _ hf⟩
 exact⟨z,us,r,⟨_,fg _ rfl,rfl,_,rfl,rfl⟩⟩
theorem gA (h:PA X es t):PE X (.List es pos) (FJ t):=by
 intro pz s σ H Q I hq
 refine wpAny_List_spliced (thn (h pos pz s σ H _ I hq) fun us s1 ⟨xs,H1,I1,r,z,q⟩=>⟨by rw[<-r.length];exact z,?_⟩)
 have hf:H1 s1.heap.objs.size=none:=I1.hok.fresh (cz _)
 refine⟨.ref s1.heap.objs.size,upd H1 s1.heap.objs.size (.lst xs),I1.laid (t':=s1.toks) (fun b u e=>fh _ e) (cz _) ?_,rfl,q _ hf⟩
 exact⟨z,us,0,r,fg _ rfl⟩
end
abbrev Sp:=List V->Hp->VK->XK->Prop
abbrev CXT:=List Env->Hp->Shared->XK->Value->Shared->Prop
structure B9 (P:Program) (w:World) (K:PySem.W.Frag) (mg:Str->Option Value) (base:Heap) (A:Around) (outer:List Env) (s:Shared) (H:Hp):Prop where
 frames:A.frames=some outer
 mod:Mod K mg base
 bs:∀b o,base.get? b=some o->s.heap.get? b=some o/\H b=none
 bsz:base.objs.size<=s.heap.objs.size
 funs:s.heap.FunFrames base outer
 frf:∀b∈frs outer,H b=none
 hok:HOk P w H s.heap
 bare:AllBare s.gens
def CE (outer:List Env) (P:Program) (w:World) (H:Hp) (s:Shared) (Q:VK) (u:Value) (s':Shared):Prop:=
 ∃v H',s'.os=s.os/\AllBare s'.gens/\Un (frs outer) [] H H' s.heap s'.heap/\HOk P w H' s'.heap/\iq v u/\Q v H'
def CR (CX:CXT) (outer:List Env) (P:Program) (w:World) (H:Hp) (s:Shared) (Q:VK) (E:XK) (r:Result) (s':Shared):Prop:=
 match r with
 | .ok (.ret u)=>CE outer P w H s Q u s'
 | .ok _=>False
 | .error e=>CX outer H s E e s'
structure pT (P:Program) (w:World) (K:PySem.W.Frag) (mg:Str->Option Value) (base:Heap) (CX:CXT) (k:Nat) (f:Addr) (fd:FuncData) (ps:List Str) (sp:Sp):Prop where
 len:∀vs H Q E,sp vs H Q E->vs.length=ps.length
 run:∀(A:Around) (outer:List Env) (s:Shared) (H:Hp) (args:Args) (us:List Value) (vs:List V) (Q:VK) (E:XK),mj k A->B9 P w K mg base A outer s H->BindsTo s fd args (ps.zip us)->ik vs us->sp vs H Q E->
  codeAny (model P w) A (.call (.ref f) args) (CR CX outer P w H s Q E) s
theorem B9.make {P:Program} {w:World} {K:PySem.W.Frag} {mg:Str->Option Value} {base:Heap} {A:Around} {outer:List Env} {s:Shared} {H:Hp} (e:B9 P w K mg base A outer s H) (C:Addr) (us:List Value) (kw:List (Str×Value)):
  B9 P w K mg base (A.under (.builtin "type.__call__" ⟨.ref C::us,kw⟩)) outer s H:=⟨by first|exact e.frames|(simpa[Around.under,Code.envs,Code.isFrame,pushEnvs]using e.frames),e.mod,e.bs,e.bsz,e.funs,e.frf,e.hok,e.bare⟩
section
variable {X:Cx} {pz:List (Addr×Obj)} {σ:St} {H:Hp} {s s':Shared}
theorem Inv.env0 (I:Inv X pz σ H s):B9 X.prog X.w X.K X.mg X.base X.A X.stack s H:=
 ⟨I.ok.frames,I.ok.mod,I.bs,cw I.ok.bsz I.sz,I.stack,I.stkFree,I.hok,I.bare⟩
theorem Inv.after {Q:VK} {u:Value} (I:Inv X pz σ H s) (h:CE X.stack X.prog X.w H s Q u s'):EP X pz σ Q u s':=by
 obtain⟨v,H',os,bare,un,hok,r,q⟩:=h
 obtain⟨hh,g,d,t,os'⟩:=s'
 obtain rfl:os'=s.os:=os
 exact⟨v,H',I.call (h':=hh) (g':=g) (d':=d) (t':=t) (ch:=[]) un hok bare (fun b z=>absurd z (by simp)),r,q⟩
end
def Ca (sp:Sp) (dvs:List V) (E:XK) (t:TA):TE:=fun σ H Q=>t σ H fun vs H1=>sp (vs++dvs) H1 Q E
def Cb (C:Addr) (m:Str) (sp:Sp) (dvs:List V) (E:XK) (ta:TE) (t:TA):TE:=fun σ H Q=>ta σ H fun x H1=>∃a dx fs,x= .ref a/\H1 a=some (.ins C dx fs)/\fs.lookup m=none/\
 t σ H1 fun vs H2=>sp (x::(vs++dvs)) H2 Q E
def FL (C:Addr) (sp:Sp) (dvs:List V) (E:XK) (t:TA):TE:=fun σ H Q=>t σ H fun vs H1=>∀x dx,H1 x=none->H1 dx=none->dx≠x->
 sp (.ref x::(vs++dvs)) (upd (upd H1 dx (.own x)) x (.ins C dx [])) (fun v H2=>v= .non/\Q (.ref x) H2) E
def n8 (K:PySem.W.Frag) (fd:FuncData) (ps:List Str) (ds:List Value):Prop:=
 ∀(s:Shared) (us:List Value),K.In s.heap->(us++ds).length=ps.length->BindsTo s fd ⟨us,[]⟩ (ps.zip (us++ds))
theorem n8.all {K:PySem.W.Frag} {fd:FuncData} {ps:List Str} (h:∀us:List Value,us.length=ps.length->bindArgs fd ⟨us,[]⟩=pure (ps.zip us)):n8 K fd ps []:=fun s us _ hl=>by
 rw[aD]at hl⊢
 exact .of_eq (h us hl)
def mz (CX:CXT) (X:Cx) (E:XK):Prop:=∀(pz:List (Addr×Obj)) (σ:St) (H:Hp) (s:Shared) (e:Value) (s':Shared),Inv X pz σ H s->CX X.stack H s E e s'->X.xe e s'
section
variable {X:Cx} {CX:CXT} {k:Nat} {f C:Addr} {fd:FuncData} {ps:List Str} {sp:Sp} {dvs:List V} {ds:List Value} {E:XK} {x m:Str} {p pos apos:Pos} {e o:Expr} {es:List Expr} {ta:TE} {t:TA}
theorem v9 {pz:List (Addr×Obj)} {σ:St} {H:Hp} {s:Shared} {Q:VK} {us:List Value} {vs:List V} (F:pT X.prog X.w X.K X.mg X.base CX k f fd ps sp) (hr:mj k X.A) (hb:n8 X.K fd ps ds) (hd:ik dvs ds) (hx:mz CX X E)
  (I:Inv X pz σ H s) (r:ik vs us) (h:sp (vs++dvs) H Q E):wpAny (model X.prog X.w) X.A (call (.ref f) us) (EP X pz σ Q) X.xe s:=by
 have r2:ik (vs++dvs) (us++ds):=r.append hd
 have hl:(us++ds).length=ps.length:=by rw[<-r2.length];exact F.len _ _ _ _ h
 refine wpAny_call (codeAny_mono (F.run X.A X.stack s H ⟨us,[]⟩ (us++ds) (vs++dvs) Q E hr I.env0 (hb s us I.kIn hl) r2 h) fun r s' hq=>?_)
 cases r with
 |error e=>exact hx pz σ H s e s' I hq
 |ok fl=>
  cases fl with
  |ret u=>exact I.after hq
  |next=>exact False.elim hq
  |brk=>exact False.elim hq
  |cont=>exact False.elim hq
theorem n9 (F:pT X.prog X.w X.K X.mg X.base CX k f fd ps sp) (hr:mj k X.A) (hg:Gl X x) (hm:X.mg x=some (.ref f)) (hk:dE X.K (.ref f)=true) (hb:n8 X.K fd ps ds) (hd:ik dvs ds) (hx:mz CX X E)
  (ha:PA X (e::es) t) (hdb:autoParam ((x==("__debug__":Str))=false) L2.Internal.auD._auto_1) (he:autoParam (starEach (e::es) X.env=(false,eval e X.env)::starEach es X.env) L2.Internal.auR._auto_1) (hpl:autoParam ((backTo pos (starEach es X.env)).any (·.1)=false) L2.Internal.auR._auto_1):
  PE X (.Call (.Name x p) (e::es) [] pos) (Ca sp dvs E t):=by
 intro pz s σ H Q I h
 refine wpAny_Call_Name_kw (r6 I hg hm ?_ hdb)
 refine dJ (h₀:=X.base) I.ok.mod.kin hk (thn (ha pos pz s σ H _ I h) fun us s1 ⟨vs,H1,I1,r,q⟩=>⟨I1.kIn,?_⟩) he hpl
 exact v9 F hr hb hd hx I1 r q
theorem gE {pl:Sem Bool} (he:PE X o ta) (c:Cls X.K C) (hm:Fc X.K C m f) (F:pT X.prog X.w X.K X.mg X.base CX k f fd ps sp) (hr:mj k X.A) (hb:n8 X.K fd ps ds) (hd:ik dvs ds) (hx:mz CX X E) (ha:PA X (e::es) t)
  (hst:autoParam (starEach (e::es) X.env=(false,eval e X.env)::starEach es X.env) L2.Internal.auR._auto_1) (hpl:autoParam ((backTo pos (starEach es X.env)).any (·.1)=false) L2.Internal.auR._auto_1)
  (ht:eval (.Call (.Attribute o m apos) (e::es) [] pos) X.env=(do
   let ov<-eval o X.env
   standAt apos.atName
   let(f,first)<-holding [ov] (getMethod ov m pl)
   callWith pos f first (backTo pos (starEach (e::es) X.env)) (backToKw pos (keywordEach [] X.env))):=by rfl):
  PE X (.Call (.Attribute o m apos) (e::es) [] pos) (Cb C m sp dvs E ta t):=by
 intro pz s σ H Q I h
 refine dM (pl:=pl) (thn (he pz s σ H _ I h) fun u s1 ⟨x,H1,I1,rx,a,dx,fs,ex,ea,l,q⟩=>?_) ht
 subst ex
 obtain rfl:u=Value.ref a:=rx
 refine rJ I1 ea c hm l ?_
 refine dJ (first:=[.ref a]) (h₀:=X.base) I.ok.mod.kin hm.kp (thn (ha pos pz s1 σ H1 _ I1 q) fun us s2 ⟨vs,H2,I2,r,q2⟩=>⟨I2.kIn,?_⟩) hst hpl
 exact v9 (us:= .ref a::us) (vs:= .ref a::vs) F hr hb hd hx I2 (.cons rfl r) q2
theorem iV {pl:Sem Bool} (he:PE X o ta) (c:Cls X.K C) (hm:Fc X.K C m f) (F:pT X.prog X.w X.K X.mg X.base CX k f fd ps sp) (hr:mj k X.A) (hb:n8 X.K fd ps ds) (hd:ik dvs ds) (hx:mz CX X E)
  (ht:eval (.Call (.Attribute o m apos) [] [] pos) X.env=(do
   let ov<-eval o X.env
   standAt apos.atName
   let(f,first)<-holding [ov] (getMethod ov m pl)
   callWith pos f first (backTo pos (starEach [] X.env)) (backToKw pos (keywordEach [] X.env))):=by rfl):
  PE X (.Call (.Attribute o m apos) [] [] pos) (Cb C m sp dvs E ta Ar):=by
 intro pz s σ H Q I h
 refine dM (pl:=pl) (thn (he pz s σ H _ I h) fun u s1 ⟨x,H1,I1,rx,a,dx,fs,ex,ea,l,q⟩=>?_) ht
 subst ex
 obtain rfl:u=Value.ref a:=rx
 refine rJ I1 ea c hm l ?_
 exact PySem.W.callWith_K0 (first:=[.ref a]) I1.kIn hm.kp (v9 (us:=[.ref a]) (vs:=[.ref a]) F hr hb hd hx I1 (.cons rfl .nil) q)
structure Mk (K:PySem.W.Frag) (C f:Addr):Prop where
 makes:dB K C=true
 init:du K (.ref C) "__init__"=some (some (.ref f))
 fn:dy K (.ref f)=true
 kp:dE K (.ref C)=true
theorem AD {pz:List (Addr×Obj)} {σ:St} {H:Hp} {s:Shared} {Q:VK} {us:List Value} {vs:List V} (M:Mk X.K C f) (F:pT X.prog X.w X.K X.mg X.base CX k f fd ps sp) (hr:mj (k+ 1) X.A) (hb:n8 X.K fd ps ds) (hd:ik dvs ds)
  (hx:mz CX X E) (I:Inv X pz σ H s) (r:ik vs us)
  (h:∀x dx,H x=none->H dx=none->dx≠x->sp (.ref x::(vs++dvs)) (upd (upd H dx (.own x)) x (.ins C dx [])) (fun v H2=>v= .non/\Q (.ref x) H2) E):
  wpAny (model X.prog X.w) X.A (call (.ref C) us) (EP X pz σ Q) X.xe s:=by
 have hq:=h (s.heap.objs.size+ 1) s.heap.objs.size (I.hok.fresh (cC _)) (I.hok.fresh (cz _)) (cu (cB _))
 have I2:=Inv.made (C:=C) I
 have r2:ik (V.ref (s.heap.objs.size+ 1)::(vs++dvs)) (Value.ref (s.heap.objs.size+ 1)::(us++ds)):= .cons rfl (r.append hd)
 have hl:(Value.ref (s.heap.objs.size+ 1)::us++ds).length=ps.length:=by
  have e:=r2.length
  rw[F.len _ _ _ _ hq]at e
  exact e.symm
 refine wpAny_call (AB (f:=f) I.kIn M.makes M.init (beq_iff_eq.mp M.fn) (codeAny_mono (F.run _ X.stack _ _ ⟨Value.ref (s.heap.objs.size+ 1)::us,[]⟩ (Value.ref (s.heap.objs.size+ 1)::(us++ds)) _ _ E (hr.make C us [])
  (I2.env0.make C us []) (hb _ (Value.ref (s.heap.objs.size+ 1)::us) I2.kIn hl) r2 hq) fun r s' hq'=>?_))
 cases r with
 |error e=>exact hx pz σ _ _ e s' I2 hq'
 |ok fl=>
  cases fl with
  |ret u=>
   obtain⟨v,H',I3,rv,ev,q3⟩:=I2.after hq'
   subst ev
   exact⟨rv,⟨V.ref (s.heap.objs.size+ 1),H',I3,rfl,q3⟩⟩
  |next=>exact False.elim hq'
  |brk=>exact False.elim hq'
  |cont=>exact False.elim hq'
theorem sh (M:Mk X.K C f) (F:pT X.prog X.w X.K X.mg X.base CX k f fd ps sp) (hr:mj (k+ 1) X.A) (hg:Gl X x) (hm:X.mg x=some (.ref C)) (hb:n8 X.K fd ps ds) (hd:ik dvs ds) (hx:mz CX X E)
  (ha:PA X (e::es) t) (hdb:autoParam ((x==("__debug__":Str))=false) L2.Internal.auD._auto_1) (he:autoParam (starEach (e::es) X.env=(false,eval e X.env)::starEach es X.env) L2.Internal.auR._auto_1) (hpl:autoParam ((backTo pos (starEach es X.env)).any (·.1)=false) L2.Internal.auR._auto_1):
  PE X (.Call (.Name x p) (e::es) [] pos) (FL C sp dvs E t):=by
 intro pz s σ H Q I h
 refine wpAny_Call_Name_kw (r6 I hg hm ?_ hdb)
 refine dJ (h₀:=X.base) I.ok.mod.kin M.kp (thn (ha pos pz s σ H _ I h) fun us s1 ⟨vs,H1,I1,r,q⟩=>⟨I1.kIn,?_⟩) he hpl
 exact AD M F hr hb hd hx I1 r q
end
section
variable {X:Cx} {CX:CXT} {k:Nat} {f C:Addr} {fd:FuncData} {ps ks:List Str} {sp:Sp} {E:XK} {x m:Str} {p pos apos kpos:Pos} {e o:Expr} {es:List Expr} {kws:List Keyword} {te ta:TE} {t tk:TA} {nm:Option Str}
structure He (K:PySem.W.Frag) (fd:FuncData) (ps ks:List Str) (g:List Value->List Value->List Value) (gV:List V->List V->List V):Prop where
 to:∀(s:Shared) (us ws:List Value),K.In s.heap->(g us ws).length=ps.length->BindsTo s fd ⟨us,ks.zip ws⟩ (ps.zip (g us ws))
 rel:∀{vs:List V} {us:List Value} {zs:List V} {ws:List Value},ik vs us->ik zs ws->ik (gV vs zs) (g us ws)
variable {g:List Value->List Value->List Value} {gV:List V->List V->List V}
end
structure fS (N P:List Str) (sc:Scope):Prop where
 kind:sc.kind= .function
 co:sc.isCoroutine=false
 gen:sc.isGenerator=false
 nd:N.Nodup
 pre:N.take P.length=P
 par:∀x∈P,sc.names.lookup x=some .local\/sc.names.lookup x=some .cell
 nofree:∀y∈sc.names,y.2≠ .free
theorem tS {kindOf:Str->Option NameKind} {x:Str}:∀{binds:List (Str×Value)} {m:Str->Option Value},(∀v,(x,v)∉binds)->bindL kindOf binds m x=m x
 |[],_,_=>rfl
 |(n,v)::r,m,h=>by
  unfold bindL
  rw[tS fun w hw=>h w (aj _ hw)]
  split
  ·have:x≠n:=by rintro rfl;exact h v ah
   simp[this]
  ·rfl
theorem tT {kindOf:Str->Option NameKind} {x:Str}:∀{binds:List (Str×Value)} {m:Str->Option Value},(∀v,(x,v)∉binds)->bindC kindOf binds m x=m x
 |[],_,_=>rfl
 |(n,v)::r,m,h=>by
  unfold bindC
  rw[tT fun w hw=>h w (aj _ hw)]
  split
  ·rfl
  ·have:x≠n:=by rintro rfl;exact h v ah
   simp[this]
theorem tU {kindOf:Str->Option NameKind} {x:Str} {v:Value}:∀{P:List Str} {vs:List Value} {i:Nat} {m:Str->Option Value},P.Nodup->P[i]?=some x->vs[i]?=some v->kindOf x=some .local->
  bindL kindOf (P.zip vs) m x=some v
 |[],_,_,_,_,h,_,_=>by simp at h
 |_::_,[],_,_,_,_,h,_=>by simp at h
 |p::P,w::vs,0,m,nd,h1,h2,hk=>by
  simp at h1 h2;subst h1;subst h2
  show bindL kindOf ((p,w)::P.zip vs) m p=_
  unfold bindL
  rw[tS fun v hv=>(aE.mp nd).1 (aF hv).1,gx hk]
  simp
 |p::P,w::vs,i+ 1,m,nd,h1,h2,hk=>by
  show bindL kindOf ((p,w)::P.zip vs) m x=_
  unfold bindL
  exact tU (i:=i) (aE.mp nd).2 (by simpa using h1) (by simpa using h2) hk
theorem tV {kindOf:Str->Option NameKind} {x:Str} {v:Value}:∀{P:List Str} {vs:List Value} {i:Nat} {m:Str->Option Value},P.Nodup->P[i]?=some x->vs[i]?=some v->kindOf x≠some .local->
  bindC kindOf (P.zip vs) m x=some v
 |[],_,_,_,_,h,_,_=>by simp at h
 |_::_,[],_,_,_,_,h,_=>by simp at h
 |p::P,w::vs,0,m,nd,h1,h2,hk=>by
  simp at h1 h2;subst h1;subst h2
  show bindC kindOf ((p,w)::P.zip vs) m p=_
  unfold bindC
  rw[tT fun v hv=>(aE.mp nd).1 (aF hv).1,fZ hk]
  simp
 |p::P,w::vs,i+ 1,m,nd,h1,h2,hk=>by
  show bindC kindOf ((p,w)::P.zip vs) m x=_
  unfold bindC
  exact tV (i:=i) (aE.mp nd).2 (by simpa using h1) (by simpa using h2) hk
def oe (N:List Str) (vs:List V):St:=vs.map some++aG (N.length-vs.length) none
def uY (CX:CXT) (P:Program) (w:World) (K:PySem.W.Frag) (mg:Str->Option Value) (base:Heap) (N:List Str) (qual:Str) (scope:Scope) (f:Addr) (cd:Value) (A:Around) (outer:List Env) (s:Shared) (H:Hp) (E:XK):Cx where
 prog:=P
 w:=w
 K:=K
 mg:=mg
 base:=base
 A:=A.deeper (envOfC qual scope s.heap.objs.size f cd)
 N:=N
 s₀:=s
 H₀:=H
 env:=envOfC qual scope s.heap.objs.size f cd
 outer:=outer
 stack:=envOfC qual scope s.heap.objs.size f cd::outer
 ex:=[]
 calm:=true
 fn:=fun _=>true
 pn:=[]
 xe:=fun e s'=>wpAny (model P w) (A.deeper (envOfC qual scope s.heap.objs.size f cd)) (leaving (envOfC qual scope s.heap.objs.size f cd) e) (fun _ s''=>CX outer H s E e s'') (fun e' s''=>CX outer H s E e' s'') s'
theorem wa {sc:Scope} {n:Nat} {x:Str} (h:sc.names.lookup x=some .cell):∃c,(cellsFrom n sc.names []).lookup x=some c:=by
 have q:=dN sc.names n [] (.inl h)
 exact cY.mp q
theorem tW {CX:CXT} {P:Program} {w:World} {K:PySem.W.Frag} {mg:Str->Option Value} {base:Heap} {N ps:List Str} {qual:Str} {scope:Scope} {f:Addr} {cd:Value} {A:Around} {outer:List Env} {s s1:Shared} {H:Hp} {E:XK} {us:List Value} {vs:List V}
  (S:fS N ps scope) (hd:A.handled=none) (e0:B9 P w K mg base A outer s H) (hl:vs.length=ps.length) (r:ik vs us)
  (x:InCallC s s.heap.objs.size (bindL (envOfC qual scope s.heap.objs.size f cd).kindOf (ps.zip us) fun _=>none) (cellsFrom (s.heap.objs.size+ 1) scope.names []) (bindC (envOfC qual scope s.heap.objs.size f cd).kindOf (ps.zip us) fun _=>none) s1):
  Inv (uY CX P w K mg base N qual scope f cd A outer s H E) [] (oe N vs) H s1:=by
 have hpl:ps.length<=N.length:=by have:=congrArg aH S.pre;rw[aI]at this;lia
 obtain⟨h1,tk,rfl,hk⟩:=x.done
 have noA:∀b:Addr,b∉(uY CX P w K mg base N qual scope f cd A outer s H E).ex:=fun b z=>absurd (show b∈([]:List Addr)from z) (by simp)
 refine⟨⟨e0.mod,S.kind,rfl,rfl,cz _,fun y z c h1 h2=>?_,fun y hy=>?_,fun y c _ h=>?_,fun _=>hd,Around.frames_deeper e0.frames,.inr ⟨rfl,rfl⟩,fun b z=>absurd z (noA b),e0.bs,e0.bsz,fun b _ _=>noA b,fun b z=>absurd z (noA b),e0.funs,e0.frf⟩,
  rfl,e0.bare,Un.kept hk,⟨_,x.toInCall.ns,fun i y v h1 h2 h3=>?_⟩,fun y c h=>⟨_,x.cell y c h⟩,e0.hok.fresh (cz _),fun y c h=>?_,fun p hp=>absurd (show p∈([]:List (Addr×Obj))from hp) (by simp),e0.hok.kept hk,?_⟩
 ·exact name_of_addr x.apart (PySem.mem_of_lookup h1) (PySem.mem_of_lookup h2)
 ·have hy:scope.names.lookup y=some .cell\/scope.names.lookup y=some .free:=hy
  rcases hy with hy|hy
  ·exact wa hy
  ·exact absurd rfl (S.nofree _ (PySem.mem_of_lookup hy))
 ·exact cx (x.above y c (PySem.mem_of_lookup h))
 ·have hi:i<vs.length:=by
   unfold oe at h2
   by_cases hi:i<vs.length
   ·exact hi
   ·rw[aJ (by simpa using hi)]at h2
    rw[List.getElem?_replicate]at h2
    split at h2<;>cases h2
  have ha:vs[i]?=some v:=by
   unfold oe at h2
   rw[aK (by simpa using hi),aM]at h2
   cases e:vs[i]? with
   |none=>rw[e]at h2;cases h2
   |some a=>rw[e]at h2;cases h2;rfl
  obtain⟨u,hu,rv⟩:=r.get ha
  have hp:ps[i]?=some y:=by
   rw[<-S.pre,List.getElem?_take_of_lt (by lia)];exact h1
  have ndP:ps.Nodup:=by rw[<-S.pre];exact S.nd.sublist (List.take_sublist _ _)
  refine⟨u,rv,?_⟩
  rcases S.par y (aN hp)with k|k
  ·exact .inl ⟨k,tU ndP hp hu k⟩
  ·obtain⟨c,e⟩:=wa (n:=s.heap.objs.size+ 1) k
   refine .inr ⟨.inl k,c,e,?_⟩
   have q:=x.cell y c e
   rw[tV ndP hp hu (by show scope.names.lookup y≠_;rw[k];decide)]at q
   exact q
 ·exact e0.hok.fresh (cx (x.above y c (PySem.mem_of_lookup h)))
 ·unfold oe
  show _=N.length
  rw[aO,aC,aP]
  lia
theorem DQ {CX:CXT} {P:Program} {w:World} {K:PySem.W.Frag} {mg:Str->Option Value} {base:Heap} {k:Nat} {f:Addr} {name qual:Str} {params:Arguments} {body:List Stmt} {scope:Scope} {dV kV doc pm cdv ct oc:Value} {an od:Option Addr}
  {osl:Array (Option Value)} {N ps:List Str} {sp:Sp} (lk:K.lookup f=some ⟨oc,od,.func (dO name qual params body scope dV kV doc pm an cdv ct),osl⟩) (hcd:dP K cdv qual=true) (S:fS N ps scope)
  (len:∀vs H Q E,sp vs H Q E->vs.length=ps.length)
  (hbody:∀(A:Around) (outer:List Env) (s:Shared) (H:Hp) (vs:List V) (Q:VK) (E:XK),mj k (A.deeper (envOfC qual scope s.heap.objs.size f cdv))->sp vs H Q E->
   ∃t,PSs (uY CX P w K mg base N qual scope f cdv A outer s H E) body t/\t {nx:=fun _ H'=>Q .non H',rt:=Q} (oe N vs) H):
  pT P w K mg base CX (k+ 1) f (dO name qual params body scope dV kV doc pm an cdv ct) ps sp:=by
 refine⟨len,fun A outer s H args us vs Q E hr e0 hb r hsp=>?_⟩
 have hl:=len _ _ _ _ hsp
 have KX:K.In s.heap:=e0.mod.kin.keeps fun b o e=>(e0.bs b o e).1
 have lim:s.heap.NoLimit:=e0.mod.nolimit.keeps fun b o e=>(e0.bs b o e).1
 have hkind:∀y∈ps.zip us,scope.names.lookup y.1=some .local\/(scope.names.lookup y.1=some .cell/\((cellsFrom (s.heap.objs.size+ 1) scope.names []).lookup y.1).isSome=true):=fun⟨n,v⟩ hy=>by
  rcases S.par n (aF hy).1 with q|q
  ·exact .inl q
  ·exact .inr ⟨q,dN _ _ _ (.inl q)⟩
 refine codeAny_call_function hr.depth (KX _ _ lk) rfl S.co S.gen rfl (dQ KX hcd) (hb _ _ _ _ ?_)
 refine wpAny_newFunctionEnv_cells S.kind hkind fun env he s1 x=>?_
 subst he
 refine⟨lim.keeps x.toInCall.keep,codeAny_func ?_⟩
 obtain⟨t,ht,hq⟩:=hbody A outer s H vs Q E (hr.deeper _) hsp
 have I:Inv (uY CX P w K mg base N qual scope f cdv A outer s H E) [] (oe N vs) H s1:=tW S hr.hd e0 hl r x
 refine wpAny_mono (ht [] s1 (oe N vs) H _ I hq) (fun fl s' hs=>?_) fun e s' hs=>hs
 have fin:∀{σ':St} {H':Hp} {v:V} {u:Value},Inv (uY CX P w K mg base N qual scope f cdv A outer s H E) [] σ' H' s'->iq v u->Q v H'->CE outer P w H s Q u s':=
  fun{σ' H' v u} J rv q=>⟨v,H',J.os,J.bare,J.base,J.hok,rv,q⟩
 cases fl with
 |ret u=>
  obtain⟨v,σ',H',J,rv,q⟩:=hs
  exact fin J rv q
 |next=>
  obtain⟨σ',H',J,q⟩:=hs
  exact fin (v:=V.non) (u:=Value.none) J rfl q
 |brk=>
  obtain⟨_,_,_,q⟩:=hs
  exact False.elim q
 |cont=>
  obtain⟨_,_,_,q⟩:=hs
  exact False.elim q
section
variable {X:Cx} {x:Str} {p pos:Pos} {e:Expr} {es:List Expr} {t:TA} {id T:String} {r:List V->Hp->VK->Prop}
def tCB (r:List V->Hp->VK->Prop) (t:TA):TE:=fun σ H Q=>t σ H fun vs H1=>r vs H1 Q
theorem gg (hc:mI X (.builtin id) r) (hg:Gl X x) (hm:X.mg x=none) (hv:bootBuiltins x=some (.builtin id)) (ha:PA X (e::es) t) (hn:autoParam (x≠"__name__") L2.Internal.auD._auto_1) (hdb:autoParam ((x==("__debug__":Str))=false) L2.Internal.auD._auto_1)
  (he:autoParam (starEach (e::es) X.env=(false,eval e X.env)::starEach es X.env) L2.Internal.auR._auto_1) (hpl:autoParam ((backTo pos (starEach es X.env)).any (·.1)=false) L2.Internal.auR._auto_1):PE X (.Call (.Name x p) (e::es) [] pos) (tCB r t):=by
 intro pz s σ H Q I h
 refine wpAny_Call_Name_kw (nE I hg hm hv ?_ hn hdb)
 exact PyProof.Rows.callWith_builtin1 (thn (ha pos pz s σ H _ I h) fun us s1 ⟨vs,H1,I1,r1,q1⟩=>hc pz s1 σ H1 vs us Q I1 r1 q1) he hpl
theorem jH (hc:mI X (.type T) r) (hg:Gl X x) (hm:X.mg x=none) (hv:bootBuiltins x=some (.type T)) (ha:PA X (e::es) t) (hn:autoParam (x≠"__name__") L2.Internal.auD._auto_1) (hdb:autoParam ((x==("__debug__":Str))=false) L2.Internal.auD._auto_1)
  (he:autoParam (starEach (e::es) X.env=(false,eval e X.env)::starEach es X.env) L2.Internal.auR._auto_1) (hpl:autoParam ((backTo pos (starEach es X.env)).any (·.1)=false) L2.Internal.auR._auto_1):PE X (.Call (.Name x p) (e::es) [] pos) (tCB r t):=by
 intro pz s σ H Q I h
 refine wpAny_Call_Name_kw (nE I hg hm hv ?_ hn hdb)
 exact fu (thn (ha pos pz s σ H _ I h) fun us s1 ⟨vs,H1,I1,r1,q1⟩=>hc pz s1 σ H1 vs us Q I1 r1 q1) he hpl
end
section
variable {κ:Type} [DecidableEq κ]
def je (kvs:List (κ×V)) (k:κ):Option V:=(kvs.find? fun kv=>decide (kv.1=k)).map (·.2)
def mK (kvs:List (κ×V)) (k:κ) (v:V):List (κ×V):=
 if(kvs.any fun kv=>decide (kv.1=k))=true then kvs.map (fun kv=>if kv.1=k then(kv.1,v)else kv)else kvs++[(k,v)]
theorem iW {p:κ×V} {r:List (κ×V)} {k:κ} (e:p.1=k):je (p::r) k=some p.2:=by simp[je,aQ,e]
theorem iX {p:κ×V} {r:List (κ×V)} {k:κ} (e:¬p.1=k):je (p::r) k=je r k:=by simp[je,aQ,e]
theorem kx (k:κ):∀kvs:List (κ×V),(kvs.any fun kv=>decide (kv.1=k))=(je kvs k).isSome
 |[]=>rfl
 |p::r=>by
  rw[aR]
  by_cases e:p.1=k
  ·simp only[iW e,gR e,Bool.true_or,Option.isSome_some]
  ·rw[iX e,ig e,Bool.false_or];exact kx k r
theorem wb (k j:κ) (y:V):∀kvs:List (κ×V),je (kvs.map fun kv=>if kv.1=k then(kv.1,y)else kv) j=(je kvs j).map fun x=>if j=k then y else x
 |[]=>rfl
 |p::r=>by
  have ih:=wb k j y r
  rw[aB]
  by_cases h:p.1=k
  ·rw[gx h]
   by_cases e:p.1=j
   ·rw[iW (p:=(p.1,y)) e,iW e,cZ,gx (e.symm.trans h)]
   ·rw[iX (p:=(p.1,y)) e,iX e,ih]
  ·rw[fZ h]
   by_cases e:p.1=j
   ·rw[iW (p:=p) e,iW e,cZ,fZ (fun z=>h (e.trans z))]
   ·rw[iX (p:=p) e,iX e,ih]
theorem tX (k j:κ) (y:V):∀kvs:List (κ×V),je kvs k=none->je (kvs++[(k,y)]) j=if j=k then some y else je kvs j
 |[],_=>by
  by_cases e:k=j
  ·rw[gx e.symm];exact iW (p:=(k,y)) e
  ·rw[fZ (fun z=>e z.symm)];exact iX (p:=(k,y)) e
 |p::r,hn=>by
  rw[aS]
  have hk:¬p.1=k:=fun z=>by rw[iW z]at hn;cases hn
  rw[iX hk]at hn
  have ih:=tX k j y r hn
  by_cases e:p.1=j
  ·rw[iW e,iW e,fZ (fun z=>hk (e.trans z))]
  ·rw[iX e,iX e,ih]
theorem hJ (kvs:List (κ×V)) (k j:κ) (y:V):je (mK kvs k y) j=if j=k then some y else je kvs j:=by
 unfold mK
 by_cases a:(kvs.any fun kv=>decide (kv.1=k))=true
 ·rw[gx a,wb]
  rw[kx]at a
  by_cases e:j=k
  ·obtain⟨x,hx⟩:=cY.mp a
   rw[gx e,e,hx,cZ,gx rfl]
  ·rw[fZ e]
   cases je kvs j with
   |none=>rfl
   |some x=>rw[cZ,fZ e]
 ·rw[fZ a]
  refine tX k j y kvs ?_
  rw[kx]at a
  cases q:je kvs k with
  |none=>rfl
  |some x=>rw[q]at a;exact(a rfl).elim
theorem ij (kvs:List (κ×V)) (k:κ) (v:V):(mK kvs k v).length<=kvs.length+ 1:=by
 unfold mK
 split
 ·rw[aC];lia
 ·rw[aO,az,aT];lia
theorem wc {kvs:List (κ×V)} {k:κ} (v:V) (h:je kvs k=none):mK kvs k v=kvs++[(k,v)]:=by
 unfold mK
 rw[kx,h]
 exact fZ (by decide)
theorem rY.isSome_eq {o:Option V} {u:Option Value} (r:rY o u):o.isSome=u.isSome:=by
 cases o with
 |none=>cases u with
  |none=>rfl
  |some _=>exact(show False from r).elim
 |some _=>cases u with
  |none=>exact(show False from r).elim
  |some _=>rfl
theorem rY.getD {o:Option V} {u:Option Value} {d:V} {d':Value} (r:rY o u) (rd:iq d d'):iq (o.getD d) (u.getD d'):=by
 cases o with
 |none=>cases u with
  |none=>exact rd
  |some _=>exact(show False from r).elim
 |some _=>cases u with
  |none=>exact(show False from r).elim
  |some _=>exact r
theorem KV.val {kvs:List (κ×V)} {vs:List (κ×Value)} (r:KV kvs vs) (k:κ):rY (je kvs k) (valueAt vs k):=by
 unfold KV at r
 induction r with
 |nil=>exact True.intro
 |@cons p q ps qs h t ih=>
  obtain⟨h1,h2⟩:=h
  by_cases e:p.1=k
  ·have e':q.1=k:=h1.symm.trans e
   have b:valueAt (q::qs) k=some q.2:=by simp[valueAt,aQ,e']
   rw[iW e,b];exact h2
  ·have e':¬q.1=k:=fun z=>e (h1.trans z)
   have b:valueAt (q::qs) k=valueAt qs k:=by simp[valueAt,aQ,e']
   rw[iX e,b];exact ih
theorem KV.any {kvs:List (κ×V)} {vs:List (κ×Value)} (r:KV kvs vs) (k:κ):(kvs.any fun kv=>decide (kv.1=k))=vs.any fun kv=>decide (kv.1=k):=by
 unfold KV at r
 induction r with
 |nil=>rfl
 |cons h t ih=>rw[aR,aR,ih,h.1]
theorem KV.repl {kvs:List (κ×V)} {vs:List (κ×Value)} (r:KV kvs vs) (k:κ) {y:V} {u:Value} (ry:iq y u):
  KV (kvs.map fun kv=>if kv.1=k then(kv.1,y)else kv) (vs.map fun kv=>if kv.1=k then(kv.1,u)else kv):=by
 unfold KV at r⊢
 induction r with
 |nil=>exact .nil
 |@cons p q ps qs h t ih=>
  rw[aB,aB]
  refine .cons ?_ ih
  obtain⟨h1,h2⟩:=h
  by_cases e:p.1=k
  ·rw[gx e,gx (h1.symm.trans e)];exact⟨h1,ry⟩
  ·rw[fZ e,fZ (fun z=>e (h1.trans z))];exact⟨h1,h2⟩
theorem KV.put {kvs:List (κ×V)} {vs:List (κ×Value)} (r:KV kvs vs) (k:κ) {y:V} {u:Value} (ry:iq y u):KV (mK kvs k y) (stored vs k u):=by
 unfold mK stored
 rw[r.any k]
 by_cases e:(vs.any fun kv=>decide (kv.1=k))=true
 ·rw[gx e,gx e];exact r.repl k ry
 ·rw[fZ e,fZ e];exact Paired.snoc r ⟨rfl,ry⟩
theorem KV.length {kvs:List (κ×V)} {vs:List (κ×Value)} (r:KV kvs vs):kvs.length=vs.length:=Paired.length r
end
theorem vg {P:Program} {w:World} {k:Key} {u:Value} (r:iq (kV k) u):(jg P w).is k u=true:=by
 cases k with
 |inl i=>obtain⟨t,e⟩:=(show ∃t,u=Value.int i t from r);subst e;exact uZ P w i t
 |inr x=>obtain⟨t,e⟩:=(show ∃t,u=Value.str x t from r);subst e;exact u0 P w x t
theorem tY {P:Program} {w:World}:∀{ks:List Key} {us:List Value},ik (ks.map kV) us->ItemsAre (jg P w) ks us
 |[],_,r=>by rw[aU]at r;cases r;exact .nil
 |k::ks,_,r=>by
  rw[aB]at r
  cases r with
  |cons h t=>exact .cons (vg h) (tY t)
abbrev KT (H:Hp):List (List Key×V)->List (List Key×Addr×Value)->Prop:=Paired fun p q=>p.1=q.1/\H q.2.1=some (.tup (p.1.map kV))/\iq p.2 q.2.2
theorem KT.val {H:Hp} {kvs:List (List Key×V)} {xs:List (List Key×Addr×Value)} (r:KT H kvs xs) (k:List Key):rY (je kvs k) ((atKey xs k).map (·.2)):=by
 induction r with
 |nil=>exact True.intro
 |@cons p q ps qs h t ih=>
  obtain⟨h1,_,h2⟩:=h
  by_cases e:p.1=k
  ·have e':q.1=k:=h1.symm.trans e
   have b:atKey (q::qs) k=some q.2:=by simp[atKey,aQ,e']
   rw[iW e,b];exact h2
  ·have e':¬q.1=k:=fun z=>e (h1.trans z)
   have b:atKey (q::qs) k=atKey qs k:=by simp[atKey,aQ,e']
   rw[iX e,b];exact ih
theorem KT.repl {H:Hp} {kvs:List (List Key×V)} {xs:List (List Key×Addr×Value)} (r:KT H kvs xs) (k:List Key) {y:V} {u:Value} (ry:iq y u):
  KT H (kvs.map fun kv=>if kv.1=k then(kv.1,y)else kv) (xs.map (putAt k u)):=by
 induction r with
 |nil=>exact .nil
 |@cons p q ps qs h t ih=>
  rw[aB,aB]
  refine .cons ?_ ih
  obtain⟨h1,h2,h3⟩:=h
  unfold putAt
  by_cases e:p.1=k
  ·rw[gx e,gx (h1.symm.trans e)];exact⟨h1,h2,ry⟩
  ·rw[fZ e,fZ (fun z=>e (h1.trans z))];exact⟨h1,h2,h3⟩
theorem KT.put {H:Hp} {kvs:List (List Key×V)} {xs:List (List Key×Addr×Value)} (r:KT H kvs xs) (k:List Key) {b:Addr} {y:V} {u:Value} (hb:H b=some (.tup (k.map kV))) (ry:iq y u):
  KT H (mK kvs k y) (storedH xs k b u):=by
 have e:(kvs.any fun kv=>decide (kv.1=k))=(atKey xs k).isSome:=by
  rw[kx,(r.val k).isSome_eq,c9]
 unfold mK storedH
 rw[e]
 by_cases q:(atKey xs k).isSome=true
 ·rw[gx q,gx q];exact r.repl k ry
 ·rw[fZ q,fZ q];exact Paired.snoc r ⟨rfl,hb,ry⟩
theorem KT.keeps {H H':Hp} {kvs:List (List Key×V)} {xs:List (List Key×Addr×Value)} (r:KT H kvs xs) (ht:∀b ys,H b=some (.tup ys)->H' b=some (.tup ys)):KT H' kvs xs:=
 Paired.mapP r fun _ _ z=>⟨z.1,ht _ _ z.2.1,z.2.2⟩
section
variable {P:Program} {w:World} {H:Hp} {h:Heap} {a:Addr}
theorem DR {u:HO} (ok:HOk P w H h) (e:Rd H a u):jn P w H h a u:=e.ok ok
theorem xF {kvs:List (Key×V)} (ok:HOk P w H h) (e:Rd H a (.dK kvs)):kvs.length<=sizeLine/\(a==sysModules)=false/\∃vs,KV kvs vs/\h.DictOf (jg P w) a vs:=
 show jn P w H h a (.dK kvs)from DR ok e
theorem xG {kvs:List (Key×V)} (ok:HOk P w H h) (e:H a=some (.dK kvs)):kvs.length<=sizeLine/\(a==sysModules)=false/\∃vs,KV kvs vs/\h.DictOf (jg P w) a vs:=xF ok (.inl e)
theorem tZ {ks:List Key} (ok:HOk P w H h) (e:H a=some (.tup (ks.map kV))):(tupleKind (jg P w)).is h ks a:=by
 obtain⟨_,its,r,o,h1,h2,n,h3,_⟩:=(show jn P w H h a (.tup (ks.map kV))from ok a _ e)
 exact⟨o,its.toArray,n,h1,h2,h3,by simpa using tY r⟩
theorem yK {kvs:List (List Key×V)} (ok:HOk P w H h) (e:Rd H a (.dT kvs)):kvs.length<=sizeLine/\(a==sysModules)=false/\
  ∃xs,KT H kvs xs/\h.DictOfH (tupleKind (jg P w)) a xs:=by
 obtain⟨z,y,xs,r,o,es,ep,h1,h2,h3,h4,h5⟩:=(show jn P w H h a (.dT kvs)from DR ok e)
 refine⟨z,y,xs,r,o,es,ep,h1,h2,h3,h4,fun x hx=>?_,h5⟩
 have all:∀{l:List (List Key×V)} {m:List (List Key×Addr×Value)},KT H l m->∀x∈m,(tupleKind (jg P w)).is h x.1 x.2.1:=by
  intro l m q
  induction q with
  |nil=>intro x hx;exact nomatch hx
  |@cons p q ps qs hq t ih=>
   intro x hx
   rcases ak.mp hx with e|hx
   ·subst e
    exact tZ ok (by rw[<-hq.1];exact hq.2.1)
   ·exact ih x hx
 exact all r x hx
theorem FN {kvs:List (List Key×V)} (ok:HOk P w H h) (e:H a=some (.dT kvs)):kvs.length<=sizeLine/\(a==sysModules)=false/\
  ∃xs,KT H kvs xs/\h.DictOfH (tupleKind (jg P w)) a xs:=yK ok (.inl e)
end
def vh (H:Hp) (a:Addr) (y:V) (r:Option V):Prop:=
 (∃kvs k,Rd H a (.dK kvs)/\y=kV k/\r=je kvs k)\/∃kvs k b,Rd H a (.dT kvs)/\y= .ref b/\H b=some (.tup (k.map kV))/\r=je kvs k
def xH (H:Hp) (a:Addr) (y v:V) (H':Hp):Prop:=
 (∃kvs k,H a=some (.dK kvs)/\y=kV k/\kvs.length<sizeLine/\H'=upd H a (.dK (mK kvs k v)))\/
 ∃kvs k b,H a=some (.dT kvs)/\y= .ref b/\H b=some (.tup (k.map kV))/\kvs.length<sizeLine/\H'=upd H a (.dT (mK kvs k v))
theorem vh.k {H:Hp} {a:Addr} {kvs:List (Key×V)} {k:Key} (e:H a=some (.dK kvs)):vh H a (kV k) (je kvs k):= .inl ⟨kvs,k,.inl e,rfl,rfl⟩
theorem xH.k {H:Hp} {a:Addr} {kvs:List (Key×V)} {k:Key} {v:V} (e:H a=some (.dK kvs)) (hl:kvs.length<sizeLine):xH H a (kV k) v (upd H a (.dK (mK kvs k v))):= .inl ⟨kvs,k,e,rfl,hl,rfl⟩
section
variable {X:Cx} {pz:List (Addr×Obj)} {σ:St} {H:Hp} {s:Shared} {a:Addr} {y v:V} {u r:Value} {o:Option V} {A:Around} {E:Value->Shared->Prop}
theorem Inv.big (I:Inv X pz σ H s):sysModules<s.heap.objs.size:=by
 have h:mainGlobals<s.heap.objs.size:=(I.mod.glob.keeps I.bk).lt
 exact Nat.lt_trans (by decide) h
theorem yL {Q:Value->Shared->Prop} (hu:A.units+ 1<cLine) (I:Inv X pz σ H s) (g:vh H a y (some v)) (ry:iq y u) (h:∀w' s',Inv X pz σ H s'->iq v w'->Q w' s'):
  wpAny (model X.prog X.w) A (getItem (.ref a) u) Q E s:=by
 rcases g with⟨kvs,k,e,ey,l⟩|⟨kvs,k,b,e,ey,eb,l⟩
 ·subst ey
  obtain⟨z,hd,vs,rel,dd⟩:=xF I.hok e
  obtain⟨w',hw,rw'⟩:=rY.some_of (v:=v) (o:=valueAt vs k) (by rw[l];exact rel.val k)
  exact wpAny_getItem_of (vg ry) dd.mapOf hw (h w' _ (I.tok _) rw')
 ·subst ey
  cases(show u=Value.ref b from ry)
  obtain⟨z,hd,xs,rel,dd⟩:=yK I.hok e
  obtain⟨w',hw,rw'⟩:=rY.some_of (v:=v) (o:=(atKey xs k).map (·.2)) (by rw[l];exact rel.val k)
  obtain⟨p,hp,hp2⟩:=da.mp hw
  refine wpAny_getItem_heap (tupleKind_room_in1 hu) (tZ I.hok eb) dd hp ?_
  rw[hp2]
  exact h w' _ (I.tok _) rw'
theorem d_in {Q:Value->Shared->Prop} (hu:A.units+ 1<cLine) (I:Inv X pz σ H s) (g:vh H a y o) (ry:iq y u) (h:∀s',Inv X pz σ H s'->Q (.bool o.isSome) s'):
  wpAny (model X.prog X.w) A (compareOp .In u (.ref a)) Q E s:=by
 rcases g with⟨kvs,k,e,ey,l⟩|⟨kvs,k,b,e,ey,eb,l⟩
 ·subst ey
  obtain⟨z,hd,vs,rel,dd⟩:=xF I.hok e
  refine wpAny_in_of (vg ry) hd dd.mapOf ?_
  rw[<-(rel.val k).isSome_eq,<-l]
  exact h _ (I.tok _)
 ·subst ey
  cases(show u=Value.ref b from ry)
  obtain⟨z,hd,xs,rel,dd⟩:=yK I.hok e
  refine wpAny_in_heap (tupleKind_room_in1 hu) (tZ I.hok eb) hd dd ?_
  have q:=(rel.val k).isSome_eq
  rw[c9]at q
  rw[<-q,<-l]
  exact h _ (I.tok _)
theorem Cc {Q:Value->Shared->Prop} (hu:A.units+ 1<cLine) (I:Inv X pz σ H s) (g:vh H a y o) (ry:iq y u) (h:∀s',Inv X pz σ H s'->Q (.bool (!o.isSome)) s'):
  wpAny (model X.prog X.w) A (compareOp .NotIn u (.ref a)) Q E s:=by
 rcases g with⟨kvs,k,e,ey,l⟩|⟨kvs,k,b,e,ey,eb,l⟩
 ·subst ey
  obtain⟨z,hd,vs,rel,dd⟩:=xF I.hok e
  refine wpAny_notIn_of (vg ry) hd dd.mapOf ?_
  rw[<-(rel.val k).isSome_eq,<-l]
  exact h _ (I.tok _)
 ·subst ey
  cases(show u=Value.ref b from ry)
  obtain⟨z,hd,xs,rel,dd⟩:=yK I.hok e
  refine wpAny_notIn_heap (tupleKind_room_in1 hu) (tZ I.hok eb) hd dd ?_
  have q:=(rel.val k).isSome_eq
  rw[c9]at q
  rw[<-q,<-l]
  exact h _ (I.tok _)
theorem vj {h':Heap} {t':Nat} {ob:HO} (I:Inv X pz σ H s) (mu:Mut (H a)) (hs:Heap.SameBut a s.heap h') (he:∃q,h'.get? a=some q) (new:jn X.prog X.w (upd H a ob) h' a ob):
  Inv X pz σ (upd H a ob) {s with heap:=h',toks:=t'}:=
 I.write (x:=a) (e:=a) mu (.inl rfl) (fun b q hb z=>(hs.2 b hb).trans z) he new
theorem yM {P:Program} {w:World} {H':Hp} {h':Heap} {kvs:List (Key×V)} {vs:List (Key×Value)} (z:kvs.length<=sizeLine) (hd:(a==sysModules)=false) (rel:KV kvs vs) (dd:h'.DictOf (jg P w) a vs):
  jn P w H' h' a (.dK kvs):=⟨z,hd,vs,rel,dd⟩
theorem yN {H':Hp} {Q:Unit->Shared->Prop} (hu:A.units+ 1<cLine) (I:Inv X pz σ H s) (g:xH H a y v H') (ry:iq y u) (rv:iq v r) (h:∀s',Inv X pz σ H' s'->Q () s'):
  wpAny (model X.prog X.w) A (setItem (.ref a) u r) Q E s:=by
 rcases g with⟨kvs,k,e,ey,l,eH⟩|⟨kvs,k,b,e,ey,eb,l,eH⟩
 ·subst ey eH
  obtain⟨z,hd,vs,rel,dd⟩:=xG I.hok e
  have hz:vs.length<=sizeLine:=by rw[<-rel.length];exact z
  have hl:(mK kvs k v).length<=sizeLine:=by have:=ij kvs k v;lia
  refine wpAny_setItem_pairs (hsz:=hz) (vg ry) dd fun h' dd' hs=>h _ ?_
  have he:∃q,h'.get? a=some q:=let⟨q,_,_,hq,_⟩:=dd';⟨q,hq⟩
  exact vj I (by rw[e];exact True.intro) hs he (yM hl hd (rel.put k rv) dd')
 ·subst ey eH
  cases(show u=Value.ref b from ry)
  obtain⟨z,hd,xs,rel,dd⟩:=FN I.hok e
  have hz:xs.length<=sizeLine:=by rw[<-Paired.length rel];exact z
  have hl:(mK kvs k v).length<=sizeLine:=by have:=ij kvs k v;lia
  refine wpAny_setItem_heap (hsz:=hz) (tupleKind_room_in1 hu) (tZ I.hok eb) dd fun h' dd' hs=>h _ ?_
  obtain⟨q,es,ep,hq,h2,h3,h4,_,h5⟩:=dd'
  refine vj I (by rw[e];exact True.intro) hs ⟨q,hq⟩ ⟨hl,hd,_,(rel.put k eb rv).keeps fun c ys ec=>?_,q,es,ep,hq,h2,h3,h4,h5⟩
  rw[fO (jX ec e (fun z=>nomatch z))]
  exact ec
end
section
variable {X:Cx} {pz:List (Addr×Obj)} {σ:St} {H:Hp} {s:Shared} {a:Addr} {kvs:List (Key×V)} {k:Key} {u:Value} {A:Around} {E:Value->Shared->Prop}
theorem FP {Q:Value->Shared->Prop} (I:Inv X pz σ H s) (e:Rd H a (.dK kvs)) (h:∀t s',Inv X pz σ H s'->Q (.int kvs.length t) s'):wpAny (model X.prog X.w) A (call (.builtin "len") [.ref a]) Q E s:=by
 obtain⟨z,hd,vs,rel,dd⟩:=xF I.hok e
 refine call_len_dict hd dd (by rw[<-rel.length];rw[sizeLine_eq]at z;lia) ?_
 rw[<-rel.length]
 exact h _ _ (I.tok _)
end
def FQ (i:Expr):Prop:=∀ov iv,subscripted i false ov iv=operate [ov,iv] (getItem ov iv)
theorem yO {prog:Program} {w:World} {A:Around} {E:Value->Shared->Prop} {s:Shared} {env:Env} {value slice:Expr} {pos:Pos} {T id:String} {Q:Value->Shared->Prop}
  (hl:typeLookup (.type T) "__getitem__"=pure (some (.builtin id))) (hs:FQ slice)
  (h:wpAny (model prog w) A (eval value env) (fun o s₁=>wpAny (model prog w) A (eval slice env) (fun i s₂=>s₂.TypeIs o T/\wpAny (model prog w) A (getItem o i) Q E s₂) E s₁) E s):
  wpAny (model prog w) A (eval (.Subscript value slice pos) env) Q E s:=by
 refine Subscript_ (wpAny_mono h (fun o s₁ h₁=>wpAny_mono h₁ (fun i s₂ h₂=>?_) fun _ _ x=>x) fun _ _ x=>x)
 obtain⟨hT,h₂⟩:=h₂
 unfold subscriptTail
 refine wpAny_bind ?_
 rw[getitemInPython_of_ne hT.not_modules]
 refine wpAny_bind (wpAny_specialOf hT hl ?_)
 have fin:wpAny (model prog w) A (subscripted slice false o i) (fun r s₃=>wpAny (model prog w) A (letTemporaryGo value o r >>= fun _=>pure r) Q E s₃) E s₂:=by
  rw[hs o i]
  exact wpAny_operating (wpAny_mono h₂ (fun r s₃ h₃=>wpAny_bind (wpAny_letTemporaryGo (wpAny_pure h₃))) fun _ _ x=>x)
 first
  |exact wpAny_pure (wpAny_bind fin)
  |exact wpAny_bind (wpAny_pure (wpAny_bind fin))
  |exact wpAny_bind fin
theorem vk {X:Cx} {pz:List (Addr×Obj)} {σ:St} {H:Hp} {s:Shared} {a:Addr} {y:V} {o:Option V} (I:Inv X pz σ H s) (g:vh H a y o):s.TypeIs (.ref a) "dict":=by
 rcases g with⟨kvs,k,e,_,_⟩|⟨kvs,k,b,e,_,_,_⟩
 ·obtain⟨_,_,vs,_,dd⟩:=xF I.hok e
  exact dd.typeIs
 ·obtain⟨_,_,xs,_,dd⟩:=yK I.hok e
  exact dd.typeIs
def FR (td ty:TE):TE:=fun σ H Q=>td σ H fun x H1=>ty σ H1 fun y H2=>∃a v,x= .ref a/\vh H2 a y (some v)/\Q v H2
def tDIn (ty td:TE):TE:=fun σ H Q=>ty σ H fun y H1=>td σ H1 fun x H2=>∃a o,x= .ref a/\vh H2 a y o/\Q (.bl o.isSome) H2
def Cd (ty td:TE):TE:=fun σ H Q=>ty σ H fun y H1=>td σ H1 fun x H2=>∃a o,x= .ref a/\vh H2 a y o/\Q (.bl (!o.isSome)) H2
def FT (td ty tv:TE):TS:=fun D σ H=>tv σ H fun v H1=>td σ H1 fun x H2=>ty σ H2 fun y H3=>∃a H4,x= .ref a/\xH H3 a y v H4/\D.nx σ H4
section
variable {X:Cx} {o i e value:Expr} {pos pos' tpos:Pos} {td ty tv:TE}
theorem lJ (hu:X.A.units+ 1<cLine) (ho:PE X o td) (hi:PE X i ty) (hs:FQ i:=by exact fun _ _=>rfl):PE X (.Subscript o i pos) (FR td ty):=by
 intro pz s σ H Q I h
 refine yO eg.lookup hs (thn (ho pz s σ H _ I h) fun u s1 ⟨x,H1,I1,rx,q1⟩=>thn (hi pz s1 σ H1 _ I1 q1) fun iv s2 ⟨y,H2,I2,ry,a,v,ex,g,q2⟩=>?_)
 subst ex
 obtain rfl:u=Value.ref a:=rx
 exact⟨vk I2 g,yL hu I2 g ry fun w' s3 I3 rw'=>⟨v,H2,I3,rw',q2⟩⟩
theorem DS (hu:X.A.units+ 1<cLine) (hi:PE X i ty) (ho:PE X o td):PC X .In i o (tDIn ty td):=by
 intro pz s σ H Q I h
 refine thn (hi pz s σ H _ I h) fun iv s1 ⟨y,H1,I1,ry,q1⟩=>thn (ho pz s1 σ H1 _ I1 q1) fun u s2 ⟨x,H2,I2,rx,a,ov,ex,g,q2⟩=>?_
 subst ex
 obtain rfl:u=Value.ref a:=rx
 exact d_in hu I2 g ry fun s3 I3=>⟨.bl ov.isSome,H2,I3,rfl,q2⟩
theorem yP (hu:X.A.units+ 1<cLine) (hi:PE X i ty) (ho:PE X o td):PC X .NotIn i o (Cd ty td):=by
 intro pz s σ H Q I h
 refine thn (hi pz s σ H _ I h) fun iv s1 ⟨y,H1,I1,ry,q1⟩=>thn (ho pz s1 σ H1 _ I1 q1) fun u s2 ⟨x,H2,I2,rx,a,ov,ex,g,q2⟩=>?_
 subst ex
 obtain rfl:u=Value.ref a:=rx
 exact Cc hu I2 g ry fun s3 I3=>⟨.bl (!ov.isSome),H2,I3,rfl,q2⟩
theorem lK (hu:X.A.units+ 1<cLine) (ho:PE X o td) (hi:PE X i ty) (hv:PE X value tv) (hs:swapsWith value (some (.Subscript o i pos')) pos.line X.env=pure false):
  PS X (.Assign [.Subscript o i pos'] value pos) (FT td ty tv):=by
 intro pz s σ H D I h
 refine wpAny_Assign_Subscript (thn (hv pz s σ H _ I h) fun r s1 ⟨v,H1,I1,rv,q1⟩=>thn (ho pz s1 σ H1 _ I1 q1) fun u s2 ⟨x,H2,I2,rx,q2⟩=>thn (hi pz s2 σ H2 _ I2 q2) fun iv s3 ⟨y,H3,I3,ry,a,H4,ex,g,q3⟩=>?_) hs
 subst ex
 obtain rfl:u=Value.ref a:=rx
 exact yN hu I3 g ry rv fun s4 I4=>⟨σ,H4,I4,q3⟩
end
theorem AE {P:Program} {w:World} {H:Hp} (h:Heap) (hb:sysModules<h.objs.size):jn P w H (h.push {cls:= .type "dict",data:= .dict #[]}) h.objs.size (.dK []):=
 ⟨cA _,beq_eq_false_iff_ne.mpr (Ne.symm (cu hb)),[],.nil,Heap.DictOf.new h⟩
def DT:TE:=fun _ H Q=>∀p,H p=none->Q (.ref p) (upd H p (.dK []))
section
variable {X:Cx} {pos:Pos}
theorem nK:PE X (.Dict [] [] pos) DT:=fun pz s σ H Q I h=>
 wpAny_Dict_empty ⟨.ref s.heap.objs.size,_,I.laid (a:=s.heap.objs.size) (o:= .dK []) (t':=s.toks) (fun _ _ q=>fh _ q) (cz _) (AE s.heap I.big),rfl,h _ (I.hok.fresh (cz _))⟩
end
def nL (kvs more:List (Key×V)):List (Key×V):=more.foldl (fun acc kv=>mK acc kv.1 kv.2) kvs
theorem KV.merge:∀{more:List (Key×V)} {rs:List (Key×Value)} {kvs:List (Key×V)} {vs:List (Key×Value)},KV more rs->KV kvs vs->KV (nL kvs more) (merged vs rs):=by
 intro more rs kvs vs r
 unfold KV at r
 induction r generalizing kvs vs with
 |nil=>intro q;exact q
 |@cons p q ps qs h t ih=>
  intro r0
  have e:KV (mK kvs p.1 p.2) (stored vs q.1 q.2):=by
   have:=r0.put p.1 h.2
   rw[<-h.1];exact this
  exact ih e
theorem kR:∀(more kvs:List (Key×V)),(nL kvs more).length<=kvs.length+more.length
 |[],kvs=>by show kvs.length<=kvs.length+ 0;lia
 |p::r,kvs=>by
  have h1:=kR r (mK kvs p.1 p.2)
  have h2:=ij kvs p.1 p.2
  show(nL (mK kvs p.1 p.2) r).length<=_
  rw[az];lia
structure M1 (X:Cx) (o:Expr) (m:Str) (apos:Pos) (e:Expr) (cpos:Pos):Prop where
 base:attributeBase o m X.env (eval o X.env)=eval o X.env
 few:((backTo cpos (starEach [e] X.env)).all (fun x=>!x.1)&&(backToKw cpos (keywordEach [] X.env)).all (fun x=>x.1.isSome)
  &&decide (([e]:List Expr).length+([]:List Keyword).length+(if([]:List Keyword).isEmpty then 0 else 1)<30))=true
 line:(apos.endLine==cpos.line)=true
 trees:backTo cpos (starEach [e] X.env)=[(false,eval e X.env)]
structure M2 (X:Cx) (o:Expr) (m:Str) (apos:Pos) (e f:Expr) (cpos:Pos):Prop where
 base:attributeBase o m X.env (eval o X.env)=eval o X.env
 few:((backTo cpos (starEach [e,f] X.env)).all (fun x=>!x.1)&&(backToKw cpos (keywordEach [] X.env)).all (fun x=>x.1.isSome)
  &&decide (([e,f]:List Expr).length+([]:List Keyword).length+(if([]:List Keyword).isEmpty then 0 else 1)<30))=true
 line:(apos.endLine==cpos.line)=true
 trees:backTo cpos (starEach [e,f] X.env)=[(false,eval e X.env),(false,eval f X.env)]
section
variable {X:Cx} {pz:List (Addr×Obj)} {σ:St} {H:Hp} {s:Shared} {a:Addr} {y d:V} {u r:Value} {o:Option V} {A:Around} {E:Value->Shared->Prop}
end
section
variable {X:Cx} {o e f:Expr} {apos cpos:Pos} {td ty tx:TE}
end
section
variable {X:Cx} {pz:List (Addr×Obj)} {σ:St} {H:Hp} {s:Shared} {a:Addr} {kvs:List (Key×V)} {A:Around} {E:Value->Shared->Prop}
end
section
variable {X:Cx} {pz:List (Addr×Obj)} {σ:St} {H:Hp} {s:Shared} {a:Addr} {y:V} {u:Value} {A:Around} {E:Value->Shared->Prop}
end
end L2.Internal
namespace HT.Internal
open PySem PyProof.Rows
section
open PySem.SeqAt
open PySem.AutoSeq1 (wpAny_loadPart')
open PySem.MeetsSeq PySem.MeetsSeq2 PySem.MeetsSeq3
end
section
variable {prog:Program} {w:World} {A:Around} {E:Value->Shared->Prop} {s:Shared}
theorem cat_tup {t b:Addr} {vs ws:List Value} {Q:Value->Shared->Prop} (ht:IsTup s.heap t vs.toArray) (hb:IsTup s.heap b ws.toArray) (hv:vs≠[])
  (h1:ws=[]->Q (.ref t) s) (h2:ws≠[]->Q (.ref s.heap.objs.size) {s with heap:=s.heap.push {cls:= .type "tuple",data:= .seq (vs++ws).toArray}})
  (hsz:vs.length+ws.length<=sizeLine):wpAny (model prog w) A (binaryOp .Add (.ref t) (.ref b)) Q E s:=by
 obtain⟨⟨cls,dd,data,sl⟩,ho,hc,n,hd⟩:=id ht
 obtain⟨⟨cls2,dd2,data2,sl2⟩,ho2,hc2,n2,hd2⟩:=id hb
 simp only at hc hd hc2 hd2
 subst hc hd hc2 hd2
 have e:vs.toArray++ws.toArray=(vs++ws).toArray:=by simp
 by_cases hw:ws=[]
 ·exact concat_meets ⟨_,ho,rfl⟩ ⟨_,ho2,rfl⟩ noFill_tuple_add seq_tuple_add ej eA (eB _ _)
   (tuple_addW1 t b vs.toArray ws.toArray n n2 dd dd2 sl sl2 (by simpa using hv) (by simp[hw])) ⟨ho,ho2,h1 hw⟩
 ·refine concat_meets ⟨_,ho,rfl⟩ ⟨_,ho2,rfl⟩ noFill_tuple_add seq_tuple_add ej eA (eB _ _)
   (tuple_addW2 t b vs.toArray ws.toArray n n2 dd dd2 sl sl2 (by simpa using hv) (by simpa using hw) (by rw[aV,aV];exact hsz)) ⟨ho,ho2,?_⟩
  rw[e]
  exact h2 hw
def sIx (n d:Nat):Option Int->Nat
 |none=>d
 |some v=>if v<0 then(v+(n:Int)).toNat else min v.toNat n
theorem sIx_none (n d:Nat):sIx n d none=d:=rfl
theorem sIx_nat (n d k:Nat):sIx n d (some (k:Int))=min k n:=by
 show(if(k:Int)<0 then((k:Int)+(n:Int)).toNat else min (k:Int).toNat n)=min k n
 rw[fZ (by lia),eZ]
theorem DU (n d:Nat) (hd:d<=n) (o:Option Int):sIx n d o<=n:=by
 cases o with
 |none=>exact hd
 |some v=>
  show(if v<0 then(v+(n:Int)).toNat else min v.toNat n)<=n
  by_cases hv:v<0
  ·rw[gx hv];lia
  ·rw[fZ hv];exact Nat.min_le_right _ _
theorem yQ (v:Int) (n d:Nat):(if v<0 then max (v+(n:Int)) 0 else min v (n:Int))=((sIx n d (some v):Nat):Int):=by
 show(if v<0 then max (v+(n:Int)) 0 else min v (n:Int))=(((if v<0 then(v+(n:Int)).toNat else min v.toNat n):Nat):Int)
 by_cases hv:v<0
 ·simp only[gx hv];lia
 ·simp only[fZ hv];lia
theorem xI (lo hi:Option Int) (n:Nat):Builtin.Slice.sliceAdjust lo hi 1 (n:Int)=(((sIx n 0 lo:Nat):Int),((sIx n n hi:Nat):Int)):=by
 have h1:¬((1:Int)<0):=by lia
 unfold Builtin.Slice.sliceAdjust
 simp only[h1,if_false]
 refine Prod.ext ?_ ?_
 ·cases lo with
  |none=>rfl
  |some v=>exact yQ v n 0
 ·cases hi with
  |none=>rfl
  |some v=>exact yQ v n n
theorem xJ (i j:Nat):Builtin.Slice.slicePlaces (i:Int) (j:Int) 1=j-i:=by
 unfold Builtin.Slice.slicePlaces
 have h1:(1:Int)>0:=by lia
 simp only[h1,if_true,Int.ediv_one]
 split<;>lia
theorem rL {v:Value} {o:Option Int} {Q:Option Int->Shared->Prop} (p:IsPart v o) (h:Q o s):wpAny (model prog w) A (Builtin.Slice.slicePartIndex v) Q E s:=by
 cases p with
 |none=>exact slicePart_none h
 |int i t=>exact slicePart_int h
theorem oU {sl:Addr} {vl vu:Value} {lo hi:Option Int} {n:Nat} {Q:Int×Int×Nat->Shared->Prop} (hs:s.heap.IsSliceOf sl vl vu .none) (pl:IsPart vl lo) (pu:IsPart vu hi)
  (h:Q (((sIx n 0 lo:Nat):Int),1,sIx n n hi-sIx n 0 lo) s):wpAny (model prog w) A (Builtin.Slice.sliceApplied (.ref sl) (pure (n:Int))) Q E s:=by
 obtain⟨os,hos,hcs,hds⟩:=id hs
 unfold Builtin.Slice.sliceApplied Builtin.Slice.sliceFields
 refine wpAny_bind (wpAny_bind (wpAny_field hos hds (x:=vl) rfl (wpAny_bind (wpAny_field hos hds (x:=vu) rfl (wpAny_bind (wpAny_field hos hds (x:= .none) rfl (wpAny_pure ?_)))))))
 refine wpAny_bind (slicePart_none ?_)
 show wpAny _ _ (if((1:Int)==0)=true then _ else _) _ _ s
 rw[fZ (by decide)]
 refine wpAny_bind (rL pl (wpAny_bind (rL pu (wpAny_bind (wpAny_pure ?_)))))
 show wpAny _ _ (match Builtin.Slice.sliceAdjust lo hi 1 (n:Int)with|(lo,hi)=>pure (lo,(1:Int),Builtin.Slice.slicePlaces lo hi 1)) _ _ s
 rw[xI lo hi n]
 show wpAny _ _ (pure (((sIx n 0 lo:Nat):Int),(1:Int),Builtin.Slice.slicePlaces ((sIx n 0 lo:Nat):Int) ((sIx n n hi:Nat):Int) 1)) _ _ s
 rw[xJ]
 exact wpAny_pure h
theorem AF (xs:Array Value) (i k:Nat):((aa k).filterMap fun(m:Nat)=>xs[((i:Int)+(m:Int)*1).toNat]?).toArray=((xs.toList.drop i).take k).toArray:=by
 have e:(fun(m:Nat)=>xs[((i:Int)+(m:Int)*1).toNat]?)=fun m=>xs[i+m]?:=by
  funext m
  have:((i:Int)+(m:Int)*1).toNat=i+m:=by lia
  rw[this]
 rw[e]
 have:=pick_run xs i k
 rw[List.filterMap_map]at this
 have e2:((fun x=>xs[x]?)∘fun x=>i+x)=fun m=>xs[i+m]?:=rfl
 rw[e2]at this
 rw[this]
theorem getItem_tuple_cut {t sl:Addr} {items:Array Value} {vl vu:Value} {lo hi:Option Int} {Q:Value->Shared->Prop} (ht:IsTup s.heap t items) (hs:s.heap.IsSliceOf sl vl vu .none) (pl:IsPart vl lo) (pu:IsPart vu hi)
  (hw:¬(sIx items.size 0 lo=0/\sIx items.size items.size hi=items.size))
  (h:Q (.ref s.heap.objs.size) {s with heap:=s.heap.push {cls:= .type "tuple",data:= .seq ((items.toList.drop (sIx items.size 0 lo)).take (sIx items.size items.size hi-sIx items.size 0 lo)).toArray}})
  (hsz:items.size<=sizeLine):wpAny (model prog w) A (getItem (.ref t) (.ref sl)) Q E s:=by
 have htake:sizeOk (.seq ((items.toList.drop (sIx items.size 0 lo)).take (sIx items.size items.size hi-sIx items.size 0 lo)).toArray):=by
  show((items.toList.drop (sIx items.size 0 lo)).take (sIx items.size items.size hi-sIx items.size 0 lo)).toArray.size<=sizeLine
  rw[aV,aI,aW,eV]
  lia
 have hj:sIx items.size items.size hi<=items.size:=DU _ _ (cz _) hi
 obtain⟨os,hos,hcs,hds⟩:=id hs
 have hTs:s.TypeIs (.ref sl) "slice":=⟨os,hos,hcs⟩
 unfold getItem
 try with_reducible refine wpAny_holding ?_
 first|refine wpAny_bind (wpAny_pure ?_)|skip
 refine wpAny_bind (wpAny_sequenceKey ht.typeIs (by decide) ?_)
 refine wpAny_bind (wpAny_callSpecial?_slot (name:=Str.ofString "__getitem__") ht.typeIs fw
  (wpAny_call_entry fw ht.typeIs entry_tuple_getitem ?_ (args_tuple_getitem _ _)))
 show wpAny _ _ (Builtin.Tuple.tupleItemsOf (.ref t) >>= _) _ _ s
 refine wpAny_bind (tupleItemsOf_ ht ?_)
 refine wpAny_bind (wpAny_typeOf hTs ?_)
 rw[gx (by decide)]
 refine wpAny_bind (oU hs pl pu ?_)
 have hno:¬((((sIx items.size 0 lo:Nat):Int)==0&&(1:Int)==1&&(sIx items.size items.size hi-sIx items.size 0 lo)==items.size)=true):=by
  intro q
  rw[eR,eR]at q
  have q1:((sIx items.size 0 lo:Nat):Int)=0:=eq_of_beq q.1.1
  have q2:sIx items.size items.size hi-sIx items.size 0 lo=items.size:=eq_of_beq q.2
  exact hw ⟨by lia,by lia⟩
 show wpAny _ _ (if(((sIx items.size 0 lo:Nat):Int)==0&&(1:Int)==1&&(sIx items.size items.size hi-sIx items.size 0 lo)==items.size)=true then _ else _) _ _ s
 rw[fZ hno,AF]
 first
  |exact wpAny_bind (m:=Builtin.Tuple.tupleExact _) (wpAny_newObj_type (wpAny_pure ⟨_,rfl,wpAny_pure h⟩) htake)
  |exact wpAny_bind (m:=Builtin.Tuple.tupleExact _) (wpAny_newObj_type (wpAny_bind (wpAny_pure (wpAny_pure ⟨_,rfl,wpAny_pure h⟩))) htake)
  |exact wpAny_bind (wpAny_bind (m:=Builtin.Tuple.tupleExact _) (wpAny_newObj_type (wpAny_pure (wpAny_pure ⟨_,rfl,wpAny_pure h⟩)) htake))
  |exact wpAny_bind (wpAny_bind (m:=Builtin.Tuple.tupleExact _) (wpAny_newObj_type (wpAny_pure ⟨_,rfl,wpAny_pure h⟩) htake))
end
end HT.Internal
namespace L2.Internal
open PySem PySem.Spec PyProof.Rows
abbrev TO:=St->Hp->(Option Int->Hp->Prop)->Prop
def PO (X:Cx) (e:Option Expr) (t:TO):Prop:=
 ∀(pz:List (Addr×Obj)) (s:Shared) (σ:St) (H:Hp) (Q:Option Int->Hp->Prop),Inv X pz σ H s->t σ H Q->
  wpAny (model X.prog X.w) X.A (evalPart e X.env) (fun u s'=>∃o H',Inv X pz σ H' s'/\IsPart u o/\Q o H') X.xe s
def Ce:TO:=fun _ H Q=>Q none H
def FU (t:TE):TO:=fun σ H Q=>t σ H fun x H1=>∃i,x= .int i/\Q (some i) H1
theorem xK {ns:List Int}:∀{us:List Value},ik (ns.map V.int) us->IntsAre us ns:=by
 induction ns with
 |nil=>intro us r;rw[aU]at r;cases r;exact .nil
 |cons n ns ih=>
  intro us r
  rw[aB]at r
  cases r with
  |cons r1 r2=>
   obtain⟨t,e⟩:=r1
   subst e
   exact .cons n t (ih r2)
section
variable {X:Cx} {e:Expr} {te:TE} {lo hi:Option Expr} {tl th:TO} {pos p2:Pos}
theorem lM:PO X none Ce:=by
 intro pz s σ H Q I h
 rw[evalPart_none]
 exact wpAny_pure ⟨none,H,I,.none,h⟩
theorem kB (h:PE X e te):PO X (some e) (FU te):=by
 intro pz s σ H Q I hw
 rw[evalPart_some]
 refine thn (h pz s σ H _ I hw) fun u s1 ⟨x,H1,I1,r1,q1⟩=>?_
 obtain⟨i,rfl,q⟩:=q1
 obtain⟨t,rfl⟩:=r1
 exact⟨some i,H1,I1,.int i t,q⟩
def SlR (X:Cx) (r:V->Option Int->Option Int->Hp->VK->Prop):Prop:=
 ∀(pz:List (Addr×Obj)) (s:Shared) (σ:St) (H:Hp) (x:V) (v vl vu:Value) (lo hi:Option Int) (sl:Addr) (Q:VK),Inv X pz σ H s->iq x v->s.heap.IsSliceOf sl vl vu .none->IsPart vl lo->IsPart vu hi->r x lo hi H Q->
  ∃T id,typeLookup (.type T) "__getitem__"=pure (some (.builtin id))/\s.TypeIs v T/\wpAny (model X.prog X.w) X.A (getItem v (.ref sl)) (EP X pz σ Q) X.xe s
def tSl (r:V->Option Int->Option Int->Hp->VK->Prop) (te:TE) (tl th:TO):TE:=fun σ H Q=>te σ H fun x H1=>tl σ H1 fun l H2=>th σ H2 fun u H3=>r x l u H3 Q
theorem jR {r:V->Option Int->Option Int->Hp->VK->Prop} (hr:SlR X r) (he:PE X e te) (hl:PO X lo tl) (hu:PO X hi th):PE X (.Subscript e (.Slice lo hi none p2) pos) (tSl r te tl th):=by
 intro pz s σ H Q I h
 refine Subscript_ (thn (he pz s σ H _ I h) fun v s1 ⟨x,H1,I1,r1,q1⟩=>?_)
 refine wpAny_Slice (thn (hl pz s1 σ H1 _ I1 q1) fun vl s2 ⟨l,H2,I2,pl,q2⟩=>thn (hu pz s2 σ H2 _ I2 q2) fun vu s3 ⟨u,H3,I3,pu,q3⟩=>?_)
 rw[evalPart_none]
 refine wpAny_pure ?_
 have I4:Inv X pz σ H3 {s3 with heap:=s3.heap.push {cls:= .type "slice",data:= .fields #[vl,vu,.none]}}:=I3.kept (t':=s3.toks) fun b ob q=>fh _ q
 obtain⟨T,id,hT,ht,hg⟩:=hr pz {s3 with heap:=s3.heap.push {cls:= .type "slice",data:= .fields #[vl,vu,.none]}} σ H3 x v vl vu l u s3.heap.objs.size Q I4 r1 (Heap.IsSliceOf.new ..) pl pu q3
 show wpAny (model X.prog X.w) X.A (subscriptTail e (.Slice lo hi none p2) v (.ref s3.heap.objs.size)) (EP X pz σ Q) X.xe {s3 with heap:=s3.heap.push {cls:= .type "slice",data:= .fields #[vl,vu,.none]}}
 exact tail_any (ops:=[.ref s3.heap.objs.size,v]) ht hT hg (by with_unfolding_all rfl)
def pk (xs:List V) (lo hi:Option Int):List V:=(xs.drop (HT.Internal.sIx xs.length 0 lo)).take (HT.Internal.sIx xs.length xs.length hi-HT.Internal.sIx xs.length 0 lo)
theorem pU (xs:List V) (lo hi:Option Int):(pk xs lo hi).length<=xs.length:=by
 unfold pk
 rw[aI,aW]
 lia
def rSlT (K:PySem.W.Frag):V->Option Int->Option Int->Hp->VK->Prop:=fun x lo hi H Q=>∃a xs,x= .ref a/\SqT K H a xs/\
 ¬(HT.Internal.sIx xs.length 0 lo=0/\HT.Internal.sIx xs.length xs.length hi=xs.length)/\∀p,H p=none->Q (.ref p) (upd H p (.tup (pk xs lo hi)))
theorem DV:SlR X (rSlT X.K):=by
 intro pz s σ H x v vl vu lo hi sl Q I rx hs pl pu h
 obtain⟨a,xs,rfl,hx,hw,q⟩:=h
 cases rx
 obtain⟨its,r,ht,hz⟩:=I.tuple hx
 have hlen:its.toArray.size=xs.length:=by rw[aV];exact r.length.symm
 refine⟨"tuple",_,fw.lookup,ht.typeIs,?_⟩
 refine HT.Internal.getItem_tuple_cut ht hs pl pu (by rw[hlen];exact hw) ?_ (by rw[hlen];exact hz)
 rw[hlen]
 refine⟨.ref s.heap.objs.size,_,I.laid (t':=s.toks) (o:= .tup (pk xs lo hi)) (fun b ob q=>fh _ q) (cz _) ?_,rfl,q _ (I.hok.fresh (cz _))⟩
 exact⟨cw (pU xs lo hi) hz,_,(r.drop (HT.Internal.sIx xs.length 0 lo)).take (HT.Internal.sIx xs.length xs.length hi-HT.Internal.sIx xs.length 0 lo),yl.new _ _⟩
def FV (K:PySem.W.Frag):R2:=fun x y H Q=>∃a b xs ys,x= .ref a/\y= .ref b/\SqT K H a xs/\SqT K H b ys/\xs≠[]/\xs.length+ys.length<=sizeLine/\
 (ys=[]->Q (.ref a) H)/\(ys≠[]->∀p,H p=none->Q (.ref p) (upd H p (.tup (xs++ys))))
theorem ik.nil_iff {xs:List V} {us:List Value} (r:ik xs us):us=[]↔xs=[]:=by
 cases r with
 |nil=>simp
 |cons _ _=>simp
theorem Cf:OpR X (binaryOp .Add) (FV X.K):=by
 intro pz s σ H x y v u Q I rx ry h
 obtain⟨a,b,xs,ys,rfl,rfl,ha,hb,hx,hz,q1,q2⟩:=h
 cases rx
 cases ry
 obtain⟨its,r1,p1,_⟩:=I.tuple ha
 obtain⟨its2,r2,p2,_⟩:=I.tuple hb
 refine HT.Internal.cat_tup p1 p2 (fun z=>hx (r1.nil_iff.mp z)) (fun z=>⟨.ref a,H,I,rfl,q1 (r2.nil_iff.mp z)⟩) (fun z=>?_) (by rw[<-r1.length,<-r2.length];exact hz)
 refine⟨.ref s.heap.objs.size,_,I.laid (t':=s.toks) (o:= .tup (xs++ys)) (fun b ob q=>fh _ q) (cz _) ?_,rfl,q2 (fun w=>z (r2.nil_iff.mpr w)) _ (I.hok.fresh (cz _))⟩
 exact⟨by rw[aO];exact hz,_,r1.append r2,yl.new _ _⟩
end
def ixN (n:Nat) (i:Int):Option Nat:=if 0<=i then(if i<n then some i.toNat else none)else if-(n:Int)<=i then some (i+n).toNat else none
def atI {α:Type} (xs:List α) (i:Int):Option α:=(ixN xs.length i).bind fun j=>xs[j]?
theorem yR {n:Nat} {i:Int} {j:Nat} (h:ixN n i=some j):seqIndex? i n=some j/\j<n/\-(n:Int)<=i/\i<n:=by
 unfold ixN at h
 by_cases h0:0<=i
 ·rw[gx h0]at h
  by_cases h1:i<n
  ·rw[gx h1]at h
   have e:i.toNat=j:=cX.inj h
   exact⟨by rw[seqIndex_of h0 h1,e],by lia,by lia,h1⟩
  ·rw[fZ h1]at h;cases h
 ·rw[fZ h0]at h
  by_cases h1: -(n:Int)<=i
  ·rw[gx h1]at h
   have e:(i+n).toNat=j:=cX.inj h
   exact⟨by rw[seqIndex_neg (by lia) h1,e],by lia,h1,by lia⟩
  ·rw[fZ h1]at h;cases h
theorem vm {α:Type} {xs:List α} {i:Int} {v:α} (h:atI xs i=some v):∃j,seqIndex? i xs.length=some j/\xs[j]?=some v/\j<xs.length/\-(xs.length:Int)<=i/\i<xs.length:=by
 unfold atI at h
 cases e:ixN xs.length i with
 |none=>rw[e]at h;cases h
 |some j=>
  rw[e]at h
  obtain⟨h1,h2,h3,h4⟩:=yR e
  exact⟨j,h1,h,h2,h3,h4⟩
theorem fH {α:Type} {xs:List α} {j:Nat} {v:α} (h:xs[j]?=some v):atI xs (j:Int)=some v:=by
 have hj:j<xs.length:=(au.mp h).1
 have e:ixN xs.length (j:Int)=some j:=by
  unfold ixN
  rw[gx (by lia),gx (by lia)];simp
 unfold atI;rw[e];exact h
def Cg (b:Expr):Prop:=∀o i,subscripted b false o i=operate [o,i] (getItem o i)
def IxR (X:Cx) (r:R2):Prop:=
 ∀(value slice:Expr) (pz:List (Addr×Obj)) (s:Shared) (σ:St) (H:Hp) (x y:V) (v u:Value) (Q:VK),Inv X pz σ H s->iq x v->iq y u->r x y H Q->
  subscripted slice false v u=operate [v,u] (getItem v u)->wpAny (model X.prog X.w) X.A (subscriptTail value slice v u) (EP X pz σ Q) X.xe s
def MtR (X:Cx) (id:String) (r:V->List V->Hp->VK->Prop):Prop:=
 ∀(pz:List (Addr×Obj)) (s:Shared) (σ:St) (H:Hp) (x:V) (xs:List V) (v:Value) (us:List Value) (Q:VK),Inv X pz σ H s->iq x v->ik xs us->r x xs H Q->
  wpAny (model X.prog X.w) X.A (call (.builtin id) (v::us)) (EP X pz σ Q) X.xe s
section
variable {X:Cx} {a b:Expr} {ta tb:TE} {pos:Pos}
theorem fV {r:R2} (hr:IxR X r) (ha:PE X a ta) (hb:PE X b tb) (hs:Cg b:=by exact fun _ _=>rfl):PE X (.Subscript a b pos) (tOp r ta tb):=by
 intro pz s σ H Q I h
 exact Subscript_ (FF ha hb I h fun v u s2 x y H2 I2 rx ry q=>hr a b pz s2 σ H2 x y v u Q I2 rx ry q (hs _ _))
def rIxL (K:PySem.W.Frag):R2:=fun x y H Q=>∃p xs i v,x= .ref p/\y= .int i/\SqL K H p xs/\atI xs i=some v/\Q v H
def rIxT (K:PySem.W.Frag):R2:=fun x y H Q=>∃p xs i v,x= .ref p/\y= .int i/\SqT K H p xs/\atI xs i=some v/\Q v H
def rIxS:R2:=fun x y H Q=>∃z i c,x= .str z/\y= .int i/\z.length<=sizeLine/\atI z.cps.toList i=some c/\Q (.str ⟨#[c]⟩) H
theorem yS:IxR X (rIxL X.K):=by
 intro value slice pz s σ H x y v u Q I rx ry h hs
 obtain⟨p,xs,i,z,rfl,rfl,hq,he,q⟩:=h
 cases rx
 obtain⟨t,rfl⟩:=ry
 obtain⟨its,r,pl,hz⟩:=I.list hq
 obtain⟨j,h1,h2,h3,h4,h5⟩:=vm he
 obtain⟨w,ew,rw'⟩:=r.get h2
 have hl:=r.length
 have hn:=rF
 have fin:EP X pz σ Q w s:=⟨z,H,I,rw',q⟩
 by_cases h0:0<=i
 ·have hj:i.toNat=j:=by
   rw[seqIndex_of h0 h5]at h1
   exact cX.inj h1
  exact item_listR pl.isList h0 (by lia) (by rw[hj];simpa using ew) fin hs
 ·have hj:(i+(its.toArray.size:Int)).toNat=j:=by
   rw[seqIndex_neg (by lia) h4]at h1
   rw[aV,<-hl]
   exact cX.inj h1
  exact subscriptTail_builtinR (x:=w) pl.isList.typeIs slot_list_getitem.lookup
   (wpAny_getItem_list_neg (Q:=fun r s'=>r=w/\EP X pz σ Q r s') pl.isList (by lia) (by rw[aV]<;>lia) (by lia) (by rw[hj];simpa using ew) ⟨rfl,fin⟩) hs
theorem DW:IxR X (rIxT X.K):=by
 intro value slice pz s σ H x y v u Q I rx ry h hs
 obtain⟨p,xs,i,z,rfl,rfl,hq,he,q⟩:=h
 cases rx
 obtain⟨t,rfl⟩:=ry
 obtain⟨its,r,pl,hz⟩:=I.tuple hq
 obtain⟨j,h1,h2,h3,h4,h5⟩:=vm he
 obtain⟨w,ew,rw'⟩:=r.get h2
 have hl:=r.length
 have hn:=rF
 have fin:EP X pz σ Q w s:=⟨z,H,I,rw',q⟩
 exact subscriptTail_builtinR (x:=w) pl.typeIs slot_tuple_getitem.lookup
  (getItem_tuple (j:=j) (Q:=fun r s'=>r=w/\EP X pz σ Q r s') pl (by lia) (by lia) (by rw[aV,<-hl];exact h1) (by simpa using ew) ⟨rfl,fin⟩) hs
theorem yT:IxR X rIxS:=by
 intro value slice pz s σ H x y v u Q I rx ry h hs
 obtain⟨z,i,c,rfl,rfl,hz,he,q⟩:=h
 obtain⟨t,rfl⟩:=rx
 obtain⟨t',rfl⟩:=ry
 obtain⟨j,h1,h2,h3,h4,h5⟩:=vm he
 have hl:z.cps.toList.length=z.length:=by simp[Str.length]
 rw[hl]at h1 h4 h5
 have hn:=rF
 exact tail_any (typeIs_str s z t) slot_str_getitem.lookup (getItem_str (c:=c) (by
  have e1:decide (i< -(2^63:Int))=false:=ig (by lia)
  have e2:decide (i≥2^63)=false:=ig (by lia)
  rw[e1,e2,Bool.or_false]) (by rw[h1];simpa using h2) ⟨.str ⟨#[c]⟩,H,I.tok _,⟨_,rfl⟩,q⟩) hs
theorem xM (its:List Value) (n j:Nat) (u:Value):Obj.mapSeq (·.setIfInBounds j u) {cls:= .type "list",data:= .seq its.toArray n}={cls:= .type "list",data:= .seq (its.set j u).toArray n}:=by
 simp[Obj.mapSeq]
theorem Inv.lst {pz:List (Addr×Obj)} {σ:St} {H:Hp} {s:Shared} {p:Addr} {xs:List V} (I:Inv X pz σ H s) (h:H p=some (.lst xs)):
  ∃(its:List Value) (n:Nat),ik xs its/\s.heap.get? p=some {cls:= .type "list",data:= .seq its.toArray n}/\xs.length<=sizeLine:=by
 obtain⟨z,its,n,r,e⟩:=I.hok p _ h
 exact⟨its,n,r,e,z⟩
theorem Inv.lstUpd {pz:List (Addr×Obj)} {σ:St} {H:Hp} {s:Shared} {p:Addr} {xs ys:List V} {its its':List Value} {n n':Nat} {f:Obj->Obj} (I:Inv X pz σ H s) (h:H p=some (.lst xs))
  (ho:s.heap.get? p=some {cls:= .type "list",data:= .seq its.toArray n}) (hf:f {cls:= .type "list",data:= .seq its.toArray n}={cls:= .type "list",data:= .seq its'.toArray n'}) (r:ik ys its') (hz:ys.length<=sizeLine) (t:Nat):
  Inv X pz σ (upd H p (.lst ys)) {s with heap:=s.heap.update p f,toks:=t}:=by
 have e:(s.heap.update p f).get? p=some {cls:= .type "list",data:= .seq its'.toArray n'}:=by
  rw[fo f ho (by rw[hf]<;>rfl),hf]
 refine I.write (x:=p) (e:=p) (by rw[h];trivial) (.inl rfl) (fun b u hb q=>(fq _ _ (Ne.symm hb)).trans q) ⟨_,e⟩ ?_
 exact⟨hz,its',n',r,e⟩
def FW:V->V->V->Hp->(Hp->Prop)->Prop:=fun o i v H Q=>∃p xs k j,o= .ref p/\i= .int k/\H p=some (.lst xs)/\ixN xs.length k=some j/\Q (upd H p (.lst (xs.set j v)))
theorem mn:G6 X FW:=by
 intro pz s σ H o i v ov iv u Q I ro ri rv h
 obtain⟨p,xs,k,j,rfl,rfl,hp,hj,q⟩:=h
 cases ro
 obtain⟨t,rfl⟩:=ri
 obtain⟨its,n,r,ho,hz⟩:=I.lst hp
 obtain⟨h1,h2,h3,h4⟩:=yR hj
 have hl:=r.length
 have hn:=rF
 have I':Inv X pz σ (upd H p (.lst (xs.set j v))) {s with heap:=s.heap.update p (Obj.mapSeq (·.setIfInBounds j u))}:=
  I.lstUpd hp ho (xM its n j u) (r.set rv j) (by rw[aX];exact hz) s.toks
 by_cases h0:0<=k
 ·have hk:k.toNat=j:=by
   rw[seqIndex_of h0 h4]at h1
   exact cX.inj h1
  exact PySem.W.ki_setAt ho h0 (by lia) (by rw[aV,<-hl];exact h4) (by rw[hk];exact⟨_,I',q⟩)
 ·have hk:(k+(its.toArray.size:Int)).toNat=j:=by
   rw[seqIndex_neg (by lia) h3]at h1
   rw[aV,<-hl]
   exact cX.inj h1
  exact PySem.W.ki_setBack ho (by lia) (by rw[aV,<-hl];exact h3) (by lia) (by rw[hk];exact⟨_,I',q⟩)
theorem ua (lo hi:Option Int) (n:Nat):(sliceBounds lo hi none n).1=((HT.Internal.sIx n 0 lo:Nat):Int)/\(sliceBounds lo hi none n).2.1=((HT.Internal.sIx n n hi:Nat):Int)/\(sliceBounds lo hi none n).2.2=1:=by
 refine⟨?_,?_,rfl⟩
 ·cases lo with
  |none=>simp[sliceBounds,HT.Internal.sIx]
  |some i=>
   simp only[sliceBounds,HT.Internal.sIx,Option.getD_none,show(1:Int)>0 by decide,if_true]
   by_cases h:i<0
   ·simp only[h,if_true]<;>lia
   ·simp only[h,if_false]<;>lia
 ·cases hi with
  |none=>simp[sliceBounds,HT.Internal.sIx]
  |some i=>
   simp only[sliceBounds,HT.Internal.sIx,Option.getD_none,show(1:Int)>0 by decide,if_true]
   by_cases h:i<0
   ·simp only[h,if_true]<;>lia
   ·simp only[h,if_false]<;>lia
theorem si (its:List Value) (lo hi:Option Int):slicePick its.toArray lo hi none=((its.drop (HT.Internal.sIx its.length 0 lo)).take (HT.Internal.sIx its.length its.length hi-HT.Internal.sIx its.length 0 lo)).toArray:=by
 obtain⟨h1,h2,h3⟩:=ua lo hi its.toArray.size
 unfold slicePick
 rw[h1,h2,h3]
 simp only[sliceRange_one,pick_run,aV]<;>rfl
def rSlL (K:PySem.W.Frag):V->Option Int->Option Int->Hp->VK->Prop:=fun x lo hi H Q=>∃a xs,x= .ref a/\SqL K H a xs/\∀p,H p=none->Q (.ref p) (upd H p (.lst (pk xs lo hi)))
theorem og:SlR X (rSlL X.K):=by
 intro pz s σ H x v vl vu lo hi sl Q I rx hs pl pu h
 obtain⟨a,xs,rfl,hx,q⟩:=h
 cases rx
 obtain⟨its,r,ht,hz⟩:=I.list hx
 have hlen:=r.length
 refine⟨"list",_,slot_list_getitem.lookup,ht.isList.typeIs,?_⟩
 refine wpAny_getItem_list_slice ht.isList hs pl pu .none (by simp) ?_ (by rw[aV]<;>lia)
 rw[si,<-hlen]
 refine⟨.ref s.heap.objs.size,_,I.laid (t':=s.toks) (o:= .lst (pk xs lo hi)) (fun b ob q=>fh _ q) (cz _) ?_,rfl,q _ (I.hok.fresh (cz _))⟩
 exact⟨cw (pU xs lo hi) hz,_,0,(r.drop (HT.Internal.sIx xs.length 0 lo)).take (HT.Internal.sIx xs.length xs.length hi-HT.Internal.sIx xs.length 0 lo),fg _ rfl⟩
def pX:V->Bool
 | .non=>true
 | .bl _=>true
 | .int _=>true
 | .str _=>true
 |_=>false
def eqV:V->V->Bool
 | .non,.non=>true
 | .bl a,.bl b=>a==b
 | .bl a,.int b=>(if a then 1 else 0)==b
 | .int a,.bl b=>a==(if b then 1 else 0)
 | .int a,.int b=>a==b
 | .str a,.str b=>a==b
 |_,_=>false
theorem yU {A:Around} {s:Shared} {y x:V} {u v:Value} (ry:iq y u) (rx:iq x v) (fy:pX y=true) (fx:pX x=true):SeqAt.EqAt A s u v (eqV y x):=by
 cases y with
 |non=>
  cases ry
  cases x with
  |non=>cases rx;exact SeqAt.EqAt.same _
  |bl b=>cases rx;exact SeqAt.EqAt.none_bool b
  |int b=>obtain⟨t,rfl⟩:=rx;exact SeqAt.EqAt.none_int b t
  |str b=>obtain⟨t,rfl⟩:=rx;exact SeqAt.EqAt.none_str b t
  |_=>exact absurd (show false=true from fx) eP
 |bl a=>
  cases ry
  cases x with
  |non=>cases rx;exact SeqAt.EqAt.bool_none a
  |bl b=>cases rx;exact SeqAt.EqAt.bool_bool a b
  |int b=>obtain⟨t,rfl⟩:=rx;exact SeqAt.EqAt.bool_int a b t
  |str b=>obtain⟨t,rfl⟩:=rx;exact SeqAt.EqAt.bool_str a b t
  |_=>exact absurd (show false=true from fx) eP
 |int a=>
  obtain⟨t',rfl⟩:=ry
  cases x with
  |non=>cases rx;exact SeqAt.EqAt.int_none a t'
  |bl b=>cases rx;exact SeqAt.EqAt.int_bool a t' b
  |int b=>obtain⟨t,rfl⟩:=rx;exact SeqAt.EqAt.int_int a t' b t
  |str b=>obtain⟨t,rfl⟩:=rx;exact SeqAt.EqAt.int_str a t' b t
  |_=>exact absurd (show false=true from fx) eP
 |str a=>
  obtain⟨t',rfl⟩:=ry
  cases x with
  |non=>cases rx;exact SeqAt.EqAt.str_none a t'
  |bl b=>cases rx;exact SeqAt.EqAt.str_bool a t' b
  |int b=>obtain⟨t,rfl⟩:=rx;exact SeqAt.EqAt.str_int a t' b t
  |str b=>obtain⟨t,rfl⟩:=rx;exact SeqAt.EqAt.str_str a t' b t
  |_=>exact absurd (show false=true from fx) eP
 |_=>exact absurd (show false=true from fy) eP
def eqU (x:V) (u:Value):Bool:=match u with
 | .none=>eqV .non x
 | .bool b=>eqV (.bl b) x
 | .int i _=>eqV (.int i) x
 | .str z _=>eqV (.str z) x
 |_=>false
theorem Bu {x y:V} {u:Value} (r:iq y u) (f:pX y=true):eqU x u=eqV y x:=by
 cases y with
 |non=>cases r;rfl
 |bl b=>cases r;rfl
 |int i=>obtain⟨t,rfl⟩:=r;rfl
 |str z=>obtain⟨t,rfl⟩:=r;rfl
 |_=>exact absurd (show false=true from f) eP
theorem vn {x:V}:∀{xs:List V} {us:List Value},ik xs us->xs.all pX=true->us.any (eqU x)=xs.any fun y=>eqV y x
 |_,_,.nil,_=>rfl
 |y::xs,u::us,.cons r t,f=>by
  rw[aY,eR]at f
  rw[aR,aR,Bu r f.1,vn t f.2]
theorem sj {A:Around} {s:Shared} {x:V} {v:Value} (rx:iq x v) (fx:pX x=true):∀{xs:List V} {us:List Value},ik xs us->xs.all pX=true->∀u∈us,SeqAt.EqAt A s u v (eqU x u)
 |_,_,.nil,_=>fun u hu=>by cases hu
 |y::xs,u::us,.cons r t,f=>fun u' hu=>by
  rw[aY,eR]at f
  rcases ak.mp hu with rfl|hu
  ·rw[Bu r f.1];exact yU r rx f.1 fx
  ·exact sj rx fx t f.2 u' hu
def inV (x:V) (xs:List V):Bool:=xs.any fun y=>eqV y x
def rIn (K:PySem.W.Frag) (neg:Bool):R2:=fun x y H Q=>∃p xs,y= .ref p/\(SqL K H p xs\/SqT K H p xs)/\pX x=true/\xs.all pX=true/\Q (.bl (if neg then !inV x xs else inV x xs)) H
theorem ub:OpR X (compareOp .In) (rIn X.K false):=by
 intro pz s σ H x y v u Q I rx ry h
 obtain⟨p,xs,rfl,hq,fx,fs,q⟩:=h
 cases ry
 rcases hq with hq|hq
 ·obtain⟨its,r,pl,hz⟩:=I.list hq
  refine SeqAt.in_listAt (eqU x) pl.isList (fun w hw=>sj rx fx r fs w (by simpa using hw)) ⟨.bl _,H,I,rfl,?_⟩
  rw[show its.toArray.any (eqU x)=its.any (eqU x) by simp,vn r fs]
  exact q
 ·obtain⟨its,r,pl,hz⟩:=I.tuple hq
  refine SeqAt.in_tupleAt (eqU x) pl (fun w hw=>sj rx fx r fs w (by simpa using hw)) ⟨.bl _,H,I,rfl,?_⟩
  rw[show its.toArray.any (eqU x)=its.any (eqU x) by simp,vn r fs]
  exact q
theorem gy:mI X (.builtin "len") (fun xs H Q=>∃p ys,xs=[.ref p]/\(SqL X.K H p ys\/SqT X.K H p ys)/\Q (.int ys.length) H):=by
 intro pz s σ H xs us Q I r h
 obtain⟨p,ys,rfl,hq,q⟩:=h
 obtain⟨u,rfl,rx⟩:=lH r
 cases rx
 have hn:=rF
 rcases hq with hq|hq
 ·obtain⟨its,r',pl,hz⟩:=I.list hq
  have hlen:=r'.length
  exact Calls.call_len_list pl.isList (by simp only[aV]<;>lia) ⟨.int ys.length,H,I.tok _,⟨s.toks+ 1,by rw[aV,hlen]⟩,q⟩
 ·obtain⟨its,r',pl,hz⟩:=I.tuple hq
  have hlen:=r'.length
  exact len_tuple pl (by simp only[aV]<;>lia) ⟨.int ys.length,H,I.tok _,⟨s.toks+ 1,by rw[aV,hlen]⟩,q⟩
theorem oH:mI X (.builtin "len") (fun xs H Q=>∃z,xs=[.str z]/\z.length<=sizeLine/\Q (.int z.length) H):=by
 intro pz s σ H xs us Q I r h
 obtain⟨z,rfl,hz,q⟩:=h
 obtain⟨u,rfl,t,rfl⟩:=lH r
 have hn:=rF
 exact len_str (by lia) ⟨.int z.length,H,I.tok _,⟨_,rfl⟩,q⟩
theorem jS:mI X (.type "tuple") (fun xs H Q=>∃p ys,xs=[.ref p]/\((SqL X.K H p ys/\∀l,H l=none->Q (.ref l) (upd H l (.tup ys)))\/(SqT X.K H p ys/\Q (.ref p) H))):=by
 intro pz s σ H xs us Q I r h
 obtain⟨p,ys,rfl,h⟩:=h
 obtain⟨u,rfl,rx⟩:=lH r
 cases rx
 rcases h with⟨hq,q⟩|⟨hq,q⟩
 ·obtain⟨its,r',pl,hz⟩:=I.list hq
  have hlen:=r'.length
  refine call_tuple_list pl.isList (fun h' kp=>?_) (by simp only[aV]<;>lia)
  have I1:Inv X pz σ H {s with heap:=h'}:=I.kept (t':=s.toks) kp
  have I2:Inv X pz σ (upd H h'.objs.size (.tup ys)) {s with heap:=h'.push {cls:= .type "tuple",data:= .seq its.toArray}}:=
   I1.laid (t':=s.toks) (fun b o e=>fh _ e) (cz _) (show jn X.prog X.w _ _ _ (.tup ys)from⟨hz,its,r',yl.new _ _⟩)
  exact⟨.ref h'.objs.size,_,I2,rfl,q _ (I1.hok.fresh (cz _))⟩
 ·obtain⟨its,r',pl,hz⟩:=I.tuple hq
  exact call_tuple_same pl ⟨.ref p,H,I,rfl,q⟩
def tyV (K:PySem.W.Frag) (T:String) (x:V) (H:Hp):Prop:=match x with
 | .str _=>T="str"
 | .int _=>T="int"
 | .ref p=>(T="list"/\∃xs,SqL K H p xs)\/(T="tuple"/\∃o,K.lookup p=some o/\o.cls= .type "tuple"/\o.dict=none)\/
   (T="dict"/\((∃kvs,H p=some (.dK kvs))\/∃kvs,H p=some (.dT kvs)))\/(T="set"/\∃S n,H p=some (.set S n))
 |_=>False
theorem Bv {pz:List (Addr×Obj)} {σ:St} {H:Hp} {s:Shared} {T:String} {x:V} {v:Value} (I:Inv X pz σ H s) (r:iq x v) (ty:tyV X.K T x H):
  s.TypeIs v T/\∀a,v= .ref a->∃ob,s.heap.get? a=some ob/\ob.dict=none:=by
 cases x with
 |str z=>
  obtain⟨t,rfl⟩:=r
  cases(show T="str" from ty)
  exact⟨typeIs_str s z t,fun _ e=>nomatch e⟩
 |int i=>
  obtain⟨t,rfl⟩:=r
  cases(show T="int" from ty)
  exact⟨typeIs_int s i t,fun _ e=>nomatch e⟩
 |ref p=>
  cases r
  rcases ty with⟨rfl,xs,hq⟩|⟨rfl,o,hk,hc,hd⟩|⟨rfl,hk⟩|⟨rfl,S,n,hk⟩
  ·obtain⟨its,_,pl,_⟩:=I.list hq
   refine⟨pl.isList.typeIs,fun a e=>?_⟩
   cases e
   obtain⟨o,n,e,c,hd,_⟩:=pl
   exact⟨o,e,hd⟩
  ·refine⟨⟨o,I.kIn p o hk,hc⟩,fun a e=>?_⟩
   cases e
   exact⟨o,I.kIn _ o hk,hd⟩
  ·have z:∃o,s.heap.get? p=some o/\o.ExactDict:=by
    rcases hk with⟨kvs,hk⟩|⟨kvs,hk⟩
    ·obtain⟨_,_,_,_,o,_,_,e,ex,_⟩:=I.hok p _ hk
     exact⟨o,e,ex⟩
    ·obtain⟨_,_,_,_,o,_,_,e,ex,_⟩:=I.hok p _ hk
     exact⟨o,e,ex⟩
   obtain⟨o,e,ex⟩:=z
   refine⟨⟨o,e,ex.1⟩,fun a e2=>?_⟩
   cases e2
   exact⟨o,e,ex.2.1⟩
  ·obtain⟨o,_,_,_,e,ex,_⟩:=I.hok p _ hk
   refine⟨⟨o,e,ex.1⟩,fun a e2=>?_⟩
   cases e2
   exact⟨o,e,ex.2.1⟩
 |_=>exact False.elim ty
def tBM0 (K:PySem.W.Frag) (T:String) (r:V->List V->Hp->VK->Prop) (to:TE):TE:=fun σ H Q=>to σ H fun x H1=>tyV K T x H1/\r x [] H1 Q
def tBM (K:PySem.W.Frag) (T:String) (r:V->List V->Hp->VK->Prop) (to:TE) (t:TA):TE:=fun σ H Q=>to σ H fun x H1=>tyV K T x H1/\t σ H1 fun xs H2=>r x xs H2 Q
variable {o e:Expr} {es:List Expr} {to:TE} {t:TA} {name:Str} {apos cpos:Pos} {T id:String} {r:V->List V->Hp->VK->Prop}
theorem we (pa:PlainAttrs T) (slot:Slot T name id) (hty:typeOf (.builtin id)=pure (.type "method_descriptor")) (hm:MtR X id r) (ho:PE X o to)
  (hbase:autoParam (attributeBase o name X.env (eval o X.env)=eval o X.env) L2.Internal.auR._auto_1) (hline:autoParam ((apos.endLine==cpos.line)=true) L2.Internal.auR._auto_1):PE X (.Call (.Attribute o name apos) [] [] cpos) (tBM0 X.K T r to):=by
 intro pz s σ H Q I h
 refine wpAny_Call_method0_late hbase hline (thn (ho pz s σ H _ I h) fun v s1 ⟨x,H1,I1,r1,ty,q1⟩=>?_)
 obtain⟨h1,h2⟩:=Bv I1 r1 ty
 exact⟨T,id,pa,slot,hty,h1,h2,Calls.callWith_builtin rfl (PySem.evalArgs_none (hm pz s1 σ H1 x [] v [] Q I1 r1 .nil q1))⟩
theorem jl (pa:PlainAttrs T) (slot:Slot T name id) (hty:typeOf (.builtin id)=pure (.type "method_descriptor")) (hm:MtR X id r) (ho:PE X o to) (ha:PA X (e::es) t)
  (hbase:autoParam (attributeBase o name X.env (eval o X.env)=eval o X.env) L2.Internal.auR._auto_1)
  (hfew:((backTo cpos (starEach (e::es) X.env)).all (fun x=>!x.1)&&(backToKw cpos (keywordEach [] X.env)).all (fun x=>x.1.isSome)
   &&decide ((e::es).length+([]:List Keyword).length+(if([]:List Keyword).isEmpty then 0 else 1)<30))=true:=by rfl)
  (hline:autoParam ((apos.endLine==cpos.line)=true) L2.Internal.auR._auto_1) (hs:autoParam (starEach (e::es) X.env=(false,eval e X.env)::starEach es X.env) L2.Internal.auR._auto_1) (hplain:autoParam ((backTo cpos (starEach es X.env)).any (·.1)=false) L2.Internal.auR._auto_1):
  PE X (.Call (.Attribute o name apos) (e::es) [] cpos) (tBM X.K T r to t):=by
 intro pz s σ H Q I h
 refine wpAny_Call_method_late hbase hfew hline rfl (thn (ho pz s σ H _ I h) fun v s1 ⟨x,H1,I1,r1,ty,q1⟩=>?_)
 obtain⟨h1,h2⟩:=Bv I1 r1 ty
 refine⟨T,id,pa,slot,hty,h1,h2,?_⟩
 have hA:=ha cpos pz s1 σ H1 _ I1 q1
 rw[hs]at hA⊢
 refine Calls.callWith_builtin (by show(false||(backTo cpos (starEach es X.env)).any (·.1))=false;rw[hplain]<;>rfl) (Calls.evalArgs_plain ?_)
 exact thn hA fun us s2 ⟨vs,H2,I2,r2,q2⟩=>hm pz s2 σ H2 x vs v us Q I2 r1 r2 q2
end
def MtM (X:Cx) (id:String) (r:V->List V->Hp->VK->Prop):Prop:=
 ∀(pz:List (Addr×Obj)) (s:Shared) (σ:St) (H:Hp) (x:V) (xs:List V) (v:Value) (us:List Value) (Q:VK),Inv X pz σ H s->iq x v->ik xs us->r x xs H Q->
  wpAny (model X.prog X.w) X.A (call (.builtin id) (v::us)) (EP X pz σ Q) X.xe s
theorem ik.one:∀{x:V} {us:List Value},ik [x] us->∃u,us=[u]/\iq x u
 |_,_,.cons r .nil=>⟨_,rfl,r⟩
theorem ik.zero:∀{us:List Value},ik [] us->us=[]
 |_,.nil=>rfl
theorem ik.dropLast {xs:List V} {us:List Value} (h:ik xs us):ik xs.dropLast us.dropLast:=by
 induction h with
 |nil=>exact .nil
 |cons r t ih=>
  cases t with
  |nil=>exact .nil
  |cons q t'=>exact .cons r ih
theorem ik.reverse {xs:List V} {us:List Value} (h:ik xs us):ik xs.reverse us.reverse:=by
 induction h with
 |nil=>exact .nil
 |cons r t ih=>rw[aZ,aZ];exact ik.append ih (.cons r .nil)
theorem xN {α:Type} (l:List α):l.eraseIdx (l.length-1)=l.dropLast:=by
 induction l with
 |nil=>rfl
 |cons a r ih=>
  cases r with
  |nil=>rfl
  |cons b r=>
   have e:(a::b::r).length-1=((b::r).length-1)+ 1:=by
    have h1:(a::b::r).length=r.length+ 2:=rfl
    have h2:(b::r).length=r.length+ 1:=rfl
    lia
   rw[e,List.eraseIdx_cons_succ,ih]
   all_goals rfl
section
variable {X:Cx} {pz:List (Addr×Obj)} {σ:St} {H:Hp} {s:Shared} {l b:Addr} {xs ys zs:List V}
theorem Inv.lset {its its':List Value} {n:Nat} {f:Array Value->Array Value} {t':Nat} (I:Inv X pz σ H s) (hH:H l=some (.lst xs))
  (e:s.heap.get? l=some {cls:= .type "list",data:= .seq its.toArray n}) (hf:f its.toArray=its'.toArray) (hv:ik ys its') (hz:ys.length<=sizeLine):
  Inv X pz σ (upd H l (.lst ys)) {s with heap:=s.heap.update l (Obj.mapSeq f),toks:=t'}:=by
 have q:=PySem.IsL.update e f
 rw[hf]at q
 refine I.write (x:=l) (e:=l) (by rw[hH];exact trivial) (.inl rfl) (fun b' u hb hu=>(fq s.heap (Obj.mapSeq f) (Ne.symm hb)).trans hu) ⟨_,q⟩ ?_
 exact⟨hz,its',_,hv,q⟩
theorem Inv.lnew {its:List Value} {t':Nat} (I:Inv X pz σ H s) (hv:ik ys its) (hz:ys.length<=sizeLine):
  Inv X pz σ (upd H s.heap.objs.size (.lst ys)) {s with heap:=s.heap.push {cls:= .type "list",data:= .seq its.toArray},toks:=t'}:=
 I.laid (fun _ _ q=>fh _ q) (cz _) ⟨hz,its,0,hv,fg _ rfl⟩
theorem Inv.fresh (I:Inv X pz σ H s):H s.heap.objs.size=none:=I.hok.fresh (cz _)
theorem Inv.lstM (I:Inv X pz σ H s) (hH:H l=some (.lst xs)):xs.length<=sizeLine/\∃(its:List Value) (n:Nat),ik xs its/\xs.length=its.length/\s.heap.get? l=some {cls:= .type "list",data:= .seq its.toArray n}:=by
 obtain⟨z,its,n,r,e⟩:=I.hok l _ hH
 exact⟨z,its,n,r,r.length,e⟩
theorem AG {n:Nat} (h:n<=sizeLine):Builtin.List.listTooLong n=false:=by
 unfold Builtin.List.listTooLong
 exact ig (by lia)
end
section
variable {X:Cx}
def yV:V->List V->Hp->VK->Prop:=fun x vs H Q=>∃l xs y,x= .ref l/\vs=[y]/\H l=some (.lst xs)/\xs.length<sizeLine/\Q .non (upd H l (.lst (xs++[y])))
theorem gr:MtM X "list.append" yV:=by
 intro pz s σ H x vs v us Q I rx rv h
 obtain⟨l,xs,y,rfl,rfl,hH,hz,q⟩:=h
 cases rx
 obtain⟨u,rfl,ru⟩:=rv.one
 obtain⟨z,its,n,r,hl,e⟩:=I.lstM hH
 refine call_meets F.slot_list_append ⟨_,e,rfl⟩ F.entry_list_append (F.args_list_append_2 _ _) (PySem.list_append l its.toArray n u (by rw[aV];lia)) ⟨e,?_⟩
 refine⟨.non,_,I.lset (its':=its++[u]) hH e (by simp) (r.append (.cons ru .nil)) ?_,rfl,q⟩
 rw[aO,ba]
 lia
def Ci:V->List V->Hp->VK->Prop:=fun x vs H Q=>∃l b xs zs,x= .ref l/\vs=[.ref b]/\H l=some (.lst xs)/\H b=some (.lst zs)/\xs.length+zs.length<=sizeLine/\Q .non (upd H l (.lst (xs++zs)))
theorem yW:MtM X "list.extend" Ci:=by
 intro pz s σ H x vs v us Q I rx rv h
 obtain⟨l,b,xs,zs,rfl,rfl,hH,hB,hz,q⟩:=h
 cases rx
 obtain⟨u,rfl,ru⟩:=rv.one
 cases ru
 obtain⟨z,its,n,r,hl,e⟩:=I.lstM hH
 obtain⟨z2,its2,n2,r2,hl2,e2⟩:=I.lstM hB
 have hsz:its.toArray.size+its2.toArray.size<=sizeLine:=by rw[aV,aV];lia
 have hlong:¬(!its.toArray.isEmpty&&Builtin.List.listTooLong (its.toArray.size+its2.toArray.size))=true:=by
  rw[AG hsz,eS]
  exact eP
 refine call_meets F.slot_list_extend ⟨_,e,rfl⟩ F.entry_list_extend (F.args_list_extend_2 _ _)
  (AutoSeq1.list_extend_list_list_0 l its.toArray n b its2.toArray n2 hlong (by rw[aV];lia) (by lia)) ⟨e,e2,?_⟩
 refine⟨.non,_,I.lset (its':=its++its2) hH e (by simp) (r.append r2) ?_,rfl,q⟩
 rw[aO]
 lia
def Hf:V->List V->Hp->VK->Prop:=fun x vs H Q=>∃l xs y,x= .ref l/\vs=[]/\H l=some (.lst xs)/\xs[xs.length-1]?=some y/\Q y (upd H l (.lst xs.dropLast))
theorem wg:MtM X "list.pop" Hf:=by
 intro pz s σ H x vs v us Q I rx rv h
 obtain⟨l,xs,y,rfl,rfl,hH,hy,q⟩:=h
 cases rx
 have hus:=rv.zero
 subst hus
 obtain⟨z,its,n,r,hl,e⟩:=I.lstM hH
 obtain⟨u,hu,ru⟩:=r.get hy
 have hy':its.toArray[its.toArray.size-1]?=some u:=by
  show its.toArray[its.length-1]?=some u
  rw[<-eW,<-hl]
  exact hu
 refine call_meets F.slot_list_pop ⟨_,e,rfl⟩ F.entry_list_pop (F.args_list_pop_1 _) (MeetsSeq.list_pop_last l its.toArray n u hy' (by rw[aV];lia)) ⟨e,?_⟩
 refine⟨y,_,I.lset (its':=its.dropLast) hH e ?_ r.dropLast ?_,ru,q⟩
 ·show its.toArray.eraseIdxIfInBounds (its.toArray.size-1)=its.dropLast.toArray
  rw[aV,List.eraseIdxIfInBounds_toArray,xN]
 ·rw[List.length_dropLast]
  lia
def rCat:R2:=fun x y H Q=>∃l b xs zs,x= .ref l/\y= .ref b/\H l=some (.lst xs)/\H b=some (.lst zs)/\xs.length+zs.length<=sizeLine/\∀p,H p=none->Q (.ref p) (upd H p (.lst (xs++zs)))
theorem uc:OpR X (binaryOp .Add) rCat:=by
 intro pz s σ H x y v u Q I rx ry h
 obtain⟨l,b,xs,zs,rfl,rfl,hH,hB,hz,q⟩:=h
 cases rx
 cases ry
 obtain⟨z,its,n,r,hl,e⟩:=I.lstM hH
 obtain⟨z2,its2,n2,r2,hl2,e2⟩:=I.lstM hB
 refine PySem.P.add_list e e2 ?_ (by rw[aV,aV];lia)
 have ea:its.toArray++its2.toArray=(its++its2).toArray:=by simp
 rw[ea]
 exact⟨.ref _,_,I.lnew (t':=s.toks) (r.append r2) (by rw[aO];lia),rfl,q _ I.fresh⟩
end
section
variable {prog:Program} {w:World} {A:Around} {E:Value->Shared->Prop} {s:Shared}
end
section
variable {X:Cx}
end
end L2.Internal
namespace Att.Internal
open PySem PySem.W PySem.Calls PyProof.Rows
theorem pY {P:Params} {h:Heap}:∀(ns:List Int) (vs:List Value),WellAll P h vs (ns.map WData.int)->IntsAre vs ns:=by
 intro ns
 induction ns with
 |nil=>
  intro vs w
  rw[aU]at w
  cases w
  exact .nil
 |cons n ns ih=>
  intro vs w
  rw[aB]at w
  cases w with
  |cons a b=>
   cases a
   exact .cons _ _ (ih _ b)
theorem yX {l:OpenLaw} {n:Nat} (hn:l.most=some n) {P:Params} {h:Heap} {args:List WData} {vals:List Value}
  (hpre:l.row.toRowW.claim.pre args=true) (hwl:WellAll P h vals args):
  ∃a vs ns,vals=[Value.ref a]/\args=[WData.list (ns.map WData.int)]/\h.get? a=some {cls:= .type "list",data:= .seq vs.toArray}/\IntsAre vs ns/\ns.length<=n:=by
 have hsh:WShape.hasAll [] args [.list .int]=true:=(pre_splitW hpre).1
 have hc:l.pre.holds [] {args:=args}=true:=(pre_splitW hpre).2
 obtain⟨d,r,rfl,h1,h2⟩:=hasAllW_cons hsh
 obtain rfl:=hasAllW_nil h2
 obtain⟨xs,rfl,h3⟩:=hasW_list h1
 obtain⟨ns,rfl⟩:=items_int h3
 have hlen:ns.length<=n:=by
  unfold OpenLaw.pre at hc
  have h4:(WTm.not (.lt (.lit (.int (n:Int))) (.len (.arg 0)))).holds [] {args:=[.list (ns.map .int)]}=true:=by
   have h4:=(holds_andW hc).1
   rw[hn]at h4
   exact h4
  have h5:=condW_of h4 (w_not (w_lt w_lit (w_len_list (w_arg rfl))))
  rw[aC]at h5
  refine Nat.le_of_not_lt fun q=>?_
  have q':(n:Int)<((ns.length:Nat):Int):=by lia
  first
   |(rw[gR q']at h5;exact absurd h5 (by decide))
   |(simp at h5;lia)
 cases hwl with
 |cons w1 w2=>
  cases w2
  cases w1 with
  |list ho hall=>exact⟨_,_,ns,rfl,rfl,ho,pY ns _ hall,hlen⟩
theorem yY (l:OpenLaw) (args:List WData):l.row.toRowW.claim.post args (.bool true) args=true:=
 postW_of (r:=l.row.toRowW) (X:=(true==true))
  (show WShape.has [] (.bool true) .bool=true by first|rfl|decide|simp[WShape.has,WShape.arms,WShape.armsAll])
  (show(WTm.eq .res (.lit (.bool true))).value [] {args:=args,res:=some (.bool true),after:=args}=some (.bool (true==true))from w_eq_bool (w_res rfl) w_lit) rfl
theorem attach_call {l:OpenLaw} {n:Nat} {q:Program} {loose:List Str} {XP:(Str->Option Value)->Heap->Prop} {YP:World->Heap->Prop} {d:DefRec}
  (hn:l.most=some n) (hdf:d.params.defaults=[])
  (call:∀(w:World) (s₀ s₁:Shared) (mg mb:Str->Option Value) (fa:Addr) (o:Obj) (pm cd doc:Value) (a:Addr) (vs:List Value) (ns:List Int),
   Ground q loose [] XP w s₀ mg mb s₁.heap->YP w s₁.heap->
   s₁.heap.get? fa=some o->o.data= .func (docDef d.name d.params d.body d.scope pm cd doc)->s₁.heap.CodeRec cd d.name->mg d.name=some (.ref fa)->
   s₁.heap.get? a=some {cls:= .type "list",data:= .seq vs.toArray}->IntsAre vs ns->ns.length<=n->s₁.gens=#[]->
   codeAny (model l.prog w) callerA (.call (.ref fa) ⟨[.ref a],[]⟩) (fun r s'=>r= .ok (.ret (.bool true))/\OldK s₁.heap s'.heap/\s'.os=s₁.os/\AllBare s'.gens) s₁):
  WalkO q loose XP YP l.row.toRowW d [] (fun f vs=>PySem.call f vs):=by
 intro w s₀ s₁ mg mb G Y fa o pm cd doc dV kV ho hd hcd hD hmg hg args vals as hpre hlay hrd hwl hlo
 obtain rfl:dV= .none:=Dflts.none hD hdf
 obtain rfl:kV= .none:=Dflts.noKw hD
 obtain⟨a,vs,ns,rfl,rfl,hobj,hints,hlen⟩:=yX hn hpre hwl
 refine enter_call (codeAny_mono (call w s₀ s₁ mg mb fa o pm cd doc a vs ns G Y ho (fd_plain hd) hcd hmg hobj hints hlen hg) fun r s' hq=>?_)
 obtain⟨rfl,h2,h3,h4⟩:=hq
 exact⟨.inl ⟨.bool true,.bool true,[],rfl,fun _=>rfl,.bool true,yY l _,fun _=>⟨List.Pairwise.nil,fun _ hm=>(nomatch hm)⟩⟩,h2,h3,h4⟩
section
variable {prog:Program} {w:World} {A:Around} {E:Value->Shared->Prop} {s:Shared} {K:Frag}
end
end Att.Internal
namespace L2.Internal
open PySem PySem.Spec PyProof.Rows
theorem ud:∀{vs:List Value} {ns:List Int},IntsAre vs ns->ik (ns.map V.int) vs
 |_,_,.nil=> .nil
 |_,_,.cons n t h=> .cons ⟨t,rfl⟩ (ud h)
def FX (H:Hp):Prop:=∀b,H b=none\/∃o xs,H b=some (.frz o (.lst xs))
theorem AH {P:Program} {w:World} {K:PySem.W.Frag} {mg mb:Str->Option Value} {CX:CXT} {k:Nat} {fa a:Addr} {fd:FuncData} {x:Str} {sp:Sp} {s₁:Shared} {vs:List Value} {ns:List Int}
  (KX:K.In s₁.heap) (hns:s₁.heap.Ns mainGlobals mg) (hb:s₁.heap.Ns builtinsNs mb) (hbb:∀x:Str,x≠"__name__"->mb x=bootBuiltins x) (hlim:s₁.heap.NoLimit) (hg:s₁.gens=#[])
  (ha:s₁.heap.get? a=some {cls:= .type "list",data:= .seq vs.toArray}) (hi:IntsAre vs ns) (hl:ns.length<=sizeLine) (hr:mj k callerA)
  (F:∀base:Heap,K.In base->base.Ns mainGlobals mg->pT P w K mg base CX k fa fd [x] sp) (hbind:∀(s:Shared) (u:Value),BindsTo s fd ⟨[u],[]⟩ [(x,u)])
  (hsp:∀H:Hp,FX H->SqL K H a (ns.map V.int)->sp [.ref a] H (fun v _=>v= .bl true) fun _ _ _=>False)
  (hCX:∀H e s',CX [] H s₁ (fun _ _ _=>False) e s'->False):
  codeAny (model P w) callerA (.call (.ref fa) ⟨[.ref a],[]⟩) (fun r s'=>r= .ok (.ret (.bool true))/\OldK s₁.heap s'.heap/\s'.os=s₁.os/\AllBare s'.gens) s₁:=by
 have rv:=ud hi
 have lenV:=hi.length
 have core:∀H:Hp,FX H->SqL K H a (ns.map V.int)->HOk P w H s₁.heap->(∀b,H b≠none->b=a)->(H a≠none->K.lookup a=none)->
   codeAny (model P w) callerA (.call (.ref fa) ⟨[.ref a],[]⟩) (fun r s'=>r= .ok (.ret (.bool true))/\OldK s₁.heap s'.heap/\s'.os=s₁.os/\AllBare s'.gens) s₁:=by
  intro H hO hS hok hA hK
  have base_of:∀{b:Addr} {o:Obj},s₁.heap.get? b=some o->H b=none->(Aw s₁.heap H).get? b=some o:=fun e n=>Ax e n
  have noA:∀{b:Addr} {o:Obj} {es:Array DictEntry} {ep:Nat},s₁.heap.get? b=some o->o.data= .dict es ep->H b=none:=fun{b o es ep} e d=>by
   cases q:H b with
   |none=>rfl
   |some u=>
    have e':b=a:=hA b (by rw[q];simp)
    subst e'
    rw[ha]at e;cases e
    have d':Data.seq vs.toArray _=Data.dict es ep:=d
    cases d'
  have nsK:∀{b:Addr} {m:Str->Option Value},s₁.heap.Ns b m->(Aw s₁.heap H).Ns b m:=fun{b m} ⟨o,es,ep,e,d,r⟩=>⟨o,es,ep,base_of e (noA e d),d,r⟩
  have hKb:K.In (Aw s₁.heap H):=fun b o e=>base_of (KX b o e) (by
   cases q:H b with
   |none=>rfl
   |some u=>
    have e':b=a:=hA b (by rw[q];simp)
    subst e'
    rw[hK (by rw[q];simp)]at e;cases e)
  have hM:Mod K mg (Aw s₁.heap H):=⟨hKb,nsK hns,⟨mb,nsK hb,hbb⟩,let⟨mc,h1,h2⟩:=hlim;⟨mc,nsK h1,h2⟩⟩
  have e0:B9 P w K mg (Aw s₁.heap H) callerA [] s₁ H:=⟨rfl,hM,fun b o e=>BW e,Nat.le_of_eq (yr _ _),trivial,fun b hb=>absurd (show b∈([]:List Addr)from hb) (by simp),hok,.of_eq hg⟩
  refine codeAny_mono ((F _ hKb (nsK hns)).run callerA [] s₁ H ⟨[.ref a],[]⟩ [.ref a] [.ref a] _ _ hr e0 (hbind s₁ (.ref a)) (.cons rfl .nil) (hsp H hO hS)) fun r s' h=>?_
  cases r with
  |error e=>exact(hCX H e s' h).elim
  |ok fl=>
   cases fl with
   |next=>exact False.elim h
   |brk=>exact False.elim h
   |cont=>exact False.elim h
   |ret u=>
    obtain⟨v,H',os,bare,un,hok',r',q⟩:=h
    have q':v= .bl true:=q
    subst q'
    obtain rfl:u=Value.bool true:=r'
    refine⟨rfl,OldK.of_keep fun b o e=>?_,os,bare⟩
    cases q:H b with
    |none=>exact un.keep b o e q (by intro z;exact absurd (show b∈([]:List Addr)from z) (by simp)) (by simp)
    |some u=>
     rcases hO b with z|⟨ob,xs,z⟩
     ·rw[q]at z;cases z
     ·have z2:=un.frzs b ob _ z
      obtain⟨e1,_⟩:=hok b _ z
      obtain⟨e2,_⟩:=hok' b _ z2
      rw[e]at e1;cases e1
      exact e2
 cases hk:K.lookup a with
 |some o=>
  have e:=KX a o hk
  rw[ha]at e
  cases e
  refine core (fun _=>none) (fun _=> .inl rfl) (.inr ⟨_,vs.toArray,_,hk,rfl,rfl,rfl,by rw[aV,lenV];exact hl,by simpa using rv⟩) (fun b u z=>by have z':(none:Option HO)=some u:=z;cases z') (fun b z=>absurd rfl z) fun z=>absurd rfl z
 |none=>
  refine core (fun b=>if b=a then some (.frz {cls:= .type "list",data:= .seq vs.toArray} (.lst (ns.map V.int)))else none) (fun b=>?_) (.inl (.inr ⟨{cls:= .type "list",data:= .seq vs.toArray},gx rfl⟩)) (fun b u z=>?_) (fun b z=>?_) fun _=>hk
  ·by_cases hb:b=a
   ·exact .inr ⟨_,_,gx hb⟩
   ·exact .inl (fZ hb)
  ·by_cases hb:b=a
   ·have z':=(gx hb).symm.trans z
    cases z'
    subst hb
    exact⟨ha,by rw[aC];exact hl,vs,_,rv,ha⟩
   ·have z':=(fZ hb).symm.trans z
    cases z'
  ·by_cases hb:b=a
   ·exact hb
   ·exact absurd (fZ hb) z
theorem walk_of {l:PySem.W.OpenLaw} {n k:Nat} {q:Program} {loose:List Str} {XP:(Str->Option Value)->Heap->Prop} {YP:World->Heap->Prop} {d:DefRec} {K:Params->PySem.W.Frag} {CX:World->CXT} {sp:World->Sp} {x:Str}
  (hn:l.most=some n) (hn2:n<=sizeLine) (hdf:d.params.defaults=[]) (hr:mj k callerA)
  (hY:∀(w:World) (h:Heap),YP w h->(K w.params).In h)
  (F:∀(w:World) (mg:Str->Option Value) (fa:Addr) (h:Heap),(K w.params).In h->h.Ns mainGlobals mg->mg d.name=some (.ref fa)->
   ∃fd:FuncData,(∀(s:Shared) (u:Value),BindsTo s fd ⟨[u],[]⟩ [(x,u)])/\
    ∀base:Heap,(K w.params).In base->base.Ns mainGlobals mg->pT l.prog w (K w.params) mg base (CX w) k fa fd [x] (sp w))
  (hsp:∀(w:World) (H:Hp) (a:Addr) (ns:List Int),ns.length<=n->FX H->SqL (K w.params) H a (ns.map V.int)->sp w [.ref a] H (fun v _=>v= .bl true) fun _ _ _=>False)
  (hCX:∀(w:World) (H:Hp) (s:Shared) (e:Value) (s':Shared),CX w [] H s (fun _ _ _=>False) e s'->False):
  PySem.W.WalkO q loose XP YP l.row.toRowW d [] (fun f vs=>PySem.call f vs):=by
 refine Att.Internal.attach_call hn hdf fun w s₀ s₁ mg mb fa o pm cd doc a vs ns G Y ho hd hcd hmg hobj hints hlen hg=>?_
 have KX:=hY w _ Y
 obtain⟨fd,hb,hF⟩:=F w mg fa _ KX G.T.g hmg
 exact AH KX G.T.g G.T.b G.T.builtins G.T.nolimit hg hobj hints (cw hlen hn2) hr hF hb (fun H hO hS=>hsp w H a ns hlen hO hS) fun H e s'=>hCX w H s₁ e s'
def gP (s:Stmt) (j:Nat):Stmt:=match s with
 | .ClassDef _ _ _ body _ _ _ _ _ _ _=>body.getD j (.Pass ⟨0,0,0,0⟩)
 |_=> .Pass ⟨0,0,0,0⟩
def kC (s:Stmt):Arguments:=match s with
 | .FunctionDef _ a _ _ _ _ _ _ _ _=>a
 |_=>{posonlyargs:=[],args:=[],vararg:=none,kwonlyargs:=[],kw_defaults:=[],kwarg:=none,defaults:=[]}
def jC (s:Stmt):List Stmt:=match s with
 | .FunctionDef _ _ b _ _ _ _ _ _ _=>b
 |_=>[]
def fK (s:Stmt):Scope:=match s with
 | .FunctionDef _ _ _ _ _ _ sc _ _ _=>sc
 |_=>{kind:= .function,names:=[],isGenerator:=false,isCoroutine:=false}
abbrev CX0:CXT:=fun _ _ _ _ _ _=>False
abbrev E0:XK:=fun _ _ _=>False
theorem jq {X:Cx}:mz CX0 X E0:=fun _ _ _ _ _ _ _ h=>h.elim
structure Fun (K:PySem.W.Frag) (x qual:Str) (st:Stmt) (f:Addr) (fd:FuncData):Prop where
 ex:∃(oc:Value) (od:Option Addr) (kV doc pm:Value) (an:Option Addr) (cdv ct:Value) (osl:Array (Option Value)),
  fd=dO x qual (kC st) (jC st) (fK st) .none kV doc pm an cdv ct/\K.lookup f=some ⟨oc,od,.func fd,osl⟩/\dP K cdv qual=true
 kp:dE K (.ref f)=true
section
variable {P:Program} {w:World} {K:PySem.W.Frag} {mg:Str->Option Value} {base:Heap}
theorem Fun.ok {x qual:Str} {st:Stmt} {f:Addr} {fd:FuncData} {N ps:List Str} {k:Nat} {sp:Sp} (F:Fun K x qual st f fd) (S:fS N ps (fK st)) (len:∀vs H Q E,sp vs H Q E->vs.length=ps.length)
  (hbody:∀(cdv:Value) (A:Around) (outer:List Env) (s:Shared) (H:Hp) (vs:List V) (Q:VK) (E:XK),mj k (A.deeper (envOfC qual (fK st) s.heap.objs.size f cdv))->sp vs H Q E->
   ∃t,PSs (uY CX0 P w K mg base N qual (fK st) f cdv A outer s H E).nox (jC st) t/\t {nx:=fun _ H'=>Q .non H',rt:=Q} (oe N vs) H):pT P w K mg base CX0 (k+ 1) f fd ps sp:=by
 obtain⟨oc,od,kV,doc,pm,an,cdv,ct,osl,rfl,lk,hcd⟩:=F.ex
 refine DQ lk hcd S len fun A outer s H vs Q E hr hsp=>?_
 obtain⟨t,h,q⟩:=hbody cdv A outer s H vs Q E hr hsp
 exact⟨t,h.nox,q⟩
theorem Fun.binds {x qual:Str} {st:Stmt} {f:Addr} {fd:FuncData} {ps:List Str} (F:Fun K x qual st f fd)
  (h:∀(kV doc pm:Value) (an:Option Addr) (cdv ct:Value) (us:List Value),us.length=ps.length->bindArgs (dO x qual (kC st) (jC st) (fK st) .none kV doc pm an cdv ct) ⟨us,[]⟩=pure (ps.zip us)):n8 K fd ps []:=by
 obtain⟨oc,od,kV,doc,pm,an,cdv,ct,osl,rfl,lk,hcd⟩:=F.ex
 exact .all (h kV doc pm an cdv ct)
theorem pZ {x qual:Str} {st:Stmt} {f:Addr} {oc:Value} {od an:Option Addr} {osl:Array (Option Value)} {kV doc pm cdv ct:Value} (l:K.lookup f=some ⟨oc,od,.func (dO x qual (kC st) (jC st) (fK st) .none kV doc pm an cdv ct),osl⟩)
  (c:dP K cdv qual=true) (k:dE K (.ref f)=true):Fun K x qual st f (dO x qual (kC st) (jC st) (fK st) .none kV doc pm an cdv ct):=⟨⟨oc,od,kV,doc,pm,an,cdv,ct,osl,rfl,l,c⟩,k⟩
end
theorem ue {A:Around} {k:Nat} (hr:mj k A):A.units+ 1<cLine:=cD (Nat.add_le_add_left (by decide:1<=64) _) hr.units
section
variable {X:Cx}
theorem pv (i:Nat) {x:Str} {pos:Pos} (hN:autoParam (X.N[i]?=some x) L2.Internal.auR._auto_1) (hv:Vis X.env.scope x:=by first|exact Or.inl rfl|exact Or.inr (.inl rfl)|exact Or.inr (.inr rfl)) (hd:autoParam ((x==("__debug__":Str))=false) L2.Internal.auD._auto_1)
  (hcd:autoParam ((x==("__classdict__":Str))=false) L2.Internal.auD._auto_1):PE X (.Name x pos) (Du i):=DC hN hv hd hcd
end
theorem iO {A B:Prop} (h:B):if false=true then A else B:=by
 rw[fZ eP]
 exact h
theorem jm {A B:Prop} (h:A):if true=true then A else B:=by
 rw[gx rfl]
 exact h
theorem Fe {c A B:Prop} [Decidable c] (h1:c->A) (h2:¬c->B):if c then A else B:=by
 by_cases h:c
 ·rw[gx h]
  exact h1 h
 ·rw[fZ h]
  exact h2 h
theorem FY {c A B:Prop} [Decidable c] (hc:c) (h:B):if(!decide c)=true then A else B:=by
 rw[gR hc]
 exact iO h
def fW (H H':Hp):Prop:=∀b o,H b=some o->H' b=some o
theorem fW.refl (H:Hp):fW H H:=fun _ _ h=>h
theorem fW.trans {H H1 H2:Hp} (a:fW H H1) (b:fW H1 H2):fW H H2:=fun c o h=>b c o (a c o h)
theorem fW.free {H H':Hp} (e:fW H H') {l:Addr} (h:H' l=Option.none):H l=Option.none:=by
 cases q:H l with
 |none=>rfl
 |some o=>
  rw[e l o q]at h
  cases h
theorem fW.seq {K:PySem.W.Frag} {H H':Hp} {a:Addr} {xs:List V} (e:fW H H') (h:SqL K H a xs):SqL K H' a xs:=by
 rcases h with(h|⟨o,h⟩)|h
 ·exact .inl (.inl (e _ _ h))
 ·exact .inl (.inr ⟨o,e _ _ h⟩)
 ·exact .inr h
section
variable {X:Cx}
theorem uf:mI X (.builtin "len") (fun xs H Q=>∃a kvs,xs=[V.ref a]/\H a=some (.dK kvs)/\Q (.int kvs.length) H):=by
 intro pz s σ H xs us Q I r h
 obtain⟨a,kvs,rfl,ha,q⟩:=h
 obtain⟨u,rfl,ru⟩:=lH r
 cases ru
 exact FP I (.inl ha) fun t s' I'=>⟨.int kvs.length,H,I',⟨t,rfl⟩,q⟩
end
section
variable {κ:Type} [DecidableEq κ]
theorem AI {kvs:List (κ×V)} {k:κ} (h:je kvs k=none):¬k∈kvs.map (·.1):=by
 intro m
 obtain⟨p,hp,e⟩:=bb.mp m
 have q:(kvs.any fun kv=>decide (kv.1=k))=true:=bc.mpr ⟨p,hp,gR e⟩
 rw[kx,h]at q
 exact absurd q (by simp)
theorem Cj {kvs:List (κ×V)} {k:κ} {v:V} (h:je kvs k=some v):k∈kvs.map (·.1):=by
 have q:(kvs.any fun kv=>decide (kv.1=k))=true:=by
  rw[kx,h]
  all_goals rfl
 obtain⟨p,hp,e⟩:=bc.mp q
 exact bb.mpr ⟨p,hp,of_decide_eq_true e⟩
theorem yZ:∀{l:List κ} {k:κ},l.Nodup->¬k∈l->(l++[k]).Nodup
 |[],k,_,_=>by simp
 |a::r,k,h,hk=>by
  obtain⟨h1,h2⟩:=aE.mp h
  show(a::(r++[k])).Nodup
  refine aE.mpr ⟨fun m=>?_,yZ h2 fun m=>hk (ak.mpr (Or.inr m))⟩
  rcases ao.mp m with q|q
  ·exact h1 q
  ·exact hk (ak.mpr (Or.inl (bf.mp q).symm))
theorem Cn {kvs:List (κ×V)} {k:κ} (v:V) (hn:(kvs.map (·.1)).Nodup) (h:je kvs k=none):((mK kvs k v).map (·.1)).Nodup:=by
 rw[wc v h,bh]
 exact yZ hn (AI h)
end
section
variable {X:Cx}
theorem oW {x:Str} {i:Int} {t:Tok} {pos:Pos} (hg:Gl X x) (hm:X.mg x=some (.int i t)) (hd:autoParam ((x==("__debug__":Str))=false) L2.Internal.auD._auto_1):PE X (.Name x pos) (tC (.int i)):=u4 hg hm (show iq (.int i) _ from⟨t,rfl⟩) hd
theorem AJ {x y:Str} {t:Tok} {pos:Pos} (hg:Gl X x) (hm:X.mg x=some (.str y t)) (hd:autoParam ((x==("__debug__":Str))=false) L2.Internal.auD._auto_1):PE X (.Name x pos) (tC (.str y)):=u4 hg hm (show iq (.str y) _ from⟨t,rfl⟩) hd
theorem AK {x:Str} {a:Addr} {pos:Pos} (hg:Gl X x) (hm:X.mg x=some (.ref a)) (hd:autoParam ((x==("__debug__":Str))=false) L2.Internal.auD._auto_1):PE X (.Name x pos) (tC (.ref a)):=u4 hg hm (show iq (.ref a) _ from rfl) hd
theorem mB {x:Str} {n:String} {pos:Pos} (hg:Gl X x) (hm:X.mg x=none) (hv:bootBuiltins x=some (.type n)) (hn:autoParam (x≠"__name__") L2.Internal.auD._auto_1) (hd:autoParam ((x==("__debug__":Str))=false) L2.Internal.auD._auto_1):PE X (.Name x pos) (tC (.ty n)):=BX hg hm hv (show iq (.ty n) _ from rfl) hn hd
end
theorem jf:bootBuiltins "len"=some (.builtin "len"):=gq
theorem Bw:bootBuiltins "all"=some (.builtin "all"):=gq
theorem ug:bootBuiltins "sum"=some (.builtin "sum"):=gq
theorem gM:bootBuiltins "isinstance"=some (.builtin "isinstance"):=gq
theorem wm:bootBuiltins "int"=some (.type "int"):=gq
theorem Bx:bootBuiltins "str"=some (.type "str"):=gq
theorem Co:bootBuiltins "bool"=some (.type "bool"):=gq
theorem y0:bootBuiltins "list"=some (.type "list"):=gq
theorem jT:bootBuiltins "tuple"=some (.type "tuple"):=gq
theorem Cp:bootBuiltins "dict"=some (.type "dict"):=gq
def Its (x:Str):It:=⟨fun i _=>i<x.cps.size,fun i H v H'=>H'=H/\∃c,x.cps[i]?=some c/\v= .str ⟨#[c]⟩,fun i _=>i=x.cps.size⟩
theorem wo {P:Program} {w:World} {K:PySem.W.Frag} {tg:Expr} (it:Addr) (T:String) (x:Str) (t:Tok)
  (hT:["enumerate","zip","dict_itemiterator","dict_reverseitemiterator","odict_iterator","itertools.zip_longest","itertools.pairwise"].contains T=false)
  (W:∀A:Around,A.handled=none->Walks P w A it [it] [it] x.cps.size (SignAt x) (fun i h=>h.IsStrIter it T x t i))
  (hself:∀(A:Around) (i:Nat) (s:Shared) (Q:Value->Shared->Prop) (E:Value->Shared->Prop),s.heap.IsStrIter it T x t i->Q (.ref it) s->wpAny (model P w) A (pyIter (.ref it)) Q E s):
  Bq P w K tg (Its x) [it] it (fun i h=>h.IsStrIter it T x t i) where
 mem:=by simp
 obj:=fun i h st b hb=>by
  have e:b=it:=by simpa using hb
  subst e
  obtain⟨o,e,c,d⟩:=st
  exact⟨o,e,fun v z=>by rw[d]at z;cases z⟩
 keep:=fun i h h' st k=>by
  obtain⟨o,e,r⟩:=st
  exact⟨o,k it (by simp) o e,r⟩
 item:=by
  intro X hP hw hK hc i pz s σ H E I hf st hg
  subst hP hw hK
  obtain⟨f0,f1,f2,f3,f4,f5⟩:=hf it (by simp)
  refine(W X.A (I.ok.hd hc)).item i s _ _ hg st fun v h' tk hv st' kk=>?_
  obtain⟨c,u,hc',rfl⟩:=hv
  have I1:Inv X pz σ H {s with heap:=h',toks:=tk}:=I.turned (fun b o hb e=>kk b o (by simpa using hb) e) f0 f1 f3 f4 f5
  obtain⟨o,e,c1,d⟩:=id st'
  exact⟨_,rfl,xx (s:={s with heap:=h',toks:=tk}) e c1 d hT ⟨.str ⟨#[c]⟩,H,I1,⟨u,rfl⟩,⟨rfl,c,hc',rfl⟩,st',fun b hb=>(hf b hb).1⟩⟩
 done:=by
  intro X hP hw hK hc i pz s σ H E I hf st hg
  subst hP hw hK
  obtain⟨f0,f1,f2,f3,f4,f5⟩:=hf it (by simp)
  have hg':i=x.cps.size:=hg
  subst hg'
  exact(W X.A (I.ok.hd hc)).done s _ _ st fun h' tk kk=>⟨rfl,I.turned (fun b o hb e=>kk b o (by simpa using hb) e) f0 f1 f3 f4 f5⟩
 self:=fun A i s Q E st h=>hself A i s Q E st h
section
variable {X:Cx} {tg:Expr}
def iStr (tl:TE):TI:=fun σ H R=>tl σ H fun v H1=>∃x,v= .str x/\R (Its x) H1
theorem DY {l:Expr} {tl:TE} (hl:PE X l tl):PI X tg l (iStr tl):=by
 intro pz s σ H R I h
 refine thn (hl pz s σ H _ I h) fun v s1 ⟨y,H1,I1,r1,q1⟩=>?_
 obtain⟨x,e,q⟩:=q1
 subst e
 obtain⟨t,rfl⟩:=r1
 have fp:∀b∈[s1.heap.objs.size],xw X pz H1 b:=fun b hb=>by
  have e:b=s1.heap.objs.size:=by simpa using hb
  subst e
  exact I1.fpOk (cz _) (I1.hok.fresh (cz _))
 cases ha:x.cps.all (·<128)
 ·refine wpAny_pyIter_wide ha ?_
  exact⟨s1.heap.objs.size,[s1.heap.objs.size],_,_,H1,rfl,I1.kept (t':=s1.toks) fun b o e=>fh _ e,
   wo _ "str_iterator" x t (by decide) (fun A hA=>Walks.strWide hA _ x t) (fun _ _ _ _ _ st h=>wpAny_pyIter_striter_wide st h),⟨_,fg _ rfl,rfl,rfl⟩,fp,q⟩
 ·refine wpAny_pyIter_ascii ha ?_
  exact⟨s1.heap.objs.size,[s1.heap.objs.size],_,_,H1,rfl,I1.kept (t':=s1.toks) fun b o e=>fh _ e,
   wo _ "str_ascii_iterator" x t (by decide) (fun A hA=>Walks.strAscii hA _ x t) (fun _ _ _ _ _ st h=>wpAny_pyIter_striter_ascii st h),⟨_,fg _ rfl,rfl,rfl⟩,fp,q⟩
end
def blk (X:Cx) (N:List Str) (scope:Scope) (cl:List (Str×Addr)) (C:Addr) (s₀:Shared) (H₀:Hp) (ex:List Addr) (pz:List (Addr×Obj)):Cx:=
 {X with N:=N,s₀:=s₀,H₀:=H₀,env:=compEnvC scope cl C X.env,outer:=X.stack,stack:=X.stack,ex:=ex,fn:=fun _=>false,pn:=X.pn++pz,xe:=fun _ _=>False}
def PTs (X:Cx) (cs:List Expr) (t:TT):Prop:=
 ∀(pz:List (Addr×Obj)) (s:Shared) (σ:St) (H:Hp) (Q:Bool->Hp->Prop),Inv X pz σ H s->t σ H Q->
  wpAny (model X.prog X.w) X.A (forIn cs true fun c r=>if r=true then do let ok<-isTrue c X.env (eval c X.env);pure (ForInStep.yield ok)else pure (ForInStep.yield r)) (TP X pz σ Q) X.xe s
def p6:TT:=fun _ H Q=>Q true H
theorem mL {X:Cx}:PTs X [] p6:=fun pz s σ H Q I h=>wpAny_pure ⟨H,I,h⟩
theorem y8 {X:Cx} {c:Expr} {t:TT} (h:PT X c t):PTs X [c] t:=fun pz s σ H Q I hw=>wpAny_tests_one (h pz s σ H Q I hw)
structure p7 (X:Cx) (N:List Str) (scope:Scope) (cl:List (Str×Addr)) (f:St->St) (i:Nat) (x:Str):Prop where
 kind:scope.kind= .function
 cell:∀y∈scope.names,y.2≠ .cell
 names:∀y∈scope.names,y.2= .local->scope.names.lookup y.1=some .local
 clos:closureFor scope X.env=pure cl
 lk:∀y c,cl.lookup y=some c->X.env.cells.lookup y=some c
 has:∀y,((relabel scope X.env).names.lookup y=some .cell\/(relabel scope X.env).names.lookup y=some .free)->∃c,cl.lookup y=some c
 nd:N.Nodup
 ix:N[i]?=some x
 loc:scope.names.lookup x=some .local
 len:∀σ,σ.length=X.N.length->(f σ).length=N.length
 val:∀(σ:St) (k:Nat) (y:Str) (v:V),N[k]?=some y->(f σ)[k]?=some (some v)->∃j:Nat,X.N[j]?=some y/\σ[j]?=some (some v)/\X.env.scope.names.lookup y=some .cell/\(relabel scope X.env).names.lookup y=some .cell
theorem y9 {X:Cx} {N:List Str} {scope:Scope} {cl:List (Str×Addr)} {f:St->St} {i:Nat} {x:Str} (B:p7 X N scope cl f i x) {pz:List (Addr×Obj)} {σ:St} {H:Hp} {s:Shared} {h₁:Heap} {tk:Nat} {m:Str->Option Value} {ex:List Addr}
  (I:Inv X pz σ H s) (hex:∀b∈ex,xw X pz H b/\b<s.heap.objs.size) (keep:∀b o,s.heap.get? b=some o->h₁.get? b=some o) (hn:h₁.Ns s.heap.objs.size m):
  Inv (blk X N scope cl s.heap.objs.size s H ex pz) [] (f σ) H {s with heap:=h₁,toks:=tk}:=by
 have nst:∀b,b≠X.env.locals->b∉X.fs->b∉frs X.stack:=fun b h1 h2 hb=>(ak.mp (I.stkSub b hb)).elim h1 h2
 have ltC:∀y c,X.env.cells.lookup y=some c->c<s.heap.objs.size:=fun y c e=>by
  obtain⟨v,o,ho,_⟩:=I.cell y c e
  exact ff ho
 refine⟨⟨I.ok.mod,B.kind,I.ok.glob,I.ok.blt,cz _,fun y z c h1 h2=>I.ok.inj y z c (B.lk y c h1) (B.lk z c h2),fun y hy=>B.has y hy,fun y c h=>(nomatch h),I.ok.hd,I.ok.frames,.inl rfl,fun b hb=>?_,I.bs,cw I.ok.bsz I.sz,fun b o e hb=>?_,fun b hb=>?_,I.stack,I.stkFree⟩,
  rfl,I.bare,Un.kept keep,⟨m,hn,fun k y v e1 e2 e3=>?_⟩,fun y c e=>?_,I.hok.fresh (cz _),fun y c e=>I.freeC y c (B.lk y c e),fun p hp=>?_,I.hok.kept keep,B.len σ I.len⟩
 ·obtain⟨⟨_,_,_,_,hc,_⟩,lt⟩:=hex b hb
  exact⟨cu lt,fun y c e=>hc y c (B.lk y c e)⟩
 ·obtain⟨⟨_,_,_,h4,_,_⟩,_⟩:=hex b hb
  rcases h4 with z|z
  ·exact I.ok.noex b o e z
  ·exact absurd (cn (ff (I.ok.bs b o e).1) z) (cq _)
 ·obtain⟨⟨_,h2,h3,_,_,_⟩,_⟩:=hex b hb
  exact nst b h2 h3
 ·obtain⟨j,h1,h2,h3,h4⟩:=B.val σ k y v e1 e2
  obtain⟨m',_,hl⟩:=I.loc
  obtain⟨u,r,l⟩:=hl j y v h1 h2 (.inr (.inl h3))
  refine⟨u,r,?_⟩
  rcases l with⟨hk,_⟩|⟨_,c,hc,z⟩
  ·have hk':X.env.scope.names.lookup y=some .local:=hk
   rw[h3]at hk'
   cases hk'
  ·obtain⟨c',hc'⟩:=B.has y (.inl h4)
   have e:c'=c:=cX.inj ((B.lk y c' hc').symm.trans hc)
   subst e
   obtain⟨o,ho,hd⟩:=z
   exact .inr ⟨.inl h4,c',hc',o,keep _ o ho,hd⟩
 ·obtain⟨v,o,ho,hd⟩:=I.cell y c (B.lk y c e)
  exact⟨v,o,keep _ o ho,hd⟩
 ·rw[aD]at hp
  obtain⟨e,n,ne,nf,d⟩:=I.pin p hp
  exact⟨keep _ _ e,n,cu (ff e),nst _ ne nf,d⟩
theorem gN {env:Env}:∀{names:List (Str×NameKind)} {x:Str} {k:NameKind},
  (names.map fun(n,k)=>if(k==NameKind.free&&env.scope.kind== .function&&env.kindOf n==some .cell)then(n,NameKind.cell)else(n,k)).lookup x=some k->
  ∃k0,names.lookup x=some k0/\(k=k0\/(k0= .free/\k= .cell))
 |[],_,_,h=>by simp at h
 |(n,k0)::r,x,k,h=>by
  have ih:=@gN env r x k
  have h:aA x ((if(k0==NameKind.free&&env.scope.kind== .function&&env.kindOf n==some .cell)=true then(n,NameKind.cell)else(n,k0))::(r.map fun(n,k)=>if(k==NameKind.free&&env.scope.kind== .function&&env.kindOf n==some .cell)then(n,NameKind.cell)else(n,k)))=some k:=h
  cases hx:x==n with
  |true=>
   by_cases hc:(k0==NameKind.free&&env.scope.kind== .function&&env.kindOf n==some .cell)=true
   ·rw[gx hc]at h
    simp only[bj,hx]at h⊢
    have hf:k0= .free:=by
     have hc':=hc
     simp only[eR]at hc'
     exact eq_of_beq hc'.1.1
    exact⟨k0,rfl,.inr ⟨hf,(cX.inj h).symm⟩⟩
   ·rw[fZ hc]at h
    simp only[bj,hx]at h⊢
    exact⟨k0,rfl,.inl (cX.inj h).symm⟩
  |false=>
   have h2:(r.map fun(n,k)=>if(k==NameKind.free&&env.scope.kind== .function&&env.kindOf n==some .cell)then(n,NameKind.cell)else(n,k)).lookup x=some k:=by
    by_cases hc:(k0==NameKind.free&&env.scope.kind== .function&&env.kindOf n==some .cell)=true
    ·rw[gx hc]at h;simp only[bj,hx]at h;exact h
    ·rw[fZ hc]at h;simp only[bj,hx]at h;exact h
   obtain⟨k1,e1,e2⟩:=ih h2
   exact⟨k1,by simp only[bj,hx];exact e1,e2⟩
theorem iC {env:Env} (hk:env.scope.kind= .function):∀{names:List (Str×NameKind)} {x:Str},env.scope.names.lookup x=some .cell->names.lookup x=some .free->
  (names.map fun(n,k)=>if(k==NameKind.free&&env.scope.kind== .function&&env.kindOf n==some .cell)then(n,NameKind.cell)else(n,k)).lookup x=some .cell
 |[],_,_,h=>by simp at h
 |(n,k0)::r,x,hc,h=>by
  have ih:=@iC env hk r x hc
  show aA x ((if(k0==NameKind.free&&env.scope.kind== .function&&env.kindOf n==some .cell)=true then(n,NameKind.cell)else(n,k0))::_)=_
  cases hx:x==n with
  |true=>
   simp only[bj,hx]at h
   cases h
   have e:x=n:=eq_of_beq hx
   have hc':env.kindOf n=some .cell:=by rw[<-e];exact hc
   simp[bj,hx,hk,hc']
  |false=>
   simp only[bj,hx]at h
   by_cases hq:(k0==NameKind.free&&env.scope.kind== .function&&env.kindOf n==some .cell)=true
   ·rw[gx hq];simp only[bj,hx];exact ih h
   ·rw[fZ hq];simp only[bj,hx];exact ih h
theorem DZ {X:Cx} {scope:Scope} {x:Str} (hk:scope.kind= .function) (hn:∀p∈scope.names,p.2≠ .cell/\p.2≠ .free) (hl:∀y∈scope.names,y.2= .local->scope.names.lookup y.1=some .local)
  (hx:scope.names.lookup x=some .local) (hc:closureFor scope X.env=pure []):p7 X [x] scope [] (fun _=>[none]) 0 x where
 kind:=hk
 cell:=fun y hy=>(hn y hy).1
 names:=hl
 clos:=hc
 lk:=fun y c h=>by simp at h
 has:=fun y h=>by
  rcases h with h|h
  ·obtain⟨k0,e,z⟩:=gN h
   have m:=hn _ (PySem.mem_of_lookup e)
   rcases z with z|⟨z,_⟩
   ·exact absurd z.symm m.1
   ·exact absurd z m.2
  ·obtain⟨k0,e,z⟩:=gN h
   have m:=hn _ (PySem.mem_of_lookup e)
   rcases z with z|⟨z,_⟩
   ·exact absurd z.symm m.2
   ·exact absurd z m.2
 nd:=by simp
 ix:=rfl
 loc:=hx
 len:=fun _ _=>rfl
 val:=fun σ k y v h1 h2=>by
  cases k with
  |zero=>simp at h2
  |succ k=>simp at h2
theorem blk1 {X:Cx} {scope:Scope} {x y:Str} {j:Nat} {c0:Addr} (hk:scope.kind= .function) (hn:∀p∈scope.names,p.2≠ .cell/\(p.2= .free->p.1=y)) (hl:∀y∈scope.names,y.2= .local->scope.names.lookup y.1=some .local)
  (hx:scope.names.lookup x=some .local) (hy:scope.names.lookup y=some .free) (hc:closureFor scope X.env=pure [(y,c0)]) (hc0:X.env.cells.lookup y=some c0) (hok:X.env.scope.kind= .function) (hyo:X.env.scope.names.lookup y=some .cell)
  (hj:X.N[j]?=some y):p7 X [x,y] scope [(y,c0)] (fun σ=>[none,σ.getD j none]) 0 x where
 kind:=hk
 cell:=fun y hy=>(hn y hy).1
 names:=hl
 clos:=hc
 lk:=fun z c h=>by
  cases e:z==y with
  |true=>
   simp only[bj,e]at h
   have ez:z=y:=eq_of_beq e
   rw[ez,hc0]
   exact h
  |false=>simp only[bj,e,List.lookup_nil]at h;cases h
 has:=fun z h=>by
  have ez:z=y:=by
   rcases h with h|h
   ·obtain⟨k0,e,q⟩:=gN h
    have m:=hn _ (PySem.mem_of_lookup e)
    rcases q with q|⟨q,_⟩
    ·exact absurd q.symm m.1
    ·exact m.2 q
   ·obtain⟨k0,e,q⟩:=gN h
    have m:=hn _ (PySem.mem_of_lookup e)
    rcases q with q|⟨q,_⟩
    ·exact m.2 q.symm
    ·exact m.2 q
  exact⟨c0,by rw[ez];simp[bj]⟩
 nd:=by
  have e:x≠y:=fun e=>by rw[e,hy]at hx;cases hx
  simp[e]
 ix:=rfl
 loc:=hx
 len:=fun _ _=>rfl
 val:=fun σ k z v h1 h2=>by
  cases k with
  |zero=>simp at h2
  |succ k=>
   cases k with
   |zero=>
    have ez:z=y:=by simpa using h1.symm
    subst ez
    have e:σ.getD j none=some v:=by simpa using h2
    rw[bo]at e
    refine⟨j,hj,?_,hyo,iC hok hyo hy⟩
    cases q:σ[j]? with
    |none=>rw[q]at e;cases e
    |some o=>rw[q]at e;exact congrArg some e
   |succ k=>simp at h2
def LcP (J:It) (i:Nat) (tt:TT) (te:TE) (Q:VK) (τ:St) (H1:Hp) (D:Addr):Prop:=
 ∃W:Nat->Nat->St->Hp->Prop,(∃m,W 0 m τ (upd H1 D (.lst [])))/\∀k m σ' H2,W k m σ' H2->
  (J.stop k H2/\Q (.ref D) H2)\/(J.go k H2/\∀v H3,J.yld k H2 v H3->tt (σ'.set i (some v)) H3 fun ok H4=>if ok=true
   then te (σ'.set i (some v)) H4 fun y H5=>∃xs,H5 D=some (.lst xs)/\xs.length<sizeLine/\∃m',m'<m/\W (k+ 1) m' (σ'.set i (some v)) (upd H5 D (.lst (xs++[y])))
   else ∃m',m'<m/\W (k+ 1) m' (σ'.set i (some v)) H4)
def tLC (wi:TI) (f:St->St) (i:Nat) (tt:TT) (te:TE):TE:=fun σ H Q=>wi σ H fun J H1=>∀D,H1 D=none->LcP J i tt te Q (f σ) H1 D
theorem za {X:Cx} {elt iter:Expr} {x:Str} {px:Pos} {ifs:List Expr} {scope:Scope} {pos pos':Pos} {N:List Str} {cl:List (Str×Addr)} {f:St->St} {i:Nat} {wi:TI} {tt:TT} {te:TE} {use:Option (Value->Sem Unit)} {Qp:Value->Shared->Prop}
  {pz:List (Addr×Obj)} {s:Shared} {σ:St} {H:Hp} {Q:VK}
  (hc:X.calm=true) (B:p7 X N scope cl f i x) (hi:PI X (.Name x px) iter wi)
  (htt:∀C s₀ H₀ ex pz,PTs (blk X N scope cl C s₀ H₀ ex pz) ifs tt) (hte:∀C s₀ H₀ ex pz,PE (blk X N scope cl C s₀ H₀ ex pz) elt te)
  (hs:∀x,foldedSetIterable iter X.env x=pure x) (I:Inv X pz σ H s) (h:tLC wi f i tt te σ H Q)
  (fin:∀(fl:Flow) (s3 s6:Shared) (H3 H5:Hp) (d:Addr) (m:Str->Option Value),Inv X pz σ H3 s3->Inv X pz σ H5 s6->H5 s3.heap.objs.size=none->s6.heap.Ns s3.heap.objs.size m->Q (.ref d) H5->
   compPost (model X.prog X.w) X.A X.xe use Qp (.ref d) s3.heap.objs.size (.ok fl) s6):
  wpAny (model X.prog X.w) X.A (comprehension (.ListComp elt [⟨.Name x px,iter,ifs,0⟩] scope pos) scope X.env pos' (newList []) false (eval iter X.env) use) Qp X.xe s:=by
 refine wpAny_comprehension_free (use:=use) rfl hs B.clos B.kind B.names (thn (hi pz s σ H _ I h) fun xv s1 h1=>thn h1 fun itv s2 h2=>?_)
 obtain⟨it,fp,tn,J,H2,rfl,I2,T,st2,f2,q⟩:=h2
 have hD:H2 s2.heap.objs.size=none:=I2.fresh
 obtain⟨W,⟨m0,w0⟩,turn⟩:=q _ hD
 refine wpAny_newObj_type (wpAny_newFunctionEnv B.cell (by intro y hy;simp at hy) (fun h₁ hns₁ hsb₁=>?_) B.kind)
 have I3:Inv X pz σ (upd H2 s2.heap.objs.size (.lst [])) {s2 with heap:=s2.heap.push {cls:= .type "list",data:= .seq ([]:List Value).toArray}}:=I2.lnew (its:=[]) (ys:=[]) (t':=s2.toks) .nil (cA _)
 have lt2:∀b∈fp,b<s2.heap.objs.size:=fun b hb=>by
  obtain⟨o,ho,_⟩:=T.obj _ _ st2 b hb
  exact ff ho
 have fp3:∀b∈fp,xw X pz (upd H2 s2.heap.objs.size (.lst [])) b:=fun b hb=>by
  refine⟨?_,(f2 b hb).2⟩
  rw[fO (cu (lt2 b hb))]
  exact(f2 b hb).1
 generalize hs3:({s2 with heap:=s2.heap.push {cls:= .type "list",data:= .seq ([]:List Value).toArray}}:Shared)=s3 at I3 hns₁ hsb₁⊢
 have eh:s2.heap.push {cls:= .type "list",data:= .seq ([]:List Value).toArray}=s3.heap:=by rw[<-hs3]
 have lt3:∀b∈fp,b<s3.heap.objs.size:=fun b hb=>by
  rw[<-eh,fj]
  exact cE (lt2 b hb)
 have old:∀b o,s3.heap.get? b=some o->h₁.get? b=some o:=fun b o e=>hsb₁.extBut b o (cu (ff e)) (fh _ e)
 have I4:=y9 (tk:=s3.toks+([]:List (Str×Value)).length) B I3 (ex:=fp) (fun b hb=>⟨fp3 b hb,lt3 b hb⟩) old hns₁
 have st4:tn 0 h₁:=T.keep _ _ _ st2 fun b _ o e=>old b o (by rw[<-eh];exact fh _ e)
 have fpB:∀{H':Hp},(∀b∈fp,H' b=none)->∀b∈fp,xw (blk X N scope cl s3.heap.objs.size s3 (upd H2 s2.heap.objs.size (.lst [])) fp pz) [] H' b:=fun{H'} hn b hb=>by
  obtain⟨_,g2,g3,g4,g5,g6⟩:=f2 b hb
  refine⟨hn b hb,cu (lt3 b hb),fun z=>(ak.mp (I3.stkSub b z)).elim g2 g3,.inl hb,fun y c e=>g5 y c (B.lk y c e),fun p hp=>?_⟩
  rw[aD]at hp
  exact g6 p hp
 have loop:∀s4:Shared,s4={s3 with heap:=h₁,toks:=s3.toks+([]:List (Str×Value)).length}->
   codeAny (model X.prog X.w) X.A (.compLoop (.ListComp elt [⟨.Name x px,iter,ifs,0⟩] scope pos) 0 (.ref it) (.ref s2.heap.objs.size) (compEnvC scope cl s3.heap.objs.size X.env))
    (compPost (model X.prog X.w) X.A X.xe use Qp (.ref s2.heap.objs.size) s3.heap.objs.size) s4:=by
  rintro s4 rfl
  refine codeAny_compLoop_tests (I:=fun n s'=>∃k σ' H',Inv (blk X N scope cl s3.heap.objs.size s3 (upd H2 s2.heap.objs.size (.lst [])) fp pz) [] σ' H' s'/\tn k s'.heap/\(∀b∈fp,H' b=none)/\W k n σ' H') ?_ m0
   ⟨0,f σ,_,I4,st4,fun b hb=>(fp3 b hb).1,w0⟩
  rintro n s5 ⟨k,σ5,H5,I5,st5,fr5,w5⟩
  rcases turn k n σ5 H5 w5 with⟨stop,qn⟩|⟨go,step⟩
  ·refine wpAny_mono (T.done (blk X N scope cl s3.heap.objs.size s3 (upd H2 s2.heap.objs.size (.lst [])) fp pz) rfl rfl rfl hc k [] s5 σ5 H5 _ I5 (fpB fr5) st5 stop) (fun r s6 h6=>?_) fun _ _ z=>z
   obtain⟨hr,I6⟩:=h6
   subst hr
   obtain⟨m6,hn6,_⟩:=id I6.loc
   have I7:Inv X pz σ H5 s6:=I3.call' (s':=s6) (ch:=fp) I6.os I6.base I6.hok I6.bare fun b hb=>by
    obtain⟨_,g2,g3,g4,g5,g6⟩:=f2 b hb
    exact⟨g4,g2,g5,g6⟩
   exact fin _ s3 s6 _ H5 _ m6 I3 I7 I6.free hn6 qn
  ·refine wpAny_mono (T.item (blk X N scope cl s3.heap.objs.size s3 (upd H2 s2.heap.objs.size (.lst [])) fp pz) rfl rfl rfl hc k [] s5 σ5 H5 _ I5 (fpB fr5) st5 go) (fun r s6 h6=>?_) fun _ _ z=>z
   obtain⟨u,hr,h6⟩:=h6
   subst hr
   show wpAny _ _ (pure () >>= fun _=>assign (.Name x px) (compEnvC scope cl s3.heap.objs.size X.env) u) _ _ s6
   refine wpAny_bind (wpAny_mono (show wpAny _ _ (pure ()) _ _ s6 from h6) (fun _ s7 h7=>?_) fun _ _ z=>z)
   obtain⟨v,H7,I7,r7,y7,st7,fr7⟩:=h7
   have I7':=I7.pinned (fpB fr7) (T.obj _ _ st7)
   refine wpAny_assign_Name (nB (X:=blk X N scope cl s3.heap.objs.size s3 (upd H2 s2.heap.objs.size (.lst [])) fp pz) I7' B.nd B.ix (.inl (lookup_relabel_local B.loc)) r7 (fun s8 I8=>?_) (.inr (lookup_relabel_local B.loc)))
   have back:∀{σ9:St} {H9:Hp} {s9:Shared},Inv (blk X N scope cl s3.heap.objs.size s3 (upd H2 s2.heap.objs.size (.lst [])) fp pz) ([]++rD fp s7.heap) σ9 H9 s9->(∃m',m'<n/\W (k+ 1) m' σ9 H9)->
     ∃m',m'<n/\∃k σ' H',Inv (blk X N scope cl s3.heap.objs.size s3 (upd H2 s2.heap.objs.size (.lst [])) fp pz) [] σ' H' s9/\tn k s9.heap/\(∀b∈fp,H' b=none)/\W k m' σ' H':=fun{σ9 H9 s9} I9 q9=>by
    obtain⟨m',hm,w9⟩:=q9
    refine⟨m',hm,k+ 1,σ9,H9,I9.unpinned,T.keep _ _ _ st7 fun b hb o e=>(I9.pin (b,o) (ay _ (ay _ (jW hb e)))).1,fun b hb=>?_,w9⟩
    obtain⟨o,e,d⟩:=T.obj _ _ st7 b hb
    exact(I9.pin (b,o) (ay _ (ay _ (jW hb e)))).2.1
   refine wpAny_mono (htt _ _ _ _ _ _ s8 _ H7 _ I8 (step v H7 y7)) (fun ok s9 h9=>?_) fun _ _ z=>False.elim z
   obtain⟨H9,I9,q9⟩:=h9
   cases ok with
   |false=>
    rw[fZ eP]
    rw[fZ eP]at q9
    exact back I9 q9
   |true=>
    rw[gx rfl]
    rw[gx rfl]at q9
    refine wpAny_mono (hte _ _ _ _ _ _ s9 _ H9 _ I9 q9) (fun y s10 h10=>?_) fun _ _ z=>False.elim z
    obtain⟨v10,H10,I10,r10,xs,hx10,hz,q10⟩:=h10
    refine wpAny_mono (gr (X:=blk X N scope cl s3.heap.objs.size s3 (upd H2 s2.heap.objs.size (.lst [])) fp pz) _ s10 _ H10 (.ref s2.heap.objs.size) [v10] _ [y] (fun _ H11=>H11=upd H10 s2.heap.objs.size (.lst (xs++[v10]))) I10 rfl (.cons r10 .nil) ⟨_,xs,v10,rfl,rfl,hx10,hz,rfl⟩) (fun _ s11 h11=>?_) fun _ _ z=>False.elim z
    obtain⟨_,H11,I11,_,e11⟩:=h11
    subst e11
    exact back I11 q10
 exact codeAny_compStart_list (loop _ rfl) (T.self _ 0 _ _ _ st4 (loop _ rfl))
theorem uh {X:Cx} {elt iter:Expr} {x:Str} {px:Pos} {ifs:List Expr} {scope:Scope} {pos:Pos} {N:List Str} {cl:List (Str×Addr)} {f:St->St} {i:Nat} {wi:TI} {tt:TT} {te:TE}
  (hc:X.calm=true) (B:p7 X N scope cl f i x) (hi:PI X (.Name x px) iter wi)
  (htt:∀C s₀ H₀ ex pz,PTs (blk X N scope cl C s₀ H₀ ex pz) ifs tt) (hte:∀C s₀ H₀ ex pz,PE (blk X N scope cl C s₀ H₀ ex pz) elt te)
  (hs:autoParam (∀x,foldedSetIterable iter X.env x=pure x) L2.Internal.auI._auto_1):PE X (.ListComp elt [⟨.Name x px,iter,ifs,0⟩] scope pos) (tLC wi f i tt te):=by
 intro pz s σ H Q I h
 rw[eval_ListComp]
 refine za hc B hi htt hte hs I h fun fl s3 s6 H3 H5 d m I3 I7 fr hn qn=>?_
 refine⟨m,hn,fun h' sb=>⟨.ref d,H5,?_,rfl,qn⟩⟩
 exact Inv.turned (h':=h') (t':=s6.toks) (it:=s3.heap.objs.size) I7 (fun b o hb e=>(sb.2 b hb).trans e) fr (cy I3.lt) (.inr I3.sz) (fun z c e q=>by
  obtain⟨v,q2⟩:=I3.cell z c e
  exact absurd (q▸q2.lt) (cq _)) fun p hp q=>absurd (q▸ff (I3.pin p hp).1) (cq _)
theorem D0 {J:It} {xs:List V} {i:Nat} {tt:TT} {te:TE} {Q:VK} {τ:St} {H1:Hp} {D:Addr} (p:V->Bool) (g:V->V) (hD:H1 D=none) (hz:xs.length<=sizeLine) (hτ:τ.set i none=τ)
  (hgo:∀k H,fW H1 H->k<xs.length->J.go k H) (hy:∀k H v H',fW H1 H->J.yld k H v H'->H'=H/\xs[k]?=some v) (hst:∀H,fW H1 H->J.stop xs.length H)
  (htt:∀(k:Nat) v H R,xs[k]?=some v->fW H1 H->R (p v) H->tt (τ.set i (some v)) H R)
  (hte:∀(k:Nat) v H R,xs[k]?=some v->p v=true->fW H1 H->R (g v) H->te (τ.set i (some v)) H R)
  (hq:∀H',fW H1 H'->H' D=some (.lst ((xs.filter p).map g))->Q (.ref D) H'):LcP J i tt te Q τ H1 D:=by
 have sm:∀o,fW H1 (upd H1 D o):=fun o b u e=>by rw[fO (fJ e hD)];exact e
 refine⟨fun k m σ' H2=>m=xs.length-k/\k<=xs.length/\(∃o,σ'=τ.set i o)/\H2=upd H1 D (.lst (((xs.take k).filter p).map g)),⟨xs.length,by simp,cA _,⟨none,hτ.symm⟩,by simp⟩,?_⟩
 rintro k m σ' H2 ⟨rfl,hk,⟨o,rfl⟩,rfl⟩
 by_cases hlt:k<xs.length
 ·refine .inr ⟨hgo k _ (sm _) hlt,fun v H3 y=>?_⟩
  obtain⟨e,hv⟩:=hy k _ v H3 (sm _) y
  subst e
  rw[bp]
  refine htt k v _ _ hv (sm _) ?_
  have tk:(xs.take (k+ 1)).filter p=(xs.take k).filter p++(if p v then[v]else[]):=take_succ_filter p xs k v hv
  have ll:((xs.take k).filter p).length<=k:=by
   refine cw (bq _ _) ?_
   rw[aI]
   lia
  cases hp:p v with
  |true=>
   rw[gx rfl]
   refine hte k v _ _ hv hp (sm _) ?_
   refine⟨_,fC,by rw[aC];lia,xs.length-(k+ 1),by lia,rfl,hlt,⟨some v,rfl⟩,?_⟩
   rw[yq,tk,hp,gx rfl,bh]
   rfl
  |false=>
   rw[fZ eP]
   refine⟨xs.length-(k+ 1),by lia,rfl,hlt,⟨some v,rfl⟩,?_⟩
   rw[tk,hp,fZ eP,aD]
 ·have e:k=xs.length:=by lia
  subst e
  refine .inl ⟨hst _ (sm _),hq _ (sm _) ?_⟩
  rw[fC,br]
section
variable {X:Cx}
theorem AL {bs:List Bool}:∀{us:List Value},ik (bs.map V.bl) us->us=bs.map Value.bool:=by
 induction bs with
 |nil=>intro us r;rw[aU]at r;cases r;rfl
 |cons n ns ih=>
  intro us r
  rw[aB]at r
  cases r with
  |cons r1 r2=>
   cases(show _=Value.bool n from r1)
   rw[ih r2]
   rfl
theorem xO (bs:List Bool):((aa bs.length).all fun i=>(bs[i]?).getD true)=bs.all id:=by
 induction bs with
 |nil=>rfl
 |cons b r ih=>
  rw[az,bu,aY,bw,aY,<-ih]
  rfl
theorem xP {h h':Heap} {o:Obj} (hk:∀b x,b∉[h.objs.size]->(h.push o).get? b=some x->h'.get? b=some x):∀b x,h.get? b=some x->h'.get? b=some x:=
 fun b x e=>hk b x (fun hm=>by rw[bf.mp hm]at e;exact cq _ (ff e)) (fh _ e)
theorem wq (hc:X.calm=true):mI X (.builtin "all") (fun xs H Q=>∃(a:Addr) (bs:List Bool),xs=[.ref a]/\SqL X.K H a (bs.map V.bl)/\Q (.bl (bs.all id)) H):=by
 intro pz s σ H xs us Q I r h
 obtain⟨a,bs,rfl,ha,q⟩:=h
 obtain⟨u,rfl,ru⟩:=lH r
 cases ru
 obtain⟨its,rv,pl,hz⟩:=I.list ha
 have ei:=AL rv
 subst ei
 have hl:s.heap.IsList a (bs.map Value.bool).toArray:=pl.isList
 have hlt:a<s.heap.objs.size:=by obtain⟨_,e,_⟩:=hl;exact ff e
 refine call_all_walk (wpAny_pyIter_list hl ?_)
 refine⟨s.heap.objs.size,[s.heap.objs.size,a],[s.heap.objs.size],(bs.map Value.bool).toArray.size,_,_,fun i=>(bs[i]?).getD true,rfl,Walks.list (A:=X.A.in1) (I.ok.hd hc) _ a (cu hlt) (bs.map Value.bool).toArray,
  ⟨⟨_,fg _ rfl,rfl,rfl⟩,hl.push _⟩,fun i v s' Q' E' hP hQ=>?_,fun h' tk hk=>?_⟩
 ·have hv:(bs.map Value.bool)[i]?=some v:=by simpa using hP
  rw[aM]at hv
  cases e:bs[i]? with
  |none=>rw[e]at hv;cases hv
  |some b=>
   rw[e]at hv
   have e2:v=Value.bool b:=(cX.inj hv).symm
   subst e2
   simp only[e,Option.getD_some]at hQ
   exact wpAny_truthy_bool hQ
 ·have e:((aa (bs.map Value.bool).toArray.size).all fun i=>(bs[i]?).getD true)=bs.all id:=by
   rw[aV,aC];exact xO bs
  rw[e]
  exact⟨.bl (bs.all id),H,I.kept (xP hk),rfl,q⟩
def rSlS:V->Option Int->Option Int->Hp->VK->Prop:=fun x lo hi H Q=>∃z,x= .str z/\z.length<=sizeLine/\Q (.str (Txt.slice z lo hi)) H
theorem By:SlR X rSlS:=by
 intro pz s σ H x v vl vu lo hi sl Q I rx hs pl pu h
 obtain⟨z,rfl,hz,q⟩:=h
 obtain⟨t,rfl⟩:=rx
 refine⟨"str",_,F.slot_str_getitem.lookup,typeIs_str _ _ _,?_⟩
 have fin:∀t' k,EP X pz σ Q (.str (Txt.slice z lo hi) t') {s with toks:=k}:=fun t' k=>⟨.str _,H,I.tok k,⟨t',rfl⟩,q⟩
 cases pl with
 |none=>
  cases pu with
  |none=>exact wpAny_getItem_str_slice (l:=none) (u:=none) (st:=none) hs rfl (post_val_or_str ⟨cw (Txt.slice_le z _ _) hz,fun t' k=>fin t' k⟩)
  |int j u=>exact wpAny_getItem_str_slice (l:=none) (u:=some (j,u)) (st:=none) hs rfl (post_val_or_str ⟨cw (Txt.slice_le z _ _) hz,fun t' k=>fin t' k⟩)
 |int i u'=>
  cases pu with
  |none=>exact wpAny_getItem_str_slice (l:=some (i,u')) (u:=none) (st:=none) hs rfl (post_val_or_str ⟨cw (Txt.slice_le z _ _) hz,fun t' k=>fin t' k⟩)
  |int j u=>exact wpAny_getItem_str_slice (l:=some (i,u')) (u:=some (j,u)) (st:=none) hs rfl (post_val_or_str ⟨cw (Txt.slice_le z _ _) hz,fun t' k=>fin t' k⟩)
theorem jG:mI X (.builtin "isinstance") (fun xs H Q=>∃x v c t b,xs=[x,v]/\(∀u,iq v u->u=c)/\vf X.K H x t/\dF X.K t c=some b/\Q (.bl b) H):=by
 intro pz s σ H xs us Q I r h
 obtain⟨x,v,c,t,b,rfl,hc,ht,hk,q⟩:=h
 obtain⟨u,u',rfl,ru,ru'⟩:=B3 r
 cases hc u' ru'
 exact yJ I ru ht hk fun tk=>⟨.bl b,H,I.tok tk,rfl,q⟩
end
section
variable {X:Cx}
open Builtin Builtin.Str in
theorem D1 {prog:Program} {w:World} {A:Around} {E:Value->Shared->Prop} {s:Shared} {x y:Str} {t u:Tok} {Q:Value->Shared->Prop} (hy:(y.length==0)=false)
  (h:∀l k,l.map (·.1)=Txt.split x y->Q (.ref s.heap.objs.size) {s with heap:=s.heap.push {cls:= .type "list",data:= .seq (strValues l).toArray},toks:=k}) (hsz:x.length+ 2<=sizeLine):
  wpAny (model prog w) A (call (.builtin "str.split") [.str x t,.str y u]) Q E s:=by
 have hn:(partsBetween x (occurrences x y 0 x.length (x.length+ 1)) y.length).length<=sizeLine:=by
  have e1:=StrLaws.occ_length_le x y 0 x.length (x.length+ 1)
  rw[length_partsBetween];lia
 cases h1:(decide (x.length<y.length)||decide (strKind x<strKind y))
 ·cases hf:(occurrences x y 0 x.length (x.length+ 1)).isEmpty
  ·refine call_meets F.slot_str_split (typeIs_str _ _ _) F.entry_str_split (F.args_str_split_2 _ _) (meets_str_split_sep x y t u h1 hy hf (by lia) hn) ?_
   show wants Q E _ {s with toks:=_,heap:=s.heap.push {cls:= .type "list",data:= .seq (strsFrom s.toks (partsBetween x (occurrences x y 0 x.length (x.length+ 1)) y.length)).toArray}}
   rw[strsFrom_eq]
   exact h (numbered s.toks _) _ ((numbered_texts _ _).trans ((fZ (ne_true_of_eq_false h1)).trans (fZ (ne_true_of_eq_false hf))).symm)
  ·exact call_meets F.slot_str_split (typeIs_str _ _ _) F.entry_str_split (F.args_str_split_2 _ _) (meets_str_split_not_found x y t u h1 hy hf)
    (h [(x,t)] s.toks ((fZ (ne_true_of_eq_false h1)).trans (gx hf)).symm)
 ·exact call_meets F.slot_str_split (typeIs_str _ _ _) F.entry_str_split (F.args_str_split_2 _ _) (meets_str_split_cannot_occur x y t u h1)
   (h [(x,t)] s.toks (gx h1).symm)
theorem ui:∀l:List (Str×Tok),ik ((l.map (·.1)).map V.str) (strValues l)
 |[]=> .nil
 |p::r=> .cons ⟨p.2,rfl⟩ (ui r)
theorem p8 (x y:Str):(Txt.split x y).length<=x.length+ 2:=by
 unfold Txt.split
 split
 ·show 1<=_;lia
 ·split
  ·show 1<=_;lia
  ·have e1:=StrLaws.occ_length_le x y 0 x.length (x.length+ 1)
   rw[length_partsBetween];lia
def D3:V->List V->Hp->VK->Prop:=fun x xs H Q=>∃z y,x= .str z/\xs=[.str y]/\(y.length==0)=false/\z.length+ 2<=sizeLine/\∀l,H l=none->Q (.ref l) (upd H l (.lst ((Txt.split z y).map V.str)))
theorem AM:MtR X "str.split" D3:=by
 intro pz s σ H x xs v us Q I rx rs h
 obtain⟨z,y,rfl,rfl,hy,hz,q⟩:=h
 obtain⟨t,rfl⟩:=rx
 obtain⟨u,rfl,ru⟩:=lH rs
 obtain⟨t',rfl⟩:=ru
 refine D1 hy (fun l k hl=>?_) hz
 have hv:=ui l
 rw[hl]at hv
 exact⟨.ref s.heap.objs.size,_,I.lnew hv (by rw[aC];exact cw (p8 z y) hz),rfl,q _ I.fresh⟩
def PE1 (X:Cx) (e:Expr) (t:TE):Prop:=
 ∀(pz:List (Addr×Obj)) (s:Shared) (σ:St) (H:Hp) (Q:VK),Inv X pz σ H s->1<=s.toks->t σ H Q->wpAny (model X.prog X.w) X.A (eval e X.env) (fun u s'=>1<=s'.toks/\EP X pz σ Q u s') X.xe s
theorem PE.one {e:Expr} {t:TE} (h:PE X e t):PE1 X e t:=fun pz s σ H Q I ht hw=>wpAny_mono (wpAny_toks_of ht (h pz s σ H Q I hw)) (fun _ _ z=>z) fun _ _ z=>z.2
def FZ (to:TE) (y z:Str):TE:=fun σ H Q=>to σ H fun v H1=>∃x,v= .str x/\x.length+(x.length+ 1)*z.length<=16777216/\Q (.str (Txt.replace x y z)) H1
theorem sk {o:Expr} {to:TE} {y z:Str} {k1 k2 p1 p2 apos cpos} (ho:PE1 X o to) (hyz:(y==z)=false)
  (hbase:autoParam (attributeBase o "replace" X.env (eval o X.env)=eval o X.env) L2.Internal.auR._auto_1)
  (hfew:((backTo cpos (starEach [.Constant (.str y) k1 p1,.Constant (.str z) k2 p2] X.env)).all (fun x=>!x.1)&&(backToKw cpos (keywordEach [] X.env)).all (fun x=>x.1.isSome)
   &&decide (([.Constant (.str y) k1 p1,.Constant (.str z) k2 p2]:List Expr).length+([]:List Keyword).length+(if([]:List Keyword).isEmpty then 0 else 1)<30))=true:=by rfl)
  (hline:autoParam ((apos.endLine==cpos.line)=true) L2.Internal.auR._auto_1):PE1 X (.Call (.Attribute o "replace" apos) [.Constant (.str y) k1 p1,.Constant (.str z) k2 p2] [] cpos) (FZ to y z):=by
 intro pz s σ H Q I ht h
 refine wpAny_Call_method_late hbase hfew hline rfl (thn (ho pz s σ H _ I ht h) fun v s1 q1=>?_)
 obtain⟨ht1,v1,H1,I1,r1,x,rfl,hb,q⟩:=q1
 obtain⟨t,rfl⟩:=r1
 refine⟨"str","str.replace",F.plainAttrs_str,F.slot_str_replace,F.type_str_replace,typeIs_str _ _ _,(fun _ e=>nomatch e),?_⟩
 refine Calls.callWith_builtin rfl (Calls.evalArgs_plain ?_)
 show wpAny _ _ (spliced ((false,eval (.Constant (.str y) k1 p1) X.env)::backTo cpos (starEach [.Constant (.str z) k2 p2] X.env))) _ _ s1
 refine Calls.spliced_cons (Calls.Constant_str ?_)
 show wpAny _ _ (spliced ((false,eval (.Constant (.str z) k2 p2) X.env)::backTo cpos (starEach [] X.env))) _ _ _
 refine Calls.spliced_cons (Calls.Constant_str (Calls.spliced_nil ?_))
 refine wpAny_mono (wpAny_toks_of (n:=1) (by show 1<=s1.toks+ 1+ 1;lia) (SC.replace (Q:=EP X pz σ Q) (E:=X.xe) (u:=s1.toks) (v:=s1.toks+ 1) (Nat.pos_iff_ne_zero.mp ht1) (Nat.succ_ne_zero _) (cu (cB _)) hyz hb fun t' k=>⟨.str _,H1,?_,⟨t',rfl⟩,q⟩)) (fun _ _ z=>z) fun _ _ z=>z.2
 exact I1.tok k
def Dv (X:Cx) (st:List Stmt) (t:TS):Prop:=
 ∀(pz:List (Addr×Obj)) (s:Shared) (σ:St) (H:Hp) (D:qN),Inv X pz σ H s->1<=s.toks->t D σ H->wpAny (model X.prog X.w) X.A (execs st X.env) (SP X pz D) X.xe s
theorem AN {i:Nat} {x:Str} {e:Expr} {te:TE} {pos pos':Pos} {rest:List Stmt} {u:TS} (hN:X.N.Nodup) (hi:X.N[i]?=some x) (hx:Loc X.env.scope x) (he:PE1 X e te) (hr:PSs X rest u)
  (hs:autoParam (swapsWith e (some (.Name x pos')) pos.line X.env=pure false) L2.Internal.auR._auto_1) (hf:autoParam (X.fn x=true\/X.env.scope.names.lookup x=some .local) L2.Internal.auL._auto_1):
  Dv X (.Assign [.Name x pos'] e pos::rest) (ym (DG te (gJ i)) u):=by
 intro pz s σ H D I ht h
 refine wpAny_execs_cons (wpAny_Assign_Name (thn (he pz s σ H _ I ht h) fun v s1 q1=>?_) hs)
 obtain⟨_,y,H1,I1,r1,q⟩:=q1
 exact nB I1 hN hi hx r1 (fun s2 I2=>hr pz s2 _ H1 D I2 q) hf
theorem Dv.nox {st:List Stmt} {t:TS} (h:Dv X.nox st t):Dv X st t:=fun pz s σ H D I ht hw=>
 wpAny_mono (h pz s σ H D (I.wish _) ht hw) (fun _ _ q=>q.unwish) fun _ _ z=>False.elim z
end
theorem D4 {CX:CXT} {P:Program} {w:World} {K:PySem.W.Frag} {mg:Str->Option Value} {base:Heap} {k:Nat} {f:Addr} {name qual p:Str} {params:Arguments} {body:List Stmt} {scope:Scope} {dV kV doc pm cdv ct oc:Value} {an od:Option Addr}
  {osl:Array (Option Value)} {N:List Str} {sp:Sp} (lk:K.lookup f=some ⟨oc,od,.func (dO name qual params body scope dV kV doc pm an cdv ct),osl⟩) (hcd:dP K cdv qual=true) (S:fS N [p] scope)
  (nc:∀x∈scope.names,x.2≠ .cell) (nc2:∀n,cellsFrom n scope.names []=[]) (len:∀vs H Q E,sp vs H Q E->vs.length=1)
  (hbody:∀(A:Around) (outer:List Env) (s:Shared) (H:Hp) (vs:List V) (Q:VK) (E:XK),mj k (A.deeper (envOfC qual scope s.heap.objs.size f cdv))->sp vs H Q E->
   ∃t,Dv (uY CX P w K mg base N qual scope f cdv A outer s H E) body t/\t {nx:=fun _ H'=>Q .non H',rt:=Q} (oe N vs) H):
  pT P w K mg base CX (k+ 1) f (dO name qual params body scope dV kV doc pm an cdv ct) [p] sp:=by
 refine⟨len,fun A outer s H args us vs Q E hr e0 hb r hsp=>?_⟩
 have hl:=len _ _ _ _ hsp
 have hul:us.length=1:=by rw[<-r.length];exact hl
 obtain⟨u,rfl⟩:∃u,us=[u]:=by
  match us,hul with
  |[u],_=>exact⟨u,rfl⟩
 have KX:K.In s.heap:=e0.mod.kin.keeps fun b o e=>(e0.bs b o e).1
 have lim:s.heap.NoLimit:=e0.mod.nolimit.keeps fun b o e=>(e0.bs b o e).1
 have hpl:scope.names.lookup p=some .local:=by
  rcases S.par p (by simp)with q|q
  ·exact q
  ·exact absurd rfl (nc _ (PySem.mem_of_lookup q))
 refine codeAny_call_function hr.depth (KX _ _ lk) rfl S.co S.gen rfl (dQ KX hcd) (hb _ _ _ _ ?_)
 refine wpAny_newFunctionEnv nc (fun x hx=>?_) (fun h' hn hs=>?_) S.kind
 ·have e:x=(p,u):=by simpa using hx
  rw[e]
  exact hpl
 have keep:∀b o,s.heap.get? b=some o->h'.get? b=some o:=fun b o e=>hs.extBut b o (cu (ff e)) (fh _ e)
 refine⟨lim.keeps keep,codeAny_func ?_⟩
 obtain⟨t,ht,hq⟩:=hbody A outer s H vs Q E (hr.deeper _) hsp
 have em:(fun x=>(bx [p] [u]).reverse.lookup x)=bindL (envOfC qual scope s.heap.objs.size f cdv).kindOf (bx [p] [u]) fun _=>none:=by
  funext x
  show(match x==p with|true=>some u|false=>none)=(if(envOfC qual scope s.heap.objs.size f cdv).kindOf p=some .local then fun y=>if y=p then some u else none else fun _=>none) x
  rw[gx (show(envOfC qual scope s.heap.objs.size f cdv).kindOf p=some .local from hpl)]
  cases e:x==p with
  |true=>rw[gx (eq_of_beq e)]
  |false=>rw[fZ (ne_of_beq_false e)]
 have x:InCallC s s.heap.objs.size (bindL (envOfC qual scope s.heap.objs.size f cdv).kindOf (bx [p] [u]) fun _=>none) (cellsFrom (s.heap.objs.size+ 1) scope.names []) (bindC (envOfC qual scope s.heap.objs.size f cdv).kindOf (bx [p] [u]) fun _=>none)
   {s with heap:=h',toks:=s.toks+(bx [p] [u]).length}:=by
  rw[nc2]
  refine⟨⟨⟨h',_,rfl⟩,?_,keep,cz _⟩,fun n c e=>by simp at e,List.Pairwise.nil,fun n c e=>by simp at e⟩
  rw[<-em]
  exact hn
 have I:Inv (uY CX P w K mg base N qual scope f cdv A outer s H E) [] (oe N vs) H {s with heap:=h',toks:=s.toks+(bx [p] [u]).length}:=tW S hr.hd e0 hl r x
 have eenv:newEnv (dO name qual params body scope dV kV doc pm an cdv ct).scope s.heap.objs.size (dO name qual params body scope dV kV doc pm an cdv ct).globals (dO name qual params body scope dV kV doc pm an cdv ct).closure
   ((dO name qual params body scope dV kV doc pm an cdv ct).qualname++".<locals>.") (some f) (dO name qual params body scope dV kV doc pm an cdv ct).code none (dO name qual params body scope dV kV doc pm an cdv ct).builtins=envOfC qual scope s.heap.objs.size f cdv:=by
  unfold envOfC
  rw[nc2]
  rfl
 rw[eenv]
 have go:=ht [] _ (oe N vs) H _ I (by show 1<=s.toks+ 1;lia) hq
 refine wpAny_mono go (fun fl s' hs=>?_) fun e s' hs=>hs
 have fin:∀{σ':St} {H':Hp} {v:V} {u:Value},Inv (uY CX P w K mg base N qual scope f cdv A outer s H E) [] σ' H' s'->iq v u->Q v H'->CE outer P w H s Q u s':=
  fun{σ' H' v u} J rv q=>⟨v,H',J.os,J.bare,J.base,J.hok,rv,q⟩
 cases fl with
 |ret u=>
  obtain⟨v,σ',H',J,rv,q⟩:=hs
  exact fin J rv q
 |next=>
  obtain⟨σ',H',J,q⟩:=hs
  exact fin (v:=V.non) (u:=Value.none) J rfl q
 |brk=>
  obtain⟨_,_,_,q⟩:=hs
  exact False.elim q
 |cont=>
  obtain⟨_,_,_,q⟩:=hs
  exact False.elim q
section
variable {X:Cx} {st:Stmt} {rest:List Stmt} {t u:TS}
end
section
variable {P:Program} {w:World} {H H':Hp} {h h':Heap} {a:Addr} {o:HO}
theorem jn.there (x:jn P w H h a o):∃ob,h.get? a=some ob:=by
 cases o with
 |lst xs=>obtain⟨_,_,_,_,e⟩:=x;exact⟨_,e⟩
 |tup xs=>obtain⟨_,_,_,⟨ob,e,_⟩⟩:=x;exact⟨ob,e⟩
 |dK kvs=>obtain⟨_,_,_,_,ob,_,_,e,_⟩:=x;exact⟨ob,e⟩
 |dT kvs=>obtain⟨_,_,_,_,ob,_,_,e,_⟩:=x;exact⟨ob,e⟩
 |set S n=>obtain⟨ob,_,_,_,e,_⟩:=x;exact⟨ob,e⟩
 |ins C dx fs=>obtain⟨_,_,_,e,_⟩:=x;exact⟨_,e⟩
 |own y=>exact x
 |xd fs=>obtain⟨_,⟨ob,_,_,e,_⟩,_⟩:=x;exact⟨ob,e⟩
 |rng lo hi=>obtain⟨_,_,_,e⟩:=x;exact⟨_,e⟩
 |frz ob u=>obtain⟨e,_⟩:=x;exact⟨_,e⟩
 |tbl ps=>exact⟨_,x⟩
 |met f y=>exact⟨_,x⟩
 |ext φ=>exact x.2.1
end
structure Fl (P:Program) (w:World) (outer:List Env) (H:Hp) (s:Shared) (B:Heap) (H':Hp) (s':Shared):Prop where
 os:s'.os=s.os
 bare:AllBare s'.gens
 un:Un (frs outer) [] H H' s.heap s'.heap
 hok:HOk P w H' s'.heap
 stay:B.StaysIn s'.heap
 trk:∀b u,H' b=some u->∃o,B.get? b=some o
 old:∀b o,s.heap.get? b=some o->b∉frs outer->∃o',B.get? b=some o'
def CXE (P:Program) (w:World):CXT:=fun outer H s E e s'=>∃(ea:Addr) (cls a0:Value) (B:Heap) (H':Hp),e= .ref ea/\Fl P w outer H s B H' s'/\Heap.FlyingW B outer ea cls a0 s'.heap/\E cls none H'
section
variable {X:Cx} {pz:List (Addr×Obj)} {σ:St} {H H':Hp} {s s':Shared} {B h:Heap}
theorem Inv.nst (I:Inv X pz σ H s) {b:Addr} (h1:b≠X.env.locals) (h2:b∉X.fs):b∉frs X.stack:=fun hb=>(ak.mp (I.stkSub b hb)).elim h1 h2
theorem Inv.oldNe (I:Inv X pz σ H s) {b:Addr} {o:Obj} (e:X.s₀.heap.get? b=some o):b≠X.env.locals:=cu (cn (ff e) I.ok.above)
theorem Inv.flown (I:Inv X pz σ H s) (F:Fl X.prog X.w X.stack H s B H' s') (st:B.StaysIn h) (up:s'.heap.UpToSlots h):Inv X pz σ H' {s' with heap:=h}:=by
 have J:Inv X pz σ H' s':=I.call' (ch:=[]) F.os F.un F.hok F.bare (fun b hb=>nomatch hb)
 have ex:∀b o o0,s'.heap.get? b=some o->s.heap.get? b=some o0->b∉frs X.stack->h.get? b=some o:=fun b o o0 e e0 hb=>by
  obtain⟨o1,e1⟩:=F.old b o0 e0 hb
  have e2:=F.stay b o1 e1
  rw[e]at e2
  cases e2
  exact st b o e1
 have fr:∀b o,b∈frs X.stack->s'.heap.get? b=some o->∃sl,h.get? b=some {o with slots:=sl}:=fun b o hb e=>by
  obtain⟨_,o1,e1,hd⟩:=J.stack.mem hb
  rw[e]at e1
  cases e1
  exact up b o e hd
 have cellK:∀c v,s'.heap.IsCell c v->h.IsCell c v:=fun c v ⟨o,ho,hd⟩=>by
  obtain⟨sl,e⟩:=up c o ho (fun vs z=>by rw[hd]at z;cases z)
  exact⟨_,e,hd⟩
 refine⟨J.ok,J.os,J.bare,⟨fun b o e n hf hx=>?_,fun b o e n hf hx=>?_,J.base.free,fun b o e hx=>?_,J.base.tups,J.base.frzs,J.base.tbls⟩,?_,fun y c e=>?_,J.free,J.freeC,fun p hp=>?_,fun b u e=>?_,J.len⟩
 ·exact ex b o o (J.base.keep b o e n hf hx) (I.base.keep b o e n hf hx) (I.nst (I.oldNe e) hf)
 ·obtain⟨sl,e1⟩:=J.base.slot b o e n hf hx
  obtain⟨_,o1,e2,hd⟩:=J.funs.mem hf
  rw[e1]at e2
  cases e2
  obtain⟨sl',e3⟩:=up b _ e1 hd
  exact⟨sl',e3⟩
 ·obtain⟨o',e1⟩:=J.base.there b o e hx
  by_cases hb:b∈frs X.stack
  ·obtain⟨sl,e2⟩:=fr b o' hb e1
   exact⟨_,e2⟩
  ·obtain⟨o0,e0⟩:=I.base.there b o e hx
   exact⟨o',ex b o' o0 e1 e0 hb⟩
 ·obtain⟨m,hn,hl⟩:=J.loc
  refine⟨m,up.ns hn,fun i x v e1 e2 e3=>?_⟩
  obtain⟨u,r,l⟩:=hl i x v e1 e2 e3
  refine⟨u,r,?_⟩
  rcases l with l|⟨k,c,e,z⟩
  ·exact .inl l
  ·exact .inr ⟨k,c,e,cellK _ _ z⟩
 ·obtain⟨v,z⟩:=J.cell y c e
  exact⟨v,cellK _ _ z⟩
 ·obtain⟨e,n,ne,nf,d⟩:=J.pin p hp
  exact⟨ex p.1 p.2 p.2 e (I.pin p hp).1 (I.nst ne nf),n,ne,nf,d⟩
 ·refine(J.hok b u e).stay (fun c v hc q=>?_) (fun _ z=>z) fun _ _ z=>z
  have tr:∃u',H' c=some u':=by
   rcases hc with z|z
   ·rw[z];exact⟨u,e⟩
   ·exact⟨_,z⟩
  obtain⟨u',hu⟩:=tr
  obtain⟨o1,e1⟩:=F.trk c u' hu
  have e2:=F.stay c o1 e1
  rw[q]at e2
  cases e2
  exact st c v e1
theorem Inv.track {ea:Addr} {o:HO} (I:Inv X pz σ H s) (hn:H ea=none) (h0:X.s₀.heap.get? ea=none) (hL:ea≠X.env.locals) (hC:∀x c,X.env.cells.lookup x=some c->c≠ea) (hP:∀p∈X.pn++pz,p.1≠ea)
  (new:jn X.prog X.w (upd H ea o) s.heap ea o):Inv X pz σ (upd H ea o) s:=by
 have ne:∀b u,H b=some u->b≠ea:=fun b u e z=>by rw[z,hn]at e;cases e
 refine⟨I.ok,I.os,I.bare,⟨I.base.keep,I.base.slot,fun b ob e n hx=>?_,I.base.there,fun b xs e=>?_,fun b ob u e=>?_,fun b ps e=>?_⟩,I.loc,I.cell,?_,fun x c e=>?_,fun p hp=>?_,fun b u e=>?_,I.len⟩
 ·rw[fO (fun z=>by rw[z,h0]at e;cases e)]
  exact I.base.free b ob e n hx
 ·have e1:=I.base.tups b xs e
  rw[fO (ne b _ e1)]
  exact e1
 ·have e1:=I.base.frzs b ob u e
  rw[fO (ne b _ e1)]
  exact e1
 ·obtain⟨more,e1⟩:=I.base.tbls b ps e
  exact⟨more,by rw[fO (ne b _ e1)];exact e1⟩
 ·rw[fO (Ne.symm hL)]
  exact I.free
 ·rw[fO (hC x c e)]
  exact I.freeC x c e
 ·obtain⟨e,n,n2,nf,d⟩:=I.pin p hp
  exact⟨e,by rw[fO (hP p hp)];exact n,n2,nf,d⟩
 ·by_cases hb:b=ea
  ·subst hb
   rw[fC]at e
   cases e
   exact new
  ·rw[fO hb]at e
   exact(I.hok b u e).stay (fun _ _ _ q=>q) (fun c z=>by rw[fO (ne c _ z)];exact z) fun c xs z=>by rw[fO (ne c _ z)];exact z
end
section
variable {P:Program} {w:World} {K:PySem.W.Frag} {mg:Str->Option Value} {base:Heap} {N:List Str} {qual:Str} {scope:Scope} {f:Addr} {cd:Value} {A:Around} {outer:List Env} {s₀:Shared} {H₀:Hp} {E:XK}
theorem jI:mz (CXE P w) (uY (CXE P w) P w K mg base N qual scope f cd A outer s₀ H₀ E) E:=by
 intro pz σ H s e s' I hx
 obtain⟨ea,cls,a0,B,H',rfl,F,fl,q⟩:=hx
 show wpAny _ _ (leaving _ (.ref ea)) _ _ s'
 refine wpAny_leaves_onW (outer:=outer) I.ok.frames rfl fl fun h' fl' up=>?_
 have J:=I.flown F fl'.1 up
 refine⟨ea,cls,a0,B,H',rfl,⟨J.os,J.bare,J.base,J.hok,fl'.1,F.trk,fun b o e hb=>?_⟩,fl',q⟩
 obtain⟨o1,e1⟩:=I.base.there b o e (fun z=>nomatch z)
 exact F.old b o1 e1 (I.nst (I.oldNe e) hb)
theorem D5 {pz:List (Addr×Obj)} {σ:St} {H:Hp} {s:Shared} {h':Heap} {ea:Addr} {cls:Value} {vs:List Value}
  (I:Inv (uY (CXE P w) P w K mg base N qual scope f cd A outer s₀ H₀ E) pz σ H s) (hx:Heap.MadeExcOf s.heap h' ea cls vs) (q:E cls none H):
  (uY (CXE P w) P w K mg base N qual scope f cd A outer s₀ H₀ E).xe (.ref ea) {s with heap:=h'}:=by
 generalize hX:uY (CXE P w) P w K mg base N qual scope f cd A outer s₀ H₀ E=X at I
 have hst:X.stack=envOfC qual scope s₀.heap.objs.size f cd::outer:=by rw[<-hX];rfl
 have B1:∀b o,s.heap.get? b=some o->b∉frs X.stack->(di s.heap (frs X.stack)).get? b=some o:=fun b o e hb=>dj _ e hb
 have F:Fl X.prog X.w X.stack H s (di s.heap (frs X.stack)) H {s with heap:=h'}:=by
  refine⟨rfl,I.bare,Un.kept hx.keeps,I.hok.kept hx.keeps,fun b o e=>hx.keeps b o (dm _ e),fun b u e=>?_,fun b o e hb=>⟨o,B1 b o e hb⟩⟩
  obtain⟨ob,eo⟩:=(I.hok b u e).there
  exact⟨ob,B1 b ob eo fun hb=>by rw[I.stkFree b hb]at e;cases e⟩
 have fr:s.heap.FunFrames (di s.heap (frs X.stack)) X.stack:=PySem.W.funFrames_hide I.stack fun env he a ha=>ax.mpr ⟨env,he,ha⟩
 have hA:X.A.frames=some X.stack:=I.ok.frames
 rw[hst]at fr hA F B1
 subst hX
 show wpAny _ _ (leaving _ (.ref ea)) _ _ _
 refine wpAny_leaves_madeW (outer:=outer) hA rfl (fun b o e=>dm _ e) fr hx fun h'' t fl _ _ up=>?_
 have J:=I.flown F fl.1 up
 refine⟨ea,cls,_,_,H,rfl,⟨J.os,J.bare,J.base,J.hok,fl.1,F.trk,fun b o e hb=>?_⟩,fl,q⟩
 obtain⟨o1,e1⟩:=I.base.there b o e (fun z=>nomatch z)
 exact F.old b o1 e1 (I.nst (I.oldNe e) hb)
end
theorem Cq {K:PySem.W.Frag} {h:Heap} {C:Addr} {bmB:List Value} {newId:String} (hk:K.In h) (z:dR K C bmB newId=true):
  ∃bm N nm q bs hdct sn sub ab col dd k0 k1 k2 k3 k5 mN,h.get? C=some (excClassObj nm q C N bs bm hdct sn sub ab col dd k0 k1 k2 k3 k5 newId)/\h.Ns N mN/\mN "__init__"=none/\OwnTail h bmB bm:=by
 unfold dR at z
 split at z
 case h_2=>cases z
 rename_i d1 c1 l1 look
 split at z
 case h_2=>cases z
 rename_i C1 tail a0 a1 a2 a3 nid a5 hmro hslots
 simp only[eR,beq_iff_eq,Bool.not_eq_true']at z
 obtain⟨⟨⟨⟨⟨rfl,rfl⟩,z3⟩,z4⟩,z5⟩,z6⟩:=z
 obtain⟨x1,x2,x3,x4,x5,x6,x7,x8,x9,x10,x11⟩:=c1
 dsimp only at hmro z3 z5 z6
 subst hmro z3
 obtain⟨ll⟩:=l1
 have hll:ll=[a0,a1,a2,a3,some (.builtin nid),a5]:=hslots
 subst hll
 exact⟨tail,x4,x1,x5,x2,x6,x7,x8,x9,x10,d1,a0,a1,a2,a3,a5,_,hk _ _ look,.of_isNs (PySem.W.isNs_of_in hk z5),PySem.W.nsMap_none_of_in hk z5 z6,PySem.W.tail_of_in hk z4⟩
def Cr:List Value:=[.type "ValueError",.type "Exception",.type "BaseException",.type "object"]
abbrev Hg (K:PySem.W.Frag) (C:Addr):Prop:=dR K C Cr "ValueError.__new__"=true
section
variable {X:Cx} {C:Addr} {E:XK} {x:Str} {np cpos pos:Pos} {e:Expr} {es:List Expr} {t:TA}
def Bz (X:Cx) (E:XK):Prop:=∀(pz:List (Addr×Obj)) (σ:St) (H:Hp) (s:Shared) (h':Heap) (ea:Addr) (cls:Value) (vs:List Value),Inv X pz σ H s->Heap.MadeExcOf s.heap h' ea cls vs->E cls none H->X.xe (.ref ea) {s with heap:=h'}
theorem kS {P:Program} {w:World} {K:PySem.W.Frag} {mg:Str->Option Value} {base:Heap} {N:List Str} {qual:Str} {scope:Scope} {f:Addr} {cd:Value} {A:Around} {outer:List Env} {s₀:Shared} {H₀:Hp} {E:XK}:
  Bz (uY (CXE P w) P w K mg base N qual scope f cd A outer s₀ H₀ E) E:=fun _ _ _ _ _ _ _ _ I hx q=>D5 I hx q
def BA (C:Addr) (E:XK) (t:TA):TS:=fun _ σ H=>t σ H fun vs H1=>vs.length<=sizeLine/\E (.ref C) none H1
theorem jU (hc:X.calm=true) (hl:Bz X E) (xc:Hg X.K C) (hg:Gl X x) (hm:X.mg x=some (.ref C)) (ha:PA X (e::es) t) (hst:autoParam (starEach (e::es) X.env=(false,eval e X.env)::starEach es X.env) L2.Internal.auR._auto_1)
  (hpl:autoParam ((backTo cpos (starEach es X.env)).any (·.1)=false) L2.Internal.auR._auto_1) (hd:autoParam ((x==("__debug__":Str))=false) L2.Internal.auD._auto_1):PS X (.Raise (some (.Call (.Name x np) (e::es) [] cpos)) none pos) (BA C E t):=by
 intro pz s σ H D I h
 obtain⟨tl,N,nm,q,bs,hdct,sn,sub,ab,col,dd,k0,k1,k2,k3,k5,mN,hC,hN,hni,T⟩:=Cq I.mod.kin xc
 have kp:∀{s1:Shared} {H1:Hp},Inv X pz σ H1 s1->∀b o,X.base.get? b=some o->s1.heap.get? b=some o:=fun I1=>I1.bk
 refine wpAny_Raise_call_subT (C:=C) (nm:=nm) (q:=q) (N:=N) (bs:=bs) (bm:=tl) (hdct:=hdct) (sn:=sn) (sub:=sub) (ab:=ab) (col:=col) (dd:=dd) (k0:=k0) (k1:=k1) (k2:=k2) (k3:=k3) (k5:=k5)
  eC (mN:=mN) (T.hasType eC.hasBase) (I.ok.hd hc) ?_ hni (r6 I hg hm ⟨rfl,?_⟩ hd)
 ·rw[hst]
  show(false||(backTo cpos (starEach es X.env)).any (·.1))=false
  rw[hpl]
  rfl
 have h2:=ha cpos pz s σ H _ I h
 rw[hst]at h2⊢
 refine Calls.evalArgs_plain (wpAny_mono h2 (fun us s1 h3=>?_) fun _ _ z=>z)
 obtain⟨vs,H1,I1,r,hz,q1⟩:=h3
 refine⟨rfl,by rw[<-r.length];exact hz,kp I1 _ _ hC,hN.keeps (kp I1),T.keeps (kp I1),fun h' ea hx=>hl pz σ H1 s1 h' ea _ us I1 hx q1⟩
end
section
variable {P:Program} {w:World} {K:PySem.W.Frag} {mg:Str->Option Value} {base:Heap}
theorem Fun.okE {x qual:Str} {st:Stmt} {f:Addr} {fd:FuncData} {N ps:List Str} {k:Nat} {sp:Sp} (F:Fun K x qual st f fd) (S:fS N ps (fK st)) (len:∀vs H Q E,sp vs H Q E->vs.length=ps.length)
  (hbody:∀(cdv:Value) (A:Around) (outer:List Env) (s:Shared) (H:Hp) (vs:List V) (Q:VK) (E:XK),mj k (A.deeper (envOfC qual (fK st) s.heap.objs.size f cdv))->sp vs H Q E->
   ∃t,PSs (uY (CXE P w) P w K mg base N qual (fK st) f cdv A outer s H E) (jC st) t/\t {nx:=fun _ H'=>Q .non H',rt:=Q} (oe N vs) H):pT P w K mg base (CXE P w) (k+ 1) f fd ps sp:=by
 obtain⟨oc,od,kV,doc,pm,an,cdv,ct,osl,efd,lk,hcd⟩:=F.ex
 subst efd
 exact DQ lk hcd S len (fun A outer s H vs Q E hr h=>hbody cdv A outer s H vs Q E hr h)
end
section
variable {X:Cx} {pz:List (Addr×Obj)} {σ:St} {H:Hp} {s:Shared}
end
section
variable {X:Cx} {CX:CXT} {k:Nat} {f Y:Addr} {fd:FuncData} {ps:List Str} {sp:Sp} {dvs:List V} {ds:List Value} {E:XK} {x y n:Str} {p pos pos' py hpos tpos:Pos} {e:Expr} {es:List Expr} {t:TA} {b₀:Stmt} {body:List Stmt} {tb:TS} {i:Nat}
end
section
variable {X:Cx} {e:Expr} {es:List Expr} {te:TE} {pos:Pos}
def tFV (te:TE):TE:=fun σ H Q=>te σ H fun v H1=>(∃x,v= .str x/\x.length<=sizeLine/\Q (.str x) H1)\/∃i:Int,v= .int i/\i.natAbs.log2<1920/\Q (.str (toString i)) H1
theorem vo (he:PE X e te):PE X (.FormattedValue e (-1) none pos) (tFV te):=by
 intro pz s σ H Q I h
 refine wpAny_FormattedValue_plain (thn (he pz s σ H _ I h) fun u s1 ⟨v,H1,I1,r,q⟩=>?_)
 rcases q with⟨x,rfl,hz,q⟩|⟨i,rfl,hl,q⟩
 ·obtain⟨t,rfl⟩:=r
  exact formatField_str (fun t' tk=>⟨.str x,H1,I1.tok tk,⟨t',rfl⟩,q⟩) hz
 ·obtain⟨t,rfl⟩:=r
  exact wpAny_formatField_int hl ⟨.str _,H1,I1.tok _,⟨_,rfl⟩,q⟩
def tFVr (te:TE):TE:=fun σ H Q=>te σ H fun v H1=>∃x,v= .str x/\(reprText x).length<=sizeLine/\Q (.str (reprText x)) H1
theorem uj (he:PE X e te):PE X (.FormattedValue e 114 none pos) (tFVr te):=by
 intro pz s σ H Q I h
 refine wpAny_FormattedValue_repr (thn (he pz s σ H _ I h) fun u s1 ⟨v,H1,I1,r,q⟩=>?_)
 obtain⟨x,rfl,hz,q⟩:=q
 obtain⟨t,rfl⟩:=r
 exact wpAny_pyReprObj_str (formatField_str (fun t' tk=>⟨.str _,H1,I1.tok tk,⟨t',rfl⟩,q⟩) hz) hz
def PJ (X:Cx) (es:List Expr) (t:Str->TE):Prop:=
 ∀(pz:List (Addr×Obj)) (s:Shared) (σ:St) (H:Hp) (Q:VK) (acc:Str),Inv X pz σ H s->t acc σ H Q->wpAny (model X.prog X.w) X.A (joinParts acc (evalEach es X.env)) (EP X pz σ Q) X.xe s
def tJ0:Str->TE:=fun acc _ H Q=>acc.length<=sizeLine/\Q (.str acc) H
def tJ (te:TE) (t:Str->TE):Str->TE:=fun acc σ H Q=>te σ H fun v H1=>∃y,v= .str y/\(acc++y).length<=sizeLine/\t (acc++y) σ H1 Q
theorem oJ:PJ X [] tJ0:=fun pz s σ H Q acc I h=>joinParts_nil ⟨.str acc,H,I.tok _,⟨_,rfl⟩,h.2⟩ h.1
theorem gS {t:Str->TE} (he:PE X e te) (hr:PJ X es t):PJ X (e::es) (tJ te t):=by
 intro pz s σ H Q acc I h
 refine joinParts_cons (thn (he pz s σ H _ I h) fun u s1 ⟨v,H1,I1,r,q⟩=>?_)
 obtain⟨y,rfl,hz,q⟩:=q
 obtain⟨t',rfl⟩:=r
 exact⟨hz,hr pz s1 σ H1 Q _ I1 q⟩
theorem lN {e2:Expr} {t:Str->TE} (h:PJ X (e::e2::es) t):PE X (.JoinedStr (e::e2::es) pos) (t Str.empty):=fun pz s σ H Q I hw=>JoinedStr_many (h pz s σ H Q _ I hw)
end
theorem F0 {P:Program} {w:World} {X:Cx}:mz (CXE P w) X E0:=fun _ _ _ _ _ _ _ h=>by
 obtain⟨_,_,_,_,_,_,_,_,z⟩:=h
 exact z.elim
section
variable {X:Cx}
theorem uk:mI X (.type "int") (fun xs H Q=>∃x n,xs=[.str x]/\intText? x=some n/\x.length<=640/\Q (.int n) H):=by
 intro pz s σ H xs us Q I r h
 obtain⟨x,n,rfl,hn,hl,q⟩:=h
 obtain⟨u,rfl,rx⟩:=lH r
 obtain⟨t,rfl⟩:=rx
 exact PySem.W.KIN.call_text hn hl ⟨.int n,H,I.tok _,⟨_,rfl⟩,q⟩
end
inductive Dt where
 |flat (v:V)
 |tup (l:List Dt)
 |lst (l:List Dt)
mutual
inductive At (K:PySem.W.Frag) (H:Hp):V->Dt->Prop where
 |flat {v:V} (h:pX v=true):At K H v (.flat v)
 |tup {a:Addr} {xs:List V} {ds:List Dt} (h:SqT K H a xs) (hs:Ats K H xs ds):At K H (.ref a) (.tup ds)
 |lst {a:Addr} {xs:List V} {ds:List Dt} (h:SqL K H a xs) (hs:Ats K H xs ds):At K H (.ref a) (.lst ds)
inductive Ats (K:PySem.W.Frag) (H:Hp):List V->List Dt->Prop where
 |nil:Ats K H [] []
 |cons {x:V} {d:Dt} {xs:List V} {ds:List Dt} (h:At K H x d) (hs:Ats K H xs ds):Ats K H (x::xs) (d::ds)
end
mutual
def eqD:Dt->Dt->Bool
 | .flat a,.flat b=>eqV a b
 | .tup l,.tup m=>vp l m
 | .lst l,.lst m=>vp l m
 |_,_=>false
def vp:List Dt->List Dt->Bool
 |[],[]=>true
 |x::xs,y::ys=>eqD x y&&vp xs ys
 |_,_=>false
end
mutual
def oK:Dt->Dt->Bool
 | .flat _,.flat _=>true
 | .tup l,.tup m=>qP l m
 | .lst l,.lst m=>if l.length=m.length then qP l m else true
 |_,_=>false
def qP:List Dt->List Dt->Bool
 |x::xs,y::ys=>oK x y&&qP xs ys
 |_,_=>true
end
mutual
def p9:Dt->Nat
 | .flat _=>0
 | .tup l=>ji l+ 1
 | .lst l=>ji l+ 1
def ji:List Dt->Nat
 |[]=>0
 |x::xs=>max (p9 x) (ji xs)
end
theorem Ats.length {K:PySem.W.Frag} {H:Hp}:∀{xs:List V} {ds:List Dt},Ats K H xs ds->xs.length=ds.length
 |_,_,.nil=>rfl
 |_,_,.cons _ t=>by rw[az,az,Ats.length t]
theorem Ats.get {K:PySem.W.Frag} {H:Hp}:∀{xs:List V} {ds:List Dt} {j:Nat} {x:V},Ats K H xs ds->xs[j]?=some x->∃d,ds[j]?=some d/\At K H x d
 |_,_,0,_,.cons h _,e=>⟨_,rfl,by cases e;exact h⟩
 |_,_,j+ 1,_,.cons _ t,e=>Ats.get (j:=j) t e
 |_,_,_,_,.nil,e=>by simp at e
theorem sq:∀(l m:List Dt),l.length≠m.length->vp l m=false
 |[],[],h=>absurd rfl h
 |x::xs,y::ys,h=>by
  rw[vp,sq xs ys (fun e=>h (by rw[az,az,e])),eS]
 |[],y::ys,_=>by rw[vp];all_goals simp
 |x::xs,[],_=>by rw[vp];all_goals simp
def xQ (l m:List Dt) (j:Nat):Bool:=match l[j]?,m[j]? with
 |some a,some b=>eqD a b
 |_,_=>false
theorem oh:∀(l m:List Dt),l.length=m.length->((aa l.length).all fun j=>xQ l m j)=vp l m
 |[],[],_=>by rw[vp];rfl
 |x::xs,y::ys,h=>by
  have ih:=oh xs ys (by simpa using h)
  rw[az,bu,aY,bw,vp,<-ih]
  rfl
 |[],_::_,h=>by simp at h
 |_::_,[],h=>by simp at h
theorem lO:∀{l m:List Dt} {j:Nat} {a b:Dt},qP l m=true->l[j]?=some a->m[j]?=some b->oK a b=true
 |x::xs,y::ys,0,a,b,h,e1,e2=>by
  rw[qP,eR]at h
  cases e1
  cases e2
  exact h.1
 |x::xs,y::ys,j+ 1,a,b,h,e1,e2=>by
  rw[qP,eR]at h
  exact lO (j:=j) h.2 e1 e2
 |[],_,_,_,_,_,e1,_=>by simp at e1
 |_::_,[],_,_,_,_,_,e2=>by simp at e2
theorem depDs_get:∀{l:List Dt} {j:Nat} {a:Dt},l[j]?=some a->p9 a<=ji l
 |x::xs,0,a,e=>by cases e;rw[ji];exact Nat.le_max_left ..
 |x::xs,j+ 1,a,e=>by rw[ji];exact cw (depDs_get (j:=j) e) (Nat.le_max_right ..)
 |[],_,_,e=>by simp at e
theorem zb {v:V} (h:pX v=true):eqV v v=true:=by
 cases v with
 |non=>rfl
 |bl b=>show(b==b)=true;simp
 |int i=>show(i==i)=true;simp
 |str x=>show(x==x)=true;simp
 |_=>exact absurd h eP
section
variable {X:Cx} {pz:List (Addr×Obj)} {σ:St} {H:Hp} {s:Shared}
mutual
theorem At.same (I:Inv X pz σ H s):∀{x:V} {d e:Dt},At X.K H x d->At X.K H x e->oK d e=true->eqD d e=true
 |_,_,_,.flat h,.flat _,_=>by rw[eqD];exact zb h
 |_,_,_,.tup h hs,.tup h' hs',c=>by
  have e:=I.tuple_inj h h'
  subst e
  rw[oK]at c
  rw[eqD]
  exact Ats.same I hs hs' c
 |_,_,_,.lst h hs,.lst h' hs',c=>by
  have e:=I.list_inj h h'
  subst e
  rw[oK,gx (hs.length.symm.trans hs'.length)]at c
  rw[eqD]
  exact Ats.same I hs hs' c
 |_,_,_,.flat h,.tup _ _,_=>absurd h eP
 |_,_,_,.flat h,.lst _ _,_=>absurd h eP
 |_,_,_,.tup _ _,.flat h,_=>absurd h eP
 |_,_,_,.lst _ _,.flat h,_=>absurd h eP
 |_,_,_,.tup _ _,.lst _ _,c=>by simp[oK]at c
 |_,_,_,.lst _ _,.tup _ _,c=>by simp[oK]at c
theorem Ats.same (I:Inv X pz σ H s):∀{xs:List V} {l m:List Dt},Ats X.K H xs l->Ats X.K H xs m->qP l m=true->vp l m=true
 |_,_,_,.nil,.nil,_=>by rw[vp]
 |_,_,_,.cons h t,.cons h' t',c=>by
  rw[qP,eR]at c
  rw[vp,At.same I h h' c.1,Ats.same I t t' c.2]
  rfl
end
def Els (K:PySem.W.Frag) (H:Hp) (A:Around) (s:Shared) (ds es:List Dt):Prop:=
 ∀(j:Nat) (d1 d2:Dt) (x y:V) (u v:Value),ds[j]?=some d1->es[j]?=some d2->iq x u->iq y v->At K H x d1->At K H y d2->SeqAt.EqAt A s u v (eqD d1 d2)
theorem els {A:Around} {xs ys:List V} {its its2:List Value} {ds es:List Dt} (r:ik xs its) (r2:ik ys its2) (hs:Ats X.K H xs ds) (hs':Ats X.K H ys es) (EL:Els X.K H A s ds es):
  ∀j (h1:j<its.toArray.size) (h2:j<its2.toArray.size),SeqAt.EqAt A s its.toArray[j] its2.toArray[j] (xQ ds es j):=fun j h1 h2=>by
 have l1:=r.length
 have l2:=r2.length
 have h1':j<xs.length:=by simp only[aV]at h1;lia
 have h2':j<ys.length:=by simp only[aV]at h2;lia
 obtain⟨w1,e1,q1⟩:=r.get (bz h1')
 obtain⟨w2,e2,q2⟩:=r2.get (bz h2')
 obtain⟨d1,f1,p1⟩:=hs.get (bz h1')
 obtain⟨d2,f2,p2⟩:=hs'.get (bz h2')
 have g1:its.toArray[j]=w1:=by simpa using(au.mp e1).2
 have g2:its2.toArray[j]=w2:=by simpa using(au.mp e2).2
 have ed:xQ ds es j=eqD d1 d2:=by unfold xQ;rw[f1,f2]
 rw[g1,g2,ed]
 exact EL j d1 d2 _ _ _ _ f1 f2 q1 q2 p1 p2
theorem Ct {ds es:List Dt} {n m:Nat} (h1:n=ds.length) (h2:m=es.length):((aa (min n m)).all (xQ ds es)&&n==m)=eqD (.tup ds) (.tup es):=by
 subst h1 h2
 rw[eqD]
 by_cases hl:ds.length=es.length
 ·rw[<-oh ds es hl,<-hl,Nat.min_self]
  simp
 ·rw[sq ds es hl,beq_eq_false_iff_ne.mpr hl,eS]
theorem Cu {ds es:List Dt} {n:Nat} (h1:n=ds.length) (h:ds.length=es.length):((aa n).all (xQ ds es))=eqD (.lst ds) (.lst es):=by
 subst h1
 rw[eqD,<-oh ds es h]
theorem BB {A:Around} {a b:Addr} {xs ys:List V} {ds es:List Dt} (I:Inv X pz σ H s) (h:SqT X.K H a xs) (hs:Ats X.K H xs ds) (h':SqT X.K H b ys) (hs':Ats X.K H ys es) (hu:A.units<cLine) (EL:Els X.K H A.in1 s ds es):
  SeqAt.RcAt A s (.ref a) (.ref b) (eqD (.tup ds) (.tup es))/\SeqAt.RcNeAt A s (.ref a) (.ref b) (!eqD (.tup ds) (.tup es)):=by
 obtain⟨its,r,pl,_⟩:=I.tuple h
 obtain⟨its2,r2,pl2,_⟩:=I.tuple h'
 have e:=els r r2 hs hs' EL
 have l1:its.toArray.size=ds.length:=by rw[aV,<-r.length,hs.length]
 have l2:its2.toArray.size=es.length:=by rw[aV,<-r2.length,hs'.length]
 have k1:=SeqAt.RcAt.tuples (A:=A) (s:=s) pl pl2 hu e
 have k2:=SeqAt.RcNeAt.tuples (A:=A) (s:=s) pl pl2 hu e
 rw[Ct l1 l2]at k1 k2
 exact⟨k1,k2⟩
theorem BC {A:Around} {a b:Addr} {xs ys:List V} {ds es:List Dt} (I:Inv X pz σ H s) (h:SqL X.K H a xs) (hs:Ats X.K H xs ds) (h':SqL X.K H b ys) (hs':Ats X.K H ys es) (hu:A.units<cLine) (EL:ds.length=es.length->Els X.K H A.in1 s ds es):
  SeqAt.RcAt A s (.ref a) (.ref b) (eqD (.lst ds) (.lst es))/\SeqAt.RcNeAt A s (.ref a) (.ref b) (!eqD (.lst ds) (.lst es)):=by
 obtain⟨its,r,pl,_⟩:=I.list h
 obtain⟨its2,r2,pl2,_⟩:=I.list h'
 have l1:its.toArray.size=ds.length:=by rw[aV,<-r.length,hs.length]
 have l2:its2.toArray.size=es.length:=by rw[aV,<-r2.length,hs'.length]
 by_cases hl:ds.length=es.length
 ·have e:=els r r2 hs hs' (EL hl)
  have k1:=SeqAt.RcAt.lists (A:=A) (s:=s) pl.isList pl2.isList (by rw[l1,l2,hl]) hu e
  have k2:=SeqAt.RcNeAt.lists (A:=A) (s:=s) pl.isList pl2.isList (by rw[l1,l2,hl]) hu e
  rw[Cu l1 hl]at k1 k2
  exact⟨k1,k2⟩
 ·have hne:(its.toArray.size !=its2.toArray.size)=true:=by rw[l1,l2];exact bne_iff_ne.mpr hl
  have k1:=SeqAt.RcAt.lists_lengths (A:=A) (s:=s) pl.isList pl2.isList hne hu
  have k2:=SeqAt.RcNeAt.lists_lengths (A:=A) (s:=s) pl.isList pl2.isList hne hu
  rw[eqD,sq ds es hl]
  exact⟨k1,k2⟩
theorem BD (I:Inv X pz σ H s):∀(n:Nat) (A:Around) {x y:V} {u v:Value} {d e:Dt},iq x u->iq y v->At X.K H x d->At X.K H y e->oK d e=true->p9 d<=n->A.units+n<cLine->SeqAt.EqAt A s u v (eqD d e):=by
 intro n
 induction n with
 |zero=>
  intro A x y u v d e rx ry hx hy c hd hu
  cases hx with
  |flat h=>
   cases hy with
   |flat h'=>rw[eqD];exact yU rx ry h h'
   |tup _ _=>simp[oK]at c
   |lst _ _=>simp[oK]at c
  |tup _ _=>rw[p9]at hd;lia
  |lst _ _=>rw[p9]at hd;lia
 |succ n ih=>
  intro A x y u v d e rx ry hx hy c hd hu
  cases hx with
  |flat h=>
   cases hy with
   |flat h'=>rw[eqD];exact yU rx ry h h'
   |tup _ _=>simp[oK]at c
   |lst _ _=>simp[oK]at c
  |@tup a xs ds h hs=>
   cases hy with
   |flat _=>simp[oK]at c
   |lst _ _=>simp[oK]at c
   |@tup b ys es h' hs'=>
    cases rx
    cases ry
    by_cases hab:a=b
    ·subst hab
     rw[At.same I (.tup h hs) (.tup h' hs') c]
     exact SeqAt.EqAt.same _
    ·rw[oK]at c
     rw[p9]at hd
     refine SeqAt.EqAt.of_refs hab (BB I h hs h' hs' (by lia) fun j d1 d2 x y u v f1 f2 q1 q2 p1 p2=>?_).1
     exact ih A.in1 q1 q2 p1 p2 (lO c f1 f2) (cw (depDs_get f1) (by lia)) (by show A.units+ 1+n<cLine;lia)
  |@lst a xs ds h hs=>
   cases hy with
   |flat _=>simp[oK]at c
   |tup _ _=>simp[oK]at c
   |@lst b ys es h' hs'=>
    cases rx
    cases ry
    by_cases hab:a=b
    ·subst hab
     rw[At.same I (.lst h hs) (.lst h' hs') c]
     exact SeqAt.EqAt.same _
    ·rw[p9]at hd
     refine SeqAt.EqAt.of_refs hab (BC I h hs h' hs' (by lia) fun hl j d1 d2 x y u v f1 f2 q1 q2 p1 p2=>?_).1
     rw[oK,gx hl]at c
     exact ih A.in1 q1 q2 p1 p2 (lO c f1 f2) (cw (depDs_get f1) (by lia)) (by show A.units+ 1+n<cLine;lia)
def Hh (K:PySem.W.Frag) (neg:Bool):R2:=fun x y H Q=>∃a b d e,x= .ref a/\y= .ref b/\At K H x d/\At K H y e/\oK d e=true/\p9 d<=100/\Q (.bl (if neg then !eqD d e else eqD d e)) H
theorem rcD (I:Inv X pz σ H s) {A:Around} {a b:Addr} {d e:Dt} (hx:At X.K H (.ref a) d) (hy:At X.K H (.ref b) e) (c:oK d e=true) (hd:p9 d<=100) (hu:A.units+ 101<cLine):
  SeqAt.RcAt A s (.ref a) (.ref b) (eqD d e)/\SeqAt.RcNeAt A s (.ref a) (.ref b) (!eqD d e):=by
 cases hx with
 |flat h=>exact absurd h eP
 |@tup a xs ds h hs=>
  cases hy with
  |flat h=>exact absurd h eP
  |lst _ _=>simp[oK]at c
  |@tup b ys es h' hs'=>
   rw[oK]at c
   rw[p9]at hd
   refine BB I h hs h' hs' (by lia) fun j d1 d2 x y u v f1 f2 q1 q2 p1 p2=>?_
   exact BD I 100 A.in1 q1 q2 p1 p2 (lO c f1 f2) (cw (depDs_get f1) (by lia)) (by show A.units+ 1+ 100<cLine;lia)
 |@lst a xs ds h hs=>
  cases hy with
  |flat h=>exact absurd h eP
  |tup _ _=>simp[oK]at c
  |@lst b ys es h' hs'=>
   rw[p9]at hd
   refine BC I h hs h' hs' (by lia) fun hl j d1 d2 x y u v f1 f2 q1 q2 p1 p2=>?_
   rw[oK,gx hl]at c
   exact BD I 100 A.in1 q1 q2 p1 p2 (lO c f1 f2) (cw (depDs_get f1) (by lia)) (by show A.units+ 1+ 100<cLine;lia)
end
section
variable {X:Cx}
theorem zc {k:Nat} (hr:mj k X.A):OpR X (compareOp .Eq) (Hh X.K false):=by
 intro pz s σ H x y v u Q I rx ry h
 obtain⟨a,b,d,e,rfl,rfl,hx,hy,c,hd,q⟩:=h
 cases rx
 cases ry
 have hu:=hr.un
 exact(rcD I hx hy c hd (by lia)).1 _ _ _ _ ⟨.bl _,H,I,rfl,q⟩
end
def zd (P:Program) (w:World) (K:PySem.W.Frag) (a:Addr) (kvs:List (Key×V)):Prop:=(a==sysModules)=false/\∃vs,KV kvs vs/\∀h:Heap,K.In h->h.DictOf (jg P w) a vs
theorem wu {P:Program} {w:World} {K:PySem.W.Frag} {a:Addr} {es:Array DictEntry} {n:Nat} {l:List (Str×Tok×Addr)} (ha:(a==sysModules)=false) (hl:K.lookup a=some ⟨.type "dict",none,.dict es n,#[]⟩)
  (he:es.toList=l.map fun p=>⟨PyData.keyHash w.params p.1,.str p.1 p.2.1,.ref p.2.2⟩) (hn:(l.map (·.1)).Nodup):zd P w K a (l.map fun p=>(Sum.inr p.1,V.ref p.2.2)):=by
 refine⟨ha,l.map fun p=>(Sum.inr p.1,Value.ref p.2.2),?_,fun h hk=>?_⟩
 ·clear he hn
  induction l with
  |nil=>exact .nil
  |cons p r ih=>exact .cons ⟨rfl,rfl⟩ ih
 ·refine⟨_,es,n,hk _ _ hl,⟨rfl,rfl,rfl⟩,rfl,fun e hm=>?_,?_,?_⟩
  ·have hm':e∈es.toList:=by simpa using hm
   rw[he]at hm'
   obtain⟨p,_,rfl⟩:=bb.mp hm'
   exact⟨Sum.inr p.1,pK p.1 p.2.1,rfl⟩
  ·rw[he]
   clear he hn
   induction l with
   |nil=>exact .nil
   |cons p r ih=>exact .cons (pK p.1 p.2.1) rfl ih
  ·rw[bA]
   have e:(List.map ((fun(x:Key×Value)=>x.1)∘fun(p:Str×Tok×Addr)=>((Sum.inr p.1:Key),Value.ref p.2.2)) l)=(l.map (·.1)).map (Sum.inr:Str->Key):=by
    rw[bA]
    rfl
   rw[e]
   exact List.Pairwise.map _ (fun a b h z=>h (Sum.inr.inj z)) hn
def Cv (a:Addr) (kvs:List (Key×V)) (ty td:TE):TE:=fun σ H Q=>ty σ H fun y H1=>td σ H1 fun x H2=>∃k,x= .ref a/\y=kV k/\Q (.bl (!(je kvs k).isSome)) H2
def F9 (a:Addr) (kvs:List (Key×V)) (td ty:TE):TE:=fun σ H Q=>td σ H fun x H1=>ty σ H1 fun y H2=>∃k v,x= .ref a/\y=kV k/\je kvs k=some v/\Q v H2
section
variable {X:Cx} {o i:Expr} {pos:Pos} {td ty:TE} {a:Addr} {kvs:List (Key×V)}
theorem ze (d:zd X.prog X.w X.K a kvs) (hi:PE X i ty) (ho:PE X o td):PC X .NotIn i o (Cv a kvs ty td):=by
 intro pz s σ H Q I h
 refine thn (hi pz s σ H _ I h) fun iv s1 ⟨y,H1,I1,ry,q1⟩=>thn (ho pz s1 σ H1 _ I1 q1) fun u s2 ⟨x,H2,I2,rx,k,ex,ey,q2⟩=>?_
 subst ex ey
 obtain rfl:u=Value.ref a:=rx
 obtain⟨hs,vs,rel,dd⟩:=d
 refine wpAny_notIn_of (vg ry) hs (dd _ I2.kIn).mapOf ?_
 rw[<-(rel.val k).isSome_eq]
 exact⟨.bl _,H2,I2.tok _,rfl,q2⟩
theorem zf (d:zd X.prog X.w X.K a kvs) (ho:PE X o td) (hi:PE X i ty) (hs:FQ i:=by exact fun _ _=>rfl):PE X (.Subscript o i pos) (F9 a kvs td ty):=by
 intro pz s σ H Q I h
 refine yO eg.lookup hs (thn (ho pz s σ H _ I h) fun u s1 ⟨x,H1,I1,rx,q1⟩=>thn (hi pz s1 σ H1 _ I1 q1) fun iv s2 ⟨y,H2,I2,ry,k,v,ex,ey,hv,q2⟩=>?_)
 subst ex ey
 obtain rfl:u=Value.ref a:=rx
 obtain⟨_,vs,rel,dd⟩:=d
 obtain⟨w',hw,rw'⟩:=rY.some_of (v:=v) (o:=valueAt vs k) (by rw[<-hv];exact rel.val k)
 exact⟨(dd _ I2.kIn).typeIs,wpAny_getItem_of (vg ry) (dd _ I2.kIn).mapOf hw ⟨v,H2,I2.tok _,rw',q2⟩⟩
end
section
variable {X:Cx}
end
section
variable {X:Cx} {k:Nat} {f Y:Addr} {fd:FuncData} {ps:List Str} {sp:Sp} {dvs:List V} {ds:List Value} {x y n:Str} {p pos pos' py hpos tpos pn:Pos} {e:Expr} {es:List Expr} {t:TA} {b₀:Stmt} {body:List Stmt} {tb:TS} {i:Nat}
end
end L2.Internal
namespace L2.Internal
theorem D6:PySem.bootBuiltins "min"=some (.builtin "min"):=gq
end L2.Internal
namespace L2.Internal
open PySem PySem.Spec PyProof.Rows
section
variable {X:Cx} {pz:List (Addr×Obj)} {σ:St} {H:Hp} {s:Shared} {h':Heap}
theorem Inv.turnedL {t':Nat} {ch:List Addr} (I:Inv X pz σ H s) (k:∀b o,b∉ch->s.heap.get? b=some o->h'.get? b=some o) (hf:∀b∈ch,xw X pz H b):Inv X pz σ H {s with heap:=h',toks:=t'}:=by
 have nit:∀b u,H b=some u->b∉ch:=fun b u e z=>by
  have q:=(hf b z).1
  rw[q]at e;cases e
 refine I.step (g':=s.gens) (d':=s.drawn) (ch:=ch) (fun b hb=>?_) (fun b o _ _ hc e _=>k b o hc e) (fun b o _ _ hc e _=>⟨o.slots,k b o hc e⟩) (fun _ _ _ _ n=>n)
  (fun b o hc e=>⟨o,k b o hc e⟩) (fun _ _ e=>e) (fun _ _ _ e=>e) (fun b ps e=>⟨#[],by rw[e];simp⟩) (fun m hm=>?_) (fun b u e=>?_) I.bare
 ·obtain⟨_,f1,_,f3,f4,f5⟩:=hf b hb
  exact⟨f3,f1,f4,f5⟩
 ·obtain⟨o,es,ep,ho,r⟩:=hm
  exact⟨o,es,ep,k _ o (fun z=>(hf _ z).2.1 rfl) ho,r⟩
 ·refine(I.hok b u e).stay (fun c v hc q=>k c v ?_ q) (fun _ q=>q) fun _ _ q=>q
  rcases hc with z|z
  ·rw[z];exact nit b u e
  ·exact nit c _ z
theorem Inv.pairNew {T:Addr} {h:Heap} {tk:Nat} {ux uy:Value} {x y:V} (I:Inv X pz σ H s) (hT:s.heap.objs.size<=T) (J:Inv X pz σ H {s with heap:=h,toks:=tk}) (ht:yl h T #[ux,uy]) (rx:iq x ux) (ry:iq y uy):
  H T=none/\Inv X pz σ (upd H T (.tup [x,y])) {s with heap:=h,toks:=tk}:=by
 have f:=I.fpOk (H':=H) hT (I.hok.fresh hT)
 refine⟨f.1,J.track f.1 ?_ f.2.1 f.2.2.2.2.1 f.2.2.2.2.2 ⟨by show 2<=sizeLine;decide,[ux,uy],.cons rx (.cons ry .nil),ht⟩⟩
 cases q:X.s₀.heap.get? T with
 |none=>rfl
 |some o=>exact absurd (cn (ff q) (cw I.sz hT)) (cq _)
end
theorem um:bootBuiltins "enumerate"=some (.type "enumerate"):=gq
theorem SqL.old {X:Cx} {pz:List (Addr×Obj)} {σ:St} {H:Hp} {s:Shared} {a:Addr} {xs:List V} (I:Inv X pz σ H s) (h:SqL X.K H a xs):a<s.heap.objs.size:=by
 obtain⟨its,_,p,_⟩:=I.list h
 obtain⟨o,e,_⟩:=p.isList
 exact ff e
section
variable {X:Cx}
end
def Ite (K:PySem.W.Frag) (a:Addr):It:=
 ⟨fun i H=>∃xs x,SqL K H a xs/\xs[i]?=some x,
   fun i H v H'=>∃T x,v= .ref T/\H T=none/\H'=upd H T (.tup [.int (i:Int),x])/\∀xs,SqL K H a xs->xs[i]?=some x,
   fun i H=>∃xs,SqL K H a xs/\i=xs.length⟩
def ESt (e it a:Addr) (i:Nat) (h:Heap):Prop:=(∃old,IsEnum h e it i old)/\h.IsListIter it a i
theorem zg {P:Program} {w:World} {K:PySem.W.Frag} {es:List Expr} {kk:Nat} {tp:Pos} {a e it:Addr} (h1:e≠it) (h2:a≠e) (h3:a≠it):Bq P w K (.Tuple es kk tp) (Ite K a) [e,it] e (ESt e it a) where
 mem:=by simp
 obj:=fun i h st c hc=>by
  obtain⟨⟨old,g1⟩,⟨o4,g4,_,d4⟩⟩:=st
  simp only[ak,bB,or_false]at hc
  rcases hc with q|q<;>subst q
  ·exact⟨_,g1,fun v q=>nomatch q⟩
  ·exact⟨_,g4,fun v q=>by rw[d4]at q;cases q⟩
 keep:=fun i h h' st k=>by
  obtain⟨⟨old,g1⟩,g4⟩:=st
  exact⟨⟨old,k e (by simp) _ g1⟩,g4.at fun o q=>k it (by simp) o q⟩
 item:=by
  intro X hP hw hK hc i pz s σ H E I hf st hg
  subst hP hw hK
  obtain⟨xs,x,qx,ex⟩:=hg
  obtain⟨i1s,r1,p1,z1⟩:=I.list qx
  obtain⟨g1,g4⟩:=st
  obtain⟨old,g1'⟩:=g1
  obtain⟨ux,hux,rr1⟩:=r1.get ex
  have lte:e<s.heap.objs.size:=ff g1'
  refine wpAny_pyNext_enum_item g1' g4 p1.isList (x:=ux) (by simpa using hux) h1 fun k1 ho hit' hT hsz hk=>?_
  have kk1:∀c o,c∉[e,it]->s.heap.get? c=some o->k1.get? c=some o:=fun c o hc q=>hk c o (fun z=>hc (by simp[z])) (fun z=>hc (by simp[z])) q
  have J1:Inv X pz σ H {s with heap:=k1,toks:=s.toks+ 1}:=I.turnedL kk1 hf
  refine⟨.ref s.heap.objs.size,rfl,wpAny_letOwnedTupleGo_enum ho fun k2 he' sb=>?_⟩
  have J2:Inv X pz σ H {s with heap:=k2,toks:=s.toks+ 1}:=Inv.turnedL (s:={s with heap:=k1,toks:=s.toks+ 1}) (h':=k2) (t':=s.toks+ 1) (ch:=[e]) J1 (fun c o hc q=>(sb.2 c (fun z=>hc (by simp[z]))).trans q) fun c hc=>hf c (by simp only[ak,bB,or_false]at hc⊢;simp[hc])
  have ht2:yl k2 s.heap.objs.size #[.int i s.toks,ux]:=⟨_,(sb.2 _ (cy lte)).trans hT,rfl,_,rfl,rfl⟩
  obtain⟨fT,J3⟩:=I.pairNew (x:= .int (i:Int)) (cz _) J2 ht2 ⟨s.toks,rfl⟩ rr1
  refine⟨.ref s.heap.objs.size,_,J3,rfl,⟨_,x,rfl,fT,rfl,fun l hl=>by rw[I.list_inj hl qx];exact ex⟩,⟨⟨_,by simpa using he'⟩,hit'.at fun o y=>(sb.2 it h1.symm).trans y⟩,fun c hc=>?_⟩
  rw[fO (fun q=>?_)]
  ·exact(hf c hc).1
  ·have lt:c<s.heap.objs.size:=by
    obtain⟨o4,e4,_⟩:=g4
    simp only[ak,bB,or_false]at hc
    rcases hc with q|q<;>subst q
    ·exact lte
    ·exact ff e4
   exact absurd lt (by rw[q];exact cq _)
 done:=by
  intro X hP hw hK hc i pz s σ H E I hf st hg
  subst hP hw hK
  obtain⟨xs,qx,ei⟩:=hg
  obtain⟨i1s,r1,p1,z1⟩:=I.list qx
  obtain⟨g1,g4⟩:=st
  have W:=WalksT.enumerate (prog:=X.prog) (w:=X.w) (I.ok.hd hc) e it a h1 h2 h3 i1s.toArray
  have l1:=r1.length
  have q:i=i1s.toArray.size:=by simp only[aV];lia
  subst q
  exact W.done s _ _ ⟨g1,g4,p1.isList⟩ fun h1 tk hk=>⟨rfl,I.turnedL hk hf⟩
 self:=fun _ _ _ _ _ st h=>by
  obtain⟨⟨old,g1⟩,_⟩:=st
  exact wpAny_pyIter_enum g1 h
def Ga (K:PySem.W.Frag) (ta:TA):TI:=fun σ H R=>ta σ H fun vs H1=>∃a,vs=[.ref a]/\(∃xs,SqL K H1 a xs)/\R (Ite K a) H1
section
variable {X:Cx}
theorem vq {es:List Expr} {kk:Nat} {tp:Pos} {a:Expr} {ta:TA} {p pos:Pos} (hg:Gl X "enumerate") (hm:X.mg "enumerate"=none) (ha:PA X [a] ta) (hs:autoParam (starEach [a] X.env=[(false,eval a X.env)]) L2.Internal.auR._auto_1):
  PI X (.Tuple es kk tp) (.Call (.Name "enumerate" p) [a] [] pos) (Ga X.K ta):=by
 intro pz s σ H R I h
 refine Call_ (nE I hg hm um (fu (thn (ha pos pz s σ H _ I h) fun us s1 ⟨vs,H1,I1,r1,q1⟩=>?_) hs rfl))
 obtain⟨l1,e,⟨xs,q1⟩,q⟩:=q1
 subst e
 obtain⟨u,rfl,ru⟩:=lH r1
 cases ru
 obtain⟨i1s,w1,p1,z1⟩:=I1.list q1
 have o1:@LT.lt Nat _ l1 s1.heap.objs.size:=SqL.old I1 q1
 refine call_enumerate_list p1.isList fun h1 hE hi1 hsz hk=>wpAny_pyIter_enum hE ?_
 refine⟨_,_,_,_,H1,rfl,I1.kept (t':=s1.toks) hk,zg (fun(h:@Eq Nat _ _)=>by lia) (fun(h:@Eq Nat _ _)=>by lia) (fun(h:@Eq Nat _ _)=>by lia),⟨⟨_,hE⟩,hi1⟩,fun c hc=>?_,q⟩
 have ge:s1.heap.objs.size<=c:=by
  simp only[ak,bB,or_false]at hc
  rcases hc with h|h<;>rw[h]<;>first|exact cz _|exact cF _ _
 exact I1.fpOk ge (I1.hok.fresh ge)
end
def LcG (J:It) (g:TG) (te:TE) (Q:VK) (τ:St) (H1:Hp) (D:Addr):Prop:=
 ∃W:Nat->Nat->St->Hp->Prop,(∃m,W 0 m τ (upd H1 D (.lst [])))/\∀k m σ' H2,W k m σ' H2->
  (J.stop k H2/\Q (.ref D) H2)\/(J.go k H2/\∀v H3,J.yld k H2 v H3->g v σ' H3 fun σ4 H4=>te σ4 H4 fun y H5=>∃xs,H5 D=some (.lst xs)/\xs.length<sizeLine/\∃m',m'<m/\W (k+ 1) m' σ4 (upd H5 D (.lst (xs++[y]))))
def tLG (wi:TI) (f:St->St) (g:TG) (te:TE):TE:=fun σ H Q=>wi σ H fun J H1=>∀D,H1 D=none->LcG J g te Q (f σ) H1 D
theorem D7 {X:Cx} {elt iter:Expr} {es:List Expr} {kk:Nat} {tp:Pos} {x:Str} {scope:Scope} {pos:Pos} {N:List Str} {cl:List (Str×Addr)} {f:St->St} {i:Nat} {wi:TI} {g:TG} {te:TE}
  (hc:X.calm=true) (B:p7 X N scope cl f i x) (hi:PI X (.Tuple es kk tp) iter wi)
  (hg:∀C s₀ H₀ ex pz,PG (blk X N scope cl C s₀ H₀ ex pz) (.Tuple es kk tp) g) (hte:∀C s₀ H₀ ex pz,PE (blk X N scope cl C s₀ H₀ ex pz) elt te)
  (hs:autoParam (∀x,foldedSetIterable iter X.env x=pure x) L2.Internal.auI._auto_1):PE X (.ListComp elt [⟨.Tuple es kk tp,iter,[],0⟩] scope pos) (tLG wi f g te):=by
 intro pz s σ H Q I h
 rw[eval_ListComp]
 refine wpAny_comprehension_free (use:=none) rfl hs B.clos B.kind B.names (thn (hi pz s σ H _ I h) fun xv s1 h1=>thn h1 fun itv s2 h2=>?_)
 obtain⟨it,fp,tn,J,H2,rfl,I2,T,st2,f2,q⟩:=h2
 have hD:H2 s2.heap.objs.size=none:=I2.fresh
 obtain⟨W,⟨m0,w0⟩,turn⟩:=q _ hD
 refine wpAny_newObj_type (wpAny_newFunctionEnv B.cell (by intro y hy;simp at hy) (fun h₁ hns₁ hsb₁=>?_) B.kind)
 have I3:Inv X pz σ (upd H2 s2.heap.objs.size (.lst [])) {s2 with heap:=s2.heap.push {cls:= .type "list",data:= .seq ([]:List Value).toArray}}:=I2.lnew (its:=[]) (ys:=[]) (t':=s2.toks) .nil (cA _)
 have lt2:∀b∈fp,b<s2.heap.objs.size:=fun b hb=>by
  obtain⟨o,ho,_⟩:=T.obj _ _ st2 b hb
  exact ff ho
 have fp3:∀b∈fp,xw X pz (upd H2 s2.heap.objs.size (.lst [])) b:=fun b hb=>by
  refine⟨?_,(f2 b hb).2⟩
  rw[fO (cu (lt2 b hb))]
  exact(f2 b hb).1
 generalize hs3:({s2 with heap:=s2.heap.push {cls:= .type "list",data:= .seq ([]:List Value).toArray}}:Shared)=s3 at I3 hns₁ hsb₁⊢
 have eh:s2.heap.push {cls:= .type "list",data:= .seq ([]:List Value).toArray}=s3.heap:=by rw[<-hs3]
 have lt3:∀b∈fp,b<s3.heap.objs.size:=fun b hb=>by
  rw[<-eh,fj]
  exact cE (lt2 b hb)
 have old:∀b o,s3.heap.get? b=some o->h₁.get? b=some o:=fun b o e=>hsb₁.extBut b o (cu (ff e)) (fh _ e)
 have I4:=y9 (tk:=s3.toks+([]:List (Str×Value)).length) B I3 (ex:=fp) (fun b hb=>⟨fp3 b hb,lt3 b hb⟩) old hns₁
 have st4:tn 0 h₁:=T.keep _ _ _ st2 fun b _ o e=>old b o (by rw[<-eh];exact fh _ e)
 have fpB:∀{H':Hp},(∀b∈fp,H' b=none)->∀b∈fp,xw (blk X N scope cl s3.heap.objs.size s3 (upd H2 s2.heap.objs.size (.lst [])) fp pz) [] H' b:=fun{H'} hn b hb=>by
  obtain⟨_,g2,g3,g4,g5,g6⟩:=f2 b hb
  refine⟨hn b hb,cu (lt3 b hb),fun z=>(ak.mp (I3.stkSub b z)).elim g2 g3,.inl hb,fun y c e=>g5 y c (B.lk y c e),fun p hp=>?_⟩
  rw[aD]at hp
  exact g6 p hp
 have loop:∀s4:Shared,s4={s3 with heap:=h₁,toks:=s3.toks+([]:List (Str×Value)).length}->
   codeAny (model X.prog X.w) X.A (.compLoop (.ListComp elt [⟨.Tuple es kk tp,iter,[],0⟩] scope pos) 0 (.ref it) (.ref s2.heap.objs.size) (compEnvC scope cl s3.heap.objs.size X.env))
    (compPost (model X.prog X.w) X.A X.xe none (EP X pz σ Q) (.ref s2.heap.objs.size) s3.heap.objs.size) s4:=by
  rintro s4 rfl
  refine PyProof.Rows.LCp.codeAny_compLoop_pair (I:=fun n s'=>∃k σ' H',Inv (blk X N scope cl s3.heap.objs.size s3 (upd H2 s2.heap.objs.size (.lst [])) fp pz) [] σ' H' s'/\tn k s'.heap/\(∀b∈fp,H' b=none)/\W k n σ' H') ?_ m0
   ⟨0,f σ,_,I4,st4,fun b hb=>(fp3 b hb).1,w0⟩
  rintro n s5 ⟨k,σ5,H5,I5,st5,fr5,w5⟩
  rcases turn k n σ5 H5 w5 with⟨stop,qn⟩|⟨go,step⟩
  ·refine wpAny_mono (T.done (blk X N scope cl s3.heap.objs.size s3 (upd H2 s2.heap.objs.size (.lst [])) fp pz) rfl rfl rfl hc k [] s5 σ5 H5 _ I5 (fpB fr5) st5 stop) (fun r s6 h6=>?_) fun _ _ z=>z
   obtain⟨hr,I6⟩:=h6
   subst hr
   obtain⟨m6,hn6,_⟩:=id I6.loc
   refine⟨m6,hn6,fun h' sb=>?_⟩
   have nC:∀b o,s3.heap.get? b=some o->b≠s3.heap.objs.size:=fun b o e=>cu (ff e)
   have u6:Un (frs X.stack) fp (upd H2 s2.heap.objs.size (.lst [])) H5 s3.heap s6.heap:=I6.base
   have u7:Un (frs X.stack) fp (upd H2 s2.heap.objs.size (.lst [])) H5 s3.heap h':=
    ⟨fun b o e z1 z2 z3=>(sb.2 b (nC b o e)).trans (u6.keep b o e z1 z2 z3),fun b o e z1 z2 z3=>by
     obtain⟨sl,e1⟩:=u6.slot b o e z1 z2 z3
     exact⟨sl,(sb.2 b (nC b o e)).trans e1⟩,u6.free,fun b o e z=>by
     obtain⟨o',e1⟩:=u6.there b o e z
     exact⟨o',(sb.2 b (nC b o e)).trans e1⟩,u6.tups,u6.frzs,u6.tbls⟩
   have hok7:HOk X.prog X.w H5 h':=fun b o e=>(I6.hok b o e).stay (fun c w' hcc e1=>(sb.2 c (fun z=>by
     have fr:H5 s3.heap.objs.size=none:=I6.free
     rcases hcc with y|y
     ·rw[<-y,z,fr]at e;cases e
     ·rw[z,fr]at y;cases y)).trans e1) (fun _ z=>z) fun _ _ z=>z
   have I7:Inv X pz σ H5 {s6 with heap:=h'}:=I3.call' (s':={s6 with heap:=h'}) (ch:=fp) I6.os u7 hok7 I6.bare fun b hb=>by
    obtain⟨_,g2,g3,g4,g5,g6⟩:=f2 b hb
    exact⟨g4,g2,g5,g6⟩
   exact⟨.ref s2.heap.objs.size,H5,I7,rfl,qn⟩
  ·refine wpAny_mono (T.item (blk X N scope cl s3.heap.objs.size s3 (upd H2 s2.heap.objs.size (.lst [])) fp pz) rfl rfl rfl hc k [] s5 σ5 H5 _ I5 (fpB fr5) st5 go) (fun r s6 h6=>?_) fun _ _ z=>z
   obtain⟨u,hr,h6⟩:=h6
   subst hr
   refine wpAny_mono h6 (fun _ s7 h7=>?_) fun _ _ z=>z
   obtain⟨v,H7,I7,r7,y7,st7,fr7⟩:=h7
   have I7':=I7.pinned (fpB fr7) (T.obj _ _ st7)
   have back:∀{σ9:St} {H9:Hp} {s9:Shared},Inv (blk X N scope cl s3.heap.objs.size s3 (upd H2 s2.heap.objs.size (.lst [])) fp pz) ([]++rD fp s7.heap) σ9 H9 s9->(∃m',m'<n/\W (k+ 1) m' σ9 H9)->
     ∃m',m'<n/\∃k σ' H',Inv (blk X N scope cl s3.heap.objs.size s3 (upd H2 s2.heap.objs.size (.lst [])) fp pz) [] σ' H' s9/\tn k s9.heap/\(∀b∈fp,H' b=none)/\W k m' σ' H':=fun{σ9 H9 s9} I9 q9=>by
    obtain⟨m',hm,w9⟩:=q9
    refine⟨m',hm,k+ 1,σ9,H9,I9.unpinned,T.keep _ _ _ st7 fun b hb o e=>(I9.pin (b,o) (ay _ (ay _ (jW hb e)))).1,fun b hb=>?_,w9⟩
    obtain⟨o,e,d⟩:=T.obj _ _ st7 b hb
    exact(I9.pin (b,o) (ay _ (ay _ (jW hb e)))).2.1
   refine wpAny_mono (hg s3.heap.objs.size s3 (upd H2 s2.heap.objs.size (.lst [])) fp pz _ s7 σ5 H7 v u _ I7' r7 (step v H7 y7)) (fun _ s8 h8=>?_) fun _ _ z=>False.elim z
   obtain⟨σ8,H8,I8,q8⟩:=h8
   refine wpAny_mono (hte _ _ _ _ _ _ s8 _ H8 _ I8 q8) (fun y s10 h10=>?_) fun _ _ z=>False.elim z
   obtain⟨v10,H10,I10,r10,xs,hx10,hz,q10⟩:=h10
   refine wpAny_mono (gr (X:=blk X N scope cl s3.heap.objs.size s3 (upd H2 s2.heap.objs.size (.lst [])) fp pz) _ s10 _ H10 (.ref s2.heap.objs.size) [v10] _ [y] (fun _ H11=>H11=upd H10 s2.heap.objs.size (.lst (xs++[v10]))) I10 rfl (.cons r10 .nil) ⟨_,xs,v10,rfl,rfl,hx10,hz,rfl⟩) (fun _ s11 h11=>?_) fun _ _ z=>False.elim z
   obtain⟨_,H11,I11,_,e11⟩:=h11
   subst e11
   exact back I11 q10
 exact codeAny_compStart_list (loop _ rfl) (T.self _ 0 _ _ _ st4 (loop _ rfl))
theorem oi {z:Str}:∀{cap:List (Str×Nat×Addr)},z∈cap.map (·.1)->∃c,(cap.map fun p=>(p.1,p.2.2)).lookup z=some c
 |[],h=>by simp at h
 |p::r,h=>by
  cases e:z==p.1 with
  |true=>exact⟨p.2.2,by simp only[aB,bj,e]⟩
  |false=>
   have q:z∈r.map (·.1):=by
    rcases ak.mp h with y|y
    ·rw[y]at e;simp at e
    ·exact y
   obtain⟨c,hc⟩:=oi q
   exact⟨c,by simp only[aB,bj,e];exact hc⟩
theorem blkC {X:Cx} {scope:Scope} {x:Str} (ns:List Str) (cap:List (Str×Nat×Addr)) (hns:cap.map (·.1)=ns) (hk:scope.kind= .function) (hn:∀p∈scope.names,p.2≠ .cell/\(p.2= .free->p.1∈ns)) (hl:∀y∈scope.names,y.2= .local->scope.names.lookup y.1=some .local)
  (hx:scope.names.lookup x=some .local) (hnd:(x::ns).Nodup) (hc:closureFor scope X.env=pure (cap.map fun p=>(p.1,p.2.2))) (hok:X.env.scope.kind= .function)
  (h:∀p∈cap,scope.names.lookup p.1=some .free/\X.env.cells.lookup p.1=some p.2.2/\X.env.scope.names.lookup p.1=some .cell/\X.N[p.2.1]?=some p.1):
  p7 X (x::ns) scope (cap.map fun p=>(p.1,p.2.2)) (fun σ=>none::cap.map fun p=>σ.getD p.2.1 none) 0 x where
 kind:=hk
 cell:=fun y hy=>(hn y hy).1
 names:=hl
 clos:=hc
 lk:=fun z c q=>by
  have m:=PySem.mem_of_lookup q
  obtain⟨p,hp,e⟩:=bb.mp m
  cases e
  exact(h p hp).2.1
 has:=fun z q=>by
  refine oi ?_
  rw[hns]
  rcases q with q|q
  ·obtain⟨k0,e,q⟩:=gN q
   have m:=hn _ (PySem.mem_of_lookup e)
   rcases q with q|⟨q,_⟩
   ·exact absurd q.symm m.1
   ·exact m.2 q
  ·obtain⟨k0,e,q⟩:=gN q
   have m:=hn _ (PySem.mem_of_lookup e)
   rcases q with q|⟨q,_⟩
   ·exact m.2 q.symm
   ·exact m.2 q
 nd:=hnd
 ix:=rfl
 loc:=hx
 len:=fun _ _=>by simp[<-hns]
 val:=fun σ k z v h1 h2=>by
  cases k with
  |zero=>simp at h2
  |succ k=>
   rw[<-hns,bC,aM]at h1
   rw[bC,aM]at h2
   cases e:cap[k]? with
   |none=>rw[e]at h1;cases h1
   |some p=>
    rw[e]at h1 h2
    have ez:p.1=z:=cX.inj h1
    have ev:σ.getD p.2.1 none=some v:=cX.inj h2
    subst ez
    obtain⟨a1,a2,a3,a4⟩:=h p (aN e)
    rw[bo]at ev
    refine⟨p.2.1,a4,?_,a3,iC hok a3 a1⟩
    cases q:σ[p.2.1]? with
    |none=>rw[q]at ev;cases ev
    |some o=>rw[q]at ev;exact congrArg some ev
section
variable {X:Cx}
end
structure ClsM (K:PySem.W.Frag) (C:Addr) (m:Str) (f:Addr):Prop where
 ga:dD K (.ref C) "__getattribute__"=some (some (.builtin "type.__getattribute__"))
 rd:∃mc,PySem.W.readsIn K C mc=true/\PySem.W.findCls K (.ref C) mc m=some (.val (.ref f))
 kp:dE K (.ref f)=true
section
variable {X:Cx} {CX:CXT} {k:Nat} {f C:Addr} {fd:FuncData} {ps:List Str} {sp:Sp} {dvs:List V} {ds:List Value} {E:XK} {m:Str} {pos apos:Pos} {e o:Expr} {es:List Expr} {t:TA}
end
section
variable {X:Cx}
theorem D8:bootBuiltins "max"=some (.builtin "max"):=gq
theorem lP (hc:X.calm=true):mI X (.builtin "sum") (fun xs H Q=>∃(a:Addr) (ns:List Int),xs=[.ref a]/\SqL X.K H a (ns.map V.int)/\∀n,Q (.int n) H):=by
 intro pz s σ H xs us Q I r h
 obtain⟨a,ns,rfl,hq,q⟩:=h
 obtain⟨u,rfl,ru⟩:=lH r
 cases ru
 obtain⟨its,rv,p,hz⟩:=I.list hq
 obtain⟨zs,e⟩:=(xK rv).allInts.items
 have l:=p.isList
 rw[e]at l
 exact sum_intListG (I.ok.hd hc) l fun h' tk t' hk=>⟨.int _,H,I.kept (t':=tk) hk,⟨_,rfl⟩,q _⟩
end
theorem AO {X:Cx} {elt iter:Expr} {x y:Str} {j:Nat} {py spos:Pos} {px:Pos} {ifs:List Expr} {scope:Scope} {pos:Pos} {N:List Str} {cl:List (Str×Addr)} {f:St->St} {i:Nat} {wi:TI} {tt:TT} {te:TE}
  (hc:X.calm=true) (B:p7 X N scope cl f i x) (hi:PI X (.Name x px) iter wi)
  (htt:∀C s₀ H₀ ex pz,PTs (blk X N scope cl C s₀ H₀ ex pz) ifs tt) (hte:∀C s₀ H₀ ex pz,PE (blk X N scope cl C s₀ H₀ ex pz) elt te)
  (hN:X.N.Nodup) (hj:X.N[j]?=some y) (hy:Loc X.env.scope y) (hsw:autoParam (swapsWith (.ListComp elt [⟨.Name x px,iter,ifs,0⟩] scope pos) (some (.Name y py)) spos.line X.env=pure true) L2.Internal.auR._auto_1) (hs:autoParam (∀x,foldedSetIterable iter X.env x=pure x) L2.Internal.auI._auto_1)
  (hf:autoParam (X.fn y=true\/X.env.scope.names.lookup y=some .local) L2.Internal.auL._auto_1):PS X (.Assign [.Name y py] (.ListComp elt [⟨.Name x px,iter,ifs,0⟩] scope pos) spos) (DG (tLC wi f i tt te) (gJ j)):=by
 intro pz s σ H En I h
 rw[exec_Assign_Name_used _ _ _ _ hsw]
 refine wpAny_bind (wpAny_standAt (wpAny_bind ?_))
 show wpAny _ X.A (do let _<-comprehension (.ListComp elt [⟨.Name x px,iter,ifs,0⟩] scope pos) scope X.env _ (newList []) false (eval iter X.env) (some (assign (.Name y py) X.env))) _ _ s
 refine wpAny_bind (wpAny_mono (za (Qp:=fun _ s'=>SP X pz En .next s') hc B hi htt hte hs I h fun fl s3 s6 H3 H5 d m6 I3 I7 fr hn6 qn=>?_) (fun _ s' hq=>wpAny_pure (wpAny_pure hq)) fun _ _ e=>e)
 obtain⟨oC,es,ep,hoC,hdC,hkC⟩:=id hn6
 have hCL:s3.heap.objs.size≠X.env.locals:=cy I3.lt
 have I8:Inv X (pz++[(s3.heap.objs.size,oC)]) σ H5 s6:=I7.pins_of fun p hp=>(ao.mp hp).elim (fun z=>I7.pin p (ay _ z)) fun z=>by
  have ez:p=(s3.heap.objs.size,oC):=by simpa using z
  subst ez
  exact⟨hoC,fr,hCL,I3.nofs (cz _),fun v q=>by rw[hdC]at q;cases q⟩
 show wpAny _ X.A (assign (.Name y py) X.env (.ref d)) _ _ s6
 refine wpAny_assign_Name (nB (X:=X) I8 hN hj hy (v:= .ref d) rfl (fun s7 I9=>?_) hf)
 have pC:=I9.pin (s3.heap.objs.size,oC) (ay _ (ay _ (by simp)))
 refine⟨m6,⟨oC,es,ep,pC.1,hdC,hkC⟩,fun h' sb=>?_⟩
 refine⟨σ.set j (some (.ref d)),H5,?_,qn⟩
 exact Inv.turned (h':=h') (t':=s7.toks) (it:=s3.heap.objs.size) I9.unpinned (fun b o hb e=>(sb.2 b hb).trans e) pC.2.1 hCL (.inr I3.sz) (fun z c e q=>by
  obtain⟨v,q2⟩:=I3.cell z c e
  exact absurd (q▸q2.lt) (cq _)) fun p hp q=>absurd (q▸ff (I3.pin p hp).1) (cq _)
section
variable {prog:Program} {w:World} {A:Around} {E:Value->Shared->Prop} {s:Shared}
end
def SI (c:String) (h:Heap) (j t:Addr) (i:Nat):Prop:=∃o,h.get? j=some o/\o.cls= .type c/\o.data= .fields #[.ref t,.int i 0]
structure Sk where
 it:String
 S:Heap->Addr->Array Value->Prop
 Sq:PySem.W.Frag->Hp->Addr->List V->Prop
 ext:∀{h h':Heap} {a b:Addr} {xs:Array Value},S h a xs->Heap.ExtBut b h h'->a≠b->S h' a xs
 push:∀{h:Heap} {a:Addr} {xs:Array Value},S h a xs->∀o,S (h.push o) a xs
 nx:∀{prog:Program} {w:World} {A:Around} {E:Value->Shared->Prop} {s:Shared} {j t:Addr} {i:Nat} {its:Array Value} {x:Value} {Q:Value->Shared->Prop},SI it s.heap j t i->S s.heap t its->its[i]?=some x->(∀h',SI it h' j t (i+ 1)->Heap.SameBut j s.heap h'->Q x {s with heap:=h'})->wpAny (model prog w) A (Builtin.SmallTypes.nextOf (.ref j)) Q E s
 ne:∀{prog:Program} {w:World} {A:Around} {E:Value->Shared->Prop} {s:Shared} {j t:Addr} {i:Nat} {its:Array Value} {Q:Value->Shared->Prop},A.handled=none->SI it s.heap j t i->S s.heap t its->its[i]?=none->(∀h' x,Heap.ExtBut j s.heap h'->(∃o,h'.get? x=some o/\o.cls= .type "StopIteration")->E (.ref x) {s with heap:=h'})->wpAny (model prog w) A (Builtin.SmallTypes.nextOf (.ref j)) Q E s
 iter:∀{prog:Program} {w:World} {A:Around} {E:Value->Shared->Prop} {s:Shared} {t:Addr} {its:Array Value} {Q:Value->Shared->Prop},S s.heap t its->Q (.ref s.heap.objs.size) {s with heap:=s.heap.push {cls:= .type it,data:= .fields #[.ref t,.int 0 0]}}->wpAny (model prog w) A (pyIter (.ref t)) Q E s
 inv:∀{X:Cx} {pz:List (Addr×Obj)} {σ:St} {H:Hp} {s:Shared} {a:Addr} {xs:List V},Inv X pz σ H s->Sq X.K H a xs->∃its,ik xs its/\S s.heap a its.toArray/\xs.length<=sizeLine
 inj:∀{X:Cx} {pz:List (Addr×Obj)} {σ:St} {H:Hp} {s:Shared} {a:Addr} {xs ys:List V},Inv X pz σ H s->Sq X.K H a xs->Sq X.K H a ys->xs=ys
 old:∀{X:Cx} {pz:List (Addr×Obj)} {σ:St} {H:Hp} {s:Shared} {a:Addr} {xs:List V},Inv X pz σ H s->Sq X.K H a xs->a<s.heap.objs.size
def lS:Sk:=⟨"list_iterator",Heap.IsList,SqL,fun a b c=>a.extBut b c,fun a o=>a.push o,fun a b c d=>wpAny_nextOf_list_item a b c d,fun a b c d e=>wpAny_nextOf_list_end a b c d e,fun a b=>wpAny_pyIter_list a b,fun I q=>let⟨its,r,p,z⟩:=I.list q;⟨its,r,p.isList,z⟩,fun I a b=>I.list_inj a b,fun I q=>SqL.old I q⟩
section
variable {prog:Program} {w:World} {A:Around} {E:Value->Shared->Prop} {s:Shared}
end
section
variable {prog:Program} {w:World} {A:Around} {E:Value->Shared->Prop} {s:Shared}
end
section
variable {X:Cx}
end
section
variable {prog:Program} {w:World} {A:Around} {E:Value->Shared->Prop} {s:Shared}
end
inductive Prs (H:Hp):List V->List (Str×V)->Prop
 |nil:Prs H [] []
 |cons {a:Addr} {p:Str×V} {l:List V} {m:List (Str×V)}:H a=some (.tup [.str p.1,p.2])->Prs H l m->Prs H (.ref a::l) (p::m)
section
variable {X:Cx} {pz:List (Addr×Obj)} {σ:St} {H:Hp} {d it t:Addr} {vs:List V} {A:Around} {R:Result->Shared->Prop}
end
section
variable {X:Cx}
end
end L2.Internal
namespace BO.Internal
open PySem L2.Internal
def rIsi (K:PySem.W.Frag):List V->Hp->VK->Prop:=fun xs H Q=>∃x v c t b,xs=[x,v]/\(∀u,iq v u->u=c)/\vf K H x t/\dF K t c=some b/\Q (.bl b) H
theorem sz {n:Nat} (h:n<=100000):n<=sizeLine:=cw h (by decide)
theorem fE {H:Hp} {p:Addr} (h:H p=none) (o:HO):fW H (upd H p o):=fun b u q=>by rw[fO (fJ q h)];exact q
theorem BE {α:Type} (l:List α) (i:Int) (h0:0<=i) (h1:i<(l.length:Int)):∃c,atI l i=some c/\c∈l:=by
 have e:i=((i.toNat:Nat):Int):=by lia
 have hi:i.toNat<l.length:=by lia
 refine⟨l[i.toNat],?_,List.getElem_mem hi⟩
 have z:atI l ((i.toNat:Nat):Int)=some l[i.toNat]:=fH (bz hi)
 rw[<-e]at z
 exact z
def flN:V->Bool
 | .non=>true
 | .int _=>true
 | .str _=>true
 |_=>false
mutual
inductive Im (H:Hp):V->Dt->Prop where
 |flat {v:V} (h:flN v=true):Im H v (.flat v)
 |tup {a:Addr} {xs:List V} {ds:List Dt} (h:H a=some (.tup xs)) (hs:Ims H xs ds):Im H (.ref a) (.tup ds)
inductive Ims (H:Hp):List V->List Dt->Prop where
 |nil:Ims H [] []
 |cons {x:V} {d:Dt} {xs:List V} {ds:List Dt} (h:Im H x d) (hs:Ims H xs ds):Ims H (x::xs) (d::ds)
end
mutual
inductive Dta (H:Hp):V->Dt->Prop where
 |flat {v:V} (h:flN v=true):Dta H v (.flat v)
 |tup {a:Addr} {xs:List V} {ds:List Dt} (h:H a=some (.tup xs)) (hs:zh H xs ds):Dta H (.ref a) (.tup ds)
 |lst {a:Addr} {xs:List V} {ds:List Dt} (h:H a=some (.lst xs)) (hs:zh H xs ds):Dta H (.ref a) (.lst ds)
inductive zh (H:Hp):List V->List Dt->Prop where
 |nil:zh H [] []
 |cons {x:V} {d:Dt} {xs:List V} {ds:List Dt} (h:Dta H x d) (hs:zh H xs ds):zh H (x::xs) (d::ds)
end
def TK (H H':Hp):Prop:=∀a xs,H a=some (.tup xs)->H' a=some (.tup xs)
theorem fW.tk {H H':Hp} (s:fW H H'):TK H H':=fun a xs e=>s a _ e
mutual
theorem Im.mono {H H':Hp} (k:TK H H'):∀{v:V} {d:Dt},Im H v d->Im H' v d
 |_,_,.flat h=> .flat h
 |_,_,.tup h hs=> .tup (k _ _ h) (Ims.mono k hs)
theorem Ims.mono {H H':Hp} (k:TK H H'):∀{v:List V} {d:List Dt},Ims H v d->Ims H' v d
 |_,_,.nil=> .nil
 |_,_,.cons h hs=> .cons (Im.mono k h) (Ims.mono k hs)
end
theorem zh.length {H:Hp}:∀{xs:List V} {ds:List Dt},zh H xs ds->xs.length=ds.length
 |_,_,.nil=>rfl
 |_,_,.cons _ t=>by rw[az,az,zh.length t]
theorem Ims.length {H:Hp}:∀{xs:List V} {ds:List Dt},Ims H xs ds->xs.length=ds.length
 |_,_,.nil=>rfl
 |_,_,.cons _ t=>by rw[az,az,Ims.length t]
theorem zh.get {H:Hp}:∀{xs:List V} {ds:List Dt} {j:Nat} {x:V},zh H xs ds->xs[j]?=some x->∃d,ds[j]?=some d/\Dta H x d
 |_,_,0,_,.cons h _,e=>⟨_,rfl,by cases e;exact h⟩
 |_,_,j+ 1,_,.cons _ t,e=>by
  rw[bC]at e
  obtain⟨d,e1,e2⟩:=zh.get t e
  exact⟨d,by rw[bC];exact e1,e2⟩
theorem Ims.app {H:Hp}:∀{xs ys:List V} {ds es:List Dt},Ims H xs ds->Ims H ys es->Ims H (xs++ys) (ds++es)
 |_,_,_,_,.nil,h=>h
 |_,_,_,_,.cons a b,h=> .cons a (Ims.app b h)
inductive zi {α β:Type} (F:α->β->Prop):List α->List β->Prop
 |nil:zi F [] []
 |cons {a:α} {b:β} {l:List α} {m:List β}:F a b->zi F l m->zi F (a::l) (b::m)
theorem zi.length {α β:Type} {F:α->β->Prop}:∀{l:List α} {m:List β},zi F l m->l.length=m.length
 |_,_,.nil=>rfl
 |_,_,.cons _ t=>by rw[az,az,zi.length t]
theorem zi.get {α β:Type} {F:α->β->Prop}:∀{l:List α} {m:List β} {j:Nat} {x:α},zi F l m->l[j]?=some x->∃y,m[j]?=some y/\F x y
 |_,_,0,_,.cons h _,e=>⟨_,rfl,by cases e;exact h⟩
 |_,_,j+ 1,_,.cons _ t,e=>by
  rw[bC]at e
  obtain⟨d,e1,e2⟩:=zi.get t e
  exact⟨d,by rw[bC];exact e1,e2⟩
mutual
def okD:Dt->Prop
 | .flat _=>True
 | .tup l=>l.length<=100000/\Gb l
 | .lst l=>l.length<=100000/\Gb l
def Gb:List Dt->Prop
 |[]=>True
 |x::xs=>okD x/\Gb xs
end
def prL (p:Str×Int):Dt:= .tup [.flat (.str p.1),.flat (.int p.2)]
def prD (l:List (Str×Int)):Dt:= .tup (l.map prL)
inductive Us where
 |num (a p s:Int)
 |call (a p s x y:Int)
 |take (a p s:Int) (l:List (Str×Int))
 |case (a p s:Int) (l:List (Str×Int))
 |row (a p s x:Int)
def hdD (n:Str) (a p s:Int):List Dt:=[.flat (.str n),.flat (.int a),.flat (.int p),.flat (.int s)]
def Us.d:Us->Dt
 | .num a p s=> .tup (hdD "num" a p s)
 | .call a p s x y=> .tup (hdD "call" a p s++[.flat (.int x),.flat (.int y)])
 | .take a p s l=> .tup (hdD "take" a p s++[prD l])
 | .case a p s l=> .tup (hdD "case" a p s++[prD l])
 | .row a p s x=> .tup (hdD "row" a p s++[.flat (.int x)])
structure Mkg where
 s:Str
 f:Dt
 a:Int
 p:Int
def Mkg.d (m:Mkg):Dt:= .tup [.flat (.str m.s),m.f,.flat (.int m.a),.flat (.int m.p)]
def fU (a p s:V):List (Str×V):=[("at",a),("place",p),("slot",s)]
def fU1 (n:Str) (a p s x:V):List (Str×V):=[("at",a),("place",p),("slot",s),(n,x)]
def fU2 (a p s x y:V):List (Str×V):=[("at",a),("place",p),("slot",s),("arg",x),("out",y)]
def fM (s f a p:V):List (Str×V):=[("shape",s),("parts",f),("at",a),("place",p)]
def fB (p0 p1 p2 p3:Addr) (r:V):List (Str×V):=[("points",.ref p0),("makes",.ref p1),("uses",.ref p2),("flows",.ref p3),("root",r)]
structure Cs where
 M:Addr
 N:Addr
 C:Addr
 T:Addr
 K:Addr
 R:Addr
 B:Addr
def UsAt (c:Cs) (H:Hp) (v:V):Us->Prop
 | .num a p s=>∃x dx,v= .ref x/\H x=some (.ins c.N dx (fU (.int a) (.int p) (.int s)))
 | .call a p s y z=>∃x dx,v= .ref x/\H x=some (.ins c.C dx (fU2 (.int a) (.int p) (.int s) (.int y) (.int z)))
 | .take a p s l=>∃x dx f,v= .ref x/\H x=some (.ins c.T dx (fU1 "fields" (.int a) (.int p) (.int s) f))/\Im H f (prD l)/\l.length<=10
 | .case a p s l=>∃x dx f,v= .ref x/\H x=some (.ins c.K dx (fU1 "arms" (.int a) (.int p) (.int s) f))/\Im H f (prD l)/\l.length<=10
 | .row a p s y=>∃x dx,v= .ref x/\H x=some (.ins c.R dx (fU1 "out" (.int a) (.int p) (.int s) (.int y)))
def MkAt (c:Cs) (H:Hp) (v:V) (m:Mkg):Prop:=∃x dx f,v= .ref x/\H x=some (.ins c.M dx (fM (.str m.s) f (.int m.a) (.int m.p)))/\Im H f m.f/\p9 m.f<=2/\okD m.f
def Fz:HO->Prop
 | .tup _=>True
 | .ins _ _ fs=>fs.length≠5\/∃v r,fs=(("at":Str),v)::r
 |_=>False
def FK (H H':Hp):Prop:=∀a o,H a=some o->Fz o->H' a=some o
theorem FK.tk {H H':Hp} (k:FK H H'):TK H H':=fun a xs e=>k a _ e trivial
theorem FK.trans {H H1 H2:Hp} (a:FK H H1) (b:FK H1 H2):FK H H2:=fun c o e f=>b c o (a c o e f) f
theorem zj {J:It} {i:Nat} {te:TE} {Q:VK} {τ:St} {H1:Hp} {D:Addr} (n:Nat) (hn:n<sizeLine) (R:List V->Hp->Prop) (hR:∀xs H H',R xs H->TK H H'->R xs H') (hD:H1 D=none) (hτ:τ.set i none=τ)
  (hgo:∀k H,fW H1 H->k<n->J.go k H) (hst:∀H,fW H1 H->J.stop n H) (h0:R [] H1)
  (step:∀k H v H3 xs (Z:VK),fW H1 H->k<n->J.yld k H v H3->R xs H->xs.length=k->(∀y H5,fW H H5->R (xs++[y]) H5->Z y H5)->te (τ.set i (some v)) H3 Z)
  (hq:∀H' xs,fW H1 H'->R xs H'->xs.length=n->H' D=some (.lst xs)->Q (.ref D) H'):LcP J i p6 te Q τ H1 D:=by
 have nd:∀(H5:Hp) (xs ys:List V),H5 D=some (.lst xs)->TK H5 (upd H5 D (.lst ys)):=fun H5 xs ys e a zs q=>by rw[fO (jX q e (fun z=>nomatch z))];exact q
 have up:∀{H:Hp} (o:HO),fW H1 H->fW H1 (upd H D o):=fun{H} o S b u e=>by rw[fO (fJ e hD)];exact S b u e
 refine⟨fun k m σ' H2=>m=n-k/\k<=n/\(∃o,σ'=τ.set i o)/\fW H1 H2/\∃xs,H2 D=some (.lst xs)/\xs.length=k/\R xs H2,⟨n,by simp,cA _,⟨none,hτ.symm⟩,fE hD _,[],fC,rfl,hR _ _ _ h0 (fW.tk (fE hD _))⟩,?_⟩
 rintro k m σ' H2 ⟨rfl,hk,⟨o,rfl⟩,S,xs,e,hl,hr⟩
 by_cases hlt:k<n
 ·refine .inr ⟨hgo k H2 S hlt,fun v H3 y=>?_⟩
  rw[bp]
  refine step k H2 v H3 xs _ S hlt y hr hl fun y H5 S5 r5=>?_
  refine⟨xs,S5 D _ e,by lia,n-(k+ 1),by lia,rfl,hlt,⟨some v,rfl⟩,up _ (S.trans S5),xs++[y],fC,by rw[aO,hl];rfl,hR _ _ _ r5 (nd H5 _ _ (S5 D _ e))⟩
 ·have e1:k=n:=by lia
  subst e1
  exact .inl ⟨hst H2 S,hq H2 xs S hr hl e⟩
theorem BF {K:PySem.W.Frag} {a:Addr} {xs:List V} {k:Nat} {H1 H:Hp} (e:H1 a=some (.lst xs)) (S:fW H1 H) (h:k<xs.length):(Itl K a).go k H:=⟨xs,xs[k],SqL.of (S a _ e),bz h⟩
theorem BG {K:PySem.W.Frag} {a:Addr} {xs:List V} {H1 H:Hp} (e:H1 a=some (.lst xs)) (S:fW H1 H):(Itl K a).stop xs.length H:=⟨xs,SqL.of (S a _ e),cz _⟩
theorem zk {K:PySem.W.Frag} {a:Addr} {xs:List V} {k:Nat} {H1 H:Hp} (e:H1 a=some (.tup xs)) (S:fW H1 H) (h:k<xs.length):(Itt K a).go k H:=⟨xs,xs[k],SqT.of (S a _ e),bz h⟩
theorem zl {K:PySem.W.Frag} {a:Addr} {xs:List V} {H1 H:Hp} (e:H1 a=some (.tup xs)) (S:fW H1 H):(Itt K a).stop xs.length H:=⟨xs,SqT.of (S a _ e),cz _⟩
inductive Ls (H:Hp):List Addr->List (List V)->Prop
 |nil:Ls H [] []
 |cons {a:Addr} {c:List V} {l:List Addr} {m:List (List V)}:H a=some (.lst c)->Ls H l m->Ls H (a::l) (c::m)
theorem Ls.get {H:Hp}:∀{l:List Addr} {m:List (List V)} {i:Nat} {a:Addr},Ls H l m->l[i]?=some a->∃c,m[i]?=some c/\H a=some (.lst c)
 |_,_,0,_,.cons h _,e=>⟨_,rfl,by cases e;exact h⟩
 |_,_,j+ 1,_,.cons _ t,e=>by
  rw[bC]at e
  obtain⟨d,e1,e2⟩:=Ls.get t e
  exact⟨d,by rw[bC];exact e1,e2⟩
structure Sd where
 b:Addr
 dx:Addr
 p0:Addr
 p1:Addr
 p2:Addr
 p3:Addr
 d:Addr
 q0:Addr
 q1:Addr
 q2:Addr
 q3:Addr
def Sd.ls (S:Sd):List Addr:=[S.p0,S.p1,S.p2,S.p3,S.d,S.q0,S.q1,S.q2,S.q3]
structure Bd where
 pts:List Int
 mks:List Mkg
 uss:List Us
 fls:List (Int×Int)
 root:Int
def flD (p:Int×Int):Dt:= .tup [.flat (.int p.1),.flat (.int p.2)]
structure BSx (c:Cs) (H:Hp) (S:Sd) (E D:Bd):Prop where
 nd:S.ls.Nodup
 ob:H S.b=some (.ins c.B S.dx (fB S.p0 S.p1 S.p2 S.p3 (.int D.root)))
 st:∃mv uv fv mv' uv' fv':List V,Ls H S.ls [D.pts.map V.int,mv,uv,fv,[.ref S.q0,.ref S.q1,.ref S.q2,.ref S.q3,.int E.root],E.pts.map V.int,mv',uv',fv']/\
  zi (MkAt c H) mv D.mks/\zi (UsAt c H) uv D.uss/\Ims H fv (D.fls.map flD)/\Ims H mv' (E.mks.map Mkg.d)/\Ims H uv' (E.uss.map Us.d)/\Ims H fv' (E.fls.map flD)
theorem zm {H:Hp} {a:Addr} {xs:List V} {o:HO} (h:H a=some (.lst xs)):FK H (upd H a o):=fun b u e f=>by
 rw[fO (jX e h (fun z=>by rw[z]at f;exact f))]
 exact e
section
variable {c:Cs} {H H':Hp} {S:Sd} {E D:Bd}
end
def Frm (M:List Addr) (H H':Hp):Prop:=∀a o,H a=some o->a∉M->H' a=some o
theorem Frm.trans {M:List Addr} {H H1 H2:Hp} (a:Frm M H H1) (b:Frm M H1 H2):Frm M H H2:=fun c o e n=>b c o (a c o e n) n
def lk:List (Str×Int)->Str->Option Int
 |[],_=>none
 |p::t,w=>if p.1=w then some p.2 else lk t w
inductive Mf where
 |num
 |fn (x y:Int)
 |rcd (l:List (Str×Int))
 |tag (w:Str) (x:Int)
 |row (x:Int)
 |any
def fnd (m:List (Str×Int)) (p:Str×Int):Option (Int×Int):=(lk m p.1).map fun x=>(x,p.2)
def taken (l m:List (Str×Int)):Option (List (Int×Int)):=if(l.filterMap (fnd m)).length=l.length then some (l.filterMap (fnd m))else none
end BO.Internal
namespace L2.Internal
open PySem PySem.Spec PyProof.Rows
section
variable {X:Cx} {e a b o f:Expr} {st:Stmt} {ta tb td ty tx to:TE} {pos apos cpos:Pos}
theorem PE.weak {t t':TE} (h:PE X e t) (m:∀σ H Q,t' σ H Q->t σ H Q):PE X e t':=fun pz s σ H Q I q=>h pz s σ H Q I (m σ H Q q)
theorem PT.weak {t t':TT} (h:PT X e t) (m:∀σ H Q,t' σ H Q->t σ H Q):PT X e t':=fun pz s σ H Q I q=>h pz s σ H Q I (m σ H Q q)
theorem PS.weak {t t':TS} (h:PS X st t) (m:∀D σ H,t' D σ H->t D σ H):PS X st t':=fun pz s σ H D I q=>h pz s σ H D I (m D σ H q)
theorem OpR.weak {g:Value->Value->Sem Value} {r r':R2} (h:OpR X g r) (m:∀x y H Q,r' x y H Q->r x y H Q):OpR X g r':=fun pz s σ H x y v u Q I rx ry q=>h pz s σ H x y v u Q I rx ry (m x y H Q q)
theorem IxR.weak {r r':R2} (h:IxR X r) (m:∀x y H Q,r' x y H Q->r x y H Q):IxR X r':=fun value slice pz s σ H x y v u Q I rx ry q hs=>h value slice pz s σ H x y v u Q I rx ry (m x y H Q q) hs
def mT (t:TE):TE:=fun σ H Q=>∃Q0:VK,t σ H Q0/\∀x H1,Q0 x H1->Q x H1
theorem PE.mono {t:TE} (h:PE X e t):PE X e (mT t):=fun pz s σ H Q I ⟨Q0,h0,m⟩=>thn (h pz s σ H Q0 I h0) fun v s1 ⟨x,H1,I1,r1,q1⟩=>⟨x,H1,I1,r1,m x H1 q1⟩
def mR (r:R2):R2:=fun x y H Q=>∃Q0:VK,r x y H Q0/\∀x H1,Q0 x H1->Q x H1
theorem OpR.mono {g:Value->Value->Sem Value} {r:R2} (h:OpR X g r):OpR X g (mR r):=fun pz s σ H x y v u Q I rx ry ⟨Q0,h0,m⟩=>thn (h pz s σ H x y v u Q0 I rx ry h0) fun v s1 ⟨x,H1,I1,r1,q1⟩=>⟨x,H1,I1,r1,m x H1 q1⟩
def onV:Option (Option V)->(V->Prop)->Prop
 |some (some v),k=>k v
 |_,_=>False
def onS {α:Type}:Option α->(α->Prop)->Prop
 |some v,k=>k v
 |none,_=>False
theorem fN {α:Type} {x:Option α} {v:α} {k:α->Prop} (h:x=some v) (q:k v):onS x k:=by rw[h];exact q
theorem zo {α:Type} {x:Option α} {k:α->Prop} (h:onS x k):∃v,x=some v/\k v:=by
 cases x with
 |none=>exact h.elim
 |some v=>exact⟨v,rfl,h⟩
def cV (i:Nat):TE:=fun σ H Q=>onV σ[i]? fun v=>Q v H
theorem cv (i:Nat) {x:Str} {pos:Pos} (hN:autoParam (X.N[i]?=some x) L2.Internal.auR._auto_1) (hv:Vis X.env.scope x:=by first|exact Or.inl rfl|exact Or.inr (.inl rfl)|exact Or.inr (.inr rfl)) (hd:autoParam ((x==("__debug__":Str))=false) L2.Internal.auD._auto_1)
  (hcd:autoParam ((x==("__classdict__":Str))=false) L2.Internal.auD._auto_1):PE X (.Name x pos) (cV i):=(pv i hN hv hd hcd).weak fun σ H Q h=>by
 unfold cV at h
 cases q:σ[i]? with
 |none=>rw[q]at h;exact h.elim
 |some o=>
  rw[q]at h
  cases o with
  |none=>exact h.elim
  |some v=>exact⟨v,q,h⟩
def cI0 (g:Int->Int->V):R2:=fun x y H Q=>match x,y with
 | .int i,.int j=>Q (g i j) H
 |_,_=>False
def cI (C:Int->Int->Prop) (g:Int->Int->V):R2:=fun x y H Q=>match x,y with
 | .int i,.int j=>C i j/\Q (g i j) H
 |_,_=>False
theorem uo {g:Int->Int->V}:∀x y H Q,cI0 g x y H Q->rI0 g x y H Q:=fun x y H Q h=>by
 unfold cI0 at h
 split at h
 ·exact⟨_,_,rfl,rfl,h⟩
 ·exact h.elim
theorem Cw {C:Int->Int->Prop} {g:Int->Int->V}:∀x y H Q,cI C g x y H Q->rI C g x y H Q:=fun x y H Q h=>by
 unfold cI at h
 split at h
 ·exact⟨_,_,rfl,rfl,h.1,h.2⟩
 ·exact h.elim
theorem oM:OpR X (binaryOp .Add) (cI0 fun i j=> .int (i+j)):=Br.weak uo
theorem zp:OpR X (binaryOp .Sub) (cI0 fun i j=> .int (i-j)):=DJ.weak uo
theorem kE:OpR X (binaryOp .FloorDiv) (cI G8 fun i j=> .int (i/j)):=B0.weak Cw
theorem jY:OpR X (binaryOp .Mod) (cI (fun _ j=>0<j) fun i j=> .int (i%j)):=DM.weak Cw
theorem wx:OpR X (binaryOp .Pow) (cI G9 fun i j=> .int (i^j.toNat)):=DN.weak Cw
theorem D9:OpR X (compareOp .Lt) (cI0 fun i j=> .bl (decide (i<j))):=FH.weak uo
theorem Gd:OpR X (compareOp .Gt) (cI0 fun i j=> .bl (decide (j<i))):=B2.weak uo
theorem Ge:OpR X (compareOp .GtE) (cI0 fun i j=> .bl (decide (j<=i))):=FI.weak uo
def cEq (n:Bool):R2:=fun x y H Q=>match x,y with
 | .int i,.int j=>Q (.bl (xor n (decide (i=j)))) H
 | .str i,.str j=>Q (.bl (xor n (decide (i=j)))) H
 |_,_=>False
theorem Hi {i j:Str}:decide (V.str i=V.str j)=decide (i=j):=by
 rw[eQ]
 simp
theorem Hj {i j:Int}:decide (V.int i=V.int j)=decide (i=j):=by
 rw[eQ]
 simp
theorem kF:OpR X (compareOp .Eq) (cEq false):=sd.weak fun x y H Q h=>by
 unfold cEq at h
 split at h
 ·refine⟨rfl,?_⟩;rw[Hj];rw[eT]at h;exact h
 ·refine⟨rfl,?_⟩;rw[Hi];rw[eT]at h;exact h
 ·exact h.elim
theorem xR:OpR X (compareOp .NotEq) (cEq true):=mJ.weak fun x y H Q h=>by
 unfold cEq at h
 split at h
 ·refine⟨rfl,?_⟩;rw[Hj];rw[Bool.true_xor]at h;exact h
 ·refine⟨rfl,?_⟩;rw[Hi];rw[Bool.true_xor]at h;exact h
 ·exact h.elim
def onB:V->(Bool->Prop)->Prop
 | .bl k,q=>q k
 |_,_=>False
theorem Ea {x:V} {k:Bool->Prop} (h:onB x k):∃c,x= .bl c/\k c:=by
 cases x<;>first|exact⟨_,rfl,h⟩|exact h.elim
def cT (t:TE):TT:=fun σ H Q=>t σ H fun x H'=>onB x fun k=>Q k H'
theorem gz {op:CmpOp} {r:R2} (ho:OpR X (compareOp op) r) (ha:PE X a ta) (hb:PE X b tb) (hm:behindInMarks op b=false:=by exact yD _):PT X (.Compare a [op] [b] pos) (cT (tOp r ta tb)):=
 (iI ho.mono ha.mono hb.mono hm).weak fun σ H Q h=>⟨_,h,fun x H1 h1=>⟨_,h1,fun y H2 h2=>⟨_,h2,fun z H' h3=>Ea h3⟩⟩⟩
def Hl:R2:=fun x y H Q=>match x,y with
 | .ref p,.int i=>∃xs,H p=some (.lst xs)/\onS (atI xs i) fun v=>Q v H
 |_,_=>False
def Dw:R2:=fun x y H Q=>match x,y with
 | .ref p,.int i=>∃xs,H p=some (.tup xs)/\onS (atI xs i) fun v=>Q v H
 |_,_=>False
def Hn:R2:=fun x y H Q=>match x,y with
 | .str z,.int i=>z.length<=sizeLine/\onS (atI z.cps.toList i) fun c=>Q (.str ⟨#[c]⟩) H
 |_,_=>False
theorem fY:IxR X Hl:=yS.weak fun x y H Q h=>by
 unfold Hl at h
 split at h
 ·obtain⟨xs,e,h⟩:=h
  obtain⟨v,ev,h⟩:=zo h
  exact⟨_,xs,_,v,rfl,rfl,SqL.of e,ev,h⟩
 ·exact h.elim
theorem fX:IxR X Dw:=DW.weak fun x y H Q h=>by
 unfold Dw at h
 split at h
 ·obtain⟨xs,e,h⟩:=h
  obtain⟨v,ev,h⟩:=zo h
  exact⟨_,xs,_,v,rfl,rfl,SqT.of e,ev,h⟩
 ·exact h.elim
theorem zq:IxR X Hn:=yT.weak fun x y H Q h=>by
 unfold Hn at h
 split at h
 ·obtain⟨e,h⟩:=h
  obtain⟨v,ev,h⟩:=zo h
  exact⟨_,_,v,rfl,rfl,e,ev,h⟩
 ·exact h.elim
def Fd (H:Hp) (a C:Addr) (f:Str) (v:V):Prop:=∃dx fs,H a=some (.ins C dx fs)/\fs.lookup f=some v
def Nf (H:Hp) (a C:Addr) (m:Str):Prop:=∃dx fs,H a=some (.ins C dx fs)/\fs.lookup m=none
def Ho (C:Addr) (f:Str) (ta:TE):TE:=fun σ H Q=>ta σ H fun x H1=>match x with
 | .ref a=>∃v,Fd H1 a C f v/\Q v H1
 |_=>False
theorem gu {C:Addr} {f:Str} (c:Cls X.K C) (n:ic X.K C f) (he:PE X e ta) (hb:autoParam (attributeBase e f X.env (eval e X.env)=eval e X.env) L2.Internal.auR._auto_1):PE X (.Attribute e f pos) (Ho C f ta):=
 (nJ he.mono hb).weak fun σ H Q h=>⟨_,h,fun x H1 h1=>by
  cases x with
  |ref a=>
   obtain⟨v,⟨dx,fs,ea,ev⟩,q⟩:=h1
   exact⟨a,C,dx,fs,v,rfl,ea,c,n,ev,q⟩
  |_=>exact h1.elim⟩
def Gf (C:Addr) (m:Str) (sp:Sp) (dvs:List V) (E:XK) (ta:TE) (t:TA):TE:=fun σ H Q=>ta σ H fun x H1=>match x with
 | .ref a=>Nf H1 a C m/\t σ H1 fun vs H2=>sp (.ref a::(vs++dvs)) H2 Q E
 |_=>False
theorem hV {C:Addr} {m:Str} {sp:Sp} {dvs:List V} {E:XK} {t:TA} (h:PE X e (Cb C m sp dvs E (mT ta) t)):PE X e (Gf C m sp dvs E ta t):=h.weak fun σ H Q h=>⟨_,h,fun x H1 h1=>by
  cases x with
  |ref a=>
   obtain⟨⟨dx,fs,ea,l⟩,q⟩:=h1
   exact⟨a,dx,fs,rfl,ea,l,q⟩
  |_=>exact h1.elim⟩
def Gg (C:Addr) (f:Str) (ta tv:TE):TS:=fun D σ H=>tv σ H fun y H1=>ta σ H1 fun x H2=>match x with
 | .ref a=>∃dx fs,H2 a=some (.ins C dx fs)/\fs.length<1000/\D.nx σ (upd H2 a (.ins C dx (mi f y fs)))
 |_=>False
theorem iJ {C:Addr} {f:Str} {tv:TE} (c:Cls X.K C) (n:ic X.K C f) (h:PS X st (Hb X.K (mT ta) (mT tv) f)):PS X st (Gg C f ta tv):=h.weak fun D σ H h=>⟨_,h,fun y H1 h1=>⟨_,h1,fun x H2 h2=>by
  cases x with
  |ref a=>
   obtain⟨dx,fs,ea,l,q⟩:=h2
   exact⟨a,C,dx,fs,rfl,ea,c,n,l,q⟩
  |_=>exact h2.elim⟩⟩
def cS:R2:=fun x y H Q=>match x,y with
 | .str i,.str j=>i.length+j.length<=sizeLine/\Q (.str (i++j)) H
 |_,_=>False
theorem kG:OpR X (binaryOp .Add) cS:=rG.weak fun x y H Q h=>by
 unfold cS at h
 split at h
 ·exact⟨_,_,rfl,rfl,h.1,h.2⟩
 ·exact h.elim
def Hq (to ta:TE):TE:=fun σ H Q=>to σ H fun x H1=>match x with
 | .ref l=>(∃xs,H1 l=some (.lst xs))/\ta σ H1 fun y H2=>∃xs,H2 l=some (.lst xs)/\xs.length<sizeLine/\Q .non (upd H2 l (.lst (xs++[y])))
 |_=>False
theorem iP (h:PE X e (tBM X.K "list" yV (mT to) (qO (mT ta) Ar))):PE X e (Hq to ta):=h.weak fun σ H Q h=>⟨_,h,fun x H1 h1=>by
  cases x with
  |ref l=>
   obtain⟨⟨xs,e⟩,q⟩:=h1
   exact⟨.inl ⟨rfl,xs,SqL.of e⟩,_,q,fun y H2 ⟨xs,e,hl,q2⟩=>⟨l,xs,y,rfl,rfl,e,hl,q2⟩⟩
  |_=>exact h1.elim⟩
end
end L2.Internal
namespace BO.Internal
open PySem L2.Internal
structure Rw where
 w:Bool
 a:Int
 b:Int
 y:Option (Int×Int)
structure DL (H:Hp) (d:Addr) (L:List Addr) (f:Int->List V) (k:Nat):Prop where
 ex:∃kvs:List (Key×V),H d=some (.dK kvs)/\kvs.length<=k/\(∀p,je kvs (.inl p)=none->f p=[])/\
  (∀p v,je kvs (.inl p)=some v->∃l,l∈L/\v= .ref l/\H l=some (.lst (f p)))/\(∀p q v,je kvs (.inl p)=some v->je kvs (.inl q)=some v->p=q)
def putf (f:Int->List V) (p:Int) (x:V):Int->List V:=fun q=>if q=p then f p++[x]else f q
structure Sda (H:Hp) (d:Addr) (L:List Addr) (f:Int->List V) (k:Nat) (p:Int) (l:Addr) (H1:Hp):Prop where
 here:H1 l=some (.lst (f p))
 fin:∀H2 x,fW H1 H2->∃L',(∀a∈L',a∈L\/a=l)/\DL (upd H2 l (.lst (f p++[x]))) d L' (putf f p x) (k+ 1)
 fr:∀a o,H a=some o->a≠d->H1 a=some o
 own:l∈L\/H l=none
theorem DL.get {H:Hp} {d:Addr} {L:List Addr} {f:Int->List V} {k:Nat} (W:DL H d L f k) (p:Int) {z:Addr} (hz:H z=none):
  ∃kvs l,(upd H z (.lst [])) d=some (.dK kvs)/\(je kvs (.inl p)).getD (.ref z)= .ref l/\(upd H z (.lst [])) l=some (.lst (f p))/\(l∈L\/H l=none):=by
 obtain⟨kvs,e,hl,h1,h2,h3⟩:=W
 have s:=fE hz (.lst [])
 cases ev:je kvs (.inl p)with
 |none=>exact⟨kvs,z,s _ _ e,by rw[ev];rfl,by rw[h1 p ev];exact fC,.inr hz⟩
 |some v=>
  obtain⟨l,m,rfl,el⟩:=h2 p v ev
  exact⟨kvs,l,s _ _ e,by rw[ev];rfl,s _ _ el,.inl m⟩
end BO.Internal
namespace L2.Internal
open PySem PySem.Spec PyProof.Rows
section
variable {X:Cx}
end
def Itv (K:PySem.W.Frag) (a:Addr) (n:Nat):It:=
 ⟨fun i H=>i<n/\∃xs,SqL K H a xs/\xs.length=n,fun i H x H'=>H'=H/\∀xs,SqL K H a xs->xs[n-1-i]?=some x,fun i _=>i=n⟩
theorem AQ {P:Program} {w:World} {K:PySem.W.Frag} {tg:Expr} (a it:Addr) (n:Nat):Bq P w K tg (Itv K a n) [it] it (fun i h=>h.IsRevIter it a ((n:Int)-1-(i:Int))) where
 mem:=by simp
 obj:=fun i h st b hb=>by
  have e:b=it:=by simpa using hb
  subst e
  obtain⟨o,e,c,d⟩:=st
  exact⟨o,e,fun v z=>by rw[d]at z;cases z⟩
 keep:=fun i h h' st k=>st.at fun o e=>k it (by simp) o e
 item:=by
  intro X hP hw hK hc i pz s σ H E I hf st hg
  subst hP hw hK
  obtain⟨hi,xs,hq,hn⟩:=hg
  obtain⟨its,rv,p,hz⟩:=I.list hq
  have hlt:n-1-i<xs.length:=by lia
  obtain⟨u,hu,ru⟩:=rv.get (bz hlt)
  obtain⟨f0,f1,f2,f3,f4,f5⟩:=hf it (by simp)
  have e:(n:Int)-1-(i:Int)=((n-1-i:Nat):Int):=by lia
  have st':=st
  rw[e]at st'
  refine wpAny_pyNext_rev_item st' p.isList (x:=u) (by simpa using hu) fun h' st2 sb=>?_
  have e2:((n-1-i:Nat):Int)-1=(n:Int)-1-((i+ 1:Nat):Int):=by lia
  rw[e2]at st2
  have I1:Inv X pz σ H {s with heap:=h'}:=I.turned (t':=s.toks) (fun b o hb e=>(sb.2 b hb).trans e) f0 f1 f3 f4 f5
  obtain⟨o,eo,c,d⟩:=id st2
  exact⟨u,rfl,xx (s:={s with heap:=h'}) eo c d (by decide) ⟨xs[n-1-i],H,I1,ru,⟨rfl,fun ys hy=>by rw[I.list_inj hy hq];exact bz hlt⟩,st2,fun b hb=>(hf b hb).1⟩⟩
 done:=by
  intro X hP hw hK hc i pz s σ H E I hf st hg
  subst hP hw hK
  have hi:i=n:=hg
  subst hi
  obtain⟨f0,f1,f2,f3,f4,f5⟩:=hf it (by simp)
  have e:(i:Int)-1-(i:Int)= -1:=by lia
  have st':=st
  rw[e]at st'
  exact wpAny_pyNext_rev_end (I.ok.hd hc) st' fun h' eb=>⟨rfl,I.turned (t':=s.toks) (fun b o hb e=>eb b o hb e) f0 f1 f3 f4 f5⟩
 self:=fun _ _ _ _ _ st h=>wpAny_pyIter_revIter st h
def iRev (K:PySem.W.Frag) (ta:TA):TI:=fun σ H R=>ta σ H fun vs H1=>∃a xs,vs=[.ref a]/\SqL K H1 a xs/\R (Itv K a xs.length) H1
theorem qa:bootBuiltins "reversed"=some (.type "reversed"):=by first|rfl|decide+kernel
section
variable {X:Cx}
theorem Eb {tg:Expr} {a:Expr} {ta:TA} {p pos:Pos} (hg:Gl X "reversed") (hm:X.mg "reversed"=none) (ha:PA X [a] ta) (hs:autoParam (starEach [a] X.env=[(false,eval a X.env)]) L2.Internal.auR._auto_1):
  PI X tg (.Call (.Name "reversed" p) [a] [] pos) (iRev X.K ta):=by
 intro pz s σ H R I h
 refine Call_ (nE I hg hm qa (fu (thn (ha pos pz s σ H _ I h) fun us s1 ⟨vs,H1,I1,r1,q1⟩=>?_) hs rfl))
 obtain⟨l1,xs,e,hq,q⟩:=q1
 subst e
 obtain⟨u,rfl,ru⟩:=lH r1
 cases ru
 obtain⟨i1s,w1,p1,z1⟩:=I1.list hq
 have hl:=w1.length
 refine call_reversed_list p1.isList ?_
 have sz:((i1s.toArray.size:Nat):Int)-1=(xs.length:Int)-1-((0:Nat):Int):=by simp only[aV];lia
 rw[sz]
 have st:(s1.heap.push (revObj l1 ((xs.length:Int)-1-((0:Nat):Int)))).IsRevIter s1.heap.objs.size l1 ((xs.length:Int)-1-((0:Nat):Int)):=⟨_,fg _ rfl,rfl,rfl⟩
 refine wpAny_pyIter_revIter (s:={s1 with heap:=s1.heap.push (revObj l1 ((xs.length:Int)-1-((0:Nat):Int)))}) st ?_
 refine⟨s1.heap.objs.size,[s1.heap.objs.size],_,_,H1,rfl,I1.kept (t':=s1.toks) fun b o e=>fh _ e,AQ l1 _ xs.length,st,fun b hb=>?_,q⟩
 have e:b=s1.heap.objs.size:=by simpa using hb
 subst e
 exact I1.fpOk (cz _) (I1.hok.fresh (cz _))
theorem zr:MtR X "dict.update" (fun x xs H Q=>∃d o kvs more,x= .ref d/\xs=[.ref o]/\d≠o/\H d=some (.dK kvs)/\H o=some (.dK more)/\kvs.length+more.length<=sizeLine/\Q .non (upd H d (.dK (nL kvs more)))):=by
 intro pz s σ H x xs v us Q I rx rs h
 obtain⟨d,o,kvs,more,rfl,rfl,hne,hd,ho,hl,q⟩:=h
 cases rx
 obtain⟨u,rfl,ru⟩:=lH rs
 cases ru
 obtain⟨z1,s1,vs,rel,dd⟩:=xG I.hok hd
 obtain⟨z2,s2,ws,rel2,dd2⟩:=xG I.hok ho
 refine call_meetsIn eE dd.typeIs PySem.F.entry_dict_update (PySem.F.args_dict_update_2 _ _) (meets_dict_update (jg X.prog X.w) d o hne s2) ⟨vs,ws,dd,dd2,by rw[<-rel.length,<-rel2.length];exact hl,fun h' dd' _ sb=>?_⟩
 have he:∃q,h'.get? d=some q:=let⟨q,_,_,hq,_⟩:=dd';⟨q,hq⟩
 have hl':(nL kvs more).length<=sizeLine:=cw (kR more kvs) hl
 exact⟨.non,_,vj (t':=s.toks) I (by rw[hd];exact True.intro) sb he (yM hl' s1 (rel2.merge rel) dd'),rfl,q⟩
end
section
variable {X:Cx}
theorem Gh {scope:Scope} {x y:Str} (ns:List Str) (cap:List (Str×Nat×Addr)) (hns:cap.map (·.1)=ns) (hk:scope.kind= .function) (hn:∀p∈scope.names,p.2≠ .cell/\(p.2= .free->p.1∈ns)) (hl:∀y∈scope.names,y.2= .local->scope.names.lookup y.1=some .local)
  (hx:scope.names.lookup x=some .local) (hnd:(x::y::ns).Nodup) (hc:closureFor scope X.env=pure (cap.map fun p=>(p.1,p.2.2))) (hok:X.env.scope.kind= .function)
  (h:∀p∈cap,scope.names.lookup p.1=some .free/\X.env.cells.lookup p.1=some p.2.2/\X.env.scope.names.lookup p.1=some .cell/\X.N[p.2.1]?=some p.1):
  p7 X (x::y::ns) scope (cap.map fun p=>(p.1,p.2.2)) (fun σ=>none::none::cap.map fun p=>σ.getD p.2.1 none) 0 x where
 kind:=hk
 cell:=fun y hy=>(hn y hy).1
 names:=hl
 clos:=hc
 lk:=fun z c q=>by
  obtain⟨p,hp,e⟩:=bb.mp (PySem.mem_of_lookup q)
  cases e
  exact(h p hp).2.1
 has:=fun z q=>by
  refine oi ?_
  rw[hns]
  rcases q with q|q
  ·obtain⟨k0,e,q⟩:=gN q
   have m:=hn _ (PySem.mem_of_lookup e)
   rcases q with q|⟨q,_⟩
   ·exact absurd q.symm m.1
   ·exact m.2 q
  ·obtain⟨k0,e,q⟩:=gN q
   have m:=hn _ (PySem.mem_of_lookup e)
   rcases q with q|⟨q,_⟩
   ·exact m.2 q.symm
   ·exact m.2 q
 nd:=hnd
 ix:=rfl
 loc:=hx
 len:=fun _ _=>by simp[<-hns]
 val:=fun σ k z v h1 h2=>by
  match k with
  |0=>simp at h2
  |1=>simp at h2
  |k+ 2=>
   rw[<-hns,bC,bC,aM]at h1
   rw[bC,bC,aM]at h2
   cases e:cap[k]? with
   |none=>rw[e]at h1;cases h1
   |some p=>
    rw[e]at h1 h2
    have ez:p.1=z:=cX.inj h1
    have ev:σ.getD p.2.1 none=some v:=cX.inj h2
    subst ez
    obtain⟨a1,a2,a3,a4⟩:=h p (aN e)
    rw[bo]at ev
    refine⟨p.2.1,a4,?_,a3,iC hok a3 a1⟩
    cases q:σ[p.2.1]? with
    |none=>rw[q]at ev;cases ev
    |some o=>rw[q]at ev;exact congrArg some ev
end
section
variable {X:Cx} {pz:List (Addr×Obj)} {σ:St} {H:Hp} {s:Shared}
end
section
variable {prog:Program} {w:World} {A:Around} {R:Result->Shared->Prop} {I:Addr} {fp wr:List Addr} {n:Nat} {P:Nat->Value->Prop} {St:Nat->Heap->Prop}
end
section
variable {prog:Program} {w:World} {A:Around} {E:Value->Shared->Prop} {s:Shared} {l:Addr} {xs:Array (Int×Tok)}
end
section
variable {X:Cx}
end
section
variable {X:Cx}
end
theorem xS:typeLookup (.type "list_reverseiterator") "__len__"=pure none:=by rw[typeLookup_type,builtinLookup_eq_fast];kernel_rfl
theorem AR:typeLookup (.type "list_reverseiterator") "__length_hint__"=pure (some (.builtin "list_reverseiterator.__length_hint__")):=by rw[typeLookup_type,builtinLookup_eq_fast];kernel_rfl
section
variable {prog:Program} {w:World} {A:Around} {s:Shared}
theorem AS {E:Value->Shared->Prop} {it l:Addr} {i:Int} {Q:Bool->Shared->Prop} (hit:s.heap.IsRevIter it l i) (h:Q false s):wpAny (model prog w) A (Builtin.List.listLengthHint (.ref it)) Q E s:=by
 unfold Builtin.List.listLengthHint
 refine wpAny_bind (wpAny_specialOf hit.typeIs xS ?_)
 show wpAny _ _ (specialOf (Value.ref it) (Str.ofString "__length_hint__") >>= _) _ _ _
 refine wpAny_bind (wpAny_specialOf hit.typeIs AR ?_)
 generalize hid:("list_reverseiterator.__length_hint__":String)=idr
 wp_delta
 rw[show splitId idr=some ("list_reverseiterator","__length_hint__")from by subst hid;decide+kernel]
 subst hid
 refine wpAny_bind (wpAny_isInstance (T:="list_reverseiterator") (b:=true) hit.typeIs (by rw[isSubtype_type];kernel_rfl) ?_)
 refine wpAny_ite_split (fun hz=>absurd hz (by decide)) (fun _=>?_)
 refine wpAny_ite_split (fun _=>?_) (fun hz=>absurd gq hz)
 exact wpAny_ite_split (fun hz=>absurd hz (by decide)) (fun _=>wpAny_pure h)
theorem xT {R:Result->Shared->Prop} {it l:Addr} {items:Array Value} (hh:A.handled=none) (hit:s.heap.IsRevIter it l ((items.size:Int)-1)) (hl:s.heap.IsList l items) (hne:l≠it) (hz:items.size<=sizeLine) (D:Addr) (res:Value) (c0:Nat)
  (hD:s.heap.get? D=some {cls:= .type "list",data:= .seq #[] c0}) (hDi:D≠it) (hDl:D≠l)
  (hR:∀h2 tk acc c2,(∀b o,b≠D->b≠it->s.heap.get? b=some o->h2.get? b=some o)->h2.get? D=some {cls:= .type "list",dict:=none,data:= .seq acc c2,slots:=#[]}->
   ItemsOf (fun i v=>items[items.size-1-i]?=some v) acc items.size->R (.ok (.ret res)) {s with heap:=h2,toks:=tk}):
  wpAny (model prog w) A.in1 (Builtin.List.listExtendWith (.ref D) (.ref it) res)
   (fun fin s'=>match fin with| .done f=>R (.ok f) s'| .again c'=>c'.quiet=true/\codeAny (model prog w) A c' R s') (fun e s'=>R (.error e) s') s:=by
 have W:=(Walks.listRev (prog:=prog) (w:=w) (A:=A.in1) hh it l hne items).toS
 unfold Builtin.List.listExtendWith
 refine wpAny_bind (wpAny_typeOf hit.typeIs ?_)
 have h1:Builtin.List.listSameRef (.ref D) (.ref it)=false:=by simp[Builtin.List.listSameRef,hDi]
 have h2:(Value.type "list_reverseiterator"==Value.type "list")=false:=by decide
 have h3:(Value.type "list_reverseiterator"==Value.type "tuple")=false:=by decide
 simp only[h1,h2,h3,Bool.or_false,Bool.false_eq_true,if_false]
 refine wpAny_bind (wpAny_pyIter_revIter hit ?_)
 refine wpAny_bind (wpAny_holding (AS hit ?_))
 refine wpAny_ite_split (fun hz=>absurd hz (by decide)) (fun _=>?_)
 refine wpAny_pure ⟨plainId_quiet F.plain_extend_loop _,codeAny_extend_loopS W hz D (fun hm=>?_) res items.size 0 _ #[] c0 rfl (cA _) ⟨cA _,by simpa using hit,hl⟩ hD (ItemsOf.nil _) fun s' acc c2 hm hS hacc=>?_⟩
 ·rcases ak.mp hm with e|hm
  ·exact hDi e
  ·exact hDl (bf.mp hm)
 ·rw[Moved.eq_with hm]
  refine hR s'.heap s'.toks acc c2 (fun b o hb hb2 e=>hm.heap b o (fun hmem=>?_) e) hS hacc
  rcases ak.mp hmem with e'|hmem
  ·exact hb e'
  ·exact hb2 (bf.mp hmem)
theorem sr {E:Value->Shared->Prop} {Q:Value->Shared->Prop} {it l:Addr} {items:Array Value} (hh:A.handled=none) (hit:s.heap.IsRevIter it l ((items.size:Int)-1)) (hl:s.heap.IsList l items) (hne:l≠it) (hz:items.size<=sizeLine)
  (hQ:∀h2 tk acc c2,(∀b o,b≠it->s.heap.get? b=some o->h2.get? b=some o)->h2.get? s.heap.objs.size=some {cls:= .type "list",dict:=none,data:= .seq acc c2,slots:=#[]}->
   ItemsOf (fun i v=>items[items.size-1-i]?=some v) acc items.size->Q (.ref s.heap.objs.size) {s with heap:=h2,toks:=tk}):
  wpAny (model prog w) A (call (.type "list") [.ref it]) Q E s:=by
 have hi:it<s.heap.objs.size:=by obtain⟨o,e,_⟩:=hit;exact ff e
 have hll:l<s.heap.objs.size:=by obtain⟨o,e,_⟩:=hl;exact ff e
 refine callType_codes (Q₁:=fun obj s₁=>obj= .ref s.heap.objs.size/\s₁={s with heap:=s.heap.push {cls:= .type "list",data:= .seq #[]}}) F.called_list (F.typeCall_list_1 _) F.entry_list_init (code_list_new _ ⟨rfl,rfl⟩) fun obj s1 h1=>?_
 obtain⟨rfl,rfl⟩:=h1
 have hS:(s.heap.push {cls:= .type "list",data:= .seq #[]}).get? s.heap.objs.size=some {cls:= .type "list",data:= .seq #[]}:=fg _ rfl
 have hit1:(s.heap.push {cls:= .type "list",data:= .seq #[]}).IsRevIter it l ((items.size:Int)-1):=hit.at fun o e=>fh _ e
 have hl1:(s.heap.push {cls:= .type "list",data:= .seq #[]}).IsList l items:=hl.push _
 refine⟨⟨_,hS,rfl⟩,F.args_list_init_2 _ _,?_⟩
 show wpAny _ A.in1.in1 (do let old<-Builtin.List.listItems (.ref s.heap.objs.size);Builtin.List.listUpdate (.ref s.heap.objs.size) (fun _=>#[]);letGo old.toList.reverse;Builtin.List.listExtendWith (.ref s.heap.objs.size) (.ref it) .none) _ _ _
 refine wpAny_bind ?_
 unfold Builtin.List.listItems
 refine wpAny_bind (wpAny_seqItems hS rfl (wpAny_pure ?_))
 show wpAny _ A.in1.in1 (updateSeq s.heap.objs.size (fun _=>#[]) >>= fun _=>letGo (#[]:Array Value).toList.reverse >>= fun _=>Builtin.List.listExtendWith (.ref s.heap.objs.size) (.ref it) .none) _ _ _
 refine wpAny_bind (wpAny_updateSeq hS rfl ?_)
 have hS2:=fo (Obj.mapSeq (fun _=>(#[]:Array Value))) hS rfl
 refine wpAny_bind (wpAny_letGo ?_)
 have ni:s.heap.objs.size≠it:=cy hi
 have nl:s.heap.objs.size≠l:=cy hll
 refine xT (A:=A.in1) hh (hit1.at fun o e=>(fq _ _ ni).trans e) (hl1.at fun o e=>(fq _ _ nl).trans e) hne hz _ .none _ hS2 ni nl fun h2 tk acc c2 hk hD hacc=>?_
 exact⟨rfl,hQ h2 tk acc c2 (fun b o hb e=>hk b o (cu (ff e)) hb ((fq _ _ (cy (ff e))).trans (fh _ e))) hD hacc⟩
end
section
variable {X:Cx}
def tLR (K:PySem.W.Frag) (ta:TA):TE:=fun σ H Q=>ta σ H fun vs H1=>∃a xs,vs=[.ref a]/\SqL K H1 a xs/\∀l,H1 l=none->Q (.ref l) (upd H1 l (.lst xs.reverse))
theorem xU {a:Expr} {ta:TA} {p pos p2 pos2:Pos} (hc:X.calm=true) (hg:Gl X "list") (hm:X.mg "list"=none) (hg2:Gl X "reversed") (hm2:X.mg "reversed"=none) (ha:PA X [a] ta)
  (hs:autoParam (starEach [a] X.env=[(false,eval a X.env)]) L2.Internal.auR._auto_1) (hs2:autoParam (starEach [.Call (.Name "reversed" p2) [a] [] pos2] X.env=[(false,eval (.Call (.Name "reversed" p2) [a] [] pos2) X.env)]) L2.Internal.auR._auto_1):
  PE X (.Call (.Name "list" p) [.Call (.Name "reversed" p2) [a] [] pos2] [] pos) (tLR X.K ta):=by
 intro pz s σ H Q I h
 refine wpAny_Call_Name_kw (nE I hg hm y0 ?_ (by decide) (by decide))
 refine fu ?_ hs2 rfl
 rw[hs2]
 refine Calls.spliced_cons ?_
 refine Call_ (nE I hg2 hm2 qa (fu (thn (ha pos2 pz s σ H _ I h) fun us s1 ⟨vs,H1,I1,r1,q1⟩=>?_) hs rfl))
 obtain⟨l1,xs,e,hq,q⟩:=q1
 subst e
 obtain⟨u,rfl,ru⟩:=lH r1
 cases ru
 obtain⟨i1s,w1,p1,z1⟩:=I1.list hq
 have hlen:=w1.length
 refine call_reversed_list p1.isList ?_
 refine Calls.spliced_nil ?_
 have st:(s1.heap.push (revObj l1 ((i1s.toArray.size:Int)-1))).IsRevIter s1.heap.objs.size l1 ((i1s.toArray.size:Int)-1):=⟨_,fg _ rfl,rfl,rfl⟩
 have hlt:l1<s1.heap.objs.size:=by obtain⟨o,e,_⟩:=p1.isList;exact ff e
 refine sr (I1.ok.hd hc) st (p1.isList.push _) (cu hlt) (by rw[aV];lia) fun h2 tk acc c2 hk hD hacc=>?_
 have kp:∀b o,s1.heap.get? b=some o->h2.get? b=some o:=fun b o e=>hk b o (cu (ff e)) (fh _ e)
 have sz:(s1.heap.push (revObj l1 ((i1s.toArray.size:Int)-1))).objs.size=s1.heap.objs.size+ 1:=fj ..
 have hv:ik xs.reverse acc.toList:=by
  have e2:acc.toList=i1s.reverse:=by
   refine List.ext_getElem? fun j=>?_
   by_cases hj:j<acc.size
   ·have h3:=hacc.2 j acc[j] (eX hj)
    have hs3:acc.size=i1s.length:=by have h9:=hacc.1;simpa using h9
    rw[aV]at h3
    rw[List.getElem?_reverse (show j<i1s.length by lia)]
    rw[eW,eX hj,<-h3]
    simp
   ·have h4:acc.size=i1s.length:=by
     have h9:=hacc.1
     simpa using h9
    rw[bD (by simpa using hj),bD (by rw[bE];lia)]
  rw[e2]
  exact w1.reverse
 refine⟨.ref (s1.heap.objs.size+ 1),_,?_,by rw[sz];rfl,q (s1.heap.objs.size+ 1) (I1.hok.fresh (cC _))⟩
 refine I1.laid (a:=s1.heap.objs.size+ 1) (t':=tk) kp (cC _) ⟨by rw[bE];exact z1,acc.toList,c2,hv,?_⟩
 rw[<-sz]
 simpa using hD
end
end L2.Internal
namespace L2.Internal
open PySem PySem.Spec PyProof.Rows PySem.W
section
variable {prog:Program} {w:World} {A:Around} {E:Value->Shared->Prop} {s:Shared}
end
section
variable {X:Cx}
end
section
variable {fs ex:List Addr} {H H':Hp} {h h':Heap}
end
section
variable {X:Cx} {pz:List (Addr×Obj)} {σ:St} {H H':Hp} {s:Shared} {h':Heap}
end
section
variable {X:Cx}
end
end L2.Internal
namespace L2.Internal
open PySem PySem.Spec PyProof.Rows
section
variable {X:Cx} {pz:List (Addr×Obj)} {σ:St} {H:Hp} {s:Shared}
end
section
variable {X:Cx}
end
section
open PySem.SeqAt
open PySem.AutoSeq1 (wpAny_loadPart')
open PySem.MeetsSeq PySem.MeetsSeq2 PySem.MeetsSeq3
end
section
variable {X:Cx}
end
section
variable {X:Cx}
end
section
variable {X:Cx}
end
theorem rM:∀{ys:List Str} {its:List Value},ik (ys.map V.str) its->∃l:List (Str×Tok),its=strValues l/\l.map (·.1)=ys
 |[],its,h=>by
  cases its with
  |nil=>exact⟨[],rfl,rfl⟩
  |cons a b=>exact absurd h.length (by simp)
 |y::ys,its,h=>by
  cases its with
  |nil=>exact absurd h.length (by simp)
  |cons u its=>
   obtain⟨t,rfl⟩:∃t,u= .str y t:=by
    obtain⟨v,hv,r⟩:=h.get (i:=0) (show((y::ys).map V.str)[0]?=some (.str y)from rfl)
    cases hv
    exact r
   obtain⟨l,e1,e2⟩:=rM (ys:=ys) (its:=its) (by
    cases h with
    |cons _ h=>exact h)
   exact⟨(y,t)::l,by rw[e1];rfl,by rw[aB,e2]⟩
section
variable {X:Cx}
def Gj (K:PySem.W.Frag):V->List V->Hp->VK->Prop:=fun x xs H Q=>∃(z:Str) (a:Addr) (ys:List Str),x= .str z/\xs=[.ref a]/\SqL K H a (ys.map V.str)/\(ys.map (·.length)).sum+ys.length*z.length<=sizeLine/\Q (.str (Str.join z ys)) H
theorem zt:MtR X "str.join" (Gj X.K):=by
 intro pz s σ H x xs v us Q I rx rs h
 obtain⟨z,a,ys,rfl,rfl,hq,hz,q⟩:=h
 obtain⟨t,rfl⟩:=rx
 obtain⟨u,rfl,ru⟩:=lH rs
 cases ru
 obtain⟨its,rv,p,_⟩:=I.list hq
 obtain⟨l,e1,e2⟩:=rM rv
 have hl:=p.isList
 rw[e1]at hl
 refine SC.join hl e2 ?_ fun t' k=>?_
 ·unfold JoinOk
  rw[StrLaws.joinTotal]
  have:¬(ys.map (·.length)).sum+ys.length*z.length>sizeLine:=by lia
  show(!Builtin.Str.tooLong _)=true
  unfold Builtin.Str.tooLong
  rw[ig this]
  rfl
 ·have e:Txt.join z ys=Str.join z ys:=StrLaws.glued_eq_join z ys
  rw[e]
  exact⟨.str _,H,I.tok k,⟨_,rfl⟩,q⟩
end
section
variable {X:Cx}
end
section
variable {X:Cx}
end
section
variable {prog:Program} {w:World} {A:Around} {E:Value->Shared->Prop} {h:Heap} {g:Array GenState} {d:Drawn} {t:Nat} {os:OsState} {a D:Addr} {o:Obj} {K:PySem.W.Frag}
structure Hr (K:PySem.W.Frag) (D:Addr):Prop where
 ga:du K (.ref D) "__getattribute__"=some (some (.builtin "BaseException.__getattribute__"))
 gn:du K (.ref D) "__getattr__"=some none
 cl:du K (.ref D) "__class__"=some (some (.builtin "object.__class__"))
 sb:dS K (.ref D) (.type "BaseException")=some true
 so:dS K (.ref D) (.type "object")=some true
 is:dt K D=true
end
section
variable {X:Cx}
end
open Sem (wp)
def DK (h h':Heap):Prop:=∀b o,h.get? b=some o->∃o',h'.get? b=some o'/\o'.dict=o.dict/\o'.cls=o.cls
theorem DK.trans {h h1 h2:Heap} (a:DK h h1) (b:DK h1 h2):DK h h2:=fun x o e=>by
 obtain⟨o1,e1,d1,c1⟩:=a x o e
 obtain⟨o2,e2,d2,c2⟩:=b x o1 e1
 exact⟨o2,e2,d2.trans d1,c2.trans c1⟩
section
variable {prog:Program} {w:World} {A:Around} {E:Value->Shared->Prop} {h:Heap} {g:Array GenState} {d:Drawn} {t:Nat} {os:OsState} {a D dx:Addr} {o:Obj} {K:PySem.W.Frag} {name:Str} {v:Value} {mA:Str->Option Value}
end
open Builtin Builtin.ObjectAttr
section
variable {prog:Program} {w:World} {A:Around} {E:Value->Shared->Prop} {h:Heap} {g:Array GenState} {d:Drawn} {t:Nat} {os:OsState} {a D dx:Addr} {o:Obj} {K:PySem.W.Frag} {name:Str} {v:Value} {mA:Str->Option Value} {cd:ClassData} {vs:Array Value}
structure Hs (K:PySem.W.Frag) (D:Addr):Prop where
 xc:Hr K D
 sa:du K (.ref D) "__setattr__"=some (some (.builtin "object.__setattr__"))
 mro:∃cd,PySem.W.clsIn K D=some cd/\cd.hasDict=true/\∀self,refuseLoop self "__setattr__" cd.mro=pure ()
end
section
variable {prog:Program} {w:World} {A:Around} {E:Value->Shared->Prop} {h:Heap} {g:Array GenState} {d:Drawn} {t:Nat} {os:OsState}
variable {nm q:Str} {C N:Addr} {bs bm bmB:List Value} {hdct:Bool} {sn:List Str} {sub:List Value} {ab:Bool} {col:Option Bool} {dd:Option Addr} {k0 k1 k2 k3 k5:Option Value} {B newId initId:String}
end
section
variable {prog:Program} {w:World} {A:Around} {E:Value->Shared->Prop} {s:Shared} {env:Env}
variable {nm q:Str} {C N:Addr} {bs bm bmB:List Value} {hdct:Bool} {sn:List Str} {sub:List Value} {ab:Bool} {col:Option Bool} {dd:Option Addr} {k0 k1 k2 k3 k5:Option Value} {B newId initId:String}
end
section
variable {P:Program} {w:World} {H:Hp} {h:Heap} {a C dx:Addr}
end
section
variable {X:Cx} {pz:List (Addr×Obj)} {σ:St} {H:Hp} {s:Shared} {A:Around} {E:Value->Shared->Prop} {a C dx:Addr} {f:Str} {fs:List (Str×V)}
end
section
variable {X:Cx} {o value e:Expr} {ta tv:TE} {f:Str} {pos pos':Pos}
end
section
variable {P:Program} {w:World} {K:PySem.W.Frag} {mg:Str->Option Value} {base:Heap} {N:List Str} {qual:Str} {scope:Scope} {f:Addr} {cd:Value} {A:Around} {outer:List Env} {s₀:Shared} {H₀:Hp} {E:XK}
end
structure Ht (K:PySem.W.Frag) (C fI:Addr):Prop where
 at_:∃bm N nm q bs hdct sn sub ab col dd k0 k1 k2 k3 k5,K.lookup C=some (excClassObj nm q C N bs bm hdct sn sub ab col dd k0 k1 k2 k3 k5 "ValueError.__new__")/\dU K N=true/\dW K N "__init__"=some (some (.ref fI))/\dY K Cr bm=true
 fn:∃oI,K.lookup fI=some oI/\oI.cls= .type "function"
section
variable {X:Cx} {C fI:Addr} {E:XK} {x:Str} {np cpos pos:Pos} {e:Expr} {es:List Expr} {t:TA} {k:Nat} {fd:FuncData} {ps:List Str} {sp:Sp}
end
section
variable {X:Cx} {Y:Addr} {y n:Str} {py hpos:Pos} {b₀:Stmt} {body:List Stmt} {tb:TS} {i:Nat}
variable {k j:Nat} {f:Addr} {fd:FuncData} {ps:List Str} {sp:Sp} {dvs:List V} {ds:List Value} {x v:Str} {p pv pos pos' tpos:Pos} {e:Expr} {es:List Expr} {t:TA}
end
open Builtin Builtin.ObjectAttr
theorem qb {K:PySem.W.Frag} (self:Value):∀{l:List Value},dY K Cr l=true->refuseLoop self "__setattr__" l=pure ()
 |[],z=>by cases(beq_iff_eq.mp z:Cr=[])
 |v::r,z=>by
  unfold dY at z
  rcases Bool.or_eq_true_iff.mp z with q|q
  ·rw[beq_iff_eq.mp q]
   exact PySem.F.store_ValueError.passes self
  ·split at q
   ·rename_i A
    rw[refuseLoop_ref]
    split at q
    ·rename_i c d cd sl lk
     rw[eR]at q
     exact qb self q.2
    ·cases q
   ·cases q
section
variable {K:PySem.W.Frag} {C fI N:Addr} {nm q:Str} {bs bm:List Value} {sn:List Str} {sub:List Value} {ab:Bool} {col:Option Bool} {dd:Option Addr} {k0 k1 k2 k3 k5:Option Value} {oI:Obj}
theorem Ec (lk:K.lookup C=some (excClassObj nm q C N bs bm true sn sub ab col dd k0 k1 k2 k3 k5 "ValueError.__new__")) (tl:dY K Cr bm=true) (xc:Hr K C) (sa:du K (.ref C) "__setattr__"=some (some (.builtin "object.__setattr__"))):Hs K C:=by
 refine⟨xc,sa,_,by unfold PySem.W.clsIn;rw[lk],rfl,fun self=>?_⟩
 show refuseLoop self "__setattr__" (.ref C::bm)=pure ()
 rw[refuseLoop_ref]
 exact qb self tl
theorem Ed (lk:K.lookup C=some (excClassObj nm q C N bs bm true sn sub ab col dd k0 k1 k2 k3 k5 "ValueError.__new__")) (no:dU K N=true) (ni:dW K N "__init__"=some (some (.ref fI))) (tl:dY K Cr bm=true) (lI:K.lookup fI=some oI) (cI:oI.cls= .type "function"):Ht K C fI:=
 ⟨⟨bm,N,nm,q,bs,true,sn,sub,ab,col,dd,k0,k1,k2,k3,k5,lk,no,ni,tl⟩,⟨oI,lI,cI⟩⟩
end
section
variable {P:Program} {w:World} {K:PySem.W.Frag} {mg:Str->Option Value} {base:Heap}
end
section
variable {prog:Program} {w:World} {A:Around} {E:Value->Shared->Prop} {s:Shared}
end
section
variable {X:Cx}
end
section
variable {X:Cx}
end
section
variable {P:Program} {w:World} {K:PySem.W.Frag} {mg:Str->Option Value} {base:Heap} {N:List Str} {qual:Str} {scope:Scope} {f:Addr} {cd:Value} {A:Around} {outer:List Env} {s₀:Shared} {H₀:Hp} {E:XK}
end
section
variable {X:Cx} {i:Nat} {Y:Addr} {y n:Str} {py hpos:Pos} {b₀:Stmt} {body:List Stmt} {tb:TS}
variable {k:Nat} {f:Addr} {fd:FuncData} {ps:List Str} {sp:Sp} {dvs:List V} {ds:List Value} {x:Str} {p pos pos' tpos:Pos} {e:Expr} {es:List Expr} {t:TA}
end
section
variable {X:Cx}
end
section
variable {X:Cx} {CX:CXT} {k:Nat} {E:XK} {c e:Expr} {es:List Expr} {tc:TE} {t:TA} {pos:Pos} {S:Addr->Sp->Prop}
def Hu (X:Cx) (CX:CXT) (k:Nat) (f:Addr) (sp:Sp):Prop:=∃fd ps,pT X.prog X.w X.K X.mg X.base CX k f fd ps sp/\dE X.K (.ref f)=true/\n8 X.K fd ps []
def Ee (S:Addr->Sp->Prop) (E:XK) (tc:TE) (t:TA):TE:=fun σ H Q=>tc σ H fun x H1=>∃f sp,x= .ref f/\S f sp/\t σ H1 fun vs H2=>sp vs H2 Q E
theorem AU (hS:∀f sp,S f sp->Hu X CX k f sp) (hr:mj k X.A) (hx:mz CX X E) (hc:PE X c tc) (ha:PA X (e::es) t)
  (hq:autoParam (eval (.Call c (e::es) [] pos) X.env=(do callWith pos (<-eval c X.env) [] (backTo pos (starEach (e::es) X.env)) (backToKw pos (keywordEach [] X.env)))) L2.Internal.auR._auto_1)
  (he:autoParam (starEach (e::es) X.env=(false,eval e X.env)::starEach es X.env) L2.Internal.auR._auto_1) (hpl:autoParam ((backTo pos (starEach es X.env)).any (·.1)=false) L2.Internal.auR._auto_1):
  PE X (.Call c (e::es) [] pos) (Ee S E tc t):=by
 intro pz s σ H Q I h
 rw[hq]
 refine wpAny_bind (thn (hc pz s σ H _ I h) fun u s1 ⟨v,H1,I1,r1,f,sp,e1,hs,q1⟩=>?_)
 subst e1
 obtain rfl:u=Value.ref f:=r1
 obtain⟨fd,ps,F,hk,hb⟩:=hS f sp hs
 refine dJ (h₀:=X.base) I1.ok.mod.kin hk (thn (ha pos pz s1 σ H1 _ I1 q1) fun us s2 ⟨vs,H2,I2,r,q⟩=>⟨I2.kIn,?_⟩) he hpl
 exact v9 F hr hb .nil hx I2 r (by rw[aD];exact q)
end
end L2.Internal
namespace HT.Internal
open PySem PySem.Spec PyProof.Rows L2.Internal
section
variable {prog:Program} {w:World} {A:Around} {E:Value->Shared->Prop} {s:Shared}
end
end HT.Internal
namespace L2.Internal
open PySem PySem.Spec PyProof.Rows
section
variable {X:Cx}
end
section
variable {prog:Program} {w:World} {A:Around} {E:Value->Shared->Prop} {s:Shared}
end
section
variable {X:Cx} {pz:List (Addr×Obj)} {σ:St} {H:Hp} {d it t:Addr} {vs:List V} {A:Around} {R:Result->Shared->Prop}
end
section
variable {X:Cx}
end
section
variable {X:Cx}
end
theorem xV {X:Cx}:mI X (.type "dict") (fun xs H Q=>∃(e:Addr) (kvs:List (Key×V)),xs=[.ref e]/\H e=some (.dK kvs)/\∀d,H d=none->Q (.ref d) (upd H d (.dK kvs))):=by
 intro pz s σ H xs us Q I r h
 obtain⟨e,kvs,rfl,he,q⟩:=h
 obtain⟨u,rfl,ru⟩:=lH r
 cases ru
 obtain⟨z,hds,vs,rel,dd⟩:=xG I.hok he
 refine kt_call_dict hds dd (by rw[<-rel.length];exact z) fun h' hd' hs'=>?_
 have hb:=I.big
 have I1:Inv X pz σ (upd H s.heap.objs.size (.dK kvs)) {s with heap:=h'}:=by
  refine I.laid (t':=s.toks) (fun b u e=>?_) (cz _) (yM z (beq_false_of_ne (cy hb)) rel hd')
  rw[hs'.2 b (cu (ff e))]
  exact fh _ e
 exact⟨.ref s.heap.objs.size,_,I1,rfl,q _ (I.hok.fresh (cz _))⟩
end L2.Internal
namespace L2.Internal
end L2.Internal
namespace L2.Internal
open PySem PySem.Spec PyProof.Rows
def Itq (lo k:Int) (n:Nat):It:=⟨fun i _=>i<n,fun i H x H'=>H'=H/\x= .int (lo+(i:Int)*k),fun i _=>n<=i⟩
theorem zu {P:Program} {w:World} {K:PySem.W.Frag} {tg:Expr} (it:Addr) (lo k:Int) (n:Nat):Bq P w K tg (Itq lo k n) [it] it (fun i h=>IsRangeIter h it (lo+(i:Nat)*k) ((n:Int)-(i:Nat)) k) where
 mem:=by simp
 obj:=fun i h st b hb=>by
  have e:b=it:=by simpa using hb
  subst e
  exact⟨_,st,fun v z=>by
   have z':Data.fields _=Data.cell v:=z
   cases z'⟩
 keep:=fun i h h' st k=>k it (by simp) _ st
 item:=by
  intro X hP hw hK hc i pz s σ H E I hf st hg
  subst hP hw hK
  obtain⟨f0,f1,f2,f3,f4,f5⟩:=hf it (by simp)
  have W:=Walks.range (prog:=X.prog) (w:=X.w) (I.ok.hd hc) it lo k n
  refine W.item i s _ _ hg st fun v h' tk hv st' kk=>?_
  obtain⟨t,rfl⟩:=hv
  have I1:Inv X pz σ H {s with heap:=h',toks:=tk}:=I.turned (fun b o hb e=>kk b o (by simpa using hb) e) f0 f1 f3 f4 f5
  exact⟨_,rfl,xx (s:={s with heap:=h',toks:=tk}) (n:="range_iterator") st' rfl rfl (by decide) ⟨.int (lo+(i:Int)*k),H,I1,⟨t,rfl⟩,⟨rfl,rfl⟩,st',fun b hb=>(hf b hb).1⟩⟩
 done:=by
  intro X hP hw hK hc i pz s σ H E I hf st hg
  subst hP hw hK
  obtain⟨f0,f1,f2,f3,f4,f5⟩:=hf it (by simp)
  exact wpAny_pyNext_range_end (I.ok.hd hc) st (by have:n<=i:=hg;lia) fun h' eb=>⟨rfl,I.turned (t':=s.toks) (fun b o hb e=>eb b o hb e) f0 f1 f3 f4 f5⟩
 self:=fun _ _ _ _ _ st h=>wpAny_pyIter_rangeiter st h
def rsz (lo hi k:Int):Nat:=if lo<hi then((hi-lo-1)/k+ 1).toNat else 0
theorem BH {a b k:Int} (h:0<k):Builtin.Range.rangeSize a b k=(rsz a b k:Int):=by
 unfold Builtin.Range.rangeSize rsz
 rw[gx h]
 by_cases z:a<b
 ·have:=Int.ediv_nonneg (show 0<=b-a-1 by lia) (Int.le_of_lt h)
  rw[gx z,gx z,Int.toNat_of_nonneg (by lia)]
 ·rw[fZ z,fZ z]
  rfl
theorem xW {a b k:Int} (ha:0<=a) (ha':a<2^30) (hb:0<=b) (hb':b<2^30) (h:0<k) (hk:k<1000):Builtin.Range.small a b k=true:=by
 have hz:=BH (a:=a) (b:=b) h
 have hl:(rsz a b k:Int)<2^30:=by
  unfold rsz
  split
  ·have h1:=Int.ediv_le_self (a:=b-a-1) k (by lia)
   have h2:=Int.ediv_nonneg (show 0<=b-a-1 by lia) (Int.le_of_lt h)
   rw[Int.toNat_of_nonneg (by lia)]
   lia
  ·decide
 have hm:(b-a-1)/k*k<=b-a-1:=Int.ediv_mul_le _ (by lia)
 unfold Builtin.Range.small
 rw[hz]
 simp only[Builtin.Range.rangeFitsLong,eR,Bool.or_eq_true,decide_eq_true_eq,beq_iff_eq,h,if_true]
 lia
section
variable {X:Cx} {tg:Expr}
theorem zv {pz:List (Addr×Obj)} {σ:St} {H:Hp} {s:Shared} {R:It->Hp->Prop} {E:Value->Shared->Prop} {lo hi k:Int} {t u v:Tok} {tk:Nat} (I:Inv X pz σ H s) (h1:0<=lo) (h2:lo<2^30) (h3:0<=hi) (h4:hi<2^30) (h5:0<k) (h6:k<1000)
  (q:R (Itq lo k (rsz lo hi k)) H):wpAny (model X.prog X.w) X.A (pyIter (.ref s.heap.objs.size)) (PIE X pz σ tg R) E {s with heap:=s.heap.push {cls:= .type "range",data:= .fields #[.int lo t,.int hi u,.int k v]},toks:=tk}:=by
 refine wpAny_pyIter_range (IsRange.new ..) (xW h1 h2 h3 h4 h5 h6) ?_
 have I1:Inv X pz σ H {s with heap:=s.heap.push {cls:= .type "range",data:= .fields #[.int lo t,.int hi u,.int k v]},toks:=tk}:=I.kept fun b o e=>fh _ e
 refine⟨(s.heap.push {cls:= .type "range",data:= .fields #[.int lo t,.int hi u,.int k v]}).objs.size,[(s.heap.push {cls:= .type "range",data:= .fields #[.int lo t,.int hi u,.int k v]}).objs.size],_,_,H,rfl,
  I1.kept (t':=tk) fun b o e=>fh _ e,zu _ lo k (rsz lo hi k),?_,fun b hb=>?_,q⟩
 ·have e1:lo+((0:Nat):Int)*k=lo:=by simp
  have e2:((rsz lo hi k:Nat):Int)-((0:Nat):Int)=Builtin.Range.rangeSize lo hi k:=by rw[BH h5];lia
  show IsRangeIter _ _ (lo+((0:Nat):Int)*k) (((rsz lo hi k:Nat):Int)-((0:Nat):Int)) k
  rw[e1,e2]
  exact fg _ rfl
 ·have e:b=(s.heap.push {cls:= .type "range",data:= .fields #[.int lo t,.int hi u,.int k v]}).objs.size:=by simpa using hb
  subst e
  exact I1.fpOk (cz _) (I1.hok.fresh (cz _))
def Gk (ta:TA):TI:=fun σ H R=>ta σ H fun vs H1=>∃i j k:Int,vs=[.int i,.int j,.int k]/\(0<=i/\i<2^30/\0<=j/\j<2^30/\0<k/\k<1000)/\R (Itq i k (rsz i j k)) H1
theorem zw {a b c:Expr} {ta:TA} {p pos:Pos} (hg:Gl X "range") (hm:X.mg "range"=none) (ha:PA X [a,b,c] ta) (hs:autoParam (starEach [a,b,c] X.env=[(false,eval a X.env),(false,eval b X.env),(false,eval c X.env)]) L2.Internal.auR._auto_1) (hs2:autoParam (starEach [b,c] X.env=[(false,eval b X.env),(false,eval c X.env)]) L2.Internal.auR._auto_1):
  PI X tg (.Call (.Name "range" p) [a,b,c] [] pos) (Gk ta):=by
 intro pz s σ H R I h
 refine Call_ (nE I hg hm boot_range (fu (thn (ha pos pz s σ H _ I h) fun us s1 ⟨vs,H1,I1,r1,q1⟩=>?_) (by rw[hs,hs2]) (by rw[hs2];rfl)))
 obtain⟨i,j,k,e,⟨q1,q2,q3,q4,q5,q6⟩,q⟩:=q1
 subst e
 cases r1 with
 |cons r rr=>
  cases rr with
  |cons r' rr=>
   cases rr with
   |cons r'' rr=>
    cases rr
    obtain⟨t,rfl⟩:=r
    obtain⟨t',rfl⟩:=r'
    obtain⟨t'',rfl⟩:=r''
    exact call_range_3 (by lia) (zv I1 q1 q2 q3 q4 q5 q6 q) (.inl (PyProof.noPylong_small (by lia)))
end
theorem AV {lo k:Int} {n:Nat} {g:TG} {tb:TS} {D:qN} {σ:St} {H:Hp} (Pv:Nat->St->Hp->Prop) (h0:Pv 0 σ H)
  (hs:∀i σ H,i<n->Pv i σ H->g (.int (lo+(i:Int)*k)) σ H fun σ2 H2=>tb {D with nx:=Pv (i+ 1),ct:=Pv (i+ 1),bk:=D.nx} σ2 H2) (hd:∀σ H,Pv n σ H->D.nx σ H):
  ∃W:Nat->Nat->St->Hp->Prop,(∃m,W 0 m σ H)/\∀i m σ H,W i m σ H->
   ((Itq lo k n).stop i H/\D.nx σ H)\/((Itq lo k n).go i H/\∃N:St->Hp->Prop,(∀σ' H',N σ' H'->∃m',m'<m/\W (i+ 1) m' σ' H')/\∀x H',(Itq lo k n).yld i H x H'->g x σ H' fun σ2 H2=>tb {D with nx:=N,ct:=N,bk:=D.nx} σ2 H2):=by
 refine⟨fun i m σ H=>m=n-i/\i<=n/\Pv i σ H,⟨n,by simp,cA _,h0⟩,?_⟩
 rintro i m σ H ⟨rfl,hi,p⟩
 by_cases hlt:i<n
 ·refine .inr ⟨hlt,Pv (i+ 1),fun σ' H' p'=>⟨n-(i+ 1),by lia,rfl,hlt,p'⟩,fun v H' y=>?_⟩
  obtain⟨rfl,rfl⟩:=y
  exact hs i σ H' hlt p
 ·have e:i=n:=by lia
  subst e
  exact .inl ⟨cz _,hd σ H p⟩
end L2.Internal
namespace T1
open PySem
def sub (c:Nat) (z:List Nat) (l:List Nat):List Nat:=l.flatMap fun k=>if k=c then z else[k]
theorem mq (c:Nat) (z a b:List Nat):sub c z (a++b)=sub c z a++sub c z b:=List.flatMap_append ..
theorem su (c:Nat) (z:List Nat):∀l:List Nat,¬c∈l->sub c z l=l
 |[],_=>rfl
 |k::r,h=>by
  have h1:¬k=c:=fun e=>h (e▸ah ..)
  have h2:¬c∈r:=fun m=>h (aj _ m)
  show(if k=c then z else[k])++sub c z r=k::r
  rw[fZ h1,su c z r h2]
  rfl
theorem Cy (c:Nat) (z:List Nat):sub c z [c]=z:=by simp[sub]
theorem wy (c:Nat) (z:Str):∀parts:List Str,(∀p∈parts,¬c∈p.cps.toList)->sub c z.cps.toList (Str.join ⟨#[c]⟩ parts).cps.toList=(Str.join z parts).cps.toList
 |[],_=>rfl
 |[p],h=>su c _ _ (h p (bf.mpr rfl))
 |p::q::r,h=>by
  have ih:=wy c z (q::r) fun a ha=>h a (aj _ ha)
  show sub c z.cps.toList (p++⟨#[c]⟩++Str.join ⟨#[c]⟩ (q::r)).cps.toList=(p++z++Str.join z (q::r)).cps.toList
  simp only[Str.cps_append,eY]
  rw[mq,mq,ih,su c _ _ (h p (ah ..))]
  have e:sub c z.cps.toList [c]=z.cps.toList:=Cy c _
  rw[e]
def cut (c:Nat):List Nat->List (List Nat)
 |[]=>[[]]
 |k::r=>if k=c then[]::cut c r else match cut c r with
  |h::t=>(k::h)::t
  |[]=>[[k]]
theorem wz (c:Nat):∀l:List Nat,¬c∈l->cut c l=[l]
 |[],_=>rfl
 |k::r,h=>by
  have h1:¬k=c:=fun e=>h (e▸ah ..)
  have h2:¬c∈r:=fun m=>h (aj _ m)
  unfold cut
  rw[fZ h1,wz c r h2]
theorem wA (c:Nat):∀(p r:List Nat),¬c∈p->cut c (p++c::r)=p::cut c r
 |[],r,_=>by show(if c=c then[]::cut c r else _)=_;rw[gx rfl]
 |k::p,r,h=>by
  have h1:¬k=c:=fun e=>h (e▸ah ..)
  have h2:¬c∈p:=fun m=>h (aj _ m)
  show(if k=c then _ else match cut c (p++c::r)with|h::t=>(k::h)::t|[]=>[[k]])=_
  rw[fZ h1,wA c p r h2]
theorem wB (c:Nat):∀parts:List Str,parts≠[]->(∀p∈parts,¬c∈p.cps.toList)->cut c (Str.join ⟨#[c]⟩ parts).cps.toList=parts.map (·.cps.toList)
 |[],h,_=>absurd rfl h
 |[p],_,h=>wz c _ (h p (bf.mpr rfl))
 |p::q::r,_,h=>by
  have ih:=wB c (q::r) (by simp) fun a ha=>h a (aj _ ha)
  show cut c (p++⟨#[c]⟩++Str.join ⟨#[c]⟩ (q::r)).cps.toList=_
  simp only[Str.cps_append,eY]
  have e:p.cps.toList++[c]++(Str.join ⟨#[c]⟩ (q::r)).cps.toList=p.cps.toList++c::(Str.join ⟨#[c]⟩ (q::r)).cps.toList:=by simp
  show cut c (p.cps.toList++[c]++(Str.join ⟨#[c]⟩ (q::r)).cps.toList)=_
  rw[e,wA c _ _ (h p (ah ..)),ih]
  rfl
def step (a:List (List Nat)×List Nat) (k:Nat):List (List Nat)×List Nat:=
 if k=32 then(if a.2=[]then(a.1,[])else(a.1++[a.2],[]))else(a.1,a.2++[k])
def wC (l:List Nat):List (List Nat)×List Nat:=l.foldl step ([],[])
def all (a:List (List Nat)×List Nat):List (List Nat):=if a.2=[]then a.1 else a.1++[a.2]
theorem qc (a b:List Nat):wC (a++b)=b.foldl step (wC a):=by unfold wC;rw[List.foldl_append]
theorem zx (c:Nat):∀l,cut c l≠[]
 |[]=>by simp[cut]
 |k::r=>by
  unfold cut
  split
  ·simp
  ·split<;>simp
theorem rN (c:Nat):∀l,cut c (l++[c])=cut c l++[[]]
 |[]=>by simp[cut]
 |k::r=>by
  have ih:=rN c r
  show(if k=c then[]::cut c (r++[c])else match cut c (r++[c])with|h::t=>(k::h)::t|[]=>[[k]])=(if k=c then[]::cut c r else match cut c r with|h::t=>(k::h)::t|[]=>[[k]])++[[]]
  rw[ih]
  split
  ·rfl
  ·cases e:cut c r with
   |nil=>exact absurd e (zx c r)
   |cons h t=>rfl
theorem pA (c:Nat) {k:Nat} (hk:¬k=c):∀l (A:List (List Nat)) (b:List Nat),cut c l=A++[b]->cut c (l++[k])=A++[b++[k]]
 |[],A,b,h=>by
  have e:A=[]/\b=[]:=by
   cases A with
   |nil=>
    have h':[[]]=[b]:=h
    injection h' with h1 _
    exact⟨rfl,h1.symm⟩
   |cons x A=>
    have h':[[]]=x::(A++[b]):=h
    injection h' with _ h2
    simp at h2
  obtain⟨rfl,rfl⟩:=e
  show(if k=c then _ else match cut c []with|h::t=>(k::h)::t|[]=>[[k]])=_
  rw[fZ hk]
  rfl
 |x::r,A,b,h=>by
  have h:(if x=c then[]::cut c r else match cut c r with|h::t=>(x::h)::t|[]=>[[x]])=A++[b]:=h
  show(if x=c then[]::cut c (r++[k])else match cut c (r++[k])with|h::t=>(x::h)::t|[]=>[[x]])=A++[b++[k]]
  by_cases e:x=c
  ·rw[gx e]at h⊢
   cases A with
   |nil=>
    have h':[]::cut c r=[b]:=h
    injection h' with _ h2
    exact absurd h2 (zx c r)
   |cons y A=>
    have h':[]::cut c r=y::(A++[b]):=h
    injection h' with h1 h2
    rw[pA c hk r A b h2,<-h1]
    rfl
  ·rw[fZ e]at h⊢
   cases q:cut c r with
   |nil=>exact absurd q (zx c r)
   |cons g t=>
    rw[q]at h
    have h:(x::g)::t=A++[b]:=h
    cases A with
    |nil=>
     have h':(x::g)::t=[b]:=h
     injection h' with h1 h2
     rw[pA c hk r [] g (by rw[q,h2];rfl),<-h1]
     rfl
    |cons y A=>
     have h':(x::g)::t=y::(A++[b]):=h
     injection h' with h1 h2
     rw[pA c hk r (g::A) b (by rw[q,h2];rfl),<-h1]
     rfl
theorem AW (l:List Nat):∃A,cut 32 l=A++[(wC l).2]/\A.filter (fun p=>decide (p≠[]))=(wC l).1:=by
 suffices H:∀n (l:List Nat),l.length=n->∃A,cut 32 l=A++[(wC l).2]/\A.filter (fun p=>decide (p≠[]))=(wC l).1 from H _ l rfl
 intro n
 induction n with
 |zero=>
  intro l h
  have e:l=[]:=bF.mp h
  subst e
  exact⟨[],rfl,rfl⟩
 |succ n ih=>
  intro l h
  obtain⟨m,k,rfl⟩:∃m k,l=m++[k]:=by
   have hne:l≠[]:=by intro e;rw[e]at h;simp at h
   exact⟨l.dropLast,l.getLast hne,(bG hne).symm⟩
  obtain⟨A,h1,h2⟩:=ih m (by simp at h;exact h)
  rw[qc]
  show ∃A,cut 32 (m++[k])=A++[(step (wC m) k).2]/\A.filter (fun p=>decide (p≠[]))=(step (wC m) k).1
  by_cases e:k=32
  ·subst e
   refine⟨A++[(wC m).2],?_,?_⟩
   ·rw[rN,h1]
    unfold step
    rw[gx rfl]
    split<;>rfl
   ·rw[bH,h2]
    unfold step
    rw[gx rfl]
    by_cases e2:(wC m).2=[]
    ·rw[gx e2,e2];simp
    ·rw[fZ e2];simp[e2]
  ·refine⟨A,?_,?_⟩
   ·unfold step
    rw[fZ e]
    exact pA 32 e m A _ h1
   ·unfold step
    rw[fZ e]
    exact h2
theorem words_cut (l:List Nat):(cut 32 l).filter (fun p=>decide (p≠[]))=all (wC l):=by
 obtain⟨A,h1,h2⟩:=AW l
 rw[h1,bH,h2]
 unfold all
 by_cases e:(wC l).2=[]
 ·rw[gx e,e];simp
 ·rw[fZ e];simp[e]
def ex (k:Nat):List Nat:=if k=40 then[32,40,32]else if k=41 then[32,41,32]else if k=10 then[32]else[k]
def spaced (l:List Nat):List Nat:=l.flatMap ex
theorem sv (a b:List Nat):spaced (a++b)=spaced a++spaced b:=List.flatMap_append ..
theorem spaced_sub:∀l:List Nat,sub 10 [32] (sub 41 [32,41,32] (sub 40 [32,40,32] l))=spaced l
 |[]=>rfl
 |k::r=>by
  have ih:=spaced_sub r
  have e:∀(c:Nat) (z:List Nat) (l:List Nat) (k:Nat),sub c z (k::l)=(if k=c then z else[k])++sub c z l:=fun _ _ _ _=>rfl
  have e2:spaced (k::r)=ex k++spaced r:=rfl
  rw[e,mq,mq,ih,e2]
  congr 1
  unfold ex
  by_cases h1:k=40
  ·rw[gx h1,gx h1];rfl
  ·rw[fZ h1,fZ h1]
   by_cases h2:k=41
   ·rw[gx h2,h2];rfl
   ·rw[fZ h2,e,fZ h2]
    show sub 10 [32] ([k]++[])=_
    rw[aD,e]
    by_cases h3:k=10
    ·rw[gx h3];rfl
    ·rw[fZ h3];rfl
def W (l:List Nat):List (List Nat)×List Nat:=wC (spaced l)
theorem pB (a b:List Nat):W (a++b)=(spaced b).foldl step (W a):=by unfold W;rw[sv,qc]
theorem Gm (a:List Nat) {k:Nat} (hk:k=32\/k=10):W (a++[k])=(all (W a),[]):=by
 rw[pB]
 have e:spaced [k]=[32]:=by rcases hk with e|e<;>subst e<;>rfl
 rw[e]
 show step (W a) 32=_
 unfold step all
 rw[gx rfl]
 split<;>rfl
theorem zy (a:List Nat) {k:Nat} (hk:k=40\/k=41):W (a++[k])=(all (W a)++[[k]],[]):=by
 rw[pB]
 have e:spaced [k]=[32,k,32]:=by rcases hk with e|e<;>subst e<;>rfl
 have n32:¬k=32:=by lia
 rw[e]
 show step (step (step (W a) 32) k) 32=_
 have e1:step (W a) 32=(all (W a),[]):=by
  unfold step all
  rw[gx rfl]
  split<;>rfl
 rw[e1]
 show(if(32:Nat)=32 then(if(step (all (W a),[]) k).2=[]then((step (all (W a),[]) k).1,[])else((step (all (W a),[]) k).1++[(step (all (W a),[]) k).2],[]))else _)=_
 have e2:step (all (W a),[]) k=(all (W a),[k]):=by unfold step;rw[fZ n32];rfl
 rw[gx rfl,e2]
 rfl
theorem Gn (a:List Nat):∀p:List Nat,(∀k∈p,k≠32/\k≠10/\k≠40/\k≠41)->W (a++p)=((W a).1,(W a).2++p):=by
 intro p hp
 rw[pB]
 have e:spaced p=p:=by
  induction p with
  |nil=>rfl
  |cons k r ih=>
   obtain⟨h1,h2,h3,h4⟩:=hp k (ah ..)
   have e2:spaced (k::r)=ex k++spaced r:=rfl
   rw[e2,ih fun x hx=>hp x (aj _ hx)]
   unfold ex
   rw[fZ h3,fZ h4,fZ h2]
   rfl
 rw[e]
 generalize W a=b
 induction p generalizing b with
 |nil=>show b=_;rw[aD]
 |cons k r ih=>
  obtain⟨h1,h2,h3,h4⟩:=hp k (ah ..)
  show r.foldl step (step b k)=_
  have e1:step b k=(b.1,b.2++[k]):=by unfold step;rw[fZ h1]
  have e3:spaced r=r:=by
   have e2:spaced (k::r)=ex k++spaced r:=rfl
   have e4:ex k=[k]:=by unfold ex;rw[fZ h3,fZ h4,fZ h2]
   rw[e2,e4]at e
   injection e
  rw[e1,ih (fun x hx=>hp x (aj _ hx)) e3]
  simp
open Builtin Builtin.Str
theorem replace_codes (x z:Str) (c:Nat):(Txt.replace x ⟨#[c]⟩ z).cps.toList=sub c z.cps.toList x.cps.toList:=by
 rw[StrLaws.replace_one,<-wy c z _ (StrLaws.split_free x c),StrLaws.join_split]
theorem AX (x y:Str):Txt.split x y≠[]:=by
 unfold Txt.split
 split
 ·simp
 ·split
  ·simp
  ·rename_i h
   cases e:occurrences x y 0 x.length (x.length+ 1)with
   |nil=>rw[e]at h;exact absurd rfl h
   |cons a r=>simp[partsBetween]
theorem split_codes (x:Str) (c:Nat):(Txt.split x ⟨#[c]⟩).map (·.cps.toList)=cut c x.cps.toList:=by
 have h:=wB c (Txt.split x ⟨#[c]⟩) (AX x _) (StrLaws.split_free x c)
 rw[StrLaws.join_split]at h
 exact h.symm
theorem flat_len (f:Nat->List Nat) (n:Nat) (h:∀k,(f k).length<=n):∀l:List Nat,(l.flatMap f).length<=n*l.length
 |[]=>by simp
 |k::r=>by
  rw[List.flatMap_cons,aO,az]
  have h1:=h k
  have h2:=flat_len f n h r
  rw[Nat.mul_succ]
  lia
theorem str_ext {x y:Str} (h:x.cps.toList=y.cps.toList):x=y:=by
 obtain⟨a⟩:=x
 obtain⟨b⟩:=y
 have e:a=b:=Array.toList_inj.mp h
 rw[e]
theorem len_codes (x:Str):x.cps.toList.length=x.length:=by rw[eV];rfl
theorem dig_len:∀(k m:Nat),m<10^(k+ 1)->(cG 10 m).length<=k+ 1:=by
 intro k
 induction k with
 |zero=>
  intro m h
  rw[cH (by simpa using h)]
  exact cz _
 |succ k ih=>
  intro m h
  by_cases h10:m<10
  ·rw[cH h10]
   show 1<=_
   lia
  ·have hm:m%10<10:=Nat.mod_lt m (by decide)
   have t:cG 10 (m/10)++cG 10 (m%10)=cG 10 (10*(m/10)+m%10):=cJ (by decide) (by lia) hm
   rw[Nat.div_add_mod]at t
   rw[<-t,aO,cH hm]
   have hq:m/10<10^(k+ 1):=by
    rw[Nat.div_lt_iff_lt_mul (by decide)]
    rw[Nat.pow_succ]at h
    exact h
   have:=ih (m/10) hq
   show _+ 1<=_
   lia
end T1
namespace GR.Internal
open PySem L2.Internal
theorem sz {n:Nat} (h:n<=100000):n<=sizeLine:=cw h (by decide)
theorem fE {H:Hp} {p:Addr} (h:H p=none) (o:HO):fW H (upd H p o):=fun b u q=>by rw[fO (fJ q h)];exact q
def wV (w:List Nat):V:= .str ⟨w.toArray⟩
def qd (l:List Nat):List V:=(T1.all (T1.W l)).map wV
theorem xX (l:List Nat):qd l=((T1.all (T1.W l)).map fun w=>(⟨w.toArray⟩:Str)).map V.str:=by
 unfold qd
 rw[bA]
 rfl
def KWV:List V:=[.str "def",.str "fn",.str "call",.str "let",.str "rec",.str "get",.str "tag",.str "case",.str "row",.str "at",.str "join",.str "size",.str "add",.str "sub",.str "less"]
def SM:Str:="abcdefghijklmnopqrstuvwxyz"
def FG:Str:="0123456789"
def allIn (x y:Str):Bool:=x.cps.toList.all fun c=>decide (c∈y.cps.toList)
def firstIn (x y:Str):Bool:=match x.cps.toList with
 |[]=>false
 |c::_=>decide (c∈y.cps.toList)
def isName (x:Str):Bool:=decide (1<=x.length)&&decide (x.length<=12)&&!inV (.str x) KWV&&firstIn x SM&&allIn x (SM++FG)
theorem first_of {x:Str} (h:1<=x.length):∃c r,x.cps.toList=c::r:=by
 have e:=T1.len_codes x
 cases q:x.cps.toList with
 |nil=>rw[q]at e;simp at e;lia
 |cons c r=>exact⟨c,r,rfl⟩
theorem at0 {c:Nat} {r:List Nat}:atI (c::r) (0:Int)=some c:=fH (j:=0) rfl
def qf (x:Str):Bool:=match x.cps.toList with
 |[]=>false
 |c::_=>c==48
def iY (x:Str):Bool:=decide (1<=x.length)&&decide (x.length<=60)&&allIn x FG&&(!qf x||decide (x="0"))
def uq (x:Str):Int:=(intText? x).getD 0
theorem Cz (c:Nat):decide (V.str ⟨#[c]⟩=V.str "0")=(c==48):=by
 by_cases h:c=48
 ·subst h
  rfl
 ·have h1:¬V.str ⟨#[c]⟩=V.str "0":=fun z=>by
   injection z with z
   have e:(⟨#[c]⟩:Str).cps.toList=("0":Str).cps.toList:=by rw[z]
   have e2:[c]=[48]:=e
   injection e2 with e3 _
   exact h e3
  rw[ig h1]
  exact(beq_eq_false_iff_ne.mpr h).symm
theorem wD:∀c∈FG.cps.toList,48<=c/\c<=57:=gq
theorem allIn_mem {x y:Str} (h:allIn x y=true):∀c∈x.cps.toList,c∈y.cps.toList:=fun c hc=>of_decide_eq_true (bI.mp h c hc)
theorem xY {x:Str} (h1:1<=x.length) (h2:x.length<=100) (h:allIn x FG=true):intText? x=some (uq x):=by
 have hd:PySem.NumText.AllDigits x.cps.toList:=fun c hc=>wD c (allIn_mem h c hc)
 have hne:x.cps.toList≠[]:=by
  obtain⟨c,r,e⟩:=first_of h1
  rw[e]
  exact List.cons_ne_nil _ _
 have e:=PySem.intText_digits hd hne (by lia)
 unfold uq
 rw[e]
 rfl
theorem qg {x:Str} (h:iY x=true):1<=x.length/\x.length<=60/\allIn x FG=true:=by
 unfold iY at h
 simp only[eR,decide_eq_true_eq]at h
 exact⟨h.1.1.1,h.1.1.2,h.1.2⟩
theorem CA {n j:Nat} (h:j<n):ixN n (j:Int)=some j:=by
 unfold ixN
 rw[gx (by lia),gx (by lia)]
 simp
def fR (wl:Addr) (k:Int) (rl:Addr):List (Str×V):=[("words",.ref wl),("taken",.int k),("rows",.ref rl)]
theorem Gq (wl:Addr) (k:Int) (rl:Addr):mi "rows" (.ref rl) (mi "taken" (.int k) (mi "words" (.ref wl) []))=fR wl k rl:=by
 have h1:¬(("words":Str)="taken"):=gq
 have h2:¬(("words":Str)="rows"):=gq
 have h3:¬(("taken":Str)="rows"):=gq
 simp only[mi,fZ h1,fZ h2,fZ h3,fR]
theorem Ef (wl:Addr) (k j:Int) (rl:Addr):mi "taken" (.int j) (fR wl k rl)=fR wl j rl:=by
 have h1:¬(("words":Str)="taken"):=gq
 simp only[mi,fR,fZ h1,gx]
theorem wF (wl:Addr) (k:Int) (rl:Addr):(fR wl k rl).lookup ("words":Str)=some (.ref wl):=by
 unfold fR
 rw[bj,show(("words":Str)=="words")=true by decide+kernel]
theorem sx (wl:Addr) (k:Int) (rl:Addr):(fR wl k rl).lookup ("taken":Str)=some (.int k):=by
 unfold fR
 rw[bj,show(("taken":Str)=="words")=false by decide+kernel,bj,show(("taken":Str)=="taken")=true by decide+kernel]
theorem sy (wl:Addr) (k:Int) (rl:Addr):(fR wl k rl).lookup ("rows":Str)=some (.ref rl):=by
 unfold fR
 rw[bj,show(("rows":Str)=="words")=false by decide+kernel,bj,show(("rows":Str)=="taken")=false by decide+kernel,bj,show(("rows":Str)=="rows")=true by decide+kernel]
theorem AY (wl:Addr) (k:Int) (rl:Addr) {m:Str} (h1:(m=="words")=false) (h2:(m=="taken")=false) (h3:(m=="rows")=false):(fR wl k rl).lookup m=none:=by
 unfold fR
 rw[bj,h1,bj,h2,bj,h3]
 rfl
structure nO (C:Addr) (H:Hp) (p dx wl rl:Addr) (ws:List Str) (k:Nat) (rows:List V):Prop where
 ob:H p=some (.ins C dx (fR wl (k:Int) rl))
 wd:H wl=some (.lst (ws.map V.str))
 rw:H rl=some (.lst rows)
 ne:wl≠rl
structure WOk (ws:List Str):Prop where
 len:ws.length<=30000
 one:∀x∈ws,x≠""/\x.length<=30000/\∀c∈x.cps.toList,c<16^8
theorem nP {ws:List Str} (W:WOk ws) {x:Str} (h:x∈ws):(reprText x).length<=300002:=by
 obtain⟨_,h1,h2⟩:=W.one x h
 have:=StrLaws.reprText_len x h2
 lia
theorem Fg {a:Str} (h:a.length<=300002):(Str.empty++a).length<=sizeLine:=by
 have sl:=sizeLine_eq
 rw[Str.length_append]
 show 0+_<=_
 lia
theorem CC {a b:Str} (h:a.length<=300002) (h2:b.length<=100):(Str.empty++a++b).length<=sizeLine:=by
 have sl:=sizeLine_eq
 rw[Str.length_append,Str.length_append]
 show 0+_+_<=_
 lia
theorem cat3 {a b c:Str} (h:a.length<=300002) (h2:b.length<=100) (h3:c.length<=300002):(Str.empty++a++b++c).length<=sizeLine:=by
 have sl:=sizeLine_eq
 rw[Str.length_append,Str.length_append,Str.length_append]
 show 0+_+_+_<=_
 lia
theorem Hv {a b c d:Str} (h:a.length<=300002) (h2:b.length<=100) (h3:c.length<=300002) (h4:d.length<=100):(Str.empty++a++b++c++d).length<=sizeLine:=by
 have sl:=sizeLine_eq
 rw[Str.length_append,Str.length_append,Str.length_append,Str.length_append]
 show 0+_+_+_+_<=_
 lia
def fP (a b c:Addr):List (Str×V):=[("names",.ref a),("roots",.ref b),("rows",.ref c)]
theorem Gr (a b c:Addr):mi "rows" (.ref c) (mi "roots" (.ref b) (mi "names" (.ref a) []))=fP a b c:=by
 have h1:¬(("names":Str)="roots"):=gq
 have h2:¬(("names":Str)="rows"):=gq
 have h3:¬(("roots":Str)="rows"):=gq
 simp only[mi,fZ h1,fZ h2,fZ h3,fP]
theorem Gs {c:Nat} (h1:48<=c) (h2:c<=57):c∈FG.cps.toList:=by
 have e:FG.cps.toList=[48,49,50,51,52,53,54,55,56,57]:=gq
 rw[e]
 have:c=48\/c=49\/c=50\/c=51\/c=52\/c=53\/c=54\/c=55\/c=56\/c=57:=by lia
 rcases this with rfl|rfl|rfl|rfl|rfl|rfl|rfl|rfl|rfl|rfl<;>decide
theorem str_fig {n:Int} {k:Nat} (h0:0<=n) (h1:n<10^(k+ 1)):(∀c∈(PySem.Str.ofString (toString n)).cps.toList,c∈FG.cps.toList)/\1<=(PySem.Str.ofString (toString n)).length/\(PySem.Str.ofString (toString n)).length<=k+ 1:=by
 obtain⟨m,rfl⟩:=fb h0
 have hm:m<10^(k+ 1):=by
  have z:((m:Nat):Int)<((10^(k+ 1):Nat):Int):=by rw[Int.natCast_pow];exact h1
  exact Int.ofNat_lt.mp z
 have e:=PySem.W.KIN.signs_num m
 have el:=T1.len_codes (PySem.Str.ofString (toString ((m:Nat):Int)))
 rw[e,aC]at el
 refine⟨fun c hc=>?_,?_,?_⟩
 ·rw[e]at hc
  obtain⟨ch,hch,rfl⟩:=bb.mp hc
  obtain⟨r1,r2⟩:=PyProof.Rows.digit_range (Nat.isDigit_of_mem_toDigits (by decide) (by decide) hch)
  exact Gs r1 r2
 ·have z:=PySem.toDigits_len_ge 10 m
  lia
 ·have z:=T1.dig_len k m hm
  lia
theorem Eg {n:Int} (h0:0<=n) (h1:n<10^70):n.natAbs.log2<1920:=by
 by_cases hz:n.natAbs=0
 ·rw[hz]
  decide
 ·rw[Nat.log2_lt hz]
  have a:n.natAbs<10^70:=by lia
  exact Nat.lt_trans a gq
theorem iQ (x y:Str):(x++y).cps.toList=x.cps.toList++y.cps.toList:=by rw[Str.cps_append,eY]
theorem nO.ne1 {C p dx wl rl:Addr} {H:Hp} {ws:List Str} {k:Nat} {rows:List V} (R:nO C H p dx wl rl ws k rows):p≠wl:=jX R.ob R.wd (fun z=>nomatch z)
theorem nO.ne2 {C p dx wl rl:Addr} {H:Hp} {ws:List Str} {k:Nat} {rows:List V} (R:nO C H p dx wl rl ws k rows):p≠rl:=jX R.ob R.rw (fun z=>nomatch z)
theorem nO.next {C p dx wl rl:Addr} {H:Hp} {ws:List Str} {k:Nat} {rows:List V} (R:nO C H p dx wl rl ws k rows) (j:Nat):nO C (upd H p (.ins C dx (fR wl (j:Int) rl))) p dx wl rl ws j rows:=
 ⟨fC,by rw[fO (Ne.symm R.ne1)];exact R.wd,by rw[fO (Ne.symm R.ne2)];exact R.rw,R.ne⟩
theorem nO.same {C p dx wl rl:Addr} {H H':Hp} {ws:List Str} {k:Nat} {rows:List V} (R:nO C H p dx wl rl ws k rows) (S:fW H H'):nO C H' p dx wl rl ws k rows:=⟨S _ _ R.ob,S _ _ R.wd,S _ _ R.rw,R.ne⟩
theorem tn0 {σ:St} {H:Hp} {Q:List V->Hp->Prop} (h:Q [] H):Ar σ H Q:=h
theorem tc1 {v:V} {σ:St} {H:Hp} {Q:List V->Hp->Prop} (h:Q [v] H):qO (tC v) Ar σ H Q:=h
theorem gT (wl:Addr) (k:Int) (rl:Addr) (m:Str) (h:m="ahead"\/m="pass_over"\/m="take_name"\/m="take_expr"\/m="take"\/m="take_row"\/m="take_steady"\/m="take_fields"\/m="take_arms"\/m="take_things"\/m="take_form"):(fR wl k rl).lookup m=none:=by
 rcases h with rfl|rfl|rfl|rfl|rfl|rfl|rfl|rfl|rfl|rfl|rfl<;>exact AY _ _ _ gq gq gq
theorem sA {H H':Hp} {p:Addr} (o:HO) (h:H p=none) (S:fW H H'):fW H (upd H' p o):=fun b u e=>by rw[fO (fJ e h)];exact S b u e
abbrev Rs:=List Str×List Dt
def f9 (pe:List Str->List Dt->Option Rs):List Bool->List Dt->List Str->List Dt->Option (List Dt×Rs)
 |[],acc,ws,rows=>some (acc,ws,rows)
 |true::ps,acc,ws,rows=>match ws with
  |[]=>none
  |x::r=>if isName x=true then f9 pe ps (acc++[.flat (.str x)]) r rows else none
 |false::ps,acc,ws,rows=>match pe ws rows with
  |none=>none
  |some (r,rows')=>f9 pe ps (acc++[.flat (.int (rows.length:Int))]) r rows'
def iE (item:List Str->List Dt->Option (Dt×Rs)) (ws:List Str) (rows acc:List Dt):Option (List Dt×Rs):=
 if ws.head?=some ")" then some (acc,ws,rows)else match item ws rows with
  |none=>none
  |some (d,r,rows')=>if h:r.length<ws.length then iE item r rows' (acc++[d])else none
termination_by ws.length
def ir (pe:List Str->List Dt->Option Rs) (ps:List Bool) (ws:List Str) (rows:List Dt):Option (Dt×Rs):=match f9 pe ps [] ws rows with
 |none=>none
 |some (ds,r)=>some (.tup ds,r)
def jZ (pe:List Str->List Dt->Option Rs) (ws:List Str) (rows:List Dt):Option (Dt×Rs):=match pe ws rows with
 |none=>none
 |some r=>some (.flat (.int (rows.length:Int)),r)
def chk (lo hi:Nat) (o:Option (List Dt×Rs)):Option (List Dt×Rs):=match o with
 |none=>none
 |some (l,r)=>if lo<=l.length/\l.length<=hi then some (l,r)else none
def stT:List (Str×List Bool):=[("fn",[true,false]),("call",[false,false]),("let",[true,false,false]),("get",[false,true]),("tag",[true,false]),("at",[false,false,false]),
 ("join",[false,false]),("size",[false]),("add",[false,false]),("sub",[false,false]),("less",[false,false])]
def stP (h:Str):Option (List Bool):=(stT.find? fun p=>decide (p.1=h)).map (·.2)
def iK (pe:List Str->List Dt->Option Rs) (h:Str) (ws:List Str) (rows:List Dt):Option (List Dt×Rs):=
 if h="rec" then match chk 0 6 (iE (ir pe [true,false]) ws rows [])with
  |none=>none
  |some (l,r)=>some ([.flat (.str "rec"),.tup l],r)
 else if h="case" then match pe ws rows with
  |none=>none
  |some (r1,rows1)=>match chk 1 6 (iE (ir pe [true,true,false]) r1 rows1 [])with
   |none=>none
   |some (l,r)=>some ([.flat (.str "case"),.flat (.int (rows.length:Int)),.tup l],r)
 else if h="row" then match chk 0 8 (iE (jZ pe) ws rows [])with
  |none=>none
  |some (l,r)=>some ([.flat (.str "row"),.tup l],r)
 else match stP h with
  |none=>none
  |some ps=>match f9 pe ps [] ws rows with
   |none=>none
   |some (ds,r)=>some (.flat (.str h)::ds,r)
def lQ (o:Option (List Dt×Rs)):Option (List Dt×Rs):=match o with
 |none=>none
 |some (ds,r,rows)=>match r with
  |[]=>none
  |y::r'=>if y=")" then some (ds,r',rows)else none
def rO (pe:List Str->List Dt->Option Rs) (ws:List Str) (rows:List Dt):Option (List Dt×Rs):=match ws with
 |[]=>none
 |x::r=>if iY x=true then some ([.flat (.str "num"),.flat (.int (uq x))],r,rows)
  else if isName x=true then some ([.flat (.str "name"),.flat (.str x)],r,rows)
  else if x="(" then(match r with
   |[]=>none
   |h::r2=>lQ (iK pe h r2 rows))
  else none
def gk:Nat->List Str->List Dt->Option Rs
 |0,_,_=>none
 |f+ 1,ws,rows=>if rows.length=160 then none else match rO (gk f) ws (rows++[.flat .non])with
  |none=>none
  |some (ds,r,rows')=>some (r,rows'.set rows.length (.tup ds))
def i6 (ws:List Str) (rows:List Dt) (names:List Str) (roots:List Dt):Option (List Str×List Dt×List Dt):=match ws with
 |[]=>some (names,roots,rows)
 |[_]=>none
 |[_,_]=>none
 |a::b::c::r=>if a="("/\b="def"/\isName c=true then(match gk 24 r rows with
   |none=>none
   |some (r2,rows2)=>match r2 with
    |[]=>none
    |y::r3=>if y=")" then(if h:r3.length<r.length+ 3 then i6 r3 rows2 (names++[c]) (roots++[.flat (.int (rows.length:Int))])else none)else none)else none
termination_by ws.length
decreasing_by simp_wf;lia
def lF (ws:List Str):Option (List Str×List Dt×List Dt):=match i6 ws [] [] []with
 |none=>none
 |some (n,r,rows)=>if 1<=n.length/\n.length<=12 then some (n,r,rows)else none
structure oX (ws:List Str) (rows:List Dt) (r:Rs):Prop where
 le:r.1.length<=ws.length
 up:rows.length<=r.2.length
 most:rows.length<=160->r.2.length<=160
 suf:∃u,ws=u++r.1
theorem oX.refl (ws:List Str) (rows:List Dt):oX ws rows (ws,rows):=⟨cz _,cz _,fun h=>h,[],rfl⟩
theorem oX.trans {ws:List Str} {rows:List Dt} {r s:Rs} (a:oX ws rows r) (b:oX r.1 r.2 s):oX ws rows s:=by
 obtain⟨u,e⟩:=a.suf
 obtain⟨v,e'⟩:=b.suf
 exact⟨cw b.le a.le,cw a.up b.up,fun h=>b.most (a.most h),u++v,by rw[bJ,<-e',<-e]⟩
theorem oX.drop {x:Str} {r:List Str} {rows:List Dt}:oX (x::r) rows (r,rows):=⟨cC _,cz _,fun h=>h,[x],rfl⟩
def As (pe:List Str->List Dt->Option Rs):Prop:=∀ws rows r,pe ws rows=some r->oX ws rows r/\r.1.length<ws.length/\rows.length<r.2.length
theorem ke {pe:List Str->List Dt->Option Rs} (g:As pe):∀(ps:List Bool) (acc:List Dt) (ws:List Str) (rows ds:List Dt) (r:Rs),f9 pe ps acc ws rows=some (ds,r)->oX ws rows r/\(ps≠[]->r.1.length<ws.length)/\ds.length=acc.length+ps.length
 |[],acc,ws,rows,ds,r,h=>by
  rw[f9]at h
  cases h
  exact⟨oX.refl _ _,fun z=>absurd rfl z,rfl⟩
 |true::ps,acc,[],rows,ds,r,h=>by
  rw[f9]at h
  cases h
 |true::ps,acc,x::ws,rows,ds,r,h=>by
  rw[f9]at h
  split at h
  ·obtain⟨s,_,l⟩:=ke g ps _ _ _ _ _ h
   have s':=(oX.drop (x:=x)).trans s
   refine⟨s',fun _=>?_,?_⟩
   ·have:=s.le
    simp only[az]
    lia
   ·simp only[aO,az,aT]at l⊢
    lia
  ·cases h
 |false::ps,acc,ws,rows,ds,r,h=>by
  rw[f9]at h
  split at h
  ·cases h
  ·rename_i r1 rows1 e
   obtain⟨s1,lt,_⟩:=g _ _ _ e
   obtain⟨s,_,l⟩:=ke g ps _ _ _ _ _ h
   refine⟨s1.trans s,fun _=>cD s.le lt,?_⟩
   simp only[aO,az,aT]at l⊢
   lia
def ur (item:List Str->List Dt->Option (Dt×Rs)):Prop:=∀ws rows d r,item ws rows=some (d,r)->oX ws rows r/\r.1.length<ws.length
theorem kO {pe:List Str->List Dt->Option Rs} (g:As pe) (ps:List Bool) (h:ps≠[]):ur (ir pe ps):=by
 intro ws rows d r e
 unfold ir at e
 split at e
 ·cases e
 ·rename_i ds r' e'
  cases e
  obtain⟨s,l,_⟩:=ke g ps _ _ _ _ _ e'
  exact⟨s,l h⟩
theorem oj {pe:List Str->List Dt->Option Rs} (g:As pe):ur (jZ pe):=by
 intro ws rows d r e
 unfold jZ at e
 split at e
 ·cases e
 ·rename_i r' e'
  cases e
  obtain⟨s,l,_⟩:=g _ _ _ e'
  exact⟨s,l⟩
theorem om {item:List Str->List Dt->Option (Dt×Rs)} (g:ur item) (ws:List Str) (rows acc:List Dt) (h:ws.head?≠some ")"):
  iE item ws rows acc=match item ws rows with
   |none=>none
   |some (d,r,rows')=>iE item r rows' (acc++[d]):=by
 rw[iE,fZ h]
 cases e:item ws rows with
 |none=>rfl
 |some x=>
  obtain⟨d,r,rows'⟩:=x
  have l:=(g _ _ _ _ e).2
  show(if h:r.length<ws.length then _ else _)=_
  rw[dif_pos l]
theorem kT {item:List Str->List Dt->Option (Dt×Rs)} (ws:List Str) (rows acc:List Dt) (h:ws.head?=some ")"):iE item ws rows acc=some (acc,ws,rows):=by
 rw[iE,gx h]
theorem qh {item:List Str->List Dt->Option (Dt×Rs)} (g:ur item):∀(n:Nat) (ws:List Str) (rows acc l:List Dt) (r:Rs),ws.length<=n->iE item ws rows acc=some (l,r)->oX ws rows r:=by
 intro n
 induction n with
 |zero=>
  intro ws rows acc l r hn h
  by_cases hh:ws.head?=some ")"
  ·rw[kT _ _ _ hh]at h
   cases h
   exact oX.refl _ _
  ·rw[om g _ _ _ hh]at h
   split at h
   ·cases h
   ·rename_i d r' rows' e
    have l:=(g _ _ _ _ e).2
    lia
 |succ n ih=>
  intro ws rows acc l r hn h
  by_cases hh:ws.head?=some ")"
  ·rw[kT _ _ _ hh]at h
   cases h
   exact oX.refl _ _
  ·rw[om g _ _ _ hh]at h
   split at h
   ·cases h
   ·rename_i d r' rows' e
    obtain⟨s,lt⟩:=g _ _ _ _ e
    exact s.trans (ih _ _ _ _ _ (by lia) h)
theorem sC {lo hi:Nat} {o:Option (List Dt×Rs)} {l:List Dt} {r:Rs} (h:chk lo hi o=some (l,r)):o=some (l,r)/\lo<=l.length/\l.length<=hi:=by
 unfold chk at h
 split at h
 ·cases h
 ·split at h
  ·cases h
   rename_i z
   exact⟨rfl,z⟩
  ·cases h
theorem zz {pe:List Str->List Dt->Option Rs} (g:As pe) {h:Str} {ws:List Str} {rows ds:List Dt} {r:Rs} (e:iK pe h ws rows=some (ds,r)):oX ws rows r:=by
 unfold iK at e
 split at e
 ·split at e
  ·cases e
  ·rename_i l r' e'
   cases e
   exact qh (kO g _ (by simp)) _ _ _ _ _ _ (cz _) (sC e').1
 split at e
 ·split at e
  ·cases e
  ·rename_i r1 rows1 e1
   split at e
   ·cases e
   ·rename_i l r' e'
    cases e
    exact(g _ _ _ e1).1.trans (qh (kO g _ (by simp)) _ _ _ _ _ _ (cz _) (sC e').1)
 split at e
 ·split at e
  ·cases e
  ·rename_i l r' e'
   cases e
   exact qh (oj g) _ _ _ _ _ _ (cz _) (sC e').1
 split at e
 ·cases e
 ·split at e
  ·cases e
  ·rename_i ds' r' e'
   cases e
   exact(ke g _ _ _ _ _ _ e').1
theorem xZ {o:Option (List Dt×Rs)} {ds:List Dt} {r:Rs} {ws:List Str} {rows:List Dt} (h:∀ds' r',o=some (ds',r')->oX ws rows r') (e:lQ o=some (ds,r)):oX ws rows r:=by
 unfold lQ at e
 split at e
 ·cases e
 ·rename_i ds' r' rows'
  split at e
  ·cases e
  ·split at e
   ·cases e
    exact(h _ _ rfl).trans oX.drop
   ·cases e
theorem wG {pe:List Str->List Dt->Option Rs} (g:As pe) {ws:List Str} {rows ds:List Dt} {r:Rs} (e:rO pe ws rows=some (ds,r)):oX ws rows r/\r.1.length<ws.length:=by
 unfold rO at e
 split at e
 ·cases e
 ·rename_i x ws'
  split at e
  ·cases e
   exact⟨oX.drop,cB _⟩
  split at e
  ·cases e
   exact⟨oX.drop,cB _⟩
  split at e
  ·split at e
   ·cases e
   ·rename_i hh h r2
    have s:=xZ (fun ds' r' z=>zz g z) e
    have s2:=(oX.drop (x:=h)).trans s
    exact⟨(oX.drop (x:=x)).trans s2,cD s2.le (cB _)⟩
  ·cases e
theorem iR:∀f:Nat,As (gk f)
 |0=>fun ws rows r e=>by rw[gk]at e;cases e
 |f+ 1=>fun ws rows r e=>by
  rw[gk]at e
  split at e
  ·cases e
  ·rename_i hne
   split at e
   ·cases e
   ·rename_i ds r' rows' e'
    cases e
    obtain⟨s,lt⟩:=wG (iR f) e'
    have up:=s.up
    simp only[aO,az,aT]at up
    refine⟨⟨s.le,?_,fun h=>?_,s.suf⟩,lt,?_⟩
    ·show rows.length<=(rows'.set _ _).length
     rw[aX]
     lia
    ·show(rows'.set _ _).length<=160
     rw[aX]
     refine s.most ?_
     simp only[aO,az,aT]
     lia
    ·show rows.length<(rows'.set _ _).length
     rw[aX]
     lia
section
variable {pe:List Str->List Dt->Option Rs} {x:Str} {r:List Str} {rows:List Dt}
theorem vt (h:iY x=true):rO pe (x::r) rows=some ([.flat (.str "num"),.flat (.int (uq x))],r,rows):=by unfold rO;exact gx h
theorem sE (h1:¬iY x=true) (h:isName x=true):rO pe (x::r) rows=some ([.flat (.str "name"),.flat (.str x)],r,rows):=by unfold rO;exact(fZ h1).trans (gx h)
theorem Eh (h1:¬iY x=true) (h2:¬isName x=true) (h:¬x="("):rO pe (x::r) rows=none:=by unfold rO;exact(fZ h1).trans ((fZ h2).trans (fZ h))
theorem vv {y:Str} (h1:¬iY x=true) (h2:¬isName x=true) (h:x="("):rO pe (x::y::r) rows=lQ (iK pe y r rows):=by unfold rO;exact(fZ h1).trans ((fZ h2).trans (gx h))
theorem AZ (h1:¬iY x=true) (h2:¬isName x=true) (h:x="("):rO pe [x] rows=none:=by unfold rO;exact(fZ h1).trans ((fZ h2).trans (gx h))
end
section
variable {rows:List Dt} {names:List Str} {roots:List Dt}
theorem defs_nil:i6 [] rows names roots=some (names,roots,rows):=by rw[i6]
theorem A1 {ws:List Str} (h0:ws≠[]) (h:ws.head?≠some "("):i6 ws rows names roots=none:=by
 match ws,h0,h with
 |[_],_,_=>rw[i6]
 |[_,_],_,_=>rw[i6]
 |a::b::c::r,_,h=>
  rw[i6,fZ]
  exact fun z=>h (congrArg some z.1)
theorem A2 {r:List Str} (h:r.head?≠some "def"):i6 ("("::r) rows names roots=none:=by
 match r,h with
 |[],_=>rw[i6]
 |[_],_=>rw[i6]
 |b::c::r,h=>
  rw[i6,fZ]
  exact fun z=>h (congrArg some z.2.1)
theorem A4 {r:List Str} (h:∀x r',r=x::r'->isName x=false):i6 ("("::"def"::r) rows names roots=none:=by
 match r,h with
 |[],_=>rw[i6]
 |c::r,h=>
  rw[i6,fZ]
  intro z
  have:=h c r rfl
  rw[z.2.2]at this
  cases this
theorem A6 {c:Str} {r:List Str} (hc:isName c=true) (e:gk 24 r rows=none):i6 ("("::"def"::c::r) rows names roots=none:=by
 rw[i6,gx ⟨rfl,rfl,hc⟩,e]
theorem A7 {c:Str} {r r2:List Str} {rows2:List Dt} (hc:isName c=true) (e:gk 24 r rows=some (r2,rows2)) (h:r2.head?≠some ")"):i6 ("("::"def"::c::r) rows names roots=none:=by
 rw[i6,gx ⟨rfl,rfl,hc⟩,e]
 match r2,h with
 |[],_=>rfl
 |y::r3,h=>exact fZ fun z=>h (congrArg some z)
theorem defs_yes {c:Str} {r r3:List Str} {rows2:List Dt} (hc:isName c=true) (e:gk 24 r rows=some ((")":Str)::r3,rows2)):i6 ("("::"def"::c::r) rows names roots=i6 r3 rows2 (names++[c]) (roots++[.flat (.int (rows.length:Int))]):=by
 rw[i6,gx ⟨rfl,rfl,hc⟩,e]
 have l:((")":Str)::r3).length<r.length:=(iR 24 _ _ _ e).2.1
 have l2:r3.length<r.length+ 3:=by
  rw[az]at l
  lia
 show(if(")":Str)=")" then(if h:r3.length<r.length+ 3 then _ else _)else _)=_
 rw[gx rfl,dif_pos l2]
end
mutual
inductive TAt (K:PySem.W.Frag) (H:Hp):V->Dt->Prop where
 |flat {v:V} (h:pX v=true):TAt K H v (.flat v)
 |tup {a:Addr} {xs:List V} {ds:List Dt} (h:H a=some (.tup xs)) (hs:kN K H xs ds):TAt K H (.ref a) (.tup ds)
inductive kN (K:PySem.W.Frag) (H:Hp):List V->List Dt->Prop where
 |nil:kN K H [] []
 |cons {x:V} {d:Dt} {xs:List V} {ds:List Dt} (h:TAt K H x d) (hs:kN K H xs ds):kN K H (x::xs) (d::ds)
end
section
variable {K:PySem.W.Frag} {H H':Hp}
mutual
theorem TAt.mono (k:∀a xs,H a=some (.tup xs)->H' a=some (.tup xs)):∀{x:V} {d:Dt},TAt K H x d->TAt K H' x d
 |_,_,.flat h=> .flat h
 |_,_,.tup h hs=> .tup (k _ _ h) (kN.mono k hs)
theorem kN.mono (k:∀a xs,H a=some (.tup xs)->H' a=some (.tup xs)):∀{xs:List V} {ds:List Dt},kN K H xs ds->kN K H' xs ds
 |_,_,.nil=> .nil
 |_,_,.cons h hs=> .cons (TAt.mono k h) (kN.mono k hs)
end
theorem kN.length:∀{xs:List V} {ds:List Dt},kN K H xs ds->xs.length=ds.length
 |_,_,.nil=>rfl
 |_,_,.cons _ t=>by rw[az,az,kN.length t]
theorem kN.app:∀{xs ys:List V} {ds es:List Dt},kN K H xs ds->kN K H ys es->kN K H (xs++ys) (ds++es)
 |_,_,_,_,.nil,q=>q
 |_,_,_,_,.cons h t,q=> .cons h (kN.app t q)
theorem kN.snoc {xs:List V} {ds:List Dt} {x:V} {d:Dt} (a:kN K H xs ds) (b:TAt K H x d):kN K H (xs++[x]) (ds++[d]):=a.app (.cons b .nil)
theorem kN.set:∀{xs:List V} {ds:List Dt} {x:V} {d:Dt} (j:Nat),kN K H xs ds->TAt K H x d->kN K H (xs.set j x) (ds.set j d)
 |_,_,_,_,_,.nil,_=> .nil
 |_,_,_,_,0,.cons _ t,q=> .cons q t
 |_,_,_,_,j+ 1,.cons h t,q=> .cons h (kN.set j t q)
end
def K2 (p q:Addr) (H H':Hp):Prop:=∀b o,H b=some o->b≠p->b≠q->H' b=some o
theorem K2.refl (p q:Addr) (H:Hp):K2 p q H H:=fun _ _ e _ _=>e
theorem K2.trans {p q:Addr} {H H1 H2:Hp} (a:K2 p q H H1) (b:K2 p q H1 H2):K2 p q H H2:=fun c o e h1 h2=>b c o (a c o e h1 h2) h1 h2
theorem fW.k2 {p q:Addr} {H H':Hp} (s:fW H H'):K2 p q H H':=fun b o e _ _=>s b o e
theorem K2.upd1 {p q:Addr} {H H':Hp} (k:K2 p q H H') (o:HO):K2 p q H (upd H' p o):=fun b u e h1 h2=>by rw[fO h1];exact k b u e h1 h2
theorem K2.upd2 {p q:Addr} {H H':Hp} (k:K2 p q H H') (o:HO):K2 p q H (upd H' q o):=fun b u e h1 h2=>by rw[fO h2];exact k b u e h1 h2
theorem K2.sqT {K:PySem.W.Frag} {p q:Addr} {H H':Hp} {o1 o2:HO} (k:K2 p q H H') (h1:H p=some o1) (h2:H q=some o2) (n1:∀xs,o1≠ .tup xs/\∀o,o1≠ .frz o (.tup xs)) (n2:∀xs,o2≠ .tup xs/\∀o,o2≠ .frz o (.tup xs)) {a:Addr} {xs:List V} (s:SqT K H a xs):SqT K H' a xs:=by
 rcases s with s|s
 ·refine .inl ?_
  rcases s with s|⟨o,s⟩
  ·exact .inl (k _ _ s (jX s h1 (Ne.symm (n1 xs).1)) (jX s h2 (Ne.symm (n2 xs).1)))
  ·exact .inr ⟨o,k _ _ s (jX s h1 (Ne.symm ((n1 xs).2 o))) (jX s h2 (Ne.symm ((n2 xs).2 o)))⟩
 ·exact .inr s
def RS (K:PySem.W.Frag) (C:Addr) (H:Hp) (p dx wl rl:Addr) (ws rest:List Str) (rows:List Dt):Prop:=
 ∃k rv,nO C H p dx wl rl ws k rv/\ws.drop k=rest/\k<=ws.length/\kN K H rv rows
section
variable {K:PySem.W.Frag} {C p dx wl rl:Addr} {H H':Hp} {ws rest:List Str} {rows:List Dt}
theorem nO.sqT {k:Nat} {rv:List V} (R:nO C H p dx wl rl ws k rv) (kk:K2 p rl H H') {a:Addr} {xs:List V} (s:SqT K H a xs):SqT K H' a xs:=
 kk.sqT R.ob R.rw (fun _=>⟨(fun z=>nomatch z),fun _ z=>nomatch z⟩) (fun _=>⟨(fun z=>nomatch z),fun _ z=>nomatch z⟩) s
theorem nO.tpT {k:Nat} {rv:List V} (R:nO C H p dx wl rl ws k rv) (kk:K2 p rl H H') {a:Addr} {xs:List V} (s:H a=some (.tup xs)):H' a=some (.tup xs):=
 kk _ _ s (jX s R.ob (fun z=>nomatch z)) (jX s R.rw (fun z=>nomatch z))
theorem RS.tat (R:RS K C H p dx wl rl ws rest rows) (kk:K2 p rl H H') {x:V} {d:Dt} (t:TAt K H x d):TAt K H' x d:=by
 obtain⟨k,rv,R,_⟩:=R
 exact t.mono fun a xs s=>nO.tpT R kk s
theorem RS.tats (R:RS K C H p dx wl rl ws rest rows) (kk:K2 p rl H H') {xs:List V} {ds:List Dt} (t:kN K H xs ds):kN K H' xs ds:=by
 obtain⟨k,rv,R,_⟩:=R
 exact t.mono fun a xs s=>nO.tpT R kk s
theorem RS.same (R:RS K C H p dx wl rl ws rest rows) (s:fW H H'):RS K C H' p dx wl rl ws rest rows:=by
 obtain⟨k,rv,R,h1,h2,h3⟩:=R
 exact⟨k,rv,⟨s _ _ R.ob,s _ _ R.wd,s _ _ R.rw,R.ne⟩,h1,h2,h3.mono fun a xs t=>nO.tpT R (fW.k2 s) t⟩
theorem RS.other {a:Addr} {l:List V} {o:HO} (R:RS K C H p dx wl rl ws rest rows) (ha:H a=some (.lst l)) (n1:a≠p) (n2:a≠wl) (n3:a≠rl):RS K C (upd H a o) p dx wl rl ws rest rows:=by
 obtain⟨k,rv,R,h1,h2,h3⟩:=R
 refine⟨k,rv,⟨by rw[fO (Ne.symm n1)];exact R.ob,by rw[fO (Ne.symm n2)];exact R.wd,by rw[fO (Ne.symm n3)];exact R.rw,R.ne⟩,h1,h2,h3.mono fun b xs t=>?_⟩
 rw[fO (jX t ha (fun z=>nomatch z))]
 exact t
theorem kN.other {a:Addr} {l:List V} {o:HO} (ha:H a=some (.lst l)) {xs:List V} {ds:List Dt} (t:kN K H xs ds):kN K (upd H a o) xs ds:=t.mono fun b xs t=>by
 rw[fO (jX t ha (fun z=>nomatch z))]
 exact t
theorem kf {k:Nat} {x:Str} {r:List Str} (h:ws.drop k=x::r):ws[k]?=some x/\ws.drop (k+ 1)=r/\k<ws.length:=by
 have hk:k<ws.length:=by
  by_cases z:k<ws.length
  ·exact z
  ·rw[List.drop_of_length_le (by lia)]at h
   cases h
 rw[bK hk]at h
 injection h with h1 h2
 exact⟨by rw[bz hk,h1],h2,hk⟩
theorem sF {k:Nat} (h:ws.drop k=[]):ws[k]?=none:=by
 rw[List.drop_eq_nil_iff]at h
 exact bD h
theorem RS.len (R:RS K C H p dx wl rl ws rest rows):∃rv,H rl=some (.lst rv)/\rv.length=rows.length:=by
 obtain⟨k,rv,R,_,_,t⟩:=R
 exact⟨rv,R.rw,t.length⟩
theorem RS.mem (R:RS K C H p dx wl rl ws rest rows):∀x∈rest,x∈ws:=by
 obtain⟨k,rv,_,h,_⟩:=R
 intro x hx
 rw[<-h]at hx
 exact bL hx
theorem RS.short (R:RS K C H p dx wl rl ws rest rows):rest.length<=ws.length:=by
 obtain⟨k,rv,_,h,_⟩:=R
 rw[<-h,aW]
 lia
theorem RS.ob (R:RS K C H p dx wl rl ws rest rows):∃k:Int,H p=some (.ins C dx (fR wl k rl)):=by
 obtain⟨k,rv,R,_⟩:=R
 exact⟨_,R.ob⟩
theorem uu {H:Hp} {a b:Addr} {l xs:List V} {o:HO} (ha:H a=some (.lst l)) (t:SqT K H b xs):SqT K (upd H a o) b xs:=by
 rcases t with t|t
 ·refine .inl ?_
  rcases t with t|⟨o',t⟩
  ·exact .inl (by rw[fO (jX t ha (fun z=>nomatch z))];exact t)
  ·exact .inr ⟨o',by rw[fO (jX t ha (fun z=>nomatch z))];exact t⟩
 ·exact .inr t
theorem RS.sqt (R:RS K C H p dx wl rl ws rest rows) (kk:K2 p rl H H') {a:Addr} {xs:List V} (t:SqT K H a xs):SqT K H' a xs:=by
 obtain⟨k,rv,R,_⟩:=R
 exact nO.sqT R kk t
theorem uz {p q a:Addr} {H H':Hp} {o:HO} (ha:H a=none) (k:K2 p q H H'):K2 p q H (upd H' a o):=fun b u e h1 h2=>by rw[fO (fJ e ha)];exact k b u e h1 h2
theorem RS.apart {fl:Addr} (R:RS K C H p dx wl rl ws rest rows) (hfl:H fl=none):fl≠p/\fl≠rl/\fl≠wl:=by
 obtain⟨k,rv,R,_⟩:=R
 exact⟨Ne.symm (fJ R.ob hfl),Ne.symm (fJ R.rw hfl),Ne.symm (fJ R.wd hfl)⟩
end
abbrev Pe:=List Str->List Dt->Option Rs
def Rd (p:Pe) (ok:Bool) (n:Nat) (ts:List Str):Prop:=∀(rest:List Str) (rows:List Dt),rows.length<=160->
 (ok=true->rows.length+n<=160->∃rows',p (ts++rest) rows=some (rest,rows')/\rows'.length=rows.length+n)/\(¬(ok=true/\rows.length+n<=160)->p (ts++rest) rows=none)
def SRd (pe:Pe) (ps:List Bool) (ok:Bool) (n:Nat) (ts:List Str):Prop:=∀(acc:List Dt) (rest:List Str) (rows:List Dt),rows.length<=160->
 (ok=true->rows.length+n<=160->∃ds rows',f9 pe ps acc (ts++rest) rows=some (ds,rest,rows')/\rows'.length=rows.length+n)/\(¬(ok=true/\rows.length+n<=160)->f9 pe ps acc (ts++rest) rows=none)
theorem SRd.nil {pe:Pe}:SRd pe [] true 0 []:=fun acc rest rows h=>⟨fun _ _=>⟨acc,rows,by rw[f9];rfl,rfl⟩,fun z=>absurd ⟨rfl,h⟩ z⟩
theorem SRd.name {pe:Pe} {ps:List Bool} {ok:Bool} {n:Nat} {ts:List Str} {x:Str} (hx:isName x=true) (r:SRd pe ps ok n ts):SRd pe (true::ps) ok n (x::ts):=fun acc rest rows h=>by
 have e:f9 pe (true::ps) acc (x::ts++rest) rows=f9 pe ps (acc++[.flat (.str x)]) (ts++rest) rows:=by
  rw[aS,f9,gx hx]
 rw[e]
 exact r _ rest rows h
theorem SRd.expr {pe:Pe} {ps:List Bool} {ok1 ok2:Bool} {n1 n2:Nat} {t1 t2:List Str} (a:Rd pe ok1 n1 t1) (r:SRd pe ps ok2 n2 t2):SRd pe (false::ps) (ok1&&ok2) (n1+n2) (t1++t2):=fun acc rest rows h=>by
 have ea:t1++t2++rest=t1++(t2++rest):=bJ ..
 obtain⟨y,no⟩:=a (t2++rest) rows h
 rw[ea]
 by_cases h1:ok1=true/\rows.length+n1<=160
 ·obtain⟨rows1,e1,l1⟩:=y h1.1 h1.2
  have e:f9 pe (false::ps) acc (t1++(t2++rest)) rows=f9 pe ps (acc++[.flat (.int (rows.length:Int))]) (t2++rest) rows1:=by rw[f9,e1]
  rw[e]
  obtain⟨y2,no2⟩:=r (acc++[.flat (.int (rows.length:Int))]) rest rows1 (by lia)
  refine⟨fun ho hn=>?_,fun z=>no2 fun z2=>z ⟨by rw[h1.1,z2.1];rfl,by lia⟩⟩
  rw[h1.1,eU]at ho
  obtain⟨ds,rows',e2,l2⟩:=y2 ho (by lia)
  exact⟨ds,rows',e2,by lia⟩
 ·have e1:=no h1
  refine⟨fun ho hn=>absurd ⟨(eR _ _▸ho).1,by lia⟩ h1,fun _=>by rw[f9,e1]⟩
def MRd (item:List Str->List Dt->Option (Dt×Rs)) (ok:Bool) (n m:Nat) (ts:List Str):Prop:=∀(acc:List Dt) (rest:List Str) (rows:List Dt),rows.length<=160->
 (ok=true->rows.length+n<=160->∃ds rows',iE item (ts++(")":Str)::rest) rows acc=some (ds,(")":Str)::rest,rows')/\ds.length=acc.length+m/\rows'.length=rows.length+n)/\(¬(ok=true/\rows.length+n<=160)->iE item (ts++(")":Str)::rest) rows acc=none)
theorem MRd.nil {item:List Str->List Dt->Option (Dt×Rs)}:MRd item true 0 0 []:=fun acc rest rows h=>⟨fun _ _=>⟨acc,rows,kT _ _ _ rfl,rfl,rfl⟩,fun z=>absurd ⟨rfl,h⟩ z⟩
theorem MRd.cons {item:List Str->List Dt->Option (Dt×Rs)} (g:ur item) {ok1 ok2:Bool} {n1 n2 m:Nat} {t1 t2:List Str} {x:Str} {t:List Str} (ht:t1=x::t) (hx:x≠")")
  (a:∀(rest:List Str) (rows:List Dt),rows.length<=160->(ok1=true->rows.length+n1<=160->∃d rows',item (t1++rest) rows=some (d,rest,rows')/\rows'.length=rows.length+n1)/\(¬(ok1=true/\rows.length+n1<=160)->item (t1++rest) rows=none))
  (r:MRd item ok2 n2 m t2):MRd item (ok1&&ok2) (n1+n2) (m+ 1) (t1++t2):=fun acc rest rows h=>by
 have ea:t1++t2++(")":Str)::rest=t1++(t2++(")":Str)::rest):=bJ ..
 have hh:(t1++(t2++(")":Str)::rest)).head?≠some ")":=by
  rw[ht]
  exact fun z=>hx (cX.inj z)
 obtain⟨y,no⟩:=a (t2++(")":Str)::rest) rows h
 rw[ea,om g _ _ _ hh]
 by_cases h1:ok1=true/\rows.length+n1<=160
 ·obtain⟨d,rows1,e1,l1⟩:=y h1.1 h1.2
  rw[e1]
  obtain⟨y2,no2⟩:=r (acc++[d]) rest rows1 (by lia)
  refine⟨fun ho hn=>?_,fun z=>no2 fun z2=>z ⟨by rw[h1.1,z2.1];rfl,by lia⟩⟩
  rw[h1.1,eU]at ho
  obtain⟨ds,rows',e2,l2,l3⟩:=y2 ho (by lia)
  refine⟨ds,rows',e2,?_,by lia⟩
  rw[aO]at l2
  have:[d].length=1:=rfl
  lia
 ·rw[no h1]
  exact⟨fun ho hn=>absurd ⟨(eR _ _▸ho).1,by lia⟩ h1,fun _=>rfl⟩
theorem Ei {pe:Pe} {ps:List Bool} {ok:Bool} {n:Nat} {ts:List Str} (s:SRd pe ps ok n ts):∀(rest:List Str) (rows:List Dt),rows.length<=160->(ok=true->rows.length+n<=160->∃d rows',ir pe ps (ts++rest) rows=some (d,rest,rows')/\rows'.length=rows.length+n)/\(¬(ok=true/\rows.length+n<=160)->ir pe ps (ts++rest) rows=none):=fun rest rows h=>by
 obtain⟨y,no⟩:=s [] rest rows h
 refine⟨fun ho hn=>?_,fun z=>by rw[ir,no z]⟩
 obtain⟨ds,rows',e,l⟩:=y ho hn
 exact⟨_,rows',by rw[ir,e],l⟩
theorem Ej {pe:Pe} {ok:Bool} {n:Nat} {ts:List Str} (s:Rd pe ok n ts):∀(rest:List Str) (rows:List Dt),rows.length<=160->(ok=true->rows.length+n<=160->∃d rows',jZ pe (ts++rest) rows=some (d,rest,rows')/\rows'.length=rows.length+n)/\(¬(ok=true/\rows.length+n<=160)->jZ pe (ts++rest) rows=none):=fun rest rows h=>by
 obtain⟨y,no⟩:=s rest rows h
 refine⟨fun ho hn=>?_,fun z=>by rw[jZ,no z]⟩
 obtain⟨rows',e,l⟩:=y ho hn
 exact⟨_,rows',by rw[jZ,e],l⟩
def FRd (pe:Pe) (h:Str) (ok:Bool) (n:Nat) (ts:List Str):Prop:=∀(rest:List Str) (rows:List Dt),rows.length<=160->
 (ok=true->rows.length+n<=160->∃ds rows',iK pe h (ts++(")":Str)::rest) rows=some (ds,(")":Str)::rest,rows')/\rows'.length=rows.length+n)/\(¬(ok=true/\rows.length+n<=160)->iK pe h (ts++(")":Str)::rest) rows=none)
theorem FRd.steady {pe:Pe} {h:Str} {ps:List Bool} {ok:Bool} {n:Nat} {ts:List Str} (h1:¬h="rec") (h2:¬h="case") (h3:¬h="row") (hp:stP h=some ps) (s:SRd pe ps ok n ts):FRd pe h ok n ts:=fun rest rows hr=>by
 have e:iK pe h (ts++(")":Str)::rest) rows=match f9 pe ps [] (ts++(")":Str)::rest) rows with
   |none=>none
   |some (ds,r)=>some (.flat (.str h)::ds,r):=by
  rw[iK,fZ h1,fZ h2,fZ h3,hp]
  all_goals rfl
 obtain⟨y,no⟩:=s [] ((")":Str)::rest) rows hr
 refine⟨fun ho hn=>?_,fun z=>by rw[e,no z]⟩
 obtain⟨ds,rows',e2,l⟩:=y ho hn
 exact⟨_,rows',by rw[e,e2],l⟩
theorem FRd.rowd {pe:Pe} {ok:Bool} {n m:Nat} {ts:List Str} (s:MRd (jZ pe) ok n m ts):FRd pe "row" (ok&&decide (m<=8)) n ts:=fun rest rows hr=>by
 have e:iK pe "row" (ts++(")":Str)::rest) rows=match chk 0 8 (iE (jZ pe) (ts++(")":Str)::rest) rows [])with
  |none=>none
  |some (l,r)=>some ([.flat (.str "row"),.tup l],r):=by rw[iK,fZ gq,fZ gq,gx rfl]<;>rfl
 obtain⟨y,no⟩:=s [] rest rows hr
 by_cases h1:ok=true/\rows.length+n<=160
 ·obtain⟨ds,rows',e2,l2,l3⟩:=y h1.1 h1.2
  have l2':ds.length=m:=l2.trans (cK m)
  by_cases hm:m<=8
  ·refine⟨fun _ _=>⟨_,rows',by rw[e,e2,chk,gx (by lia)],l3⟩,fun z=>absurd ⟨by rw[h1.1,gR hm];rfl,h1.2⟩ z⟩
  ·refine⟨fun z=>(by rw[h1.1,ig hm]at z;cases z),fun _=>by rw[e,e2,chk,fZ (by lia)]⟩
 ·exact⟨fun z hn=>absurd ⟨(eR _ _▸z).1,hn⟩ h1,fun _=>by rw[e,no h1];rfl⟩
theorem FRd.cased {pe:Pe} {ok1 ok:Bool} {n1 n m:Nat} {t1 ts:List Str} (a:Rd pe ok1 n1 t1) (s:MRd (ir pe [true,true,false]) ok n m ts):FRd pe "case" (ok1&&ok&&decide (1<=m/\m<=6)) (n1+n) (t1++ts):=fun rest rows hr=>by
 have ea:t1++ts++(")":Str)::rest=t1++(ts++(")":Str)::rest):=bJ ..
 rw[ea]
 have e:iK pe "case" (t1++(ts++(")":Str)::rest)) rows=match pe (t1++(ts++(")":Str)::rest)) rows with
  |none=>none
  |some (r1,rows1)=>match chk 1 6 (iE (ir pe [true,true,false]) r1 rows1 [])with
   |none=>none
   |some (l,r)=>some ([.flat (.str "case"),.flat (.int (rows.length:Int)),.tup l],r):=by rw[iK,fZ gq,gx rfl]<;>rfl
 obtain⟨ya,na⟩:=a (ts++(")":Str)::rest) rows hr
 by_cases h0:ok1=true/\rows.length+n1<=160
 ·obtain⟨rows1,e1,l1⟩:=ya h0.1 h0.2
  obtain⟨y,no⟩:=s [] rest rows1 (by lia)
  have e':iK pe "case" (t1++(ts++(")":Str)::rest)) rows=match chk 1 6 (iE (ir pe [true,true,false]) (ts++(")":Str)::rest) rows1 [])with
   |none=>none
   |some (l,r)=>some ([.flat (.str "case"),.flat (.int (rows.length:Int)),.tup l],r):=by rw[e,e1]
  by_cases h1:ok=true/\rows1.length+n<=160
  ·obtain⟨ds,rows',e2,l2,l3⟩:=y h1.1 h1.2
   have l2':ds.length=m:=l2.trans (cK m)
   by_cases hm:1<=m/\m<=6
   ·refine⟨fun _ _=>⟨_,rows',by rw[e',e2,chk,gx (by lia)],by lia⟩,fun z=>absurd ⟨by rw[h0.1,h1.1,gR hm];rfl,by lia⟩ z⟩
   ·refine⟨fun z=>(by rw[h0.1,h1.1,ig hm]at z;cases z),fun _=>by rw[e',e2,chk,fZ (by lia)]⟩
  ·refine⟨fun z hn=>absurd ⟨?_,by lia⟩ h1,fun _=>by rw[e',no h1];rfl⟩
   simp only[eR]at z
   exact z.1.2
 ·refine⟨fun z hn=>absurd ⟨?_,by lia⟩ h0,fun _=>by rw[e,na h0]⟩
  simp only[eR]at z
  exact z.1.1
theorem pE:¬iY "("=true/\¬isName "("=true:=gq
theorem Rd.form {f:Nat} {h:Str} {ok:Bool} {n:Nat} {ts:List Str} (s:FRd (gk f) h ok n ts):Rd (gk (f+ 1)) ok (n+ 1) (("(":Str)::h::(ts++[(")":Str)])):=fun rest rows hr=>by
 have ea:(("(":Str)::h::(ts++[(")":Str)]))++rest=("(":Str)::h::(ts++(")":Str)::rest):=by simp
 rw[ea]
 by_cases h160:rows.length=160
 ·exact⟨fun _ hn=>absurd hn (by lia),fun _=>by rw[gk,gx h160]⟩
 ·have lr:(rows++[Dt.flat .non]).length=rows.length+ 1:=by rw[aO];rfl
  have er:rO (gk f) (("(":Str)::h::(ts++(")":Str)::rest)) (rows++[.flat .non])=lQ (iK (gk f) h (ts++(")":Str)::rest) (rows++[.flat .non])):=vv pE.1 pE.2 rfl
  obtain⟨y,no⟩:=s rest (rows++[.flat .non]) (by lia)
  refine⟨fun ho hn=>?_,fun z=>?_⟩
  ·obtain⟨ds,rows',e,l⟩:=y ho (by lia)
   refine⟨rows'.set rows.length (.tup ds),?_,by rw[aX];lia⟩
   rw[gk,fZ h160,er,e,show lQ (some (ds,(")":Str)::rest,rows'))=some (ds,rest,rows') by unfold lQ;exact gx rfl]
  ·rw[gk,fZ h160,er,no fun z2=>z ⟨z2.1,by lia⟩]
   rfl
theorem Rd.zero {n:Nat} {ts:List Str}:Rd (gk 0) false n ts:=fun rest rows hr=>⟨fun z=>(by cases z),fun _=>by rw[gk]⟩
theorem Rd.word {f:Nat} {x:Str} (hx:iY x=true\/isName x=true):Rd (gk (f+ 1)) true 1 [x]:=fun rest rows hr=>by
 by_cases h160:rows.length=160
 ·exact⟨fun _ hn=>absurd hn (by lia),fun _=>by rw[gk,gx h160]⟩
 ·refine⟨fun _ _=>?_,fun z=>absurd ⟨rfl,by lia⟩ z⟩
  have lr:(rows++[Dt.flat .non]).length=rows.length+ 1:=by rw[aO];rfl
  by_cases h1:iY x=true
  ·refine⟨_,by rw[gk,fZ h160];rw[bM,vt h1],by rw[aX];lia⟩
  ·have h2:isName x=true:=hx.resolve_left h1
   refine⟨_,by rw[gk,fZ h160];rw[bM,sE h1 h2],by rw[aX];lia⟩
structure Ex (d n:Nat) (ts:List Str):Prop where
 pos:1<=d
 hd:∃x t,ts=x::t/\x≠")"
 rd:∀f,f<=24->Rd (gk f) (decide (d<=f)) n ts
theorem Ex.word {x:Str} (hx:iY x=true\/isName x=true) (hc:x≠")"):Ex 1 1 [x]:=⟨cz _,⟨x,[],rfl,hc⟩,fun f _=>by
 cases f with
 |zero=>exact Rd.zero
 |succ f=>
  rw[gR (show 1<=f+ 1 by lia)]
  exact Rd.word hx⟩
theorem El:("(":Str)≠")":=gq
theorem Ex.form {d n:Nat} {h:Str} {ts:List Str} (hd:1<=d) (s:∀f,f<=23->∃ok,FRd (gk f) h ok n ts/\ok=decide (d<=f+ 1)):Ex d (n+ 1) (("(":Str)::h::(ts++[(")":Str)])):=⟨hd,⟨_,_,rfl,El⟩,fun f hf=>by
 cases f with
 |zero=>
  rw[ig (show ¬d<=0 by lia)]
  exact Rd.zero
 |succ f=>
  obtain⟨ok,r,e⟩:=s f (by lia)
  rw[<-e]
  exact Rd.form r⟩
def DRd (ok:Bool) (n m:Nat) (ts:List Str):Prop:=∀(rest:List Str) (rows:List Dt) (names:List Str) (roots:List Dt),rows.length<=160->
 (ok=true->rows.length+n<=160->∃rows' names' roots',i6 (ts++rest) rows names roots=i6 rest rows' names' roots'/\rows'.length=rows.length+n/\names'.length=names.length+m)/\(¬(ok=true/\rows.length+n<=160)->i6 (ts++rest) rows names roots=none)
theorem DRd.nil:DRd true 0 0 []:=fun rest rows names roots h=>⟨fun _ _=>⟨rows,names,roots,rfl,rfl,rfl⟩,fun z=>absurd ⟨rfl,h⟩ z⟩
theorem DRd.read {ok:Bool} {n m:Nat} {ts:List Str} (a:DRd ok n m ts):
  (ok=true->n<=160->1<=m->m<=12->∃names roots rows,lF ts=some (names,roots,rows)/\rows.length=n)/\(¬(ok=true/\n<=160/\1<=m/\m<=12)->lF ts=none):=by
 obtain⟨y,no⟩:=a [] [] [] [] (cA _)
 rw[aD]at y no
 have l0:([]:List Dt).length=0:=rfl
 have l1:([]:List Str).length=0:=rfl
 by_cases h1:ok=true/\([]:List Dt).length+n<=160
 ·obtain⟨rows,names,roots,e,l,k⟩:=y h1.1 h1.2
  rw[defs_nil]at e
  by_cases h2:1<=m/\m<=12
  ·refine⟨fun _ _ _ _=>⟨names,roots,rows,by rw[lF,e];exact gx (by lia),by lia⟩,fun z=>absurd ⟨h1.1,by lia,h2⟩ z⟩
  ·exact⟨fun _ _ z1 z2=>absurd ⟨z1,z2⟩ h2,fun _=>by rw[lF,e];exact fZ (by lia)⟩
 ·exact⟨fun ho hn _ _=>absurd ⟨ho,by lia⟩ h1,fun _=>by rw[lF,no h1]⟩
end GR.Internal
namespace GR.Internal
open PySem L2.Internal T1
def St1 (w:List Nat):Str:=⟨w.toArray⟩
def toks (x:Str):List Str:=(all (W x.cps.toList)).map St1
theorem toks_v (x:Str):qd x.cps.toList=(toks x).map V.str:=xX _
theorem sG:∀(s:List Nat) (p:List (List Nat)) (c:List Nat),s.foldl step (p,c)=(p++(s.foldl step ([],c)).1,(s.foldl step ([],c)).2)
 |[],p,c=>by simp
 |k::s,p,c=>by
  have e1:(k::s).foldl step (p,c)=s.foldl step (step (p,c) k):=rfl
  have e2:(k::s).foldl step ([],c)=s.foldl step (step ([],c) k):=rfl
  rw[e1,e2]
  have e3:step (p,c) k=(p++(step ([],c) k).1,(step ([],c) k).2):=by
   unfold T1.step
   split
   ·split<;>simp
   ·simp
  rw[e3]
  generalize step ([],c) k=q
  obtain⟨q1,q2⟩:=q
  rw[sG s (p++q1) q2,sG s q1 q2,bJ]
theorem wH {a b:List Nat} (h:(W a).2=[]):W (a++b)=((W a).1++(W b).1,(W b).2):=by
 rw[pB]
 have e:W a=((W a).1,[]):=by rw[<-h]
 rw[e,sG]
 rfl
def Gp (x:Str) (ts:List Str):Prop:=(W x.cps.toList).2=[]/\(W x.cps.toList).1.map St1=ts
def Op (x:Str) (ts:List Str):Prop:=toks x=ts
theorem Gp.op {x:Str} {ts:List Str} (h:Gp x ts):Op x ts:=by
 unfold Op toks all
 rw[gx h.1,h.2]
theorem Gp.app {x y:Str} {ts us:List Str} (h:Gp x ts) (k:Gp y us):Gp (x++y) (ts++us):=by
 unfold Gp
 rw[iQ,wH h.1]
 exact⟨k.1,by rw[bh,h.2,k.2]⟩
theorem Gp.app_op {x y:Str} {ts us:List Str} (h:Gp x ts) (k:Op y us):Op (x++y) (ts++us):=by
 unfold Op toks at*
 rw[iQ,wH h.1,<-h.2,<-k]
 unfold all
 by_cases z:(W y.cps.toList).2=[]
 ·rw[gx z,gx z,bh]
 ·rw[fZ z,fZ z]
  simp only[bh,bJ]
theorem Op.close {x:Str} {ts:List Str} (h:Op x ts):Gp (x++")") (ts++[(")":Str)]):=by
 unfold Gp
 have e:(x++")").cps.toList=x.cps.toList++[41]:=iQ x ")"
 rw[e,zy _ (.inr rfl)]
 refine⟨rfl,?_⟩
 rw[bh]
 exact congrArg (·++[(")":Str)]) h
theorem Op.gap {x:Str} {ts:List Str} (h:Op x ts):Gp (x++" ") ts:=by
 unfold Gp
 have e:(x++" ").cps.toList=x.cps.toList++[32]:=iQ x " "
 rw[e,Gm _ (.inl rfl)]
 exact⟨rfl,h⟩
theorem cat_assoc (x y z:Str):x++y++z=x++(y++z):=T1.str_ext (by rw[iQ,iQ,iQ,iQ,bJ])
theorem Op.word {x:Str} (h0:x.cps.toList≠[]) (h:∀k∈x.cps.toList,k≠32/\k≠10/\k≠40/\k≠41):Op x [x]:=by
 unfold Op toks
 have e:W x.cps.toList=([],x.cps.toList):=Gn [] x.cps.toList h
 rw[e]
 show(if x.cps.toList=[]then _ else _:List (List Nat)).map St1=_
 rw[fZ h0]
 show[St1 x.cps.toList]=[x]
 exact congrArg (fun z=>[z]) (T1.str_ext rfl)
theorem uA:∀m:Nat,0<m->(cG 10 m).head?≠some '0'
 |m,h=>by
  by_cases h10:m<10
  ·rw[cH h10]
   have:m=1\/m=2\/m=3\/m=4\/m=5\/m=6\/m=7\/m=8\/m=9:=by lia
   rcases this with rfl|rfl|rfl|rfl|rfl|rfl|rfl|rfl|rfl<;>decide
  ·have hm:m%10<10:=Nat.mod_lt m (by decide)
   have t:cG 10 (m/10)++cG 10 (m%10)=cG 10 (10*(m/10)+m%10):=cJ (by decide) (by lia) hm
   rw[Nat.div_add_mod]at t
   have ih:=uA (m/10) (by lia)
   rw[<-t]
   cases e:cG 10 (m/10)with
   |nil=>
    have:=PySem.toDigits_len_ge 10 (m/10)
    rw[e]at this
    simp at this
   |cons a r=>
    rw[e]at ih
    exact ih
termination_by m=>m
theorem num_is {n:Int} {k:Nat} (h0:0<=n) (h1:n<10^(k+ 1)) (hk:k+ 1<=60):iY (PySem.Str.ofString (toString n))=true:=by
 obtain⟨f1,f2,f3⟩:=str_fig h0 h1
 obtain⟨m,rfl⟩:=fb h0
 have e:=PySem.W.KIN.signs_num m
 unfold iY
 have z:(!qf (PySem.Str.ofString (toString ((m:Nat):Int)))||decide (PySem.Str.ofString (toString ((m:Nat):Int))="0"))=true:=by
  by_cases hm:m=0
  ·subst hm
   decide+kernel
  ·have d:=uA m (by lia)
   have:qf (PySem.Str.ofString (toString ((m:Nat):Int)))=false:=by
    unfold qf
    rw[e]
    cases q:cG 10 m with
    |nil=>rfl
    |cons a r=>
     rw[q]at d
     show(a.toNat==48)=false
     refine beq_eq_false_iff_ne.mpr fun w=>d ?_
     show some a=some '0'
     exact congrArg some (Char.toNat_inj.mp w)
   rw[this]
   rfl
 rw[z,gR f2,gR (show _<=60 by lia)]
 simp only[eU,Bool.and_true]
 exact bI.mpr fun c hc=>gR (f1 c hc)
structure EX (x:Str) (d n L:Nat):Prop where
 asc:∀c∈x.cps.toList,c<128
 len:x.length<=L
 ex:∃ts,Op x ts/\Ex d n ts
section
variable {d n:Nat} {ts:List Str}
theorem z0:iY "0"=true\/isName "0"=true:=gq
theorem ex0:Ex 1 1 (["0"]:List Str):=Ex.word z0 gq
theorem CD (f:Nat):(decide (d<=f)&&true)=decide (d+ 1<=f+ 1):=by simp
theorem Gv (h:1<=d) (f:Nat):(decide (1<=f)&&(decide (d<=f)&&true))=decide (d+ 1<=f+ 1):=by
 by_cases z:d<=f<;>simp[z]<;>lia
theorem Gw (h:1<=d) (f:Nat):(decide (d<=f)&&(decide (1<=f)&&true))=decide (d+ 1<=f+ 1):=by
 by_cases z:d<=f<;>simp[z]<;>lia
theorem Ex.tag {h c:Str} (hh:h="tag"\/h="fn") (hc:isName c=true) (x:Ex d n ts):Ex (d+ 1) (n+ 1) ((["(",h,c]:List Str)++ts++([")"]:List Str)):=by
 have hp:stP h=some [true,false]/\¬h="rec"/\¬h="case"/\¬h="row":=by rcases hh with rfl|rfl<;>decide+kernel
 have z:=Ex.form (d:=d+ 1) (n:=n+ 0) (h:=h) (ts:=c::(ts++[])) (by lia) fun f hf=>⟨_,FRd.steady hp.2.1 hp.2.2.1 hp.2.2.2 hp.1 (SRd.name hc (SRd.expr (x.rd f (by lia)) SRd.nil)),CD f⟩
 simpa using z
theorem Ex.get {c:Str} (hc:isName c=true) (x:Ex d n ts):Ex (d+ 1) (n+ 1) ((["(","get"]:List Str)++ts++([c,")"]:List Str)):=by
 have hp:stP "get"=some [false,true]/\¬("get":Str)="rec"/\¬("get":Str)="case"/\¬("get":Str)="row":=gq
 have z:=Ex.form (d:=d+ 1) (n:=n+ 0) (h:="get") (ts:=ts++[c]) (by lia) fun f hf=>⟨_,FRd.steady hp.2.1 hp.2.2.1 hp.2.2.2 hp.1 (SRd.expr (x.rd f (by lia)) (SRd.name hc SRd.nil)),CD f⟩
 simpa using z
theorem Ex.size (x:Ex d n ts):Ex (d+ 1) (n+ 1) ((["(","size"]:List Str)++ts++([")"]:List Str)):=by
 have hp:stP "size"=some [false]/\¬("size":Str)="rec"/\¬("size":Str)="case"/\¬("size":Str)="row":=gq
 have z:=Ex.form (d:=d+ 1) (n:=n+ 0) (h:="size") (ts:=ts++[]) (by lia) fun f hf=>⟨_,FRd.steady hp.2.1 hp.2.2.1 hp.2.2.2 hp.1 (SRd.expr (x.rd f (by lia)) SRd.nil),CD f⟩
 simpa using z
theorem Ex.add {c:Str} (hc:Ex 1 1 [c]) (x:Ex d n ts):Ex (d+ 1) (n+ 2) ((["(","add",c]:List Str)++ts++([")"]:List Str)):=by
 have hp:stP "add"=some [false,false]/\¬("add":Str)="rec"/\¬("add":Str)="case"/\¬("add":Str)="row":=gq
 have z:=Ex.form (d:=d+ 1) (n:=1+(n+ 0)) (h:="add") (ts:=[c]++(ts++[])) (by lia) fun f hf=>⟨_,FRd.steady hp.2.1 hp.2.2.1 hp.2.2.2 hp.1 (SRd.expr (hc.rd f (by lia)) (SRd.expr (x.rd f (by lia)) SRd.nil)),Gv x.pos f⟩
 rw[show n+ 2=1+(n+ 0)+ 1 by lia]
 simpa using z
theorem Ex.call (x:Ex d n ts):Ex (d+ 1) (n+ 2) ((["(","call"]:List Str)++ts++(["0",")"]:List Str)):=by
 have hp:stP "call"=some [false,false]/\¬("call":Str)="rec"/\¬("call":Str)="case"/\¬("call":Str)="row":=gq
 have z:=Ex.form (d:=d+ 1) (n:=n+(1+ 0)) (h:="call") (ts:=ts++((["0"]:List Str)++[])) (by lia) fun f hf=>⟨_,FRd.steady hp.2.1 hp.2.2.1 hp.2.2.2 hp.1 (SRd.expr (x.rd f (by lia)) (SRd.expr (ex0.rd f (by lia)) SRd.nil)),Gw x.pos f⟩
 simpa using z
end
instance {x:Str} {ts:List Str}:Decidable (Gp x ts):=inferInstanceAs (Decidable (_/\_))
instance {x:Str} {ts:List Str}:Decidable (Op x ts):=inferInstanceAs (Decidable (_=_))
theorem nmA:isName "a"=true/\isName "t"=true/\isName "x"=true/\isName "b"=true:=gq
section
variable {d n:Nat} {ts:List Str}
end
def Gx (l:List Str):List Str:=l.flatMap fun c=>[c,"x","x"]
theorem nm_ne {c:Str} (h:isName c=true):c≠")":=fun z=>by
 rw[z]at h
 exact absurd h gq
theorem Hw {f:Nat} (hf:f<=24):∀l:List Str,(∀c∈l,isName c=true)->MRd (ir (gk f) [true,true,false]) (decide (l=[]\/1<=f)) l.length l.length (Gx l)
 |[],_=>by
  rw[gR (.inl rfl)]
  exact MRd.nil
 |c::l,h=>by
  have hc:=h c (ah ..)
  have ex1:Ex 1 1 ["x"]:=Ex.word gq gq
  have z:=MRd.cons (kO (iR f) _ (by simp)) rfl (nm_ne hc) (Ei (SRd.name hc (SRd.name nmA.2.2.1 (SRd.expr (ex1.rd f hf) SRd.nil)))) (Hw hf l fun c hc=>h c (aj _ hc))
  have e:(decide (1<=f)&&true&&decide (l=[]\/1<=f))=decide (c::l=[]\/1<=f):=by
   by_cases q:1<=f<;>simp[q]
  rw[e,show 1+ 0+l.length=l.length+ 1 by lia]at z
  exact z
theorem Hx {f:Nat} (hf:f<=24) {c:Str} (hc:iY c=true) (hn:c≠")"):∀m:Nat,MRd (jZ (gk f)) (decide (m=0\/1<=f)) m m (aG m c)
 |0=>by
  rw[gR (.inl rfl)]
  exact MRd.nil
 |m+ 1=>by
  have ex1:Ex 1 1 [c]:=Ex.word (.inl hc) hn
  have z:=MRd.cons (oj (iR f)) rfl hn (Ej (ex1.rd f hf)) (Hx hf hc hn m)
  have e:(decide (1<=f)&&decide (m=0\/1<=f))=decide (m+ 1=0\/1<=f):=by
   by_cases q:1<=f<;>simp[q]
  rw[e,show 1+m=m+ 1 by lia]at z
  exact z
def dRec (m:Nat):Nat:=if m=0 then 1 else if m<=6 then 2 else 25
def zA (m:Nat):Nat:=if 1<=m/\m<=6 then 2 else 25
def Fj (m:Nat):Nat:=if m=0 then 1 else if m<=8 then 2 else 25
theorem Ex.cases {l:List Str} (h:∀c∈l,isName c=true):Ex (zA l.length) (l.length+ 2) (("(":Str)::("case":Str)::("0":Str)::(Gx l++[(")":Str)])):=by
 have hd:1<=zA l.length:=by unfold zA;split<;>decide
 have z:=Ex.form (d:=zA l.length) (n:=1+l.length) (h:="case") (ts:=(["0"]:List Str)++Gx l) hd fun f hf=>⟨_,FRd.cased (ex0.rd f (by lia)) (Hw (by lia) l h),by
  unfold zA
  cases l with
  |nil=>simp;lia
  |cons c l=>
   simp only[az]
   by_cases q:l.length+ 1<=6<;>simp[q]<;>lia⟩
 rw[show l.length+ 2=1+l.length+ 1 by lia]
 simpa using z
theorem Ex.rows {c:Str} (hc:iY c=true) (hn:c≠")") (m:Nat):Ex (Fj m) (m+ 1) (("(":Str)::("row":Str)::(aG m c++[(")":Str)])):=by
 have hd:1<=Fj m:=by unfold Fj;split<;>first|exact cz _|(split<;>decide)
 refine Ex.form hd fun f hf=>⟨_,FRd.rowd (Hx (by lia) hc hn m),?_⟩
 unfold Fj
 by_cases z:m=0
 ·subst z
  simp
 ·by_cases q:m<=8<;>simp[q,z]<;>lia
def Ap (x:Str) (ts:List Str):Prop:=∀y us,Op y us->Op (y++x) (us++ts)
theorem Ap.nil:Ap "" []:=fun y us h=>by
 have e:y++""=y:=T1.str_ext (by rw[iQ];exact aD _)
 rw[e,aD]
 exact h
theorem Ap.word {x w z:Str} {ts:List Str} (h:Ap x ts) (hz:z=" "++w) (hw:Op w [w]):Ap (x++z) (ts++[w]):=fun y us o=>by
 rw[hz,<-cat_assoc,<-cat_assoc,<-bJ]
 exact(h y us o).gap.app_op hw
theorem EX.around {x h:Str} {d n L:Nat} {hs ts:List Str} (hh:Op h hs) (ha:∀c∈h.cps.toList,c<128) (hl:h.length<=15) (a:Ap x ts) (xa:∀c∈x.cps.toList,c<128) (xl:x.length<=L) (e:Ex d n (hs++(ts++[(")":Str)]))):EX (h++x++")") d n (L+ 20):=by
 refine⟨fun c hc=>?_,?_,_,(a h hs hh).close.op,by rw[bJ];exact e⟩
 ·rw[iQ,iQ]at hc
  rcases ao.mp hc with z|z
  ·rcases ao.mp z with z|z
   ·exact ha c z
   ·exact xa c z
  ·have:c∈[41]:=z
   simp at this
   lia
 ·rw[Str.length_append,Str.length_append]
  have:(")":Str).length=1:=gq
  lia
structure PGm (x:Str) (due:Bool) (n:Nat):Prop where
 asc:∀c∈x.cps.toList,c<128
 len:x.length<=9999
 yes:due=true->∃names roots rows,lF (toks x)=some (names,roots,rows)/\rows.length=n
 no:due=false->lF (toks x)=none
structure DX (x:Str) (ok:Bool) (n m L:Nat):Prop where
 asc:∀c∈x.cps.toList,c<128
 len:x.length<=L
 rd:∃ts,Gp x ts/\DRd ok n m ts
structure Wr (h t:Str) (k:Nat):Prop where
 hl:h.length<=15
 tl:t.length<=5
 k3:k<=3
 on:∀x d n L,EX x d n L->EX (h++x++t) (d+ 1) (n+k) (L+ 20)
end GR.Internal
namespace TM.Internal
open PySem L2.Internal GR.Internal
inductive Kn
 |num (n:Int)
 |name (w:Str)
 |fn (w:Str)
 |tag (w:Str)
 |lt (w:Str)
 |get (w:Str)
 |rcd (l:List Str)
 |case (l:List (Str×Str))
 |row (m:Nat)
 |op (s:Str) (m:Nat)
inductive Tr
 |mk (κ:Kn) (ks:List Tr)
def ops:List (Str×Nat):=[("call",2),("at",3),("join",2),("size",1),("add",2),("sub",2),("less",2)]
def Kn.ar:Kn->Nat
 | .num _=>0
 | .name _=>0
 | .fn _=>1
 | .tag _=>1
 | .lt _=>2
 | .get _=>1
 | .rcd l=>l.length
 | .case l=>l.length+ 1
 | .row m=>m
 | .op _ m=>m
def numS (n:Int):Str:=PySem.Str.ofString (toString n)
def Kn.ok:Kn->Prop
 | .num n=>0<=n/\n<10^60
 | .name w=>isName w=true
 | .fn w=>isName w=true
 | .tag w=>isName w=true
 | .lt w=>isName w=true
 | .get w=>isName w=true
 | .rcd l=>l.length<=6/\∀w∈l,isName w=true
 | .case l=>1<=l.length/\l.length<=6/\∀p∈l,isName p.1=true/\isName p.2=true
 | .row m=>m<=8
 | .op s m=>(s,m)∈ops
mutual
def Tr.sz:Tr->Nat
 | .mk _ ks=>1+szs ks
def szs:List Tr->Nat
 |[]=>0
 |t::ts=>t.sz+szs ts
end
mutual
def Tr.nest:Tr->Nat
 | .mk _ ks=>1+nests ks
def nests:List Tr->Nat
 |[]=>0
 |t::ts=>max t.nest (nests ts)
end
mutual
def Tr.ok:Tr->Prop
 | .mk κ ks=>κ.ok/\ks.length=κ.ar/\oks ks
def oks:List Tr->Prop
 |[]=>True
 |t::ts=>t.ok/\oks ts
end
def wv1:List Str->List (List Str)->List Str
 |w::l,k::ks=>w::(k++wv1 l ks)
 |_,_=>[]
def wv2:List (Str×Str)->List (List Str)->List Str
 |p::l,k::ks=>p.1::p.2::(k++wv2 l ks)
 |_,_=>[]
def Kn.ws:Kn->List (List Str)->List Str
 | .fn w,ks=>w::ks.flatten
 | .tag w,ks=>w::ks.flatten
 | .lt w,ks=>w::ks.flatten
 | .get w,ks=>ks.flatten++[w]
 | .rcd l,ks=>wv1 l ks
 | .case l,k::ks=>k++wv2 l ks
 |_,ks=>ks.flatten
def Kn.s:Kn->Str
 | .num _=>"num"
 | .name _=>"name"
 | .fn _=>"fn"
 | .tag _=>"tag"
 | .lt _=>"let"
 | .get _=>"get"
 | .rcd _=>"rec"
 | .case _=>"case"
 | .row _=>"row"
 | .op s _=>s
def Kn.tk (κ:Kn) (ks:List (List Str)):List Str:=match κ with
 | .num n=>[numS n]
 | .name w=>[w]
 |κ=>("(":Str)::κ.s::(κ.ws ks++[(")":Str)])
mutual
def Tr.tk:Tr->List Str
 | .mk κ ks=>κ.tk (tks ks)
def tks:List Tr->List (List Str)
 |[]=>[]
 |t::ts=>t.tk::tks ts
end
def sD (s:Str):Dt:= .flat (.str s)
def kD (k:Nat):Dt:= .flat (.int (k:Int))
def Kn.rw (κ:Kn) (ps:List Nat):List Dt:=match κ,ps with
 | .num n,_=>[sD "num",.flat (.int n)]
 | .name w,_=>[sD "name",sD w]
 | .fn w,ps=>sD "fn"::sD w::ps.map kD
 | .tag w,ps=>sD "tag"::sD w::ps.map kD
 | .lt w,ps=>sD "let"::sD w::ps.map kD
 | .get w,ps=>sD "get"::(ps.map kD++[sD w])
 | .rcd l,ps=>[sD "rec",.tup ((l.zip ps).map fun p=> .tup [sD p.1,kD p.2])]
 | .case l,p::ps=>[sD "case",kD p,.tup ((l.zip ps).map fun p=> .tup [sD p.1.1,sD p.1.2,kD p.2])]
 | .case _,[]=>[]
 | .row _,ps=>[sD "row",.tup (ps.map kD)]
 | .op s _,ps=>sD s::ps.map kD
def offs:List Tr->Nat->List Nat
 |[],_=>[]
 |t::ts,p=>p::offs ts (p+t.sz)
mutual
def Tr.rw:Tr->Nat->List Dt
 | .mk κ ks,p=> .tup (κ.rw (offs ks (p+ 1)))::rws ks (p+ 1)
def rws:List Tr->Nat->List Dt
 |[],_=>[]
 |t::ts,p=>t.rw p++rws ts (p+t.sz)
end
theorem sH:∀(ts:List Tr) (p:Nat),(offs ts p).length=ts.length
 |[],_=>rfl
 |t::ts,p=>by rw[offs,az,az,sH ts]
mutual
theorem Tr.rw_len:∀(t:Tr) (p:Nat),(t.rw p).length=t.sz
 | .mk κ ks,p=>by rw[Tr.rw,az,zB ks,Tr.sz];lia
theorem zB:∀(ts:List Tr) (p:Nat),(rws ts p).length=szs ts
 |[],_=>by rw[rws,szs];rfl
 |t::ts,p=>by rw[rws,szs,aO,Tr.rw_len t,zB ts]
end
theorem A8:isName ")"=false/\iY ")"=false:=gq
theorem vw {w:Str} (h:isName w=true):w≠")":=fun z=>by rw[z,A8.1]at h;cases h
def RdT (pe:Pe) (t:Tr):Prop:=∀(rest:List Str) (rows:List Dt),rows.length+t.sz<=160->pe (t.tk++rest) rows=some (rest,rows++t.rw rows.length)
def Em (pe:Pe) (ts:List Tr):Prop:=∀t∈ts,RdT pe t
theorem qi {pe:Pe} {ps:List Bool} {acc rows:List Dt} {x:Str} {r:List Str} (h:isName x=true):f9 pe (true::ps) acc (x::r) rows=f9 pe ps (acc++[sD x]) r rows:=by
 rw[f9]
 exact gx h
theorem zC {pe:Pe} {ps:List Bool} {acc rows rows':List Dt} {ws r:List Str} (h:pe ws rows=some (r,rows')):f9 pe (false::ps) acc ws rows=f9 pe ps (acc++[kD rows.length]) r rows':=by
 rw[f9,h]
 rfl
theorem pG {pe:Pe}:∀(ts:List Tr),Em pe ts->∀(ps:List Bool) (acc:List Dt) (rest:List Str) (rows:List Dt),rows.length+szs ts<=160->
  f9 pe (aG ts.length false++ps) acc ((tks ts).flatten++rest) rows=f9 pe ps (acc++(offs ts rows.length).map kD) rest (rows++rws ts rows.length)
 |[],_,ps,acc,rest,rows,_=>by simp[tks,offs,rws]
 |t::ts,h,ps,acc,rest,rows,hl=>by
  rw[szs]at hl
  have h1:=h t ah ((tks ts).flatten++rest) rows (by lia)
  rw[tks,bN,bJ,az,List.replicate_succ,aS,f9,h1]
  dsimp only
  have hlen:(rows++t.rw rows.length).length=rows.length+t.sz:=by rw[aO,Tr.rw_len]
  rw[pG ts (fun x hx=>h x (aj _ hx)) ps _ rest _ (by rw[hlen];lia),hlen,offs,rws,aB,bJ,bJ]
  rfl
theorem CF:∀(t:Tr),t.ok->∃x r,t.tk=x::r/\x≠")"
 | .mk κ ks,h=>by
  rw[Tr.ok]at h
  rw[Tr.tk]
  cases κ with
  |num n=>
   refine⟨_,_,rfl,fun z=>?_⟩
   have hf:=str_fig (k:=59) h.1.1 h.1.2
   have:(41:Nat)∈(numS n).cps.toList:=by rw[z];decide+kernel
   have:=hf.1 41 this
   exact absurd this gq
  |name w=>exact⟨_,_,rfl,vw h.1⟩
  |_=>exact⟨_,_,rfl,gq⟩
theorem vx {item:List Str->List Dt->Option (Dt×Rs)} {ws r:List Str} {rows rows' acc:List Dt} {d:Dt} (h:∃x r,ws=x::r/\x≠(")":Str)) (hi:item ws rows=some (d,r,rows')) (hl:r.length<ws.length):iE item ws rows acc=iE item r rows' (acc++[d]):=by
 obtain⟨x,r0,rfl,hx⟩:=h
 have h':¬(x::r0).head?=some (")":Str):=fun z=>hx (cX.inj z)
 rw[iE]
 refine(fZ h').trans ?_
 rw[hi]
 exact dif_pos hl
theorem qj {item:List Str->List Dt->Option (Dt×Rs)} {r:List Str} {rows acc:List Dt}:iE item ((")":Str)::r) rows acc=some (acc,(")":Str)::r,rows):=kT _ _ _ rfl
theorem uB {pe:Pe}:∀(ts:List Tr),Em pe ts->oks ts->∀(acc:List Dt) (rest:List Str) (rows:List Dt),rows.length+szs ts<=160->
  iE (jZ pe) ((tks ts).flatten++(")":Str)::rest) rows acc=some (acc++(offs ts rows.length).map kD,(")":Str)::rest,rows++rws ts rows.length)
 |[],_,_,acc,rest,rows,_=>by
  show iE _ ((")":Str)::rest) rows acc=_
  rw[qj]
  simp[offs,rws]
 |t::ts,h,ho,acc,rest,rows,hl=>by
  rw[szs]at hl
  rw[oks]at ho
  obtain⟨x,r,ex,hx⟩:=CF t ho.1
  have h1:=h t ah ((tks ts).flatten++(")":Str)::rest) rows (by lia)
  have hlen:(rows++t.rw rows.length).length=rows.length+t.sz:=by rw[aO,Tr.rw_len]
  rw[tks,bN,bJ]
  rw[vx (d:=kD rows.length) (r:=(tks ts).flatten++(")":Str)::rest) (rows':=rows++t.rw rows.length) ⟨x,_,by rw[ex];rfl,hx⟩ (by unfold jZ;rw[h1];rfl) (by rw[ex,aS,az,aO (as:=r)];lia),uB ts (fun x hx=>h x (aj _ hx)) ho.2 _ rest _ (by rw[hlen];lia),hlen,offs,rws,aB,bJ,bJ]
  rfl
theorem qm {pe:Pe}:∀(l:List Str) (ts:List Tr),l.length=ts.length->(∀w∈l,isName w=true)->Em pe ts->∀(acc:List Dt) (rest:List Str) (rows:List Dt),rows.length+szs ts<=160->
  iE (ir pe [true,false]) (wv1 l (tks ts)++(")":Str)::rest) rows acc=some (acc++(l.zip (offs ts rows.length)).map (fun p=> .tup [sD p.1,kD p.2]),(")":Str)::rest,rows++rws ts rows.length)
 |[],[],_,_,_,acc,rest,rows,_=>by
  show iE _ ((")":Str)::rest) rows acc=_
  rw[qj]
  simp[offs,rws]
 |w::l,t::ts,hl0,hw,h,acc,rest,rows,hl=>by
  rw[szs]at hl
  have h1:=h t ah (wv1 l (tks ts)++(")":Str)::rest) rows (by lia)
  have hn:=hw w ah
  have hlen:(rows++t.rw rows.length).length=rows.length+t.sz:=by rw[aO,Tr.rw_len]
  rw[tks,wv1,aS,bJ]
  have hi:ir pe [true,false] (w::(t.tk++(wv1 l (tks ts)++(")":Str)::rest))) rows=some (.tup [sD w,kD rows.length],wv1 l (tks ts)++(")":Str)::rest,rows++t.rw rows.length):=by
   have e:f9 pe [true,false] [] (w::(t.tk++(wv1 l (tks ts)++(")":Str)::rest))) rows=some ([sD w,kD rows.length],wv1 l (tks ts)++(")":Str)::rest,rows++t.rw rows.length):=by
    rw[qi hn,zC h1]
    rfl
   unfold ir
   rw[e]
  rw[vx ⟨_,_,rfl,vw hn⟩ hi (by simp only[az,aO];lia),qm l ts (by simpa using hl0) (fun x hx=>hw x (aj _ hx)) (fun x hx=>h x (aj _ hx)) _ rest _ (by rw[hlen];lia),hlen,offs,rws,List.zip_cons_cons,aB,bJ,bJ]
  rfl
theorem uC {pe:Pe}:∀(l:List (Str×Str)) (ts:List Tr),l.length=ts.length->(∀p∈l,isName p.1=true/\isName p.2=true)->Em pe ts->∀(acc:List Dt) (rest:List Str) (rows:List Dt),rows.length+szs ts<=160->
  iE (ir pe [true,true,false]) (wv2 l (tks ts)++(")":Str)::rest) rows acc=some (acc++(l.zip (offs ts rows.length)).map (fun p=> .tup [sD p.1.1,sD p.1.2,kD p.2]),(")":Str)::rest,rows++rws ts rows.length)
 |[],[],_,_,_,acc,rest,rows,_=>by
  show iE _ ((")":Str)::rest) rows acc=_
  rw[qj]
  simp[offs,rws]
 |w::l,t::ts,hl0,hw,h,acc,rest,rows,hl=>by
  rw[szs]at hl
  have h1:=h t ah (wv2 l (tks ts)++(")":Str)::rest) rows (by lia)
  obtain⟨hn,hn2⟩:=hw w ah
  have hlen:(rows++t.rw rows.length).length=rows.length+t.sz:=by rw[aO,Tr.rw_len]
  rw[tks,wv2,aS,aS,bJ]
  have hi:ir pe [true,true,false] (w.1::w.2::(t.tk++(wv2 l (tks ts)++(")":Str)::rest))) rows=some (.tup [sD w.1,sD w.2,kD rows.length],wv2 l (tks ts)++(")":Str)::rest,rows++t.rw rows.length):=by
   have e:f9 pe [true,true,false] [] (w.1::w.2::(t.tk++(wv2 l (tks ts)++(")":Str)::rest))) rows=some ([sD w.1,sD w.2,kD rows.length],wv2 l (tks ts)++(")":Str)::rest,rows++t.rw rows.length):=by
    rw[qi hn,qi hn2,zC h1]
    rfl
   unfold ir
   rw[e]
  rw[vx ⟨_,_,rfl,vw hn⟩ hi (by simp only[az,aO];lia),uC l ts (by simpa using hl0) (fun x hx=>hw x (aj _ hx)) (fun x hx=>h x (aj _ hx)) _ rest _ (by rw[hlen];lia),hlen,offs,rws,List.zip_cons_cons,aB,bJ,bJ]
  rfl
theorem zD {rows more:List Dt} {x y:Dt}:(rows++[x]++more).set rows.length y=rows++y::more:=by
 rw[bJ,List.set_append_right _ _ (cz _),cM]
 rfl
theorem lR {f:Nat} {h:Str} {ws rest:List Str} {rows ds more:List Dt} (hr:rows.length<160) (hf:iK (gk f) h (ws++(")":Str)::rest) (rows++[.flat .non])=some (ds,(")":Str)::rest,rows++[.flat .non]++more)):
  gk (f+ 1) (("(":Str)::h::(ws++[(")":Str)])++rest) rows=some (rest,rows++ .tup ds::more):=by
 rw[gk,fZ (by lia)]
 show(match rO (gk f) (("(":Str)::h::((ws++[(")":Str)])++rest)) (rows++[Dt.flat .non])with|none=>none|some (ds,r,rows')=>some (r,rows'.set rows.length (Dt.tup ds)))=_
 rw[vv pE.1 pE.2 rfl,bJ]
 show(match lQ (iK (gk f) h (ws++(")":Str)::rest) (rows++[Dt.flat .non]))with|none=>none|some (ds,r,rows')=>some (r,rows'.set rows.length (Dt.tup ds)))=_
 rw[hf]
 show(match(if(")":Str)=")" then some (ds,rest,rows++[Dt.flat .non]++more)else none)with|none=>none|some (ds,r,rows')=>some (r,rows'.set rows.length (Dt.tup ds)))=_
 rw[gx rfl]
 show some (rest,(rows++[Dt.flat .non]++more).set rows.length (Dt.tup ds))=_
 rw[zD]
theorem mM {pe:Pe} {h:Str} {ps:List Bool} {ws r:List Str} {rows ds rows':List Dt} (h1:¬h="rec") (h2:¬h="case") (h3:¬h="row") (hp:stP h=some ps) (s:f9 pe ps [] ws rows=some (ds,r,rows')):iK pe h ws rows=some (sD h::ds,r,rows'):=by
 unfold iK
 rw[fZ h1,fZ h2,fZ h3,hp]
 dsimp only
 rw[s]
 rfl
theorem Eo:∀p∈ops,stP p.1=some (aG p.2 false)/\¬p.1="rec"/\¬p.1="case"/\¬p.1="row":=gq
theorem num_is {n:Int} (h0:0<=n) (h1:n<10^60):iY (numS n)=true/\uq (numS n)=n:=by
 refine⟨GR.Internal.num_is (k:=59) h0 h1 (by decide),?_⟩
 obtain⟨f1,f2,f3⟩:=str_fig (k:=59) h0 h1
 have hd:PySem.NumText.AllDigits (numS n).cps.toList:=fun c hc=>wD c (f1 c hc)
 have hne:(numS n).cps.toList≠[]:=by
  obtain⟨c,r,e⟩:=first_of (x:=numS n) f2
  rw[e]
  exact List.cons_ne_nil _ _
 have hl:(numS n).length<=60:=f3
 have e:=PySem.intText_digits hd hne (by lia)
 unfold uq
 rw[e]
 obtain⟨m,rfl⟩:=fb h0
 unfold numS
 rw[PySem.W.KIN.signs_num,PySem.W.KIN.val_back]
 rfl
theorem Gy:∀c∈SM.cps.toList,¬c∈FG.cps.toList:=gq
theorem CG {w:Str} (h:isName w=true):¬iY w=true:=fun z=>by
 obtain⟨z1,_,z3⟩:=qg z
 obtain⟨c,r,ec⟩:=first_of z1
 unfold isName at h
 simp only[eR]at h
 have hf:=h.1.2
 unfold firstIn at hf
 rw[ec]at hf
 exact Gy c (of_decide_eq_true hf) (allIn_mem z3 c (by rw[ec];exact ah))
theorem rd_all:∀(f:Nat) (t:Tr),t.ok->t.nest<=f->RdT (gk f) t
 |0,.mk κ ks,_,hn=>by rw[Tr.nest]at hn;lia
 |f+ 1,.mk κ ks,ho,hn=>by
  intro rest rows hl
  rw[Tr.ok]at ho
  rw[Tr.nest]at hn
  rw[Tr.sz]at hl
  obtain⟨h1,h2,h3⟩:=ho
  have ih:Em (gk f) ks:=by
   intro t ht
   have:t.ok/\t.nest<=nests ks:=by
    clear hl h1 h2
    induction ks with
    |nil=>cases ht
    |cons x xs ih=>
     rw[oks]at h3
     rw[nests]at hn⊢
     rcases ak.mp ht with e|e
     ·subst e
      exact⟨h3.1,Nat.le_max_left _ _⟩
     ·have:=ih (by lia) h3.2 e
      exact⟨this.1,by lia⟩
   exact rd_all f t this.1 (by lia)
  have r1:(rows++[Dt.flat .non]).length=rows.length+ 1:=by rw[aO];rfl
  have hs:∀(s:Str) (ps:List Bool),ps=aG ks.length false->stP s=some ps->(¬s="rec"/\¬s="case"/\¬s="row")->iK (gk f) s ((tks ks).flatten++(")":Str)::rest) (rows++[.flat .non])=some (sD s::(offs ks (rows.length+ 1)).map kD,(")":Str)::rest,rows++[.flat .non]++rws ks (rows.length+ 1)):=fun s ps e1 e2 e3=>by
   refine mM e3.1 e3.2.1 e3.2.2 e2 ?_
   have:=pG ks ih [] [] ((")":Str)::rest) (rows++[.flat .non]) (by rw[r1];lia)
   rw[aD]at this
   rw[e1,this,r1,f9]
   rfl
  have hn1:∀(s w:Str),isName w=true->stP s=some (true::aG ks.length false)->(¬s="rec"/\¬s="case"/\¬s="row")->iK (gk f) s (w::(tks ks).flatten++(")":Str)::rest) (rows++[.flat .non])=some (sD s::sD w::(offs ks (rows.length+ 1)).map kD,(")":Str)::rest,rows++[.flat .non]++rws ks (rows.length+ 1)):=fun s w hw e2 e3=>by
   refine mM e3.1 e3.2.1 e3.2.2 e2 ?_
   rw[aS,qi hw]
   have:=pG ks ih [] [sD w] ((")":Str)::rest) (rows++[.flat .non]) (by rw[r1];lia)
   rw[aD]at this
   show f9 (gk f) (aG ks.length false) [sD w] _ _=_
   rw[this,r1,f9]
   rfl
  rw[Tr.tk,Tr.rw]
  cases κ with
  |num n=>
   have e:ks=[]:=bO h2
   subst e
   obtain⟨n1,n2⟩:=num_is h1.1 h1.2
   rw[gk,fZ (by lia)]
   show(match rO (gk f) (numS n::rest) (rows++[Dt.flat .non])with|none=>none|some (ds,r,rows')=>some (r,rows'.set rows.length (Dt.tup ds)))=_
   rw[vt n1,n2]
   show some (rest,(rows++[Dt.flat .non]).set rows.length (Dt.tup _))=_
   have:=zD (rows:=rows) (more:=[]) (x:=Dt.flat .non) (y:=Dt.tup [Dt.flat (.str "num"),Dt.flat (.int n)])
   rw[aD]at this
   rw[this]
   rfl
  |name w=>
   have e:ks=[]:=bO h2
   subst e
   have hw:isName w=true:=h1
   have hnn:¬iY w=true:=CG hw
   rw[gk,fZ (by lia)]
   show(match rO (gk f) (w::rest) (rows++[Dt.flat .non])with|none=>none|some (ds,r,rows')=>some (r,rows'.set rows.length (Dt.tup ds)))=_
   rw[sE hnn hw]
   show some (rest,(rows++[Dt.flat .non]).set rows.length (Dt.tup _))=_
   have:=zD (rows:=rows) (more:=[]) (x:=Dt.flat .non) (y:=Dt.tup [Dt.flat (.str "name"),Dt.flat (.str w)])
   rw[aD]at this
   rw[this]
   rfl
  |fn w=>exact lR (by lia) (hn1 "fn" w h1 (by rw[h2];exact(show stP "fn"=some (true::aG 1 false)from by decide+kernel)) gq)
  |tag w=>exact lR (by lia) (hn1 "tag" w h1 (by rw[h2];exact(show stP "tag"=some (true::aG 1 false)from by decide+kernel)) gq)
  |lt w=>exact lR (by lia) (hn1 "let" w h1 (by rw[h2];exact(show stP "let"=some (true::aG 2 false)from by decide+kernel)) gq)
  |get w=>
   refine lR (by lia) ?_
   refine mM (h:="get") gq gq gq (show stP "get"=some (aG ks.length false++[true]) by rw[h2];exact(show stP "get"=some (aG 1 false++[true])from by decide+kernel)) ?_
   have:=pG ks ih [true] [] (w::(")":Str)::rest) (rows++[.flat .non]) (by rw[r1];lia)
   show f9 (gk f) _ [] (((tks ks).flatten++[w])++(")":Str)::rest) _=_
   rw[bJ]
   show f9 (gk f) _ [] ((tks ks).flatten++(w::(")":Str)::rest)) _=_
   rw[this,r1,qi (show isName w=true from h1),f9]
   rfl
  |rcd l=>
   refine lR (by lia) ?_
   have:=qm l ks h2.symm h1.2 ih [] rest (rows++[.flat .non]) (by rw[r1];lia)
   show iK (gk f) "rec" _ _=_
   unfold iK
   rw[gx rfl]
   show(match chk 0 6 (iE (ir (gk f) [true,false]) (wv1 l (tks ks)++(")":Str)::rest) (rows++[Dt.flat .non]) [])with|none=>none|some (l,r)=>some ([Dt.flat (.str "rec"),Dt.tup l],r))=_
   rw[this,r1]
   unfold chk
   dsimp only
   rw[gx ⟨cA _,by rw[bP,aC,bQ];have:=h1.1;lia⟩]
   rfl
  |row m=>
   refine lR (by lia) ?_
   have:=uB ks ih h3 [] rest (rows++[.flat .non]) (by rw[r1];lia)
   show iK (gk f) "row" _ _=_
   unfold iK
   rw[fZ gq,fZ gq,gx rfl]
   show(match chk 0 8 (iE (jZ (gk f)) ((tks ks).flatten++(")":Str)::rest) (rows++[Dt.flat .non]) [])with|none=>none|some (l,r)=>some ([Dt.flat (.str "row"),Dt.tup l],r))=_
   rw[this,r1]
   unfold chk
   dsimp only
   have h8:m<=8:=h1
   have hk:ks.length=m:=h2
   rw[gx ⟨cA _,by rw[bP,aC,sH];lia⟩]
   rfl
  |op s m=>
   obtain⟨e1,e2⟩:=Eo (s,m) h1
   exact lR (by lia) (hs s _ (by rw[h2];rfl) e1 e2)
  |case l=>
   cases ks with
   |nil=>exact absurd h2 (by simp[Kn.ar])
   |cons t ts=>
    have hl2:l.length=ts.length:=by simpa[Kn.ar]using h2.symm
    refine lR (by lia) ?_
    rw[szs]at hl
    have hlen:(rows++[Dt.flat .non]++t.rw (rows.length+ 1)).length=rows.length+ 1+t.sz:=by rw[aO,Tr.rw_len,r1]
    have a1:=ih t ah (wv2 l (tks ts)++(")":Str)::rest) (rows++[.flat .non]) (by rw[r1];lia)
    rw[r1]at a1
    have a2:=uC l ts hl2 h1.2.2 (fun x hx=>ih x (aj _ hx)) [] rest (rows++[.flat .non]++t.rw (rows.length+ 1)) (by rw[hlen];lia)
    show iK (gk f) "case" _ _=_
    unfold iK
    rw[fZ gq,gx rfl]
    show(match gk f ((t.tk++wv2 l (tks ts))++(")":Str)::rest) (rows++[Dt.flat .non])with|none=>none|some (r1,rows1)=>match chk 1 6 (iE (ir (gk f) [true,true,false]) r1 rows1 [])with|none=>none|some (l,r)=>some ([Dt.flat (.str "case"),Dt.flat (.int ((rows++[Dt.flat .non]).length:Int)),Dt.tup l],r))=_
    rw[bJ,a1]
    dsimp only
    rw[a2,hlen]
    unfold chk
    dsimp only
    rw[gx ⟨by rw[bP,aC,bQ,sH];have:=h1.1;lia,by rw[bP,aC,bQ];have:=h1.2.1;lia⟩,r1]
    show some ([sD "case",kD (rows.length+ 1),Dt.tup _],(")":Str)::rest,rows++[Dt.flat .non]++t.rw (rows.length+ 1)++rws ts (rows.length+ 1+t.sz))=_
    rw[rws,offs,bJ]
    rfl
end TM.Internal
namespace K60.Internal
open PySem L2.Internal
theorem l0 {P:List Value->Prop} (h:P []):∀us:List Value,us.length=0->P us:=fun us e=>by rw[bO e];exact h
theorem lS {n:Nat} {P:List Value->Prop} (h:∀a,∀us:List Value,us.length=n->P (a::us)):∀us:List Value,us.length=n+ 1->P us:=fun us e=>by
 cases us with
 |nil=>cases e
 |cons a t=>exact h a t (Nat.succ.inj e)
def top (i:Nat):Stmt:=PySem.Challenge.pw_flowkinds_k60_numbers.main.body.getD i (.Pass ⟨0,0,0,0⟩)
variable {K:PySem.W.Frag} {mg:Str->Option Value} {n q:Str} {st:Stmt} {ps:List Str} {C:Addr} {h:Heap}
inductive Fm (K:PySem.W.Frag) (n:Str) (st:Stmt):Prop
 |mk {f:Addr} {od an:Option Addr} {sl:Array (Option Value)} {oc kV dc pm cd ct:Value} (a:dW K mainGlobals n=some (some (.ref f))) (l:K.lookup f=some ⟨oc,od,.func (dO n n (kC st) (jC st) (fK st) .none kV dc pm an cd ct),sl⟩) (c:dP K cd n=true) (k:dE K (.ref f)=true)
inductive Mm (K:PySem.W.Frag) (C:Addr) (n q:Str) (st:Stmt):Prop
 |mk {f:Addr} {od an:Option Addr} {sl:Array (Option Value)} {oc kV dc pm cd ct:Value} (i:du K (.ref C) n=some (some (.ref f))) (j:dy K (.ref f)=true) (l:K.lookup f=some ⟨oc,od,.func (dO n q (kC st) (jC st) (fK st) .none kV dc pm an cd ct),sl⟩) (c:dP K cd q=true) (k:dE K (.ref f)=true)
structure Cm (K:PySem.W.Frag) (n:Str) (C:Addr):Prop where
 a:dW K mainGlobals n=some (some (.ref C))
 pg:dr K C Str.empty=true
 hd:dt K C=true
 po:dz K C=true
 sa:du K (.ref C) "__setattr__"=some (some (.builtin "object.__setattr__"))
 t1:du K (.ref C) "__class__"=some (some (.builtin "object.__class__"))
 t2:dD K (.builtin "object.__class__") "__get__"=some (some (.builtin "getset_descriptor.__get__"))
 t3:PySem.W.takesIn K (.builtin "object.__class__")=some true
 t4:PySem.W.mroIn K C (.type "object")=some true
 ms:dB K C=true
 kc:dE K (.ref C)=true
structure Fx (K:PySem.W.Frag) (mg:Str->Option Value) (n:Str) (st:Stmt) (ps:List Str) where
 a:Addr
 fd:FuncData
 F:Fun K n n st a fd
 b:n8 K fd ps []
 m:mg n=some (.ref a)
 k:dE K (.ref a)=true
structure Mx (K:PySem.W.Frag) (C:Addr) (n q:Str) (st:Stmt) (ps:List Str) where
 a:Addr
 fd:FuncData
 F:Fun K n q st a fd
 b:n8 K fd ps []
 me:Fc K C n a
structure Ck (K:PySem.W.Frag) (mg:Str->Option Value) (n:Str) where
 a:Addr
 m:mg n=some (.ref a)
 cl:Cls K a
 ty:∀(H:Hp) (x dx:Addr) (fs:List (Str×V)),H x=some (.ins a dx fs)->vf K H (.ref x) (.ref a)
def Bf (n q:Str) (st:Stmt) (ps:List Str):Prop:=∀(kV doc pm:Value) (an:Option Addr) (cdv ct:Value) (us:List Value),us.length=ps.length->bindArgs (dO n q (kC st) (jC st) (fK st) .none kV doc pm an cdv ct) ⟨us,[]⟩=pure (ps.zip us)
def Fm.x (X:K.In h) (G:h.Ns mainGlobals mg) (a:Fm K n st) (hb:Bf n n st ps:=by intro _ _ _ _ _ _;repeat(first|exact l0 rfl|refine lS fun _=>?_)):Fx K mg n st ps:=Classical.choice (by
 obtain⟨a,l,c,k⟩:=a
 exact⟨⟨_,_,pZ l c k,(pZ l c k).binds hb,dZ X G a,k⟩⟩)
def Mm.x (a:Mm K C n q st) (hb:Bf n q st ps:=by intro _ _ _ _ _ _;repeat(first|exact l0 rfl|refine lS fun _=>?_)):Mx K C n q st ps:=Classical.choice (by
 obtain⟨i,j,l,c,k⟩:=a
 exact⟨⟨_,_,pZ l c k,(pZ l c k).binds hb,⟨i,j,k⟩⟩⟩)
def Cm.x (X:K.In h) (G:h.Ns mainGlobals mg) (a:Cm K n C):Ck K mg n:=⟨C,dZ X G a.a,⟨a.pg,a.hd,a.po,a.sa⟩,fun _ _ _ _ e=> .ins e ⟨a.pg,a.hd,a.po,a.sa⟩ a.t1 a.t2 a.t3 a.t4⟩
theorem sf {x:Option (Option Value)} {a b:Addr} (h1:x=some (some (.ref a))) (h2:x=some (some (.ref b))):a=b:=by rw[h1]at h2;cases h2;rfl
theorem Cm.k (a:Cm K n C) (x:Mx K C "__init__" q st ps):Mk K C x.a:=⟨a.ms,x.me.at_,x.me.fn,a.kc⟩
abbrev FO (P:Program) (w:World) (base:Heap) (k:Nat) (x:Fx K mg n st ps) (sp:Sp):Prop:=pT P w K mg base CX0 k x.a x.fd ps sp
abbrev MO (P:Program) (w:World) (base:Heap) (mg:Str->Option Value) (k:Nat) (x:Mx K C n q st ps) (sp:Sp):Prop:=pT P w K mg base CX0 k x.a x.fd ps sp
abbrev FE (P:Program) (w:World) (base:Heap) (k:Nat) (x:Fx K mg n st ps) (sp:Sp):Prop:=pT P w K mg base (CXE P w) k x.a x.fd ps sp
abbrev ME (P:Program) (w:World) (base:Heap) (mg:Str->Option Value) (k:Nat) (x:Mx K C n q st ps) (sp:Sp):Prop:=pT P w K mg base (CXE P w) k x.a x.fd ps sp
abbrev oq:Stmt:=top 6
abbrev mO:Stmt:=top 7
abbrev zE:Stmt:=top 8
abbrev kU:Stmt:=top 12
abbrev lT:Stmt:=top 13
abbrev ot:Stmt:=top 14
abbrev mP:Stmt:=top 15
abbrev ou:Stmt:=top 27
abbrev ow:Stmt:=top 28
abbrev mQ:Stmt:=top 29
abbrev CH:Stmt:=top 33
abbrev ox:Stmt:=top 48
abbrev qo:Stmt:=top 49
abbrev mS:Stmt:=top 50
abbrev qp:Stmt:=top 51
abbrev zF:Stmt:=top 52
abbrev kW:Stmt:=top 53
abbrev oy:Stmt:=top 56
abbrev kH:Stmt:=top 57
abbrev lU:Stmt:=top 58
abbrev qq:Stmt:=top 59
abbrev kX:Stmt:=top 60
abbrev kI:Stmt:=top 61
abbrev qr:Stmt:=top 62
abbrev mU:Stmt:=top 64
abbrev lV:Stmt:=top 65
abbrev mV:Stmt:=top 66
abbrev kY:Stmt:=top 67
abbrev lW:Stmt:=top 68
abbrev mW:Stmt:=top 69
abbrev kZ:Stmt:=top 70
abbrev oz:Stmt:=top 71
abbrev lg:Stmt:=top 72
abbrev mX:Stmt:=top 73
abbrev lX:Stmt:=top 74
abbrev lj:Stmt:=top 75
abbrev oA:Stmt:=top 76
abbrev mY:Stmt:=top 77
abbrev lY:Stmt:=top 78
abbrev mZ:Stmt:=top 79
abbrev kg:Stmt:=top 80
abbrev sI:Stmt:=top 81
abbrev oY:Stmt:=gP (top 3) 0
abbrev oB:Stmt:=gP (top 4) 0
abbrev jr:Stmt:=gP (top 11) 0
abbrev iL:Stmt:=gP (top 11) 1
abbrev i7:Stmt:=gP (top 11) 2
abbrev kh:Stmt:=gP (top 11) 3
abbrev i8:Stmt:=gP (top 11) 4
abbrev i9:Stmt:=gP (top 11) 5
abbrev jO:Stmt:=gP (top 11) 6
abbrev ki:Stmt:=gP (top 11) 8
abbrev js:Stmt:=gP (top 11) 9
abbrev iM:Stmt:=gP (top 11) 10
abbrev kJ:Stmt:=gP (top 32) 0
abbrev jt:Stmt:=gP (top 47) 0
abbrev jD:Stmt:=gP (top 54) 0
abbrev kK:Stmt:=gP (top 54) 1
abbrev lq:Stmt:=gP (top 54) 2
abbrev ju:Stmt:=gP (top 54) 3
abbrev jv:Stmt:=gP (top 54) 4
abbrev jw:Stmt:=gP (top 54) 5
abbrev jE:Stmt:=gP (top 54) 6
abbrev jx:Stmt:=gP (top 54) 7
abbrev ja:Stmt:=gP (top 54) 8
abbrev jb:Stmt:=gP (top 54) 9
abbrev jy:Stmt:=gP (top 54) 10
abbrev jc:Stmt:=gP (top 54) 11
theorem scK {N ps:List Str} {s:Scope} (h:fS N ps s:=by constructor<;>first|rfl|decide+kernel):fS N ps s:=h
structure Ek (K:PySem.W.Frag) (mg:Str->Option Value) (n:Str) where
 a:Addr
 m:mg n=some (.ref a)
inductive Jm (K:PySem.W.Frag) (C:Addr) (q:Str) (st:Stmt):Prop
 |mk {f:Addr} {od an:Option Addr} {sl:Array (Option Value)} {oc kV dc pm cd ct:Value} {N:Addr} {z1 z2:Str} {y1 y2 y3:List Value} {y4:List Str} {y5:Bool} {y6:Option Bool} {y7:Option Addr} {k0 k1 k2 k3 k5:Option Value} (xl:K.lookup C=some ⟨.type "type",y7,.cls ⟨z1,y1,.ref C::y2,N,z2,true,y4,y3,y5,y6,false⟩,#[k0,k1,k2,k3,some (.builtin "ValueError.__new__"),k5]⟩) (xi:dW K N "__init__"=some (some (.ref f)))
  (l:K.lookup f=some ⟨oc,od,.func (dO "__init__" q (kC st) (jC st) (fK st) .none kV dc pm an cd ct),sl⟩) (c:dP K cd q=true) (k:dE K (.ref f)=true) (xz:dU K N=true) (xt:dY K Cr y2=true) (xp:oc= .type "function") (xj:du K (.ref C) "__setattr__"=some (some (.builtin "object.__setattr__")))
  (xa:du K (.ref C) "__getattribute__"=some (some (.builtin "BaseException.__getattribute__"))) (xb:du K (.ref C) "__getattr__"=some none) (xc:du K (.ref C) "__class__"=some (some (.builtin "object.__class__"))) (xd:dS K (.ref C) (.type "BaseException")=some true) (xe:dS K (.ref C) (.type "object")=some true) (xf:dt K C=true)
structure Jx (K:PySem.W.Frag) (C:Addr) (q:Str) (st:Stmt) (ps:List Str) where
 a:Addr
 fd:FuncData
 F:Fun K "__init__" q st a fd
 b:n8 K fd ps []
 xi:Ht K C a
 xs:Hs K C
def Jm.x (a:Jm K C q st) (hb:Bf "__init__" q st ps:=by intro _ _ _ _ _ _;repeat(first|exact l0 rfl|refine lS fun _=>?_)):Jx K C q st ps:=Classical.choice (by
 obtain⟨xl,xi,l,c,k,xz,xt,xp,xj,xa,xb,xc,xd,xe,xf⟩:=a
 exact⟨⟨_,_,pZ l c k,(pZ l c k).binds hb,Ed xl xz xi xt l xp,Ec xl xt ⟨xa,xb,xc,xd,xe,xf⟩ xj⟩⟩)
set_option genInjectivity false in
set_option genSizeOf false in
structure Txt (K:PySem.W.Frag) (mg:Str->Option Value) where
 t1:Tok
 o1:mg "MOST_JOINED"=some (.int 60 t1)
 t2:Tok
 o2:mg "LETTERS"=some (.str "abcdefghijklmnopqrstuvwxyz" t2)
 t3:Tok
 o3:mg "FIGURES"=some (.str "0123456789" t3)
 t4:Addr
 o4:mg "KEPT_WORDS"=some (.ref t4)
 r4:∀H:Hp,SqT K H t4 [V.str "def",V.str "fn",V.str "call",V.str "let",V.str "rec",V.str "get",V.str "tag",V.str "case",V.str "row",V.str "at",V.str "join",V.str "size",V.str "add",V.str "sub",V.str "less"]
 t5:Tok
 o5:mg "MOST_FIGURES"=some (.int 60 t5)
 t6:Tok
 o6:mg "MOST_SIGNS"=some (.int 12 t6)
 t7:Tok
 o7:mg "MOST_DEFINITIONS"=some (.int 12 t7)
 t8:Tok
 o8:mg "MOST_FIELDS"=some (.int 6 t8)
 t9:Tok
 o9:mg "MOST_ARMS"=some (.int 6 t9)
 t10:Tok
 o10:mg "MOST_THINGS"=some (.int 8 t10)
 t11:Tok
 o11:mg "MOST_PLACES"=some (.int 160 t11)
 t12:Tok
 o12:mg "MOST_NEST"=some (.int 24 t12)
 d1:Fx K mg "parts_of" oq ["row"]
 d2:Fx K mg "places_in" mO ["row"]
 d3:Fx K mg "flat" zE ["parts"]
 d4:Fx K mg "first_parts" kU ["row"]
 d5:Fx K mg "held_value" lT ["scope","place"]
 d6:Fx K mg "work_num" ot ["machine","row","place","scope","parts"]
 d7:Fx K mg "work_name" mP ["machine","row","place","scope","parts"]
 d8:Fx K mg "work_add" ou ["machine","row","place","scope","parts"]
 d9:Fx K mg "work_sub" ow ["machine","row","place","scope","parts"]
 d10:Fx K mg "work_less" mQ ["machine","row","place","scope","parts"]
 d11:Fx K mg "run" CH ["program","homes","turns"]
 d12:Fx K mg "words_of" ox ["text"]
 d13:Fx K mg "is_name" qo ["word"]
 d14:Fx K mg "is_number" mS ["word"]
 d15:Fx K mg "made_of" qp ["word","signs"]
 d16:Fx K mg "read" zF ["text"]
 d17:Fx K mg "check_count" kW ["what","count","least","most"]
 d18:Fx K mg "homes_of" oy ["program"]
 d19:Fx K mg "refuse_twice" kH ["words"]
 d20:Fx K mg "words_once" lU ["row"]
 d21:Fx K mg "home_of" qq ["row","place","scope"]
 d22:Fx K mg "root_scopes" kX ["program"]
 d23:Fx K mg "inner_scopes" kI ["row","scope"]
 d24:Fx K mg "widened" qr ["scope","name","home"]
 d25:Fx K mg "_law_stem" mU ["_law_cell","_law_size"]
 d26:Fx K mg "_law_words" lV ["_law_cell"]
 d27:Fx K mg "_law_mark" mV ["_law_fresh"]
 d28:Fx K mg "_law_number" kY ["_law_fresh","_law_n"]
 d29:Fx K mg "_law_named" lW ["_law_fresh","_law_word","_law_value"]
 d30:Fx K mg "_law_form" mW ["_law_at","_law_words_here","_law_items_here"]
 d31:Fx K mg "_law_valued" kZ ["_law_whole_here","_law_value","_law_meets"]
 d32:Fx K mg "_law_sum" oz ["_law_fresh","_law_word","_law_one","_law_other"]
 d33:Fx K mg "_law_placed" lg ["_law_items_here"]
 d34:Fx K mg "_law_text" mX ["_law_words_here","_law_items_here"]
 d35:Fx K mg "_law_whole" lX ["_law_x"]
 d36:Fx K mg "_law_tuples" lj ["_law_found","_law_due","_law_size"]
 d37:Fx K mg "_law_ran" oA ["_law_text_here","_law_turns"]
 d38:Fx K mg "_law_told" mY ["_law_found","_law_end","_law_begun","_law_placed_here"]
 d39:Fx K mg "_law_items" lY ["_law_words_here","_law_script"]
 d40:Fx K mg "_law_less" mZ ["_law_fresh","_law_words_here","_law_items_here","_law_m"]
 d41:Fx K mg "_law_is_value" kg ["_law_value","_law_due","_law_places"]
 c1:Ek K mg "FlowError"
 c2:Ek K mg "BadText"
 x2:Hg K c2.a
 c3:Ek K mg "Twice"
 c4:Ek K mg "NoName"
 c5:Ck K mg "Machine"
 n5program:ic K c5.a "program"
 n5homes:ic K c5.a "homes"
 n5turns:ic K c5.a "turns"
 n5begun:ic K c5.a "begun"
 n5end:ic K c5.a "end"
 n5meets:ic K c5.a "meets"
 n5had:ic K c5.a "had"
 n5defined:ic K c5.a "defined"
 n5steps:ic K c5.a "steps"
 n5ready:ic K c5.a "ready"
 e42:Mx K c5.a "__init__" "Machine.__init__" jr ["self","program","homes","turns"]
 mk5:Mk K c5.a e42.a
 e43:Mx K c5.a "work_program" "Machine.work_program" iL ["self"]
 e44:Mx K c5.a "work_steps" "Machine.work_steps" i7 ["self"]
 e45:Mx K c5.a "begin" "Machine.begin" kh ["self","place","scope"]
 e46:Mx K c5.a "work_parts" "Machine.work_parts" i8 ["self","place","scope"]
 e47:Mx K c5.a "take_ready" "Machine.take_ready" i9 ["self","count"]
 e48:Mx K c5.a "finish" "Machine.finish" jO ["self","place","value"]
 e49:Mx K c5.a "comes" "Machine.comes" ki ["self","value","place","slot","fits"]
 e50:Mx K c5.a "comes_as" "Machine.comes_as" js ["self","shape","value","place","slot"]
 e51:Mx K c5.a "both_come_as" "Machine.both_come_as" iM ["self","shape","parts","place"]
 c6:Ck K mg "Run"
 n6end:ic K c6.a "end"
 n6value:ic K c6.a "value"
 n6meets:ic K c6.a "meets"
 n6had:ic K c6.a "had"
 n6begun:ic K c6.a "begun"
 e52:Mx K c6.a "__init__" "Run.__init__" kJ ["self","end","value","meets","had","begun"]
 mk6:Mk K c6.a e52.a
 c7:Ck K mg "Program"
 n7names:ic K c7.a "names"
 n7roots:ic K c7.a "roots"
 n7rows:ic K c7.a "rows"
 e53:Mx K c7.a "__init__" "Program.__init__" jt ["self","names","roots","rows"]
 mk7:Mk K c7.a e53.a
 c8:Ck K mg "Reader"
 n8words:ic K c8.a "words"
 n8taken:ic K c8.a "taken"
 n8rows:ic K c8.a "rows"
 e54:Mx K c8.a "__init__" "Reader.__init__" jD ["self","words"]
 mk8:Mk K c8.a e54.a
 e55:Mx K c8.a "ahead" "Reader.ahead" kK ["self"]
 e56:Mx K c8.a "take" "Reader.take" lq ["self"]
 e57:Mx K c8.a "pass_over" "Reader.pass_over" ju ["self","wanted"]
 e58:Mx K c8.a "take_name" "Reader.take_name" jv ["self"]
 e59:Mx K c8.a "take_expr" "Reader.take_expr" jw ["self","depth"]
 e60:Mx K c8.a "take_row" "Reader.take_row" jE ["self","depth"]
 e61:Mx K c8.a "take_form" "Reader.take_form" jx ["self","head","depth"]
 e62:Mx K c8.a "take_steady" "Reader.take_steady" ja ["self","parts","depth"]
 e63:Mx K c8.a "take_fields" "Reader.take_fields" jb ["self","depth"]
 e64:Mx K c8.a "take_arms" "Reader.take_arms" jy ["self","depth"]
 e65:Mx K c8.a "take_things" "Reader.take_things" jc ["self","depth"]
 z_ValueError:mg "ValueError"=none
 z_all:mg "all"=none
 z_bool:mg "bool"=none
 z_dict:mg "dict"=none
 z_enumerate:mg "enumerate"=none
 z_int:mg "int"=none
 z_isinstance:mg "isinstance"=none
 z_len:mg "len"=none
 z_list:mg "list"=none
 z_max:mg "max"=none
 z_min:mg "min"=none
 z_range:mg "range"=none
 z_reversed:mg "reversed"=none
 z_str:mg "str"=none
 z_sum:mg "sum"=none
 z_tuple:mg "tuple"=none
 z_zip:mg "zip"=none
theorem vy:fS ["row"] ["row"] (fK oq):=scK
theorem uD:fS ["row"] ["row"] (fK mO):=scK
theorem sJ:fS ["parts","found","part"] ["parts"] (fK zE):=scK
theorem qQ:fS ["row"] ["row"] (fK kU):=scK
theorem sL:fS ["scope","place","around"] ["scope","place"] (fK lT):=scK
theorem vz:fS ["machine","row","place","scope","parts"] ["machine","row","place","scope","parts"] (fK ot):=scK
theorem oN:fS ["machine","row","place","scope","parts","home"] ["machine","row","place","scope","parts"] (fK mP):=scK
theorem vA:fS ["machine","row","place","scope","parts"] ["machine","row","place","scope","parts"] (fK ou):=scK
theorem vB:fS ["machine","row","place","scope","parts"] ["machine","row","place","scope","parts"] (fK ow):=scK
theorem oO:fS ["machine","row","place","scope","parts","word"] ["machine","row","place","scope","parts"] (fK mQ):=scK
theorem zG:fS ["program","homes","turns","machine","value"] ["program","homes","turns"] (fK CH):=scK
theorem qt:fS ["text","spaced"] ["text"] (fK ox):=scK
theorem yb:fS ["word"] ["word"] (fK qo):=scK
theorem uE:fS ["word"] ["word"] (fK mS):=scK
theorem yc:fS ["word","signs"] ["word","signs"] (fK qp):=scK
theorem sM:fS ["text","reader","names","roots"] ["text"] (fK zF):=scK
theorem qR:fS ["what","count","least","most"] ["what","count","least","most"] (fK kW):=scK
theorem jF:fS ["program","scopes","homes","place","row","scope"] ["program"] (fK oy):=scK
theorem kj:fS ["words","seen","word"] ["words"] (fK kH):=scK
theorem sN:fS ["row"] ["row"] (fK lU):=scK
theorem yd:fS ["row","place","scope"] ["row","place","scope"] (fK qq):=scK
theorem gX:fS ["program","scopes","earlier","number","name","root","later"] ["program"] (fK kX):=scK
theorem jz:fS ["row","scope","scopes","place","arm"] ["row","scope"] (fK kI):=scK
theorem rQ:fS ["scope","name","home","wider"] ["scope","name","home"] (fK qr):=scK
theorem iw:fS ["_law_cell","_law_size","_law_signs","_law_stem_here","_law_k","_law_many"] ["_law_cell","_law_size"] (fK mU):=scK
theorem gG:fS ["_law_cell","_law_size","_law_words_here","_law_stem_here","_law_at","_law_k","_law_word","_law_part"] ["_law_cell"] (fK lV):=scK
theorem uF:fS ["_law_fresh"] ["_law_fresh"] (fK mV):=scK
theorem mC:fS ["_law_fresh","_law_n","_law_at"] ["_law_fresh","_law_n"] (fK kY):=scK
theorem nQ:fS ["_law_fresh","_law_word","_law_value","_law_at"] ["_law_fresh","_law_word","_law_value"] (fK lW):=scK
theorem iS:fS ["_law_at","_law_words_here","_law_items_here","_law_texts","_law_whole_here","_law_k","_law_word","_law_part"] ["_law_at","_law_words_here","_law_items_here"] (fK mW):=scK
theorem qS:fS ["_law_whole_here","_law_value","_law_meets"] ["_law_whole_here","_law_value","_law_meets"] (fK kZ):=scK
theorem km:fS ["_law_fresh","_law_word","_law_one","_law_other","_law_at","_law_n","_law_meets"] ["_law_fresh","_law_word","_law_one","_law_other"] (fK oz):=scK
theorem gO:fS ["_law_items_here","_law_places","_law_item","_law_mark_here","_law_had","_law_meets"] ["_law_items_here"] (fK lg):=scK
theorem uG:fS ["_law_words_here","_law_items_here"] ["_law_words_here","_law_items_here"] (fK mX):=scK
theorem sO:fS ["_law_x"] ["_law_x"] (fK lX):=scK
theorem mD:fS ["_law_found","_law_due","_law_size","_law_one"] ["_law_found","_law_due","_law_size"] (fK lj):=scK
theorem qu:fS ["_law_text_here","_law_turns","_law_program"] ["_law_text_here","_law_turns"] (fK oA):=scK
theorem uH:fS ["_law_found","_law_end","_law_begun","_law_placed_here"] ["_law_found","_law_end","_law_begun","_law_placed_here"] (fK mY):=scK
theorem gI:fS ["_law_words_here","_law_script","_law_fresh","_law_items_here","_law_start","_law_item","_law_cell","_law_other","_law_word"] ["_law_words_here","_law_script"] (fK lY):=scK
theorem iA:fS ["_law_fresh","_law_words_here","_law_items_here","_law_m","_law_at","_law_one","_law_other","_law_both","_law_word","_law_meets","_law_value"] ["_law_fresh","_law_words_here","_law_items_here","_law_m"] (fK mZ):=scK
theorem jP:fS ["_law_value","_law_due","_law_places","_law_inner","_law_place"] ["_law_value","_law_due","_law_places"] (fK kg):=scK
theorem rR:fS ["_law_script","_law_words_here","_law_items_here","_law_placed_here","_law_begun","_law_found"] ["_law_script"] (fK sI):=scK
theorem ye:fS ["self","word"] ["self","word"] (fK oY):=scK
theorem wI:fS ["self","word","place"] ["self","word","place"] (fK oB):=scK
theorem m4:fS ["self","program","homes","turns"] ["self","program","homes","turns"] (fK jr):=scK
theorem jA:fS ["self","root"] ["self"] (fK iL):=scK
theorem jJ:fS ["self","step"] ["self"] (fK i7):=scK
theorem lE:fS ["self","place","scope","part"] ["self","place","scope"] (fK kh):=scK
theorem jK:fS ["self","place","scope","row"] ["self","place","scope"] (fK i8):=scK
theorem iT:fS ["self","count","taken","number"] ["self","count"] (fK i9):=scK
theorem oE:fS ["self","place","value"] ["self","place","value"] (fK jO):=scK
theorem oZ:fS ["self","value","place","slot","fits"] ["self","value","place","slot","fits"] (fK ki):=scK
theorem m5:fS ["self","shape","value","place","slot"] ["self","shape","value","place","slot"] (fK js):=scK
theorem lA:fS ["self","shape","parts","place"] ["self","shape","parts","place"] (fK iM):=scK
theorem qv:fS ["self","end","value","meets","had","begun"] ["self","end","value","meets","had","begun"] (fK kJ):=scK
theorem m7:fS ["self","names","roots","rows"] ["self","names","roots","rows"] (fK jt):=scK
theorem nR:fS ["self","words"] ["self","words"] (fK jD):=scK
theorem qw:fS ["self"] ["self"] (fK kK):=scK
theorem mE:fS ["self","word"] ["self"] (fK lq):=scK
theorem kn:fS ["self","wanted","word"] ["self","wanted"] (fK ju):=scK
theorem ko:fS ["self","word"] ["self"] (fK jv):=scK
theorem jj:fS ["self","depth","place"] ["self","depth"] (fK jw):=scK
theorem jB:fS ["self","depth","word","row"] ["self","depth"] (fK jE):=scK
theorem kq:fS ["self","head","depth","subject"] ["self","head","depth"] (fK jx):=scK
theorem iU:fS ["self","parts","depth","found","part"] ["self","parts","depth"] (fK ja):=scK
theorem jL:fS ["self","depth","found"] ["self","depth"] (fK jb):=scK
theorem kr:fS ["self","depth","found"] ["self","depth"] (fK jy):=scK
theorem jM:fS ["self","depth","found"] ["self","depth"] (fK jc):=scK
def wJ (K:PySem.W.Frag):Sp:=fun vs H Q _=>∃(a:Addr) (ns:List Int),vs=[.ref a]/\SqL K H a (ns.map V.int)/\ns.length<=63/\∀H',Q (.bl true) H'
theorem _root_.L2.Internal.Fun.rd {P:Program} {w:World} {base:Heap} {f:Addr} {fd:FuncData} {N:List Str} {k:Nat} {sp:Sp} (F:Fun K n q st f fd) (S:fS N ps (fK st)) (hbody:∀(cdv:Value) (A:Around) (outer:List Env) (s:Shared) (H:Hp) (vs:List V) (Q:VK) (E:XK),mj k (A.deeper (PyProof.Rows.envOfC q (fK st) s.heap.objs.size f cdv))->sp vs H Q E->∃t,PSs (uY CX0 P w K mg base N q (fK st) f cdv A outer s H E).nox (jC st) t/\t {nx:=fun _ H'=>Q .non H',rt:=Q} (oe N vs) H) (len:∀vs H Q E,sp vs H Q E->vs.length=ps.length:=by intro _ _ _ _ h;repeat(first|(obtain⟨rfl,_⟩:=h;rfl)|(cases h;first|(subst_vars;rfl)|rename_i h))):pT P w K mg base CX0 (k+ 1) f fd ps sp:=F.ok S len hbody
section
variable {X:Cx}
theorem pF {e:Expr} {es:List Expr} {pos p:Pos} {k:Nat} {sp:Sp} {t:TA} (x:Fx X.K X.mg n st ps) (F:pT X.prog X.w X.K X.mg X.base CX0 k x.a x.fd ps sp) (hr:mj k X.A) (ha:PA X (e::es) t) (hg:Gl X n:=by exact rfl) (hdb:autoParam ((n==("__debug__":Str))=false) L2.Internal.auD._auto_1) (he:autoParam (starEach (e::es) X.env=(false,eval e X.env)::starEach es X.env) L2.Internal.auR._auto_1) (hpl:autoParam ((backTo pos (starEach es X.env)).any (·.1)=false) L2.Internal.auR._auto_1):PE X (.Call (.Name n p) (e::es) [] pos) (Ca sp [] E0 t):=n9 F hr hg x.m x.k x.b .nil jq ha hdb he hpl
theorem pS {i:Nat} {x:Str} {e:Expr} {te:TE} {pos pos':Pos} (hN:X.N.Nodup) (he:PE X e te) (hi:autoParam (X.N[i]?=some x) L2.Internal.auR._auto_1) (hx:Loc X.env.scope x:=by first|exact .inl rfl|exact .inr rfl) (hs:autoParam (swapsWith e (some (.Name x pos')) pos.line X.env=pure false) L2.Internal.auR._auto_1) (hf:autoParam (X.fn x=true\/X.env.scope.names.lookup x=some .local) L2.Internal.auL._auto_1):PS X (.Assign [.Name x pos'] e pos) (DG te (gJ i)):=DH hN hi hx he hs hf
theorem pN {i:Nat} {x:Str} {pos:Pos} (hN:X.N.Nodup) (hi:autoParam (X.N[i]?=some x) L2.Internal.auR._auto_1) (hx:Loc X.env.scope x:=by first|exact .inl rfl|exact .inr rfl) (hf:autoParam (X.fn x=true\/X.env.scope.names.lookup x=some .local) L2.Internal.auL._auto_1):PG X (.Name x pos) (gJ i):=vc hN hi hx hf
theorem Gz {scope:Scope} {x:Str} (ns:List Str) (cap:List (Str×Nat×Addr)) (hns:autoParam (cap.map (·.1)=ns) L2.Internal.auR._auto_1) (hk:autoParam (scope.kind= .function) L2.Internal.auR._auto_1) (hn:∀p∈scope.names,p.2≠ .cell/\(p.2= .free->p.1∈ns):=by decide+kernel) (hl:∀y∈scope.names,y.2= .local->scope.names.lookup y.1=some .local:=by decide+kernel)
  (hx:autoParam (scope.names.lookup x=some .local) L2.Internal.auR._auto_1) (hnd:(x::ns).Nodup:=by decide+kernel) (hc:autoParam (closureFor scope X.env=pure (cap.map fun p=>(p.1,p.2.2))) L2.Internal.auR._auto_1) (hok:autoParam (X.env.scope.kind= .function) L2.Internal.auR._auto_1)
  (h:∀p∈cap,scope.names.lookup p.1=some .free/\X.env.cells.lookup p.1=some p.2.2/\X.env.scope.names.lookup p.1=some .cell/\X.N[p.2.1]?=some p.1:=by repeat(first|refine bR.mpr ⟨⟨rfl,rfl,rfl,rfl⟩,?_⟩|exact fun _ h=>absurd h bB)):
  p7 X (x::ns) scope (cap.map fun p=>(p.1,p.2.2)) (fun σ=>none::cap.map fun p=>σ.getD p.2.1 none) 0 x:=blkC ns cap hns hk hn hl hx hnd hc hok h
theorem GA {scope:Scope} {x y:Str} (ns:List Str) (cap:List (Str×Nat×Addr)) (hns:autoParam (cap.map (·.1)=ns) L2.Internal.auR._auto_1) (hk:autoParam (scope.kind= .function) L2.Internal.auR._auto_1) (hn:∀p∈scope.names,p.2≠ .cell/\(p.2= .free->p.1∈ns):=by decide+kernel) (hl:∀y∈scope.names,y.2= .local->scope.names.lookup y.1=some .local:=by decide+kernel)
  (hx:autoParam (scope.names.lookup x=some .local) L2.Internal.auR._auto_1) (hnd:(x::y::ns).Nodup:=by decide+kernel) (hc:autoParam (closureFor scope X.env=pure (cap.map fun p=>(p.1,p.2.2))) L2.Internal.auR._auto_1) (hok:autoParam (X.env.scope.kind= .function) L2.Internal.auR._auto_1)
  (h:∀p∈cap,scope.names.lookup p.1=some .free/\X.env.cells.lookup p.1=some p.2.2/\X.env.scope.names.lookup p.1=some .cell/\X.N[p.2.1]?=some p.1:=by repeat(first|refine bR.mpr ⟨⟨rfl,rfl,rfl,rfl⟩,?_⟩|exact fun _ h=>absurd h bB)):
  p7 X (x::y::ns) scope (cap.map fun p=>(p.1,p.2.2)) (fun σ=>none::none::cap.map fun p=>σ.getD p.2.1 none) 0 x:=Gh ns cap hns hk hn hl hx hnd hc hok h
theorem pgP {scope:Scope} {cl:List (Str×Addr)} {x y:Str} {ns:List Str} {px py tp:Pos} {kk:Nat} (hc:X.calm=true) (nd:(x::y::ns).Nodup) (hx:scope.names.lookup x=some .local) (hy:scope.names.lookup y=some .local) (C:Addr) (s₀:Shared) (H₀:Hp) (ex:List Addr) (pz:List (Addr×Obj)):PG (blk X (x::y::ns) scope cl C s₀ H₀ ex pz) (.Tuple [.Name x px,.Name y py] kk tp) (FA X.K 2 (yw (gJ 0) (yw (gJ 1) Fy))):=
 yx (n:=2) (X:=blk X (x::y::ns) scope cl C s₀ H₀ ex pz) hc (mh (vc (X:=blk X (x::y::ns) scope cl C s₀ H₀ ex pz) (i:=0) nd rfl (.inl (lookup_relabel_local hx)) (.inr (lookup_relabel_local hx))) (mh (vc (X:=blk X (x::y::ns) scope cl C s₀ H₀ ex pz) (i:=1) nd rfl (.inl (lookup_relabel_local hy)) (.inr (lookup_relabel_local hy))) vd))
end
end K60.Internal
namespace K60.Internal
open PySem L2.Internal GR.Internal
def qy:Sp:=fun vs H Q _=>∃x:Str,vs=[.str x]/\x.length<=30000/\∀(p:Addr) (H':Hp),fW H H'->H p=none->H' p=some (.lst (qd x.cps.toList))->Q (.ref p) H'
abbrev r1 (x:Str):Str:=Txt.replace x "(" " ( "
abbrev r2 (x:Str):Str:=Txt.replace (r1 x) ")" " ) "
abbrev r3 (x:Str):Str:=Txt.replace (r2 x) "\n" " "
theorem c1 (x:Str):(r1 x).cps.toList=T1.sub 40 [32,40,32] x.cps.toList:=T1.replace_codes x " ( " 40
theorem c2 (x:Str):(r2 x).cps.toList=T1.sub 41 [32,41,32] (T1.sub 40 [32,40,32] x.cps.toList):=by
 rw[<-c1]
 exact T1.replace_codes (r1 x) " ) " 41
theorem c3 (x:Str):(r3 x).cps.toList=T1.spaced x.cps.toList:=by
 rw[<-T1.spaced_sub,<-c2]
 exact T1.replace_codes (r2 x) " " 10
theorem vC (c:Nat) (z:List Nat) (n:Nat) (h1:1<=n) (h:z.length<=n) (l:List Nat):(T1.sub c z l).length<=n*l.length:=T1.flat_len _ n (fun k=>by split;exact h;exact h1) l
theorem l1 (x:Str):(r1 x).length<=3*x.length:=by
 rw[<-T1.len_codes,<-T1.len_codes,c1]
 exact vC _ _ 3 (by decide) (by decide) _
theorem l2 (x:Str):(r2 x).length<=9*x.length:=by
 have h:=l1 x
 have e:(r2 x).length<=3*(r1 x).length:=by
  rw[<-T1.len_codes,<-T1.len_codes,c2,c1]
  exact vC _ _ 3 (by decide) (by decide) _
 lia
theorem l3 (x:Str):(r3 x).length<=9*x.length:=by
 have h:=l2 x
 have e:(r3 x).length<=1*(r2 x).length:=by
  rw[<-T1.len_codes,<-T1.len_codes]
  have e3:(r3 x).cps.toList=T1.sub 10 [32] (r2 x).cps.toList:=T1.replace_codes (r2 x) " " 10
  rw[e3]
  exact vC _ _ 1 (by decide) (by decide) _
 lia
def ne0:V->Bool:=fun v=>!decide (v=V.str "")
theorem vD (x:Str):(((Txt.split (r3 x) " ").map V.str).filter ne0).map id=qd x.cps.toList:=by
 have e:=T1.split_codes (r3 x) 32
 rw[c3]at e
 have e2:T1.all (T1.W x.cps.toList)=((Txt.split (r3 x) ⟨#[32]⟩).map (·.cps.toList)).filter fun p=>decide (p≠[]):=by
  rw[e,T1.words_cut]
  rfl
 unfold qd
 rw[e2,List.map_id,List.filter_map,List.filter_map,bA]
 show((Txt.split (r3 x) ⟨#[32]⟩).filter (ne0∘V.str)).map V.str=_
 have ef:(ne0∘V.str)=((fun p=>decide (p≠[]))∘fun(y:Str)=>y.cps.toList):=by
  funext y
  show(!decide (V.str y=V.str ""))=decide (y.cps.toList≠[])
  by_cases h:y=("":Str)
  ·subst h
   rfl
  ·have h1:¬V.str y=V.str "":=fun z=>h (by injection z)
   have h2:y.cps.toList≠[]:=fun z=>h (T1.str_ext z)
   rw[ig h1,gR h2]
   rfl
 rw[ef]
 refine bS fun y _=>?_
 show V.str y=V.str ⟨y.cps.toList.toArray⟩
 rw[Array.toArray_toList]
theorem vE (T:Txt K mg):FO P w base 1 T.d12 qy:=by
 obtain⟨oc,od,kV,doc,pm,an,cdv,ct,osl,efd,lk,hcd⟩:=T.d12.F.ex
 rw[efd]at lk
 show pT P w K mg base CX0 1 _ T.d12.fd _ _
 rw[efd]
 refine D4 lk hcd qt gq (fun n=>rfl) (fun vs H Q E h=>?_) (fun A outer s H vs Q E hr h=>?_)
 ·obtain⟨x,rfl,_⟩:=h
  rfl
 obtain⟨x,rfl,hx,q⟩:=h
 refine⟨_,Dv.nox (AN (i:=1) qt.nd rfl (.inl rfl) (sk (sk (sk (PE.one (pv 0)) gq) gq) gq)
  (fG (f7 (uh rfl (DZ (x:="word") rfl gq gq rfl rfl) (jh (jl eF PySem.F.slot_str_split PySem.F.type_str_split AM (pv 1) (fz fQ fD))) (fun _ _ _ _ _=>(y8 (iI mJ (pv 0) fQ))) (fun _ _ _ _ _=>(pv 0)))))),?_⟩
 have h1:=l1 x
 have h2:=l2 x
 have h3:=l3 x
 have z3:(" ( ":Str).length=3:=gq
 have z3':(" ) ":Str).length=3:=gq
 have z1:(" ":Str).length=1:=gq
 refine⟨_,rfl,x,rfl,(by rw[z3];lia),r1 x,rfl,(by rw[z3'];lia),r2 x,rfl,(by rw[z1];lia),?_⟩
 refine⟨_,rfl,rfl,r3 x," ",rfl,rfl,rfl,(by have e:sizeLine=16777216:=sizeLine_eq;lia),fun p hp=>⟨p,rfl,⟨_,SqL.of fC⟩,fun D hD=>?_⟩⟩
 have sp:fW H (upd H p (.lst ((Txt.split (r3 x) " ").map V.str))):=fE hp _
 have hl:=p8 (r3 x) " "
 refine D0 (xs:=(Txt.split (r3 x) " ").map V.str) ne0 id hD ?_ ?_ ?_ ?_ ?_ ?_ ?_ ?_
 ·rw[aC]
  have e:sizeLine=16777216:=sizeLine_eq
  lia
 ·rfl
 ·intro k H' hs hk
  exact⟨_,_,SqL.of (hs _ _ fC),bz hk⟩
 ·intro k H' v H'' hs hv
  obtain⟨e,z⟩:=hv
  exact⟨e,z _ (SqL.of (hs _ _ fC))⟩
 ·intro H' hs
  exact⟨_,SqL.of (hs _ _ fC),cz _⟩
 ·intro k v H' R hv _ r
  obtain⟨y,rfl⟩:∃y,v=V.str y:=by
   rw[aM]at hv
   obtain⟨y,_,e⟩:=da.mp hv
   exact⟨y,e.symm⟩
  exact⟨_,rfl,rfl,_,rfl,r⟩
 ·intro k v H' R hv _ _ r
  exact⟨_,rfl,r⟩
 ·intro H' hs hl'
  refine q D H' (sp.trans hs) (sp.free hD) ?_
  rw[hl',vD]
def oF:Sp:=fun vs H Q _=>∃x y:Str,vs=[.str x,.str y]/\x.length<=30000/\∀H',fW H H'->Q (.bl (allIn x y)) H'
theorem yf (T:Txt K mg):FO P w base 1 T.d15 oF:=by
 refine T.d15.F.rd yc fun cdv A outer s H vs Q E hr h=>?_
 obtain⟨x,y,rfl,hx,q⟩:=h
 refine⟨_,(fG (f7 (gg (wq rfl) rfl T.z_all Bw (fz (uh rfl (blk1 (x:="sign") (y:="signs") (j:=1) (c0:=s.heap.objs.size+ 1) rfl gq gq rfl rfl rfl rfl rfl rfl rfl) (DY (pv 0)) (fun _ _ _ _ _=>mL) (fun _ _ _ _ _=>(kQ tP (pv 0) (pv 1) rfl))) fD)))),?_⟩
 refine⟨_,rfl,x,rfl,fun D hD=>?_⟩
 have sl:=sizeLine_eq
 have ll:=T1.len_codes x
 have sz':x.cps.size=x.cps.toList.length:=(eV).symm
 refine D0 (xs:=x.cps.toList.map fun c=>V.str ⟨#[c]⟩) (fun _=>true) (fun v=>match v with| .str z=> .bl (!(Builtin.Str.occurrences y z 0 y.length 1).isEmpty)|_=> .non) hD ?_ ?_ ?_ ?_ ?_ ?_ ?_ ?_
 ·rw[aC]
  lia
 ·rfl
 ·intro k H' hs hk
  rw[aC]at hk
  show k<x.cps.size
  lia
 ·intro k H' v H'' hs hv
  obtain⟨e,c,hc,rfl⟩:=hv
  refine⟨e,?_⟩
  rw[aM,eW,hc]
  rfl
 ·intro H' hs
  show _=x.cps.size
  rw[aC]
  lia
 ·intro k v H' R hv _ r
  exact r
 ·intro k v H' R hv _ _ r
  rw[aM]at hv
  obtain⟨c,_,rfl⟩:=da.mp hv
  exact⟨_,rfl,_,rfl,_,_,rfl,rfl,r⟩
 ·intro H' hs hl
  refine⟨D,x.cps.toList.map fun c=>decide (c∈y.cps.toList),rfl,SqL.of ?_,?_⟩
  ·rw[hl,List.filter_eq_self.mpr (fun _ _=>rfl),bA,bA]
   refine congrArg (fun l=>some (HO.lst l)) (bS fun c _=>?_)
   show V.bl _=V.bl _
   rw[StrLaws.found_one]
  ·have e:(x.cps.toList.map fun c=>decide (c∈y.cps.toList)).all id=allIn x y:=by
    rw[bw]
    rfl
   rw[e]
   exact q H' hs
def mr:Sp:=fun vs H Q _=>∃x:Str,vs=[.str x]/\x.length<=30000/\∀H',fW H H'->Q (.bl (isName x)) H'
theorem yg (T:Txt K mg) (gD15:FO P w base 1 T.d15 oF):FO P w base 2 T.d13 mr:=by
 refine T.d13.F.rd yb fun cdv A outer s H vs Q E hr h=>?_
 obtain⟨x,rfl,hx,q⟩:=h
 refine⟨_,(fA (gL (PW.pt (pL (jQ (se xC xC fF (gg oH rfl T.z_len jf (fz (pv 0) fD)) (oW rfl T.o6))) (rq (iI ub (pv 0) (AK rfl T.o4) rfl))))
   (fG (f7 rZ))
   gm)
  (fG (f7 (rA (kQ tP (fV yT (pv 0) fF) (AJ rfl T.o2) rfl) (pM (pF T.d15 gD15 hr.m (fz (pv 0) (fz (gK rG (AJ rfl T.o2) (AJ rfl T.o3)) fD)))))))),?_⟩
 have sl:=sizeLine_eq
 refine⟨_,rfl,x,rfl,by lia,_,_,rfl,rfl,_,rfl,?_⟩
 refine Fe (fun c1=>?_) (fun c1=>?_)
 ·have h1:1<=x.length:=by
   have z:=of_decide_eq_true c1
   lia
  refine⟨_,_,rfl,rfl,_,rfl,?_⟩
  by_cases c2:x.length<=12
  ·rw[show decide ((x.length:Int)<=12)=true from gR (by lia)]
   refine iO ⟨_,rfl,T.t4,KWV,rfl,.inr (T.r4 H),rfl,rfl,_,rfl,?_⟩
   show if inV (.str x) KWV=true then _ else _
   cases ek:inV (.str x) KWV with
   |true=>
    refine jm ?_
    have e:isName x=false:=by unfold isName;rw[ek];simp
    rw[<-e]
    exact q H (fW.refl H)
   |false=>
    refine iO ?_
    obtain⟨c,r,ec⟩:=first_of h1
    refine⟨_,rfl,x,_,c,rfl,rfl,by lia,by rw[ec];exact at0,_,_,rfl,rfl,_,rfl,?_⟩
    have ef:(!(Builtin.Str.occurrences ("abcdefghijklmnopqrstuvwxyz":Str) ⟨#[c]⟩ 0 ("abcdefghijklmnopqrstuvwxyz":Str).length 1).isEmpty)=firstIn x SM:=by
     rw[StrLaws.found_one]
     unfold firstIn
     rw[ec]
     rfl
    rw[ef]
    cases e1:firstIn x SM with
    |false=>
     refine iO ?_
     have e:isName x=false:=by unfold isName;rw[e1];simp
     rw[<-e]
     exact q H (fW.refl H)
    |true=>
     refine jm ⟨_,rfl,_,_,rfl,rfl,?_,_,_,rfl,?_,fun H' hs=>?_⟩
     ·exact cw (show(26:Nat)+ 10<=100 by decide) (sz (cz _)|>cw (by decide))
     ·lia
     ·have e:isName x=allIn x (SM++FG):=by
       unfold isName
       rw[e1,ek,gR h1,gR c2]
       rfl
      have q':=q H' hs
      rw[e]at q'
      exact q'
  ·rw[show decide ((x.length:Int)<=12)=false from ig (by lia)]
   refine jm ?_
   have e:isName x=false:=by unfold isName;rw[ig c2];simp
   show if true=true then _ else _
   refine jm ?_
   rw[<-e]
   exact q H (fW.refl H)
 ·have h1:¬1<=x.length:=by
   intro z
   exact c1 (gR (by lia))
  refine⟨_,rfl,jm ?_⟩
  show if true=true then _ else _
  refine jm ?_
  have e:isName x=false:=by unfold isName;rw[ig h1];simp
  rw[<-e]
  exact q H (fW.refl H)
def lZ:Sp:=fun vs H Q _=>∃x:Str,vs=[.str x]/\x.length<=30000/\∀H',fW H H'->Q (.bl (iY x)) H'
theorem uI (T:Txt K mg) (gD15:FO P w base 1 T.d15 oF):FO P w base 2 T.d14 lZ:=by
 refine T.d14.F.rd uE fun cdv A outer s H vs Q E hr h=>?_
 obtain⟨x,rfl,hx,q⟩:=h
 refine⟨_,(fA (gL (PW.pt (pL (jQ (se xC xC fF (gg oH rfl T.z_len jf (fz (pv 0) fD)) (oW rfl T.o5))) (rq (jQ (jk (pF T.d15 gD15 hr.m (fz (pv 0) (fz (AJ rfl T.o3) fD))))))))
   (fG (f7 rZ))
   gm)
  (fG (f7 (Fu (kQ mJ (fV yT (pv 0) fF) fQ) (pM (kQ sd (pv 0) fQ)))))),?_⟩
 have sl:=sizeLine_eq
 refine⟨_,rfl,x,rfl,by lia,_,_,rfl,rfl,_,rfl,?_⟩
 refine Fe (fun c1=>?_) (fun c1=>?_)
 ·have h1:1<=x.length:=by
   have z:=of_decide_eq_true c1
   lia
  refine⟨_,_,rfl,rfl,_,rfl,?_⟩
  by_cases c2:x.length<=60
  ·rw[show decide ((x.length:Int)<=60)=true from gR (by lia)]
   refine iO ⟨_,rfl,x,_,rfl,hx,fun H' hs=>⟨_,rfl,?_⟩⟩
   show if(!allIn x FG)=true then _ else _
   cases e1:allIn x FG with
   |false=>
    refine jm ?_
    have e:iY x=false:=by unfold iY;rw[e1];simp
    rw[<-e]
    exact q H' hs
   |true=>
    refine iO ?_
    obtain⟨c,r,ec⟩:=first_of h1
    refine⟨_,rfl,x,_,c,rfl,rfl,by lia,by rw[ec];exact at0,rfl,_,rfl,?_⟩
    have ef:qf x=(c==48):=by unfold qf;rw[ec]
    rw[Cz,<-ef]
    cases e2:qf x with
    |false=>
     refine jm ?_
     have e:iY x=true:=by
      unfold iY
      rw[e1,e2,gR h1,gR c2]
      rfl
     rw[<-e]
     exact q H' hs
    |true=>
     refine iO ⟨_,rfl,rfl,?_⟩
     have e:iY x=decide (V.str x=V.str "0"):=by
      unfold iY
      rw[e1,e2,gR h1,gR c2]
      by_cases h0:x="0"
      ·subst h0
       rfl
      ·have h1:¬V.str x=V.str "0":=fun z=>h0 (by injection z)
       rw[ig h0,ig h1]
       rfl
     rw[<-e]
     exact q H' hs
  ·rw[show decide ((x.length:Int)<=60)=false from ig (by lia)]
   refine jm ?_
   have e:iY x=false:=by unfold iY;rw[ig c2];simp
   show if true=true then _ else _
   refine jm ?_
   rw[<-e]
   exact q H (fW.refl H)
 ·have h1:¬1<=x.length:=by
   intro z
   exact c1 (gR (by lia))
  refine⟨_,rfl,jm ?_⟩
  show if true=true then _ else _
  refine jm ?_
  have e:iY x=false:=by unfold iY;rw[ig h1];simp
  rw[<-e]
  exact q H (fW.refl H)
def ky (C:Addr):Sp:=fun vs H Q _=>∃(p dx wl:Addr) (ws:List Str),vs=[.ref p,.ref wl]/\H p=some (.ins C dx [])/\H wl=some (.lst (ws.map V.str))/\∀(rl:Addr) (H':Hp),H rl=none->nO C H' p dx wl rl ws 0 []->(∀b o,H b=some o->b≠p->H' b=some o)->Q .non H'
theorem nS (T:Txt K mg):MO P w base mg 1 T.e54 (ky T.c8.a):=by
 refine T.e54.F.rd nR fun cdv A outer s H vs Q E hr h=>?_
 obtain⟨p,dx,wl,ws,rfl,hp,hw,k⟩:=h
 refine⟨_,(fA (iN (pv 0) (pv 1) rfl)
  (fA (iN (pv 0) fF rfl)
  (fG (iN (pv 0) (gA fD) rfl)))),?_⟩
 have pw:wl≠p:=jX hw hp (fun z=>nomatch z)
 refine⟨_,rfl,_,rfl,p,T.c8.a,dx,[],rfl,hp,T.c8.cl,T.n8words,(by show 0<1000;decide),?_⟩
 refine⟨_,rfl,p,T.c8.a,dx,_,rfl,fC,T.c8.cl,T.n8taken,(by show 1<1000;decide),?_⟩
 refine⟨n6,fun rl hrl=>?_⟩
 have nrl:p≠rl:=fJ fC hrl
 rw[fO (Ne.symm nrl),fO (Ne.symm nrl)]at hrl
 refine⟨_,rfl,p,T.c8.a,dx,_,rfl,by rw[fO nrl];exact fC,T.c8.cl,T.n8rows,(by show 2<1000;decide),?_⟩
 have wrl:wl≠rl:=fJ hw hrl
 refine k rl _ hrl ⟨?_,?_,?_,wrl⟩ fun b o e hb=>?_
 ·rw[fC]
  exact congrArg (fun l=>some (HO.ins T.c8.a dx l)) (Gq wl 0 rl)
 ·rw[fO pw,fO wrl,fO pw,fO pw]
  exact hw
 ·rw[fO (Ne.symm nrl)]
  exact fC
 ·rw[fO hb,fO (fJ e hrl),fO hb,fO hb]
  exact e
def gQ (C:Addr):Sp:=fun vs H Q _=>∃(p dx wl rl:Addr) (ws:List Str) (k:Nat) (rows:List V),vs=[.ref p]/\nO C H p dx wl rl ws k rows/\WOk ws/\k<=ws.length/\Q (.str (ws.getD k "")) H
theorem qz (T:Txt K mg):MO P w base mg 1 T.e55 (gQ T.c8.a):=by
 refine T.e55.F.rd qw fun cdv A outer s H vs Q E hr h=>?_
 obtain⟨p,dx,wl,rl,ws,k,rows,rfl,R,W,hk,q⟩:=h
 refine⟨_,(fA (gL (iI sd (nJ (pv 0) rfl) (gg gy rfl T.z_len jf (fz (nJ (pv 0) rfl) fD)))
   (fG (f7 fQ))
   gm)
  (fG (f7 (fV yS (nJ (pv 0) rfl) (nJ (pv 0) rfl))))),?_⟩
 refine⟨_,rfl,p,_,dx,_,_,rfl,R.ob,T.c8.cl,T.n8taken,sx _ _ _,_,rfl,p,_,dx,_,_,rfl,R.ob,T.c8.cl,T.n8words,wF _ _ _,wl,_,rfl,.inl (SqL.of R.wd),rfl,_,rfl,Fe (fun c=>?_) (fun c=>?_)⟩
 ·have z:=of_decide_eq_true c
  injection z with z
  rw[aC]at z
  have e:ws.getD k ""="":=by
   rw[bo,bD (by lia)]
   rfl
  rw[e]at q
  exact q
 ·have hlt:k<ws.length:=by
   by_cases z:k<ws.length
   ·exact z
   ·refine absurd (gR ?_) c
    rw[aC]
    exact congrArg V.int (by lia)
  have e:ws.getD k ""=ws[k]:=by
   rw[bo,bz hlt]
   rfl
  rw[e]at q
  refine⟨_,rfl,p,_,dx,_,_,rfl,R.ob,T.c8.cl,T.n8words,wF _ _ _,_,rfl,p,_,dx,_,_,rfl,R.ob,T.c8.cl,T.n8taken,sx _ _ _,wl,_,_,_,rfl,rfl,SqL.of R.wd,fH (j:=k) (v:= .str ws[k]) ?_,q⟩
  rw[aM,bz hlt]
  rfl
def iG (C CB:Addr):Sp:=fun vs H Q E=>∃(p dx wl rl:Addr) (ws:List Str) (k:Nat) (rows:List V),vs=[.ref p]/\nO C H p dx wl rl ws k rows/\WOk ws/\k<=ws.length/\
 (∀x,ws[k]?=some x->Q (.str x) (upd H p (.ins C dx (fR wl ((k+ 1:Nat):Int) rl))))/\(ws[k]?=none->E (.ref CB) none H)
theorem qT (T:Txt K mg) (gE55:MO P w base mg 1 T.e55 (gQ T.c8.a)):ME P w base mg 2 T.e56 (iG T.c8.a T.c2.a):=by
 refine T.e56.F.okE mE (fun vs H Q E h=>?_) (fun cdv A outer s H vs Q E hr h=>?_)
 ·obtain⟨p,dx,wl,rl,ws,k,rows,rfl,_⟩:=h
  rfl
 obtain⟨p,dx,wl,rl,ws,k,rows,rfl,R,W,hk,q,qe⟩:=h
 refine⟨_,(fA (pS (i:=1) mE.nd (iV (pv 0) T.c8.cl T.e55.me gE55 hr.m T.e55.b .nil jq))
  (fA (gL (iI sd (pv 1) fQ)
   (fG (jU rfl kS T.x2 rfl T.c2.m (fz fQ fD)))
   gm)
  (fA (tR (pv 0) fF Bt)
  (fG (f7 (pv 1)))))),?_⟩
 refine⟨_,rfl,p,dx,_,rfl,R.ob,AY _ _ _ gq gq gq,p,dx,wl,rl,ws,k,rows,rfl,R,W,hk,?_⟩
 refine⟨_,rfl,rfl,_,rfl,Fe (fun c=>?_) (fun c=>?_)⟩
 ·refine⟨tO,qe ?_⟩
  cases e:ws[k]? with
  |none=>rfl
  |some x=>
   have z:=of_decide_eq_true c
   injection z with z
   rw[bo,e]at z
   exact absurd z (W.one x (aN e)).1
 ·cases e:ws[k]? with
  |none=>
   refine absurd (gR (congrArg V.str ?_)) c
   rw[bo,e]
   rfl
  |some x=>
   have ex:ws.getD k ""=x:=by rw[bo,e];rfl
   rw[ex]
   refine⟨_,rfl,p,_,dx,_,_,rfl,R.ob,T.c8.cl,T.n8taken,sx _ _ _,_,_,rfl,rfl,dx,_,R.ob,(by show 3<1000;decide),_,rfl,?_⟩
   have q':=q x e
   rw[<-Ef wl (k:Int) _ rl]at q'
   exact q'
def g0 (C CB:Addr):Sp:=fun vs H Q E=>∃(p dx wl rl:Addr) (ws:List Str) (k:Nat) (rows:List V) (y:Str),vs=[.ref p,.str y]/\nO C H p dx wl rl ws k rows/\WOk ws/\k<=ws.length/\(reprText y).length<=300002/\
 (ws[k]?=some y->Q .non (upd H p (.ins C dx (fR wl ((k+ 1:Nat):Int) rl))))/\(ws[k]?=none->E (.ref CB) none H)/\(∀x,ws[k]?=some x->x≠y->E (.ref CB) none (upd H p (.ins C dx (fR wl ((k+ 1:Nat):Int) rl))))
theorem m8 (T:Txt K mg) (gE56:ME P w base mg 2 T.e56 (iG T.c8.a T.c2.a)):ME P w base mg 3 T.e57 (g0 T.c8.a T.c2.a):=by
 refine T.e57.F.okE kn (fun vs H Q E h=>?_) (fun cdv A outer s H vs Q E hr h=>?_)
 ·obtain⟨p,dx,wl,rl,ws,k,rows,y,rfl,_⟩:=h
  rfl
 obtain⟨p,dx,wl,rl,ws,k,rows,y,rfl,R,W,hk,hy,q,qe,qx⟩:=h
 refine⟨_,(fA (pS (i:=2) kn.nd (iV (pv 0) T.c8.cl T.e56.me gE56 hr.m T.e56.b .nil jI))
  (fG (gL (iI mJ (pv 2) (pv 1))
   (fG (jU rfl kS T.x2 rfl T.c2.m (fz (lN (gS (uj (pv 2)) (gS fQ (gS (uj (pv 1)) (gS fQ oJ))))) fD)))
   gm))),?_⟩
 have sl:=sizeLine_eq
 refine⟨_,rfl,p,dx,_,rfl,R.ob,AY _ _ _ gq gq gq,p,dx,wl,rl,ws,k,rows,rfl,R,W,hk,fun x hx=>?_,qe⟩
 refine⟨_,rfl,_,rfl,rfl,_,rfl,?_⟩
 by_cases e:x=y
 ·subst e
  exact FY rfl (q hx)
 ·have ne:¬V.str x=V.str y:=fun z=>e (by injection z)
  rw[ig ne]
  have hr:=nP W (aN hx)
  refine jm ⟨_,rfl,x,rfl,by lia,_,rfl,?_,_,rfl,?_,_,rfl,y,rfl,by lia,_,rfl,?_,_,rfl,?_,?_,tO,qx x hx e⟩
  ·exact Fg hr
  ·exact CC hr gq
  ·exact cat3 hr gq hy
  ·exact Hv hr gq hy gq
  ·exact Hv hr gq hy gq
def hI (C CB:Addr):Sp:=fun vs H Q E=>∃(p dx wl rl:Addr) (ws:List Str) (k:Nat) (rows:List V),vs=[.ref p]/\nO C H p dx wl rl ws k rows/\WOk ws/\k<=ws.length/\
 (∀x H',ws[k]?=some x->isName x=true->fW (upd H p (.ins C dx (fR wl ((k+ 1:Nat):Int) rl))) H'->Q (.str x) H')/\(ws[k]?=none->E (.ref CB) none H)/\
 (∀x H',ws[k]?=some x->isName x=false->fW (upd H p (.ins C dx (fR wl ((k+ 1:Nat):Int) rl))) H'->E (.ref CB) none H')
theorem m9 (T:Txt K mg) (gE56:ME P w base mg 2 T.e56 (iG T.c8.a T.c2.a)) (gD13:FO P w base 2 T.d13 mr):
  ME P w base mg 3 T.e58 (hI T.c8.a T.c2.a):=by
 refine T.e58.F.okE ko (fun vs H Q E h=>?_) (fun cdv A outer s H vs Q E hr h=>?_)
 ·obtain⟨p,dx,wl,rl,ws,k,rows,rfl,_⟩:=h
  rfl
 obtain⟨p,dx,wl,rl,ws,k,rows,rfl,R,W,hk,q,qe,qx⟩:=h
 refine⟨_,(fA (pS (i:=1) ko.nd (iV (pv 0) T.c8.cl T.e56.me gE56 hr.m T.e56.b .nil jI))
  (fA (gL (jQ (jk (pF T.d13 gD13 hr.m (fz (pv 1) fD))))
   (fG (jU rfl kS T.x2 rfl T.c2.m (fz (lN (gS (uj (pv 1)) (gS fQ oJ))) fD)))
   gm)
  (fG (f7 (pv 1))))),?_⟩
 have sl:=sizeLine_eq
 refine⟨_,rfl,p,dx,_,rfl,R.ob,AY _ _ _ gq gq gq,p,dx,wl,rl,ws,k,rows,rfl,R,W,hk,fun x hx=>?_,qe⟩
 have hm:=aN hx
 refine⟨_,rfl,x,rfl,(W.one x hm).2.1,fun H' hs=>⟨_,rfl,?_⟩⟩
 cases e:isName x with
 |true=>exact iO ⟨_,rfl,q x H' hx e hs⟩
 |false=>
  have hr:=nP W hm
  refine jm ⟨_,rfl,x,rfl,by lia,_,rfl,?_,_,rfl,?_,?_,tO,qx x H' hx e hs⟩
  ·exact Fg hr
  ·exact CC hr gq
  ·exact CC hr gq
section
variable {C CB p dx wl rl:Addr} {H:Hp} {ws rest:List Str} {rows:List Dt} {Q:VK} {E:XK}
theorem A9 (R:RS K C H p dx wl rl ws rest rows) (W:WOk ws) (q:Q (.str (rest.headD "")) H):gQ C [.ref p] H Q E:=by
 obtain⟨k,rv,R,h1,h2,h3⟩:=R
 refine⟨p,dx,wl,rl,ws,k,rv,rfl,R,W,h2,?_⟩
 have e:ws.getD k ""=rest.headD "":=by
  rw[<-h1,bo,bT,bU]
 rw[e]
 exact q
theorem RS.step1 {k:Nat} {rv:List V} {x:Str} {r:List Str} {H':Hp} (R:nO C H p dx wl rl ws k rv) (h1:ws.drop k=x::r) (h3:kN K H rv rows) (s:fW (upd H p (.ins C dx (fR wl ((k+ 1:Nat):Int) rl))) H'):RS K C H' p dx wl rl ws r rows/\K2 p rl H H':=by
 obtain⟨e1,e2,e3⟩:=kf h1
 have kk:K2 p rl H H':=(K2.upd1 (K2.refl p rl H) _).trans (fW.k2 s)
 exact⟨⟨k+ 1,rv,(R.next (k+ 1)).same s,e2,by lia,h3.mono fun a xs t=>nO.tpT R kk t⟩,kk⟩
theorem Ep (R:RS K C H p dx wl rl ws rest rows) (W:WOk ws) (q:∀x r H',rest=x::r->RS K C H' p dx wl rl ws r rows->K2 p rl H H'->Q (.str x) H') (qe:rest=[]->E (.ref CB) none H):iG C CB [.ref p] H Q E:=by
 obtain⟨k,rv,R,h1,h2,h3⟩:=R
 refine⟨p,dx,wl,rl,ws,k,rv,rfl,R,W,h2,fun x hx=>?_,fun hx=>?_⟩
 ·cases e:rest with
  |nil=>
   rw[e]at h1
   rw[sF h1]at hx
   cases hx
  |cons y r=>
   rw[e]at h1
   have ey:y=x:=cX.inj ((kf h1).1.symm.trans hx)
   subst ey
   obtain⟨a,b⟩:=RS.step1 R h1 h3 (fW.refl _)
   exact q y r _ e a b
 ·cases e:rest with
  |nil=>exact qe e
  |cons y r=>
   rw[e]at h1
   rw[(kf h1).1]at hx
   cases hx
theorem Ba {y:Str} (R:RS K C H p dx wl rl ws rest rows) (W:WOk ws) (hy:(reprText y).length<=300002) (q:∀r H',rest=y::r->RS K C H' p dx wl rl ws r rows->K2 p rl H H'->Q .non H') (qe:rest.head?≠some y->∀H',K2 p rl H H'->E (.ref CB) none H'):g0 C CB [.ref p,.str y] H Q E:=by
 obtain⟨k,rv,R,h1,h2,h3⟩:=R
 refine⟨p,dx,wl,rl,ws,k,rv,y,rfl,R,W,h2,hy,fun hx=>?_,fun hx=>?_,fun x hx ne=>?_⟩
 ·cases e:rest with
  |nil=>
   rw[e]at h1
   rw[sF h1]at hx
   cases hx
  |cons z r=>
   rw[e]at h1
   have ey:z=y:=cX.inj ((kf h1).1.symm.trans hx)
   subst ey
   obtain⟨a,b⟩:=RS.step1 R h1 h3 (fW.refl _)
   exact q r _ e a b
 ·refine qe (fun z=>?_) H (K2.refl _ _ _)
  rw[<-h1,bU,hx]at z
  cases z
 ·refine qe (fun z=>?_) _ (K2.upd1 (K2.refl _ _ _) _)
  rw[<-h1,bU,hx]at z
  exact ne (cX.inj z)
theorem Er (R:RS K C H p dx wl rl ws rest rows) (W:WOk ws) (q:∀x r H',rest=x::r->isName x=true->RS K C H' p dx wl rl ws r rows->K2 p rl H H'->Q (.str x) H') (qe:(∀x r,rest=x::r->isName x=false)->∀H',K2 p rl H H'->E (.ref CB) none H'):hI C CB [.ref p] H Q E:=by
 obtain⟨k,rv,R,h1,h2,h3⟩:=R
 refine⟨p,dx,wl,rl,ws,k,rv,rfl,R,W,h2,fun x H' hx hn s=>?_,fun hx=>?_,fun x H' hx hn s=>?_⟩
 ·cases e:rest with
  |nil=>
   rw[e]at h1
   rw[sF h1]at hx
   cases hx
  |cons z r=>
   rw[e]at h1
   have ey:z=x:=cX.inj ((kf h1).1.symm.trans hx)
   subst ey
   obtain⟨a,b⟩:=RS.step1 R h1 h3 s
   exact q z r _ e hn a b
 ·refine qe (fun x r e=>?_) H (K2.refl _ _ _)
  rw[e]at h1
  rw[(kf h1).1]at hx
  cases hx
 ·refine qe (fun y r e=>?_) H' ((K2.upd1 (K2.refl _ _ _) _).trans (fW.k2 s))
  rw[e]at h1
  have ey:y=x:=cX.inj ((kf h1).1.symm.trans hx)
  rw[ey]
  exact hn
end
def iH (CB:Addr):Sp:=fun vs H Q E=>∃(x:Str) (n a b:Nat),vs=[.str x,.int n,.int a,.int b]/\x.length<=100/\n<=100000/\a<=100/\b<=100/\(a<=n/\n<=b->Q .non H)/\(¬(a<=n/\n<=b)->E (.ref CB) none H)
theorem nT {n:Nat} (h:n<=100000):(n:Int).natAbs.log2<1920/\(PySem.Str.ofString (toString (n:Int))).length<=6:=by
 have s70:(100000:Int)<10^70:=gq
 refine⟨Eg (by lia) (by lia),?_⟩
 have z:=(str_fig (n:=(n:Int)) (k:=5) (by lia) (by
  have e:(10:Int)^(5+ 1)=1000000:=gq
  rw[e]
  lia)).2.2
 exact z
theorem qU (T:Txt K mg):FE P w base 1 T.d17 (iH T.c2.a):=by
 refine T.d17.F.okE qR (fun vs H Q E h=>?_) (fun cdv A outer s H vs Q E hr h=>?_)
 ·obtain⟨x,n,a,b,rfl,_⟩:=h
  rfl
 obtain⟨x,n,a,b,rfl,hx,hn,ha,hb,q,qe⟩:=h
 refine⟨_,(fG (gL (jQ (se xC xC (pv 2) (pv 1) (pv 3)))
   (fG (jU rfl kS T.x2 rfl T.c2.m (fz (lN (gS (vo (pv 1)) (gS fQ (gS (vo (pv 0)) (gS fQ (gS (vo (pv 2)) (gS fQ (gS (vo (pv 3)) (gS fQ oJ))))))))) fD)))
   gm)),?_⟩
 have sl:=sizeLine_eq
 have nn:=nT hn
 have na:=nT (show a<=100000 by lia)
 have nb:=nT (show b<=100000 by lia)
 have fail:¬(a<=n/\n<=b)->BA T.c2.a E (qO ((tJ (tFV (Du 1)) (tJ (tC (V.str " ")) (tJ (tFV (Du 0)) (tJ (tC (V.str ": ")) (tJ (tFV (Du 2)) (tJ (tC (V.str " to ")) (tJ (tFV (Du 3)) (tJ (tC (V.str " may be")) tJ0)))))))) Str.empty) Ar) {nx:=fun _ H'=>Q .non H',rt:=Q} [some (.str x),some (.int n),some (.int a),some (.int b)] H:=fun hz=>by
  refine⟨_,rfl,.inr ⟨_,rfl,nn.1,_,rfl,?_,_,rfl,?_,_,rfl,.inl ⟨x,rfl,by lia,_,rfl,?_,_,rfl,?_,_,rfl,.inr ⟨_,rfl,na.1,_,rfl,?_,_,rfl,?_,_,rfl,.inr ⟨_,rfl,nb.1,_,rfl,?_,_,rfl,?_,?_,tO,qe hz⟩⟩⟩⟩⟩
  all_goals
   simp only[Str.length_append]
   have e0:Str.empty.length=0:=rfl
   have e1:(" ":Str).length=1:=gq
   have e2:(": ":Str).length=2:=gq
   have e3:(" to ":Str).length=4:=gq
   have e4:(" may be":Str).length=7:=gq
   lia
 refine⟨_,rfl,_,rfl,_,_,rfl,rfl,_,rfl,?_⟩
 by_cases h1:a<=n
 ·rw[show decide ((a:Int)<=(n:Int))=true from gR (by lia)]
  refine jm ⟨_,rfl,_,_,rfl,rfl,_,rfl,?_⟩
  by_cases h2:n<=b
  ·rw[show decide ((n:Int)<=(b:Int))=true from gR (by lia)]
   exact iO (q ⟨h1,h2⟩)
  ·rw[show decide ((n:Int)<=(b:Int))=false from ig (by lia)]
   exact jm (fail fun z=>h2 z.2)
 ·rw[show decide ((a:Int)<=(n:Int))=false from ig (by lia)]
  exact iO ⟨_,rfl,jm (fail fun z=>h1 z.1)⟩
def CI (K:PySem.W.Frag) (C CB:Addr) (f:Nat):Sp:=fun vs H Q E=>∃(p dx wl rl:Addr) (ws rest:List Str) (rows:List Dt),vs=[.ref p,.int (25-(f:Int))]/\RS K C H p dx wl rl ws rest rows/\WOk ws/\rows.length<=160/\
 (∀r rows' H',gk f rest rows=some (r,rows')->RS K C H' p dx wl rl ws r rows'->K2 p rl H H'->Q (.int (rows.length:Int)) H')/\(gk f rest rows=none->∀H',K2 p rl H H'->E (.ref CB) none H')
def pV (b:Bool):V:=if b then .str "name" else .str "expr"
def Fn (K:PySem.W.Frag) (C CB:Addr) (f:Nat):Sp:=fun vs H Q E=>∃(p dx wl rl pt:Addr) (ws rest:List Str) (rows:List Dt) (ps:List Bool),vs=[.ref p,.ref pt,.int (25-(f:Int))]/\RS K C H p dx wl rl ws rest rows/\WOk ws/\rows.length<=160/\SqT K H pt (ps.map pV)/\ps.length<=3/\
 (∀ds r rows' t H',f9 (gk f) ps [] rest rows=some (ds,r,rows')->RS K C H' p dx wl rl ws r rows'->K2 p rl H H'->TAt K H' (.ref t) (.tup ds)->Q (.ref t) H')/\(f9 (gk f) ps [] rest rows=none->∀H',K2 p rl H H'->E (.ref CB) none H')
def Dx (K:PySem.W.Frag) (C CB:Addr) (f:Nat) (item:List Str->List Dt->Option (Dt×Rs)) (lo hi:Nat):Sp:=fun vs H Q E=>∃(p dx wl rl:Addr) (ws rest:List Str) (rows:List Dt),vs=[.ref p,.int (25-(f:Int))]/\RS K C H p dx wl rl ws rest rows/\WOk ws/\rows.length<=160/\
 (∀l r rows' t H',chk lo hi (iE item rest rows [])=some (l,r,rows')->RS K C H' p dx wl rl ws r rows'->K2 p rl H H'->TAt K H' (.ref t) (.tup l)->Q (.ref t) H')/\(chk lo hi (iE item rest rows [])=none->∀H',K2 p rl H H'->E (.ref CB) none H')
theorem zH (T:Txt K mg) (f:Nat)
  (gE58:ME P w base mg 3 T.e58 (hI T.c8.a T.c2.a))
  (gE59:ME P w base mg (5*f+ 5) T.e59 (CI K T.c8.a T.c2.a f)):
  ME P w base mg (5*f+ 6) T.e62 (Fn K T.c8.a T.c2.a f):=by
 refine T.e62.F.okE iU (fun vs H Q E h=>?_) (fun cdv A outer s H vs Q E hr h=>?_)
 ·obtain⟨p,dx,wl,rl,pt,ws,rest,rows,ps,rfl,_⟩:=h
  rfl
 obtain⟨p,dx,wl,rl,pt,ws,rest,rows,ps,rfl,R,W,hrows,hpt,hps,q,qe⟩:=h
 refine⟨_,(fA (pS (i:=3) iU.nd (gA fD))
  (fA (iZ PassesOwn.leaving rfl (pO (pv 1)) (pN (i:=4) iU.nd)
   (fG (gL (iI sd (pv 4) fQ)
    (fG (gh (jl eG eI eJ gr (pv 3) (fz (iV (pv 0) T.c8.cl T.e58.me gE58 (hr.mono (by lia)) T.e58.b .nil jI) fD))))
    (fG (gh (jl eG eI eJ gr (pv 3) (fz (gE (pv 0) T.c8.cl T.e59.me gE59 (hr.mono (by lia)) T.e59.b .nil jI (fz (pv 2) fD)) fD)))))))
  (fG (f7 (jH jS rfl T.z_tuple jT (fz (pv 3) fD)))))),?_⟩
 have sl:=sizeLine_eq
 refine⟨n6,fun fl hfl=>?_⟩
 have ep:=iR f
 have R0:=R.same (fE hfl (.lst []))
 have fp:fl≠p:=by
  obtain⟨k,hk⟩:=R.ob
  exact Ne.symm (fJ hk hfl)
 have frl:fl≠rl:=by
  obtain⟨rv,hk,_⟩:=R.len
  exact Ne.symm (fJ hk hfl)
 have fwl:fl≠wl:=by
  obtain⟨k,rv,R',_⟩:=R
  exact Ne.symm (fJ R'.wd hfl)
 have hpt0:SqT K (upd H fl (.lst [])) pt (ps.map pV):=by
  rcases hpt with t|t
  ·refine .inl ?_
   rcases t with t|⟨o',t⟩
   ·exact .inl (by rw[fO (fJ t hfl)];exact t)
   ·exact .inr ⟨o',by rw[fO (fJ t hfl)];exact t⟩
  ·exact .inr t
 refine⟨_,rfl,pt,rfl,⟨_,hpt0⟩,ve (K:=K) (a:=pt) (xs:=ps.map pV) (fun i σ H2=>∃(o:Option V) (acc:List Dt) (fv:List V) (rest2:List Str) (rows2:List Dt),
   σ=[some (.ref p),some (.ref pt),some (.int (25-(f:Int))),some (.ref fl),o]/\SqT K H2 pt (ps.map pV)/\RS K T.c8.a H2 p dx wl rl ws rest2 rows2/\K2 p rl H H2/\H2 fl=some (.lst fv)/\kN K H2 fv acc/\acc.length=i/\rows2.length<=160/\
   f9 (gk f) ps [] rest rows=f9 (gk f) (ps.drop i) acc rest2 rows2)
  ⟨none,[],[],rest,rows,rfl,hpt0,R0,fW.k2 (fE hfl _),fC,.nil,rfl,hrows,rfl⟩ (fun i σ H2 _ ⟨_,_,_,_,_,_,z,_⟩=>z) ?_ ?_⟩
 ·rintro i y σ H2 hi ⟨o,acc,fv,rest2,rows2,rfl,hpt2,R2,k2,hfl2,tf,hacc,hr2,heq⟩
  rw[aM]at hi
  obtain⟨b,hb,rfl⟩:=da.mp hi
  have hlt:i<ps.length:=(au.mp hb).1
  have ed:ps.drop i=b::ps.drop (i+ 1):=by
   rw[bK hlt]
   rw[(au.mp hb).2]
  rw[ed]at heq
  have lf:fv.length<sizeLine:=by rw[tf.length];lia
  cases b with
  |true=>
   refine⟨_,rfl,rfl,_,rfl,?_⟩
   rw[show decide (pV true=V.str "name")=true by decide+kernel]
   obtain⟨k',hk⟩:=R2.ob
   refine jm ⟨_,rfl,.inl ⟨rfl,_,SqL.of hfl2⟩,_,rfl,p,dx,_,rfl,hk,gT _ _ _ _ (by simp),?_⟩
   refine tn0 ?_
   refine Er R2 W (fun x r H3 e hn R3 k3=>?_) (fun hno H3 k3=>?_)
   ·have h3:H3 fl=some (.lst fv):=k3 _ _ hfl2 fp frl
    refine⟨fl,fv,_,rfl,rfl,h3,lf,_,acc++[.flat (.str x)],fv++[.str x],r,rows2,rfl,uu h3 (R2.sqt k3 hpt2),R3.other h3 fp fwl frl,uz hfl (k2.trans k3),fC,((R2.tats k3 tf).snoc (.flat rfl)).other h3,(by rw[aO,hacc];rfl),hr2,?_⟩
    rw[heq,e,f9,gx hn]
   ·refine qe ?_ H3 (k2.trans k3)
    rw[heq]
    cases rest2 with
    |nil=>rw[f9]
    |cons x r=>rw[f9,fZ (by rw[hno x r rfl];exact eP)]
  |false=>
   refine⟨_,rfl,rfl,_,rfl,?_⟩
   rw[show decide (pV false=V.str "name")=false by decide+kernel]
   obtain⟨k',hk⟩:=R2.ob
   refine iO ⟨_,rfl,.inl ⟨rfl,_,SqL.of hfl2⟩,_,rfl,p,dx,_,rfl,hk,gT _ _ _ _ (by simp),_,rfl,p,dx,wl,rl,ws,rest2,rows2,rfl,R2,W,hr2,fun r rows' H3 e R3 k3=>?_,fun e H3 k3=>?_⟩
   ·have h3:H3 fl=some (.lst fv):=k3 _ _ hfl2 fp frl
    refine⟨fl,fv,_,rfl,rfl,h3,lf,_,acc++[.flat (.int (rows2.length:Int))],fv++[.int (rows2.length:Int)],r,rows',rfl,uu h3 (R2.sqt k3 hpt2),R3.other h3 fp fwl frl,uz hfl (k2.trans k3),fC,((R2.tats k3 tf).snoc (.flat rfl)).other h3,(by rw[aO,hacc];rfl),(ep _ _ _ e).1.most hr2,?_⟩
    rw[heq,f9,e]
   ·refine qe ?_ H3 (k2.trans k3)
    rw[heq,f9,e]
 ·rintro σ H2 ⟨o,acc,fv,rest2,rows2,rfl,hpt2,R2,k2,hfl2,tf,hacc,hr2,heq⟩
  rw[aC,bV,f9]at heq
  refine⟨_,rfl,fl,fv,rfl,.inl ⟨SqL.of hfl2,fun t ht=>?_⟩⟩
  have s:=fE ht (.tup fv)
  exact q acc rest2 rows2 t _ heq (R2.same s) (k2.trans (fW.k2 s)) (.tup fC (R2.tats (fW.k2 s) tf))
theorem zI (T:Txt K mg) (f:Nat)
  (gE55:MO P w base mg 1 T.e55 (gQ T.c8.a))
  (gE62:ME P w base mg (5*f+ 6) T.e62 (Fn K T.c8.a T.c2.a f))
  (gD17:FE P w base 1 T.d17 (iH T.c2.a)):
  ME P w base mg (5*f+ 7) T.e63 (Dx K T.c8.a T.c2.a f (ir (gk f) [true,false]) 0 6):=by
 refine T.e63.F.okE jL (fun vs H Q E h=>?_) (fun cdv A outer s H vs Q E hr h=>?_)
 ·obtain⟨p,dx,wl,rl,ws,rest,rows,rfl,_⟩:=h
  rfl
 obtain⟨p,dx,wl,rl,ws,rest,rows,rfl,R,W,hrows,q,qe⟩:=h
 refine⟨_,(fA (pS (i:=2) jL.nd (gA fD))
  (fA (nF PassesOwn.leaving (iI mJ (iV (pv 0) T.c8.cl T.e55.me gE55 (hr.mono (by lia)) T.e55.b .nil jq) fQ)
   (fG (gh (jl eG eI eJ gr (pv 2) (fz (gE (pv 0) T.c8.cl T.e62.me gE62 (hr.mono (by lia)) T.e62.b .nil jI (fz (gC (fz fQ (fz fQ fD))) (fz (pv 1) fD))) fD)))))
  (fA (gh (n9 gD17 (hr.mono (by lia)) rfl T.d17.m T.d17.k T.d17.b .nil jI (fz fQ (fz (gg gy rfl T.z_len jf (fz (pv 2) fD)) (fz fF (fz (oW rfl T.o8) fD))))))
  (fG (f7 (jH jS rfl T.z_tuple jT (fz (pv 2) fD))))))),?_⟩
 have sl:=sizeLine_eq
 refine⟨n6,fun fl hfl=>?_⟩
 have ep:=iR f
 have gi:ur (ir (gk f) [true,false]):=kO ep _ (by simp)
 have R0:=R.same (fE hfl (.lst []))
 obtain⟨fp,frl,fwl⟩:=R.apart hfl
 have hs0:=R.short
 have hs1:=W.len
 refine⟨fun m σ H2=>∃(acc:List Dt) (fv:List V) (rest2:List Str) (rows2:List Dt),m=rest2.length/\σ=[some (.ref p),some (.int (25-(f:Int))),some (.ref fl)]/\RS K T.c8.a H2 p dx wl rl ws rest2 rows2/\K2 p rl H H2/\H2 fl=some (.lst fv)/\kN K H2 fv acc/\acc.length+rest2.length<=30000/\rows2.length<=160/\
   iE (ir (gk f) [true,false]) rest rows []=iE (ir (gk f) [true,false]) rest2 rows2 acc,
  ⟨_,[],[],rest,rows,rfl,rfl,R0,fW.k2 (fE hfl _),fC,.nil,(by show 0+_<=_;lia),hrows,rfl⟩,?_⟩
 rintro m σ H2 ⟨acc,fv,rest2,rows2,rfl,rfl,R2,k2,hfl2,tf,hlen,hr2,heq⟩
 have tl:=tf.length
 have lf:fv.length<sizeLine:=by lia
 obtain⟨k',hk⟩:=R2.ob
 refine⟨_,rfl,p,dx,_,rfl,hk,gT _ _ _ _ (.inl rfl),?_⟩
 refine tn0 ?_
 refine A9 R2 W ?_
 refine⟨rfl,_,rfl,?_⟩
 by_cases hh:rest2.head?=some ")"
 ·have e1:rest2.headD ""=")":=by rw[bT,hh];rfl
  rw[e1,show(decide (V.str ")"=V.str ")"))=true by decide+kernel]
  refine iO ?_
  rw[kT _ _ _ hh]at heq
  refine⟨_,rfl,fl,fv,rfl,.inl (SqL.of hfl2),"fields",fv.length,0,6,rfl,gq,by lia,by decide,by decide,fun hc=>?_,fun hc=>?_⟩
  ·refine⟨_,rfl,fl,fv,rfl,.inl ⟨SqL.of hfl2,fun t ht=>?_⟩⟩
   have s:=fE ht (.tup fv)
   refine q acc rest2 rows2 t _ ?_ (R2.same s) (k2.trans (fW.k2 s)) (.tup fC (R2.tats (fW.k2 s) tf))
   rw[heq,chk,gx (by rw[<-tl];exact hc)]
  ·refine qe ?_ H2 k2
   rw[heq,chk,fZ (by rw[<-tl];exact hc)]
 ·have e1:¬V.str (rest2.headD "")=V.str ")":=fun z=>by
   injection z with z
   cases rest2 with
   |nil=>exact absurd z gq
   |cons a r=>exact hh (congrArg some z)
  rw[ig e1]
  have hm:=om gi rest2 rows2 acc hh
  refine jm ⟨_,fun σ' H' z=>z,?_⟩
  refine⟨_,rfl,.inl ⟨rfl,_,SqL.of hfl2⟩,_,rfl,p,dx,_,rfl,hk,gT _ _ _ _ (by simp),my,fun pt hpt=>?_⟩
  have s3:=fE hpt (.tup [.str "name",.str "expr"])
  have R3:=R2.same s3
  refine⟨_,rfl,p,dx,wl,rl,pt,ws,rest2,rows2,[true,false],rfl,R3,W,hr2,.inl (.inl fC),by decide,fun ds r rows' t H4 e R4 k4 ht=>?_,fun e H4 k4=>?_⟩
  ·have h4:H4 fl=some (.lst fv):=k4 _ _ (s3 _ _ hfl2) fp frl
   have ei:(ir (gk f) [true,false]) rest2 rows2=some (.tup ds,r,rows'):=by rw[ir,e]
   obtain⟨st,lt⟩:=gi _ _ _ _ ei
   refine⟨fl,fv,_,rfl,rfl,h4,lf,r.length,lt,acc++[.tup ds],fv++[.ref t],r,rows',rfl,rfl,R4.other h4 fp fwl frl,uz hfl (k2.trans ((fW.k2 s3).trans k4)),fC,((R2.tats ((fW.k2 s3).trans k4) tf).snoc ht).other h4,(by rw[aO];have lt':r.length<rest2.length:=lt;show acc.length+ 1+_<=_;lia),st.most hr2,?_⟩
   rw[heq,hm,ei]
  ·refine qe ?_ H4 (k2.trans ((fW.k2 s3).trans k4))
   rw[heq,hm,show(ir (gk f) [true,false]) rest2 rows2=none by rw[ir,e]]
   rfl
theorem CJ (T:Txt K mg) (f:Nat)
  (gE55:MO P w base mg 1 T.e55 (gQ T.c8.a))
  (gE62:ME P w base mg (5*f+ 6) T.e62 (Fn K T.c8.a T.c2.a f))
  (gD17:FE P w base 1 T.d17 (iH T.c2.a)):
  ME P w base mg (5*f+ 7) T.e64 (Dx K T.c8.a T.c2.a f (ir (gk f) [true,true,false]) 1 6):=by
 refine T.e64.F.okE kr (fun vs H Q E h=>?_) (fun cdv A outer s H vs Q E hr h=>?_)
 ·obtain⟨p,dx,wl,rl,ws,rest,rows,rfl,_⟩:=h
  rfl
 obtain⟨p,dx,wl,rl,ws,rest,rows,rfl,R,W,hrows,q,qe⟩:=h
 refine⟨_,(fA (pS (i:=2) kr.nd (gA fD))
  (fA (nF PassesOwn.leaving (iI mJ (iV (pv 0) T.c8.cl T.e55.me gE55 (hr.mono (by lia)) T.e55.b .nil jq) fQ)
   (fG (gh (jl eG eI eJ gr (pv 2) (fz (gE (pv 0) T.c8.cl T.e62.me gE62 (hr.mono (by lia)) T.e62.b .nil jI (fz (gC (fz fQ (fz fQ (fz fQ fD)))) (fz (pv 1) fD))) fD)))))
  (fA (gh (n9 gD17 (hr.mono (by lia)) rfl T.d17.m T.d17.k T.d17.b .nil jI (fz fQ (fz (gg gy rfl T.z_len jf (fz (pv 2) fD)) (fz fF (fz (oW rfl T.o9) fD))))))
  (fG (f7 (jH jS rfl T.z_tuple jT (fz (pv 2) fD))))))),?_⟩
 have sl:=sizeLine_eq
 refine⟨n6,fun fl hfl=>?_⟩
 have ep:=iR f
 have gi:ur (ir (gk f) [true,true,false]):=kO ep _ (by simp)
 have R0:=R.same (fE hfl (.lst []))
 obtain⟨fp,frl,fwl⟩:=R.apart hfl
 have hs0:=R.short
 have hs1:=W.len
 refine⟨fun m σ H2=>∃(acc:List Dt) (fv:List V) (rest2:List Str) (rows2:List Dt),m=rest2.length/\σ=[some (.ref p),some (.int (25-(f:Int))),some (.ref fl)]/\RS K T.c8.a H2 p dx wl rl ws rest2 rows2/\K2 p rl H H2/\H2 fl=some (.lst fv)/\kN K H2 fv acc/\acc.length+rest2.length<=30000/\rows2.length<=160/\
   iE (ir (gk f) [true,true,false]) rest rows []=iE (ir (gk f) [true,true,false]) rest2 rows2 acc,
  ⟨_,[],[],rest,rows,rfl,rfl,R0,fW.k2 (fE hfl _),fC,.nil,(by show 0+_<=_;lia),hrows,rfl⟩,?_⟩
 rintro m σ H2 ⟨acc,fv,rest2,rows2,rfl,rfl,R2,k2,hfl2,tf,hlen,hr2,heq⟩
 have tl:=tf.length
 have lf:fv.length<sizeLine:=by lia
 obtain⟨k',hk⟩:=R2.ob
 refine⟨_,rfl,p,dx,_,rfl,hk,gT _ _ _ _ (.inl rfl),?_⟩
 refine tn0 ?_
 refine A9 R2 W ?_
 refine⟨rfl,_,rfl,?_⟩
 by_cases hh:rest2.head?=some ")"
 ·have e1:rest2.headD ""=")":=by rw[bT,hh];rfl
  rw[e1,show(decide (V.str ")"=V.str ")"))=true by decide+kernel]
  refine iO ?_
  rw[kT _ _ _ hh]at heq
  refine⟨_,rfl,fl,fv,rfl,.inl (SqL.of hfl2),"arms",fv.length,1,6,rfl,gq,by lia,by decide,by decide,fun hc=>?_,fun hc=>?_⟩
  ·refine⟨_,rfl,fl,fv,rfl,.inl ⟨SqL.of hfl2,fun t ht=>?_⟩⟩
   have s:=fE ht (.tup fv)
   refine q acc rest2 rows2 t _ ?_ (R2.same s) (k2.trans (fW.k2 s)) (.tup fC (R2.tats (fW.k2 s) tf))
   rw[heq,chk,gx (by rw[<-tl];exact hc)]
  ·refine qe ?_ H2 k2
   rw[heq,chk,fZ (by rw[<-tl];exact hc)]
 ·have e1:¬V.str (rest2.headD "")=V.str ")":=fun z=>by
   injection z with z
   cases rest2 with
   |nil=>exact absurd z gq
   |cons a r=>exact hh (congrArg some z)
  rw[ig e1]
  have hm:=om gi rest2 rows2 acc hh
  refine jm ⟨_,fun σ' H' z=>z,?_⟩
  refine⟨_,rfl,.inl ⟨rfl,_,SqL.of hfl2⟩,_,rfl,p,dx,_,rfl,hk,gT _ _ _ _ (by simp),nA,fun pt hpt=>?_⟩
  have s3:=fE hpt (.tup [.str "name",.str "name",.str "expr"])
  have R3:=R2.same s3
  refine⟨_,rfl,p,dx,wl,rl,pt,ws,rest2,rows2,[true,true,false],rfl,R3,W,hr2,.inl (.inl fC),by decide,fun ds r rows' t H4 e R4 k4 ht=>?_,fun e H4 k4=>?_⟩
  ·have h4:H4 fl=some (.lst fv):=k4 _ _ (s3 _ _ hfl2) fp frl
   have ei:(ir (gk f) [true,true,false]) rest2 rows2=some (.tup ds,r,rows'):=by rw[ir,e]
   obtain⟨st,lt⟩:=gi _ _ _ _ ei
   refine⟨fl,fv,_,rfl,rfl,h4,lf,r.length,lt,acc++[.tup ds],fv++[.ref t],r,rows',rfl,rfl,R4.other h4 fp fwl frl,uz hfl (k2.trans ((fW.k2 s3).trans k4)),fC,((R2.tats ((fW.k2 s3).trans k4) tf).snoc ht).other h4,(by rw[aO];have lt':r.length<rest2.length:=lt;show acc.length+ 1+_<=_;lia),st.most hr2,?_⟩
   rw[heq,hm,ei]
  ·refine qe ?_ H4 (k2.trans ((fW.k2 s3).trans k4))
   rw[heq,hm,show(ir (gk f) [true,true,false]) rest2 rows2=none by rw[ir,e]]
   rfl
theorem zJ (T:Txt K mg) (f:Nat)
  (gE55:MO P w base mg 1 T.e55 (gQ T.c8.a))
  (gE59:ME P w base mg (5*f+ 5) T.e59 (CI K T.c8.a T.c2.a f))
  (gD17:FE P w base 1 T.d17 (iH T.c2.a)):
  ME P w base mg (5*f+ 7) T.e65 (Dx K T.c8.a T.c2.a f (jZ (gk f)) 0 8):=by
 refine T.e65.F.okE jM (fun vs H Q E h=>?_) (fun cdv A outer s H vs Q E hr h=>?_)
 ·obtain⟨p,dx,wl,rl,ws,rest,rows,rfl,_⟩:=h
  rfl
 obtain⟨p,dx,wl,rl,ws,rest,rows,rfl,R,W,hrows,q,qe⟩:=h
 refine⟨_,(fA (pS (i:=2) jM.nd (gA fD))
  (fA (nF PassesOwn.leaving (iI mJ (iV (pv 0) T.c8.cl T.e55.me gE55 (hr.mono (by lia)) T.e55.b .nil jq) fQ)
   (fG (gh (jl eG eI eJ gr (pv 2) (fz (gE (pv 0) T.c8.cl T.e59.me gE59 (hr.mono (by lia)) T.e59.b .nil jI (fz (pv 1) fD)) fD)))))
  (fA (gh (n9 gD17 (hr.mono (by lia)) rfl T.d17.m T.d17.k T.d17.b .nil jI (fz fQ (fz (gg gy rfl T.z_len jf (fz (pv 2) fD)) (fz fF (fz (oW rfl T.o10) fD))))))
  (fG (f7 (jH jS rfl T.z_tuple jT (fz (pv 2) fD))))))),?_⟩
 have sl:=sizeLine_eq
 refine⟨n6,fun fl hfl=>?_⟩
 have ep:=iR f
 have gi:ur (jZ (gk f)):=oj ep
 have R0:=R.same (fE hfl (.lst []))
 obtain⟨fp,frl,fwl⟩:=R.apart hfl
 have hs0:=R.short
 have hs1:=W.len
 refine⟨fun m σ H2=>∃(acc:List Dt) (fv:List V) (rest2:List Str) (rows2:List Dt),m=rest2.length/\σ=[some (.ref p),some (.int (25-(f:Int))),some (.ref fl)]/\RS K T.c8.a H2 p dx wl rl ws rest2 rows2/\K2 p rl H H2/\H2 fl=some (.lst fv)/\kN K H2 fv acc/\acc.length+rest2.length<=30000/\rows2.length<=160/\
   iE (jZ (gk f)) rest rows []=iE (jZ (gk f)) rest2 rows2 acc,
  ⟨_,[],[],rest,rows,rfl,rfl,R0,fW.k2 (fE hfl _),fC,.nil,(by show 0+_<=_;lia),hrows,rfl⟩,?_⟩
 rintro m σ H2 ⟨acc,fv,rest2,rows2,rfl,rfl,R2,k2,hfl2,tf,hlen,hr2,heq⟩
 have tl:=tf.length
 have lf:fv.length<sizeLine:=by lia
 obtain⟨k',hk⟩:=R2.ob
 refine⟨_,rfl,p,dx,_,rfl,hk,gT _ _ _ _ (.inl rfl),?_⟩
 refine tn0 ?_
 refine A9 R2 W ?_
 refine⟨rfl,_,rfl,?_⟩
 by_cases hh:rest2.head?=some ")"
 ·have e1:rest2.headD ""=")":=by rw[bT,hh];rfl
  rw[e1,show(decide (V.str ")"=V.str ")"))=true by decide+kernel]
  refine iO ?_
  rw[kT _ _ _ hh]at heq
  refine⟨_,rfl,fl,fv,rfl,.inl (SqL.of hfl2),"things",fv.length,0,8,rfl,gq,by lia,by decide,by decide,fun hc=>?_,fun hc=>?_⟩
  ·refine⟨_,rfl,fl,fv,rfl,.inl ⟨SqL.of hfl2,fun t ht=>?_⟩⟩
   have s:=fE ht (.tup fv)
   refine q acc rest2 rows2 t _ ?_ (R2.same s) (k2.trans (fW.k2 s)) (.tup fC (R2.tats (fW.k2 s) tf))
   rw[heq,chk,gx (by rw[<-tl];exact hc)]
  ·refine qe ?_ H2 k2
   rw[heq,chk,fZ (by rw[<-tl];exact hc)]
 ·have e1:¬V.str (rest2.headD "")=V.str ")":=fun z=>by
   injection z with z
   cases rest2 with
   |nil=>exact absurd z gq
   |cons a r=>exact hh (congrArg some z)
  rw[ig e1]
  have hm:=om gi rest2 rows2 acc hh
  refine jm ⟨_,fun σ' H' z=>z,?_⟩
  refine⟨_,rfl,.inl ⟨rfl,_,SqL.of hfl2⟩,_,rfl,p,dx,_,rfl,hk,gT _ _ _ _ (by simp),_,rfl,p,dx,wl,rl,ws,rest2,rows2,rfl,R2,W,hr2,fun r rows' H4 e R4 k4=>?_,fun e H4 k4=>?_⟩
  ·have h4:H4 fl=some (.lst fv):=k4 _ _ hfl2 fp frl
   have ei:(jZ (gk f)) rest2 rows2=some (.flat (.int (rows2.length:Int)),r,rows'):=by rw[jZ,e]
   obtain⟨st,lt⟩:=gi _ _ _ _ ei
   refine⟨fl,fv,_,rfl,rfl,h4,lf,r.length,lt,acc++[.flat (.int (rows2.length:Int))],fv++[.int (rows2.length:Int)],r,rows',rfl,rfl,R4.other h4 fp fwl frl,uz hfl (k2.trans k4),fC,((R2.tats k4 tf).snoc (.flat rfl)).other h4,(by rw[aO];have lt':r.length<rest2.length:=lt;show acc.length+ 1+_<=_;lia),st.most hr2,?_⟩
   rw[heq,hm,ei]
  ·refine qe ?_ H4 (k2.trans k4)
   rw[heq,hm,show(jZ (gk f)) rest2 rows2=none by rw[jZ,e]]
   rfl
structure Dk (P:Program) (w:World) (K:PySem.W.Frag) (mg:Str->Option Value) where
 a:Addr
 m:mg "STEADY_FORMS"=some (.ref a)
 kvs:List (Key×V)
 kd:zd P w K a kvs
 no:∀h,stP h=none->je kvs (Sum.inr h)=none
 yes:∀h ps,stP h=some ps->∃q,je kvs (Sum.inr h)=some (.ref q)/\∀H:Hp,SqT K H q (ps.map pV)
theorem Bb {h:Str} {ps:List Bool} (e:stP h=some ps):ps≠[]/\ps.length<=3:=by
 unfold stP at e
 obtain⟨p,hp,rfl⟩:=da.mp e
 have hm:=List.mem_of_find?_eq_some hp
 clear hp e
 have z:∀p∈stT,p.2≠[]/\p.2.length<=3:=gq
 exact z p hm
def Hy (K:PySem.W.Frag) (C CB:Addr) (f:Nat):Sp:=fun vs H Q E=>∃(p dx wl rl:Addr) (ws rest:List Str) (rows:List Dt) (h:Str),vs=[.ref p,.str h,.int (25-(f:Int))]/\RS K C H p dx wl rl ws rest rows/\WOk ws/\rows.length<=160/\h∈ws/\
 (∀ds r rows' t H',iK (gk f) h rest rows=some (ds,r,rows')->RS K C H' p dx wl rl ws r rows'->K2 p rl H H'->TAt K H' (.ref t) (.tup ds)->Q (.ref t) H')/\(iK (gk f) h rest rows=none->∀H',K2 p rl H H'->E (.ref CB) none H')
theorem CK (T:Txt K mg) (D:Dk P w K mg) (f:Nat)
  (gE59:ME P w base mg (5*f+ 5) T.e59 (CI K T.c8.a T.c2.a f))
  (gE62:ME P w base mg (5*f+ 6) T.e62 (Fn K T.c8.a T.c2.a f))
  (gE63:ME P w base mg (5*f+ 7) T.e63 (Dx K T.c8.a T.c2.a f (ir (gk f) [true,false]) 0 6))
  (gE64:ME P w base mg (5*f+ 7) T.e64 (Dx K T.c8.a T.c2.a f (ir (gk f) [true,true,false]) 1 6))
  (gE65:ME P w base mg (5*f+ 7) T.e65 (Dx K T.c8.a T.c2.a f (jZ (gk f)) 0 8)):
  ME P w base mg (5*f+ 8) T.e61 (Hy K T.c8.a T.c2.a f):=by
 refine T.e61.F.okE kq (fun vs H Q E h=>?_) (fun cdv A outer s H vs Q E hr h=>?_)
 ·obtain⟨p,dx,wl,rl,ws,rest,rows,h,rfl,_⟩:=h
  rfl
 obtain⟨p,dx,wl,rl,ws,rest,rows,h,rfl,R,W,hrows,hm,q,qe⟩:=h
 refine⟨_,(fA (gL (iI sd (pv 1) fQ)
   (fG (f7 (gC (fz fQ (fz (gE (pv 0) T.c8.cl T.e63.me gE63 (hr.mono (by lia)) T.e63.b .nil jI (fz (pv 2) fD)) fD)))))
   gm)
  (fA (gL (iI sd (pv 1) fQ)
   (fA (pS (i:=3) kq.nd (gE (pv 0) T.c8.cl T.e59.me gE59 (hr.mono (by lia)) T.e59.b .nil jI (fz (pv 2) fD)))
   (fG (f7 (gC (fz fQ (fz (pv 3) (fz (gE (pv 0) T.c8.cl T.e64.me gE64 (hr.mono (by lia)) T.e64.b .nil jI (fz (pv 2) fD)) fD)))))))
   gm)
  (fA (gL (iI sd (pv 1) fQ)
   (fG (f7 (gC (fz fQ (fz (gE (pv 0) T.c8.cl T.e65.me gE65 (hr.mono (by lia)) T.e65.b .nil jI (fz (pv 2) fD)) fD)))))
   gm)
  (fA (gL (rp (ze D.kd (pv 1) (AK rfl D.m)) rfl)
   (fG (jU rfl kS T.x2 rfl T.c2.m (fz (lN (gS (uj (pv 1)) (gS fQ oJ))) fD)))
   gm)
  (fG (f7 (gK Cf (gC (fz (pv 1) fD)) (gE (pv 0) T.c8.cl T.e62.me gE62 (hr.mono (by lia)) T.e62.b .nil jI (fz (zf D.kd (AK rfl D.m) (pv 1)) (fz (pv 2) fD)))))))))),?_⟩
 have sl:=sizeLine_eq
 have ep:=iR f
 obtain⟨k',hk⟩:=R.ob
 refine⟨_,rfl,rfl,_,rfl,?_⟩
 by_cases h1:h="rec"
 ·subst h1
  rw[show decide (V.str "rec"=V.str "rec")=true by decide+kernel]
  have ef:iK (gk f) "rec" rest rows=match chk 0 6 (iE (ir (gk f) [true,false]) rest rows [])with
   |none=>none
   |some (l,r)=>some ([.flat (.str "rec"),.tup l],r):=by rw[iK,gx rfl]<;>rfl
  refine jm ⟨_,rfl,p,dx,_,rfl,hk,gT _ _ _ _ (by simp),_,rfl,p,dx,wl,rl,ws,rest,rows,rfl,R,W,hrows,fun l r rows' t H1 e R1 k1 ht=>?_,fun e H1 k1=>?_⟩
  ·refine⟨my,fun u hu=>?_⟩
   have s:=fE hu (.tup [.str "rec",.ref t])
   refine q _ r rows' u _ (by rw[ef,e]) (R1.same s) (k1.trans (fW.k2 s)) (.tup fC (.cons (.flat rfl) (.cons (R1.tat (fW.k2 s) ht) .nil)))
  ·exact qe (by rw[ef,e]) H1 k1
 rw[ig (fun z:V.str h=V.str "rec"=>h1 (by injection z))]
 refine iO ⟨_,rfl,rfl,_,rfl,?_⟩
 by_cases h2:h="case"
 ·subst h2
  rw[show decide (V.str "case"=V.str "case")=true by decide+kernel]
  have ef:iK (gk f) "case" rest rows=match gk f rest rows with
   |none=>none
   |some (r1,rows1)=>match chk 1 6 (iE (ir (gk f) [true,true,false]) r1 rows1 [])with
    |none=>none
    |some (l,r)=>some ([.flat (.str "case"),.flat (.int (rows.length:Int)),.tup l],r):=by rw[iK,fZ h1,gx rfl]<;>rfl
  refine jm ⟨_,rfl,p,dx,_,rfl,hk,gT _ _ _ _ (by simp),_,rfl,p,dx,wl,rl,ws,rest,rows,rfl,R,W,hrows,fun r1 rows1 H1 e1 R1 k1=>?_,fun e1 H1 k1=>?_⟩
  ·obtain⟨k1',hk1⟩:=R1.ob
   refine⟨_,rfl,_,rfl,p,dx,_,rfl,hk1,gT _ _ _ _ (by simp),_,rfl,p,dx,wl,rl,ws,r1,rows1,rfl,R1,W,(ep _ _ _ e1).1.most hrows,fun l r rows' t H2 e R2 k2 ht=>?_,fun e H2 k2=>?_⟩
   ·refine⟨nA,fun u hu=>?_⟩
    have s:=fE hu (.tup [.str "case",.int (rows.length:Int),.ref t])
    refine q _ r rows' u _ (by rw[ef,e1];show(match chk 1 6 _ with|none=>none|some (l,r)=>_)=_;rw[e]) (R2.same s) ((k1.trans k2).trans (fW.k2 s)) (.tup fC (.cons (.flat rfl) (.cons (.flat rfl) (.cons (R2.tat (fW.k2 s) ht) .nil))))
   ·exact qe (by rw[ef,e1];show(match chk 1 6 _ with|none=>none|some (l,r)=>_)=_;rw[e]) H2 (k1.trans k2)
  ·exact qe (by rw[ef,e1]) H1 k1
 rw[ig (fun z:V.str h=V.str "case"=>h2 (by injection z))]
 refine iO ⟨_,rfl,rfl,_,rfl,?_⟩
 by_cases h3:h="row"
 ·subst h3
  rw[show decide (V.str "row"=V.str "row")=true by decide+kernel]
  have ef:iK (gk f) "row" rest rows=match chk 0 8 (iE (jZ (gk f)) rest rows [])with
   |none=>none
   |some (l,r)=>some ([.flat (.str "row"),.tup l],r):=by rw[iK,fZ h1,fZ h2,gx rfl]<;>rfl
  refine jm ⟨_,rfl,p,dx,_,rfl,hk,gT _ _ _ _ (by simp),_,rfl,p,dx,wl,rl,ws,rest,rows,rfl,R,W,hrows,fun l r rows' t H1 e R1 k1 ht=>?_,fun e H1 k1=>?_⟩
  ·refine⟨my,fun u hu=>?_⟩
   have s:=fE hu (.tup [.str "row",.ref t])
   refine q _ r rows' u _ (by rw[ef,e]) (R1.same s) (k1.trans (fW.k2 s)) (.tup fC (.cons (.flat rfl) (.cons (R1.tat (fW.k2 s) ht) .nil)))
  ·exact qe (by rw[ef,e]) H1 k1
 rw[ig (fun z:V.str h=V.str "row"=>h3 (by injection z))]
 have ef:iK (gk f) h rest rows=match stP h with
  |none=>none
  |some ps=>match f9 (gk f) ps [] rest rows with
   |none=>none
   |some (ds,r)=>some (.flat (.str h)::ds,r):=by rw[iK,fZ h1,fZ h2,fZ h3]<;>rfl
 refine iO ⟨_,rfl,Sum.inr h,rfl,rfl,_,rfl,?_⟩
 cases e4:stP h with
 |none=>
  rw[D.no h e4]
  have hrp:=nP W hm
  refine jm ⟨_,rfl,h,rfl,by lia,_,rfl,Fg hrp,_,rfl,CC hrp gq,CC hrp gq,tO,qe (by rw[ef,e4]) H (K2.refl _ _ _)⟩
 |some ps=>
  obtain⟨dq,ev,hq⟩:=D.yes h ps e4
  obtain⟨ne,le⟩:=Bb e4
  rw[ev]
  refine iO ⟨_,rfl,tO,fun t1 ht1=>?_⟩
  have s1:=fE ht1 (.tup [.str h])
  have R1:=R.same s1
  obtain⟨k1',hk1⟩:=R1.ob
  refine⟨_,rfl,p,dx,_,rfl,hk1,gT _ _ _ _ (by simp),_,rfl,Sum.inr h,_,rfl,rfl,ev,_,rfl,p,dx,wl,rl,dq,ws,rest,rows,ps,rfl,R1,W,hrows,hq _,le,fun ds r rows' t H2 e R2 k2 ht=>?_,fun e H2 k2=>?_⟩
  ·cases ht with
   |tup hsq hts=>
    rename_i xs
    have l1:=(ke ep _ _ _ _ _ _ e).2.2
    have l2:=hts.length
    have hne:xs≠[]:=fun z=>by
     rw[z]at l2
     rw[<-l2]at l1
     have:ps.length=0:=by simpa using l1.symm
     exact ne (bF.mp this)
    have ht2:SqT K H2 t1 [.str h]:=R1.sqt k2 (.inl (.inl fC))
    refine⟨t1,t,[.str h],xs,rfl,rfl,ht2,.inl (.inl hsq),(fun z=>nomatch z),(by
     have:([]:List Dt).length=0:=rfl
     show 1+xs.length<=_
     lia),fun z=>absurd z hne,fun _ u hu=>?_⟩
    have s:=fE hu (.tup ([.str h]++xs))
    refine q _ r rows' u _ (by rw[ef,e4];show(match f9 _ _ _ _ _ with|none=>none|some (ds,r)=>_)=_;rw[e]) (R2.same s) (((fW.k2 s1).trans k2).trans (fW.k2 s)) (.tup fC (.cons (.flat rfl) (R2.tats (fW.k2 s) hts)))
  ·exact qe (by rw[ef,e4];show(match f9 _ _ _ _ _ with|none=>none|some (ds,r)=>_)=_;rw[e]) H2 ((fW.k2 s1).trans k2)
theorem Bc:(reprText ")").length<=300002:=gq
def Hz (K:PySem.W.Frag) (C CB:Addr) (f:Nat):Sp:=fun vs H Q E=>∃(p dx wl rl:Addr) (ws rest:List Str) (rows:List Dt),vs=[.ref p,.int (25-((f+ 1:Nat):Int))]/\RS K C H p dx wl rl ws rest rows/\WOk ws/\rows.length<=160/\
 (∀ds r rows' t H',rO (gk f) rest rows=some (ds,r,rows')->RS K C H' p dx wl rl ws r rows'->K2 p rl H H'->TAt K H' (.ref t) (.tup ds)->Q (.ref t) H')/\(rO (gk f) rest rows=none->∀H',K2 p rl H H'->E (.ref CB) none H')
theorem Es (T:Txt K mg) (f:Nat)
  (gE56:ME P w base mg 2 T.e56 (iG T.c8.a T.c2.a))
  (gE57:ME P w base mg 3 T.e57 (g0 T.c8.a T.c2.a))
  (gD13:FO P w base 2 T.d13 mr)
  (gD14:FO P w base 2 T.d14 lZ)
  (gE61:ME P w base mg (5*f+ 8) T.e61 (Hy K T.c8.a T.c2.a f)):
  ME P w base mg (5*f+ 9) T.e60 (Hz K T.c8.a T.c2.a f):=by
 refine T.e60.F.okE jB (fun vs H Q E h=>?_) (fun cdv A outer s H vs Q E hr h=>?_)
 ·obtain⟨p,dx,wl,rl,ws,rest,rows,rfl,_⟩:=h
  rfl
 obtain⟨p,dx,wl,rl,ws,rest,rows,rfl,R,W,hrows,q,qe⟩:=h
 refine⟨_,(fA (pS (i:=2) jB.nd (iV (pv 0) T.c8.cl T.e56.me gE56 (hr.mono (by lia)) T.e56.b .nil jI))
  (fA (gL (jk (pF T.d14 gD14 (hr.mono (by lia)) (fz (pv 2) fD)))
   (fG (f7 (gC (fz fQ (fz (jH uk rfl T.z_int wm (fz (pv 2) fD)) fD)))))
   gm)
  (fA (gL (jk (pF T.d13 gD13 (hr.mono (by lia)) (fz (pv 2) fD)))
   (fG (f7 (gC (fz fQ (fz (pv 2) fD)))))
   gm)
  (fA (gL (iI mJ (pv 2) fQ)
   (fG (jU rfl kS T.x2 rfl T.c2.m (fz (lN (gS (uj (pv 2)) (gS fQ oJ))) fD)))
   gm)
  (fA (pS (i:=3) jB.nd (gE (pv 0) T.c8.cl T.e61.me gE61 (hr.mono (by lia)) T.e61.b .nil jI (fz (iV (pv 0) T.c8.cl T.e56.me gE56 (hr.mono (by lia)) T.e56.b .nil jI) (fz (gK Br (pv 1) fF) fD))))
  (fA (gh (gE (pv 0) T.c8.cl T.e57.me gE57 (hr.mono (by lia)) T.e57.b .nil jI (fz fQ fD)))
  (fG (f7 (pv 3))))))))),?_⟩
 have sl:=sizeLine_eq
 obtain⟨k',hk⟩:=R.ob
 refine⟨_,rfl,p,dx,_,rfl,hk,gT _ _ _ _ (by simp),?_⟩
 refine tn0 ?_
 refine Ep R W (fun x r H1 e R1 k1=>?_) (fun e=>qe (by rw[e];rfl) H (K2.refl _ _ _))
 have hx:x∈ws:=R.mem x (by rw[e];exact ah ..)
 have xl:=(W.one x hx).2.1
 refine⟨_,rfl,x,rfl,xl,fun H2 s2=>⟨_,rfl,?_⟩⟩
 have R2:=R1.same s2
 have k2:=k1.trans (fW.k2 (p:=p) (q:=rl) s2)
 cases e1:iY x with
 |true=>
  obtain⟨n1,n2,n3⟩:=qg e1
  refine jm ⟨_,rfl,x,uq x,rfl,xY n1 (by lia) n3,by lia,my,fun t ht=>?_⟩
  have s:=fE ht (.tup [.str "num",.int (uq x)])
  exact q _ r rows t _ (by rw[e];exact vt e1) (R2.same s) (k2.trans (fW.k2 s)) (.tup fC (.cons (.flat rfl) (.cons (.flat rfl) .nil)))
 |false=>
  have f1:¬iY x=true:=by rw[e1];exact eP
  refine iO ⟨_,rfl,x,rfl,xl,fun H3 s3=>⟨_,rfl,?_⟩⟩
  have R3:=R2.same s3
  have k3:=k2.trans (fW.k2 (p:=p) (q:=rl) s3)
  cases e2:isName x with
  |true=>
   refine jm ⟨_,rfl,my,fun t ht=>?_⟩
   have s:=fE ht (.tup [.str "name",.str x])
   exact q _ r rows t _ (by rw[e];exact sE f1 e2) (R3.same s) (k3.trans (fW.k2 s)) (.tup fC (.cons (.flat rfl) (.cons (.flat rfl) .nil)))
  |false=>
   have f2:¬isName x=true:=by rw[e2];exact eP
   refine iO ⟨_,rfl,rfl,_,rfl,?_⟩
   by_cases h3:x="("
   ·rw[gR (congrArg V.str h3)]
    obtain⟨k3',hk3⟩:=R3.ob
    refine iO ⟨_,rfl,p,dx,_,rfl,hk3,gT _ _ _ _ (by simp),_,rfl,p,dx,_,rfl,hk3,gT _ _ _ _ (by simp),?_⟩
    refine tn0 ?_
    refine Ep R3 W (fun h r2 H4 e4 R4 k4=>?_) (fun e4=>qe (by rw[e,e4];exact AZ f1 f2 h3) H3 k3)
    have hh:h∈ws:=R3.mem h (by rw[e4];exact ah ..)
    have er':rO (gk f) rest rows=lQ (iK (gk f) h r2 rows):=by rw[e,e4];exact vv f1 f2 h3
    refine⟨_,rfl,_,_,rfl,rfl,p,dx,wl,rl,ws,r2,rows,h,(by
     show[V.ref p,V.str h,V.int (25-((f+ 1:Nat):Int)+ 1)]=_
     rw[show(25-((f+ 1:Nat):Int)+ 1)=25-(f:Int) by lia]),R4,W,hrows,hh,fun ds r3 rows' t H5 e5 R5 k5 ht=>?_,fun e5 H5 k5=>?_⟩
    ·obtain⟨k5',hk5⟩:=R5.ob
     refine⟨_,rfl,p,dx,_,rfl,hk5,gT _ _ _ _ (by simp),?_⟩
     refine tc1 ?_
     refine Ba R5 W Bc (fun r4 H6 e6 R6 k6=>?_) (fun ne H6 k6=>?_)
     ·refine⟨_,rfl,q ds r4 rows' t H6 ?_ R6 (((k3.trans k4).trans k5).trans k6) (R5.tat k6 ht)⟩
      rw[er',e5,e6]
      unfold lQ
      exact gx rfl
     ·refine qe ?_ H6 (((k3.trans k4).trans k5).trans k6)
      rw[er',e5]
      unfold lQ
      cases r3 with
      |nil=>rfl
      |cons y r4=>
       refine fZ fun z=>ne ?_
       rw[z]
       rfl
    ·exact qe (by rw[er',e5];rfl) H5 ((k3.trans k4).trans k5)
   ·rw[ig (fun z:V.str x=V.str "("=>h3 (by injection z))]
    have hrp:=nP W hx
    refine jm ⟨_,rfl,x,rfl,by lia,_,rfl,Fg hrp,_,rfl,CC hrp gq,CC hrp gq,tO,qe ?_ H3 k3⟩
    rw[e]
    exact Eh f1 f2 h3
theorem Be (T:Txt K mg):ME P w base mg 5 T.e59 (CI K T.c8.a T.c2.a 0):=by
 refine T.e59.F.okE jj (fun vs H Q E h=>?_) (fun cdv A outer s H vs Q E hr h=>?_)
 ·obtain⟨p,dx,wl,rl,ws,rest,rows,rfl,_⟩:=h
  rfl
 obtain⟨p,dx,wl,rl,ws,rest,rows,rfl,R,W,hrows,q,qe⟩:=h
 refine⟨_,(fA (gL (iI B2 (pv 1) (oW rfl T.o12))
   (fG (jU rfl kS T.x2 rfl T.c2.m (fz (lN (gS fQ (gS (vo (oW rfl T.o12)) oJ))) fD)))
   gm)
  yv),?_⟩
 have sl:=sizeLine_eq
 have nn:=nT (show 24<=100000 by decide)
 refine⟨_,rfl,_,_,rfl,rfl,_,rfl,jm ?_⟩
 refine⟨_,rfl,?_,.inr ⟨_,rfl,nn.1,_,rfl,?_,?_,tO,qe rfl H (K2.refl _ _ _)⟩⟩
 all_goals
  simp only[Str.length_append]
  have e0:Str.empty.length=0:=rfl
  have e1:("a nest above ":Str).length=13:=gq
  have e2:(PySem.Str.ofString (toString (24:Int))).length<=6:=nn.2
  try lia
theorem Bg (T:Txt K mg) (f:Nat)
  (gE60:ME P w base mg (5*f+ 9) T.e60 (Hz K T.c8.a T.c2.a f)):
  ME P w base mg (5*(f+ 1)+ 5) T.e59 (CI K T.c8.a T.c2.a (f+ 1)):=by
 refine T.e59.F.okE (k:=5*f+ 9) jj (fun vs H Q E h=>?_) (fun cdv A outer s H vs Q E hr h=>?_)
 ·obtain⟨p,dx,wl,rl,ws,rest,rows,rfl,_⟩:=h
  rfl
 obtain⟨p,dx,wl,rl,ws,rest,rows,rfl,R,W,hrows,q,qe⟩:=h
 refine⟨_,(fA (gL (iI B2 (pv 1) (oW rfl T.o12))
   (fG (jU rfl kS T.x2 rfl T.c2.m (fz (lN (gS fQ (gS (vo (oW rfl T.o12)) oJ))) fD)))
   gm)
  (fA (pS (i:=2) jj.nd (gg gy rfl T.z_len jf (fz (nJ (pv 0) rfl) fD)))
  (fA (gL (iI sd (pv 2) (oW rfl T.o11))
   (fG (jU rfl kS T.x2 rfl T.c2.m (fz (lN (gS fQ (gS (vo (oW rfl T.o11)) (gS fQ oJ)))) fD)))
   gm)
  (fA (gh (jl eG eI eJ gr (nJ (pv 0) rfl) (fz lG fD)))
  (fA (rC (gE (pv 0) T.c8.cl T.e60.me gE60 (hr.mono (by lia)) T.e60.b .nil jI (fz (pv 1) fD)) (rB (nJ (pv 0) rfl) (pv 2) mn))
  (fG (f7 (pv 2)))))))),?_⟩
 have sl:=sizeLine_eq
 have nn:=nT (show 160<=100000 by decide)
 obtain⟨k,rv,R',h1,h2,h3⟩:=R
 have tl:=h3.length
 refine⟨_,rfl,_,_,rfl,rfl,_,rfl,?_⟩
 rw[ig (by lia)]
 refine iO ⟨_,rfl,p,_,dx,_,_,rfl,R'.ob,T.c8.cl,T.n8rows,sy _ _ _,rl,_,rfl,.inl (SqL.of R'.rw),?_⟩
 refine⟨_,rfl,rfl,_,rfl,?_⟩
 by_cases h160:rows.length=160
 ·rw[gR (show V.int ((rv.length:Nat):Int)=V.int 160 by rw[tl,h160];rfl)]
  refine jm ⟨_,rfl,?_,.inr ⟨_,rfl,nn.1,_,rfl,?_,_,rfl,?_,?_,tO,qe (by rw[gk,gx h160]) H (K2.refl _ _ _)⟩⟩
  all_goals
   simp only[Str.length_append]
   have e0:Str.empty.length=0:=rfl
   have e1:("more than ":Str).length=10:=gq
   have e3:(" places":Str).length=7:=gq
   have e2:(PySem.Str.ofString (toString (160:Int))).length<=6:=nn.2
   try lia
 ·rw[ig (show ¬V.int ((rv.length:Nat):Int)=V.int 160 from fun z=>by injection z with z;lia)]
  refine iO ⟨_,rfl,p,_,dx,_,_,rfl,R'.ob,T.c8.cl,T.n8rows,sy _ _ _,.inl ⟨rfl,_,SqL.of R'.rw⟩,rl,_,_,rfl,rfl,R'.rw,by lia,?_⟩
  have npr:=R'.ne2
  have nwr:=R'.ne
  have R1':nO T.c8.a (upd H rl (.lst (rv++[.non]))) p dx wl rl ws k (rv++[.non]):=⟨by rw[fO npr];exact R'.ob,by rw[fO nwr];exact R'.wd,fC,nwr⟩
  have R1:RS K T.c8.a (upd H rl (.lst (rv++[.non]))) p dx wl rl ws rest (rows++[.flat .non]):=⟨k,_,R1',h1,h2,(h3.snoc (.flat rfl)).other R'.rw⟩
  have k1:K2 p rl H (upd H rl (.lst (rv++[.non]))):=(K2.refl p rl H).upd2 _
  have lr:(rows++[Dt.flat .non]).length=rows.length+ 1:=by rw[aO];rfl
  refine⟨_,rfl,p,dx,_,rfl,R1'.ob,gT _ _ _ _ (by simp),_,rfl,p,dx,wl,rl,ws,rest,_,rfl,R1,W,by lia,fun ds r rows' t H2 e R2 k2 ht=>?_,fun e H2 k2=>?_⟩
  ·have up:=(wG (iR f) e).1.up
   obtain⟨kk,rv2,R2',g1,g2,g3⟩:=R2
   have tl2:=g3.length
   have lt:rows.length<rv2.length:=by
    have up':(rows++[Dt.flat .non]).length<=rows'.length:=up
    lia
   refine⟨_,rfl,p,_,dx,_,_,rfl,R2'.ob,T.c8.cl,T.n8rows,sy _ _ _,_,rfl,rl,_,_,rv.length,rfl,rfl,R2'.rw,CA (by lia),?_⟩
   refine⟨_,rfl,?_⟩
   rw[tl]
   refine q r (rows'.set rows.length (.tup ds)) _ ?_ ⟨kk,_,⟨?_,?_,fC,nwr⟩,g1,g2,(kN.set _ g3 ht).other R2'.rw⟩ ((k1.trans k2).upd2 _)
   ·rw[gk,fZ h160,e]
   ·rw[fO npr]
    exact R2'.ob
   ·rw[fO nwr]
    exact R2'.wd
  ·refine qe ?_ H2 (k1.trans k2)
   rw[gk,fZ h160,e]
theorem zK (T:Txt K mg) (D:Dk P w K mg)
  (gE55:MO P w base mg 1 T.e55 (gQ T.c8.a))
  (gE56:ME P w base mg 2 T.e56 (iG T.c8.a T.c2.a))
  (gE57:ME P w base mg 3 T.e57 (g0 T.c8.a T.c2.a))
  (gE58:ME P w base mg 3 T.e58 (hI T.c8.a T.c2.a))
  (gD13:FO P w base 2 T.d13 mr)
  (gD14:FO P w base 2 T.d14 lZ)
  (gD17:FE P w base 1 T.d17 (iH T.c2.a)):
  ∀f,ME P w base mg (5*f+ 5) T.e59 (CI K T.c8.a T.c2.a f)
 |0=>Be T
 |f+ 1=>by
  have g:=zK T D gE55 gE56 gE57 gE58 gD13 gD14 gD17 f
  have gs:=zH T f gE58 g
  exact Bg T f (Es T f gE56 gE57 gD13 gD14
   (CK T D f g gs (zI T f gE55 gs gD17) (CJ T f gE55 gs gD17) (zJ T f gE55 g gD17)))
theorem Bh:(reprText "(").length<=300002/\(reprText "def").length<=300002/\(reprText ")").length<=300002:=gq
def ku (C:Addr):Sp:=fun vs H Q _=>∃(p dx a b c:Addr),vs=[.ref p,.ref a,.ref b,.ref c]/\H p=some (.ins C dx [])/\∀H',H' p=some (.ins C dx (fP a b c))->(∀z o,H z=some o->z≠p->H' z=some o)->Q .non H'
theorem nh (T:Txt K mg):MO P w base mg 1 T.e53 (ku T.c7.a):=by
 refine T.e53.F.rd m7 fun cdv A outer s H vs Q E hr h=>?_
 obtain⟨p,dx,a,b,c,rfl,hp,k⟩:=h
 refine⟨_,(fA (iN (pv 0) (pv 1) rfl)
  (fA (iN (pv 0) (pv 2) rfl)
  (fG (iN (pv 0) (pv 3) rfl)))),?_⟩
 refine⟨_,rfl,_,rfl,p,T.c7.a,dx,[],rfl,hp,T.c7.cl,T.n7names,(by show 0<1000;decide),?_⟩
 refine⟨_,rfl,_,rfl,p,T.c7.a,dx,_,rfl,fC,T.c7.cl,T.n7roots,(by show 1<1000;decide),?_⟩
 refine⟨_,rfl,_,rfl,p,T.c7.a,dx,_,rfl,fC,T.c7.cl,T.n7rows,(by show 2<1000;decide),?_⟩
 refine k _ ?_ fun z o e hz=>?_
 ·rw[fC]
  exact congrArg (fun l=>some (HO.ins T.c7.a dx l)) (Gr a b c)
 ·rw[fO hz,fO hz,fO hz]
  exact e
structure PrAt (C:Addr) (H:Hp) (g:Addr) (nl tl rl:Addr) (names roots rows:List V):Prop where
 ob:∃dx,H g=some (.ins C dx (fP nl tl rl))
 nm:H nl=some (.lst names)
 rt:H tl=some (.lst roots)
 rw:H rl=some (.lst rows)
 n1:nl≠tl
 n2:nl≠rl
 n3:tl≠rl
def CL (K:PySem.W.Frag) (C CB:Addr):Sp:=fun vs H Q E=>∃(x:Str) (ws:List Str),vs=[.str x]/\x.length<=30000/\qd x.cps.toList=ws.map V.str/\WOk ws/\
 (∀names roots rows g nl tl rl rtv rwv H',lF ws=some (names,roots,rows)->fW H H'->H nl=none->H tl=none->H rl=none->PrAt C H' g nl tl rl (names.map V.str) rtv rwv->kN K H' rtv roots->kN K H' rwv rows->Q (.ref g) H')/\(lF ws=none->∀H',fW H H'->E (.ref CB) none H')
theorem oG {p rl:Addr} {H H1 H2:Hp} (np:H p=none) (nr:H rl=none) (s:fW H H1) (k:K2 p rl H1 H2):fW H H2:=fun b o e=>k b o (s b o e) (fJ e np) (fJ e nr)
theorem CM (T:Txt K mg) (gD12:FO P w base 1 T.d12 qy) (gE54:MO P w base mg 1 T.e54 (ky T.c8.a))
  (gE55:MO P w base mg 1 T.e55 (gQ T.c8.a))
  (gE57:ME P w base mg 3 T.e57 (g0 T.c8.a T.c2.a))
  (gE58:ME P w base mg 3 T.e58 (hI T.c8.a T.c2.a))
  (gE59:ME P w base mg (5*24+ 5) T.e59 (CI K T.c8.a T.c2.a 24))
  (gD17:FE P w base 1 T.d17 (iH T.c2.a))
  (gE53:MO P w base mg 1 T.e53 (ku T.c7.a)):
  FE P w base 126 T.d16 (CL K T.c7.a T.c2.a):=by
 refine T.d16.F.okE sM (fun vs H Q E h=>?_) (fun cdv A outer s H vs Q E hr h=>?_)
 ·obtain⟨x,ws,rfl,_⟩:=h
  rfl
 obtain⟨x,ws,rfl,hx,hw,W,q,qe⟩:=h
 refine⟨_,(fA (pS (i:=1) sM.nd (sh T.mk8 gE54 (hr.mono (by lia)) rfl T.c8.m T.e54.b .nil jq (fz (pF T.d12 gD12 (hr.mono (by lia)) (fz (pv 0) fD)) fD)))
  (fA (pS (i:=2) sM.nd (gA fD))
  (fA (pS (i:=3) sM.nd (gA fD))
  (fA (nF PassesOwn.leaving (iI mJ (iV (pv 1) T.c8.cl T.e55.me gE55 (hr.mono (by lia)) T.e55.b .nil jq) fQ)
   (fA (gh (gE (pv 1) T.c8.cl T.e57.me gE57 (hr.mono (by lia)) T.e57.b .nil jI (fz fQ fD)))
   (fA (gh (gE (pv 1) T.c8.cl T.e57.me gE57 (hr.mono (by lia)) T.e57.b .nil jI (fz fQ fD)))
   (fA (gh (jl eG eI eJ gr (pv 2) (fz (iV (pv 1) T.c8.cl T.e58.me gE58 (hr.mono (by lia)) T.e58.b .nil jI) fD)))
   (fA (gh (jl eG eI eJ gr (pv 3) (fz (gE (pv 1) T.c8.cl T.e59.me gE59 (hr.mono (by lia)) T.e59.b .nil jI (fz fF fD)) fD)))
   (fG (gh (gE (pv 1) T.c8.cl T.e57.me gE57 (hr.mono (by lia)) T.e57.b .nil jI (fz fQ fD)))))))))
  (fA (gh (n9 gD17 (hr.mono (by lia)) rfl T.d17.m T.d17.k T.d17.b .nil jI (fz fQ (fz (gg gy rfl T.z_len jf (fz (pv 2) fD)) (fz fF (fz (oW rfl T.o7) fD))))))
  (fG (f7 (sh T.mk7 gE53 (hr.mono (by lia)) rfl T.c7.m T.e53.b .nil jq (fz (pv 2) (fz (pv 3) (fz (nJ (pv 1) rfl) fD))))))))))),?_⟩
 have sl:=sizeLine_eq
 obtain⟨rp1,rp2,rp3⟩:=Bh
 refine⟨_,rfl,x,rfl,hx,fun wl H1 s1 nwl hwl p dx np ndx nex=>?_⟩
 rw[hw]at hwl
 have wp:wl≠p:=fJ hwl np
 have wdx:wl≠dx:=fJ hwl ndx
 refine⟨p,dx,wl,ws,rfl,fC,by rw[fO wp,fO wdx];exact hwl,fun rl H2 nrl R2 keep=>⟨rfl,?_⟩⟩
 have np0:H p=none:=s1.free np
 have S1:fW H (upd (upd H1 dx (.own p)) p (.ins T.c8.a dx [])):=sA _ np0 (sA _ (s1.free ndx) s1)
 have nr0:H rl=none:=S1.free nrl
 have S2:fW H H2:=fun b o e=>keep b o (S1 b o e) (fJ e np0)
 refine⟨n6,fun nl hnl=>⟨n6,fun tl htl=>?_⟩⟩
 have nn0:H nl=none:=S2.free hnl
 have S3:fW H (upd H2 nl (.lst [])):=S2.trans (fE hnl _)
 have nt0:H tl=none:=S3.free htl
 have S4:fW H (upd (upd H2 nl (.lst [])) tl (.lst [])):=S3.trans (fE htl _)
 have R4':=(R2.same (fE hnl (.lst []))).same (fE htl (.lst []))
 have R4:RS K T.c8.a (upd (upd H2 nl (.lst [])) tl (.lst [])) p dx wl rl ws ws []:=⟨0,[],R4',rfl,cA _,.nil⟩
 have ntn:nl≠tl:=fJ fC htl
 have hN4:upd (upd H2 nl (.lst [])) tl (.lst []) nl=some (.lst []):=by rw[fO ntn];exact fC
 have hT4:upd (upd H2 nl (.lst [])) tl (.lst []) tl=some (.lst []):=fC
 have pn:nl≠p:=Ne.symm (fJ R2.ob hnl)
 have rn:nl≠rl:=Ne.symm (fJ R2.rw hnl)
 have pt:tl≠p:=Ne.symm (fJ (R2.same (fE hnl (.lst []))).ob htl)
 have rt:tl≠rl:=Ne.symm (fJ (R2.same (fE hnl (.lst []))).rw htl)
 have wn:nl≠wl:=Ne.symm (fJ R2.wd hnl)
 have wt:tl≠wl:=Ne.symm (fJ (R2.same (fE hnl (.lst []))).wd htl)
 have wlen:=W.len
 have ra:lF ws=match i6 ws [] [] []with
  |none=>none
  |some (n,r,rows)=>if 1<=n.length/\n.length<=12 then some (n,r,rows)else none:=by rw[lF]<;>rfl
 generalize hH4:upd (upd H2 nl (.lst [])) tl (.lst [])=H4 at R4 S4 hN4 hT4
 refine⟨fun m σ H5=>∃(names:List Str) (roots:List Dt) (rtv:List V) (rest:List Str) (rows:List Dt),m=rest.length/\σ=[some (.str x),some (.ref p),some (.ref nl),some (.ref tl)]/\RS K T.c8.a H5 p dx wl rl ws rest rows/\fW H H5/\H5 nl=some (.lst (names.map V.str))/\H5 tl=some (.lst rtv)/\kN K H5 rtv roots/\names.length+rest.length<=30000/\roots.length=names.length/\rows.length<=160/\i6 ws [] [] []=i6 rest rows names roots,
  ⟨_,[],[],[],ws,[],rfl,rfl,R4,S4,hN4,hT4,.nil,(by show 0+_<=_;lia),rfl,cA _,rfl⟩,?_⟩
 rintro m σ H5 ⟨names,roots,rtv,rest,rows,rfl,rfl,R5,S5,hN5,hT5,ht5,hlen,hlr,hrows,heq⟩
 obtain⟨k5,hk5⟩:=R5.ob
 have lroot:=ht5.length
 refine⟨_,rfl,p,dx,_,rfl,hk5,gT _ _ _ _ (.inl rfl),?_⟩
 refine tn0 ?_
 refine A9 R5 W ?_
 refine⟨rfl,_,rfl,?_⟩
 by_cases hnil:rest=[]
 ·subst hnil
  rw[show decide (V.str (([]:List Str).headD "")=V.str "")=true by decide+kernel]
  rw[defs_nil]at heq
  rw[heq]at ra
  have ra':lF ws=if 1<=names.length/\names.length<=12 then some (names,roots,rows)else none:=ra
  have lm:(names.map V.str).length=names.length:=aC ..
  refine iO ⟨_,rfl,nl,_,rfl,.inl (SqL.of hN5),"definitions",(names.map V.str).length,1,12,rfl,gq,by lia,by decide,by decide,fun hc=>?_,fun hc=>?_⟩
  ·rw[lm]at hc
   rw[gx hc]at ra'
   refine⟨_,rfl,_,rfl,_,rfl,p,_,dx,_,_,rfl,hk5,T.c8.cl,T.n8rows,sy _ _ _,fun g dg ng ndg neg=>?_⟩
   refine⟨g,dg,nl,tl,rl,rfl,fC,fun H6 hg keep6=>⟨rfl,?_⟩⟩
   have k6:fW H5 H6:=fun b o e=>keep6 b o (by rw[fO (fJ e ng),fO (fJ e ndg)];exact e) (fJ e ng)
   obtain⟨k,rv,R5',h1,h2,h3⟩:=R5
   have kk:K2 p rl H5 H6:=fW.k2 k6
   exact q names roots rows g nl tl rl rtv rv H6 ra' (S5.trans k6) nn0 nt0 nr0 ⟨⟨dg,hg⟩,k6 _ _ hN5,k6 _ _ hT5,k6 _ _ R5'.rw,ntn,rn,rt⟩ (ht5.mono fun a xs t=>nO.tpT R5' kk t) (h3.mono fun a xs t=>nO.tpT R5' kk t)
  ·rw[lm]at hc
   rw[fZ hc]at ra'
   exact qe ra' H5 S5
 ·have e1:¬V.str (rest.headD "")=V.str "":=fun z=>by
   injection z with z
   cases rest with
   |nil=>exact hnil rfl
   |cons a r=>exact(W.one a (R5.mem a (ah ..))).1 z
  rw[ig e1]
  have fail:∀{H':Hp},i6 rest rows names roots=none->K2 p rl H5 H'->E (.ref T.c2.a) none H':=fun{H'} z k=>by
   refine qe ?_ H' (oG np0 nr0 S5 k)
   rw[ra,heq,z]
  refine jm ⟨_,fun σ' H' z=>z,?_⟩
  refine⟨_,rfl,p,dx,_,rfl,hk5,gT _ _ _ _ (by simp),?_⟩
  refine tc1 ?_
  refine Ba R5 W rp1 (fun r1 H6 e6 R6 k6=>?_) (fun ne H6 k6=>fail (A1 hnil ne) k6)
  subst e6
  obtain⟨k6',hk6⟩:=R6.ob
  refine⟨_,rfl,p,dx,_,rfl,hk6,gT _ _ _ _ (by simp),?_⟩
  refine tc1 ?_
  refine Ba R6 W rp2 (fun r2 H7 e7 R7 k7=>?_) (fun ne H7 k7=>fail (A2 ne) (k6.trans k7))
  subst e7
  have kk7:=k6.trans k7
  have hN7:H7 nl=some (.lst (names.map V.str)):=kk7 _ _ hN5 pn rn
  obtain⟨k7',hk7⟩:=R7.ob
  refine⟨_,rfl,.inl ⟨rfl,_,SqL.of hN7⟩,_,rfl,p,dx,_,rfl,hk7,gT _ _ _ _ (by simp),?_⟩
  refine tn0 ?_
  refine Er R7 W (fun c r3 H8 e8 hc R8 k8=>?_) (fun hno H8 k8=>fail (A4 hno) (kk7.trans k8))
  subst e8
  have kk8:=kk7.trans k8
  have hN8:H8 nl=some (.lst (names.map V.str)):=kk8 _ _ hN5 pn rn
  have hT8:H8 tl=some (.lst rtv):=kk8 _ _ hT5 pt rt
  simp only[az]at hlen
  refine⟨nl,_,_,rfl,rfl,hN8,(by rw[aC];lia),?_⟩
  have R9:=R8.other (o:= .lst (names.map V.str++[.str c])) hN8 pn wn rn
  have S8:=oG np0 nr0 S5 kk8
  have S9:fW H (upd H8 nl (.lst (names.map V.str++[.str c]))):=sA _ nn0 S8
  have hT9:upd H8 nl (.lst (names.map V.str++[.str c])) tl=some (.lst rtv):=by rw[fO (Ne.symm ntn)];exact hT8
  have ht9:=(R5.tats kk8 ht5).other (o:= .lst (names.map V.str++[.str c])) hN8
  obtain⟨k9',hk9⟩:=R9.ob
  refine⟨_,rfl,.inl ⟨rfl,_,SqL.of hT9⟩,_,rfl,p,dx,_,rfl,hk9,gT _ _ _ _ (by simp),?_⟩
  refine tc1 ?_
  refine⟨p,dx,wl,rl,ws,r3,rows,rfl,R9,W,hrows,fun r4 rows4 H10 e10 R10 k10=>?_,fun e10 H10 k10=>?_⟩
  ·have hN10:H10 nl=some (.lst (names.map V.str++[.str c])):=k10 _ _ fC pn rn
   have hT10:H10 tl=some (.lst rtv):=k10 _ _ hT9 pt rt
   have S10:=oG np0 nr0 S9 k10
   obtain⟨st,lt,_⟩:=iR 24 _ _ _ e10
   refine⟨tl,_,_,rfl,rfl,hT10,(by lia),?_⟩
   have R11:=R10.other (o:= .lst (rtv++[.int (rows.length:Int)])) hT10 pt wt rt
   have ht11:=((R9.tats k10 ht9).snoc (.flat (v:= .int (rows.length:Int)) rfl)).other (o:= .lst (rtv++[.int (rows.length:Int)])) hT10
   have hN11:upd H10 tl (.lst (rtv++[.int (rows.length:Int)])) nl=some (.lst (names.map V.str++[.str c])):=by rw[fO ntn];exact hN10
   have S11:fW H (upd H10 tl (.lst (rtv++[.int (rows.length:Int)]))):=sA _ nt0 S10
   obtain⟨k11',hk11⟩:=R11.ob
   refine⟨_,rfl,p,dx,_,rfl,hk11,gT _ _ _ _ (by simp),?_⟩
   refine tc1 ?_
   refine Ba R11 W rp3 (fun r5 H12 e12 R12 k12=>?_) (fun ne H12 k12=>?_)
   ·subst e12
    have lt':r5.length+ 1<r3.length:=lt
    refine⟨r5.length,(by simp only[az];lia),names++[c],roots++[.flat (.int (rows.length:Int))],_,r5,rows4,rfl,rfl,R12,oG np0 nr0 S11 k12,?_,k12 _ _ fC pt rt,R11.tats k12 ht11,?_,?_,st.most hrows,?_⟩
    ·rw[bh]
     exact k12 _ _ hN11 pn rn
    ·rw[aO]
     show names.length+ 1+_<=_
     lia
    ·rw[aO,aO,hlr]
     rfl
    ·rw[heq,defs_yes hc e10]
   ·refine qe ?_ H12 (oG np0 nr0 S11 k12)
    rw[ra,heq,A7 hc e10 ne]
  ·refine qe ?_ H10 (oG np0 nr0 S9 k10)
   rw[ra,heq,A6 hc e10]
end K60.Internal
namespace K60.Internal
open PySem L2.Internal BO.Internal
seal L2.Internal.PE L2.Internal.PA L2.Internal.PS L2.Internal.PSs L2.Internal.PT L2.Internal.PI
theorem gB {H H2:Hp} {l:Addr} (s:fW H H2) (h:H l=none) (o:HO):fW H (upd H2 l o):=fun b u e=>by rw[fO (fJ e h)];exact s b u e
abbrev Hm:=Str×Int
def hmD (h:Hm):Dt:= .tup [.flat (.str h.1),.flat (.int h.2)]
def Sc (H:Hp) (a:Addr) (g:Str->Option Hm) (n:Nat):Prop:=∃kvs:List (Key×V),H a=some (.dK kvs)/\kvs.length<=n/\∀w:Str,match g w with
 |none=>je kvs (.inr w)=none
 |some h=>∃t,je kvs (.inr w)=some (.ref t)/\H t=some (.tup [.str h.1,.int h.2])
theorem Sc.same {H H':Hp} {a:Addr} {g:Str->Option Hm} {n:Nat} (h:Sc H a g n) (s:fW H H'):Sc H' a g n:=by
 obtain⟨kvs,e,l,h⟩:=h
 refine⟨kvs,s _ _ e,l,fun w=>?_⟩
 have:=h w
 cases hg:g w with
 |none=>rw[hg]at this;exact this
 |some z=>
  rw[hg]at this
  obtain⟨t,h1,h2⟩:=this
  exact⟨t,h1,s _ _ h2⟩
def wid (g:Str->Option Hm) (x:Str) (h:Hm):Str->Option Hm:=fun w=>if w=x then some h else g w
def yh:Sp:=fun vs H Q _=>∃(a t:Addr) (g:Str->Option Hm) (n:Nat) (x:Str) (h:Hm),vs=[.ref a,.str x,.ref t]/\Sc H a g n/\n<10000/\H t=some (.tup [.str h.1,.int h.2])/\∀b H',fW H H'->H b=none->Sc H' b (wid g x h) (n+ 1)->Q (.ref b) H'
theorem rS (T:Txt K mg):FO P w base 1 T.d24 yh:=by
 refine T.d24.F.rd rQ fun cdv A outer s H vs Q E hr h=>?_
 have hu:=ue hr
 obtain⟨a,t,g,n,x,h,rfl,⟨kvs,e,l,hk⟩,hn,et,q⟩:=h
 refine⟨_,(fA (pS (i:=3) rQ.nd (jH xV rfl T.z_dict Cp (fz (cv 0) fD)))
  (fA (lK hu (cv 3) (cv 1) (cv 2) rfl)
  (fG (f7 (cv 3))))),?_⟩
 have sl:=sizeLine_eq
 refine⟨a,kvs,rfl,e,fun b hb=>?_⟩
 have s1:=fE hb (.dK kvs)
 have eb:(upd H b (.dK kvs)) b=some (.dK kvs):=fC
 dsimp only[gJ]
 refine⟨b,_,rfl,xH.k (k:=Sum.inr x) eb (by lia),?_⟩
 have tk:∀{y:Addr} {xs:List V},H y=some (.tup xs)->(upd (upd H b (.dK kvs)) b (.dK (mK kvs (Sum.inr x) (.ref t)))) y=some (.tup xs):=fun{y xs} ey=>by rw[fO (jX (s1 _ _ ey) eb (fun h=>nomatch h))];exact s1 _ _ ey
 refine q b _ (gB s1 hb _) hb ⟨_,fC,cw (ij _ _ _) (by lia),fun w=>?_⟩
 unfold wid
 by_cases hw:w=x
 ·rw[gx hw]
  exact⟨t,by rw[hJ,gx (by rw[hw])],tk et⟩
 ·rw[fZ hw]
  have hh:=hk w
  have hv:je (mK kvs (Sum.inr x) (.ref t)) (.inr w)=je kvs (.inr w):=by rw[hJ,fZ (fun z=>hw (by injection z))]
  cases hg:g w with
  |none=>rw[hg]at hh;exact hv.trans hh
  |some z=>
   rw[hg]at hh
   obtain⟨t',h1,h2⟩:=hh
   exact⟨t',hv.trans h1,tk h2⟩
def qA:Sp:=fun vs H Q _=>∃(a:Addr) (ws:List Str),vs=[.ref a]/\H a=some (.lst (ws.map V.str))/\ws.Nodup/\ws.length<=10000/\∀H',fW H H'->Q .non H'
theorem qB (T:Txt K mg):FO P w base 1 T.d19 qA:=by
 refine T.d19.F.rd kj fun cdv A outer s H vs Q E hr h=>?_
 have hu:=ue hr
 obtain⟨a,ws,rfl,e,nd,hl,q⟩:=h
 refine⟨_,(fA (pS (i:=1) kj.nd nK)
  (fG (iZ PassesOwn.never rfl (jh (cv 0)) (pN (i:=2) kj.nd)
   (fA (gL (rp (DS hu (cv 2) (cv 1)) rfl)
    (fG v8)
    gm)
   (fG (lK hu (cv 1) (cv 2) rZ rfl)))))),?_⟩
 have sl:=sizeLine_eq
 intro d hd
 have s1:=fE hd (.dK [])
 have ed:(upd H d (.dK [])) d=some (.dK []):=fC
 dsimp only[gJ]
 generalize upd H d (.dK [])=H1 at s1 ed⊢
 refine⟨a,rfl,⟨_,SqL.of (s1 _ _ e)⟩,jo (xs:=ws.map V.str) (fun i σ H2=>∃(o:Option V) (kvs:List (Key×V)),σ=[some (.ref a),some (.ref d),o]/\fW H H2/\H2 d=some (.dK kvs)/\kvs.length<=i/\∀w:Str,w∉ws.take i->je kvs (.inr w)=none)
  ⟨none,[],rfl,s1,ed,cA _,fun _ _=>rfl⟩ (fun i σ H2 _ ⟨_,_,_,S,_⟩=>SqL.of (S _ _ e)) ?_ ?_⟩
 ·rintro i v σ H2 hv ⟨o,kvs,rfl,S,ek,hk,hn⟩
  have hi:=(au.mp hv).1
  rw[aC]at hi
  rw[aM]at hv
  obtain⟨x,hx⟩:∃x,ws[i]?=some x:=⟨_,bz hi⟩
  rw[hx]at hv
  cases hv
  have hxn:x∉ws.take i:=fun hm=>by
   have h1:(ws.take i++ws.drop i).Nodup:=by rw[bW];exact nd
   rw[bX]at h1
   obtain⟨z1,z2⟩:=au.mp hx
   exact h1.2.2 _ hm _ (by rw[bK z1,z2];simp) rfl
  have g:=vh.k (k:=(Sum.inr x:Key)) ek
  rw[hn x hxn]at g
  refine⟨d,none,rfl,g,_,rfl,iO ?_⟩
  refine⟨d,_,rfl,xH.k (k:=Sum.inr x) ek (by lia),_,_,rfl,gB S hd _,fC,cw (ij _ _ _) (by lia),fun w hw=>?_⟩
  rw[hJ]
  rw[bY,hx]at hw
  have h1:w≠x:=fun z=>hw (by simp[z])
  rw[fZ (fun z=>h1 (by injection z))]
  exact hn w fun z=>hw (aq _ z)
 ·rintro σ H2 ⟨o,kvs,rfl,S,_⟩
  exact q H2 S
def rT:Sp:=fun vs H Q _=>∃(t a:Addr) (k:Int) (g:Str->Option Hm) (n:Nat) (s:Str) (r:List V),vs=[.ref t,.int k,.ref a]/\H t=some (.tup (.str s::r))/\Sc H a g n/\(s≠"name"->Q .non H)/\(s="name"->∃(x:Str) (h:Hm),r=[.str x]/\g x=some h/\∀p,H p=some (.tup [.str h.1,.int h.2])->Q (.ref p) H)
theorem yi (T:Txt K mg):FO P w base 1 T.d21 rT:=by
 refine T.d21.F.rd yd fun cdv A outer s H vs Q E hr h=>?_
 have hu:=ue hr
 obtain⟨t,a,k,g,n,s',r,rfl,et,⟨kvs,e,l,hk⟩,q1,q2⟩:=h
 refine⟨_,(fA (gL (gz xR (fV fX (cv 0) fF) fQ)
   (fG (f7 lG))
   gm)
  (fA (gL (rp (yP hu (fV fX (cv 0) fF) (cv 2)) rfl)
   (fG v8)
   gm)
  (fG (f7 (lJ hu (cv 2) (fV fX (cv 0) fF)))))),?_⟩
 refine⟨_,et,fN (fH (j:=0) rfl) ?_⟩
 dsimp only[tC,cEq,onB]
 by_cases hs:s'="name"
 ·obtain⟨x,h,rfl,hg,q⟩:=q2 hs
  rw[gR hs]
  have hh:=hk x
  rw[hg]at hh
  obtain⟨p,h1,h2⟩:=hh
  have g:=vh.k (k:=(Sum.inr x:Key)) e
  rw[h1]at g
  exact iO ⟨_,et,fN (fH (j:=1) rfl) ⟨a,_,rfl,g,_,rfl,iO ⟨_,et,fN (fH (j:=1) rfl) ⟨a,_,rfl,g,q p h2⟩⟩⟩⟩
 ·rw[ig hs]
  exact jm (q1 hs)
mutual
def flV:Dt->List V
 | .flat v=>[v]
 | .tup ds=>jd ds
 | .lst _=>[]
def jd:List Dt->List V
 |[]=>[]
 |d::ds=>flV d++jd ds
end
mutual
def okF:Dt->Bool
 | .flat v=>(match v with| .int _=>true| .str _=>true|_=>false)
 | .tup ds=>oP ds
 | .lst _=>false
def oP:List Dt->Bool
 |[]=>true
 |d::ds=>okF d&&oP ds
end
theorem uJ:∀(l:List Dt) (d:Dt),jd (l++[d])=jd l++flV d
 |[],d=>by simp[jd]
 |a::l,d=>by rw[aS,jd,jd,uJ l d,bJ]
theorem wK:∀{l:List Dt} {i:Nat} {d:Dt},oP l=true->l[i]?=some d->okF d=true
 |a::l,0,d,h,e=>by cases e;rw[oP,eR]at h;exact h.1
 |a::l,i+ 1,d,h,e=>by rw[oP,eR]at h;rw[bC]at e;exact wK h.2 e
theorem l6:∀(l:List Dt) (i:Nat),(jd (l.take i)).length<=(jd l).length
 |[],i=>by simp[jd]
 |a::l,0=>by simp[jd]
 |a::l,i+ 1=>by
  rw[List.take_succ_cons,jd,jd,aO,aO]
  have:=l6 l i
  lia
theorem rV:∀{l:List Dt} {i:Nat} {d:Dt},l[i]?=some d->(flV d).length<=(jd l).length
 |a::l,0,d,e=>by cases e;rw[jd,aO];lia
 |a::l,i+ 1,d,e=>by
  rw[bC]at e
  have:=rV e
  rw[jd,aO]
  lia
theorem kz {H:Hp}:∀{xs:List V} {ds:List Dt} {j:Nat} {x:V},Ims H xs ds->xs[j]?=some x->∃d,ds[j]?=some d/\Im H x d
 |_,_,0,_,.cons h _,e=>⟨_,rfl,by cases e;exact h⟩
 |_,_,j+ 1,_,.cons _ t,e=>by
  rw[bC]at e
  obtain⟨d,e1,e2⟩:=kz t e
  exact⟨d,by rw[bC];exact e1,e2⟩
def zL (n:Nat):Sp:=fun vs H Q _=>∃(t:Addr) (xs:List V) (ds:List Dt),vs=[.ref t]/\H t=some (.tup xs)/\Ims H xs ds/\oP ds=true/\ji ds<n/\(jd ds).length<=10000/\∀l H',fW H H'->H l=none->H' l=some (.lst (jd ds))->Q (.ref l) H'
theorem CN (T:Txt K mg):∀n:Nat,FO P w base (n+ 1) T.d3 (zL n):=by
 intro n
 induction n with
 |zero=>
  refine T.d3.F.rd sJ fun cdv A outer s H vs Q E hr h=>?_
  obtain⟨t,xs,ds,rfl,et,hx,hok,hd,hl,q⟩:=h
  exact absurd hd (cO _)
 |succ n ih=>
  have gD3:=ih
  refine T.d3.F.rd sJ fun cdv A outer s H vs Q E hr h=>?_
  obtain⟨t,xs,ds,rfl,et,hx,hok,hd,hl,q⟩:=h
  refine⟨_,(fA (pS (i:=1) sJ.nd (gA fD))
  (fA (iZ PassesOwn.never rfl (pO (cv 0)) (pN (i:=2) sJ.nd)
   (fG (gL (jk (gg jG rfl T.z_isinstance gM (fz (cv 2) (fz (mB rfl T.z_tuple jT) fD))))
    (fG (gh (jl eG PySem.F.slot_list_extend PySem.F.type_list_extend yW (cv 1) (fz (pF T.d3 gD3 (hr.mono (by lia)) (fz (cv 2) fD)) fD))))
    (fG (gh (iP (jl eG eI eJ gr (PE.mono (cv 1)) (fz (PE.mono (cv 2)) fD))))))))
  (fG (f7 (cv 1))))),?_⟩
  have sl:=sizeLine_eq
  have lx:=hx.length
  refine⟨n6,fun f hf=>?_⟩
  have s1:=fE hf (.lst [])
  have e1:(upd H f (.lst [])) f=some (.lst []):=fC
  dsimp only[gJ]
  generalize upd H f (.lst [])=H1 at s1 e1⊢
  refine⟨t,rfl,⟨_,SqT.of (s1 _ _ et)⟩,ve (xs:=xs) (fun i σ H2=>∃(o:Option V),σ=[some (.ref t),some (.ref f),o]/\fW H H2/\H2 f=some (.lst (jd (ds.take i)))) ⟨none,rfl,s1,by simpa[jd]using e1⟩ (fun i σ H2 _ ⟨_,_,S,_⟩=>SqT.of (S _ _ et)) ?_ ?_⟩
  ·rintro i v σ H2 hv ⟨o,rfl,S,e⟩
   obtain⟨d,hdi,him⟩:=kz hx hv
   have him2:=him.mono (fW.tk S)
   have hok1:=wK hok hdi
   have tl:=l6 ds i
   have gl:=rV hdi
   have nxt:jd (ds.take (i+ 1))=jd (ds.take i)++flV d:=by rw[bY,hdi];exact uJ _ _
   cases him2 with
   |flat hfl=>
    rw[flV]at nxt gl
    have ap:(∃xs,H2 f=some (.lst xs))/\∃xs,H2 f=some (.lst xs)/\xs.length<sizeLine/\∃(o:Option V),[some (V.ref t),some (V.ref f),some v]=[some (V.ref t),some (.ref f),o]/\fW H (upd H2 f (.lst (xs++[v])))/\(upd H2 f (.lst (xs++[v]))) f=some (.lst (jd (ds.take (i+ 1)))):=
     ⟨⟨_,e⟩,_,e,by lia,_,rfl,gB S hf _,by rw[fC,nxt]⟩
    cases v with
    |int n=>exact⟨_,_,_,_,false,rfl,fun _ r=>r,.int n,rfl,_,rfl,iO ap⟩
    |str x=>exact⟨_,_,_,_,false,rfl,fun _ r=>r,.str x,rfl,_,rfl,iO ap⟩
    |_=>simp[okF]at hok1
   |@tup a ys es ha hs=>
    rw[flV]at nxt gl
    rw[okF]at hok1
    have hdd:=L2.Internal.depDs_get hdi
    rw[p9]at hdd
    refine⟨_,_,_,_,true,rfl,fun _ r=>r,.tup ha,rfl,_,rfl,jm ⟨.inl ⟨rfl,_,SqL.of e⟩,a,ys,es,rfl,ha,hs,hok1,by lia,by lia,fun l H3 S3 hl3 e3=>?_⟩⟩
    refine⟨f,l,_,_,rfl,rfl,S3 _ _ e,e3,?_,_,rfl,gB (S.trans S3) hf _,by rw[fC,nxt]⟩
    have h1:(jd (ds.take (i+ 1))).length<=(jd ds).length:=l6 ds (i+ 1)
    rw[nxt,aO]at h1
    lia
  ·rintro σ H2 ⟨o,rfl,S,e⟩
   rw[bZ (by lia)]at e
   exact q f H2 S hf e
inductive Ro
 |num (n:Int)
 |name (w:Str)
 |fn (w:Str) (k:Int)
 |tag (w:Str) (k:Int)
 |lt (w:Str) (a b:Int)
 |get (k:Int) (w:Str)
 |rcd (l:List (Str×Int))
 |case (k:Int) (l:List (Str×Str×Int))
 |row (ks:List Int)
 |op (s:Str) (ks:List Int)
def kD (k:Int):Dt:= .flat (.int k)
def sD (s:Str):Dt:= .flat (.str s)
def fdD (p:Str×Int):Dt:= .tup [sD p.1,kD p.2]
def amD (p:Str×Str×Int):Dt:= .tup [sD p.1,sD p.2.1,kD p.2.2]
def Ro.s:Ro->Str
 | .num _=>"num"
 | .name _=>"name"
 | .fn _ _=>"fn"
 | .tag _ _=>"tag"
 | .lt _ _ _=>"let"
 | .get _ _=>"get"
 | .rcd _=>"rec"
 | .case _ _=>"case"
 | .row _=>"row"
 | .op s _=>s
def Ro.r:Ro->List Dt
 | .num n=>[kD n]
 | .name w=>[sD w]
 | .fn w k=>[sD w,kD k]
 | .tag w k=>[sD w,kD k]
 | .lt w a b=>[sD w,kD a,kD b]
 | .get k w=>[kD k,sD w]
 | .rcd l=>[.tup (l.map fdD)]
 | .case k l=>[kD k,.tup (l.map amD)]
 | .row ks=>[.tup (ks.map kD)]
 | .op _ ks=>ks.map kD
def Ro.d (ρ:Ro):Dt:= .tup (sD ρ.s::ρ.r)
def plain:List Str:=["size","at","call","join","add","sub","less"]
def Ro.ok:Ro->Prop
 | .rcd l=>l.length<=100/\(l.map Prod.fst).Nodup
 | .case _ l=>l.length<=100/\(l.map Prod.fst).Nodup
 | .row ks=>ks.length<=100
 | .op s ks=>s∈plain/\ks.length<=100
 |_=>True
def Ro.pl:Ro->List Int
 | .num _=>[]
 | .name _=>[]
 | .fn _ k=>[k]
 | .tag _ k=>[k]
 | .lt _ a b=>[a,b]
 | .get k _=>[k]
 | .rcd l=>l.map Prod.snd
 | .case k l=>k::l.map fun p=>p.2.2
 | .row ks=>ks
 | .op _ ks=>ks
def Ro.pt:Ro->List V
 | .num _=>[]
 | .name _=>[]
 |ρ=>jd ρ.r
theorem zM:∀ks:List Int,oP (ks.map kD)=true/\jd (ks.map kD)=ks.map V.int/\ji (ks.map kD)=0
 |[]=>⟨by simp[oP],by simp[jd],by simp[ji]⟩
 |k::ks=>by
  obtain⟨h1,h2,h3⟩:=zM ks
  refine⟨?_,?_,?_⟩
  ·rw[aB,oP,h1];rfl
  ·rw[aB,jd,h2];rfl
  ·rw[aB,ji,h3];rfl
theorem Et:∀l:List (Str×Int),oP (l.map fdD)=true/\(jd (l.map fdD)).length=2*l.length/\ji (l.map fdD)<=1
 |[]=>⟨by simp[oP],by simp[jd],by simp[ji]⟩
 |k::ks=>by
  obtain⟨h1,h2,h3⟩:=Et ks
  refine⟨?_,?_,?_⟩
  ·rw[aB,oP,h1];rfl
  ·rw[aB,jd,aO,h2];show 2+_=_;rw[az];lia
  ·rw[aB,ji];exact Nat.max_le.mpr ⟨cz 1,h3⟩
theorem Eu:∀l:List (Str×Str×Int),oP (l.map amD)=true/\(jd (l.map amD)).length=3*l.length/\ji (l.map amD)<=1
 |[]=>⟨by simp[oP],by simp[jd],by simp[ji]⟩
 |k::ks=>by
  obtain⟨h1,h2,h3⟩:=Eu ks
  refine⟨?_,?_,?_⟩
  ·rw[aB,oP,h1];rfl
  ·rw[aB,jd,aO,h2];show 3+_=_;rw[az];lia
  ·rw[aB,ji];exact Nat.max_le.mpr ⟨cz 1,h3⟩
theorem Ro.fl (ρ:Ro) (h:ρ.ok):oP ρ.r=true/\ji ρ.r<3/\(jd ρ.r).length<=10000:=by
 cases ρ with
 |rcd l=>
  obtain⟨h1,h2,h3⟩:=Et l
  have hl:l.length<=100:=h.1
  refine⟨?_,?_,?_⟩
  ·show oP [.tup (l.map fdD)]=true
   rw[oP,okF,h1,oP];rfl
  ·show ji [.tup (l.map fdD)]<3
   rw[ji,p9,ji];lia
  ·show(jd [.tup (l.map fdD)]).length<=_
   rw[jd,flV,jd,aD,h2];lia
 |case k l=>
  obtain⟨h1,h2,h3⟩:=Eu l
  have hl:l.length<=100:=h.1
  refine⟨?_,?_,?_⟩
  ·show oP [kD k,.tup (l.map amD)]=true
   simp[oP,okF,kD,h1]
  ·show ji [kD k,.tup (l.map amD)]<3
   simp only[ji,p9,kD];lia
  ·show(jd [kD k,.tup (l.map amD)]).length<=_
   simp only[jd,flV,kD,aD,aO,h2,ba];lia
 |row ks=>
  obtain⟨h1,h2,h3⟩:=zM ks
  have hl:ks.length<=100:=h
  refine⟨?_,?_,?_⟩
  ·show oP [.tup (ks.map kD)]=true
   rw[oP,okF,h1,oP];rfl
  ·show ji [.tup (ks.map kD)]<3
   rw[ji,p9,ji,h3];lia
  ·show(jd [.tup (ks.map kD)]).length<=_
   rw[jd,flV,jd,aD,h2,aC];lia
 |op s ks=>
  obtain⟨h1,h2,h3⟩:=zM ks
  have hl:ks.length<=100:=h.2
  exact⟨h1,by show ji (ks.map kD)<3;lia,by show(jd (ks.map kD)).length<=_;rw[h2,aC];lia⟩
 |_=>exact⟨rfl,by simp[Ro.r,kD,sD,ji,p9],by simp[Ro.r,kD,sD,jd,flV]⟩
theorem GB (y:V) (ys:List V):pk (y::ys) (some 1) none=ys/\¬(HT.Internal.sIx (y::ys).length 0 (some 1)=0/\HT.Internal.sIx (y::ys).length (y::ys).length none=(y::ys).length):=by
 have e:HT.Internal.sIx (y::ys).length 0 (some 1)=1:=by
  show HT.Internal.sIx (y::ys).length 0 (some ((1:Nat):Int))=1
  rw[HT.Internal.sIx_nat,az]
  lia
 refine⟨?_,fun h=>by rw[e]at h;exact absurd h.1 (by decide)⟩
 unfold pk
 rw[e,HT.Internal.sIx_none,List.drop_succ_cons,b0,az,Nat.add_sub_cancel,br]
theorem GC (ρ:Ro) (h:ρ.ok):inV (.str ρ.s) [.str "num",.str "name"]=(match ρ with| .num _=>true| .name _=>true|_=>false):=by
 cases ρ with
 |op s ks=>
  have hs:s∈plain:=h.1
  show inV (.str s) _=false
  simp only[plain,ak,bB,or_false]at hs
  rcases hs with rfl|rfl|rfl|rfl|rfl|rfl|rfl<;>decide+kernel
 |_=>simp only[Ro.s];decide+kernel
def vF:Sp:=fun vs H Q _=>∃(t:Addr) (ρ:Ro),vs=[.ref t]/\Im H (.ref t) ρ.d/\ρ.ok/\∀l H',fW H H'->H l=none->H' l=some (.lst ρ.pt)->Q (.ref l) H'
theorem vG (T:Txt K mg):FO P w base 5 T.d1 vF:=by
 have gD3:=CN (P:=P) (w:=w) (base:=base) T 3
 refine T.d1.F.rd vy fun cdv A outer s H vs Q E hr h=>?_
 obtain⟨t,ρ,rfl,hi,ho,q⟩:=h
 refine⟨_,(fA (gL (gz ub (fV fX (cv 0) fF) (gC (fz fQ (fz fQ fD))) rfl)
   (fG (f7 (gA fD)))
   gm)
  (fG (f7 (pF T.d3 gD3 hr.m (fz (jR DV (cv 0) (kB fF) lM) fD))))),?_⟩
 have sl:=sizeLine_eq
 obtain⟨f1,f2,f3⟩:=ρ.fl ho
 cases hi with
 |@tup _ ys _ et hs=>
  cases hs with
  |@cons y _ ys _ h1 hs=>
   cases h1
   refine⟨_,et,fN (fH (j:=0) rfl) ?_⟩
   refine⟨my,fun p hp=>⟨p,[.str "num",.str "name"],rfl,.inr (SqT.of fC),rfl,rfl,?_⟩⟩
   have s1:=fE hp (.tup [.str "num",.str "name"])
   generalize upd H p (.tup [.str "num",.str "name"])=H1 at s1⊢
   dsimp only[onB]
   rw[show(if false=true then !inV (.str ρ.s) [.str "num",.str "name"]else inV (.str ρ.s) [.str "num",.str "name"])=_ from GC ρ ho]
   have yes:ρ.pt=[]->(E9 (FJ Ar) {nx:=fun _ H'=>Q .non H',rt:=Q}:St->Hp->Prop) [some (.ref t)] H1:=fun e=>⟨n6,fun l hl=>q l _ (s1.trans (fE hl _)) (s1.free hl) (by rw[fC,e])⟩
   have no:ρ.pt=jd ρ.r->∃n:Int,V.int 1= .int n/\∃a xs,V.ref t= .ref a/\SqT K H1 a xs/\¬(HT.Internal.sIx xs.length 0 (some n)=0/\HT.Internal.sIx xs.length xs.length none=xs.length)/\∀pc,H1 pc=none->zL 3 [.ref pc] (upd H1 pc (.tup (pk xs (some n) none))) Q E:=fun e=>by
    obtain⟨c1,c2⟩:=GB (.str ρ.s) ys
    refine⟨1,rfl,t,_,rfl,SqT.of (s1 _ _ et),c2,fun pc hpc=>?_⟩
    rw[c1]
    have s2:=fE hpc (.tup ys)
    exact⟨pc,ys,ρ.r,rfl,fC,hs.mono (fW.tk (s1.trans s2)),f1,f2,f3,fun l H' S hl e'=>q l H' ((s1.trans s2).trans S) ((s1.trans s2).free hl) (by rw[e',e])⟩
   cases ρ with
   |num n=>exact jm (yes rfl)
   |name n=>exact jm (yes rfl)
   |fn a b=>exact iO (no rfl)
   |tag a b=>exact iO (no rfl)
   |lt a b c=>exact iO (no rfl)
   |get a b=>exact iO (no rfl)
   |rcd a=>exact iO (no rfl)
   |case a b=>exact iO (no rfl)
   |row a=>exact iO (no rfl)
   |op a b=>exact iO (no rfl)
theorem Ew {J:It} {xs:List V} {i:Nat} {tt:TT} {te:TE} {Q:VK} {τ:St} {H1:Hp} {D:Addr} (p:V->Bool) (g:V->V) (hD:H1 D=none) (hz:xs.length<=sizeLine) (hτ:τ.set i none=τ)
  (hgo:∀k H,fW H1 H->k<xs.length->J.go k H) (hy:∀k H v H',fW H1 H->k<xs.length->J.yld k H v H'->H'=H/\xs[k]?=some v) (hst:∀H,fW H1 H->J.stop xs.length H)
  (htt:∀(k:Nat) v H R,xs[k]?=some v->fW H1 H->R (p v) H->tt (τ.set i (some v)) H R)
  (hte:∀(k:Nat) v H R,xs[k]?=some v->p v=true->fW H1 H->R (g v) H->te (τ.set i (some v)) H R)
  (hq:∀H',fW H1 H'->H' D=some (.lst ((xs.filter p).map g))->Q (.ref D) H'):LcP J i tt te Q τ H1 D:=by
 have sm:∀o,fW H1 (upd H1 D o):=fun o b u e=>by rw[fO (fJ e hD)];exact e
 refine⟨fun k m σ' H2=>m=xs.length-k/\k<=xs.length/\(∃o,σ'=τ.set i o)/\H2=upd H1 D (.lst (((xs.take k).filter p).map g)),⟨xs.length,by simp,cA _,⟨none,hτ.symm⟩,by simp⟩,?_⟩
 rintro k m σ' H2 ⟨rfl,hk,⟨o,rfl⟩,rfl⟩
 by_cases hlt:k<xs.length
 ·refine .inr ⟨hgo k _ (sm _) hlt,fun v H3 y=>?_⟩
  obtain⟨e,hv⟩:=hy k _ v H3 (sm _) hlt y
  subst e
  rw[bp]
  refine htt k v _ _ hv (sm _) ?_
  have tk:(xs.take (k+ 1)).filter p=(xs.take k).filter p++(if p v then[v]else[]):=take_succ_filter p xs k v hv
  have ll:((xs.take k).filter p).length<=k:=by
   refine cw (bq _ _) ?_
   rw[aI]
   lia
  cases hp:p v with
  |true=>
   rw[gx rfl]
   refine hte k v _ _ hv hp (sm _) ?_
   refine⟨_,fC,by rw[aC];lia,xs.length-(k+ 1),by lia,rfl,hlt,⟨some v,rfl⟩,?_⟩
   rw[yq,tk,hp,gx rfl,bh]
   rfl
  |false=>
   rw[fZ eP]
   refine⟨xs.length-(k+ 1),by lia,rfl,hlt,⟨some v,rfl⟩,?_⟩
   rw[tk,hp,fZ eP,aD]
 ·have e:k=xs.length:=by lia
  subst e
  refine .inl ⟨hst _ (sm _),hq _ (sm _) ?_⟩
  rw[fC,br]
def isI:V->Bool
 | .int _=>true
 |_=>false
theorem zN:∀ks:List Int,(ks.map V.int).filter isI=ks.map V.int
 |[]=>rfl
 |k::ks=>by rw[aB,List.filter_cons_of_pos rfl,zN ks]
theorem BI:∀l:List (Str×Int),(jd (l.map fdD)).filter isI=(l.map Prod.snd).map V.int
 |[]=>by simp[jd]
 |p::l=>by
  have:=BI l
  rw[aB,jd,bH,this]
  rfl
theorem BJ:∀l:List (Str×Str×Int),(jd (l.map amD)).filter isI=(l.map fun p=>p.2.2).map V.int
 |[]=>by simp[jd]
 |p::l=>by
  have:=BJ l
  rw[aB,jd,bH,this]
  rfl
theorem Ro.pt_pl (ρ:Ro):ρ.pt.filter isI=ρ.pl.map V.int:=by
 cases ρ with
 |rcd l=>
  show(jd [.tup (l.map fdD)]).filter isI=_
  rw[jd,flV,jd,aD]
  exact BI l
 |case k l=>
  show(jd [kD k,.tup (l.map amD)]).filter isI=_
  rw[jd,jd,jd,flV,aD,bH,BJ l]
  rfl
 |row ks=>
  show(jd [.tup (ks.map kD)]).filter isI=_
  rw[jd,flV,jd,aD,(zM ks).2.1]
  exact zN ks
 |op s ks=>
  show(jd (ks.map kD)).filter isI=_
  rw[(zM ks).2.1]
  exact zN ks
 |_=>rfl
theorem Ro.pt_le (ρ:Ro) (h:ρ.ok):ρ.pt.length<=10000:=by
 have:=(ρ.fl h).2.2
 cases ρ with
 |num n=>exact cA _
 |name n=>exact cA _
 |_=>exact this
theorem Ey:∀(d:Dt),okF d=true->∀v∈flV d,(∃n,v= .int n)\/∃s,v= .str s:=by
 intro d
 refine Dt.rec (motive_1:=fun d=>okF d=true->∀v∈flV d,(∃n,v= .int n)\/∃s,v= .str s) (motive_2:=fun ds=>oP ds=true->∀v∈jd ds,(∃n,v= .int n)\/∃s,v= .str s) ?_ ?_ ?_ ?_ ?_ d
 ·intro v h x hx
  rw[flV,bf]at hx
  subst hx
  cases x<;>first|exact .inl ⟨_,rfl⟩|exact .inr ⟨_,rfl⟩|simp[okF]at h
 ·intro ds ih h v hv
  rw[flV]at hv
  rw[okF]at h
  exact ih h v hv
 ·intro ds ih h
  rw[okF]at h
  cases h
 ·intro _ v hv
  rw[jd]at hv
  cases hv
 ·intro d ds h1 h2 h v hv
  rw[jd]at hv
  rw[oP,eR]at h
  rcases ao.mp hv with hv|hv
  ·exact h1 h.1 v hv
  ·exact h2 h.2 v hv
theorem Ro.pt_is (ρ:Ro) (h:ρ.ok):∀v∈ρ.pt,(∃n,v= .int n)\/∃s,v= .str s:=by
 have h1:=(ρ.fl h).1
 have h2:=Ey (.tup ρ.r) (by rw[okF];exact h1)
 rw[flV]at h2
 cases ρ with
 |num n=>intro v hv;cases hv
 |name n=>intro v hv;cases hv
 |_=>exact h2
def uK:Sp:=fun vs H Q _=>∃(t:Addr) (ρ:Ro),vs=[.ref t]/\Im H (.ref t) ρ.d/\ρ.ok/\∀l H',fW H H'->H l=none->H' l=some (.lst (ρ.pl.map V.int))->Q (.ref l) H'
theorem oQ (T:Txt K mg):FO P w base 6 T.d2 uK:=by
 have gD1:=vG (P:=P) (w:=w) (base:=base) T
 refine T.d2.F.rd uD fun cdv A outer s H vs Q E hr h=>?_
 obtain⟨t,ρ,rfl,hi,ho,q⟩:=h
 refine⟨_,(fG (f7 (uh rfl (DZ (x:="part") rfl gq gq rfl rfl) (jh (pF T.d1 gD1 hr.m (fz (cv 0) fD))) (fun _ _ _ _ _=>(y8 (jk (gg (r:=rIsi K) jG rfl T.z_isinstance gM (fz (cv 0) (fz (mB rfl T.z_int wm) fD)))))) (fun _ _ _ _ _=>(cv 0))))),?_⟩
 have sl:=sizeLine_eq
 have lp:=ρ.pt_le ho
 refine⟨t,ρ,rfl,hi,ho,fun l H1 S1 hl e1=>⟨l,rfl,⟨_,SqL.of e1⟩,fun D hD=>?_⟩⟩
 refine Ew (xs:=ρ.pt) isI id hD (by lia) rfl (fun k H S h=>BF e1 S h) (fun k H v H' S h y=>⟨y.1,y.2 _ (SqL.of (S _ _ e1))⟩) (fun H S=>BG e1 S) ?_ ?_ ?_
 ·intro k v H2 R hv S hR
  rcases ρ.pt_is ho v (aN hv)with⟨n,rfl⟩|⟨x,rfl⟩
  ·exact⟨_,_,_,_,true,rfl,fun _ r=>r,.int n,rfl,_,rfl,hR⟩
  ·exact⟨_,_,_,_,false,rfl,fun _ r=>r,.str x,rfl,_,rfl,hR⟩
 ·intro k v H2 R hv hp S hR
  exact hR
 ·intro H' S e
  rw[List.map_id,ρ.pt_pl]at e
  exact q D H' (S1.trans S) (S1.free hD) e
def Ro.ws:Ro->List Str
 | .rcd l=>l.map Prod.fst
 | .case _ l=>l.map Prod.fst
 |_=>[]
theorem Ro.ws_nd (ρ:Ro) (h:ρ.ok):ρ.ws.Nodup/\ρ.ws.length<=100:=by
 cases ρ with
 |rcd l=>exact⟨h.2,by show(l.map Prod.fst).length<=_;rw[aC];exact h.1⟩
 |case k l=>exact⟨h.2,by show(l.map Prod.fst).length<=_;rw[aC];exact h.1⟩
 |_=>exact⟨b6,cA _⟩
theorem mJ (ρ:Ro) (h:ρ.ok) (x:Str) (hx:x∈(["rec","case","fn","let","name","num"]:List Str)):(∃s ks,ρ= .op s ks)->decide (ρ.s=x)=false:=by
 rintro⟨s,ks,rfl⟩
 have hs:s∈plain:=h.1
 show decide (s=x)=false
 simp only[plain,ak,bB,or_false]at hs hx
 rcases hs with rfl|rfl|rfl|rfl|rfl|rfl|rfl<;>rcases hx with rfl|rfl|rfl|rfl|rfl|rfl<;>decide+kernel
def Ro.isR:Ro->Bool
 | .rcd _=>true
 |_=>false
def Ro.isC:Ro->Bool
 | .case _ _=>true
 |_=>false
def Ro.isF:Ro->Bool
 | .fn _ _=>true
 |_=>false
def Ro.isL:Ro->Bool
 | .lt _ _ _=>true
 |_=>false
theorem Ro.hd (ρ:Ro) (h:ρ.ok):decide (ρ.s="rec")=ρ.isR/\decide (ρ.s="case")=ρ.isC/\decide (ρ.s="fn")=ρ.isF/\decide (ρ.s="let")=ρ.isL:=by
 cases ρ with
 |op s ks=>exact⟨mJ _ h _ gq ⟨s,ks,rfl⟩,mJ _ h _ gq ⟨s,ks,rfl⟩,mJ _ h _ gq ⟨s,ks,rfl⟩,mJ _ h _ gq ⟨s,ks,rfl⟩⟩
 |num a=>exact(show decide (("num":Str)="rec")=false/\decide (("num":Str)="case")=false/\decide (("num":Str)="fn")=false/\decide (("num":Str)="let")=false from by decide+kernel)
 |name a=>exact(show decide (("name":Str)="rec")=false/\decide (("name":Str)="case")=false/\decide (("name":Str)="fn")=false/\decide (("name":Str)="let")=false from by decide+kernel)
 |fn a b=>exact(show decide (("fn":Str)="rec")=false/\decide (("fn":Str)="case")=false/\decide (("fn":Str)="fn")=true/\decide (("fn":Str)="let")=false from by decide+kernel)
 |tag a b=>exact(show decide (("tag":Str)="rec")=false/\decide (("tag":Str)="case")=false/\decide (("tag":Str)="fn")=false/\decide (("tag":Str)="let")=false from by decide+kernel)
 |lt a b c=>exact(show decide (("let":Str)="rec")=false/\decide (("let":Str)="case")=false/\decide (("let":Str)="fn")=false/\decide (("let":Str)="let")=true from by decide+kernel)
 |get a b=>exact(show decide (("get":Str)="rec")=false/\decide (("get":Str)="case")=false/\decide (("get":Str)="fn")=false/\decide (("get":Str)="let")=false from by decide+kernel)
 |rcd a=>exact(show decide (("rec":Str)="rec")=true/\decide (("rec":Str)="case")=false/\decide (("rec":Str)="fn")=false/\decide (("rec":Str)="let")=false from by decide+kernel)
 |case a b=>exact(show decide (("case":Str)="rec")=false/\decide (("case":Str)="case")=true/\decide (("case":Str)="fn")=false/\decide (("case":Str)="let")=false from by decide+kernel)
 |row a=>exact(show decide (("row":Str)="rec")=false/\decide (("row":Str)="case")=false/\decide (("row":Str)="fn")=false/\decide (("row":Str)="let")=false from by decide+kernel)
theorem wL {a:Addr} {te:TE} {Q:VK} {τ:St} {H1:Hp} {D:Addr} {xs:List V} {α:Type} {f:α->Dt} {g:α->Str} {l:List α} (e:H1 a=some (.tup xs)) (I:Ims H1 xs (l.map f)) (hn:l.length<=100) (hD:H1 D=none) (hτ:τ.set 0 none=τ)
  (ht:∀(x:α) (v:V) H (R:VK),Im H v (f x)->R (.str (g x)) H->te (τ.set 0 (some v)) H R)
  (hq:∀H',fW H1 H'->H' D=some (.lst ((l.map g).map V.str))->Q (.ref D) H'):LcP (Itt K a) 0 p6 te Q τ H1 D:=by
 have sl:=sizeLine_eq
 have lx:=I.length
 rw[aC]at lx
 refine zj l.length (by lia) (fun ys H=>ys=((l.take ys.length).map g).map V.str) (fun xs H H' h _=>h) hD hτ (fun k H S h=>zk e S (by lia)) (fun H S=>by rw[<-lx];exact zl e S) rfl ?_ ?_
 ·intro k H v H3 ys Z S hk y hys hl hz
  obtain⟨rfl,hv⟩:=y
  have hv:=hv _ (SqT.of (S _ _ e))
  obtain⟨d,hd,him⟩:=kz I hv
  rw[aM]at hd
  obtain⟨x,hx⟩:∃x,l[k]?=some x:=⟨_,bz hk⟩
  rw[hx]at hd
  cases hd
  refine ht x v H3 Z (him.mono (fW.tk S)) (hz _ _ (fW.refl _) ?_)
  rw[aO,hl,ba,bY,hx,bh,bh,<-hl,<-hys]
  rfl
 ·intro H' ys S hys hl e'
  rw[hl,br]at hys
  exact hq H' S (by rw[e',hys])
def sP:Sp:=fun vs H Q _=>∃(t:Addr) (ρ:Ro),vs=[.ref t]/\Im H (.ref t) ρ.d/\ρ.ok/\∀l H',fW H H'->H l=none->H' l=some (.lst (ρ.ws.map V.str))->Q (.ref l) H'
theorem sQ (T:Txt K mg):FO P w base 1 T.d20 sP:=by
 refine T.d20.F.rd sN fun cdv A outer s H vs Q E hr h=>?_
 obtain⟨t,ρ,rfl,hi,ho,q⟩:=h
 refine⟨_,(fA (gL (gz kF (fV fX (cv 0) fF) fQ)
   (fG (f7 (uh rfl (DZ (x:="field") rfl gq gq rfl rfl) (pO (fV fX (cv 0) fF)) (fun _ _ _ _ _=>mL) (fun _ _ _ _ _=>(fV fX (cv 0) fF)))))
   gm)
  (fA (gL (gz kF (fV fX (cv 0) fF) fQ)
   (fG (f7 (uh rfl (DZ (x:="arm") rfl gq gq rfl rfl) (pO (fV fX (cv 0) fF)) (fun _ _ _ _ _=>mL) (fun _ _ _ _ _=>(fV fX (cv 0) fF)))))
   gm)
  (fG (f7 (gA fD))))),?_⟩
 have sl:=sizeLine_eq
 obtain⟨h1,h2,_,_⟩:=ρ.hd ho
 cases hi with
 |@tup _ ys _ et hs=>
  cases hs with
  |@cons y _ ys _ hy hs=>
   cases hy
   refine⟨_,et,fN (fH (j:=0) rfl) ?_⟩
   dsimp only[tC,cEq,onB]
   rw[eT,h1]
   have non:ρ.ws=[]->(E9 (FJ Ar) {nx:=fun _ H'=>Q .non H',rt:=Q}:St->Hp->Prop) [some (.ref t)] H:=fun e=>⟨n6,fun l hl=>q l _ (fE hl _) hl (by rw[fC,e];rfl)⟩
   cases ρ with
   |rcd l=>
    refine jm ?_
    cases hs with
    |cons hx _=>
     cases hx with
     |@tup ta xs _ eta hxs=>
      refine⟨_,et,fN (fH (j:=1) rfl) ⟨ta,rfl,⟨_,SqT.of eta⟩,fun D hD=>?_⟩⟩
      refine wL (f:=fdD) (g:=Prod.fst) eta hxs ho.1 hD rfl ?_ (fun H' S e=>q D H' S hD e)
      intro x v H2 R hv hR
      cases hv with
      |tup ev hvs=>
       cases hvs with
       |cons a _=>
        cases a
        exact⟨_,ev,fN (fH (j:=0) rfl) hR⟩
   |case k l=>
    refine iO ⟨_,et,fN (fH (j:=0) rfl) ?_⟩
    dsimp only[tC,cEq,onB]
    rw[eT,h2]
    refine jm ?_
    cases hs with
    |cons _ hs=>
     cases hs with
     |cons hx _=>
      cases hx with
      |@tup ta xs _ eta hxs=>
       refine⟨_,et,fN (fH (j:=2) rfl) ⟨ta,rfl,⟨_,SqT.of eta⟩,fun D hD=>?_⟩⟩
       refine wL (f:=amD) (g:=Prod.fst) eta hxs ho.1 hD rfl ?_ (fun H' S e=>q D H' S hD e)
       intro x v H2 R hv hR
       cases hv with
       |tup ev hvs=>
        cases hvs with
        |cons a _=>
         cases a
         exact⟨_,ev,fN (fH (j:=0) rfl) hR⟩
   |_=>
    refine iO ⟨_,et,fN (fH (j:=0) rfl) ?_⟩
    dsimp only[tC,cEq,onB]
    rw[eT,h2]
    exact iO (non rfl)
def exG (g:Str->Option Hm):Option (Str×Hm)->(Str->Option Hm)
 |none=>g
 |some (x,h)=>wid g x h
def Ro.ex:Ro->List (Option (Str×Hm))
 | .fn w k=>[some (w,("fn",k))]
 | .lt w a _=>[none,some (w,("let",a))]
 | .case _ l=>none::l.map fun p=>some (p.2.1,("arm",p.2.2))
 |ρ=>ρ.pl.map fun _=>none
theorem Sc.le {H:Hp} {a:Addr} {g:Str->Option Hm} {n m:Nat} (h:Sc H a g n) (l:n<=m):Sc H a g m:=by
 obtain⟨kvs,e,l',h⟩:=h
 exact⟨kvs,e,cw l' l,h⟩
theorem Sc.upd {H:Hp} {a d:Addr} {g:Str->Option Hm} {n:Nat} {kv:List (Key×V)} {o:HO} (h:Sc H a g n) (e:H d=some (.dK kv)) (ne:a≠d):Sc (L2.Internal.upd H d o) a g n:=by
 obtain⟨kvs,e1,l,h⟩:=h
 refine⟨kvs,by rw[fO ne];exact e1,l,fun w=>?_⟩
 have:=h w
 cases hg:g w with
 |none=>rw[hg]at this;exact this
 |some z=>
  rw[hg]at this
  obtain⟨t,h1,h2⟩:=this
  exact⟨t,h1,by rw[fO (jX h2 e (fun z=>nomatch z))];exact h2⟩
theorem Sc.dk {H:Hp} {a:Addr} {g:Str->Option Hm} {n:Nat} (h:Sc H a g n):∃kv,H a=some (.dK kv):=by
 obtain⟨kvs,e,_⟩:=h
 exact⟨kvs,e⟩
theorem wM {kvs:List (Key×V)} {k:Key} (v:V) (hn:(kvs.map (·.1)).Nodup):((mK kvs k v).map (·.1)).Nodup:=by
 cases q:je kvs k with
 |none=>exact Cn v hn q
 |some x=>
  have e:(mK kvs k v).map (·.1)=kvs.map (·.1):=by
   unfold mK
   rw[kx,q]
   rw[gx (show(some x).isSome=true from rfl),bA]
   refine bS fun p _=>?_
   show(if p.1=k then(p.1,v)else p).1=p.1
   split<;>rfl
  rw[e]
  exact hn
theorem qC:∀(more kvs:List (Key×V)) (k:Key),(more.map (·.1)).Nodup->je (nL kvs more) k=match je more k with|some v=>some v|none=>je kvs k
 |[],kvs,k,_=>rfl
 |p::more,kvs,k,nd=>by
  obtain⟨h1,h2⟩:=aE.mp (show(p.1::more.map (·.1)).Nodup from nd)
  show je (nL (mK kvs p.1 p.2) more) k=_
  rw[qC more _ k h2]
  by_cases e:p.1=k
  ·rw[iW e]
   have:je more k=none:=by
    cases q:je more k with
    |none=>rfl
    |some x=>exact absurd (Cj q) (by rw[<-e];exact h1)
   rw[this]
   show je (mK kvs p.1 p.2) k=some p.2
   rw[hJ,gx e.symm]
  ·rw[iX e]
   cases q:je more k with
   |some x=>rfl
   |none=>
    show je (mK kvs p.1 p.2) k=je kvs k
    rw[hJ,fZ (fun z=>e z.symm)]
def InS (W:Addr->Prop) (H:Hp) (kvs:List (Key×V)) (ρ:Ro) (g:Str->Option Hm) (n:Nat):Prop:=∀c:Int,(je kvs (.inl c)=none/\c∉ρ.pl)\/∃(j:Nat) (e:Option (Str×Hm)) (a:Addr),W a/\ρ.pl[j]?=some c/\ρ.ex[j]?=some e/\je kvs (.inl c)=some (.ref a)/\Sc H a (exG g e) (n+ 1)
theorem Ez {x:Str} {A B u:TS} {D:qN} {σ:St} {H:Hp} {t:Addr} {ys:List V} {s:Str} {b:Bool} (hσ:σ[0]?=some (some (.ref t))) (et:H t=some (.tup (.str s::ys))) (hb:decide (s=x)=b) (k:if b=true then A {D with nx:=u D} σ H else B {D with nx:=u D} σ H):
  ym (Bo (cT (tOp (cEq false) (tOp Dw (cV 0) (tC (.int 0))) (tC (.str x)))) A B) u D σ H:=by
 show onV σ[0]? _
 rw[hσ]
 refine⟨_,et,fN (fH (j:=0) rfl) ?_⟩
 dsimp only[tC,cEq,onB]
 rw[eT,hb]
 exact k
theorem nU {x:Str} {A u:TS} {D:qN} {σ:St} {H:Hp} {t:Addr} {ys:List V} {s:Str} (hσ:σ[0]?=some (some (.ref t))) (et:H t=some (.tup (.str s::ys))) (hb:decide (s=x)=false) (k:u D σ H):
  ym (Bo (cT (tOp (cEq false) (tOp Dw (cV 0) (tC (.int 0))) (tC (.str x)))) A r9) u D σ H:=Ez hσ et hb (iO k)
theorem zO {x:Str} {A B u:TS} {D:qN} {σ:St} {H:Hp} {t:Addr} {ys:List V} {s:Str} (hσ:σ[0]?=some (some (.ref t))) (et:H t=some (.tup (.str s::ys))) (hb:decide (s=x)=true) (k:A {D with nx:=u D} σ H):
  ym (Bo (cT (tOp (cEq false) (tOp Dw (cV 0) (tC (.int 0))) (tC (.str x)))) A B) u D σ H:=Ez hσ et hb (jm k)
theorem Ro.pl_le (ρ:Ro) (h:ρ.ok):ρ.pl.length<=101:=by
 cases ρ with
 |rcd l=>show(l.map Prod.snd).length<=_;rw[aC];exact cw h.1 (by decide)
 |case k l=>show(k::l.map fun p=>p.2.2).length<=_;rw[az,aC];have:=h.1;lia
 |row ks=>exact cw h (by decide)
 |op s ks=>exact cw h.2 (by decide)
 |_=>simp[Ro.pl]
theorem zP {W:Addr->Prop} {H:Hp} {kvs:List (Key×V)} {ρ:Ro} {g:Str->Option Hm} {n:Nat} {a:Addr} (hW:W a) (hx:ρ.ex=ρ.pl.map fun _=>none) (hs:Sc H a g n) (hv:∀c:Int,je kvs (.inl c)=if c∈ρ.pl then some (.ref a)else none):InS W H kvs ρ g n:=by
 intro c
 by_cases h:c∈ρ.pl
 ·obtain⟨j,hj⟩:=b7.mp h
  exact .inr ⟨j,none,a,hW,hj,by rw[hx,aM,hj];rfl,by rw[hv c,gx h],hs.le (cC _)⟩
 ·exact .inl ⟨by rw[hv c,fZ h],h⟩
def qE:Sp:=fun vs H Q _=>∃(t a:Addr) (ρ:Ro) (g:Str->Option Hm) (n:Nat),vs=[.ref t,.ref a]/\Im H (.ref t) ρ.d/\ρ.ok/\Sc H a g n/\n<9000/\
 ∀d kvs H',fW H H'->H d=none->H' d=some (.dK kvs)->(kvs.map (·.1)).Nodup->kvs.length<=300->InS (fun b=>b=a\/H b=none) H' kvs ρ g n->Q (.ref d) H'
theorem qF (T:Txt K mg):FO P w base 7 T.d23 qE:=by
 have gD2:=oQ (P:=P) (w:=w) (base:=base) T
 have gD24:=rS (P:=P) (w:=w) (base:=base) T
 refine T.d23.F.rd jz fun cdv A outer s H vs Q E hr h=>?_
 have hu:=ue hr
 obtain⟨t,a,ρ,g,n,rfl,hi,ho,hsc,hn,q⟩:=h
 refine⟨_,(fA (pS (i:=2) jz.nd nK)
  (fA (iZ PassesOwn.never rfl (jh (pF T.d2 gD2 hr.m (fz (cv 0) fD))) (pN (i:=3) jz.nd)
   (fG (lK hu (cv 2) (cv 3) (cv 1) rfl)))
  (fA (gL (gz kF (fV fX (cv 0) fF) fQ)
   (fG (lK hu (cv 2) (fV fX (cv 0) fF) (pF T.d24 gD24 hr.m (fz (cv 1) (fz (fV fX (cv 0) fF) (fz (gC (fz fQ (fz (fV fX (cv 0) fF) fD))) fD)))) rfl))
   gm)
  (fA (gL (gz kF (fV fX (cv 0) fF) fQ)
   (fG (lK hu (cv 2) (fV fX (cv 0) fF) (pF T.d24 gD24 hr.m (fz (cv 1) (fz (fV fX (cv 0) fF) (fz (gC (fz fQ (fz (fV fX (cv 0) fF) fD))) fD)))) rfl))
   gm)
  (fA (gL (gz kF (fV fX (cv 0) fF) fQ)
   (fG (iZ PassesOwn.never rfl (pO (fV fX (cv 0) fF)) (pN (i:=4) jz.nd)
    (fG (lK hu (cv 2) (fV fX (cv 4) fF) (pF T.d24 gD24 hr.m (fz (cv 1) (fz (fV fX (cv 4) fF) (fz (gC (fz fQ (fz (fV fX (cv 4) fF) fD))) fD)))) rfl))))
   gm)
  (fG (f7 (cv 2)))))))),?_⟩
 have sl:=sizeLine_eq
 obtain⟨_,h2,h3,h4⟩:=ρ.hd ho
 have lp:=ρ.pl_le ho
 intro d hd
 have s1:=fE hd (.dK [])
 have ed:(upd H d (.dK [])) d=some (.dK []):=fC
 dsimp only[gJ]
 generalize upd H d (.dK [])=H1 at s1 ed⊢
 have nad:a≠d:=by
  obtain⟨kv,e⟩:=hsc.dk
  exact fJ e hd
 refine⟨t,ρ,rfl,hi.mono (fW.tk s1),ho,fun l H1' S1 hl e1=>⟨l,rfl,⟨_,SqL.of e1⟩,jo (xs:=ρ.pl.map V.int) (fun i σ H2=>∃(o:Option V) (kvs:List (Key×V)),σ=[some (.ref t),some (.ref a),some (.ref d),o,none]/\fW H H2/\H2 l=some (.lst (ρ.pl.map V.int))/\H2 d=some (.dK kvs)/\(kvs.map (·.1)).Nodup/\kvs.length<=i/\∀c:Int,je kvs (.inl c)=if c∈ρ.pl.take i then some (.ref a)else none)
  ⟨none,[],rfl,s1.trans S1,e1,S1 _ _ ed,b6,cA _,fun c=>by rw[List.take_zero,fZ bB];rfl⟩ (fun i σ H2 _ ⟨_,_,_,_,e,_⟩=>SqL.of e) ?_ ?_⟩⟩
 ·rintro i v σ H2 hv ⟨o,kvs,rfl,S,el,ek,nd,hk,hc⟩
  rw[aM]at hv
  obtain⟨c,hcc,rfl⟩:=da.mp hv
  have hi:=(au.mp hcc).1
  have nld:l≠d:=(fJ ed hl).symm
  refine⟨d,_,rfl,xH.k (k:=Sum.inl c) ek (by lia),_,_,rfl,gB S hd _,by rw[fO nld];exact el,fC,wM _ nd,cw (ij _ _ _) (by lia),fun c'=>?_⟩
  rw[hJ,bY,hcc]
  by_cases z:c'=c
  ·rw[gx (by rw[z]),gx (by simp[z])]
  ·rw[fZ (fun y=>z (by injection y)),hc c']
   simp[z]
 ·rintro σ H2 ⟨o,kvs,rfl,S,el,ek,nd,hk,hc⟩
  rw[aC,br]at hc
  rw[aC]at hk
  have hi2:=hi
  have hsc2:=hsc.same S
  have fin:∀{o3 o4:Option V} {H3:Hp} {kvs:List (Key×V)},fW H H3->H3 d=some (.dK kvs)->(kvs.map (·.1)).Nodup->kvs.length<=300->InS (fun b=>b=a\/H b=none) H3 kvs ρ g n->(E9 (cV 2) {nx:=fun _ H'=>Q .non H',rt:=Q}:St->Hp->Prop) [some (.ref t),some (.ref a),some (.ref d),o3,o4] H3:=fun S3 e3 n3 l3 i3=>q d _ _ S3 hd e3 n3 l3 i3
  cases hi2 with
  |@tup _ ys _ et0 hs=>
   have et:=S _ _ et0
   cases hs with
   |@cons y _ ys _ hy hs=>
    cases hy
    dsimp only
    cases ρ with
    |fn x k=>
     cases hs with
     |cons a1 hs=>
      cases hs with
      |cons a2 hs=>
       cases a1;cases a2;cases hs
       refine zO rfl et h3 ⟨_,et,fN (fH (j:=1) rfl) ⟨_,et,fN (fH (j:=2) rfl) ⟨my,fun p hp=>?_⟩⟩⟩
       have sp:=fE hp (.tup [.str "fn",.int k])
       refine⟨a,p,g,n,x,("fn",k),rfl,hsc2.same sp,by lia,fC,fun b H4 S4 hb sc4=>?_⟩
       have S24:=sp.trans S4
       refine⟨_,S24 _ _ et,fN (fH (j:=2) rfl) ⟨d,_,rfl,xH.k (k:=Sum.inl k) (S24 _ _ ek) (by lia),?_⟩⟩
       have nbd:b≠d:=(fJ (sp _ _ ek) hb).symm
       have et5:(upd H4 d (.dK (mK kvs (Sum.inl k) (.ref b)))) t=some (.tup (.str "fn"::[.str x,.int k])):=by rw[fO (jX (S24 _ _ et) (S24 _ _ ek) (fun z=>nomatch z))];exact S24 _ _ et
       dsimp only
       refine nU rfl et5 h4 (nU rfl et5 h2 (fin (gB (S.trans S24) hd _) fC (wM _ nd) (cw (ij _ _ _) (by lia)) fun c=>?_))
       by_cases z:c=k
       ·exact .inr ⟨0,_,b,.inr ((S.trans sp).free hb),by rw[z];rfl,rfl,by rw[hJ,gx (by rw[z])],sc4.upd (S24 _ _ ek) nbd⟩
       ·exact .inl ⟨by rw[hJ,fZ (fun y=>z (by injection y)),hc c,fZ (by simpa[Ro.pl]using z)],by simpa[Ro.pl]using z⟩
    |lt x k1 k2=>
     refine nU rfl et h3 ?_
     cases hs with
     |cons a1 hs=>
      cases hs with
      |cons a2 hs=>
       cases hs with
       |cons a3 hs=>
        cases a1;cases a2;cases a3;cases hs
        refine zO rfl et h4 ⟨_,et,fN (fH (j:=1) rfl) ⟨_,et,fN (fH (j:=2) rfl) ⟨my,fun p hp=>?_⟩⟩⟩
        have sp:=fE hp (.tup [.str "let",.int k1])
        refine⟨a,p,g,n,x,("let",k1),rfl,hsc2.same sp,by lia,fC,fun b H4 S4 hb sc4=>?_⟩
        have S24:=sp.trans S4
        refine⟨_,S24 _ _ et,fN (fH (j:=3) rfl) ⟨d,_,rfl,xH.k (k:=Sum.inl k2) (S24 _ _ ek) (by lia),?_⟩⟩
        have nbd:b≠d:=(fJ (sp _ _ ek) hb).symm
        have et5:(upd H4 d (.dK (mK kvs (Sum.inl k2) (.ref b)))) t=some (.tup (.str "let"::[.str x,.int k1,.int k2])):=by rw[fO (jX (S24 _ _ et) (S24 _ _ ek) (fun z=>nomatch z))];exact S24 _ _ et
        dsimp only
        refine nU rfl et5 h2 (fin (gB (S.trans S24) hd _) fC (wM _ nd) (cw (ij _ _ _) (by lia)) fun c=>?_)
        by_cases z:c=k2
        ·exact .inr ⟨1,_,b,.inr ((S.trans sp).free hb),by rw[z];rfl,rfl,by rw[hJ,gx (by rw[z])],sc4.upd (S24 _ _ ek) nbd⟩
        ·by_cases z1:c=k1
         ·exact .inr ⟨0,_,a,.inl rfl,by rw[z1];rfl,rfl,by rw[hJ,fZ (fun y=>z (by injection y)),hc c,gx (by simp[Ro.pl,z1])],((hsc2.same S24).upd (S24 _ _ ek) nad).le (cC _)⟩
         ·exact .inl ⟨by rw[hJ,fZ (fun y=>z (by injection y)),hc c,fZ (by simp[Ro.pl,z,z1])],by simp[Ro.pl,z,z1]⟩
    |case k0 l=>
     refine nU rfl et h3 (nU rfl et h4 ?_)
     cases hs with
     |cons a1 hs=>
      cases hs with
      |cons a2 hs=>
       cases a1;cases hs
       cases a2 with
       |@tup ta xs _ eta hxs=>
        have lx:=hxs.length
        rw[aC]at lx
        have hl100:l.length<=100:=ho.1
        refine zO rfl et h2 ⟨_,et,fN (fH (j:=2) rfl) ⟨ta,rfl,⟨_,SqT.of (S _ _ eta)⟩,ve (xs:=xs) (fun i σ H3=>∃(o4:Option V) (kvs:List (Key×V)),σ=[some (.ref t),some (.ref a),some (.ref d),o,o4]/\fW H H3/\H3 d=some (.dK kvs)/\(kvs.map (·.1)).Nodup/\kvs.length<=101+i/\∀c:Int,(∃(j:Nat) (p:Str×Str×Int) (b:Addr),j<i/\l[j]?=some p/\p.2.2=c/\je kvs (.inl c)=some (.ref b)/\(b≠d/\H b=none)/\Sc H3 b (wid g p.2.1 ("arm",c)) (n+ 1))\/((∀(j:Nat) (p:Str×Str×Int),j<i->l[j]?=some p->p.2.2≠c)/\je kvs (.inl c)=if c∈(Ro.case k0 l).pl then some (.ref a)else none))
         ⟨none,kvs,rfl,S,ek,nd,by lia,fun c=> .inr ⟨fun j p hj=>absurd hj (cO _),hc c⟩⟩ (fun i σ H3 _ ⟨_,_,_,S3,_⟩=>SqT.of (S3 _ _ eta)) ?_ ?_⟩⟩
        ·rintro i v σ H3 hv ⟨o4,kvs,rfl,S3,ek,nd,hk,hc⟩
         obtain⟨dd,hdd,him⟩:=kz hxs hv
         rw[aM]at hdd
         obtain⟨⟨tg,x,kk⟩,hp,rfl⟩:=da.mp hdd
         have hi:=(au.mp hp).1
         cases him with
         |@tup tb _ _ eb hb=>
          cases hb with
          |cons b1 hb=>
           cases hb with
           |cons b2 hb=>
            cases hb with
            |cons b3 hb=>
             cases b1;cases b2;cases b3;cases hb
             refine⟨_,S3 _ _ eb,fN (fH (j:=1) rfl) ⟨_,S3 _ _ eb,fN (fH (j:=2) rfl) ⟨my,fun p hp'=>?_⟩⟩⟩
             have sp:=fE hp' (.tup [.str "arm",.int kk])
             refine⟨a,p,g,n,x,("arm",kk),rfl,(hsc.same S3).same sp,by lia,fC,fun b H4 S4 hb sc4=>?_⟩
             have S34:=sp.trans S4
             refine⟨_,S34 _ _ (S3 _ _ eb),fN (fH (j:=2) rfl) ⟨d,_,rfl,xH.k (k:=Sum.inl kk) (S34 _ _ ek) (by lia),?_⟩⟩
             have nbd:b≠d:=(fJ (sp _ _ ek) hb).symm
             refine⟨_,_,rfl,gB (S3.trans S34) hd _,fC,wM _ nd,cw (ij _ _ _) (by lia),fun c=>?_⟩
             by_cases z:c=kk
             ·exact .inl ⟨i,_,b,cB _,hp,z.symm,by rw[hJ,gx (by rw[z])],⟨nbd,(S3.trans sp).free hb⟩,by rw[z];exact sc4.upd (S34 _ _ ek) nbd⟩
             ·rcases hc c with⟨j,p,b',c1,c2,c3,c4,c5,c6⟩|⟨c1,c2⟩
              ·exact .inl ⟨j,p,b',cE c1,c2,c3,by rw[hJ,fZ (fun y=>z (by injection y))];exact c4,c5,(c6.same S34).upd (S34 _ _ ek) c5.1⟩
              ·refine .inr ⟨fun j p hj hp2=>?_,by rw[hJ,fZ (fun y=>z (by injection y))];exact c2⟩
               by_cases e:j=i
               ·rw[e,hp]at hp2
                cases hp2
                exact fun y=>z y.symm
               ·exact c1 j p (by lia) hp2
        ·rintro σ H3 ⟨o4,kvs,rfl,S3,ek,nd,hk,hc⟩
         refine fin (o3:=o) (o4:=o4) S3 ek nd (by lia) fun c=>?_
         rcases hc c with⟨j,p,b',c1,c2,c3,c4,c5,c6⟩|⟨c1,c2⟩
         ·refine .inr ⟨j+ 1,some (p.2.1,("arm",p.2.2)),b',.inr c5.2,?_,?_,c4,?_⟩
          ·show(k0::l.map fun p=>p.2.2)[j+ 1]?=_
           rw[bC,aM,c2,<-c3]
           rfl
          ·show(none::l.map fun p=>some (p.2.1,(("arm":Str),p.2.2)))[j+ 1]?=_
           rw[bC,aM,c2]
           rfl
          ·rw[c3]
           exact c6
         ·by_cases z:c=k0
          ·exact .inr ⟨0,none,a,.inl rfl,by rw[z];rfl,rfl,by rw[c2,gx (by simp[Ro.pl,z])],(hsc.same S3).le (cC _)⟩
          ·have nm:c∉(Ro.case k0 l).pl:=fun hm=>by
            rcases ak.mp (show c∈(k0::l.map fun p=>p.2.2)from hm)with h|h
            ·exact z h
            ·obtain⟨p,hp,e⟩:=bb.mp h
             obtain⟨j,hj⟩:=b7.mp hp
             exact c1 j p (by rw[lx];exact(au.mp hj).1) hj e
           exact .inl ⟨by rw[c2,fZ nm],nm⟩
    |_=>
     exact nU rfl et h3 (nU rfl et h4 (nU rfl et h2 (fin S ek nd (by lia) (zP (.inl rfl) rfl hsc2 hc))))
theorem wN {K:PySem.W.Frag} {a:Addr} {xs:List V} {g:TG} {tb:TS} {D:qN} {σ:St} {H:Hp} (Pv:Nat->St->Hp->Prop) (h0:Pv 0 σ H) (hl:∀i σ H,i<=xs.length->Pv i σ H->SqL K H a xs)
  (hs:∀(i:Nat) (x:V) (σ:St) (H:Hp) (T:Addr),xs[i]?=some x->Pv i σ H->H T=none->g (.ref T) σ (upd H T (.tup [.int (i:Int),x])) fun σ2 H2=>tb {D with nx:=Pv (i+ 1),ct:=Pv (i+ 1),bk:=D.nx} σ2 H2) (hd:∀σ H,Pv xs.length σ H->D.nx σ H):
  ∃W:Nat->Nat->St->Hp->Prop,(∃m,W 0 m σ H)/\∀i m σ H,W i m σ H->
   ((Ite K a).stop i H/\D.nx σ H)\/((Ite K a).go i H/\∃N:St->Hp->Prop,(∀σ' H',N σ' H'->∃m',m'<m/\W (i+ 1) m' σ' H')/\∀x H',(Ite K a).yld i H x H'->g x σ H' fun σ2 H2=>tb {D with nx:=N,ct:=N,bk:=D.nx} σ2 H2):=by
 refine⟨fun i m σ H=>m=xs.length-i/\i<=xs.length/\Pv i σ H,⟨xs.length,by simp,cA _,h0⟩,?_⟩
 rintro i m σ H ⟨rfl,hi,p⟩
 have q:=hl i σ H hi p
 by_cases hlt:i<xs.length
 ·refine .inr ⟨⟨xs,xs[i],q,by simp[hlt]⟩,Pv (i+ 1),fun σ' H' p'=>⟨xs.length-(i+ 1),by lia,rfl,hlt,p'⟩,fun v H' y=>?_⟩
  obtain⟨T,x,rfl,hT,rfl,hx⟩:=y
  exact hs i x σ H T (hx xs q) p hT
 ·have e:i=xs.length:=by lia
  subst e
  exact .inl ⟨⟨xs,q,rfl⟩,hd σ H p⟩
theorem CO {f:Str} {v:V} {r:List (Str×V)}:aA f ((f,v)::r)=some v:=by
 rw[bj,show(f==f)=true by simp]
theorem CQ {f g:Str} {v:V} {r:List (Str×V)} (h:(f==g)=false):aA f ((g,v)::r)=aA f r:=by
 rw[bj,h]
def fP (n r w:Addr):List (Str×V):=[("names",.ref n),("roots",.ref r),("rows",.ref w)]
theorem wO (n r w:Addr):(fP n r w).lookup ("names":Str)=some (.ref n):=CO
theorem wQ (n r w:Addr):(fP n r w).lookup ("roots":Str)=some (.ref r):=(CQ gq).trans CO
theorem sR (n r w:Addr):(fP n r w).lookup ("rows":Str)=some (.ref w):=(CQ gq).trans ((CQ gq).trans CO)
def nI (k:Nat):V:= .int (k:Int)
structure PrA (C:Addr) (H:Hp) (p n r w dx:Addr) (xs:List V) (names:List Str) (roots:List Nat) (ρs:List Ro):Prop where
 o:H p=some (.ins C dx (fP n r w))
 n:H n=some (.lst (names.map V.str))
 r:H r=some (.lst (roots.map nI))
 w:H w=some (.lst xs)
 i:Ims H xs (ρs.map Ro.d)
theorem PrA.same {C:Addr} {H H':Hp} {p n r w dx:Addr} {xs:List V} {names:List Str} {roots:List Nat} {ρs:List Ro} (h:PrA C H p n r w dx xs names roots ρs) (s:fW H H'):PrA C H' p n r w dx xs names roots ρs:=⟨s _ _ h.o,s _ _ h.n,s _ _ h.r,s _ _ h.w,h.i.mono (fW.tk s)⟩
def G0 (names:List Str):Nat->(Str->Option Hm)
 |0=>fun _=>none
 |d+ 1=>match names[d]? with
  |some x=>wid (G0 names d) x ("def",(d:Int))
  |none=>G0 names d
structure As (names:List Str) (roots:List Nat) (ρs:List Ro) (out:Nat->Str->Option Hm):Prop where
 nn:names.Nodup
 nl:names.length<=12
 rl:roots.length=names.length
 ok:∀ρ∈ρs,ρ.ok
 pn:ρs.length<=1000
 rlt:∀(i r:Nat),roots[i]?=some r->r<ρs.length
 root:∀(i r:Nat) (ρ:Ro),roots[i]?=some r->ρs[r]?=some ρ->out r=if ρ.isF=true then G0 names (i+ 1)else G0 names i
 kid:∀(k:Nat) (ρ:Ro) (j:Nat) (c:Int) (e:Option (Str×Hm)),ρs[k]?=some ρ->ρ.pl[j]?=some c->ρ.ex[j]?=some e->∃m:Nat,c=(m:Int)/\k<m/\out m=exG (out k) e
 reach:∀k:Nat,k<ρs.length->(∃i:Nat,roots[i]?=some k)\/∃(k':Nat) (ρ:Ro),k'<k/\ρs[k']?=some ρ/\(k:Int)∈ρ.pl
 nm:∀(k:Nat) (x:Str),ρs[k]?=some (.name x)->∃h,out k x=some h
def duo (out:Nat->Str->Option Hm) (k:Nat):Ro->Option Hm
 | .name x=>out k x
 |_=>none
def hoD:Option Hm->Dt
 |none=> .flat .non
 |some h=>hmD h
theorem sS {H:Hp} {xs:List V} {ρs:List Ro} {k:Nat} {ρ:Ro} (h:Ims H xs (ρs.map Ro.d)) (e:ρs[k]?=some ρ):∃(t:Addr) (ys:List V),xs[k]?=some (.ref t)/\H t=some (.tup (.str ρ.s::ys))/\Ims H ys ρ.r/\Im H (.ref t) ρ.d:=by
 have lx:=h.length
 rw[aC]at lx
 have hk:=(au.mp e).1
 obtain⟨d,hd,him⟩:=kz h (bz (show k<xs.length by lia))
 rw[aM,e]at hd
 cases hd
 have h0:xs[k]?=some xs[k]:=bz (by lia)
 generalize xs[k]=v at h0 him
 have him':=him
 cases him with
 |@tup t ys _ et hs=>
  cases hs with
  |cons a hs=>
   cases a
   exact⟨t,_,h0,et,hs,him'⟩
def qV (C:Addr):Sp:=fun vs H Q _=>∃(p n r w dx:Addr) (xs:List V) (names:List Str) (roots:List Nat) (ρs:List Ro) (out:Nat->Str->Option Hm),vs=[.ref p]/\PrA C H p n r w dx xs names roots ρs/\As names roots ρs out/\
 ∀d kvs H',fW H H'->H d=none->H' d=some (.dK kvs)->kvs.length<=12->(∀(i c:Nat),roots[i]?=some c->∃a,a≠d/\je kvs (.inl (c:Int))=some (.ref a)/\Sc H' a (out c) 20)->Q (.ref d) H'
theorem qW (T:Txt K mg):FO P w base 2 T.d22 (qV T.c7.a):=by
 have gD24:=rS (P:=P) (w:=w) (base:=base) T
 refine T.d22.F.rd gX fun cdv A outer s H vs Q E hr h=>?_
 have hu:=ue hr
 obtain⟨p,n,r,w,dx,xs,names,roots,ρs,out,rfl,pr,gd,q⟩:=h
 refine⟨_,(fA (pS (i:=1) gX.nd nK)
  (fA (pS (i:=2) gX.nd nK)
  (fA (iZ PassesOwn.never rfl (vq rfl T.z_enumerate (fz (gu T.c7.cl T.n7names (cv 0)) fD)) (yx rfl (mh (pN (i:=3) gX.nd) (mh (pN (i:=4) gX.nd) vd)))
   (fA (pS (i:=5) gX.nd (fV fY (gu T.c7.cl T.n7roots (cv 0)) (cv 3)))
   (fA (pS (i:=6) gX.nd (pF T.d24 gD24 hr.m (fz (cv 2) (fz (cv 4) (fz (gC (fz fQ (fz (cv 3) fD))) fD)))))
   (fA (lK hu (cv 1) (cv 5) (r8 (gz kF (fV fX (fV fY (gu T.c7.cl T.n7rows (cv 0)) (cv 5)) fF) fQ) (cv 6) (cv 2)) rfl)
   (fG (pS (i:=2) gX.nd (cv 6)))))))
  (fG (f7 (cv 1)))))),?_⟩
 have sl:=sizeLine_eq
 intro d hd
 have s1:=fE hd (.dK [])
 have ed:(upd H d (.dK [])) d=some (.dK []):=fC
 dsimp only[gJ]
 generalize upd H d (.dK [])=H1 at s1 ed⊢
 intro ae hae
 have s2:=fE hae (.dK [])
 have ea:(upd H1 ae (.dK [])) ae=some (.dK []):=fC
 dsimp only[gJ]
 generalize upd H1 ae (.dK [])=H2 at s2 ea⊢
 have nad:ae≠d:=(fJ ed hae).symm
 have pr2:=pr.same (s1.trans s2)
 have nl:=gd.nl
 refine⟨_,⟨dx,_,pr2.o,wO _ _ _⟩,n,rfl,⟨_,SqL.of pr2.n⟩,wN (xs:=names.map V.str) (fun i σ H3=>∃(o3 o4 o5 o6:Option V) (ae:Addr) (kvs:List (Key×V)),σ=[some (.ref p),some (.ref d),some (.ref ae),o3,o4,o5,o6]/\fW H H3/\H3 d=some (.dK kvs)/\kvs.length<=i/\ae≠d/\Sc H3 ae (G0 names i) i/\∀(i' c:Nat),i'<i->roots[i']?=some c->∃a,a≠d/\je kvs (.inl (c:Int))=some (.ref a)/\Sc H3 a (out c) 20)
  ⟨none,none,none,none,ae,[],rfl,s1.trans s2,s2 _ _ ed,cz _,nad,⟨[],ea,cz _,fun w=>rfl⟩,fun i' c h=>absurd h (cO _)⟩ (fun i σ H3 _ ⟨_,_,_,_,_,_,_,S,_⟩=>SqL.of (S _ _ pr.n)) ?_ ?_⟩
 ·rintro i v σ H3 t hx ⟨o3,o4,o5,o6,ae,kvs,rfl,S,ek,hk,nad,sca,hroots⟩ ht
  rw[aM]at hx
  obtain⟨x,hx',rfl⟩:=da.mp hx
  clear hx
  have hx:=hx'
  have hi:=(au.mp hx).1
  have rl:=gd.rl
  obtain⟨c,hc⟩:∃c,roots[i]?=some c:=⟨_,bz (by lia)⟩
  have hcl:=gd.rlt i c hc
  obtain⟨ρ,hρ⟩:∃ρ,ρs[c]?=some ρ:=⟨_,bz hcl⟩
  have sT:=fE ht (.tup [.int (i:Int),.str x])
  refine⟨t,_,rfl,SqT.of fC,rfl,_,_,rfl,_,_,rfl,rfl,?_⟩
  have S4:=S.trans sT
  generalize upd H3 t (.tup [.int (i:Int),.str x])=H4 at sT S4
  have pr4:=pr.same S4
  have hcI:(roots.map nI)[i]?=some (.int (c:Int)):=by rw[aM,hc];rfl
  refine⟨_,⟨dx,_,pr4.o,wQ _ _ _⟩,_,pr4.r,fN (fH hcI) ?_⟩
  refine⟨my,fun pp hpp=>?_⟩
  have s5:=fE hpp (.tup [.str "def",.int (i:Int)])
  refine⟨ae,pp,G0 names i,i,x,("def",(i:Int)),rfl,(sca.same sT).same s5,by lia,fC,fun b H6 S6 hb sc6=>?_⟩
  have S36:=(sT.trans s5).trans S6
  have SH6:=S.trans S36
  have pr6:=pr.same SH6
  obtain⟨tr,ys,hxt,etr,_,_⟩:=sS pr6.i hρ
  refine⟨_,⟨dx,_,pr6.o,sR _ _ _⟩,_,pr6.w,fN (fH hxt) ⟨_,etr,fN (fH (j:=0) rfl) ?_⟩⟩
  dsimp only[tC,cEq,onB]
  obtain⟨_,_,h3,_⟩:=ρ.hd (gd.ok ρ (aN hρ))
  rw[eT,h3]
  have nbd:b≠d:=(fJ (s5 _ _ (sT _ _ ek)) hb).symm
  have g1:G0 names (i+ 1)=wid (G0 names i) x ("def",(i:Int)):=by rw[G0,hx]
  have hout:=gd.root i c ρ hc hρ
  have nx:∀z:Addr,z≠d->Sc H6 z (out c) 20->∃(a:Addr) (H':Hp),V.ref d= .ref a/\xH H6 a (.int (c:Int)) (.ref z) H'/\∃(o3 o4 o5 o6:Option V) (ae:Addr) (kvs:List (Key×V)),[some (V.ref p),some (.ref d),some (.ref b),some (.int (i:Int)),some (.str x),some (.int (c:Int)),some (.ref b)]=[some (V.ref p),some (.ref d),some (.ref ae),o3,o4,o5,o6]/\fW H H'/\H' d=some (.dK kvs)/\kvs.length<=i+ 1/\ae≠d/\Sc H' ae (G0 names (i+ 1)) (i+ 1)/\∀(i' c:Nat),i'<i+ 1->roots[i']?=some c->∃a,a≠d/\je kvs (.inl (c:Int))=some (.ref a)/\Sc H' a (out c) 20:=fun z nzd hz=>by
   have e6:=S36 _ _ ek
   refine⟨d,_,rfl,xH.k (k:=Sum.inl (c:Int)) e6 (by lia),_,_,_,_,b,_,rfl,gB SH6 hd _,fC,cw (ij _ _ _) (by lia),nbd,by rw[g1];exact sc6.upd e6 nbd,fun i' c' hi' hc'=>?_⟩
   by_cases y:c'=c
   ·rw[y]
    exact⟨z,nzd,by rw[hJ,gx rfl],hz.upd e6 nzd⟩
   ·have:i'≠i:=fun z=>y (by rw[z,hc]at hc';exact(cX.inj hc').symm)
    obtain⟨a,h1,h2,h3⟩:=hroots i' c' (by lia) hc'
    exact⟨a,h1,by rw[hJ,fZ (fun z=>y (by injection z with z;lia))];exact h2,(h3.same S36).upd e6 h1⟩
  cases hF:ρ.isF with
  |true=>
   rw[hF,gx rfl,g1]at hout
   exact jm (nx b nbd (by rw[hout];exact sc6.le (by lia)))
  |false=>
   rw[hF,fZ eP]at hout
   exact iO (nx ae nad (by rw[hout];exact(sca.same S36).le (by lia)))
 ·rintro σ H3 ⟨o3,o4,o5,o6,ae,kvs,rfl,S,ek,hk,nad,sca,hroots⟩
  rw[aC]at hk hroots
  refine q d kvs H3 S hd ek (by lia) fun i c hc=>?_
  have rl:=gd.rl
  exact hroots i c (by have:=(au.mp hc).1;lia) hc
def HoA (H:Hp) (xs:List V) (ρs:List Ro) (out:Nat->Str->Option Hm):Prop:=∀(k:Nat) (x:V) (ρ:Ro),xs[k]?=some x->ρs[k]?=some ρ->Im H x (hoD (duo out k ρ))
theorem Ro.nm_ne (ρ:Ro) (h:ρ.ok) (hn:∀x,ρ≠ .name x):ρ.s≠"name":=by
 cases ρ with
 |name x=>exact absurd rfl (hn x)
 |op s ks=>exact of_decide_eq_false (mJ _ h "name" gq ⟨s,ks,rfl⟩)
 |num a=>exact(show("num":Str)≠"name" from by decide+kernel)
 |fn a b=>exact(show("fn":Str)≠"name" from by decide+kernel)
 |tag a b=>exact(show("tag":Str)≠"name" from by decide+kernel)
 |lt a b c=>exact(show("let":Str)≠"name" from by decide+kernel)
 |get a b=>exact(show("get":Str)≠"name" from by decide+kernel)
 |rcd a=>exact(show("rec":Str)≠"name" from by decide+kernel)
 |case a b=>exact(show("case":Str)≠"name" from by decide+kernel)
 |row a=>exact(show("row":Str)≠"name" from by decide+kernel)
theorem Bi {H H7:Hp} {ρ:Ro} {zs:List V} {out:Nat->Str->Option Hm} {i:Nat} {Qx:VK} (rok:ρ.ok) (hzs:Ims H zs ρ.r) (hn:∀x,ρ= .name x->∃h,out i x=some h) (key:∀y,Im H7 y (hoD (duo out i ρ))->Qx y H7):
  (ρ.s≠"name"->Qx .non H7)/\(ρ.s="name"->∃(x:Str) (h:Hm),zs=[.str x]/\out i x=some h/\∀p,H7 p=some (.tup [.str h.1,.int h.2])->Qx (.ref p) H7):=by
 have no:(∀x,ρ≠ .name x)->duo out i ρ=none->(ρ.s≠"name"->Qx .non H7)/\(ρ.s="name"->∃(x:Str) (h:Hm),zs=[.str x]/\out i x=some h/\∀p,H7 p=some (.tup [.str h.1,.int h.2])->Qx (.ref p) H7):=fun h e=>⟨fun _=>key _ (by rw[e];exact .flat rfl),fun z=>absurd z (ρ.nm_ne rok h)⟩
 cases ρ with
 |name x=>
  refine⟨fun z=>absurd rfl z,fun _=>?_⟩
  obtain⟨h,hh⟩:=hn x rfl
  cases hzs with
  |cons a b=>
   cases a;cases b
   refine⟨x,h,rfl,hh,fun p hp=>key _ ?_⟩
   show Im H7 _ (hoD (out i x))
   rw[hh]
   exact .tup hp (.cons (.flat rfl) (.cons (.flat rfl) .nil))
 |_=>exact no (fun x z=>nomatch z) rfl
theorem zQ {H H7:Hp} {ρ:Ro} {zs:List V} {out:Nat->Str->Option Hm} {i:Nat} {Qx:VK} {E:XK} {t a:Addr} {n:Nat} {σ:St} (rok:ρ.ok) (hzs:Ims H zs ρ.r) (hn:∀x,ρ= .name x->∃h,out i x=some h) (et:H7 t=some (.tup (.str ρ.s::zs))) (sc:Sc H7 a (out i) n) (h4:σ[4]?=some (some (.ref t))) (h3:σ[3]?=some (some (.int (i:Int)))) (h5:σ[5]?=some (some (.ref a))) (key:∀y,Im H7 y (hoD (duo out i ρ))->Qx y H7):
  Ca rT [] E (qO (cV 4) (qO (cV 3) (qO (cV 5) Ar))) σ H7 Qx:=by
 show onV σ[4]? _
 rw[h4]
 show onV σ[3]? _
 rw[h3]
 show onV σ[5]? _
 rw[h5]
 exact⟨t,a,(i:Int),out i,n,ρ.s,zs,rfl,et,sc,Bi rok hzs hn key⟩
theorem BK {H:Hp} {l:Addr} {u o:HO} (e:H l=some u) (nt:∀zs,u≠ .tup zs):TK H (upd H l o):=fun a xs q=>by rw[fO (jX q e (fun z=>nt _ z.symm))];exact q
theorem Sc.updL {H:Hp} {a l:Addr} {g:Str->Option Hm} {n:Nat} {ys:List V} {o:HO} (h:Sc H a g n) (e:H l=some (.lst ys)):Sc (L2.Internal.upd H l o) a g n:=by
 obtain⟨kvs,e1,l',h⟩:=h
 refine⟨kvs,by rw[fO (jX e1 e (fun z=>nomatch z))];exact e1,l',fun w=>?_⟩
 have:=h w
 cases hg:g w with
 |none=>rw[hg]at this;exact this
 |some z=>
  rw[hg]at this
  obtain⟨t,h1,h2⟩:=this
  exact⟨t,h1,by rw[fO (jX h2 e (fun z=>nomatch z))];exact h2⟩
def vH (C:Addr):Sp:=fun vs H Q _=>∃(p n r w dx:Addr) (xs:List V) (names:List Str) (roots:List Nat) (ρs:List Ro) (out:Nat->Str->Option Hm),vs=[.ref p]/\PrA C H p n r w dx xs names roots ρs/\As names roots ρs out/\
 ∀l ys H',fW H H'->H l=none->H' l=some (.lst ys)->ys.length=ρs.length->HoA H' ys ρs out->Q (.ref l) H'
theorem vI (T:Txt K mg):FO P w base 8 T.d18 (vH T.c7.a):=by
 have gD19:=qB (P:=P) (w:=w) (base:=base) T
 have gD22:=qW (P:=P) (w:=w) (base:=base) T
 have gD20:=sQ (P:=P) (w:=w) (base:=base) T
 have gD21:=yi (P:=P) (w:=w) (base:=base) T
 have gD23:=qF (P:=P) (w:=w) (base:=base) T
 refine T.d18.F.rd jF fun cdv A outer s H vs Q E hr h=>?_
 have hu:=ue hr
 obtain⟨p,n,r,w,dx,xs,names,roots,ρs,out,rfl,pr,gd,q⟩:=h
 refine⟨_,(fA (gh (pF T.d19 gD19 hr.m (fz (gu T.c7.cl T.n7names (cv 0)) fD)))
  (fA (pS (i:=1) jF.nd (pF T.d22 gD22 hr.m (fz (cv 0) fD)))
  (fA (pS (i:=2) jF.nd (gA fD))
  (fA (iZ PassesOwn.never rfl (vq rfl T.z_enumerate (fz (gu T.c7.cl T.n7rows (cv 0)) fD)) (yx rfl (mh (pN (i:=3) jF.nd) (mh (pN (i:=4) jF.nd) vd)))
   (fA (pS (i:=5) jF.nd (lJ hu (cv 1) (cv 3)))
   (fA (gh (pF T.d19 gD19 hr.m (fz (pF T.d20 gD20 hr.m (fz (cv 4) fD)) fD)))
   (fA (gh (iP (jl eG eI eJ gr (PE.mono (cv 2)) (fz (PE.mono (pF T.d21 gD21 hr.m (fz (cv 4) (fz (cv 3) (fz (cv 5) fD))))) fD))))
   (fG (gh (jl PySem.F.plainAttrs_dict eE PySem.F.type_dict_update zr (cv 1) (fz (pF T.d23 gD23 hr.m (fz (cv 4) (fz (cv 5) fD))) fD))))))))
  (fG (f7 (cv 2))))))),?_⟩
 have sl:=sizeLine_eq
 have nl:=gd.nl
 have pn:=gd.pn
 refine⟨_,⟨dx,_,pr.o,wO _ _ _⟩,n,names,rfl,pr.n,gd.nn,by lia,fun H1 S1=>?_⟩
 refine⟨p,n,r,w,dx,xs,names,roots,ρs,out,rfl,pr.same S1,gd,fun d kvs H2 S2 hd ed hk hroots=>?_⟩
 refine⟨n6,fun lh hlh=>?_⟩
 have s3:=fE hlh (.lst [])
 have el:(upd H2 lh (.lst [])) lh=some (.lst []):=fC
 dsimp only[gJ]
 generalize upd H2 lh (.lst [])=H3 at s3 el⊢
 have S13:=(S1.trans S2).trans s3
 have hd0:H d=none:=S1.free hd
 have hl0:H lh=none:=(S1.trans S2).free hlh
 have ndl:d≠lh:=fJ ed hlh
 have pr3:=pr.same S13
 have lx:=pr.i.length
 rw[aC]at lx
 refine⟨_,⟨dx,_,pr3.o,sR _ _ _⟩,w,rfl,⟨_,SqL.of pr3.w⟩,wN (xs:=xs) (fun i σ H4=>∃(o3 o4 o5:Option V) (kvs:List (Key×V)) (ys:List V),σ=[some (.ref p),some (.ref d),some (.ref lh),o3,o4,o5]/\fW H H4/\H4 d=some (.dK kvs)/\kvs.length<=12+ 300*i/\H4 lh=some (.lst ys)/\ys.length=i/\HoA H4 ys ρs out/\
   ∀c:Nat,((∃i':Nat,roots[i']?=some c)\/∃(k':Nat) (ρ:Ro),k'<i/\ρs[k']?=some ρ/\(c:Int)∈ρ.pl)->∃a,a≠d/\je kvs (.inl (c:Int))=some (.ref a)/\Sc H4 a (out c) (20+c))
  ⟨none,none,none,kvs,[],rfl,S13,s3 _ _ ed,by lia,el,rfl,fun k x ρ h=>(by cases h),fun c hc=>?_⟩ (fun i σ H4 _ ⟨_,_,_,_,_,_,S,_⟩=>SqL.of (S _ _ pr.w)) ?_ ?_⟩
 ·rcases hc with⟨i,hi⟩|⟨k',ρ,h,_⟩
  ·obtain⟨a,h1,h2,h3⟩:=hroots i c hi
   exact⟨a,h1,h2,(h3.same s3).le (by lia)⟩
  ·exact absurd h (cO _)
 ·rintro i v σ H4 t hx ⟨o3,o4,o5,kvs,ys,rfl,S,ek,hk,el,hyl,ho,hsc⟩ ht
  have hi:=(au.mp hx).1
  obtain⟨ρ,hρ⟩:∃ρ,ρs[i]?=some ρ:=⟨_,bz (by lia)⟩
  have rok:=gd.ok ρ (aN hρ)
  obtain⟨tr,zs,hxt,etr,hzs,him⟩:=sS pr.i hρ
  rw[hxt]at hx
  cases hx
  obtain⟨a,nad,hva,sca⟩:=hsc i (gd.reach i (by lia))
  have sT:=fE ht (.tup [.int (i:Int),.ref tr])
  refine⟨t,_,rfl,SqT.of fC,rfl,_,_,rfl,_,_,rfl,rfl,?_⟩
  have S5:=S.trans sT
  generalize upd H4 t (.tup [.int (i:Int),.ref tr])=H5 at sT S5
  have g:=vh.k (k:=(Sum.inl (i:Int):Key)) (sT _ _ ek)
  rw[hva]at g
  refine⟨d,_,rfl,g,?_⟩
  refine⟨tr,ρ,rfl,him.mono (fW.tk S5),rok,fun lw H6 S6 hlw e6=>⟨lw,ρ.ws,rfl,e6,(ρ.ws_nd rok).1,cw (ρ.ws_nd rok).2 (by decide),fun H7 S7=>?_⟩⟩
  have S47:=(sT.trans S6).trans S7
  have S07:=S.trans S47
  have el7:=S47 _ _ el
  have ek7:=S47 _ _ ek
  have sca7:=sca.same S47
  refine⟨⟨_,el7⟩,zQ rok hzs (fun x e=>gd.nm i x (by rw[hρ,e])) (S07 _ _ etr) sca7 rfl rfl rfl fun y hy=>?_⟩
  refine⟨_,el7,by lia,?_⟩
  have S08:=gB (o:= .lst (ys++[y])) S07 hl0
  have tk8:TK H7 (upd H7 lh (.lst (ys++[y]))):=BK el7 (fun zs z=>nomatch z)
  have ek8:(upd H7 lh (.lst (ys++[y]))) d=some (.dK kvs):=by rw[fO ndl];exact ek7
  have el8:(upd H7 lh (.lst (ys++[y]))) lh=some (.lst (ys++[y])):=fC
  have sc8:∀{z:Addr} {g:Str->Option Hm} {m:Nat},Sc H4 z g m->Sc (upd H7 lh (.lst (ys++[y]))) z g m:=fun h=>(h.same S47).updL el7
  generalize upd H7 lh (.lst (ys++[y]))=H8 at S08 tk8 ek8 el8 sc8
  refine⟨.inr (.inr (.inl ⟨rfl,.inl ⟨_,ek8⟩⟩)),tr,a,ρ,out i,20+i,rfl,him.mono (fW.tk S08),rok,sc8 sca,by lia,fun d2 kvs2 H9 S9 hd2 e9 nd9 l9 in9=>⟨d,d2,kvs,kvs2,rfl,rfl,fJ ek8 hd2,S9 _ _ ek8,e9,by lia,?_⟩⟩
  have tk9:TK H9 (upd H9 d (.dK (nL kvs kvs2))):=BK (S9 _ _ ek8) (fun zs z=>nomatch z)
  have tkA:TK H4 (upd H9 d (.dK (nL kvs kvs2))):=fun b u e=>tk9 _ _ (S9 _ _ (tk8 _ _ (S47 _ _ e)))
  refine⟨_,_,_,_,ys++[y],rfl,gB (S08.trans S9) hd0 _,fC,cw (kR _ _) (by lia),by rw[fO ndl.symm];exact S9 _ _ el8,by rw[aO,hyl];rfl,?_,?_⟩
  ·intro k x ρ' hx hρ'
   by_cases hki:k<ys.length
   ·rw[aK hki]at hx
    exact(ho k x ρ' hx hρ').mono tkA
   ·have hk2:=(au.mp hx).1
    rw[aO,ba]at hk2
    have e:k=ys.length:=by lia
    subst e
    rw[aJ (cz _),cM]at hx
    cases hx
    rw[hyl]at hρ'⊢
    rw[hρ]at hρ'
    cases hρ'
    exact hy.mono fun b u e=>tk9 _ _ (S9 _ _ (tk8 _ _ e))
  ·intro c hc
   rw[qC _ _ _ nd9]
   rcases in9 (c:Int)with⟨h1,h2⟩|⟨j,e,a',hW,hj,he,hv,hs⟩
   ·rw[h1]
    obtain⟨a',g1,g2,g3⟩:=hsc c (by
     rcases hc with h|⟨k',ρ',k1,k2,k3⟩
     ·exact .inl h
     ·refine .inr ⟨k',ρ',?_,k2,k3⟩
      by_cases z:k'=i
      ·rw[z,hρ]at k2
       cases k2
       exact absurd k3 h2
      ·lia)
    exact⟨a',g1,g2,((sc8 g3).same S9).upd (S9 _ _ ek8) g1⟩
   ·rw[hv]
    have na:a'≠d:=by
     rcases hW with h|h
     ·rw[h];exact nad
     ·exact(fJ ek8 h).symm
    obtain⟨m,e1,e2,e3⟩:=gd.kid i ρ j _ e hρ hj he
    have em:c=m:=by lia
    subst em
    exact⟨a',na,rfl,by rw[e3];exact(hs.upd (S9 _ _ ek8) na).le (by lia)⟩
 ·rintro σ H4 ⟨o3,o4,o5,kvs,ys,rfl,S,ek,hk,el,hyl,ho,hsc⟩
  exact q lh ys H4 S hl0 el (by lia) ho
inductive Vl where
 |num (n p:Int)
 |yes (b:Bool) (p:Int)
def ynS:Bool->Str
 |true=>"yes"
 |false=>"no"
def Vl.d:Vl->Dt
 | .num n p=> .tup [sD "num",kD n,kD p]
 | .yes b p=> .tup [sD "tag",.tup [sD (ynS b),.tup [sD "rec",.tup [],kD p]],kD p]
def Vl.s:Vl->Str
 | .num _ _=>"num"
 | .yes _ _=>"tag"
def Vl.b:Vl->Dt
 | .num n _=>kD n
 | .yes b p=> .tup [sD (ynS b),.tup [sD "rec",.tup [],kD p]]
def Vl.p:Vl->Int
 | .num _ p=>p
 | .yes _ p=>p
theorem GD (v:Vl):v.d= .tup [sD v.s,v.b,kD v.p]:=by cases v<;>rfl
inductive Stp where
 |beg (p:Int)
 |par (p:Int)
def Stp.s:Stp->Str
 | .beg _=>"begin"
 | .par _=>"parts"
def Stp.p:Stp->Int
 | .beg p=>p
 | .par p=>p
def Stp.d (t:Stp):Dt:= .tup [sD t.s,kD t.p,.flat .non]
def meD (t:Int×Int×Int):Dt:= .tup [kD t.1,kD t.2.1,kD t.2.2]
def haD (t:Int×Int):Dt:= .tup [kD t.1,kD t.2]
structure Ms where
 bg:Nat
 en:Option Str
 me:List (Int×Int×Int)
 ha:List (Int×Int)
 de:List Vl
 st:List Stp
 rd:List Vl
def Au (p:Int) (v:Vl) (s:Ms):Ms:={s with ha:=(p,v.p)::s.ha,rd:=v::s.rd}
def qX (v:Vl) (p k:Int) (s:Ms):Ms:={s with me:=(v.p,p,k)::s.me}
def qM:Ro->List Int
 | .fn _ _=>[]
 | .lt _ a _=>[a]
 | .case k _=>[k]
 |ρ=>ρ.pl
def opV (o:Str) (n m p:Int):Vl:=if o="add" then .num (n+m) p else if o="sub" then .num (n-m) p else .yes (decide (n<m)) p
inductive Wm (hm:Option Hm) (p:Int) (s:Ms):Ro->List Vl->Ms->Prop
 |num {n:Int}:Wm hm p s (.num n) [] (Au p (.num n p) s)
 |name {x:Str} {h:Nat} {v:Vl} (e:hm=some ((("def":Str),(h:Int)):Hm)) (hv:s.de[h]?=some v):Wm hm p s (.name x) [] (Au p v s)
 |op {o:Str} {ks:List Int} {n m q r:Int} (ho:o="add"\/o="sub"\/o="less"):Wm hm p s (.op o ks) [.num n q,.num m r] (Au p (opV o n m p) (qX (.num m r) p 1 (qX (.num n q) p 0 s)))
def tkR:Nat->List Vl->List Vl->Option (List Vl×List Vl)
 |0,r,l=>some (l,r)
 |n+ 1,v::r,l=>tkR n r (v::l)
 |_+ 1,[],_=>none
inductive Sp1 (ρs:List Ro) (ho:Nat->Option Hm) (tu:Nat) (s:Ms):Ms->Prop
 |beg {p:Nat} {ρ:Ro} {r:List Stp} (hs:s.st= .beg (p:Int)::r) (hk:ρs[p]?=some ρ) (hb:s.bg<tu):Sp1 ρs ho tu s {s with bg:=s.bg+ 1,st:=(qM ρ).map Stp.beg++ .par (p:Int)::r}
 |par {p:Nat} {ρ:Ro} {r:List Stp} {l rd:List Vl} {s':Ms} (hs:s.st= .par (p:Int)::r) (hk:ρs[p]?=some ρ) (ht:tkR (qM ρ).length s.rd []=some (l,rd)) (hw:Wm (ho p) (p:Int) {s with st:=r,rd:=rd} ρ l s'):Sp1 ρs ho tu s s'
def fMc (p h:Addr) (tu bg:Int) (en:V) (me ha de st rd:Addr):List (Str×V):=[("program",.ref p),("homes",.ref h),("turns",.int tu),("begun",.int bg),("end",en),("meets",.ref me),("had",.ref ha),("defined",.ref de),("steps",.ref st),("ready",.ref rd)]
def enV:Option Str->V
 |none=> .non
 |some s=> .str s
structure Mad where
 m:Addr
 dx:Addr
 p:Addr
 h:Addr
 me:Addr
 ha:Addr
 de:Addr
 st:Addr
 rd:Addr
def Mad.ls (A:Mad):List Addr:=[A.me,A.ha,A.de,A.st,A.rd]
structure Mc (C:Addr) (H:Hp) (A:Mad) (tu:Nat) (s:Ms):Prop where
 o:H A.m=some (.ins C A.dx (fMc A.p A.h tu s.bg (enV s.en) A.me A.ha A.de A.st A.rd))
 me:∃xs,H A.me=some (.lst xs)/\Ims H xs (s.me.reverse.map meD)
 ha:∃xs,H A.ha=some (.lst xs)/\Ims H xs (s.ha.reverse.map haD)
 de:∃xs,H A.de=some (.lst xs)/\Ims H xs (s.de.map Vl.d)
 st:∃xs,H A.st=some (.lst xs)/\Ims H xs (s.st.reverse.map Stp.d)
 rd:∃xs,H A.rd=some (.lst xs)/\Ims H xs (s.rd.reverse.map Vl.d)
 nd:A.ls.Nodup
def FM (A:Mad) (H H':Hp):Prop:=∀a o,H a=some o->a≠A.m->a∉A.ls->H' a=some o
theorem FM.refl {A:Mad} {H:Hp}:FM A H H:=fun _ _ e _ _=>e
theorem FM.trans {A:Mad} {H H1 H2:Hp} (f:FM A H H1) (g:FM A H1 H2):FM A H H2:=fun a o e n m=>g a o (f a o e n m) n m
theorem FM.same {A:Mad} {H H':Hp} (S:fW H H'):FM A H H':=fun a o e _ _=>S a o e
section
variable {C:Addr} {H H':Hp} {A:Mad} {tu:Nat} {s:Ms}
theorem Mc.out (M:Mc C H A tu s) {a:Addr} {xs:List V} (e:H a=some (.tup xs)):a≠A.m/\a∉A.ls:=by
 obtain⟨o,⟨_,e1,_⟩,⟨_,e2,_⟩,⟨_,e3,_⟩,⟨_,e4,_⟩,⟨_,e5,_⟩,_⟩:=M
 refine⟨fun z=>?_,fun z=>?_⟩
 ·rw[z,o]at e;cases e
 ·simp only[Mad.ls,ak,bB,or_false]at z
  rcases z with rfl|rfl|rfl|rfl|rfl
  ·rw[e1]at e;cases e
  ·rw[e2]at e;cases e
  ·rw[e3]at e;cases e
  ·rw[e4]at e;cases e
  ·rw[e5]at e;cases e
theorem Mc.tk (M:Mc C H A tu s) (F:FM A H H'):TK H H':=fun a xs e=>F a _ e (M.out e).1 (M.out e).2
theorem Mc.same (M:Mc C H A tu s) (S:fW H H'):Mc C H' A tu s:=by
 obtain⟨o,⟨x1,e1,i1⟩,⟨x2,e2,i2⟩,⟨x3,e3,i3⟩,⟨x4,e4,i4⟩,⟨x5,e5,i5⟩,nd⟩:=M
 have k:=fW.tk S
 exact⟨S _ _ o,⟨x1,S _ _ e1,i1.mono k⟩,⟨x2,S _ _ e2,i2.mono k⟩,⟨x3,S _ _ e3,i3.mono k⟩,⟨x4,S _ _ e4,i4.mono k⟩,⟨x5,S _ _ e5,i5.mono k⟩,nd⟩
theorem Mc.upd (M:Mc C H A tu s) {a:Addr} {xs ys:List V} (ha:a∈A.ls) (e:H a=some (.lst xs)) {s':Ms} (hb:s'.bg=s.bg) (he:s'.en=s.en)
  (h1:if a=A.me then Ims H ys (s'.me.reverse.map meD)else s'.me=s.me) (h2:if a=A.ha then Ims H ys (s'.ha.reverse.map haD)else s'.ha=s.ha) (h3:if a=A.de then Ims H ys (s'.de.map Vl.d)else s'.de=s.de)
  (h4:if a=A.st then Ims H ys (s'.st.reverse.map Stp.d)else s'.st=s.st) (h5:if a=A.rd then Ims H ys (s'.rd.reverse.map Vl.d)else s'.rd=s.rd):Mc C (upd H a (.lst ys)) A tu s'/\FM A H (upd H a (.lst ys)):=by
 have k:TK H (L2.Internal.upd H a (.lst ys)):=(zm e).tk
 have part:∀{b:Addr} {α:Type} {f:α->Dt} {l l':List α},(∃zs,H b=some (.lst zs)/\Ims H zs (l.map f))->(if a=b then Ims H ys (l'.map f)else l'=l)->∃zs,(L2.Internal.upd H a (.lst ys)) b=some (.lst zs)/\Ims (L2.Internal.upd H a (.lst ys)) zs (l'.map f):=fun{b α f l l'} ⟨zs,e0,i0⟩ h=>by
  by_cases z:a=b
  ·rw[gx z]at h
   subst z
   exact⟨ys,fC,h.mono k⟩
  ·rw[fZ z]at h
   rw[h]
   exact⟨zs,by rw[fO (Ne.symm z)];exact e0,i0.mono k⟩
 obtain⟨o,p1,p2,p3,p4,p5,nd⟩:=M
 have rev:∀{b:Addr} {α:Type} {f:α->Dt} {l l':List α},(if a=b then Ims H ys (l'.reverse.map f)else l'=l)->if a=b then Ims H ys (l'.reverse.map f)else l'.reverse=l.reverse:=fun{b α f l l'} h=>by
  by_cases z:a=b
  ·rw[gx z]at h⊢;exact h
  ·rw[fZ z]at h⊢;rw[h]
 refine⟨⟨?_,part p1 (rev h1),part p2 (rev h2),part p3 h3,part p4 (rev h4),part p5 (rev h5),nd⟩,fun b o' e' n m=>by rw[fO (fun z=>m (by rw[z];exact ha))];exact e'⟩
 rw[fO (fun z=>by rw[<-z,o]at e;cases e),hb,he]
 exact o
end
def Bd (n:Nat) (s:Ms):Prop:=s.me.length<=n/\s.ha.length<=n/\s.de.length<=n/\s.st.length<=n/\s.rd.length<=n
theorem Bd.mono {n m:Nat} {s:Ms} (h:Bd n s) (k:n<=m):Bd m s:=⟨cw h.1 k,cw h.2.1 k,cw h.2.2.1 k,cw h.2.2.2.1 k,cw h.2.2.2.2 k⟩
section
variable {C:Addr} {H H':Hp} {A:Mad} {tu:Nat} {s:Ms}
theorem Mc.nds (M:Mc C H A tu s):(A.me≠A.ha/\A.me≠A.de/\A.me≠A.st/\A.me≠A.rd)/\(A.ha≠A.de/\A.ha≠A.st/\A.ha≠A.rd)/\(A.de≠A.st/\A.de≠A.rd)/\A.st≠A.rd:=by
 have n:=M.nd
 simp only[Mad.ls,aE,ak,bB,or_false,not_or]at n
 exact⟨n.1,n.2.1,n.2.2.1,n.2.2.2.1⟩
theorem Mc.meP (M:Mc C H A tu s) {x:V} {t:Int×Int×Int} (ix:Im H x (meD t)):∃xs,H A.me=some (.lst xs)/\xs.length=s.me.length/\Mc C (L2.Internal.upd H A.me (.lst (xs++[x]))) A tu {s with me:=t::s.me}/\FM A H (L2.Internal.upd H A.me (.lst (xs++[x]))):=by
 obtain⟨⟨a,b,c,d⟩,_⟩:=M.nds
 obtain⟨xs,e,i⟩:=M.me
 refine⟨xs,e,by rw[i.length,aC,bE],M.upd (by simp[Mad.ls]) e rfl rfl (by rw[gx rfl,aZ,bh];exact i.app (.cons ix .nil)) (by rw[fZ a]) (by rw[fZ b]) (by rw[fZ c]) (by rw[fZ d])⟩
theorem Mc.haP (M:Mc C H A tu s) {x:V} {t:Int×Int} (ix:Im H x (haD t)):∃xs,H A.ha=some (.lst xs)/\xs.length=s.ha.length/\Mc C (L2.Internal.upd H A.ha (.lst (xs++[x]))) A tu {s with ha:=t::s.ha}/\FM A H (L2.Internal.upd H A.ha (.lst (xs++[x]))):=by
 obtain⟨⟨a,_⟩,⟨b,c,d⟩,_⟩:=M.nds
 obtain⟨xs,e,i⟩:=M.ha
 refine⟨xs,e,by rw[i.length,aC,bE],M.upd (by simp[Mad.ls]) e rfl rfl (by rw[fZ a.symm]) (by rw[gx rfl,aZ,bh];exact i.app (.cons ix .nil)) (by rw[fZ b]) (by rw[fZ c]) (by rw[fZ d])⟩
theorem Mc.deP (M:Mc C H A tu s) {x:V} {v:Vl} (ix:Im H x v.d):∃xs,H A.de=some (.lst xs)/\xs.length=s.de.length/\Mc C (L2.Internal.upd H A.de (.lst (xs++[x]))) A tu {s with de:=s.de++[v]}/\FM A H (L2.Internal.upd H A.de (.lst (xs++[x]))):=by
 obtain⟨⟨_,a,_⟩,⟨b,_⟩,⟨c,d⟩,_⟩:=M.nds
 obtain⟨xs,e,i⟩:=M.de
 refine⟨xs,e,by rw[i.length,aC],M.upd (by simp[Mad.ls]) e rfl rfl (by rw[fZ a.symm]) (by rw[fZ b.symm]) (by rw[gx rfl,bh];exact i.app (.cons ix .nil)) (by rw[fZ c]) (by rw[fZ d])⟩
theorem Mc.stP (M:Mc C H A tu s) {x:V} {t:Stp} (ix:Im H x t.d):∃xs,H A.st=some (.lst xs)/\xs.length=s.st.length/\Mc C (L2.Internal.upd H A.st (.lst (xs++[x]))) A tu {s with st:=t::s.st}/\FM A H (L2.Internal.upd H A.st (.lst (xs++[x]))):=by
 obtain⟨⟨_,_,a,_⟩,⟨_,b,_⟩,⟨c,_⟩,d⟩:=M.nds
 obtain⟨xs,e,i⟩:=M.st
 refine⟨xs,e,by rw[i.length,aC,bE],M.upd (by simp[Mad.ls]) e rfl rfl (by rw[fZ a.symm]) (by rw[fZ b.symm]) (by rw[fZ c.symm]) (by rw[gx rfl,aZ,bh];exact i.app (.cons ix .nil)) (by rw[fZ d])⟩
theorem Mc.rdP (M:Mc C H A tu s) {x:V} {v:Vl} (ix:Im H x v.d):∃xs,H A.rd=some (.lst xs)/\xs.length=s.rd.length/\Mc C (L2.Internal.upd H A.rd (.lst (xs++[x]))) A tu {s with rd:=v::s.rd}/\FM A H (L2.Internal.upd H A.rd (.lst (xs++[x]))):=by
 obtain⟨⟨_,_,_,a⟩,⟨_,_,b⟩,⟨_,c⟩,d⟩:=M.nds
 obtain⟨xs,e,i⟩:=M.rd
 refine⟨xs,e,by rw[i.length,aC,bE],M.upd (by simp[Mad.ls]) e rfl rfl (by rw[fZ a.symm]) (by rw[fZ b.symm]) (by rw[fZ c.symm]) (by rw[fZ d.symm]) (by rw[gx rfl,aZ,bh];exact i.app (.cons ix .nil))⟩
theorem sU {H:Hp} {α:Type} {f:α->Dt} {xs:List V} {l:List α} {a:α} (h:Ims H xs ((l++[a]).map f)):∃ys y,xs=ys++[y]/\Ims H ys (l.map f)/\Im H y (f a):=by
 have go:∀{ds:List Dt} {xs:List V} {d:Dt},Ims H xs (ds++[d])->∃ys v,xs=ys++[v]/\Ims H ys ds/\Im H v d:=fun{ds}=>by
  induction ds with
  |nil=>
   intro xs d h
   cases h with
   |cons h1 hs=>
    cases hs
    exact⟨[],_,rfl,.nil,h1⟩
  |cons d0 ds ih=>
   intro xs d h
   cases h with
   |cons h1 hs=>
    obtain⟨ys,v,rfl,h2,h3⟩:=ih hs
    exact⟨_::ys,v,rfl,.cons h1 h2,h3⟩
 rw[bh]at h
 exact go h
theorem Mc.stO (M:Mc C H A tu s) {t:Stp} {r:List Stp} (hs:s.st=t::r):∃xs x,H A.st=some (.lst (xs++[x]))/\Im H x t.d/\Mc C (L2.Internal.upd H A.st (.lst xs)) A tu {s with st:=r}/\FM A H (L2.Internal.upd H A.st (.lst xs)):=by
 obtain⟨⟨_,_,a,_⟩,⟨_,b,_⟩,⟨c,_⟩,d⟩:=M.nds
 obtain⟨xs,e,i⟩:=M.st
 rw[hs,aZ]at i
 obtain⟨ys,y,rfl,h1,h2⟩:=sU i
 refine⟨ys,y,e,h2,M.upd (by simp[Mad.ls]) e rfl rfl (by rw[fZ a.symm]) (by rw[fZ b.symm]) (by rw[fZ c.symm]) (by rw[gx rfl];exact h1) (by rw[fZ d])⟩
theorem Mc.rdO (M:Mc C H A tu s) {v:Vl} {r:List Vl} (hs:s.rd=v::r):∃xs x,H A.rd=some (.lst (xs++[x]))/\Im H x v.d/\Mc C (L2.Internal.upd H A.rd (.lst xs)) A tu {s with rd:=r}/\FM A H (L2.Internal.upd H A.rd (.lst xs)):=by
 obtain⟨⟨_,_,_,a⟩,⟨_,_,b⟩,⟨_,c⟩,d⟩:=M.nds
 obtain⟨xs,e,i⟩:=M.rd
 rw[hs,aZ]at i
 obtain⟨ys,y,rfl,h1,h2⟩:=sU i
 refine⟨ys,y,e,h2,M.upd (by simp[Mad.ls]) e rfl rfl (by rw[fZ a.symm]) (by rw[fZ b.symm]) (by rw[fZ c.symm]) (by rw[fZ d.symm]) (by rw[gx rfl];exact h1)⟩
theorem Mc.setO (M:Mc C H A tu s) (bg:Nat) (en:Option Str):Mc C (L2.Internal.upd H A.m (.ins C A.dx (fMc A.p A.h tu bg (enV en) A.me A.ha A.de A.st A.rd))) A tu {s with bg:=bg,en:=en}/\FM A H (L2.Internal.upd H A.m (.ins C A.dx (fMc A.p A.h tu bg (enV en) A.me A.ha A.de A.st A.rd))):=by
 have F:FM A H (L2.Internal.upd H A.m (.ins C A.dx (fMc A.p A.h tu bg (enV en) A.me A.ha A.de A.st A.rd))):=fun a o e n _=>by rw[fO n];exact e
 have k:=M.tk F
 obtain⟨o,⟨x1,e1,i1⟩,⟨x2,e2,i2⟩,⟨x3,e3,i3⟩,⟨x4,e4,i4⟩,⟨x5,e5,i5⟩,nd⟩:=M
 have ne:∀{b:Addr} {zs:List V},H b=some (.lst zs)->b≠A.m:=fun e z=>by rw[z,o]at e;cases e
 exact⟨⟨fC,⟨x1,by rw[fO (ne e1)];exact e1,i1.mono k⟩,⟨x2,by rw[fO (ne e2)];exact e2,i2.mono k⟩,⟨x3,by rw[fO (ne e3)];exact e3,i3.mono k⟩,⟨x4,by rw[fO (ne e4)];exact e4,i4.mono k⟩,⟨x5,by rw[fO (ne e5)];exact e5,i5.mono k⟩,nd⟩,F⟩
end
section
variable {p h me ha de st rd:Addr} {tu bg:Int} {en:V}
theorem zR:(fMc p h tu bg en me ha de st rd).lookup ("had":Str)=some (.ref ha):=by kernel_rfl
theorem uL:(fMc p h tu bg en me ha de st rd).lookup ("meets":Str)=some (.ref me):=by kernel_rfl
theorem nj:(fMc p h tu bg en me ha de st rd).lookup ("defined":Str)=some (.ref de):=by kernel_rfl
theorem nV:(fMc p h tu bg en me ha de st rd).lookup ("steps":Str)=some (.ref st):=by kernel_rfl
theorem qG:(fMc p h tu bg en me ha de st rd).lookup ("ready":Str)=some (.ref rd):=by kernel_rfl
theorem sV:(fMc p h tu bg en me ha de st rd).lookup ("end":Str)=some en:=by kernel_rfl
theorem qH:(fMc p h tu bg en me ha de st rd).lookup ("begun":Str)=some (.int bg):=by kernel_rfl
theorem zS:(fMc p h tu bg en me ha de st rd).lookup ("turns":Str)=some (.int tu):=by kernel_rfl
end
theorem Bj {p h me ha de st rd:Addr} {tu bg:Int} {en v:V}:mi "end" v (fMc p h tu bg en me ha de st rd)=fMc p h tu bg v me ha de st rd:=by kernel_rfl
theorem nk {H:Hp} {t:Addr} {xs:List V} {ds:List Dt} (h:H t=none) (i:Ims H xs ds):Im (L2.Internal.upd H t (.tup xs)) (.ref t) (.tup ds):= .tup fC (i.mono (fW.tk (fE h _)))
def wR (C:Addr):Sp:=fun vs H Q _=>∃(A:Mad) (tu:Nat) (s:Ms) (pl:Int) (x:V) (v:Vl),vs=[.ref A.m,.int pl,x]/\Mc C H A tu s/\Im H x v.d/\s.ha.length<10000000/\s.rd.length<10000000/\∀H',Mc C H' A tu (Au pl v s)->FM A H H'->Q .non H'
theorem oR {H:Hp} {x:V} {v:Vl} (h:Im H x v.d):∃t y,x= .ref t/\H t=some (.tup [.str v.s,y,.int v.p])/\Im H y v.b:=by
 rw[GD]at h
 cases h with
 |tup e i=>
  cases i with
  |cons h1 i=>
   cases i with
   |cons h2 i=>
    cases i with
    |cons h3 i=>
     cases i
     cases h1 with
     |flat f1=>cases h3 with
      |flat f3=>exact⟨_,_,rfl,e,h2⟩
theorem gY (T:Txt K mg):MO P w base mg 1 T.e48 (wR T.c5.a):=by
 refine T.e48.F.rd oE fun cdv A0 outer s0 H vs Q E hr h=>?_
 obtain⟨A,tu,s,pl,x,v,rfl,M,ix,lh,lr,q⟩:=h
 refine⟨_,(fA (gh (iP (jl eG eI eJ gr (PE.mono (gu T.c5.cl T.n5had (cv 0))) (fz (PE.mono (gC (fz (cv 1) (fz (fV fX (cv 2) fF) fD)))) fD))))
  (fG (gh (iP (jl eG eI eJ gr (PE.mono (gu T.c5.cl T.n5ready (cv 0))) (fz (PE.mono (cv 2)) fD)))))),?_⟩
 have sl:=sizeLine_eq
 obtain⟨xs,e,_⟩:=M.ha
 obtain⟨t0,y,rfl,e0,iy⟩:=oR ix
 refine⟨_,⟨_,_,M.o,zR⟩,⟨_,e⟩,_,e0,fN (fH (j:=2) rfl) ⟨my,fun t ht=>?_⟩⟩
 have S1:=fE ht (.tup [.int pl,.int v.p])
 have M1:=M.same S1
 have i1:Im (L2.Internal.upd H t (.tup [.int pl,.int v.p])) (.ref t) (haD (pl,v.p)):=nk ht (.cons (.flat rfl) (.cons (.flat rfl) .nil))
 have ix1:=ix.mono (fW.tk S1)
 generalize L2.Internal.upd H t (.tup [.int pl,.int v.p])=H1 at S1 M1 i1 ix1⊢
 obtain⟨xs1,e1,l1,M2,F2⟩:=M1.haP i1
 refine⟨xs1,e1,by lia,?_⟩
 have ix2:=ix1.mono (M1.tk F2)
 have F02:=(FM.same (A:=A) S1).trans F2
 dsimp only
 generalize L2.Internal.upd H1 A.ha (.lst (xs1++[.ref t]))=H2 at M2 F2 F02 ix2⊢
 obtain⟨xs3,e3,l3,M4,F4⟩:=M2.rdP ix2
 exact⟨_,⟨_,_,M2.o,qG⟩,⟨_,e3⟩,xs3,e3,by rw[l3];show s.rd.length<_;lia,q _ M4 (F02.trans F4)⟩
theorem jN {p h me ha de st rd:Addr} {tu bg:Int} {en:V} {n:Str} (hn:((["program","homes","turns","begun","end","meets","had","defined","steps","ready"]:List Str).all fun x=>!(n==x))=true):(fMc p h tu bg en me ha de st rd).lookup n=none:=by
 simp only[aY,List.all_nil,Bool.and_true,eR,Bool.not_eq_true']at hn
 obtain⟨h1,h2,h3,h4,h5,h6,h7,h8,h9,h10⟩:=hn
 simp only[fMc,bj,h1,h2,h3,h4,h5,h6,h7,h8,h9,h10,List.lookup_nil]
def EA (C:Addr):Sp:=fun vs H Q _=>∃(A:Mad) (tu:Nat) (s:Ms) (x:V) (v:Vl) (pl k:Int),vs=[.ref A.m,x,.int pl,.int k,.bl true]/\Mc C H A tu s/\Im H x v.d/\s.me.length<10000000/\∀H',Mc C H' A tu (qX v pl k s)->FM A H H'->Q (.bl true) H'
theorem pd (T:Txt K mg):MO P w base mg 1 T.e49 (EA T.c5.a):=by
 refine T.e49.F.rd oZ fun cdv A0 outer s0 H vs Q E hr h=>?_
 obtain⟨A,tu,s,x,v,pl,k,rfl,M,ix,lm,q⟩:=h
 refine⟨_,(fA (gh (iP (jl eG eI eJ gr (PE.mono (gu T.c5.cl T.n5meets (cv 0))) (fz (PE.mono (gC (fz (fV fX (cv 1) fF) (fz (cv 2) (fz (cv 3) fD))))) fD))))
  (fA (gL (jQ (jk (cv 4)))
   (fG (iJ T.c5.cl T.n5end (iN (PE.mono (cv 0)) (PE.mono fQ) rfl)))
   gm)
  (fG (f7 (cv 4))))),?_⟩
 have sl:=sizeLine_eq
 obtain⟨xs,e,_⟩:=M.me
 obtain⟨t0,y,rfl,e0,iy⟩:=oR ix
 refine⟨_,⟨_,_,M.o,uL⟩,⟨_,e⟩,_,e0,fN (fH (j:=2) rfl) ⟨nA,fun t ht=>?_⟩⟩
 have S1:=fE ht (.tup [.int v.p,.int pl,.int k])
 have M1:=M.same S1
 have i1:Im (L2.Internal.upd H t (.tup [.int v.p,.int pl,.int k])) (.ref t) (meD (v.p,pl,k)):=nk ht (.cons (.flat rfl) (.cons (.flat rfl) (.cons (.flat rfl) .nil)))
 generalize L2.Internal.upd H t (.tup [.int v.p,.int pl,.int k])=H1 at S1 M1 i1⊢
 obtain⟨xs1,e1,l1,M2,F2⟩:=M1.meP i1
 refine⟨xs1,e1,by lia,?_⟩
 have F02:=(FM.same (A:=A) S1).trans F2
 dsimp only
 generalize L2.Internal.upd H1 A.me (.lst (xs1++[.ref t]))=H2 at M2 F2 F02⊢
 exact⟨_,rfl,iO (q _ M2 F02)⟩
def EB (C:Addr):Sp:=fun vs H Q _=>∃(A:Mad) (tu:Nat) (s:Ms) (x:V) (v:Vl) (pl k:Int),vs=[.ref A.m,.str v.s,x,.int pl,.int k]/\Mc C H A tu s/\Im H x v.d/\s.me.length<10000000/\∀H',Mc C H' A tu (qX v pl k s)->FM A H H'->Q (.bl true) H'
theorem nq (T:Txt K mg):MO P w base mg 2 T.e50 (EB T.c5.a):=by
 have gE49:=pd (P:=P) (w:=w) (base:=base) T
 refine T.e50.F.rd m5 fun cdv A0 outer s0 H vs Q E hr h=>?_
 obtain⟨A,tu,s,x,v,pl,k,rfl,M,ix,lm,q⟩:=h
 refine⟨_,(fG (f7 (hV (gE (PE.mono (cv 0)) T.c5.cl T.e49.me gE49 hr.m T.e49.b .nil jq (fz (cv 2) (fz (cv 3) (fz (cv 4) (fz (kQ kF (fV fX (cv 2) fF) (cv 1)) fD)))))))),?_⟩
 obtain⟨t0,y,rfl,e0,iy⟩:=oR ix
 refine⟨⟨_,_,M.o,jN gq⟩,_,e0,fN (fH (j:=0) rfl) ⟨A,tu,s,_,v,pl,k,?_,M,ix,lm,q⟩⟩
 rw[eT,gR rfl]
 rfl
inductive XBo (C:Addr) (vs:List V) (H:Hp) (Q:VK):Prop
 |mk (A:Mad) (tu:Nat) (s:Ms) (ps:Addr) (x y:V) (a b:Vl) (pl:Int) (e:vs=[.ref A.m,.str a.s,.ref ps,.int pl]) (M:Mc C H A tu s) (ep:H ps=some (.lst [x,y])) (n1:ps≠A.m) (n2:ps∉A.ls) (ix:Im H x a.d) (iy:Im H y b.d) (hs:b.s=a.s) (lm:s.me.length<9500000) (q:∀H',Mc C H' A tu (qX b pl 1 (qX a pl 0 s))->FM A H H'->Q (.bl true) H')
def CS (C:Addr):Sp:=fun vs H Q _=>XBo C vs H Q
theorem iF (T:Txt K mg):MO P w base mg 3 T.e51 (CS T.c5.a):=by
 have gE50:=nq (P:=P) (w:=w) (base:=base) T
 refine T.e51.F.rd lA fun cdv A0 outer s0 H vs Q E hr h=>?_
 obtain⟨A,tu,s,ps,x,y,a,b,pl,rfl,M,ep,n1,n2,ix,iy,hs,lm,q⟩:=h
 refine⟨_,(fG (f7 (rA (hV (gE (PE.mono (cv 0)) T.c5.cl T.e50.me gE50 hr.m T.e50.b .nil jq (fz (cv 1) (fz (fV fY (cv 2) fF) (fz (cv 3) (fz fF fD)))))) (pM (hV (gE (PE.mono (cv 0)) T.c5.cl T.e50.me gE50 hr.m T.e50.b .nil jq (fz (cv 1) (fz (fV fY (cv 2) fF) (fz (cv 3) (fz fF fD)))))))))),?_⟩
 refine⟨⟨_,_,M.o,jN gq⟩,_,ep,fN (fH (j:=0) rfl) ⟨A,tu,s,x,a,pl,0,rfl,M,ix,by lia,fun H1 M1 F1=>?_⟩⟩
 have ep1:=F1 _ _ ep n1 n2
 have iy1:=iy.mono (M.tk F1)
 refine⟨_,rfl,jm ⟨⟨_,_,M1.o,jN gq⟩,_,ep1,fN (fH (j:=1) rfl) ⟨A,tu,_,y,b,pl,1,by rw[hs];rfl,M1,iy1,?_,fun H2 M2 F2=>q _ M2 (F1.trans F2)⟩⟩⟩
 show(_::s.me).length<_
 rw[az]
 lia
theorem CT {K:PySem.W.Frag} {a:Addr} {xs:List V} {g:TG} {tb:TS} {D:qN} {σ:St} {H:Hp} (Pv:Nat->St->Hp->Prop) (h0:Pv 0 σ H) (hl:∀i σ H,i<=xs.length->Pv i σ H->SqL K H a xs)
  (hs:∀(i:Nat) (x:V) (σ:St) (H:Hp),i<xs.length->xs[xs.length-1-i]?=some x->Pv i σ H->g x σ H fun σ2 H2=>tb {D with nx:=Pv (i+ 1),ct:=Pv (i+ 1),bk:=D.nx} σ2 H2) (hd:∀σ H,Pv xs.length σ H->D.nx σ H):
  ∃W:Nat->Nat->St->Hp->Prop,(∃m,W 0 m σ H)/\∀i m σ H,W i m σ H->
   ((Itv K a xs.length).stop i H/\D.nx σ H)\/((Itv K a xs.length).go i H/\∃N:St->Hp->Prop,(∀σ' H',N σ' H'->∃m',m'<m/\W (i+ 1) m' σ' H')/\∀x H',(Itv K a xs.length).yld i H x H'->g x σ H' fun σ2 H2=>tb {D with nx:=N,ct:=N,bk:=D.nx} σ2 H2):=by
 refine⟨fun i m σ H=>m=xs.length-i/\i<=xs.length/\Pv i σ H,⟨xs.length,by simp,cA _,h0⟩,?_⟩
 rintro i m σ H ⟨rfl,hi,p⟩
 have q:=hl i σ H hi p
 by_cases hlt:i<xs.length
 ·refine .inr ⟨⟨hlt,xs,q,rfl⟩,Pv (i+ 1),fun σ' H' p'=>⟨xs.length-(i+ 1),by lia,rfl,hlt,p'⟩,fun v H' y=>?_⟩
  obtain⟨rfl,hx⟩:=y
  exact hs i v σ H' hlt (hx xs q) p
 ·have e:i=xs.length:=by lia
  subst e
  exact .inl ⟨rfl,hd σ H p⟩
theorem pH:∀{n:Nat} {r l l' r':List Vl},tkR n r l=some (l',r')->n<=r.length/\l'=(r.take n).reverse++l/\r'=r.drop n
 |0,r,l,l',r',h=>by cases h;exact⟨cA _,rfl,rfl⟩
 |n+ 1,v::r,l,l',r',h=>by
  obtain⟨a,b,c⟩:=pH (n:=n) h
  exact⟨by simpa using a,by rw[b];simp,by rw[c];rfl⟩
 |n+ 1,[],l,l',r',h=>by cases h
def Mad.all (A:Mad):List Addr:=A.m::A.ls
theorem FM.get {A:Mad} {H H':Hp} (F:FM A H H') {a:Addr} {o:HO} (e:H a=some o) (n:a∉A.all):H' a=some o:=F a o e (fun z=>n (by rw[z];exact ah)) fun z=>n (aj _ z)
theorem FM.upd {A:Mad} {H H':Hp} {l:Addr} {o:HO} (F:FM A H H') (h:H l=none):FM A H (L2.Internal.upd H' l o):=fun a u e n m=>by rw[fO (fJ e h)];exact F a u e n m
theorem Mc.new {C:Addr} {H:Hp} {A:Mad} {tu:Nat} {s:Ms} (M:Mc C H A tu s) {l:Addr} (h:H l=none):l∉A.all:=fun z=>by
 obtain⟨o,⟨_,e1,_⟩,⟨_,e2,_⟩,⟨_,e3,_⟩,⟨_,e4,_⟩,⟨_,e5,_⟩,_⟩:=M
 simp only[Mad.all,Mad.ls,ak,bB,or_false]at z
 rcases z with rfl|rfl|rfl|rfl|rfl|rfl
 ·rw[h]at o;cases o
 ·rw[h]at e1;cases e1
 ·rw[h]at e2;cases e2
 ·rw[h]at e3;cases e3
 ·rw[h]at e4;cases e4
 ·rw[h]at e5;cases e5
theorem Mc.oth {C:Addr} {H:Hp} {A:Mad} {tu:Nat} {s:Ms} (M:Mc C H A tu s) {l:Addr} {xs:List V} {o:HO} (h:l∉A.all) (e:H l=some (.lst xs)):Mc C (L2.Internal.upd H l o) A tu s:=by
 have k:TK H (L2.Internal.upd H l o):=(zm e).tk
 have ne:∀{b:Addr},b∈A.all->(L2.Internal.upd H l o) b=H b:=fun m=>fO fun z=>h (by rw[<-z];exact m)
 obtain⟨o,⟨x1,e1,i1⟩,⟨x2,e2,i2⟩,⟨x3,e3,i3⟩,⟨x4,e4,i4⟩,⟨x5,e5,i5⟩,nd⟩:=M
 exact⟨by rw[ne (by simp[Mad.all])];exact o,⟨x1,by rw[ne (by simp[Mad.all,Mad.ls])];exact e1,i1.mono k⟩,⟨x2,by rw[ne (by simp[Mad.all,Mad.ls])];exact e2,i2.mono k⟩,⟨x3,by rw[ne (by simp[Mad.all,Mad.ls])];exact e3,i3.mono k⟩,⟨x4,by rw[ne (by simp[Mad.all,Mad.ls])];exact e4,i4.mono k⟩,⟨x5,by rw[ne (by simp[Mad.all,Mad.ls])];exact e5,i5.mono k⟩,nd⟩
theorem zT {H:Hp}:∀{xs:List V} {ds:List Dt},Ims H xs ds->Ims H xs.reverse ds.reverse
 |_,_,.nil=> .nil
 |_,_,.cons a b=>by rw[aZ,aZ];exact(zT b).app (.cons a .nil)
abbrev hdT (i:Nat) (x:Str):TT:=cT (tOp (cEq false) (tOp Dw (cV i) (tC (.int 0))) (tC (.str x)))
theorem wU {i:Nat} {x s:Str} {t:Addr} {ys:List V} {σ:St} {H:Hp} {k:Bool->Hp->Prop} {b:Bool} (hσ:σ[i]?=some (some (.ref t))) (et:H t=some (.tup (.str s::ys))) (e:decide (s=x)=b) (h:k b H):hdT i x σ H k:=by
 show onV σ[i]? _
 rw[hσ]
 refine⟨_,et,fN (fH (j:=0) rfl) ?_⟩
 dsimp only[tC,cEq,onB]
 rw[eT,e]
 exact h
theorem qI {i:Nat} {x s:Str} {t:Addr} {ys:List V} {σ:St} {H:Hp} {T u:TS} {D:qN} (hσ:σ[i]?=some (some (.ref t))) (et:H t=some (.tup (.str s::ys))) (e:decide (s=x)=false) (h:u D σ H):ym (Bo (hdT i x) T r9) u D σ H:=wU hσ et e (iO h)
theorem wW {i:Nat} {x s:Str} {t:Addr} {ys:List V} {σ:St} {H:Hp} {T u:TS} {D:qN} (hσ:σ[i]?=some (some (.ref t))) (et:H t=some (.tup (.str s::ys))) (e:decide (s=x)=true) (h:T {D with nx:=u D} σ H):ym (Bo (hdT i x) T r9) u D σ H:=wU hσ et e (jm h)
theorem EC {a b:Int} {H:Hp} {F:Bool->Hp->Prop} (e:¬b<=a) (h:F false H):cI0 (fun i j=> .bl (decide (j<=i))) (.int a) (.int b) H fun x H'=>onB x fun k=>F k H':=by show F (decide (b<=a)) H;rw[ig e];exact h
theorem BL {H:Hp} {t:Addr} {ρ:Ro} (h:Im H (.ref t) ρ.d):∃ys,H t=some (.tup (.str ρ.s::ys))/\Ims H ys ρ.r:=by
 unfold Ro.d at h
 cases h with
 |tup e i=>
  cases i with
  |cons a i=>cases a;exact⟨_,e,i⟩
theorem zU {H:Hp} {l:Addr} {ys:List V} {y:V} {Q:VK} (e:H l=some (.lst (ys++[y]))) (q:Q y (L2.Internal.upd H l (.lst ys))):Hf (.ref l) [] H Q:=⟨l,_,y,rfl,rfl,e,by rw[aO,ba,Nat.add_sub_cancel,aJ (cz _),cM];rfl,by rw[List.dropLast_concat];exact q⟩
inductive XTr (C:Addr) (vs:List V) (H:Hp) (Q:VK):Prop
 |mk (A:Mad) (tu:Nat) (s:Ms) (n:Nat) (l rd:List Vl) (e:vs=[.ref A.m,.int (n:Int)]) (M:Mc C H A tu s) (hn:n<=1000) (ht:tkR n s.rd []=some (l,rd)) (q:∀H' a xs,H a=none->H' a=some (.lst xs)->Ims H' xs (l.map Vl.d)->Mc C H' A tu {s with rd:=rd}->FM A H H'->Q (.ref a) H')
def GF (C:Addr):Sp:=fun vs H Q _=>XTr C vs H Q
def TrI (C:Addr) (A:Mad) (tu:Nat) (s:Ms) (n:Nat) (H:Hp) (tl:Addr) (i:Nat) (σ:St) (H2:Hp):Prop:=∃(o:Option V) (xs:List V),σ=[some (.ref A.m),some (.int (n:Int)),some (.ref tl),o]/\H2 tl=some (.lst xs)/\Ims H2 xs ((s.rd.take i).map Vl.d)/\Mc C H2 A tu {s with rd:=s.rd.drop i}/\FM A H H2
theorem l7 (T:Txt K mg):MO P w base mg 1 T.e47 (GF T.c5.a):=by
 refine T.e47.F.rd iT fun cdv A0 outer s0 H vs Q E hr h=>?_
 obtain⟨A,tu,s,n,l,rd,rfl,M,hn,ht,q⟩:=h
 refine⟨_,(fA (pS (i:=2) iT.nd (gA fD))
  (fA (iZ PassesOwn.never rfl (nG rfl T.z_range (fz (cv 1) fD)) (pN (i:=3) iT.nd)
   (fG (gh (iP (jl eG eI eJ gr (PE.mono (cv 2)) (fz (PE.mono (we eG eK eL wg (gu T.c5.cl T.n5ready (cv 0)))) fD))))))
  (fG (f7 (xU rfl rfl T.z_list rfl T.z_reversed (fz (cv 2) fD)))))),?_⟩
 have sl:=sizeLine_eq
 obtain⟨t1,t2,t3⟩:=pH ht
 refine⟨n6,fun tl htl=>?_⟩
 have S1:=fE htl (.lst [])
 have M1:=M.same S1
 have nt:=M.new htl
 have e1:(L2.Internal.upd H tl (.lst [])) tl=some (.lst []):=fC
 dsimp only[gJ]
 refine⟨_,rfl,by lia,by lia,nH (TrI T.c5.a A tu s n H tl) ⟨none,[],rfl,e1,.nil,M1,FM.same S1⟩ ?_ ?_⟩
 ·rintro i σ H2 hi ⟨o,xs,rfl,e2,i2,M2,F2⟩
  rw[eZ]at hi
  obtain⟨v,hv⟩:∃v,s.rd[i]?=some v:=⟨_,bz (by lia)⟩
  have hdr:s.rd.drop i=v::s.rd.drop (i+ 1):=by
   obtain⟨z1,z2⟩:=au.mp hv
   rw[bK z1,z2]
  obtain⟨ys,y,er,iy,M3,F3⟩:=M2.rdO hdr
  have e3:(L2.Internal.upd H2 A.rd (.lst ys)) tl=some (.lst xs):=F3.get e2 nt
  have i3:=i2.mono (M2.tk F3)
  have iy3:=iy.mono (M2.tk F3)
  have F03:=F2.trans F3
  refine⟨⟨_,e2⟩,_,⟨_,_,M2.o,qG⟩,.inl ⟨rfl,_,SqL.of er⟩,zU er ⟨xs,e3,?_,?_⟩⟩
  ·rw[i2.length,aC,aI];lia
  dsimp only
  generalize L2.Internal.upd H2 A.rd (.lst ys)=H3 at e3 i3 iy3 F03 M3⊢
  refine⟨_,_,rfl,fC,?_,M3.oth nt e3,F03.upd htl⟩
  rw[bY,hv,bh]
  exact(i3.app (.cons iy3 .nil)).mono (zm e3).tk
 ·rintro σ H2 ⟨o,xs,rfl,e2,i2,M2,F2⟩
  rw[eZ]at i2 M2
  refine⟨tl,xs,rfl,SqL.of e2,fun a ha=>?_⟩
  have S3:=fE ha (.lst xs.reverse)
  refine q _ a _ ?_ fC ?_ (by rw[t3];exact M2.same S3) (F2.trans (FM.same S3))
  ·cases hh:H a with
   |none=>rfl
   |some o=>
    by_cases z:a∈A.all
    ·exact absurd z (M2.new ha)
    ·rw[F2.get hh z]at ha;cases ha
  ·rw[t2,aD,List.map_reverse]
   exact(zT i2).mono (fW.tk S3)
inductive XFp (ρ:Ro) (vs:List V) (H:Hp) (Q:VK):Prop
 |mk (t:Addr) (e:vs=[.ref t]) (it:Im H (.ref t) ρ.d) (q:∀l H',fW H H'->H l=none->H' l=some (.lst ((qM ρ).map V.int))->Q (.ref l) H')
def GG:Sp:=fun vs H Q _=>∃ρ:Ro,ρ.ok/\XFp ρ vs H Q
theorem mF (T:Txt K mg):FO P w base 7 T.d4 GG:=by
 have gD2:=oQ (P:=P) (w:=w) (base:=base) T
 refine T.d4.F.rd qQ fun cdv A0 outer s0 H vs Q E hr h=>?_
 obtain⟨ρ,ro,t,rfl,it,q⟩:=h
 refine⟨_,(fA (gL (gz kF (fV fX (cv 0) fF) fQ)
   (fG (f7 (gA fD)))
   gm)
  (fA (gL (gz kF (fV fX (cv 0) fF) fQ)
   (fG (f7 (gA (fz (fV fX (cv 0) fF) fD))))
   gm)
  (fA (gL (gz kF (fV fX (cv 0) fF) fQ)
   (fG (f7 (gA (fz (fV fX (cv 0) fF) fD))))
   gm)
  (fG (f7 (pF T.d2 gD2 hr.m (fz (cv 0) fD))))))),?_⟩
 obtain⟨ys,et,iy⟩:=BL it
 obtain⟨_,hC,hF,hL⟩:=ρ.hd ro
 cases ρ with
 |fn w k=>exact wW rfl et hF ⟨n6,fun l hl=>q l _ (fE hl _) hl fC⟩
 |lt w a b=>
  cases iy with
  |cons h1 iy=>
   cases iy with
   |cons h2 iy=>
    cases h2
    exact qI rfl et hF (wW rfl et hL ⟨_,et,fN (fH (j:=2) rfl) ⟨tO,fun l hl=>q l _ (fE hl _) hl fC⟩⟩)
 |case a b=>
  cases iy with
  |cons h1 iy=>
   cases h1
   exact qI rfl et hF (qI rfl et hL (wW rfl et hC ⟨_,et,fN (fH (j:=1) rfl) ⟨tO,fun l hl=>q l _ (fE hl _) hl fC⟩⟩))
 |_=>exact qI rfl et hF (qI rfl et hL (qI rfl et hC ⟨t,_,rfl,it,ro,q⟩))
structure Ctx (CP:Addr) (H:Hp) (A:Mad) (names:List Str) (roots:List Nat) (ρs:List Ro) (ho:Nat->Option Hm):Prop where
 p:∃n r w dx xs,PrA CP H A.p n r w dx xs names roots ρs/\A.p∉A.all/\n∉A.all/\r∉A.all/\w∉A.all
 h:∃hs,H A.h=some (.lst hs)/\A.h∉A.all/\∀(k:Nat) (ρ:Ro),ρs[k]?=some ρ->∃y,hs[k]?=some y/\Im H y (hoD (ho k))
 ok:∀ρ∈ρs,ρ.ok
theorem Ctx.fm {C CP:Addr} {H H':Hp} {A:Mad} {tu:Nat} {s:Ms} {names:List Str} {roots:List Nat} {ρs:List Ro} {ho:Nat->Option Hm} (c:Ctx CP H A names roots ρs ho) (M:Mc C H A tu s) (F:FM A H H'):Ctx CP H' A names roots ρs ho:=by
 have k:=M.tk F
 obtain⟨⟨n,r,w,dx,xs,pr,n1,n2,n3,n4⟩,⟨hs,e,n5,hh⟩,ok⟩:=c
 exact⟨⟨n,r,w,dx,xs,⟨F.get pr.o n1,F.get pr.n n2,F.get pr.r n3,F.get pr.w n4,pr.i.mono k⟩,n1,n2,n3,n4⟩,⟨hs,F.get e n5,n5,fun j ρ hj=>let⟨y,a,b⟩:=hh j ρ hj;⟨y,a,b.mono k⟩⟩,ok⟩
theorem nu {p h me ha de st rd:Addr} {tu bg:Int} {en:V}:(fMc p h tu bg en me ha de st rd).lookup ("program":Str)=some (.ref p):=by kernel_rfl
theorem zV {p h me ha de st rd:Addr} {tu bg:Int} {en:V}:(fMc p h tu bg en me ha de st rd).lookup ("homes":Str)=some (.ref h):=by kernel_rfl
theorem CU {p h me ha de st rd:Addr} {tu bg v:Int} {en:V}:mi "begun" (.int v) (fMc p h tu bg en me ha de st rd)=fMc p h tu v en me ha de st rd:=by kernel_rfl
theorem vJ {ρ:Ro} (h:ρ.ok):(qM ρ).length<=101:=by
 cases ρ with
 |rcd l=>have:l.length<=100:=h.1;show(l.map _).length<=_;rw[aC];lia
 |row l=>have:l.length<=100:=h;show l.length<=_;lia
 |op o l=>have:l.length<=100:=h.2;show l.length<=_;lia
 |_=>exact of_decide_eq_true rfl
theorem zW {C:Addr} {H:Hp} {A:Mad} {tu:Nat} {s:Ms} {σ:St} {j i:Nat} {t:Stp} {D:qN} (hσ:σ[0]?=some (some (.ref A.m))) (hp:σ[j]?=some (some (.int t.p))) (hx:σ[i]?=some (some .non)) (M:Mc C H A tu s) (ls:s.st.length<10000000) (k:∀H',Mc C H' A tu {s with st:=t::s.st}->FM A H H'->D.nx σ H'):
  DF (Hq (Ho C "steps" (cV 0)) (Hd (qO (tC (.str t.s)) (qO (cV j) (qO (cV i) Ar))))) D σ H:=by
 have sl:=sizeLine_eq
 show onV σ[0]? _
 rw[hσ]
 obtain⟨xs,e,_⟩:=M.st
 refine⟨_,⟨_,_,M.o,nV⟩,⟨_,e⟩,?_⟩
 show onV σ[j]? _
 rw[hp]
 show onV σ[i]? _
 rw[hx]
 refine⟨nA,fun a ha=>?_⟩
 have S1:=fE ha (.tup [.str t.s,.int t.p,.non])
 have M1:=M.same S1
 have i1:Im (L2.Internal.upd H a (.tup [.str t.s,.int t.p,.non])) (.ref a) t.d:=nk ha (.cons (.flat rfl) (.cons (.flat rfl) (.cons (.flat rfl) .nil)))
 obtain⟨xs1,e1,l1,M2,F2⟩:=M1.stP i1
 exact⟨xs1,e1,by lia,k _ M2 ((FM.same S1).trans F2)⟩
inductive XBe (C CP:Addr) (vs:List V) (H:Hp) (Q:VK):Prop
 |mk (A:Mad) (tu:Nat) (s:Ms) (k:Nat) (ρ:Ro) (names:List Str) (roots:List Nat) (ρs:List Ro) (ho:Nat->Option Hm) (e:vs=[.ref A.m,.int (k:Int),.non]) (M:Mc C H A tu s) (c:Ctx CP H A names roots ρs ho) (ht:s.bg<tu) (hk:ρs[k]?=some ρ) (hb:Bd 9000000 s) (q:∀H',Mc C H' A tu {s with bg:=s.bg+ 1,st:=(qM ρ).map Stp.beg++ .par (k:Int)::s.st}->FM A H H'->Q .non H')
def GH (C CP:Addr):Sp:=fun vs H Q _=>XBe C CP vs H Q
def BgI (C:Addr) (A:Mad) (tu:Nat) (s:Ms) (k:Nat) (ρ:Ro) (H:Hp) (lp:Addr) (i:Nat) (σ:St) (H2:Hp):Prop:=∃(o:Option V),σ=[some (.ref A.m),some (.int (k:Int)),some .non,o]/\Mc C H2 A tu {s with bg:=s.bg+ 1,st:=((qM ρ).drop ((qM ρ).length-i)).map Stp.beg++ .par (k:Int)::s.st}/\FM A H H2/\H2 lp=some (.lst ((qM ρ).map V.int))
theorem pf (T:Txt K mg):MO P w base mg 8 T.e45 (GH T.c5.a T.c7.a):=by
 have gD4:=mF (P:=P) (w:=w) (base:=base) T
 refine T.e45.F.rd lE fun cdv A0 outer s0 H vs Q E hr h=>?_
 obtain⟨A,tu,s,k,ρ,names,roots,ρs,ho,rfl,M,c,ht,hk,hb,q⟩:=h
 refine⟨_,(fA (gL (gz Ge (gu T.c5.cl T.n5begun (cv 0)) (gu T.c5.cl T.n5turns (cv 0)))
   (fA (iJ T.c5.cl T.n5end (iN (PE.mono (cv 0)) (PE.mono fQ) rfl))
   (fG yu))
   gm)
  (fA (tR (cv 0) fF Bt)
  (fA (gh (iP (jl eG eI eJ gr (PE.mono (gu T.c5.cl T.n5steps (cv 0))) (fz (PE.mono (gC (fz fQ (fz (cv 1) (fz (cv 2) fD))))) fD))))
  (fG (iZ PassesOwn.never rfl (Eb rfl T.z_reversed (fz (pF T.d4 gD4 hr.m (fz (fV fY (gu T.c7.cl T.n7rows (gu T.c5.cl T.n5program (cv 0))) (cv 1)) fD)) fD)) (pN (i:=3) lE.nd)
   (fG (gh (iP (jl eG eI eJ gr (PE.mono (gu T.c5.cl T.n5steps (cv 0))) (fz (PE.mono (gC (fz fQ (fz (cv 3) (fz (cv 2) fD))))) fD)))))))))),?_⟩
 have sl:=sizeLine_eq
 refine⟨_,⟨_,_,M.o,qH⟩,_,⟨_,_,M.o,zS⟩,?_⟩
 refine EC (by lia) (iO ?_)
 obtain⟨M1,F1⟩:=M.setO (s.bg+ 1) s.en
 refine⟨A.m,_,_,_,_,rfl,M.o,T.c5.cl,T.n5begun,qH,?_⟩
 refine⟨_,_,rfl,rfl,_,_,M.o,by show 10<1000;decide,?_⟩
 rw[show((s.bg:Int)+ 1)=((s.bg+ 1:Nat):Int) by lia,CU]
 have c1:=c.fm M F1
 dsimp only
 generalize L2.Internal.upd H A.m (.ins T.c5.a A.dx (fMc A.p A.h tu ((s.bg+ 1:Nat):Int) (enV s.en) A.me A.ha A.de A.st A.rd))=H1 at M1 F1 c1⊢
 have lst:=hb.2.2.2.1
 refine zW (t:= .par (k:Int)) rfl rfl rfl M1 (by show s.st.length<_;lia) fun H2 M2 F2=>?_
 have F02:=F1.trans F2
 have c2:=c1.fm M1 F2
 obtain⟨n,r,w,dx,xs,pr,n1,n2,n3,n4⟩:=c2.p
 obtain⟨tr,ys,hxt,etr,_,him⟩:=sS pr.i hk
 have rok:=c.ok ρ (aN hk)
 refine⟨_,⟨_,_,M2.o,nu⟩,_,⟨_,_,pr.o,sR _ _ _⟩,_,pr.w,fN (fH hxt) ⟨ρ,rok,tr,rfl,him,fun lp H3 S3 hlp e3=>?_⟩⟩
 have M3:=M2.same S3
 have nl:=M2.new hlp
 have fl:(qM ρ).length<=101:=vJ rok
 refine⟨lp,_,rfl,SqL.of e3,CT (xs:=(qM ρ).map V.int) (BgI T.c5.a A tu s k ρ H lp) ⟨none,rfl,?_,F02.trans (FM.same S3),e3⟩ (fun i σ H4 _ ⟨_,_,_,_,e⟩=>SqL.of e) ?_ ?_⟩
 ·rw[Nat.sub_zero,bV]
  exact M3
 ·rintro i v σ H4 hi hx ⟨o,rfl,M4,F4,e4⟩
  rw[aC]at hi hx
  rw[aM]at hx
  obtain⟨j,hj,rfl⟩:=da.mp hx
  refine zW (t:= .beg j) rfl rfl rfl M4 ?_ fun H5 M5 F5=>⟨_,rfl,?_,F4.trans F5,F5.get e4 nl⟩
  ·show(((qM ρ).drop _).map _++_::s.st).length<_
   rw[aO,aC,az,aW]
   lia
  ·have e:(qM ρ).drop ((qM ρ).length-(i+ 1))=j::(qM ρ).drop ((qM ρ).length-i):=by
    obtain⟨z1,z2⟩:=au.mp hj
    rw[show(qM ρ).length-(i+ 1)=(qM ρ).length-1-i by lia,bK z1,z2,show(qM ρ).length-1-i+ 1=(qM ρ).length-i by lia]
   rw[e]
   exact M5
 ·rintro σ H4 ⟨o,rfl,M4,F4,e4⟩
  rw[aC,cM,b0]at M4
  exact q _ M4 F4
theorem ED {i:Nat} {x s:Str} {t:Addr} {ys:List V} {σ:St} {H:Hp} {T u:TS} {D:qN} (hσ:σ[i]?=some (some (.ref t))) (et:H t=some (.tup (.str s::ys))) (e:decide (s=x)=false) (h:u D σ H):Bo (hdT i x) T u D σ H:=wU hσ et e (iO h)
theorem zX {i:Nat} {x s:Str} {t:Addr} {ys:List V} {σ:St} {H:Hp} {T u:TS} {D:qN} (hσ:σ[i]?=some (some (.ref t))) (et:H t=some (.tup (.str s::ys))) (e:decide (s=x)=true) (h:T D σ H):Bo (hdT i x) T u D σ H:=wU hσ et e (jm h)
theorem GI {H:Hp} {xs:List V} {a b:Vl} (h:Ims H xs ([a,b].map Vl.d)):∃x y,xs=[x,y]/\Im H x a.d/\Im H y b.d:=by
 cases h with
 |cons h1 h=>
  cases h with
  |cons h2 h=>cases h;exact⟨_,_,rfl,h1,h2⟩
theorem vK {H:Hp} {x:V} {a b:Dt} (h:Im H x (.tup [a,b])):∃t y z,x= .ref t/\H t=some (.tup [y,z])/\Im H y a/\Im H z b:=by
 cases h with
 |tup e i=>
  cases i with
  |cons h1 i=>
   cases i with
   |cons h2 i=>cases i;exact⟨_,_,_,rfl,e,h1,h2⟩
theorem nX {H:Hp} {x:V} {n p:Int} (h:Im H x (Vl.num n p).d):∃t,x= .ref t/\H t=some (.tup [.str "num",.int n,.int p]):=by
 obtain⟨t,y,rfl,e,i⟩:=oR h
 cases(show Im H y (kD n)from i)
 exact⟨t,rfl,e⟩
theorem Bd.le {n m:Nat} {s:Ms} (h:Bd n s) (k:autoParam (n<=m) L2.Internal.auD._auto_1):Bd m s:=h.mono k
theorem Bd.come {v:Vl} {p k:Int} {s:Ms} {n:Nat} (h:Bd n s):Bd (n+ 1) (qX v p k s):=by
 obtain⟨a,b,c,d,e⟩:=h
 exact⟨cP a,cQ b,cQ c,cQ d,cQ e⟩
theorem wX {C:Addr} {H:Hp} {A:Mad} {tu:Nat} {s:Ms} {k:Int} {a:Addr} {xs:List V} {ds:List Dt} {v:Vl} {Q:VK} (M:Mc C H A tu s) (hb:Bd 9500000 s) (ha:H a=none) (i:Ims H xs ds) (hv:v.d= .tup ds) (q:∀H',Mc C H' A tu (Au k v s)->FM A H H'->Q .non H'):wR C [.ref A.m,.int k,.ref a] (L2.Internal.upd H a (.tup xs)) Q E0:=
 have b1:=hb.2.1
 have b2:=hb.2.2.2.2
 ⟨A,tu,s,k,_,v,rfl,M.same (fE ha _),by rw[hv];exact nk ha i,by lia,by lia,fun H' M' F'=>q H' M' ((FM.same (fE ha _)).trans F')⟩
theorem CV {C:Addr} {H:Hp} {A:Mad} {tu:Nat} {s:Ms} {k:Int} {x:V} {v:Vl} {Q:VK} (M:Mc C H A tu s) (hb:Bd 9500000 s) (i:Im H x v.d) (q:∀H',Mc C H' A tu (Au k v s)->FM A H H'->Q .non H'):wR C [.ref A.m,.int k,x] H Q E0:=
 have b1:=hb.2.1
 have b2:=hb.2.2.2.2
 ⟨A,tu,s,k,_,v,rfl,M,i,by lia,by lia,q⟩
theorem BM {C:Addr} {H:Hp} {A:Mad} {tu:Nat} {s:Ms} {k:Int} {a1 a2 a3 a:Addr} {f:Bool} {Q:VK} (M:Mc C H A tu s) (hb:Bd 9500000 s) (h1:H a1=none) (h2:(L2.Internal.upd H a1 (.tup [])) a2=none) (h3:(L2.Internal.upd (L2.Internal.upd H a1 (.tup [])) a2 (.tup [.str "rec",.ref a1,.int k])) a3=none)
  (h4:(L2.Internal.upd (L2.Internal.upd (L2.Internal.upd H a1 (.tup [])) a2 (.tup [.str "rec",.ref a1,.int k])) a3 (.tup [.str (ynS f),.ref a2])) a=none) (q:∀H',Mc C H' A tu (Au k (.yes f k) s)->FM A H H'->Q .non H'):
  wR C [.ref A.m,.int k,.ref a] (L2.Internal.upd (L2.Internal.upd (L2.Internal.upd (L2.Internal.upd H a1 (.tup [])) a2 (.tup [.str "rec",.ref a1,.int k])) a3 (.tup [.str (ynS f),.ref a2])) a (.tup [.str "tag",.ref a3,.int k])) Q E0:=by
 have S:=((fE h1 (.tup [])).trans (fE h2 (.tup [.str "rec",.ref a1,.int k]))).trans (fE h3 (.tup [.str (ynS f),.ref a2]))
 exact wX (v:= .yes f k) (M.same S) hb h4 (.cons (.flat rfl) (.cons (nk h3 (.cons (.flat rfl) (.cons (nk h2 (.cons (.flat rfl) (.cons (nk h1 .nil) (.cons (.flat rfl) .nil)))) .nil))) (.cons (.flat rfl) .nil))) rfl fun H' M' F'=>q H' M' ((FM.same S).trans F')
inductive XW (C CP:Addr) (U:Ro->Prop) (vs:List V) (H:Hp) (Q:VK):Prop
 |mk (A:Mad) (tu:Nat) (s s':Ms) (k:Nat) (t ps:Addr) (xs:List V) (l:List Vl) (ρ:Ro) (names:List Str) (roots:List Nat) (ρs:List Ro) (ho:Nat->Option Hm) (e:vs=[.ref A.m,.ref t,.int (k:Int),.non,.ref ps]) (M:Mc C H A tu s) (c:Ctx CP H A names roots ρs ho) (hk:ρs[k]?=some ρ) (hu:U ρ) (it:Im H (.ref t) ρ.d) (ep:H ps=some (.lst xs)) (np:ps∉A.all) (il:Ims H xs (l.map Vl.d)) (hb:Bd 9000000 s) (hw:Wm (ho k) k s ρ l s') (q:∀H',Mc C H' A tu s'->FM A H H'->Q .non H')
def qJ (C CP:Addr) (U:Ro->Prop):Sp:=fun vs H Q _=>XW C CP U vs H Q
theorem vL (T:Txt K mg):FO P w base 4 T.d6 (qJ T.c5.a T.c7.a fun ρ=>∃n,ρ= .num n):=by
 have gE48:=gY (P:=P) (w:=w) (base:=base) T
 refine T.d6.F.rd vz fun cdv A0 outer s0 H vs Q E hr h=>?_
 obtain⟨A,tu,s,s',k,t,ps,xs,l,ρ,names,roots,ρs,ho,rfl,M,c,hk,⟨n,rfl⟩,it,ep,np,il,hb,hw,q⟩:=h
 refine⟨_,(fG (gh (hV (gE (PE.mono (cv 0)) T.c5.cl T.e48.me gE48 hr.m T.e48.b .nil jq (fz (cv 2) (fz (gC (fz fQ (fz (fV fX (cv 1) fF) (fz (cv 2) fD)))) fD)))))),?_⟩
 obtain⟨ys,et,iy⟩:=BL it
 cases iy with
 |cons h1 iy=>
  cases h1
  cases hw
  exact⟨⟨_,_,M.o,jN gq⟩,_,et,fN (fH (j:=1) rfl) ⟨nA,fun a ha=>wX (v:= .num n k) M hb.le ha (.cons (.flat rfl) (.cons (.flat rfl) (.cons (.flat rfl) .nil))) rfl q⟩⟩
theorem uM (T:Txt K mg):FO P w base 4 T.d7 (qJ T.c5.a T.c7.a fun ρ=>∃n,ρ= .name n):=by
 have gE48:=gY (P:=P) (w:=w) (base:=base) T
 have gD5:FO P w base 1 T.d5 (fun _ _ _ _=>False):=T.d5.F.ok sL (fun vs H Q E h=>h.elim) (fun cdv A0 outer s0 H vs Q E hr h=>h.elim)
 refine T.d7.F.rd oN fun cdv A0 outer s0 H vs Q E hr h=>?_
 obtain⟨A,tu,s,s',k,t,ps,xs,l,ρ,names,roots,ρs,ho,rfl,M,c,hk,⟨n,rfl⟩,it,ep,np,il,hb,hw,q⟩:=h
 refine⟨_,(fA (pS (i:=5) oN.nd (fV fY (gu T.c5.cl T.n5homes (cv 0)) (cv 2)))
  (fG (gL (gz kF (fV fX (cv 5) fF) fQ)
   (fG (gh (hV (gE (PE.mono (cv 0)) T.c5.cl T.e48.me gE48 hr.m T.e48.b .nil jq (fz (cv 2) (fz (fV fY (gu T.c5.cl T.n5defined (cv 0)) (fV fX (cv 5) fF)) fD))))))
   (fG (gh (hV (gE (PE.mono (cv 0)) T.c5.cl T.e48.me gE48 hr.m T.e48.b .nil jq (fz (cv 2) (fz (pF T.d5 gD5 hr.m (fz (cv 3) (fz (fV fX (cv 5) fF) fD))) fD))))))))),?_⟩
 obtain⟨hs,eh,_,hh⟩:=c.h
 obtain⟨y,ey,iy⟩:=hh k _ hk
 cases hw with
 |@name _ h v e hv=>
  rw[e]at iy
  obtain⟨th,y1,y2,rfl,eth,i1,i2⟩:=vK (show Im H y (.tup [.flat (.str "def"),.flat (.int h)])from iy)
  cases i1
  cases i2
  refine⟨_,⟨_,_,M.o,zV⟩,_,eh,fN (fH ey) ?_⟩
  dsimp only[gJ]
  obtain⟨zs,ez,iz⟩:=M.de
  have lz:=iz.length
  rw[aC]at lz
  have hjl:=(au.mp hv).1
  obtain⟨d,hd',im⟩:=kz iz (bz (show h<zs.length by lia))
  rw[aM,hv]at hd'
  cases hd'
  refine zX rfl eth (gR rfl) ?_
  exact⟨⟨_,_,M.o,jN gq⟩,_,⟨_,_,M.o,nj⟩,_,eth,fN (fH (j:=1) rfl) ⟨_,ez,fN (fH (bz (show h<zs.length by lia))) (CV M hb.le im q)⟩⟩
theorem vM (T:Txt K mg):FO P w base 4 T.d8 (qJ T.c5.a T.c7.a fun ρ=>∃ks,ρ= .op "add" ks):=by
 have gE51:=iF (P:=P) (w:=w) (base:=base) T
 have gE48:=gY (P:=P) (w:=w) (base:=base) T
 refine T.d8.F.rd vA fun cdv A0 outer s0 H vs Q E hr h=>?_
 obtain⟨A,tu,s,s',k,t,ps,xs,l,ρ,names,roots,ρs,ho,rfl,M,c,hk,⟨ks,rfl⟩,it,ep,np,il,hb,hw,q⟩:=h
 refine⟨_,(fG (gL (jk (hV (gE (PE.mono (cv 0)) T.c5.cl T.e51.me gE51 hr.m T.e51.b .nil jq (fz fQ (fz (cv 4) (fz (cv 2) fD))))))
   (fG (gh (hV (gE (PE.mono (cv 0)) T.c5.cl T.e48.me gE48 hr.m T.e48.b .nil jq (fz (cv 2) (fz (gC (fz fQ (fz (gK oM (fV fX (fV fY (cv 4) fF) fF) (fV fX (fV fY (cv 4) fF) fF)) (fz (cv 2) fD)))) fD))))))
   gm)),?_⟩
 cases hw with
 |@op _ _ n m pn pm _=>
  obtain⟨x0,x1,rfl,i0,i1⟩:=GI il
  have b1:=hb.1
  refine⟨⟨_,_,M.o,jN gq⟩,A,tu,s,ps,x0,x1,.num n pn,.num m pm,k,rfl,M,ep,fun z=>np (by rw[z];exact ah),fun z=>np (aj _ z),i0,i1,rfl,by lia,fun H1 M1 F1=>?_⟩
  obtain⟨ta,rfl,eta⟩:=nX (i0.mono (M.tk F1))
  obtain⟨tb,rfl,etb⟩:=nX (i1.mono (M.tk F1))
  have ep1:=F1.get ep np
  exact⟨_,rfl,jm ⟨⟨_,_,M1.o,jN gq⟩,_,ep1,fN (fH (j:=0) rfl) ⟨_,eta,fN (fH (j:=1) rfl) ⟨_,ep1,fN (fH (j:=1) rfl) ⟨_,etb,fN (fH (j:=1) rfl) ⟨nA,fun a' ha=>wX (v:=opV "add" n m k) M1 hb.come.come.le ha (.cons (.flat rfl) (.cons (.flat rfl) (.cons (.flat rfl) .nil))) rfl fun H' M' F'=>q H' M' (F1.trans F')⟩⟩⟩⟩⟩⟩
theorem vN (T:Txt K mg):FO P w base 4 T.d9 (qJ T.c5.a T.c7.a fun ρ=>∃ks,ρ= .op "sub" ks):=by
 have gE51:=iF (P:=P) (w:=w) (base:=base) T
 have gE48:=gY (P:=P) (w:=w) (base:=base) T
 refine T.d9.F.rd vB fun cdv A0 outer s0 H vs Q E hr h=>?_
 obtain⟨A,tu,s,s',k,t,ps,xs,l,ρ,names,roots,ρs,ho,rfl,M,c,hk,⟨ks,rfl⟩,it,ep,np,il,hb,hw,q⟩:=h
 refine⟨_,(fG (gL (jk (hV (gE (PE.mono (cv 0)) T.c5.cl T.e51.me gE51 hr.m T.e51.b .nil jq (fz fQ (fz (cv 4) (fz (cv 2) fD))))))
   (fG (gh (hV (gE (PE.mono (cv 0)) T.c5.cl T.e48.me gE48 hr.m T.e48.b .nil jq (fz (cv 2) (fz (gC (fz fQ (fz (gK zp (fV fX (fV fY (cv 4) fF) fF) (fV fX (fV fY (cv 4) fF) fF)) (fz (cv 2) fD)))) fD))))))
   gm)),?_⟩
 cases hw with
 |@op _ _ n m pn pm _=>
  obtain⟨x0,x1,rfl,i0,i1⟩:=GI il
  have b1:=hb.1
  refine⟨⟨_,_,M.o,jN gq⟩,A,tu,s,ps,x0,x1,.num n pn,.num m pm,k,rfl,M,ep,fun z=>np (by rw[z];exact ah),fun z=>np (aj _ z),i0,i1,rfl,by lia,fun H1 M1 F1=>?_⟩
  obtain⟨ta,rfl,eta⟩:=nX (i0.mono (M.tk F1))
  obtain⟨tb,rfl,etb⟩:=nX (i1.mono (M.tk F1))
  have ep1:=F1.get ep np
  exact⟨_,rfl,jm ⟨⟨_,_,M1.o,jN gq⟩,_,ep1,fN (fH (j:=0) rfl) ⟨_,eta,fN (fH (j:=1) rfl) ⟨_,ep1,fN (fH (j:=1) rfl) ⟨_,etb,fN (fH (j:=1) rfl) ⟨nA,fun a' ha=>wX (v:=opV "sub" n m k) M1 hb.come.come.le ha (.cons (.flat rfl) (.cons (.flat rfl) (.cons (.flat rfl) .nil))) rfl fun H' M' F'=>q H' M' (F1.trans F')⟩⟩⟩⟩⟩⟩
theorem uN (T:Txt K mg):FO P w base 4 T.d10 (qJ T.c5.a T.c7.a fun ρ=>∃ks,ρ= .op "less" ks):=by
 have gE51:=iF (P:=P) (w:=w) (base:=base) T
 have gE48:=gY (P:=P) (w:=w) (base:=base) T
 refine T.d10.F.rd oO fun cdv A0 outer s0 H vs Q E hr h=>?_
 obtain⟨A,tu,s,s',k,t,ps,xs,l,ρ,names,roots,ρs,ho,rfl,M,c,hk,⟨ks,rfl⟩,it,ep,np,il,hb,hw,q⟩:=h
 refine⟨_,(fG (gL (jk (hV (gE (PE.mono (cv 0)) T.c5.cl T.e51.me gE51 hr.m T.e51.b .nil jq (fz fQ (fz (cv 4) (fz (cv 2) fD))))))
   (fA (pS (i:=5) oO.nd (r8 (gz D9 (fV fX (fV fY (cv 4) fF) fF) (fV fX (fV fY (cv 4) fF) fF)) fQ fQ))
   (fG (gh (hV (gE (PE.mono (cv 0)) T.c5.cl T.e48.me gE48 hr.m T.e48.b .nil jq (fz (cv 2) (fz (gC (fz fQ (fz (gC (fz (cv 5) (fz (gC (fz fQ (fz (gC fD) (fz (cv 2) fD)))) fD))) (fz (cv 2) fD)))) fD)))))))
   gm)),?_⟩
 cases hw with
 |@op _ _ n m pn pm _=>
  obtain⟨x0,x1,rfl,i0,i1⟩:=GI il
  have b1:=hb.1
  refine⟨⟨_,_,M.o,jN gq⟩,A,tu,s,ps,x0,x1,.num n pn,.num m pm,k,rfl,M,ep,fun z=>np (by rw[z];exact ah),fun z=>np (aj _ z),i0,i1,rfl,by lia,fun H1 M1 F1=>?_⟩
  obtain⟨ta,rfl,eta⟩:=nX (i0.mono (M.tk F1))
  obtain⟨tb,rfl,etb⟩:=nX (i1.mono (M.tk F1))
  have ep1:=F1.get ep np
  refine⟨_,rfl,jm ⟨_,ep1,fN (fH (j:=0) rfl) ⟨_,eta,fN (fH (j:=1) rfl) ⟨_,ep1,fN (fH (j:=1) rfl) ⟨_,etb,fN (fH (j:=1) rfl) ?_⟩⟩⟩⟩⟩
  dsimp only[cI0,onB]
  have q:∀H',Mc T.c5.a H' A tu (Au k (.yes (decide (n<m)) k) (qX (.num m pm) k 1 (qX (.num n pn) k 0 s)))->FM A H H'->Q .non H':=q
  cases hd:decide (n<m)with
  |true=>
   refine jm ?_
   rw[hd]at q
   dsimp only[gJ,tC]
   exact⟨⟨_,_,M1.o,jN gq⟩,n6,fun a1 h1=>⟨nA,fun a2 h2=>⟨my,fun a3 h3=>⟨nA,fun a' ha=>BM (f:=true) M1 hb.come.come.le h1 h2 h3 ha fun H' M' F'=>q H' M' (F1.trans F')⟩⟩⟩⟩
  |false=>
   refine iO ?_
   rw[hd]at q
   dsimp only[gJ,tC]
   exact⟨⟨_,_,M1.o,jN gq⟩,n6,fun a1 h1=>⟨nA,fun a2 h2=>⟨my,fun a3 h3=>⟨nA,fun a' ha=>BM (f:=false) M1 hb.come.come.le h1 h2 h3 ha fun H' M' F'=>q H' M' (F1.trans F')⟩⟩⟩⟩
inductive WkS (T:Txt K mg):Addr->Sp->Prop
 |num:WkS T T.d6.a (qJ T.c5.a T.c7.a fun ρ=>∃n,ρ= .num n)
 |name:WkS T T.d7.a (qJ T.c5.a T.c7.a fun ρ=>∃n,ρ= .name n)
 |add:WkS T T.d8.a (qJ T.c5.a T.c7.a fun ρ=>∃ks,ρ= .op "add" ks)
 |sub:WkS T T.d9.a (qJ T.c5.a T.c7.a fun ρ=>∃ks,ρ= .op "sub" ks)
 |less:WkS T T.d10.a (qJ T.c5.a T.c7.a fun ρ=>∃ks,ρ= .op "less" ks)
theorem WkS.at {T:Txt K mg} {X:Cx} (e1:X.prog=P) (e2:X.w=w) (e3:X.K=K) (e4:X.mg=mg) (e5:X.base=base) {f:Addr} {sp:Sp} (h:WkS T f sp):Hu X CX0 4 f sp:=by
 subst e1 e2 e3 e4 e5
 cases h with
 |num=>exact⟨_,_,vL T,T.d6.k,T.d6.b⟩
 |name=>exact⟨_,_,uM T,T.d7.k,T.d7.b⟩
 |add=>exact⟨_,_,vM T,T.d8.k,T.d8.b⟩
 |sub=>exact⟨_,_,vN T,T.d9.k,T.d9.b⟩
 |less=>exact⟨_,_,uN T,T.d10.k,T.d10.b⟩
structure Wk (P:Program) (w:World) (T:Txt K mg) where
 a:Addr
 m:mg "WORKERS"=some (.ref a)
 kvs:List (Key×V)
 kd:zd P w K a kvs
 yes:∀{hm p s ρ l s'},Wm hm p s ρ l s'->∃f U,je kvs (Sum.inr ρ.s)=some (.ref f)/\WkS T f (qJ T.c5.a T.c7.a U)/\U ρ
inductive XWp (C CP:Addr) (vs:List V) (H:Hp) (Q:VK):Prop
 |mk (A:Mad) (tu:Nat) (s s':Ms) (k:Nat) (ρ:Ro) (l rd:List Vl) (names:List Str) (roots:List Nat) (ρs:List Ro) (ho:Nat->Option Hm) (e:vs=[.ref A.m,.int (k:Int),.non]) (M:Mc C H A tu s) (c:Ctx CP H A names roots ρs ho) (hk:ρs[k]?=some ρ) (hb:Bd 9000000 s) (ht:tkR (qM ρ).length s.rd []=some (l,rd)) (hw:Wm (ho k) k {s with rd:=rd} ρ l s') (q:∀H',Mc C H' A tu s'->FM A H H'->Q .non H')
def GJ (C CP:Addr):Sp:=fun vs H Q _=>XWp C CP vs H Q
theorem l8 (T:Txt K mg) (W:Wk P w T):MO P w base mg 8 T.e46 (GJ T.c5.a T.c7.a):=by
 have gD4:=mF (P:=P) (w:=w) (base:=base) T
 have gE47:=l7 (P:=P) (w:=w) (base:=base) T
 refine T.e46.F.rd jK fun cdv A0 outer s0 H vs Q E hr h=>?_
 obtain⟨A,tu,s,s',k,ρ,l,rd,names,roots,ρs,ho,rfl,M,c,hk,hb,ht,hw,q⟩:=h
 refine⟨_,(fA (pS (i:=3) jK.nd (fV fY (gu T.c7.cl T.n7rows (gu T.c5.cl T.n5program (cv 0))) (cv 1)))
  (fG (gh (AU (fun f sp (h:WkS T f sp)=>h.at rfl rfl rfl rfl rfl) hr.m jq (zf W.kd (AK rfl W.m) (fV fX (cv 3) fF)) (fz (cv 0) (fz (cv 3) (fz (cv 1) (fz (cv 2) (fz (hV (gE (PE.mono (cv 0)) T.c5.cl T.e47.me gE47 hr.m T.e47.b .nil jq (fz (gg gy rfl T.z_len jf (fz (pF T.d4 gD4 hr.m (fz (cv 3) fD)) fD)) fD))) fD))))))))),?_⟩
 obtain⟨n,r,w,dx,xs,pr,n1,n2,n3,n4⟩:=c.p
 obtain⟨tr,ys,hxt,etr,_,him⟩:=sS pr.i hk
 have rok:=c.ok ρ (aN hk)
 obtain⟨f,U,hv,hS,hU⟩:=W.yes hw
 refine⟨_,⟨_,_,M.o,nu⟩,_,⟨_,_,pr.o,sR _ _ _⟩,_,pr.w,fN (fH hxt) ?_⟩
 dsimp only[gJ]
 refine⟨_,etr,fN (fH (j:=0) rfl) ⟨Sum.inr ρ.s,_,rfl,rfl,hv,f,_,rfl,hS,?_⟩⟩
 refine⟨⟨_,_,M.o,jN gq⟩,ρ,rok,tr,rfl,him,fun lp H1 S1 hlp e1=>?_⟩
 have M1:=M.same S1
 have fl:(qM ρ).length<=101:=vJ rok
 refine⟨lp,_,rfl,.inl (SqL.of e1),A,tu,s,(qM ρ).length,l,rd,?_,M1,by lia,ht,fun H2 ps zs h0 ep iz M2 F2=>?_⟩
 ·rw[aC];rfl
 have c2:=(c.fm M (FM.same S1)).fm M1 F2
 have k2:TK H H2:=fun a xs e=>M1.tk F2 _ _ (fW.tk S1 _ _ e)
 have F02:=(FM.same (A:=A) S1).trans F2
 obtain⟨t1,_,t3⟩:=pH ht
 refine⟨A,tu,_,s',k,tr,ps,zs,l,ρ,names,roots,ρs,ho,rfl,M2,c2,hk,hU,him.mono k2,ep,M1.new h0,iz,?_,hw,fun H' M' F'=>q H' M' (F02.trans F')⟩
 obtain⟨b1,b2,b3,b4,b5⟩:=hb
 exact⟨b1,b2,b3,b4,by show rd.length<=_;rw[t3,aW];lia⟩
inductive yo (ρs:List Ro) (ho:Nat->Option Hm) (tu:Nat):Nat->Ms->Ms->Prop
 |stop {s:Ms} (h:s.st=[]):yo ρs ho tu 0 s s
 |step {n:Nat} {s s' s2:Ms} (h:Sp1 ρs ho tu s s') (r:yo ρs ho tu n s' s2):yo ρs ho tu (n+ 1) s s2
theorem GK {hm:Option Hm} {p:Int} {ρ:Ro} {l:List Vl} {s s':Ms} {n:Nat} (h:Wm hm p s ρ l s') (b:Bd n s):Bd (n+ 3) s'/\s'.en=s.en:=by
 have fi:∀{v:Vl} {s:Ms} {n:Nat},Bd n s->Bd (n+ 1) (Au p v s):=fun⟨b1,b2,b3,b4,b5⟩=>⟨cQ b1,cP b2,cQ b3,cQ b4,cP b5⟩
 cases h with
 |num=>exact⟨(fi b).mono (by lia),rfl⟩
 |name e hv=>exact⟨(fi b).mono (by lia),rfl⟩
 |op ho=>exact⟨fi b.come.come,rfl⟩
theorem zY {ρs:List Ro} {ho:Nat->Option Hm} {tu n:Nat} {s s':Ms} (ok:∀ρ∈ρs,ρ.ok) (h:Sp1 ρs ho tu s s') (b:Bd n s):Bd (n+ 200) s'/\s'.en=s.en:=by
 obtain⟨b1,b2,b3,b4,b5⟩:=b
 cases h with
 |@beg p ρ r hs hk hb=>
  have fl:=vJ (ok ρ (aN hk))
  rw[hs,az]at b4
  exact⟨⟨by show s.me.length<=_;lia,by show s.ha.length<=_;lia,by show s.de.length<=_;lia,by show(List.map _ _++_::r).length<=_;rw[aO,aC,az];lia,by show s.rd.length<=_;lia⟩,rfl⟩
 |@par p ρ r l rd _ hs hk ht hw=>
  obtain⟨_,_,t3⟩:=pH ht
  rw[hs,az]at b4
  obtain⟨c,e⟩:=GK (n:=n) hw ⟨b1,b2,b3,by show r.length<=_;lia,by show rd.length<=_;rw[t3,aW];lia⟩
  exact⟨c.mono (by lia),e⟩
theorem yo.bd {ρs:List Ro} {ho:Nat->Option Hm} {tu n:Nat} {s s':Ms} (ok:∀ρ∈ρs,ρ.ok) (r:yo ρs ho tu n s s'):∀{b:Nat},Bd b s->Bd (b+ 200*n) s'/\s'.en=s.en:=by
 induction r with
 |stop h=>exact fun hb=>⟨hb,rfl⟩
 |step h r ih=>
  intro b hb
  obtain⟨h1,h2⟩:=zY ok h hb
  obtain⟨h3,h4⟩:=ih h1
  exact⟨h3.mono (by lia),h4.trans h2⟩
theorem EE {H:Hp} {x:V} {t:Stp} (h:Im H x t.d):∃a,x= .ref a/\H a=some (.tup [.str t.s,.int t.p,.non]):=by
 unfold Stp.d at h
 cases h with
 |tup e i=>
  cases i with
  |cons h1 i=>
   cases h1
   cases i with
   |cons h2 i=>
    cases h2
    cases i with
    |cons h3 i=>cases h3;cases i;exact⟨_,rfl,e⟩
inductive XWs (C CP:Addr) (vs:List V) (H:Hp) (Q:VK):Prop
 |mk (A:Mad) (tu n b:Nat) (s s':Ms) (names:List Str) (roots:List Nat) (ρs:List Ro) (ho:Nat->Option Hm) (e:vs=[.ref A.m]) (M:Mc C H A tu s) (c:Ctx CP H A names roots ρs ho) (r:yo ρs ho tu n s s') (he:s.en=none) (hb:Bd b s) (hn:b+ 200*n<=9000000) (q:∀H',Mc C H' A tu s'->FM A H H'->Q .non H')
def GL (C CP:Addr):Sp:=fun vs H Q _=>XWs C CP vs H Q
def WsI (C CP:Addr) (A:Mad) (tu:Nat) (s':Ms) (ρs:List Ro) (ho:Nat->Option Hm) (H:Hp) (m:Nat) (σ:St) (H2:Hp):Prop:=∃(o:Option V) (s1:Ms) (b:Nat),σ=[some (.ref A.m),o]/\Mc C H2 A tu s1/\FM A H H2/\yo ρs ho tu m s1 s'/\s1.en=none/\Bd b s1/\b+ 200*m<=9000000
theorem md (T:Txt K mg) (W:Wk P w T):MO P w base mg 9 T.e44 (GL T.c5.a T.c7.a):=by
 have gE45:=pf (P:=P) (w:=w) (base:=base) T
 have gE46:=l8 (base:=base) T W
 have gE48:=gY (P:=P) (w:=w) (base:=base) T
 refine T.e44.F.rd jJ fun cdv A0 outer s0 H vs Q E hr h=>?_
 obtain⟨A,tu,n,b,s,s',names,roots,ρs,ho,rfl,M,c,r,he,hb,hn,q⟩:=h
 refine⟨_,(fG (nF PassesOwn.never (PW.pt (DD (rp (Bn (gu T.c5.cl T.n5end (cv 0)))) (BZ (gz Gd (gg gy rfl T.z_len jf (fz (gu T.c5.cl T.n5steps (cv 0)) fD)) fF))))
   (fA (pS (i:=1) jJ.nd (we eG eK eL wg (gu T.c5.cl T.n5steps (cv 0))))
   (fG (gL (gz kF (fV fX (cv 1) fF) fQ)
    (fG (gh (hV (gE (PE.mono (cv 0)) T.c5.cl T.e45.me gE45 hr.m T.e45.b .nil jq (fz (fV fX (cv 1) fF) (fz (fV fX (cv 1) fF) fD))))))
    (fG (gL (gz kF (fV fX (cv 1) fF) fQ)
     (fG (gh (hV (gE (PE.mono (cv 0)) T.c5.cl T.e46.me gE46 hr.m T.e46.b .nil jq (fz (fV fX (cv 1) fF) (fz (fV fX (cv 1) fF) fD))))))
     (fG (gh (hV (gE (PE.mono (cv 0)) T.c5.cl T.e48.me gE48 hr.m T.e48.b .nil jq (fz (fV fX (cv 1) fF) (fz (we eG eK eL wg (gu T.c5.cl T.n5ready (cv 0))) fD))))))))))))),?_⟩
 refine⟨WsI T.c5.a T.c7.a A tu s' ρs ho H,⟨n,none,s,b,rfl,M,FM.refl,r,he,hb,hn⟩,?_⟩
 rintro m σ H2 ⟨o,s1,b,rfl,M2,F2,r,he,hb,hn⟩
 have c2:=c.fm M F2
 refine⟨_,⟨_,_,M2.o,sV⟩,_,rfl,?_⟩
 rw[he]
 refine jm ⟨_,⟨_,_,M2.o,nV⟩,?_⟩
 cases r with
 |stop hs=>
  obtain⟨xs,e,i⟩:=M2.st
  rw[hs]at i
  cases i
  refine⟨_,_,rfl,.inl (SqL.of e),?_⟩
  dsimp only[tC,cI0,onB]
  rw[ig (show ¬(0:Int)<(([]:List V).length:Int)from fun z=>absurd z (by decide))]
  exact iO (q _ M2 F2)
 |@step n _ s3 _ h r=>
  obtain⟨hb3,he3⟩:=zY c.ok h hb
  have hbb:Bd 9000000 s1:=hb.mono (by lia)
  have hn3:b+ 200+ 200*n<=9000000:=by lia
  obtain⟨t,rs,hst⟩:∃t rs,s1.st=t::rs:=by cases h with
   |beg hs _ _=>exact⟨_,_,hs⟩
   |par hs _ _ _=>exact⟨_,_,hs⟩
  obtain⟨xs,y,e,iy,M3,F3⟩:=M2.stO hst
  have done:∀(o:Option V) H',Mc T.c5.a H' A tu s3->FM A (L2.Internal.upd H2 A.st (.lst xs)) H'->WsI T.c5.a T.c7.a A tu s' ρs ho H n [some (.ref A.m),o] H':=fun o H' M' F'=>⟨o,s3,b+ 200,rfl,M',(F2.trans F3).trans F',r,he3.trans he,hb3,hn3⟩
  have iy3:=iy.mono (M2.tk F3)
  have c3:=c2.fm M2 F3
  refine⟨_,_,rfl,.inl (SqL.of e),?_⟩
  dsimp only[tC,cI0,onB]
  rw[gR (show(0:Int)<((xs++[y]).length:Int) by rw[aO,ba];lia)]
  refine jm ⟨WsI T.c5.a T.c7.a A tu s' ρs ho H n,fun σ' H' h=>⟨n,cB n,h⟩,?_⟩
  refine⟨_,⟨_,_,M2.o,nV⟩,.inl ⟨rfl,_,SqL.of e⟩,zU e ?_⟩
  dsimp only[gJ]
  generalize L2.Internal.upd H2 A.st (.lst xs)=H3 at M3 F3 iy3 c3 done⊢
  obtain⟨a,rfl,hh⟩:=EE iy3
  have bd3:Bd 9000000 {s1 with st:=rs}:=by
   obtain⟨b1,b2,b3,b4,b5⟩:=hbb
   rw[hst,az]at b4
   exact⟨b1,b2,b3,by show rs.length<=_;lia,b5⟩
  cases h with
  |@beg p ρ r hs hk hbt=>
   rw[hs]at hst
   cases hst
   refine zX rfl hh (gR rfl) ⟨⟨_,_,M3.o,jN gq⟩,_,hh,fN (fH (j:=1) rfl) ⟨_,hh,fN (fH (j:=2) rfl) ?_⟩⟩
   exact⟨A,tu,_,p,ρ,names,roots,ρs,ho,rfl,M3,c3,hbt,hk,bd3,fun H' M' F'=>done _ H' M' F'⟩
  |@par p ρ r l rd _ hs hk ht hw=>
   rw[hs]at hst
   cases hst
   refine ED rfl hh (by show decide (("parts":Str)="begin")=false;decide+kernel) (zX rfl hh (gR rfl) ⟨⟨_,_,M3.o,jN gq⟩,_,hh,fN (fH (j:=1) rfl) ⟨_,hh,fN (fH (j:=2) rfl) ?_⟩⟩)
   exact⟨A,tu,_,s3,p,ρ,l,rd,names,roots,ρs,ho,rfl,M3,c3,hk,bd3,ht,hw,fun H' M' F'=>done _ H' M' F'⟩
structure MJ (C dx m:Addr) (H H':Hp) (fs:List (Str×V)) (ls:List Addr):Prop where
 o:H' m=some (.ins C dx fs)
 k:∀z o,H z=some o->z≠m->H' z=some o
 l:∀a∈ls,H' a=some (.lst [])/\H a=none
 n:ls.Nodup
 m0:m∉ls
section
variable {C dx m:Addr} {H H':Hp} {fs:List (Str×V)} {ls:List Addr}
theorem MJ.fld (j:MJ C dx m H H' fs ls) (gs:List (Str×V)):MJ C dx m H (upd H' m (.ins C dx gs)) gs ls:=⟨fC,fun z o e n=>by rw[fO n];exact j.k z o e n,fun a ha=>⟨by rw[fO (fun z=>j.m0 (by rw[<-z];exact ha))];exact(j.l a ha).1,(j.l a ha).2⟩,j.n,j.m0⟩
theorem MJ.new (j:MJ C dx m H H' fs ls) (hm:(H m).isSome=true) {a:Addr} (h:H' a=none):MJ C dx m H (upd H' a (.lst [])) fs (ls++[a]):=by
 have nm:a≠m:=fun z=>by rw[z,j.o]at h;cases h
 have h0:H a=none:=by
  cases e:H a with
  |none=>rfl
  |some o=>rw[j.k a o e nm]at h;cases h
 have nl:a∉ls:=fun z=>by rw[(j.l a z).1]at h;cases h
 refine⟨by rw[fO nm.symm];exact j.o,fun z o e n=>by rw[fO (fJ e h0)];exact j.k z o e n,fun b hb=>?_,?_,fun z=>?_⟩
 ·rcases ao.mp hb with hb|hb
  ·exact⟨by rw[fO (fun z=>nl (by rw[<-z];exact hb))];exact(j.l b hb).1,(j.l b hb).2⟩
  ·rw[bf.mp hb];exact⟨fC,h0⟩
 ·rw[bX]
  refine⟨j.n,aE.mpr ⟨(fun z=>by cases z),b6⟩,fun x hx y hy z=>nl ?_⟩
  rw[bf.mp hy]at z
  rw[<-z]
  exact hx
 ·rcases ao.mp z with z|z
  ·exact j.m0 z
  ·exact nm (bf.mp z).symm
theorem MJ.f1 (j:MJ C dx m H H' fs ls) {x:Str} {v:V} {R:Hp->Prop} (k:∀H2,MJ C dx m H H2 (mi x v fs) ls->R H2) (hl:decide (fs.length<1000)=true:=by kernel_rfl):∃d f,H' m=some (.ins C d f)/\f.length<1000/\R (upd H' m (.ins C d (mi x v f))):=⟨dx,fs,j.o,of_decide_eq_true hl,k _ (j.fld _)⟩
theorem MJ.f2 (j:MJ C dx m H H' fs ls) (hm:(H m).isSome=true) {x:Str} {R:Addr->Hp->Prop} (k:∀a H2,MJ C dx m H H2 (mi x (.ref a) fs) (ls++[a])->R a H2) (hl:decide (fs.length<1000)=true:=by kernel_rfl):0<=sizeLine/\∀a,H' a=none->∃d f,(upd H' a (.lst [])) m=some (.ins C d f)/\f.length<1000/\R a (upd (upd H' a (.lst [])) m (.ins C d (mi x (.ref a) f))):=⟨cA _,fun a h=>(j.new hm h).f1 (k a) hl⟩
theorem MJ.eq {gs:List (Str×V)} (j:MJ C dx m H H' fs ls) (e:fs=gs):MJ C dx m H H' gs ls:=e▸j
end
def s0M:Ms:=⟨0,none,[],[],[],[],[]⟩
inductive XMi (C:Addr) (vs:List V) (H:Hp) (Q:VK):Prop
 |mk (m dx p h:Addr) (tu:Int) (e:vs=[.ref m,.ref p,.ref h,.int tu]) (o:H m=some (.ins C dx [])) (q:∀H' me ha de st rd,MJ C dx m H H' (fMc p h tu 0 .non me ha de st rd) [me,ha,de,st,rd]->Q .non H')
def GN (C:Addr):Sp:=fun vs H Q _=>XMi C vs H Q
theorem ny (T:Txt K mg):MO P w base mg 1 T.e42 (GN T.c5.a):=by
 refine T.e42.F.rd m4 fun cdv A0 outer s0 H vs Q E hr h=>?_
 obtain⟨m,dx,p,h,tu,rfl,o,q⟩:=h
 refine⟨_,(fA (iJ T.c5.cl T.n5program (iN (PE.mono (cv 0)) (PE.mono (cv 1)) rfl))
  (fA (iJ T.c5.cl T.n5homes (iN (PE.mono (cv 0)) (PE.mono (cv 2)) rfl))
  (fA (iJ T.c5.cl T.n5turns (iN (PE.mono (cv 0)) (PE.mono (cv 3)) rfl))
  (fA (iJ T.c5.cl T.n5begun (iN (PE.mono (cv 0)) (PE.mono fF) rfl))
  (fA (iJ T.c5.cl T.n5end (iN (PE.mono (cv 0)) (PE.mono lG) rfl))
  (fA (iJ T.c5.cl T.n5meets (iN (PE.mono (cv 0)) (PE.mono (gA fD)) rfl))
  (fA (iJ T.c5.cl T.n5had (iN (PE.mono (cv 0)) (PE.mono (gA fD)) rfl))
  (fA (iJ T.c5.cl T.n5defined (iN (PE.mono (cv 0)) (PE.mono (gA fD)) rfl))
  (fA (iJ T.c5.cl T.n5steps (iN (PE.mono (cv 0)) (PE.mono (gA fD)) rfl))
  (fG (iJ T.c5.cl T.n5ready (iN (PE.mono (cv 0)) (PE.mono (gA fD)) rfl)))))))))))),?_⟩
 have im:(H m).isSome=true:=by rw[o];rfl
 have j0:MJ T.c5.a dx m H H [] []:=⟨o,fun _ _ e _=>e,fun a ha=>(by cases ha),b6,fun z=>(by cases z)⟩
 refine j0.f1 fun H1 j1=>j1.f1 fun H2 j2=>j2.f1 fun H3 j3=>j3.f1 fun H4 j4=>j4.f1 fun H5 j5=>?_
 refine j5.f2 im fun me H6 j6=>j6.f2 im fun ha H7 j7=>j7.f2 im fun de H8 j8=>j8.f2 im fun st H9 j9=>j9.f2 im fun rd H10 j10=>q _ me ha de st rd (j10.eq (by kernel_rfl))
def fRn (en v:V) (me ha:Addr) (bg:Int):List (Str×V):=[("end",en),("value",v),("meets",.ref me),("had",.ref ha),("begun",.int bg)]
inductive XRi (C:Addr) (vs:List V) (H:Hp) (Q:VK):Prop
 |mk (m dx me ha:Addr) (en v:V) (bg:Int) (e:vs=[.ref m,en,v,.ref me,.ref ha,.int bg]) (o:H m=some (.ins C dx [])) (q:∀H',H' m=some (.ins C dx (fRn en v me ha bg))->(∀z o,H z=some o->z≠m->H' z=some o)->Q .non H')
def GO (C:Addr):Sp:=fun vs H Q _=>XRi C vs H Q
theorem qK (T:Txt K mg):MO P w base mg 1 T.e52 (GO T.c6.a):=by
 refine T.e52.F.rd qv fun cdv A0 outer s0 H vs Q E hr h=>?_
 obtain⟨m,dx,me,ha,en,v,bg,rfl,o,q⟩:=h
 refine⟨_,(fA (iJ T.c6.cl T.n6end (iN (PE.mono (cv 0)) (PE.mono (cv 1)) rfl))
  (fA (iJ T.c6.cl T.n6value (iN (PE.mono (cv 0)) (PE.mono (cv 2)) rfl))
  (fA (iJ T.c6.cl T.n6meets (iN (PE.mono (cv 0)) (PE.mono (cv 3)) rfl))
  (fA (iJ T.c6.cl T.n6had (iN (PE.mono (cv 0)) (PE.mono (cv 4)) rfl))
  (fG (iJ T.c6.cl T.n6begun (iN (PE.mono (cv 0)) (PE.mono (cv 5)) rfl))))))),?_⟩
 refine⟨_,_,o,(by show 0<1000;decide),_,_,fC,(by show 1<1000;decide),_,_,fC,(by show 2<1000;decide),_,_,fC,(by show 3<1000;decide),_,_,fC,(by show 4<1000;decide),?_⟩
 refine q _ ?_ fun z o e hz=>?_
 ·rw[fC]
  exact congrArg (fun l=>some (HO.ins T.c6.a dx l)) (by kernel_rfl)
 ·rw[fO hz,fO hz,fO hz,fO hz,fO hz]
  exact e
inductive vO (ρs:List Ro) (ho:Nat->Option Hm) (tu:Nat):Nat->List Nat->Ms->Ms->Prop
 |done {s:Ms}:vO ρs ho tu 0 [] s {s with en:=some "done"}
 |next {n m r:Nat} {rs:List Nat} {s s' s2:Ms} {v:Vl} {rd:List Vl} (h:yo ρs ho tu n {s with st:= .beg (r:Int)::s.st} s') (hr:s'.rd=v::rd) (t:vO ρs ho tu m rs {s' with rd:=rd,de:=s'.de++[v]} s2):vO ρs ho tu (n+m+ 3) (r::rs) s s2
theorem vP {α:Type} (ys:List α) (y:α):atI (ys++[y]) (-1)=some y:=by
 unfold atI ixN
 rw[fZ (by decide),aO,ba,gx (by lia),show((-1:Int)+((ys.length+ 1:Nat):Int)).toNat=ys.length by lia]
 show(ys++[y])[ys.length]?=_
 rw[aJ (cz _),cM]
 rfl
inductive XPg (C CP:Addr) (vs:List V) (H:Hp) (Q:VK):Prop
 |mk (A:Mad) (tu n b:Nat) (s s':Ms) (names:List Str) (roots:List Nat) (ρs:List Ro) (ho:Nat->Option Hm) (e:vs=[.ref A.m]) (M:Mc C H A tu s) (c:Ctx CP H A names roots ρs ho) (r:vO ρs ho tu n roots s s') (he:s.en=none) (hb:Bd b s) (hn:b+ 200*n<=8000000) (q:∀H',Mc C H' A tu s'->FM A H H'->Q .non H')
def GP (C CP:Addr):Sp:=fun vs H Q _=>XPg C CP vs H Q
def PgI (C:Addr) (A:Mad) (tu:Nat) (s':Ms) (roots:List Nat) (ρs:List Ro) (ho:Nat->Option Hm) (H:Hp) (i:Nat) (σ:St) (H2:Hp):Prop:=∃(o:Option V) (s1:Ms) (b m:Nat),σ=[some (.ref A.m),o]/\Mc C H2 A tu s1/\FM A H H2/\vO ρs ho tu m (roots.drop i) s1 s'/\s1.en=none/\Bd b s1/\b+ 200*m<=8000000
theorem lB (T:Txt K mg) (W:Wk P w T):MO P w base mg 10 T.e43 (GP T.c5.a T.c7.a):=by
 have gE44:=md (base:=base) T W
 refine T.e43.F.rd jA fun cdv A0 outer s0 H vs Q E hr h=>?_
 obtain⟨A,tu,n,b,s,s',names,roots,ρs,ho,rfl,M,c,r,he0,hb,hn,q⟩:=h
 refine⟨_,(fA (iZ PassesOwn.never rfl (jh (gu T.c7.cl T.n7roots (gu T.c5.cl T.n5program (cv 0)))) (pN (i:=1) jA.nd)
   (fA (gh (iP (jl eG eI eJ gr (PE.mono (gu T.c5.cl T.n5steps (cv 0))) (fz (PE.mono (gC (fz fQ (fz (cv 1) (fz lG fD))))) fD))))
   (fA (gh (hV (iV (PE.mono (cv 0)) T.c5.cl T.e44.me gE44 hr.m T.e44.b .nil jq)))
   (fA (gL (rp (BY (gu T.c5.cl T.n5end (cv 0))))
    (fG yu)
    gm)
   (fG (gh (iP (jl eG eI eJ gr (PE.mono (gu T.c5.cl T.n5defined (cv 0))) (fz (PE.mono (we eG eK eL wg (gu T.c5.cl T.n5ready (cv 0)))) fD)))))))))
  (fG (iJ T.c5.cl T.n5end (iN (PE.mono (cv 0)) (PE.mono fQ) rfl)))),?_⟩
 have sl:=sizeLine_eq
 obtain⟨na,rl,w,dx,xs,pr,n1,n2,n3,n4⟩:=c.p
 refine⟨_,⟨_,_,M.o,nu⟩,_,⟨_,_,pr.o,wQ _ _ _⟩,_,rfl,⟨_,SqL.of pr.r⟩,jo (xs:=roots.map nI) (PgI T.c5.a A tu s' roots ρs ho H) ⟨none,s,b,n,rfl,M,FM.refl,r,he0,hb,hn⟩ (fun i σ H2 _ ⟨_,_,_,_,_,_,F,_⟩=>SqL.of (F.get pr.r n3)) ?_ ?_⟩
 ·rintro i v σ H2 hx ⟨o,s1,b,m,rfl,M2,F2,r,he,hb,hn⟩
  rw[aM]at hx
  obtain⟨j,hj,rfl⟩:=da.mp hx
  have hdr:roots.drop i=j::roots.drop (i+ 1):=by
   obtain⟨z1,z2⟩:=au.mp hj
   rw[bK z1,z2]
  rw[hdr]at r
  have c2:=c.fm M F2
  obtain⟨ys,e,_⟩:=M2.st
  have b4:=hb.2.2.2.1
  have b3:=hb.2.2.1
  refine⟨_,⟨_,_,M2.o,nV⟩,⟨_,e⟩,nA,fun a ha=>?_⟩
  have S1:=fE ha (.tup [.str "begin",.int (j:Int),.non])
  have M3:=M2.same S1
  have i1:Im (L2.Internal.upd H2 a (.tup [.str "begin",.int (j:Int),.non])) (.ref a) (Stp.beg (j:Int)).d:=
   nk ha (.cons (.flat rfl) (.cons (.flat rfl) (.cons (.flat rfl) .nil)))
  obtain⟨ys1,e1,l1,M4,F4⟩:=M3.stP i1
  refine⟨ys1,e1,by lia,?_⟩
  have F04:=(F2.trans (FM.same S1)).trans F4
  have c4:=(c2.fm M2 (FM.same S1)).fm M3 F4
  dsimp only[nI]
  generalize L2.Internal.upd (L2.Internal.upd H2 a (.tup [.str "begin",.int (j:Int),.non])) A.st (.lst (ys1++[.ref a]))=H4 at M4 F4 F04 c4⊢
  have hb4:Bd (b+ 1) {s1 with st:= .beg (j:Int)::s1.st}:=by
   obtain⟨b1,b2,b3,b4,b5⟩:=hb
   exact⟨by show s1.me.length<=_;lia,by show s1.ha.length<=_;lia,by show s1.de.length<=_;lia,by show(_::s1.st).length<=_;rw[az];lia,by show s1.rd.length<=_;lia⟩
  cases r with
  |@next n0 m0 _ _ _ s5 _ v rd h hr' t=>
   refine⟨⟨_,_,M4.o,jN gq⟩,A,tu,n0,b+ 1,_,s5,names,roots,ρs,ho,rfl,M4,c4,h,he,hb4,by lia,fun H5 M5 F5=>?_⟩
   obtain⟨hb5,he5⟩:=h.bd c.ok hb4
   replace he5:=he5.trans (show({s1 with st:=_}:Ms).en=none from he)
   refine⟨_,⟨_,_,M5.o,sV⟩,_,rfl,?_⟩
   rw[he5]
   obtain⟨zs,ez,_⟩:=M5.de
   obtain⟨xs',y',e',iv,M6,F6⟩:=M5.rdO hr'
   obtain⟨zs,ez6,lz,M7,F7⟩:=M6.deP (iv.mono (M5.tk F6))
   have ld:=hb5.2.2.1
   refine iO ⟨_,⟨_,_,M5.o,nj⟩,⟨_,ez⟩,_,⟨_,_,M5.o,qG⟩,.inl ⟨rfl,_,SqL.of e'⟩,zU e' ⟨zs,ez6,?_,?_⟩⟩
   ·rw[lz];show s5.de.length<_;lia
   ·refine⟨_,_,b+ 1+ 200*n0+ 1,m0,rfl,M7,((F04.trans F5).trans F6).trans F7,t,he5,?_,by lia⟩
    obtain⟨b1,b2,b3,b4,b5⟩:=hb5
    rw[hr',az]at b5
    exact⟨by show s5.me.length<=_;lia,by show s5.ha.length<=_;lia,by show(s5.de++[v]).length<=_;rw[aO,ba];lia,by show s5.st.length<=_;lia,by show rd.length<=_;lia⟩
 ·rintro σ H2 ⟨o,s1,b,m,rfl,M2,F2,r,he,hb,hn⟩
  rw[aC,bV]at r
  cases r
  obtain⟨M3,F3⟩:=M2.setO s1.bg (some "done")
  refine⟨_,_,M2.o,by show 10<1000;decide,?_⟩
  rw[Bj]
  exact q _ M3 (F2.trans F3)
inductive RnA (C:Addr) (H:Hp) (r:Addr) (s:Ms) (u:Vl):Prop
 |mk (dx me ha:Addr) (v:V) (xs ys:List V) (o:H r=some (.ins C dx (fRn (.str "done") v me ha s.bg))) (em:H me=some (.lst xs)) (im:Ims H xs (s.me.reverse.map meD)) (eh:H ha=some (.lst ys)) (ih:Ims H ys (s.ha.reverse.map haD)) (iv:Im H v u.d)
inductive XRn (C CP:Addr) (vs:List V) (H:Hp) (Q:VK):Prop
 |mk (p h n0 r0 w0 dx:Addr) (tu n:Nat) (xs hs:List V) (s':Ms) (us:List Vl) (u:Vl) (names:List Str) (roots:List Nat) (ρs:List Ro) (ho:Nat->Option Hm) (e:vs=[.ref p,.ref h,.int (tu:Int)]) (pr:PrA CP H p n0 r0 w0 dx xs names roots ρs) (eh:H h=some (.lst hs)) (ih:∀(k:Nat) (ρ:Ro),ρs[k]?=some ρ->∃y,hs[k]?=some y/\Im H y (hoD (ho k))) (ok:∀ρ∈ρs,ρ.ok) (r:vO ρs ho tu n roots s0M s') (hn:200*n<=8000000) (he:s'.en=some ("done":Str)) (hd:s'.de=us++[u]) (q:∀r H',fW H H'->H r=none->RnA C H' r s' u->Q (.ref r) H')
def GQ (C CP:Addr):Sp:=fun vs H Q _=>XRn C CP vs H Q
theorem EF (T:Txt K mg) (W:Wk P w T):FO P w base 11 T.d11 (GQ T.c6.a T.c7.a):=by
 have gE42:=ny (P:=P) (w:=w) (base:=base) T
 have gE52:=qK (P:=P) (w:=w) (base:=base) T
 have gE43:=lB (base:=base) T W
 refine T.d11.F.rd zG fun cdv A0 outer s0 H vs Q E hr h=>?_
 obtain⟨p,h,n0,r0,w0,dx,tu,n,xs,hs,s',us,u,names,roots,ρs,ho,rfl,pr,eh,ih,ok,r,hn,he,hd,q⟩:=h
 refine⟨_,(fA (pS (i:=3) zG.nd (sh T.mk5 gE42 hr.m rfl T.c5.m T.e42.b .nil jq (fz (cv 0) (fz (cv 1) (fz (cv 2) fD)))))
  (fA (gh (hV (iV (PE.mono (cv 3)) T.c5.cl T.e43.me gE43 hr.m T.e43.b .nil jq)))
  (fA (pS (i:=4) zG.nd (r8 (gz kF (gu T.c5.cl T.n5end (cv 3)) fQ) (fV fY (gu T.c5.cl T.n5defined (cv 3)) (xB rE fF)) lG))
  (fG (f7 (sh T.mk6 gE52 hr.m rfl T.c6.m T.e52.b .nil jq (fz (gu T.c5.cl T.n5end (cv 3)) (fz (cv 4) (fz (gu T.c5.cl T.n5meets (cv 3)) (fz (gu T.c5.cl T.n5had (cv 3)) (fz (gu T.c5.cl T.n5begun (cv 3)) fD))))))))))),?_⟩
 intro m mx hm hmx nmx
 have S0:fW H (upd (upd H mx (.own m)) m (.ins T.c5.a mx [])):=gB (gB (fun _ _ e=>e) hmx _) hm _
 refine⟨m,mx,p,h,(tu:Int),rfl,fC,fun H1 me ha de st rd j=>⟨rfl,?_⟩⟩
 have S1:fW H H1:=fun b o e=>j.k b o (S0 b o e) (fJ e hm)
 have l0:∀a∈[me,ha,de,st,rd],H a=none:=fun a ha=>S0.free (j.l a ha).2
 let A:Mad:=⟨m,mx,p,h,me,ha,de,st,rd⟩
 have nal:∀{a:Addr} {o:HO},H a=some o->a∉A.all:=fun{a o} e z=>by
  rcases ak.mp z with z|z
  ·rw[z,hm]at e;cases e
  ·rw[l0 a z]at e;cases e
 have em:∀a∈[me,ha,de,st,rd],H1 a=some (.lst []):=fun a ha=>(j.l a ha).1
 have M1:Mc T.c5.a H1 A tu s0M:=⟨j.o,⟨_,em me (by simp),.nil⟩,⟨_,em ha (by simp),.nil⟩,⟨_,em de (by simp),.nil⟩,⟨_,em st (by simp),.nil⟩,⟨_,em rd (by simp),.nil⟩,j.n⟩
 have k1:=fW.tk S1
 have c1:Ctx T.c7.a H1 A names roots ρs ho:=⟨⟨n0,r0,w0,dx,xs,pr.same S1,nal pr.o,nal pr.n,nal pr.r,nal pr.w⟩,⟨hs,S1 _ _ eh,nal eh,fun k ρ e=>let⟨y,a,b⟩:=ih k ρ e;⟨y,a,b.mono k1⟩⟩,ok⟩
 dsimp only[gJ]
 refine⟨⟨_,_,M1.o,jN gq⟩,A,tu,n,0,s0M,s',names,roots,ρs,ho,rfl,M1,c1,r,rfl,⟨cz _,cz _,cz _,cz _,cz _⟩,by lia,fun H2 M2 F2=>?_⟩
 have S2:fW H H2:=fun b o e=>F2.get (S1 b o e) (nal e)
 obtain⟨zs,ez,iz⟩:=M2.de
 rw[hd]at iz
 obtain⟨ys,y,rfl,_,iy⟩:=sU iz
 refine⟨_,⟨_,_,M2.o,sV⟩,?_⟩
 rw[he]
 dsimp only[tC,cEq,onB,enV]
 rw[gR rfl]
 refine jm ⟨_,⟨_,_,M2.o,nj⟩,_,rfl,_,ez,fN (vP ys y) ?_⟩
 dsimp only[gJ]
 refine⟨_,⟨_,_,M2.o,sV⟩,_,⟨_,_,M2.o,uL⟩,_,⟨_,_,M2.o,zR⟩,_,⟨_,_,M2.o,qH⟩,fun rr rx hrr hrx nrx=>?_⟩
 have S3:fW H2 (upd (upd H2 rx (.own rr)) rr (.ins T.c6.a rx [])):=gB (gB (fun _ _ e=>e) hrx _) hrr _
 refine⟨rr,rx,me,ha,enV s'.en,y,(s'.bg:Int),rfl,fC,fun H4 e4 k4=>⟨rfl,?_⟩⟩
 rw[he]at e4
 have S4:fW H2 H4:=fun b o e=>k4 b o (S3 b o e) (fJ e hrr)
 obtain⟨xs1,e1,i1⟩:=M2.me
 obtain⟨xs2,e2,i2⟩:=M2.ha
 have tk4:=fW.tk S4
 exact q rr H4 (S2.trans S4) (S2.free hrr) ⟨rx,me,ha,y,xs1,xs2,e4,S4 _ _ e1,i1.mono tk4,S4 _ _ e2,i2.mono tk4,iy.mono tk4⟩
open GR.Internal (Op Gp toks lF i6 gk isName WOk TAt kN)
theorem CW (x:Str):x.cps.toList.length=x.length:=by rw[eV];rfl
def wY (w:Str):Prop:=w.cps.toList≠[]/\∀k∈w.cps.toList,k≠32/\k≠10/\k≠40/\k≠41
theorem smfg:∀c∈(GR.Internal.SM++GR.Internal.FG).cps.toList,c≠32/\c≠10/\c≠40/\c≠41:=gq
theorem pI {w:Str} (h:GR.Internal.isName w=true):wY w/\w.length<=12:=by
 unfold GR.Internal.isName at h
 simp only[eR,decide_eq_true_eq]at h
 refine⟨⟨fun z=>?_,fun k hk=>smfg k (GR.Internal.allIn_mem h.2 k hk)⟩,h.1.1.1.2⟩
 have:=CW w
 rw[z]at this
 have:=h.1.1.1.1
 simp at*
 lia
theorem fgp:∀c∈GR.Internal.FG.cps.toList,c≠32/\c≠10/\c≠40/\c≠41:=gq
theorem Bk {n:Int} (h0:0<=n) (h1:n<10^60):wY (TM.Internal.numS n)/\(TM.Internal.numS n).length<=60:=by
 obtain⟨f1,f2,f3⟩:=GR.Internal.str_fig (k:=59) h0 h1
 refine⟨⟨fun z=>?_,fun k hk=>fgp k (f1 k hk)⟩,f3⟩
 obtain⟨c,r,e⟩:=GR.Internal.first_of (x:=TM.Internal.numS n) f2
 rw[z]at e
 cases e
def okW (w:Str):Prop:=w≠""/\w.length<=60/\∀c∈w.cps.toList,c<128
structure Gi (x:Str) (ts:List Str) (a b:Nat):Prop where
 op:Op x ts
 ln:x.length+ 1<=a
 wl:ts.length<=b
 ok:∀w∈ts,okW w
theorem zZ {x:Str} {n:Nat} (hp:wY x) (hl:x.length<=n) (hn:n<=60) (ha:∀c∈x.cps.toList,c<128):Gi x [x] (n+ 1) 1:=by
 refine⟨Op.word hp.1 hp.2,by lia,cz _,fun w hw=>?_⟩
 rw[bf.mp hw]
 refine⟨fun z=>hp.1 (by rw[z];rfl),by lia,ha⟩
theorem GS:∀c∈(GR.Internal.SM++GR.Internal.FG).cps.toList,c<128:=gq
theorem GU:∀c∈GR.Internal.FG.cps.toList,c<128:=gq
theorem z7 {w:Str} (h:isName w=true):Gi w [w] 13 1:=by
 obtain⟨h1,h2⟩:=pI h
 refine zZ h1 h2 (by decide) fun c hc=>GS c ?_
 unfold isName at h
 simp only[eR]at h
 exact GR.Internal.allIn_mem h.2 c hc
theorem EG {n:Int} (h0:0<=n) (h1:n<10^60):Gi (TM.Internal.numS n) [TM.Internal.numS n] 61 1:=by
 obtain⟨a,b⟩:=Bk h0 h1
 obtain⟨f1,_,_⟩:=GR.Internal.str_fig (k:=59) h0 h1
 exact zZ a b (by decide) fun c hc=>GU c (f1 c hc)
def dtk (n:Str) (t:TM.Internal.Tr):List Str:=("(":Str)::"def"::n::(t.tk++[(")":Str)])
def yj:List Str->List TM.Internal.Tr->List Str
 |n::ns,t::ts=>dtk n t++yj ns ts
 |_,_=>[]
theorem wZ:∀{ns:List Str} {ts:List TM.Internal.Tr},ns.length=ts.length->(∀n∈ns,isName n=true)->TM.Internal.oks ts->(∀t∈ts,t.nest<=24)->∀(rows:List Dt) (names:List Str) (roots:List Dt),rows.length+TM.Internal.szs ts<=160->
  i6 (yj ns ts) rows names roots=some (names++ns,roots++(TM.Internal.offs ts rows.length).map TM.Internal.kD,rows++TM.Internal.rws ts rows.length)
 |[],[],_,_,_,_,rows,names,roots,_=>by
  show i6 [] rows names roots=_
  rw[GR.Internal.defs_nil,TM.Internal.offs,TM.Internal.rws,aD,aU,aD,aD]
 |n::ns,t::ts,hl,hn,ho,hd,rows,names,roots,hz=>by
  rw[TM.Internal.oks]at ho
  rw[TM.Internal.szs]at hz
  have e:=TM.Internal.rd_all 24 t ho.1 (hd t ah) ((")":Str)::yj ns ts) rows (by lia)
  have lr:(rows++t.rw rows.length).length=rows.length+t.sz:=by rw[aO,TM.Internal.Tr.rw_len]
  have h1:yj (n::ns) (t::ts)=("(":Str)::"def"::n::(t.tk++(")":Str)::yj ns ts):=by
   show dtk n t++yj ns ts=_
   unfold dtk
   rw[aS,aS,aS,bJ]
   rfl
  rw[h1,GR.Internal.defs_yes (hn n ah) e,wZ (by simpa using hl) (fun x hx=>hn x (aj _ hx)) ho.2 (fun x hx=>hd x (aj _ hx)) _ _ _ (by rw[lr];lia),lr,TM.Internal.offs,TM.Internal.rws,aB,bJ,bJ,bJ]
  rfl
theorem Bl {ns:List Str} {ts:List TM.Internal.Tr} (hl:ns.length=ts.length) (hn:∀n∈ns,isName n=true) (ho:TM.Internal.oks ts) (hd:∀t∈ts,t.nest<=24) (hz:TM.Internal.szs ts<=160) (h1:1<=ns.length) (h12:ns.length<=12):lF (yj ns ts)=some (ns,(TM.Internal.offs ts 0).map TM.Internal.kD,TM.Internal.rws ts 0):=by
 unfold lF
 rw[wZ hl hn ho hd [] [] [] (by rw[aT,cK];exact hz)]
 show(if 1<=([]++ns).length/\([]++ns).length<=12 then _ else _)=_
 rw[bP,gx ⟨h1,h12⟩]
 rfl
theorem EH {ws:List Str} (hl:ws.length<=30000) (h:∀w∈ws,okW w):WOk ws:=⟨hl,fun x hx=>by
 obtain⟨a,b,c⟩:=h x hx
 exact⟨a,by lia,fun k hk=>by have:=c k hk;lia⟩⟩
mutual
def gF:Dt->Bool
 | .flat v=>(match v with| .int _=>true| .str _=>true|_=>false)
 | .tup ds=>decide (ds.length<=1000)&&gFs ds
 | .lst _=>false
def gFs:List Dt->Bool
 |[]=>true
 |d::ds=>gF d&&gFs ds
end
mutual
theorem EI {K:PySem.W.Frag} {H:Hp}:∀{x:V} {d:Dt},TAt K H x d->gF d=true->Im H x d
 |_,_,.flat h,g=> .flat (by
   rename_i v
   cases v with
   |int n=>rfl
   |str z=>rfl
   |_=>simp[gF]at g)
 |_,_,.tup h hs,g=>by
  rw[gF,eR]at g
  exact .tup h (pJ hs g.2)
theorem pJ {K:PySem.W.Frag} {H:Hp}:∀{xs:List V} {ds:List Dt},kN K H xs ds->gFs ds=true->Ims H xs ds
 |_,_,.nil,_=> .nil
 |_,_,.cons h t,g=>by
  rw[gFs,eR]at g
  exact .cons (EI h g.1) (pJ t g.2)
end
theorem EJ {H:Hp}:∀{ps:List Nat} {xs:List V},Ims H xs (ps.map TM.Internal.kD)->xs=ps.map fun k:Nat=>V.int (k:Int)
 |[],xs,h=>by cases h;rfl
 |p::ps,xs,h=>by
  rw[aB,TM.Internal.kD]at h
  cases h with
  |cons h t=>
   cases h
   rw[EJ t]
   rfl
inductive Xt where
 |num (m n:Int)
 |nam (m:Int) (w:Str) (k:Nat) (v:Vl)
 |op (m:Int) (o:Str) (a b:Xt)
def Vl.n:Vl->Int
 | .num n _=>n
 | .yes _ _=>0
namespace Xt
def val:Xt->Vl
 | .num m n=> .num n m
 | .nam _ _ _ v=>v
 | .op m o a b=>opV o a.val.n b.val.n m
def ms:Xt->List Int
 | .num m _=>[m]
 | .nam m _ _ _=>[m]
 | .op m _ a b=>m::(a.ms++b.ms)
def ha:Xt->List (Int×Int)
 | .num m _=>[(m,m)]
 | .nam m _ _ v=>[(m,v.p)]
 | .op m _ a b=>a.ha++b.ha++[(m,m)]
def me:Xt->List (Int×Int×Int)
 | .op m _ a b=>a.me++b.me++[(a.val.p,m,0),(b.val.p,m,1)]
 |_=>[]
def tr:Xt->TM.Internal.Tr
 | .num _ n=> .mk (.num n) []
 | .nam _ w _ _=> .mk (.name w) []
 | .op _ o a b=> .mk (.op o 2) [a.tr,b.tr]
def tx:Xt->Str
 | .num _ n=>TM.Internal.numS n
 | .nam _ w _ _=>w
 | .op _ o a b=>"("++Str.join " " [o,a.tx,b.tx]++")"
def ro:Xt->Nat->List Ro
 | .num _ n,_=>[.num n]
 | .nam _ w _ _,_=>[.name w]
 | .op _ o a b,p=> .op o [((p+ 1:Nat):Int),((p+ 1+a.ms.length:Nat):Int)]::(a.ro (p+ 1)++b.ro (p+ 1+a.ms.length))
def ok (ws:List Str) (vs:List Vl):Xt->Prop
 | .num _ n=>0<=n/\n<10^60
 | .nam _ w k v=>ws[k]?=some w/\vs[k]?=some v
 | .op _ o a b=>(o="add"\/o="sub"\/o="less")/\a.ok ws vs/\b.ok ws vs/\(∃n p,a.val= .num n p)/\∃n p,b.val= .num n p
theorem ro_len:∀(t:Xt) (p:Nat),(t.ro p).length=t.ms.length
 | .num _ _,_=>rfl
 | .nam _ _ _ _,_=>rfl
 | .op _ _ a b,p=>by rw[ro,ms,az,az,aO,aO,ro_len a,ro_len b]
theorem tr_sz:∀t:Xt,t.tr.sz=t.ms.length
 | .num _ _=>by rw[tr,TM.Internal.Tr.sz,TM.Internal.szs];rfl
 | .nam _ _ _ _=>by rw[tr,TM.Internal.Tr.sz,TM.Internal.szs];rfl
 | .op _ _ a b=>by rw[tr,TM.Internal.Tr.sz,TM.Internal.szs,TM.Internal.szs,TM.Internal.szs,tr_sz a,tr_sz b,ms,az,aO];lia
theorem ro_d:∀(t:Xt) (p:Nat),(t.ro p).map Ro.d=t.tr.rw p
 | .num _ _,_=>by rw[tr,TM.Internal.Tr.rw,TM.Internal.offs,TM.Internal.rws];rfl
 | .nam _ _ _ _,_=>by rw[tr,TM.Internal.Tr.rw,TM.Internal.offs,TM.Internal.rws];rfl
 | .op _ o a b,p=>by
  rw[ro,tr,TM.Internal.Tr.rw,TM.Internal.offs,TM.Internal.offs,TM.Internal.offs,TM.Internal.rws,TM.Internal.rws,TM.Internal.rws,aD,aB,bh,ro_d a,ro_d b,tr_sz]
  rfl
end Xt
def Vl.mp (π:Int->Int):Vl->Vl
 | .num n p=> .num n (π p)
 | .yes b p=> .yes b (π p)
theorem EK (π:Int->Int) (o:Str) (n m p:Int):(opV o n m p).mp π=opV o n m (π p):=by unfold opV;split<;>(try split)<;>rfl
theorem CY (o:Str) (n m p:Int):(opV o n m p).p=p:=by unfold opV;split<;>(try split)<;>rfl
theorem mp_p (π:Int->Int) (v:Vl):(v.mp π).p=π v.p:=by cases v<;>rfl
def p2 (π:Int->Int) (t:Int×Int):Int×Int:=(π t.1,π t.2)
def p3 (π:Int->Int) (t:Int×Int×Int):Int×Int×Int:=(π t.1,π t.2.1,t.2.2)
def Sub {α:Type} (l:List α) (p:Nat) (L:List α):Prop:=∀(j:Nat) (x:α),l[j]?=some x->L[p+j]?=some x
theorem Sub.cons {α:Type} {x:α} {l L:List α} {p:Nat} (h:Sub (x::l) p L):L[p]?=some x/\Sub l (p+ 1) L:=⟨h 0 x rfl,fun j y e=>by rw[show p+ 1+j=p+(j+ 1) by lia];exact h (j+ 1) y e⟩
theorem Sub.app {α:Type} {a b L:List α} {p:Nat} (h:Sub (a++b) p L):Sub a p L/\Sub b (p+a.length) L:=⟨fun j y e=>h j y (by rw[aK (au.mp e).1];exact e),fun j y e=>by rw[Nat.add_assoc];exact h (a.length+j) y (by rw[aJ (cF _ _),cR];exact e)⟩
theorem CZ {ρs:List Ro} {ho:Nat->Option Hm} {tu:Nat} {ws:List Str} {vs:List Vl} {π:Int->Int} {M:List Int} {G:Str->Option Hm} (hπ:∀(j:Nat) (m:Int),M[j]?=some m->π m=(j:Int)) (hG:∀(k:Nat) (w:Str),ws[k]?=some w->k<vs.length->G w=some ((("def":Str),(k:Int)):Hm)):
  ∀(t:Xt) (p:Nat),t.ok ws vs->Sub (t.ro p) p ρs->Sub t.ms p M->(∀(q:Nat) (w:Str),ρs[q]?=some (.name w)->p<=q->q<p+t.ms.length->ho q=G w)->∀{s s2:Ms} {r:List Stp} {n:Nat},s.st= .beg (p:Int)::r->s.de=vs.map (Vl.mp π)->s.bg+t.ms.length<=tu->
  yo ρs ho tu n {s with bg:=s.bg+t.ms.length,me:=(t.me.map (p3 π)).reverse++s.me,ha:=(t.ha.map (p2 π)).reverse++s.ha,st:=r,rd:=t.val.mp π::s.rd} s2->yo ρs ho tu (n+ 2*t.ms.length) s s2
 | .num m c,p,ok,hr,hm,hh,s,s2,r,n,hs,hd,hb,k=>by
  have e:=hπ _ _ hm.cons.1
  have k:yo ρs ho tu n {s with bg:=s.bg+ 1,me:=s.me,ha:=(π m,π m)::s.ha,st:=r,rd:= .num c (π m)::s.rd} s2:=k
  rw[e]at k
  exact .step (.beg hs hr.cons.1 hb) (.step (.par rfl hr.cons.1 rfl .num) k)
 | .nam m w i v,p,ok,hr,hm,hh,s,s2,r,n,hs,hd,hb,k=>by
  have e:=hπ _ _ hm.cons.1
  have k:yo ρs ho tu n {s with bg:=s.bg+ 1,me:=s.me,ha:=(π m,π v.p)::s.ha,st:=r,rd:=v.mp π::s.rd} s2:=k
  rw[e,<-mp_p π v]at k
  have hw:=hr.cons.1
  have h1:ho p=some ((("def":Str),(i:Int)):Hm):=(hh p w hw (cz _) (cB _)).trans (hG i w ok.1 (au.mp ok.2).1)
  exact .step (.beg hs hw hb) (.step (.par rfl hw rfl (.name h1 (by show s.de[i]?=_;rw[hd,aM,ok.2];rfl))) k)
 | .op m o a b,p,ok,hr,hm,hh,s,s2,r,n,hs,hd,hb,k=>by
  obtain⟨hw,hr⟩:=Sub.cons hr
  obtain⟨ra,rb⟩:=Sub.app hr
  rw[Xt.ro_len]at rb
  obtain⟨hm0,hm⟩:=Sub.cons hm
  obtain⟨ma,mb⟩:=Sub.app hm
  obtain⟨oo,oa,ob,⟨na,pa,ea⟩,nb,pb,eb⟩:=ok
  have hl:(Xt.op m o a b).ms.length=1+a.ms.length+b.ms.length:=by rw[Xt.ms,az,aO];lia
  rw[hl]at hb hh k
  have e:=hπ _ _ hm0
  have L:=CZ hπ hG b (p+ 1+a.ms.length) ob rb mb (fun q w e h1 h2=>hh q w e (by lia) (by lia)) (s:={s with bg:=s.bg+ 1+a.ms.length,me:=(a.me.map (p3 π)).reverse++s.me,ha:=(a.ha.map (p2 π)).reverse++s.ha,st:= .beg ((p+ 1+a.ms.length:Nat):Int):: .par (p:Int)::r,rd:=a.val.mp π::s.rd}) (s2:=s2) (r:= .par (p:Int)::r) (n:=n+ 1) rfl hd (by show s.bg+ 1+a.ms.length+b.ms.length<=tu;lia) (.step (.par rfl hw rfl (by rw[ea,eb];exact .op oo)) (by
   have e1:(Xt.op m o a b).val.mp π=opV o na nb (p:Int):=by rw[Xt.val,EK,e,ea,eb];rfl
   have e2:((Xt.op m o a b).me.map (p3 π)).reverse=(π pb,(p:Int),1)::(π pa,(p:Int),0)::((b.me.map (p3 π)).reverse++(a.me.map (p3 π)).reverse):=by rw[Xt.me,bh,bh,b8,b8,ea,eb,<-e];rfl
   have e3:((Xt.op m o a b).ha.map (p2 π)).reverse=((p:Int),(p:Int))::((b.ha.map (p2 π)).reverse++(a.ha.map (p2 π)).reverse):=by rw[Xt.ha,bh,bh,b8,b8,<-e];rfl
   rw[e1,e2,e3,aS,aS,bJ,aS,bJ,show s.bg+(1+a.ms.length+b.ms.length)=s.bg+ 1+a.ms.length+b.ms.length by lia]at k
   unfold Au qX
   rw[CY]
   exact k))
  have L2.Internal:=CZ hπ hG a (p+ 1) oa ra ma (fun q w e h1 h2=>hh q w e (by lia) (by lia)) (s:={s with bg:=s.bg+ 1,st:= .beg ((p+ 1:Nat):Int):: .beg ((p+ 1+a.ms.length:Nat):Int):: .par (p:Int)::r}) (s2:=s2) (r:= .beg ((p+ 1+a.ms.length:Nat):Int):: .par (p:Int)::r) rfl hd (by show s.bg+ 1+a.ms.length<=tu;lia) L
  rw[hl,show n+ 2*(1+a.ms.length+b.ms.length)=n+ 1+ 2*b.ms.length+ 2*a.ms.length+ 1 by lia]
  exact .step (.beg hs hw (by lia)) L2.Internal
def kM:List Xt->Nat->List Ro
 |[],_=>[]
 |t::ts,p=>t.ro p++kM ts (p+t.ms.length)
def msX:List Xt->List Int
 |[]=>[]
 |t::ts=>t.ms++msX ts
def haX:List Xt->List (Int×Int)
 |[]=>[]
 |t::ts=>t.ha++haX ts
def meX:List Xt->List (Int×Int×Int)
 |[]=>[]
 |t::ts=>t.me++meX ts
def yk:List Xt->Nat->List Nat
 |[],_=>[]
 |t::ts,p=>p::yk ts (p+t.ms.length)
def okX (ws:List Str):List Vl->List Xt->Prop
 |_,[]=>True
 |vs,t::ts=>t.ok ws vs/\okX ws (vs++[t.val]) ts
def dX:List Xt->Nat->Nat->Nat->Nat
 |[],_,d,_=>d
 |t::ts,p,d,q=>if q<p+t.ms.length then d else dX ts (p+t.ms.length) (d+ 1) q
theorem mf:∀(ts:List Xt) (p:Nat),(kM ts p).length=(msX ts).length
 |[],_=>rfl
 |t::ts,p=>by rw[kM,msX,aO,aO,Xt.ro_len,mf ts]
theorem z8:∀(ts:List Xt) (p:Nat),(kM ts p).map Ro.d=TM.Internal.rws (ts.map Xt.tr) p
 |[],_=>by rw[aU,TM.Internal.rws];rfl
 |t::ts,p=>by rw[kM,bh,Xt.ro_d,z8 ts,aB,TM.Internal.rws,Xt.tr_sz]
theorem BN:∀(ts:List Xt) (p:Nat),yk ts p=TM.Internal.offs (ts.map Xt.tr) p
 |[],_=>by rw[aU,TM.Internal.offs];rfl
 |t::ts,p=>by rw[yk,BN ts,aB,TM.Internal.offs,Xt.tr_sz]
theorem HA:∀ts:List Xt,TM.Internal.szs (ts.map Xt.tr)=(msX ts).length
 |[]=>by rw[aU,TM.Internal.szs];rfl
 |t::ts=>by rw[aB,TM.Internal.szs,Xt.tr_sz,HA ts,msX,aO]
theorem w6:∀(ts:List Xt) (p:Nat),(yk ts p).length=ts.length
 |[],_=>rfl
 |t::ts,p=>by rw[yk,az,az,w6 ts]
namespace Xt
theorem pos:∀t:Xt,0<t.ms.length
 | .num _ _=>Nat.zero_lt_one
 | .nam _ _ _ _=>Nat.zero_lt_one
 | .op _ _ _ _=>cU _
theorem kid:∀(t:Xt) (p:Nat) {j:Nat} {ρ:Ro} {c:Int},(t.ro p)[j]?=some ρ->c∈ρ.pl->∃m:Nat,c=(m:Int)/\p+j<m/\m<p+t.ms.length
 | .num _ _,p,j,ρ,c,h,hc=>by
  rw[bf.mp (aN h)]at hc
  cases hc
 | .nam _ _ _ _,p,j,ρ,c,h,hc=>by
  rw[bf.mp (aN h)]at hc
  cases hc
 | .op _ _ a b,p,j,ρ,c,h,hc=>by
  have pa:=a.pos
  have pb:=b.pos
  rw[ms,az,aO]
  rw[ro]at h
  match j,h with
  |0,h=>
   cases h
   rcases ak.mp hc with rfl|hc
   ·exact⟨_,rfl,by lia,by lia⟩
   ·rw[bf.mp hc]
    exact⟨_,rfl,by lia,by lia⟩
  |j+ 1,h=>
   rw[bC]at h
   by_cases z:j<a.ms.length
   ·rw[aK (by rw[ro_len];exact z)]at h
    obtain⟨m,e,h1,h2⟩:=kid a _ h hc
    exact⟨m,e,by lia,by lia⟩
   ·rw[aJ (by rw[ro_len];lia),ro_len]at h
    obtain⟨m,e,h1,h2⟩:=kid b _ h hc
    exact⟨m,e,by lia,by lia⟩
theorem reach:∀(t:Xt) (p j:Nat),j<t.ms.length->j=0\/∃(j':Nat) (ρ:Ro),j'<j/\(t.ro p)[j']?=some ρ/\((p+j:Nat):Int)∈ρ.pl
 | .num _ _,p,j,h=> .inl (Nat.lt_one_iff.mp h)
 | .nam _ _ _ _,p,j,h=> .inl (Nat.lt_one_iff.mp h)
 | .op m o a b,p,j,h=>by
  rw[ms,az,aO]at h
  match j,h with
  |0,h=>exact .inl rfl
  |j+ 1,h=>
   refine .inr ?_
   by_cases z:j<a.ms.length
   ·rcases reach a (p+ 1) j z with rfl|⟨j',ρ,h1,h2,h3⟩
    ·exact⟨0,_,cU _,rfl,ah⟩
    ·exact⟨j'+ 1,ρ,by lia,by rw[ro,bC,aK (by rw[ro_len];lia)];exact h2,by rw[show p+(j+ 1)=p+ 1+j by lia];exact h3⟩
   ·rcases reach b (p+ 1+a.ms.length) (j-a.ms.length) (by lia)with e|⟨j',ρ,h1,h2,h3⟩
    ·exact⟨0,_,cU _,rfl,aj _ (bf.mpr (by rw[show p+(j+ 1)=p+ 1+a.ms.length by lia]))⟩
    ·exact⟨a.ms.length+j'+ 1,ρ,by lia,by rw[ro,bC,aJ (by rw[ro_len];lia),ro_len,cR];exact h2,by rw[show p+(j+ 1)=p+ 1+a.ms.length+(j-a.ms.length) by lia];exact h3⟩
theorem rok {ws:List Str} {vs:List Vl}:∀(t:Xt) (p:Nat),t.ok ws vs->∀ρ∈t.ro p,ρ.ok/\ρ.isF=false/\(ρ.ex=ρ.pl.map fun _=>none)/\∀w,ρ= .name w->∃k,ws[k]?=some w/\k<vs.length
 | .num _ _,p,h,ρ,hr=>by rw[bf.mp hr];exact⟨trivial,rfl,rfl,fun w e=>nomatch e⟩
 | .nam _ w k v,p,h,ρ,hr=>by rw[bf.mp hr];exact⟨trivial,rfl,rfl,fun w' e=>by cases e;exact⟨k,h.1,(au.mp h.2).1⟩⟩
 | .op _ o a b,p,h,ρ,hr=>by
  rcases ak.mp hr with rfl|hr
  ·exact⟨⟨by rcases h.1 with rfl|rfl|rfl<;>decide+kernel,by show 2<=100;decide⟩,rfl,rfl,fun w e=>nomatch e⟩
  ·rcases ao.mp hr with hr|hr
   ·exact rok a _ h.2.1 ρ hr
   ·exact rok b _ h.2.2.1 ρ hr
end Xt
theorem z9 {ws:List Str}:∀{ts:List Xt} {vs:List Vl} {p:Nat},okX ws vs ts->∀{j:Nat} {ρ:Ro},(kM ts p)[j]?=some ρ->ρ.ok/\ρ.isF=false/\(ρ.ex=ρ.pl.map fun _=>none)/\(∀w,ρ= .name w->∃k,ws[k]?=some w/\k<dX ts p vs.length (p+j))/\∀c∈ρ.pl,∃m:Nat,c=(m:Int)/\p+j<m/\dX ts p vs.length m=dX ts p vs.length (p+j)
 |[],vs,p,_,j,ρ,h=>by cases h
 |t::ts,vs,p,ok,j,ρ,h=>by
  rw[kM]at h
  by_cases z:j<t.ms.length
  ·rw[aK (by rw[Xt.ro_len];exact z)]at h
   obtain⟨h1,h2,h3,h4⟩:=t.rok p ok.1 ρ (aN h)
   refine⟨h1,h2,h3,fun w e=>by rw[dX,gx (by lia)];exact h4 w e,fun c hc=>?_⟩
   obtain⟨m,e,g1,g2⟩:=t.kid p h hc
   exact⟨m,e,g1,by rw[dX,dX,gx g2,gx (by lia)]⟩
  ·rw[aJ (by rw[Xt.ro_len];lia),Xt.ro_len]at h
   have e:p+t.ms.length+(j-t.ms.length)=p+j:=by lia
   obtain⟨h1,h2,h3,h4,h5⟩:=z9 ok.2 h
   rw[e,aO,ba]at h4 h5
   refine⟨h1,h2,h3,fun w e=>by rw[dX,fZ (by lia)];exact h4 w e,fun c hc=>?_⟩
   obtain⟨m,e,g1,g2⟩:=h5 c hc
   exact⟨m,e,g1,by rw[dX,dX,fZ (by lia),fZ (by lia)];exact g2⟩
theorem vQ:∀{ts:List Xt} {p d i r:Nat},(yk ts p)[i]?=some r->p<=r/\r<p+(msX ts).length/\dX ts p d r=d+i
 |[],p,d,i,r,h=>by cases h
 |t::ts,p,d,0,r,h=>by
  cases h
  have:=t.pos
  rw[msX,aO]
  exact⟨cz _,by lia,by rw[dX,gx (by lia)];rfl⟩
 |t::ts,p,d,i+ 1,r,h=>by
  obtain⟨h1,h2,h3⟩:=vQ (d:=d+ 1) (show(yk ts (p+t.ms.length))[i]?=some r from h)
  rw[msX,aO]
  exact⟨by lia,by lia,by rw[dX,fZ (by lia),h3];lia⟩
theorem BP:∀{ts:List Xt} {p j:Nat},j<(msX ts).length->(∃i:Nat,(yk ts p)[i]?=some (p+j))\/∃(j':Nat) (ρ:Ro),j'<j/\(kM ts p)[j']?=some ρ/\((p+j:Nat):Int)∈ρ.pl
 |[],p,j,h=>by cases h
 |t::ts,p,j,h=>by
  rw[msX,aO]at h
  by_cases z:j<t.ms.length
  ·rcases t.reach p j z with rfl|⟨j',ρ,h1,h2,h3⟩
   ·exact .inl ⟨0,rfl⟩
   ·exact .inr ⟨j',ρ,h1,by rw[kM,aK (by rw[Xt.ro_len];lia)];exact h2,h3⟩
  ·have e:p+t.ms.length+(j-t.ms.length)=p+j:=by lia
   rcases BP (ts:=ts) (p:=p+t.ms.length) (j:=j-t.ms.length) (by lia)with⟨i,hi⟩|⟨j',ρ,h1,h2,h3⟩
   ·rw[e]at hi
    exact .inl ⟨i+ 1,hi⟩
   ·rw[e]at h3
    exact .inr ⟨t.ms.length+j',ρ,by lia,by rw[kM,aJ (by rw[Xt.ro_len];lia),Xt.ro_len,cR];exact h2,h3⟩
theorem C0 {ns:List Str} (hn:ns.Nodup):∀{d k:Nat} {w:Str},ns[k]?=some w->k<d->G0 ns d w=some ((("def":Str),(k:Int)):Hm)
 |0,k,w,_,h=>absurd h (cO _)
 |d+ 1,k,w,e,h=>by
  rw[G0]
  have hk:=(au.mp e).1
  by_cases z:k=d
  ·subst z
   rw[e]
   exact gx rfl
  ·have ih:=C0 hn e (show k<d by lia)
   cases ed:ns[d]? with
   |none=>exact ih
   |some x=>
    refine(fZ fun c=>z ?_).trans ih
    rw[c]at e
    exact(List.getElem?_inj hk hn).mp (e.trans ed.symm)
theorem EM:∀{ts:List Xt} {p d q:Nat},q<p+(msX ts).length->p<=q->dX ts p d q<d+ts.length
 |[],p,d,q,h,h'=>by
  have h:q<p+ 0:=h
  lia
 |t::ts,p,d,q,h,h'=>by
  rw[msX,aO]at h
  rw[dX,az]
  split
  ·lia
  ·have:=EM (ts:=ts) (p:=p+t.ms.length) (d:=d+ 1) (q:=q) (by lia) (by lia)
   lia
section
variable {ws:List Str} {ts:List Xt}
def EN (ws:List Str) (ts:List Xt):Nat->Str->Option Hm:=fun q=>G0 (ws.take ts.length) (dX ts 0 0 q)
theorem Aa {k:Nat} {w:Str} (e:ws[k]?=some w) (h:k<ts.length):(ws.take ts.length)[k]?=some w:=by rw[b9,gx h];exact e
theorem EO (hn:ws.Nodup) (hl:ts.length<=12) (hw:ts.length<=ws.length) (ok:okX ws [] ts) (hz:(msX ts).length<=160):As (ws.take ts.length) (yk ts 0) (kM ts 0) (EN ws ts):=by
 have hN:(ws.take ts.length).Nodup:=hn.sublist (List.take_sublist _ _)
 have lt:(ws.take ts.length).length=ts.length:=by rw[aI];lia
 have at':∀{j:Nat} {ρ:Ro},(kM ts 0)[j]?=some ρ->_:=fun{j ρ} h=>z9 (p:=0) (vs:=[]) ok h
 refine⟨hN,by lia,by rw[w6,lt],fun ρ hρ=>?_,by rw[mf];lia,fun i r h=>?_,fun i r ρ h hr=>?_,fun k ρ j c e hk hc he=>?_,fun k hk=>?_,fun k x hk=>?_⟩
 ·obtain⟨j,hj⟩:=cb hρ
  exact(at' hj).1
 ·rw[mf]
  have:=(vQ (d:=0) h).2.1
  lia
 ·rw[(at' hr).2.1,fZ eP,EN,(vQ h).2.2,cK]
 ·obtain⟨_,_,h3,_,h5⟩:=at' hk
  obtain⟨m,e1,g1,g2⟩:=h5 c (aN hc)
  rw[h3,aM,hc]at he
  cases he
  rw[cK]at g1 g2
  exact⟨m,e1,g1,by unfold EN;rw[show dX ts 0 0 m=dX ts 0 0 k from g2];rfl⟩
 ·rw[mf]at hk
  rcases BP (p:=0) hk with⟨i,h⟩|⟨j',ρ,h1,h2,h3⟩
  ·rw[cK]at h
   exact .inl ⟨i,h⟩
  ·rw[cK]at h3
   exact .inr ⟨j',ρ,h1,h2,h3⟩
 ·obtain⟨_,_,_,h4,_⟩:=at' hk
  obtain⟨i,e,hi⟩:=h4 x rfl
  rw[cK]at hi
  have hi:i<dX ts 0 0 k:=hi
  have hkl:=(au.mp hk).1
  rw[mf]at hkl
  have:=EM (ts:=ts) (p:=0) (d:=0) (q:=k) (by lia) (cA _)
  exact⟨_,C0 hN (Aa e (by lia)) hi⟩
end
theorem HB {ρs:List Ro} {ho:Nat->Option Hm} {tu:Nat} {ws ns:List Str} {π:Int->Int} {M:List Int} (hπ:∀(j:Nat) (m:Int),M[j]?=some m->π m=(j:Int)) (hn:ns.Nodup):
  ∀(ts:List Xt) (vs:List Vl) (p:Nat),okX ws vs ts->(∀(k:Nat) (w:Str),ws[k]?=some w->k<vs.length+ts.length->ns[k]?=some w)->Sub (kM ts p) p ρs->Sub (msX ts) p M->(∀(q:Nat) (w:Str),ρs[q]?=some (.name w)->p<=q->q<p+(msX ts).length->ho q=G0 ns (dX ts p vs.length q) w)->
  ∀s:Ms,s.st=[]->s.rd=[]->s.de=vs.map (Vl.mp π)->s.bg+(msX ts).length<=tu->∃n,n<=2*(msX ts).length+ 3*ts.length/\vO ρs ho tu n (yk ts p) s {s with bg:=s.bg+(msX ts).length,en:=some "done",me:=((meX ts).map (p3 π)).reverse++s.me,ha:=((haX ts).map (p2 π)).reverse++s.ha,de:=(vs++ts.map Xt.val).map (Vl.mp π)}
 |[],vs,p,_,_,_,_,_,s,h1,h2,h3,_=>⟨0,cz _,by
   rw[aU,aD,<-h3]
   exact .done⟩
 |t::ts,vs,p,ok,hN,hr,hm,hh,s,h1,h2,h3,hb=>by
  obtain⟨ra,rb⟩:=Sub.app hr
  obtain⟨ma,mb⟩:=Sub.app hm
  rw[Xt.ro_len]at rb
  have ll:(msX (t::ts)).length=t.ms.length+(msX ts).length:=aO
  rw[az]at hN
  rw[ll]at hb hh
  have r1:=CZ (ρs:=ρs) (ho:=ho) (tu:=tu) (G:=G0 ns vs.length) hπ (fun k w e h=>C0 hn (hN k w e (by lia)) h) t p ok.1 ra ma (fun q w e g1 g2=>by rw[hh q w e g1 (by lia),dX,gx g2]) (s:={s with st:= .beg (p:Int)::s.st}) rfl h3 (by show s.bg+_<=_;lia) (.stop h1)
  obtain⟨n,hn',rP⟩:=HB (ρs:=ρs) (ho:=ho) (tu:=tu) (ws:=ws) hπ hn ts (vs++[t.val]) (p+t.ms.length) ok.2 (fun k w e h=>hN k w e (by rw[aO,ba]at h;lia)) rb mb (fun q w e g1 g2=>by rw[hh q w e (by lia) (by lia),dX,fZ (by lia),aO,ba]) {s with bg:=s.bg+t.ms.length,me:=(t.me.map (p3 π)).reverse++s.me,ha:=(t.ha.map (p2 π)).reverse++s.ha,de:=s.de++[t.val.mp π]} h1 h2 (by show s.de++_=_;rw[h3,bh];rfl) (by show s.bg+_+_<=_;lia)
  have e1:(meX (t::ts)).map (p3 π)=t.me.map (p3 π)++(meX ts).map (p3 π):=bh
  have e2:(haX (t::ts)).map (p2 π)=t.ha.map (p2 π)++(haX ts).map (p2 π):=bh
  rw[ll,e1,e2,b8,b8,bJ,bJ,<-Nat.add_assoc,aB,show vs++t.val::ts.map Xt.val=vs++[t.val]++ts.map Xt.val by rw[bJ];rfl]
  exact⟨_,by rw[az];lia,.next r1 rfl rP⟩
open GR.Internal (Op Gp toks lF i6 gk isName WOk TAt kN)
theorem vR:∀{a b:List Dt},gFs a=true->gFs b=true->gFs (a++b)=true
 |[],b,_,h=>h
 |d::a,b,h,k=>by
  rw[gFs,eR]at h
  rw[aS,gFs,h.1,vR h.2 k]
  rfl
theorem Xt.gf:∀(t:Xt) (p:Nat),gFs ((t.ro p).map Ro.d)=true
 | .num _ _,_=>rfl
 | .nam _ _ _ _,_=>rfl
 | .op _ _ a b,p=>by
  rw[ro,aB,bh,gFs,vR (gf a _) (gf b _)]
  rfl
theorem gfX:∀(ts:List Xt) (p:Nat),gFs ((kM ts p).map Ro.d)=true
 |[],_=>rfl
 |t::ts,p=>by rw[kM,bh];exact vR (t.gf p) (gfX ts _)
theorem vS {ts us:List Str} (h:∀w∈ts,okW w) (k:∀w∈us,okW w):∀w∈ts++us,okW w:=fun w hw=>(ao.mp hw).elim (h w) (k w)
theorem ER:∀l:List Nat,gFs (l.map TM.Internal.kD)=true
 |[]=>rfl
 |k::l=>by rw[aB,gFs,ER l];rfl
structure Gt (x:Str) (ts:List Str) (n:Nat):Prop where
 op:Op x ts
 l:x.length<=70*n
 k:ts.length<=4*n
 o:∀w∈ts,okW w
theorem GV:∀o:Str,o="add"\/o="sub"\/o="less"->wY o/\o.length<=4/\okW o/\(o,2)∈TM.Internal.ops:=fun o h=>by rcases h with rfl|rfl|rfl<;>(refine⟨⟨?_,?_⟩,?_,⟨?_,?_,?_⟩,?_⟩<;>decide+kernel)
theorem Ab:okW "("/\okW ")"/\okW "def":=by refine⟨⟨?_,?_,?_⟩,⟨?_,?_,?_⟩,?_,?_,?_⟩<;>decide+kernel
theorem Xt.tk_op (m:Int) (o:Str) (a b:Xt):(Xt.op m o a b).tr.tk=(["(",o]:List Str)++a.tr.tk++b.tr.tk++[(")":Str)]:=by
 rw[tr,TM.Internal.Tr.tk,TM.Internal.tks,TM.Internal.tks,TM.Internal.tks]
 show("(":Str)::o::(([a.tr.tk,b.tr.tk]:List (List Str)).flatten++[(")":Str)])=_
 simp only[bN,List.flatten_nil,aD,aS,bP,bJ]
theorem Xt.gt {ws:List Str} {vs:List Vl} (hw:∀w∈ws,isName w=true):∀t:Xt,t.ok ws vs->Gt t.tx t.tr.tk t.ms.length/\t.tr.ok
 | .num _ n,h=>by
  have g:=EG h.1 h.2
  exact⟨⟨g.op,by have:=g.ln;show _<=70;show(TM.Internal.numS n).length<=70;lia,by show 1<=4;decide,g.ok⟩,by rw[tr,TM.Internal.Tr.ok,TM.Internal.oks];exact⟨h,rfl,trivial⟩⟩
 | .nam _ w k v,h=>by
  have nw:=hw w (aN h.1)
  have g:=z7 nw
  exact⟨⟨g.op,by have:=g.ln;show w.length<=70;lia,by show 1<=4;decide,g.ok⟩,by rw[tr,TM.Internal.Tr.ok,TM.Internal.oks];exact⟨nw,rfl,trivial⟩⟩
 | .op m o a b,h=>by
  obtain⟨ga,ka⟩:=gt hw a h.2.1
  obtain⟨gb,kb⟩:=gt hw b h.2.2.1
  obtain⟨o1,o2,o3,o4⟩:=GV o h.1
  have e:(Xt.op m o a b).tx="("++o++" "++a.tx++" "++b.tx++")":=by
   show("(":Str)++(o++" "++(a.tx++" "++b.tx))++")"=_
   simp only[GR.Internal.cat_assoc]
  have b1:Gp "(" ["("]:=gq
  refine⟨⟨?_,?_,?_,?_⟩,?_⟩
  ·rw[e,tk_op]
   exact(((b1.app_op (Op.word o1.1 o1.2)).gap.app_op ga.op).gap.app_op gb.op).close.op
  ·rw[e,ms]
   simp only[Str.length_append,az,aO]
   have:=ga.l
   have:=gb.l
   rw[show("(":Str).length=1 by decide+kernel,show(" ":Str).length=1 by decide+kernel,show(")":Str).length=1 by decide+kernel]
   lia
  ·rw[tk_op,ms]
   simp only[az,aO,aT]
   have:=ga.k
   have:=gb.k
   lia
  ·rw[tk_op]
   exact vS (vS (vS (fun w hw=>by rcases ak.mp hw with rfl|hw;exact Ab.1;rw[bf.mp hw];exact o3) ga.o) gb.o) fun w hw=>by rw[bf.mp hw];exact Ab.2.1
  ·rw[tr,TM.Internal.Tr.ok,TM.Internal.oks,TM.Internal.oks,TM.Internal.oks]
   exact⟨o4,rfl,ka,kb,trivial⟩
def lnS (w x:Str):Str:="(def "++w++" "++x++")"
def lnX:List Str->List Xt->List Str
 |w::ws,t::ts=>lnS w t.tx::lnX ws ts
 |_,_=>[]
structure Gu (x:Str) (ts:List Str) (n:Nat):Prop where
 g:Gp x ts
 l:x.length<=100*n
 k:ts.length<=8*n
 o:∀w∈ts,okW w
theorem GW {w x:Str} {ts:List Str} {n:Nat} (hw:isName w=true) (g:Gt x ts n) (hn:0<n):Gu (lnS w x) ((["(","def",w]:List Str)++ts++[(")":Str)]) n/\(lnS w x).length+ 1<=100*n:=by
 have gw:=z7 hw
 have b1:Gp "(def " ["(","def"]:=gq
 have:=gw.ln
 have:=g.l
 have:=g.k
 have hl:(lnS w x).length+ 1<=100*n:=by
  unfold lnS
  simp only[Str.length_append]
  rw[show("(def ":Str).length=5 by decide+kernel,show(" ":Str).length=1 by decide+kernel,show(")":Str).length=1 by decide+kernel]
  lia
 refine⟨⟨((b1.app_op gw.op).gap.app_op g.op).close,by lia,?_,?_⟩,hl⟩
 ·simp only[aO,az,aT]
  lia
 ·refine vS (vS (fun v hv=>?_) g.o) fun v hv=>by rw[bf.mp hv];exact Ab.2.1
  rcases ak.mp hv with rfl|hv
  ·exact Ab.1
  ·rcases ak.mp hv with rfl|hv
   ·exact Ab.2.2
   ·exact gw.ok v hv
theorem C9 {ws:List Str} (hw:∀w∈ws,isName w=true):∀{ns:List Str} {ts:List Xt} {vs:List Vl},(∀n∈ns,isName n=true)->ns.length=ts.length->okX ws vs ts->Gu (Str.join "\n" (lnX ns ts)) (yj ns (ts.map Xt.tr)) (msX ts).length/\TM.Internal.oks (ts.map Xt.tr)
 |[],[],vs,_,_,_=>⟨⟨gq,gq,cA _,fun w hw=>by cases hw⟩,by rw[aU,TM.Internal.oks];trivial⟩
 |n::ns,t::ts,vs,hn,hl,ok=>by
  obtain⟨g,k⟩:=t.gt hw ok.1
  obtain⟨g1,l1⟩:=GW (hn n ah) g t.pos
  obtain⟨g2,k2⟩:=C9 hw (ns:=ns) (ts:=ts) (fun x hx=>hn x (aj _ hx)) (by simpa using hl) ok.2
  have e:yj (n::ns) ((t::ts).map Xt.tr)=((["(","def",n]:List Str)++t.tr.tk++[(")":Str)])++yj ns (ts.map Xt.tr):=by
   rw[aB,yj,dtk]
   simp only[aS,bP,bJ]
  refine⟨?_,by rw[aB,TM.Internal.oks];exact⟨k,k2⟩⟩
  rw[e,msX,aO]
  match ns,ts,hl,g2 with
  |[],[],_,g2=>
   refine⟨?_,cw g1.l (by lia),?_,vS g1.o g2.o⟩
   ·show Gp (lnS n t.tx) (_++[])
    rw[aD]
    exact g1.g
   ·show(_++[]).length<=_
    rw[aD]
    exact cw g1.k (by lia)
  |n2::ns,t2::ts,_,g2=>
   have nl:Gp "\n" []:=gq
   have q:=(g1.g.app nl).app g2.g
   rw[aD]at q
   refine⟨q,?_,by rw[aO];have:=g1.k;have:=g2.k;lia,vS g1.o g2.o⟩
   show(lnS n t.tx++"\n"++Str.join "\n" (lnX (n2::ns) (t2::ts))).length<=_
   rw[Str.length_append,Str.length_append,show("\n":Str).length=1 by decide+kernel]
   have:=g2.l
   lia
theorem GX {ws ns:List Str} {ts:List Xt} (hw:∀w∈ws,isName w=true) (hn:∀n∈ns,isName n=true) (hl:ns.length=ts.length) (ok:okX ws [] ts) (hd:∀t∈ts,t.tr.nest<=24) (hz:(msX ts).length<=160) (h1:1<=ts.length) (h2:ts.length<=12):lF (yj ns (ts.map Xt.tr))=some (ns,(yk ts 0).map TM.Internal.kD,(kM ts 0).map Ro.d):=by
 obtain⟨_,k⟩:=C9 hw hn hl ok
 rw[z8,BN]
 exact Bl (by rw[aC];exact hl) hn k (fun t ht=>by obtain⟨u,hu,rfl⟩:=bb.mp ht;exact hd u hu) (by rw[HA];exact hz) (by lia) (by lia)
theorem HC:("abcdefghijklmnopqrstuvwxyz0123456789":Str).cps.toList.length=36:=gq
theorem emN (a:Int) {m:Int} (h:0<m):∃n:Nat,a%m=(n:Int)/\(n:Int)<m:=by
 have:=fc a (Int.ne_of_gt h)
 have:=fe a h
 exact⟨(a%m).toNat,by lia,by lia⟩
theorem nz (c:Nat):(⟨#[c]⟩:Str).length=1:=rfl
def sgn (k:Nat):Nat:=("abcdefghijklmnop":Str).cps.toList.getD k 0
def w1 (A B:Str) (k:Nat):Str:=A++⟨#[sgn k]⟩++B
def t7 (z:Int):Nat:=(atI ("t7":Str).cps.toList z).getD 0
def part (j:Nat):Int:=([8,4,2,1]:List Int).getD j 1
def bit (k j:Nat):Nat:=t7 ((0+(k:Int))/part j%2)
def w2 (x:Str) (k:Nat):Nat->Str
 |0=>x
 |j+ 1=>w2 x k j++⟨#[bit k j]⟩
theorem Ac {l:List Nat} {i:Nat} (h:i<l.length):atI l (0+(i:Int))=some (l.getD i 0):=by
 rw[Int.zero_add,bo,bz h]
 exact fH (bz h)
theorem mw (a b:Str):(a++b).cps.toList=a.cps.toList++b.cps.toList:=eY
theorem GY {x:Str} {j:Int} (h0:0<=j) (h1:j<=x.length):(Txt.slice x none (some j)).cps.toList=x.cps.toList.take j.toNat:=by
 have e:Txt.slice x none (some j)=⟨((x.cps.toList.drop (0:Int).toNat).take (j-0).toNat).toArray⟩:=eq_of_beq (PyProof.Rows.slice_closes_to ⟨h0,h1⟩)
 rw[e]
 show((x.cps.toList.drop 0).take (j-0).toNat)=_
 rw[b0,Int.sub_zero]
theorem Dc {x:Str} {j:Int} (h0:0<=j) (h1:j<=x.length):(Txt.slice x (some j) none).cps.toList=x.cps.toList.drop j.toNat:=by
 have e:Txt.slice x (some j) none=⟨((x.cps.toList.drop j.toNat).take ((x.cps.toList.length:Int)-j).toNat).toArray⟩:=eq_of_beq (PyProof.Rows.slice_closes_from ⟨h0,h1⟩)
 rw[e]
 show((x.cps.toList.drop j.toNat).take ((x.cps.toList.length:Int)-j).toNat)=_
 rw[bZ]
 rw[aW]
 lia
theorem Dd:∀c∈("abcdefghijklmnopqrstuvwxyz0123456789":Str).cps.toList,c∈(GR.Internal.SM++GR.Internal.FG).cps.toList:=gq
theorem ES:∀c∈GR.Internal.SM.cps.toList,c∈(GR.Internal.SM++GR.Internal.FG).cps.toList:=gq
theorem De:∀i:Nat,i<26->("abcdefghijklmnopqrstuvwxyz0123456789":Str).cps.toList.getD i 0∈GR.Internal.SM.cps.toList:=gq
def Nms (x:Str):Prop:=(∃c r,x.cps.toList=c::r/\c∈GR.Internal.SM.cps.toList)/\∀c∈x.cps.toList,c∈(GR.Internal.SM++GR.Internal.FG).cps.toList
theorem ET:∀v∈GR.Internal.KWV,∃s:Str,v= .str s/\s.length<=4:=fun v hv=>by
 unfold GR.Internal.KWV at hv
 simp only[ak,bB,or_false]at hv
 rcases hv with rfl|rfl|rfl|rfl|rfl|rfl|rfl|rfl|rfl|rfl|rfl|rfl|rfl|rfl|rfl<;>exact⟨_,rfl,gq⟩
theorem EU {w:Str} {l:List Nat} (e:w.cps.toList=l) (h5:5<=l.length) (h12:l.length<=12) (h0:∃c,l[0]?=some c/\c∈GR.Internal.SM.cps.toList) (ha:∀c∈l,c∈(GR.Internal.SM++GR.Internal.FG).cps.toList):GR.Internal.isName w=true:=by
 have hl:w.length=l.length:=by rw[<-e];rfl
 obtain⟨c,h0,hc⟩:=h0
 have f1:GR.Internal.firstIn w GR.Internal.SM=true:=by
  unfold GR.Internal.firstIn
  rw[e]
  cases l with
  |nil=>cases h0
  |cons d r=>cases h0;exact gR hc
 have f2:GR.Internal.allIn w (GR.Internal.SM++GR.Internal.FG)=true:=bI.mpr fun c hc=>gR (ha c (e▸hc))
 have hk:inV (.str w) GR.Internal.KWV=false:=by
  cases z:inV (.str w) GR.Internal.KWV with
  |false=>rfl
  |true=>
   unfold inV at z
   obtain⟨y,hy,q⟩:=bc.mp z
   obtain⟨s,rfl,hs⟩:=ET y hy
   have:s=w:=by simpa[eqV]using q
   rw[this]at hs
   lia
 unfold GR.Internal.isName
 rw[hl,gR (by lia:1<=l.length),gR h12,hk,f1,f2]
 rfl
theorem BQ:∀k,k<16->sgn k∈GR.Internal.SM.cps.toList:=gq
theorem EV:∀k:Nat,k<16->∀c∈[bit k 0,bit k 1,bit k 2,bit k 3],c∈(GR.Internal.SM++GR.Internal.FG).cps.toList:=gq
theorem GZ {x:Str} {a:Int} {k:Nat} (hx:Nms x) (h4:4<=x.length) (h11:x.length<=11) (a0:0<=a) (a1:a<=x.length) (hk:k<16):GR.Internal.isName (w1 (Txt.slice x none (some a)) (Txt.slice x (some a) none) k)=true:=by
 have hl:x.cps.toList.length=x.length:=rfl
 obtain⟨⟨c0,r,hc,hs⟩,xin⟩:=hx
 refine EU (l:=x.cps.toList.take a.toNat++[sgn k]++x.cps.toList.drop a.toNat) (by rw[w1,mw,mw,GY a0 a1,Dc a0 a1]) ?_ ?_ ?_ ?_
 ·rw[aO,aO,ba,aI,aW];lia
 ·rw[aO,aO,ba,aI,aW];lia
 ·by_cases z:a.toNat=0
  ·rw[z];exact⟨sgn k,rfl,BQ k hk⟩
  ·refine⟨c0,?_,hs⟩
   rw[bJ,aK (by rw[aI];lia),b9,gx (by lia),hc]
   rfl
 ·intro d hd
  rcases ao.mp hd with hd|hd
  ·rcases ao.mp hd with hd|hd
   ·exact xin d (cc hd)
   ·rw[bf.mp hd];exact ES _ (BQ k hk)
  ·exact xin d (bL hd)
theorem BR (x:Str) (k:Nat):(w2 x k 4).cps.toList=x.cps.toList++[bit k 0,bit k 1,bit k 2,bit k 3]:=by
 simp only[w2,mw,bJ]
 rfl
theorem G1 {x:Str} {k:Nat} (hx:Nms x) (h8:x.length<=8) (hk:k<16):GR.Internal.isName (w2 x k 4)=true:=by
 have hl:x.cps.toList.length=x.length:=rfl
 obtain⟨⟨c0,r,hc,hs⟩,xin⟩:=hx
 refine EU (BR x k) ?_ ?_ ⟨c0,by rw[hc];rfl,hs⟩ ?_
 ·rw[aO,hc];show 5<=r.length+ 1+ 4;lia
 ·rw[aO];show _+ 4<=12;lia
 ·intro d hd
  rcases ao.mp hd with hd|hd
  ·exact xin d hd
  ·exact EV k hk d hd
theorem Dg:∀i,i<16->∀j,j<16->sgn i=sgn j->i=j:=gq
theorem EW (A B:Str) {i j:Nat} (hi:i<16) (hj:j<16) (e:w1 A B i=w1 A B j):i=j:=by
 have h:=congrArg (fun z:Str=>z.cps.toList) e
 simp only[w1,mw]at h
 have h2:=cf (List.append_cancel_right h)
 injection h2 with h3 _
 exact Dg i hi j hj h3
theorem Dh:∀i,i<16->∀j,j<16->[bit i 0,bit i 1,bit i 2,bit i 3]=[bit j 0,bit j 1,bit j 2,bit j 3]->i=j:=gq
theorem EY (x:Str) {i j:Nat} (hi:i<16) (hj:j<16) (e:w2 x i 4=w2 x j 4):i=j:=by
 have h:=congrArg (fun z:Str=>z.cps.toList) e
 simp only[BR]at h
 exact Dh i hi j hj (cf h)
theorem nd16 {f:Nat->Str} (h:∀{i j:Nat},i<16->j<16->f i=f j->i=j):((aa 16).map f).Nodup:=by
 refine List.pairwise_map.mpr ((List.nodup_range (n:=16)).imp_of_mem fun hi hj ne e=>ne (h (af.mp hi) (af.mp hj) e))
theorem rW {f:Nat->Str} (i:Nat):(aa (i+ 1)).map f=(aa i).map f++[f i]:=by
 rw[List.range_succ,bh]
 rfl
structure Wd (H:Hp) (l:Addr) (ws:List Str):Prop where
 e:H l=some (.lst (ws.map V.str))
 l:ws.length=16
 n:∀x∈ws,GR.Internal.isName x=true
 d:ws.Nodup
def uO:Sp:=fun vs H Q _=>∃(c:Int) (m:Nat),vs=[.int c,.int (m:Int)]/\1<=m/\m<=100/\∀x:Str,x.length=m->Nms x->Q (.str x) H
theorem uP (T:Txt K mg):FO P w base 1 T.d25 uO:=by
 refine T.d25.F.rd iw fun cdv A outer s H vs Q E hr h=>?_
 obtain⟨c,m,rfl,h0,h1,q⟩:=h
 refine⟨_,(fA (pS (i:=2) iw.nd fQ)
  (fA (pS (i:=3) iw.nd fQ)
  (fA (iZ PassesOwn.never rfl (nG rfl T.z_range (fz (cv 1) fD)) (pN (i:=4) iw.nd)
   (fA (pS (i:=5) iw.nd fF)
   (fA (gL (gz kF (cv 4) fF)
    (fG (pS (i:=5) iw.nd fF))
    gm)
   (fA (pS (i:=3) iw.nd (gK kG (cv 3) (fV zq (cv 2) (gK jY (cv 0) (cv 5)))))
   (fG (pS (i:=0) iw.nd (gK kE (cv 0) fF)))))))
  (fG (f7 (cv 3)))))),?_⟩
 have sl:=sizeLine_eq
 refine⟨_,rfl,by lia,by lia,nH (fun i σ H2=>∃(y:Str) (c:Int) (o o2:Option V),σ=[some (.int c),some (.int (m:Int)),some (.str "abcdefghijklmnopqrstuvwxyz0123456789"),some (.str y),o,o2]/\H2=H/\y.length=i/\(∀c∈y.cps.toList,c∈(GR.Internal.SM++GR.Internal.FG).cps.toList)/\(0<i->∃c r,y.cps.toList=c::r/\c∈GR.Internal.SM.cps.toList))
  ⟨"",c,none,none,rfl,rfl,rfl,(fun c hc=>nomatch hc),fun z=>absurd z (by decide)⟩ ?_ ?_⟩
 ·rintro i σ H2 hi ⟨y,c,o,o2,rfl,rfl,hy,ha,hf⟩
  have stp:∀n:Int,(n=26\/n=36)->(0<i\/n=26)->∃ch:Nat,atI ("abcdefghijklmnopqrstuvwxyz0123456789":Str).cps.toList (c%n)=some ch/\∃(y':Str),y++⟨#[ch]⟩=y'/\y'.length=i+ 1/\(∀c∈y'.cps.toList,c∈(GR.Internal.SM++GR.Internal.FG).cps.toList)/\∃c r,y'.cps.toList=c::r/\c∈GR.Internal.SM.cps.toList:=fun n hn hi0=>by
   have hp:(0:Int)<n:=by lia
   have a0:=fc c (Int.ne_of_gt hp)
   have a1:=fe c hp
   obtain⟨ch,e,mm⟩:=BE ("abcdefghijklmnopqrstuvwxyz0123456789":Str).cps.toList (c%n) a0 (by rw[HC];lia)
   refine⟨ch,e,_,rfl,by rw[Str.length_append,nz,hy],fun d hd=>?_,?_⟩
   ·rw[mw]at hd
    rcases ao.mp hd with hd|hd
    ·exact ha d hd
    ·rw[bf.mp hd];exact Dd _ mm
   ·rw[mw]
    rcases hi0 with z|z
    ·obtain⟨d,r,hd,hs⟩:=hf z
     exact⟨d,r++[ch],by rw[hd];rfl,hs⟩
    ·by_cases iz:0<i
     ·obtain⟨d,r,hd,hs⟩:=hf iz
      exact⟨d,r++[ch],by rw[hd];rfl,hs⟩
     ·have e0:y.cps.toList=[]:=bO (show y.length=0 by lia)
      refine⟨ch,[],by rw[e0];rfl,?_⟩
      have h26:=De (c%n).toNat (by lia)
      have e2:=Ac (l:=("abcdefghijklmnopqrstuvwxyz0123456789":Str).cps.toList) (i:=(c%n).toNat) (by rw[HC];lia)
      rw[show(0:Int)+((c%n).toNat:Int)=c%n by lia,e]at e2
      rw[cX.inj e2]
      exact h26
  show(if(false ^^ decide ((0:Int)+(i:Int)=0))=true then _ else _)
  rw[eT]
  by_cases z:(0:Int)+(i:Int)=0
  ·rw[gR z]
   obtain⟨ch,e,y',rfl,h1',h2',h3'⟩:=stp 26 (.inl rfl) (.inr rfl)
   exact jm ⟨(by show(0:Int)<26;decide),sz gq,fN e ⟨by rw[nz];lia,⟨by decide,by decide⟩,_,_,_,_,rfl,rfl,h1',h2',fun _=>h3'⟩⟩
  ·rw[ig z]
   obtain⟨ch,e,y',rfl,h1',h2',h3'⟩:=stp 36 (.inr rfl) (.inl (by lia))
   exact iO ⟨(by show(0:Int)<36;decide),sz gq,fN e ⟨by rw[nz];lia,⟨by decide,by decide⟩,_,_,_,_,rfl,rfl,h1',h2',fun _=>h3'⟩⟩
 ·rintro σ H2 ⟨y,c,o,o2,rfl,rfl,hy,ha,hf⟩
  exact q y (by lia) ⟨hf (by lia),ha⟩
def sX:Sp:=fun vs H Q _=>∃c:Int,vs=[.int c]/\∀l ws H',fW H H'->H l=none->Wd H' l ws->Q (.ref l) H'
theorem sY (T:Txt K mg):FO P w base 2 T.d26 sX:=by
 have gD25:=uP (P:=P) (w:=w) (base:=base) T
 refine T.d26.F.rd gG fun cdv A outer s H vs Q E hr h=>?_
 obtain⟨c,rfl,q⟩:=h
 refine⟨_,(fA (pS (i:=0) gG.nd (gK jY (cv 0) (gK wx fF fF)))
  (fA (pS (i:=1) gG.nd (gK oM (gK jY (cv 0) fF) fF))
  (fA (pS (i:=2) gG.nd (gA fD))
  (fA (gL (gz kF (gK jY (gK kE (cv 0) fF) fF) fF)
   (fA (pS (i:=3) gG.nd (pF T.d25 gD25 hr.m (fz (gK kE (cv 0) fF) (fz (gK oM (cv 1) fF) fD))))
   (fA (pS (i:=4) gG.nd (gK jY (gK kE (cv 0) fF) (gK oM (cv 1) fF)))
   (fA (iZ PassesOwn.never rfl (nG rfl T.z_range (fz fF fD)) (pN (i:=5) gG.nd)
    (fG (gh (iP (jl eG eI eJ gr (PE.mono (cv 2)) (fz (PE.mono (gK kG (gK kG (jR By (cv 3) lM (kB (cv 4))) (fV zq fQ (cv 5))) (jR By (cv 3) (kB (cv 4)) lM))) fD))))))
   (fG (f7 (cv 2))))))
   gm)
  (fA (pS (i:=3) gG.nd (pF T.d25 gD25 hr.m (fz (gK kE (cv 0) fF) (fz (cv 1) fD))))
  (fA (iZ PassesOwn.never rfl (nG rfl T.z_range (fz fF fD)) (pN (i:=5) gG.nd)
   (fA (pS (i:=6) gG.nd (cv 3))
   (fA (iZ PassesOwn.never rfl (jh (gA (fz fF (fz fF (fz fF (fz fF fD)))))) (pN (i:=7) gG.nd)
    (fG (pS (i:=6) gG.nd (gK kG (cv 6) (fV zq fQ (gK jY (gK kE (cv 5) (cv 7)) fF))))))
   (fG (gh (iP (jl eG eI eJ gr (PE.mono (cv 2)) (fz (PE.mono (cv 6)) fD))))))))
  (fG (f7 (cv 2))))))))),?_⟩
 have sl:=sizeLine_eq
 refine⟨⟨by decide,by decide,by decide⟩,(by show(0:Int)<10^(24:Int).toNat;decide+kernel),?_⟩
 dsimp only[gJ]
 generalize c%10^(24:Int).toNat=c
 have s0:=fc c (show(8:Int)≠0 by decide)
 have s1:=fe c (show(0:Int)<8 by decide)
 obtain⟨m,hm⟩:∃m:Nat,c%8+ 1=(m:Int):=⟨(c%8+ 1).toNat,by lia⟩
 refine⟨(by show(0:Int)<8;decide),n6,fun l hl=>?_⟩
 have S1:fW H (upd H l (.lst [])):=fE hl _
 have e1:(upd H l (.lst [])) l=some (.lst []):=fC
 dsimp only[gJ]
 generalize upd H l (.lst [])=H1 at S1 e1⊢
 rw[hm]
 have fin:∀(f:Nat->Str) (H2:Hp),fW H H2->H2 l=some (.lst (((aa 16).map f).map V.str))->(∀k,k<16->GR.Internal.isName (f k)=true)->(∀{i j:Nat},i<16->j<16->f i=f j->i=j)->Q (.ref l) H2:=fun f H2 S e hn hd=>q l _ H2 S hl ⟨e,by rw[aC,cg],fun x hx=>by obtain⟨k,hk,rfl⟩:=bb.mp hx;exact hn k (af.mp hk),nd16 hd⟩
 refine⟨⟨by decide,by decide⟩,(by show(0:Int)<2;decide),?_⟩
 dsimp only[tC,cEq,onB]
 rw[eT]
 cases decide (c/8%2=0)with
 |true=>
  refine jm ⟨⟨by decide,by decide⟩,_,m+ 3,rfl,by lia,by lia,fun x hx nx=>⟨⟨by decide,by decide⟩,(by show(0:Int)<(m:Int)+ 4;lia),?_⟩⟩
  dsimp only[gJ]
  have a0:=fc (c/16) (show((m:Int)+ 4)≠0 by lia)
  have a1:=fe (c/16) (show 0<((m:Int)+ 4) by lia)
  generalize c/16%((m:Int)+ 4)=at_ at a0 a1⊢
  have la:=Txt.slice_le x none (some at_)
  have lb:=Txt.slice_le x (some at_) none
  refine⟨16,rfl,by decide,by decide,nH (fun i σ H2=>∃(o:Option V),σ=[some (.int c),some (.int (m:Int)),some (.ref l),some (.str x),some (.int at_),o,none,none]/\fW H H2/\H2 l=some (.lst (((aa i).map (w1 (Txt.slice x none (some at_)) (Txt.slice x (some at_) none))).map V.str)))
   ⟨none,rfl,S1,e1⟩ ?_ ?_⟩
  ·rintro i σ H2 hi ⟨o,rfl,S,e⟩
   have hi16:i<16:=hi
   have e1:=Ac (l:=("abcdefghijklmnop":Str).cps.toList) (i:=i) (by rw[show("abcdefghijklmnop":Str).cps.toList.length=16 by decide+kernel];lia)
   refine⟨⟨_,e⟩,at_,rfl,_,rfl,by lia,sz gq,fN e1 ⟨by rw[nz];lia,at_,rfl,_,rfl,by lia,by rw[Str.length_append,nz];lia,_,e,by rw[aC,aC,cg];lia,?_⟩⟩
   refine⟨_,rfl,gB S hl _,?_⟩
   rw[fC,rW,bh]
   rfl
  ·rintro σ H2 ⟨o,rfl,S,e⟩
   exact fin _ H2 S e (fun k hk=>GZ nx (by lia) (by lia) a0 (by lia) hk) (EW _ _)
 |false=>
  refine iO ⟨⟨by decide,by decide⟩,_,m,rfl,by lia,by lia,fun x hx nx=>?_⟩
  dsimp only[gJ]
  refine⟨16,rfl,by decide,by decide,nH (fun i σ H2=>∃(o o2 o3:Option V),σ=[some (.int c),some (.int (m:Int)),some (.ref l),some (.str x),none,o,o2,o3]/\fW H H2/\H2 l=some (.lst (((aa i).map fun k=>w2 x k 4).map V.str)))
   ⟨none,none,none,rfl,S1,e1⟩ ?_ ?_⟩
  ·rintro i σ H2 hi ⟨o,o2,o3,rfl,S,e⟩
   have hi16:i<16:=hi
   refine⟨zln4,fun p hp=>⟨p,rfl,⟨_,SqL.of fC⟩,?_⟩⟩
   have S2:fW H (upd H2 p (.lst [V.int 8,V.int 4,V.int 2,V.int 1])):=S.trans (fE hp _)
   have nlp:l≠p:=fJ e hp
   refine jo (xs:=[V.int 8,V.int 4,V.int 2,V.int 1]) (fun j σ H3=>∃(o3:Option V),σ=[some (.int c),some (.int (m:Int)),some (.ref l),some (.str x),none,some (.int (0+(i:Int))),some (.str (w2 x i j)),o3]/\H3=upd H2 p (.lst [V.int 8,V.int 4,V.int 2,V.int 1])/\(w2 x i j).length<=100+j)
    ⟨o3,rfl,rfl,by show x.length<=_;lia⟩ (fun j σ H3 _ ⟨o4,_,e3,_⟩=>by rw[e3];exact SqL.of fC) ?_ ?_
   ·rintro j v σ H3 hv ⟨o4,rfl,rfl,hy⟩
    have hj:j<4:=(au.mp hv).1
    have hn:v= .int (part j)/\0<part j/\part j<1073741824:=by
     match j,hj,hv with
     |0,_,hv=>cases hv;exact⟨rfl,by decide,by decide⟩
     |1,_,hv=>cases hv;exact⟨rfl,by decide,by decide⟩
     |2,_,hv=>cases hv;exact⟨rfl,by decide,by decide⟩
     |3,_,hv=>cases hv;exact⟨rfl,by decide,by decide⟩
    obtain⟨rfl,n0,n1⟩:=hn
    obtain⟨ch,e1,_⟩:=BE ("t7":Str).cps.toList ((0+(i:Int))/part j%2) (fc _ (by decide)) (by rw[show("t7":Str).cps.toList.length=2 by decide+kernel];exact fe _ (by decide))
    have ech:ch=bit i j:=by rw[bit,t7,e1];rfl
    subst ech
    exact⟨⟨n0,n1⟩,(by show(0:Int)<2;decide),sz gq,fN e1 ⟨by rw[nz];lia,_,rfl,rfl,by rw[w2,Str.length_append,nz];lia⟩⟩
   ·rintro σ H3 ⟨o4,rfl,rfl,hy⟩
    have e4:(upd H2 p (.lst [V.int 8,V.int 4,V.int 2,V.int 1])) l=some (.lst (((aa i).map fun k=>w2 x k 4).map V.str)):=by rw[fO nlp];exact e
    refine⟨⟨_,e4⟩,_,e4,by rw[aC,aC,cg];lia,?_⟩
    refine⟨_,_,_,rfl,gB S2 hl _,?_⟩
    rw[fC,rW,bh]
    rfl
  ·rintro σ H2 ⟨o,o2,o3,rfl,S,e⟩
   exact fin _ H2 S e (fun k hk=>G1 nx (by lia) hk) (EY x)
def mask (H:Hp) (M:List Addr):Hp:=fun a=>if a∈M then none else H a
theorem ie {H:Hp} {M:List Addr} {a:Addr} {u:HO} (h:a∉M) (e:H a=some u):mask H M a=some u:=by unfold mask;rw[fZ h];exact e
theorem jV {H:Hp} {M:List Addr} {a:Addr} {u:HO} (e:mask H M a=some u):a∉M/\H a=some u:=by
 unfold mask at e
 split at e
 ·cases e
 ·exact⟨‹_›,e⟩
theorem gU {H:Hp} {M:List Addr}:fW (mask H M) H:=fun b u e=>(jV e).2
def Fr (M:List Addr) (H H':Hp):Prop:=∀b o,H b=some o->b∉M->H' b=some o
theorem Fr.mask {M:List Addr} {H H':Hp} (f:Fr M H H'):fW (mask H M) (mask H' M):=fun b u e=>ie (jV e).1 (f _ _ (jV e).2 (jV e).1)
theorem Fr.trans {M:List Addr} {H H1 H2:Hp} (f:Fr M H H1) (g:Fr M H1 H2):Fr M H H2:=fun b o e n=>g b o (f b o e n) n
theorem Fr.same {M:List Addr} {H H':Hp} (s:fW H H'):Fr M H H':=fun b o e _=>s b o e
theorem Fr.le {M N:List Addr} {H H':Hp} (f:Fr M H H') (h:∀a∈M,a∈N):Fr N H H':=fun b o e n=>f b o e fun z=>n (h b z)
def qD (j:Nat) (t:Xt):List Dt:=if j=2 then t.ms.map kD else if j=3 then t.ha.map haD else t.me.map meD
def pD (m:Int) (j:Nat) (ts:List Xt):List Dt:=if j=2 then(m::msX ts).map kD else if j=3 then(haX ts).map haD else(meX ts).map meD
inductive XtA (H:Hp) (x:V) (t:Xt):Prop
 |mk (a:Addr) (v:V) (A:Nat->Addr) (e:x= .ref a) (ea:H a=some (.lst [.str t.tx,v,.ref (A 2),.ref (A 3),.ref (A 4)])) (iv:Im H v t.val.d) (hp:∀j,2<=j->j<5->∃xs,H (A j)=some (.lst xs)/\Ims H xs (qD j t))
theorem XtA.same {H H':Hp} {x:V} {t:Xt} (h:XtA H x t) (s:fW H H'):XtA H' x t:=by
 obtain⟨a,v,A,e,ea,iv,hp⟩:=h
 have k:=fW.tk s
 exact⟨a,v,A,e,s _ _ ea,iv.mono k,fun j h2 h5=>let⟨xs,e,i⟩:=hp j h2 h5;⟨xs,s _ _ e,i.mono k⟩⟩
inductive rX (H:Hp):List V->List Xt->Prop
 |nil:rX H [] []
 |cons {x:V} {t:Xt} {xs:List V} {ts:List Xt} (h:XtA H x t) (r:rX H xs ts):rX H (x::xs) (t::ts)
theorem rX.same {H H':Hp} (s:fW H H'):∀{xs:List V} {ts:List Xt},rX H xs ts->rX H' xs ts
 |_,_,.nil=> .nil
 |_,_,.cons h r=> .cons (h.same s) (r.same s)
theorem rX.len {H:Hp}:∀{xs:List V} {ts:List Xt},rX H xs ts->xs.length=ts.length
 |_,_,.nil=>rfl
 |_,_,.cons h r=>congrArg (·+ 1) r.len
theorem rX.at {H:Hp}:∀{xs:List V} {ts:List Xt},rX H xs ts->∀{i:Nat} {t:Xt},ts[i]?=some t->∃x,xs[i]?=some x/\XtA H x t
 |_,_,.cons h r,0,t,e=>by cases e;exact⟨_,rfl,h⟩
 |_,_,.cons h r,i+ 1,t,e=>r.at (i:=i) e
theorem rX.snoc {H:Hp} {x:V} {t:Xt} (k:XtA H x t):∀{xs:List V} {ts:List Xt},rX H xs ts->rX H (xs++[x]) (ts++[t])
 |_,_,.nil=> .cons k .nil
 |_,_,.cons h r=> .cons h (r.snoc k)
theorem lC:∀(a b:List Xt),msX (a++b)=msX a++msX b
 |[],b=>rfl
 |t::a,b=>by rw[aS,msX,msX,lC a b,bJ]
theorem sZ:∀(a b:List Xt),haX (a++b)=haX a++haX b
 |[],b=>rfl
 |t::a,b=>by rw[aS,haX,haX,sZ a b,bJ]
theorem tq:∀(a b:List Xt),meX (a++b)=meX a++meX b
 |[],b=>rfl
 |t::a,b=>by rw[aS,meX,meX,tq a b,bJ]
theorem Di {m:Int} {j:Nat} {ts:List Xt} {t:Xt}:pD m j (ts++[t])=pD m j ts++qD j t:=by
 unfold pD qD
 rw[lC,sZ,tq,msX,msX,haX,haX,meX,meX,aD,aD,aD]
 split
 ·rw[aB,bh];rfl
 ·split<;>rw[bh]
theorem Xt.lens:∀t:Xt,t.ha.length=t.ms.length/\t.me.length<=2*t.ms.length
 | .num _ _=>⟨rfl,cA _⟩
 | .nam _ _ _ _=>⟨rfl,cA _⟩
 | .op _ _ a b=>by
  obtain⟨h1,h2⟩:=lens a
  obtain⟨h3,h4⟩:=lens b
  rw[ha,me,ms]
  simp only[aO,az,aT]
  lia
theorem EZ (j:Nat) (t:Xt):(qD j t).length<=2*t.ms.length:=by
 obtain⟨h1,h2⟩:=t.lens
 unfold qD
 split
 ·rw[aC];lia
 ·split<;>rw[aC]<;>lia
theorem Dj:∀ts:List Xt,(haX ts).length=(msX ts).length/\(meX ts).length<=2*(msX ts).length
 |[]=>⟨rfl,cA _⟩
 |t::ts=>by
  obtain⟨h1,h2⟩:=t.lens
  obtain⟨h3,h4⟩:=Dj ts
  rw[haX,meX,msX,aO,aO,aO]
  lia
theorem Ad (m:Int) (j:Nat) (ts:List Xt):(pD m j ts).length<=2*(msX ts).length+ 1:=by
 obtain⟨h1,h2⟩:=Dj ts
 unfold pD
 split
 ·rw[aC,az];lia
 ·split<;>rw[aC]<;>lia
theorem E1 {J:It} {i:Nat} {te:TE} {Q:VK} {τ:St} {H1:Hp} {D:Addr} (n:Nat) (hn:n<sizeLine) (R:Nat->List V->Hp->Prop) (hτ:τ.set i none=τ) (h0:R 0 [] (upd H1 D (.lst []))) (hgo:∀k xs H,R k xs H->k<n->J.go k H) (hst:∀xs H,R n xs H->J.stop n H)
  (step:∀k xs H v H3 (Z:VK),k<n->xs.length=k->R k xs H->J.yld k H v H3->(∀y H5,H5 D=some (.lst xs)->R (k+ 1) (xs++[y]) (upd H5 D (.lst (xs++[y])))->Z y H5)->te (τ.set i (some v)) H3 Z) (hq:∀xs H,xs.length=n->R n xs H->Q (.ref D) H):LcP J i p6 te Q τ H1 D:=by
 refine⟨fun k m σ' H2=>m=n-k/\k<=n/\(∃o,σ'=τ.set i o)/\∃xs,xs.length=k/\R k xs H2,⟨n,by simp,cA _,⟨none,hτ.symm⟩,[],rfl,h0⟩,?_⟩
 rintro k m σ' H2 ⟨rfl,hk,⟨o,rfl⟩,xs,hl,hr⟩
 by_cases hlt:k<n
 ·refine .inr ⟨hgo k xs H2 hr hlt,fun v H3 y=>?_⟩
  rw[bp]
  refine step k xs H2 v H3 _ hlt hl hr y fun y H5 e r5=>?_
  exact⟨xs,e,by lia,n-(k+ 1),by lia,rfl,hlt,⟨some v,rfl⟩,xs++[y],by rw[aO,hl];rfl,r5⟩
 ·have e1:k=n:=by lia
  subst e1
  exact .inl ⟨hst xs H2 hr,hq xs H2 hl hr⟩
def Fh (H:Hp) (fr:Addr) (n:Nat):Prop:=H fr=some (.lst (aG n .non))
theorem Av {H:Hp} {M:List Addr} {a:Addr} (hM:∀b∈M,∃o,H b=some o) (h:H a=none):a∉M:=fun z=>by obtain⟨o,e⟩:=hM a z;rw[e]at h;cases h
theorem gH {H H':Hp} {M:List Addr} (s:fW H H'):fW (mask H M) (mask H' M):=(Fr.same s).mask
theorem w8 {H:Hp} {M:List Addr} {m q:Int} {v:V} {t:Xt} (hM:∀b∈M,∃o,H b=some o) (iv:Im (mask H M) v t.val.d) (e2:t.ms=[m]) (e3:t.ha=[(m,q)]) (e4:t.me=[]) {l1 t2 l2 l3 a:Addr} (h1:H l1=none) (h2:(upd H l1 (.lst [.int m])) t2=none) (h3:(upd (upd H l1 (.lst [.int m])) t2 (.tup [.int m,.int q])) l2=none) (h4:(upd (upd (upd H l1 (.lst [.int m])) t2 (.tup [.int m,.int q])) l2 (.lst [.ref t2])) l3=none) (h5:(upd (upd (upd (upd H l1 (.lst [.int m])) t2 (.tup [.int m,.int q])) l2 (.lst [.ref t2])) l3 (.lst [])) a=none):
  fW H (upd (upd (upd (upd (upd H l1 (.lst [.int m])) t2 (.tup [.int m,.int q])) l2 (.lst [.ref t2])) l3 (.lst [])) a (.lst [.str t.tx,v,.ref l1,.ref l2,.ref l3]))/\XtA (mask (upd (upd (upd (upd (upd H l1 (.lst [.int m])) t2 (.tup [.int m,.int q])) l2 (.lst [.ref t2])) l3 (.lst [])) a (.lst [.str t.tx,v,.ref l1,.ref l2,.ref l3])) M) (.ref a) t:=by
 have S1:=fE h1 (.lst [.int m])
 have S2:=fE h2 (.tup [.int m,.int q])
 have S3:=fE h3 (.lst [.ref t2])
 have S4:=fE h4 (.lst [])
 have S5:=fE h5 (.lst [.str t.tx,v,.ref l1,.ref l2,.ref l3])
 have S45:=S4.trans S5
 have S35:=S3.trans S45
 have S25:=S2.trans S35
 have S15:=S1.trans S25
 have nm:∀{b:Addr},H b=none->b∉M:=fun h=>Av hM h
 have g1:=ie (nm h1) (S25 l1 _ fC)
 have g2:=ie (nm (S1.free h2)) (S35 t2 _ fC)
 have g3:=ie (nm ((S1.trans S2).free h3)) (S45 l2 _ fC)
 have g4:=ie (nm (((S1.trans S2).trans S3).free h4)) (S5 l3 _ fC)
 refine⟨S15,a,v,fun j=>if j=2 then l1 else if j=3 then l2 else l3,rfl,ie (nm ((((S1.trans S2).trans S3).trans S4).free h5)) fC,iv.mono (fW.tk (gH S15)),fun j j2 j5=>?_⟩
 unfold qD
 by_cases z:j=2
 ·rw[gx z,gx z,e2]
  exact⟨_,g1,.cons (.flat rfl) .nil⟩
 ·rw[fZ z,fZ z]
  by_cases z:j=3
  ·rw[gx z,gx z,e3]
   exact⟨_,g3,.cons (.tup g2 (.cons (.flat rfl) (.cons (.flat rfl) .nil))) .nil⟩
  ·rw[fZ z,fZ z,e4]
   exact⟨_,g4,.nil⟩
theorem E2 {n:Int} (h0:0<=n) (h1:n<10^60):n.natAbs.log2<1920:=by
 by_cases hz:n.natAbs=0
 ·rw[hz];decide+kernel
 ·rw[Nat.log2_lt hz]
  have h2:n.natAbs<10^60:=by lia
  have h3:(10:Nat)^60<=2^200:=gq
  have h4:(2:Nat)^200<=2^1920:=Nat.pow_le_pow_right (by decide) (by decide)
  lia
def uQ:Sp:=fun vs H Q _=>∃(fr:Addr) (n:Nat),vs=[.ref fr]/\Fh H fr n/\n<=1000/\Q (.int ((n+ 1:Nat):Int)) (upd H fr (.lst (aG (n+ 1) .non)))
theorem kA (T:Txt K mg):FO P w base 1 T.d27 uQ:=by
 refine T.d27.F.rd uF fun cdv A outer s H vs Q E hr h=>?_
 obtain⟨fr,n,rfl,ef,hn,q⟩:=h
 refine⟨_,(fA (gh (iP (jl eG eI eJ gr (PE.mono (cv 0)) (fz (PE.mono lG) fD))))
  (fG (f7 (gg gy rfl T.z_len jf (fz (cv 0) fD))))),?_⟩
 have sl:=sizeLine_eq
 refine⟨⟨_,ef⟩,_,ef,by rw[aP];lia,?_⟩
 refine⟨fr,_,rfl,.inl (SqL.of fC),?_⟩
 rw[<-cj,aP]
 exact q
inductive XNu (vs:List V) (H:Hp) (Q:VK):Prop
 |mk (M:List Addr) (fr:Addr) (n:Nat) (c:Int) (e:vs=[.ref fr,.int c]) (hM:∀b∈M,∃o,H b=some o) (hf:fr∈M) (ef:Fh H fr n) (hn:n<=1000) (hc:0<=c/\c<10^60) (q:∀x H',Fr [fr] H H'->Fh H' fr (n+ 1)->XtA (mask H' M) x (.num ((n+ 1:Nat):Int) c)->Q x H')
def qY:Sp:=fun vs H Q _=>XNu vs H Q
theorem qL {H:Hp} {M:List Addr} {a:Addr} {o:HO} (hM:∀b∈M,∃o,H b=some o):∀b∈M,∃o',(upd H a o) b=some o':=fun b hb=>by
 by_cases z:b=a
 ·rw[z];exact⟨_,fC⟩
 ·rw[fO z];exact hM b hb
theorem kP {H:Hp} {a:Addr} {o:HO}:Fr [a] H (upd H a o):=fun b u e n=>by rw[fO (fun z=>n (bf.mpr z))];exact e
theorem qZ (T:Txt K mg):FO P w base 2 T.d28 qY:=by
 have gD27:=kA (P:=P) (w:=w) (base:=base) T
 refine T.d28.F.rd mC fun cdv A outer s H vs Q E hr h=>?_
 obtain⟨M,fr,n,c,rfl,hM,hf,ef,hn,hc,q⟩:=h
 refine⟨_,(fA (pS (i:=2) mC.nd (pF T.d27 gD27 hr.m (fz (cv 0) fD)))
  (fG (f7 (gA (fz (jH tQ rfl T.z_str Bx (fz (cv 1) fD)) (fz (gC (fz fQ (fz (cv 1) (fz (cv 2) fD)))) (fz (gA (fz (cv 2) fD)) (fz (gA (fz (gC (fz (cv 2) (fz (cv 2) fD))) fD)) (fz (gA fD) fD))))))))),?_⟩
 refine⟨fr,n,rfl,ef,hn,?_⟩
 have ef1:Fh (upd H fr (.lst (aG (n+ 1) .non))) fr (n+ 1):=fC
 have F1:Fr [fr] H (upd H fr (.lst (aG (n+ 1) .non))):=kP
 have hM1:=qL (a:=fr) (o:= .lst (aG (n+ 1) .non)) hM
 dsimp only[gJ]
 generalize upd H fr (.lst (aG (n+ 1) .non))=H1 at ef1 F1 hM1⊢
 refine⟨c,rfl,?_,nA,fun a1 h1=>?_⟩
 ·exact E2 hc.1 hc.2
 have S1:=fE h1 (.tup [.str "num",.int c,.int ((n+ 1:Nat):Int)])
 have hM2:=qL (a:=a1) (o:= .tup [.str "num",.int c,.int ((n+ 1:Nat):Int)]) hM1
 have iv:Im (mask (upd H1 a1 (.tup [.str "num",.int c,.int ((n+ 1:Nat):Int)])) M) (.ref a1) (Vl.num c ((n+ 1:Nat):Int)).d:= .tup (ie (Av hM1 h1) fC) (.cons (.flat rfl) (.cons (.flat rfl) (.cons (.flat rfl) .nil)))
 dsimp only
 generalize upd H1 a1 (.tup [.str "num",.int c,.int ((n+ 1:Nat):Int)])=H2 at S1 hM2 iv⊢
 refine⟨tO,fun l1 k1=>⟨my,fun t2 k2=>⟨tO,fun l2 k3=>⟨n6,fun l3 k4=>⟨Fo,fun a k5=>?_⟩⟩⟩⟩⟩
 obtain⟨S2,x⟩:=w8 (t:= .num ((n+ 1:Nat):Int) c) hM2 iv rfl rfl rfl k1 k2 k3 k4 k5
 exact q _ _ ((F1.trans (Fr.same S1)).trans (Fr.same S2)) ((S1.trans S2) _ _ ef1) x
inductive XNa (vs:List V) (H:Hp) (Q:VK):Prop
 |mk (M:List Addr) (fr:Addr) (n k:Nat) (w:Str) (v:V) (u:Vl) (e:vs=[.ref fr,.str w,v]) (hM:∀b∈M,∃o,H b=some o) (hf:fr∈M) (ef:Fh H fr n) (hn:n<=1000) (iv:Im (mask H M) v u.d) (q:∀x H',Fr [fr] H H'->Fh H' fr (n+ 1)->XtA (mask H' M) x (.nam ((n+ 1:Nat):Int) w k u)->Q x H')
def tD:Sp:=fun vs H Q _=>XNa vs H Q
theorem nY (T:Txt K mg):FO P w base 2 T.d29 tD:=by
 have gD27:=kA (P:=P) (w:=w) (base:=base) T
 refine T.d29.F.rd nQ fun cdv A outer s H vs Q E hr h=>?_
 obtain⟨M,fr,n,k,w,v,u,rfl,hM,hf,ef,hn,iv,q⟩:=h
 refine⟨_,(fA (pS (i:=3) nQ.nd (pF T.d27 gD27 hr.m (fz (cv 0) fD)))
  (fG (f7 (gA (fz (cv 1) (fz (cv 2) (fz (gA (fz (cv 3) fD)) (fz (gA (fz (gC (fz (cv 3) (fz (fV fX (cv 2) (xB rE fF)) fD))) fD)) (fz (gA fD) fD))))))))),?_⟩
 refine⟨fr,n,rfl,ef,hn,?_⟩
 have ef1:Fh (upd H fr (.lst (aG (n+ 1) .non))) fr (n+ 1):=fC
 have F1:Fr [fr] H (upd H fr (.lst (aG (n+ 1) .non))):=kP
 have hM1:=qL (a:=fr) (o:= .lst (aG (n+ 1) .non)) hM
 have iv1:=iv.mono (fW.tk (Fr.mask (F1.le (N:=M) (fun a ha=>by rw[bf.mp ha];exact hf))))
 dsimp only[gJ]
 generalize upd H fr (.lst (aG (n+ 1) .non))=H1 at ef1 F1 hM1 iv1⊢
 refine⟨tO,fun l1 k1=>?_⟩
 obtain⟨tv,y,rfl,etv,_⟩:=oR (iv1.mono (fW.tk gU))
 refine⟨_,rfl,_,fE k1 _ _ _ etv,fN (by rfl) ⟨my,fun t2 k2=>⟨tO,fun l2 k3=>⟨n6,fun l3 k4=>⟨Fo,fun a k5=>?_⟩⟩⟩⟩⟩
 obtain⟨S2,x⟩:=w8 (t:= .nam ((n+ 1:Nat):Int) w k u) hM1 iv1 rfl rfl rfl k1 k2 k3 k4 k5
 exact q _ _ (F1.trans (Fr.same S2)) (S2 _ _ ef1) x
theorem tE {H:Hp} {M N:List Addr} (h:∀a∈M,a∈N):fW (mask H N) (mask H M):=fun b u e=>ie (fun z=>(jV e).1 (h b z)) (jV e).2
def oV:Option Str->V
 |none=> .non
 |some w=> .str w
def cN:List (Option Str)->Nat
 |[]=>0
 |none::p=>cN p+ 1
 |some _::p=>cN p
def txF:List (Option Str)->List Xt->List Str
 |some w::p,ts=>w::txF p ts
 |none::p,t::ts=>t.tx::txF p ts
 |_,_=>[]
theorem oS:∀(p q:List (Option Str)),cN (p++q)=cN p+cN q
 |[],q=>(cK _).symm
 |none::p,q=>by rw[aS,cN,cN,oS p q];lia
 |some _::p,q=>by rw[aS,cN,cN,oS p q]
theorem tF {w:Str}:∀{p:List (Option Str)} {ts:List Xt},cN p<=ts.length->txF (p++[some w]) ts=txF p ts++[w]
 |[],ts,_=>by cases ts<;>rfl
 |none::p,[],h=>absurd h (Nat.not_succ_le_zero _)
 |none::p,t::ts,h=>congrArg (t.tx::·) (tF (p:=p) (ts:=ts) (Nat.le_of_succ_le_succ h))
 |some v::p,ts,h=>congrArg (v::·) (tF (p:=p) (ts:=ts) h)
theorem tG {t:Xt}:∀{p:List (Option Str)} {ts:List Xt},ts[cN p]?=some t->txF (p++[none]) ts=txF p ts++[t.tx]
 |[],ts,h=>by
  cases ts with
  |nil=>cases h
  |cons u us=>cases h;rfl
 |none::p,[],h=>by cases h
 |none::p,u::ts,h=>congrArg (u.tx::·) (tG (p:=p) (ts:=ts) h)
 |some v::p,ts,h=>congrArg (v::·) (tG (p:=p) (ts:=ts) h)
theorem tH:∀(p:List (Option Str)) (ts:List Xt),(txF p ts).length<=p.length
 |[],ts=>by cases ts<;>exact cz _
 |none::p,[]=>cA _
 |none::p,t::ts=>cP (tH p ts)
 |some v::p,ts=>cP (tH p ts)
theorem Ae {b:Nat}:∀{l:List Str},(∀w∈l,w.length<=b)->(l.map (·.length)).sum<=l.length*b
 |[],_=>cA _
 |w::l,h=>by
  have:=Ae (l:=l) fun x hx=>h x (aj _ hx)
  have:=h w ah
  rw[aB,List.sum_cons,az,Nat.succ_mul]
  lia
theorem xg {z:Str} {b:Nat}:∀{l:List Str},(∀w∈l,w.length<=b)->(Str.join z l).length<=l.length*(b+z.length)
 |[],_=>cA _
 |[w],h=>by
  have:=h w ah
  show w.length<=1*_
  lia
 |w::v::l,h=>by
  have:=xg (z:=z) (l:=v::l) fun x hx=>h x (aj _ hx)
  have:=h w ah
  show(w++z++Str.join z (v::l)).length<=_
  rw[Str.length_append,Str.length_append,az,Nat.succ_mul]
  lia
theorem vT {b:Nat}:∀{p:List (Option Str)} {ts:List Xt},(∀w,some w∈p->w.length<=b)->(∀t∈ts,t.tx.length<=b)->∀w∈txF p ts,w.length<=b
 |[],ts,_,_,w,h=>by cases ts<;>cases h
 |none::p,[],_,_,w,h=>by cases h
 |none::p,t::ts,h1,h2,w,h=>by
  rcases ak.mp h with rfl|h
  ·exact h2 t ah
  ·exact vT (p:=p) (fun v hv=>h1 v (aj _ hv)) (fun u hu=>h2 u (aj _ hu)) w h
 |some v::p,ts,h1,h2,w,h=>by
  rcases ak.mp h with rfl|h
  ·exact h1 _ ah
  ·exact vT (p:=p) (ts:=ts) (fun u hu=>h1 u (aj _ hu)) h2 w h
inductive PtA (H0 H:Hp) (M:List Addr) (a:Addr) (m:Int) (x:Str) (ts:List Xt):Prop
 |mk (A:Nat->Addr) (h0:H0 a=none) (ea:H a=some (.lst [.str x,.non,.ref (A 2),.ref (A 3),.ref (A 4)])) (hp:∀j,2<=j->j<5->A j≠a/\∃xs,(mask H (a::M)) (A j)=some (.lst xs)/\Ims (mask H (a::M)) xs (pD m j ts))
def PaS (H:Hp) (N:List Addr) (wl:Addr) (m:Int) (ts:List Xt) (k b:Nat):Prop:=∃A:Nat->Addr,H wl=some (.lst [.str "",.non,.ref (A 2),.ref (A 3),.ref (A 4)])/\∀j,2<=j->j<5->∃xs,(mask H N) (A j)=some (.lst xs)/\Ims (mask H N) xs (pD m j (ts.take (if j<b then k+ 1 else k)))
theorem PaS.fr {H H':Hp} {N:List Addr} {wl:Addr} {m:Int} {ts:List Xt} {k b:Nat} (h:PaS H N wl m ts k b) (f:Fr N H H') (e:H' wl=H wl):PaS H' N wl m ts k b:=by
 obtain⟨A,e1,hp⟩:=h
 exact⟨A,by rw[e];exact e1,fun j h2 h5=>let⟨xs,e,i⟩:=hp j h2 h5;⟨xs,f.mask _ _ e,i.mono (fW.tk f.mask)⟩⟩
inductive XFo (vs:List V) (H:Hp) (Q:VK):Prop
 |mk (M:List Addr) (m:Int) (pl il:Addr) (pat:List (Option Str)) (xs:List V) (ts:List Xt) (e:vs=[.int m,.ref pl,.ref il]) (hM:∀b∈M,∃o,H b=some o) (ep:H pl=some (.lst (pat.map oV))) (ei:H il=some (.lst xs)) (hx:rX (mask H M) xs ts) (hc:cN pat=ts.length) (hl:pat.length<=40) (hz:(msX ts).length<=1000) (hp:∀w,some w∈pat->w.length<=100000) (ht:∀t∈ts,t.tx.length<=100000) (q:∀a H',fW H H'->PtA H H' M a m ("("++Str.join " " (txF pat ts)++")") ts->Q (.ref a) H')
def uR:Sp:=fun vs H Q _=>XFo vs H Q
theorem oT (T:Txt K mg):FO P w base 1 T.d30 uR:=by
 refine T.d30.F.rd iS fun cdv A outer s H vs Q E hr h=>?_
 obtain⟨M,m,pl,il,pat,xs,ts,rfl,hM,ep,ei,hx,hc,hl,hz,hp,ht,q⟩:=h
 refine⟨_,(fA (pS (i:=3) iS.nd (gA fD))
  (fA (pS (i:=4) iS.nd (gA (fz fQ (fz lG (fz (gA (fz (cv 0) fD)) (fz (gA fD) (fz (gA fD) fD)))))))
  (fA (pS (i:=5) iS.nd fF)
  (fA (iZ PassesOwn.never rfl (jh (cv 1)) (pN (i:=6) iS.nd)
   (fG (gL (rp (Bn (cv 6)))
    (fA (gh (iP (jl eG eI eJ gr (PE.mono (cv 3)) (fz (PE.mono (fV fY (fV fY (cv 2) (cv 5)) fF)) fD))))
    (fA (iZ PassesOwn.never rfl (jh (gA (fz fF (fz fF (fz fF fD))))) (pN (i:=7) iS.nd)
     (fG (rC (gK uc (fV fY (cv 4) (cv 7)) (fV fY (fV fY (cv 2) (cv 5)) (cv 7))) (rB (cv 4) (cv 7) mn))))
    (fG (pS (i:=5) iS.nd (gK oM (cv 5) fF)))))
    (fG (gh (iP (jl eG eI eJ gr (PE.mono (cv 3)) (fz (PE.mono (cv 6)) fD))))))))
  (fA (rC (gK kG (gK kG fQ (jl eF eM eO zt fQ (fz (cv 3) fD))) fQ) (rB (cv 4) fF mn))
  (fG (f7 (cv 4)))))))),?_⟩
 have sl:=sizeLine_eq
 refine⟨n6,fun tl htl=>?_⟩
 have S1:=fE htl (.lst [])
 have et:(upd H tl (.lst [])) tl=some (.lst []):=fC
 dsimp only[gJ]
 generalize upd H tl (.lst [])=H1 at S1 et⊢
 refine⟨tO,fun l2 h2=>⟨n6,fun l3 h3=>⟨n6,fun l4 h4=>⟨Fo,fun wl hwl=>?_⟩⟩⟩⟩
 have S2:=fE h2 (.lst [.int m])
 have S3:=fE h3 (.lst [])
 have S4:=fE h4 (.lst [])
 have S5:=fE hwl (.lst [.str "",.non,.ref l2,.ref l3,.ref l4])
 have S15:=((S2.trans S3).trans S4).trans S5
 have g2:=((S3.trans S4).trans S5) _ _ (fC (H:=H1) (a:=l2) (o:= .lst [.int m]))
 have g3:=(S4.trans S5) _ _ (fC (a:=l3) (o:= .lst []))
 have g4:=S5 _ _ (fC (a:=l4) (o:= .lst []))
 have gw:=fC (H:=upd (upd (upd H1 l2 (.lst [.int m])) l3 (.lst [])) l4 (.lst [])) (a:=wl) (o:= .lst [.str "",.non,.ref l2,.ref l3,.ref l4])
 have n3:=S2.free h3
 have n4:=(S2.trans S3).free h4
 have nw:=((S2.trans S3).trans S4).free hwl
 have et2:=S15 _ _ et
 have hwl0:H wl=none:=S1.free nw
 have ntw:tl≠wl:=fJ et nw
 have w2:l2≠wl:=fJ ((S3.trans S4) _ _ (fC (a:=l2))) hwl
 have w3:l3≠wl:=fJ (S4 _ _ (fC (a:=l3))) hwl
 have w4:l4≠wl:=fJ (fC (a:=l4)) hwl
 have S02:=S1.trans S15
 dsimp only[gJ]
 generalize upd (upd (upd (upd H1 l2 (.lst [.int m])) l3 (.lst [])) l4 (.lst [])) wl (.lst [.str "",.non,.ref l2,.ref l3,.ref l4])=H2 at g2 g3 g4 gw et2 S02⊢
 clear S2 S3 S4 S5 S15 hwl h3 h4
 have notN:∀{b:Addr},H1 b=none->b≠wl->b∉tl::wl::M:=fun{b} h n z=>by
  rcases ak.mp z with z|z
  ·rw[z,et]at h;cases h
  ·rcases ak.mp z with z|z
   ·exact n z
   ·exact Av hM (S1.free h) z
 have mN:∀{H3:Hp},fW H H3->fW (mask H M) (mask H3 (tl::wl::M)):=fun S b u e=>by
  obtain⟨e1,e2⟩:=jV e
  refine ie (fun z=>?_) (S _ _ e2)
  rcases ak.mp z with z|z
  ·rw[z,htl]at e2;cases e2
  ·rcases ak.mp z with z|z
   ·rw[z,hwl0]at e2;cases e2
   ·exact e1 z
 have P0:PaS H2 (tl::wl::M) wl m ts 0 2:=by
  refine⟨fun j=>if j=2 then l2 else if j=3 then l3 else l4,gw,fun j j2 j5=>?_⟩
  rw[fZ (by lia:¬j<2)]
  unfold pD
  dsimp only
  by_cases z:j=2
  ·rw[gx z,gx z]
   exact⟨_,ie (notN h2 w2) g2,.cons (.flat rfl) .nil⟩
  ·rw[fZ z,fZ z]
   by_cases z:j=3
   ·rw[gx z,gx z]
    exact⟨_,ie (notN n3 w3) g3,.nil⟩
   ·rw[fZ z,fZ z]
    exact⟨_,ie (notN n4 w4) g4,.nil⟩
 refine⟨pl,rfl,⟨_,SqL.of (S02 _ _ ep)⟩,jo (xs:=pat.map oV) (fun i σ H3=>∃o6 o7,σ=[some (.int m),some (.ref pl),some (.ref il),some (.ref tl),some (.ref wl),some (.int ((cN (pat.take i):Nat):Int)),o6,o7]/\fW H H3/\H3 tl=some (.lst ((txF (pat.take i) ts).map V.str))/\PaS H3 (tl::wl::M) wl m ts (cN (pat.take i)) 2) ⟨_,_,rfl,S02,et2,P0⟩ (fun i σ H3 _ ⟨_,_,_,S,_⟩=>SqL.of (S _ _ ep)) ?_ ?_⟩
 ·rintro i v σ H3 hv ⟨o6,o7,rfl,S3,e3,P3⟩
  rw[aM]at hv
  obtain⟨o,ho,rfl⟩:=da.mp hv
  have hil:=(au.mp ho).1
  have tk:pat.take (i+ 1)=pat.take i++[o]:=by rw[bY,ho];rfl
  have ck:cN pat=cN (pat.take (i+ 1))+cN (pat.drop (i+ 1)):=by rw[<-oS,bW]
  have lt:=tH (pat.take i) ts
  rw[aI]at lt
  rw[tk,oS]at ck
  have uw:∀{z:HO},(upd H3 tl z) wl=H3 wl:=fO ntw.symm
  have ft:∀{z:HO},Fr (tl::wl::M) H3 (upd H3 tl z):=kP.le (fun a ha=>by rw[bf.mp ha];exact ah)
  cases o with
  |some w=>
   refine⟨_,rfl,?_⟩
   dsimp only
   rw[ig (show oV (some w)≠ .non from fun z=>nomatch z)]
   refine iO ⟨⟨_,e3⟩,_,e3,by rw[aC];lia,?_⟩
   have hk:cN (pat.take i)<=ts.length:=by lia
   refine⟨_,_,by rw[tk,oS];rfl,gB S3 htl _,?_,?_⟩
   ·rw[fC,tk,tF hk,bh]
    rfl
   ·rw[tk,oS]
    exact P3.fr ft uw
  |none=>
   have hk:cN (pat.take i)<ts.length:=by
    have:cN [none]=1:=rfl
    lia
   obtain⟨t,ht'⟩:∃t,ts[cN (pat.take i)]?=some t:=⟨_,bz hk⟩
   have tks:ts.take (cN (pat.take i)+ 1)=ts.take (cN (pat.take i))++[t]:=by rw[bY,ht'];rfl
   obtain⟨x,hxk,hX⟩:=(hx.same (mN S3)).at ht'
   obtain⟨ai,vi,B,rfl,eai,_,hB⟩:=hX
   have eai3:=gU _ _ eai
   refine⟨_,rfl,?_⟩
   dsimp only
   rw[gR (show oV none= .non from rfl)]
   refine jm ⟨⟨_,e3⟩,_,S3 _ _ ei,fN (fH hxk) ⟨_,eai3,fN (fH (j:=0) rfl) ⟨_,e3,by rw[aC];lia,?_⟩⟩⟩
   have S4:=gB S3 htl (.lst ((txF (pat.take i) ts).map V.str++[.str t.tx]))
   have e4:(upd H3 tl (.lst ((txF (pat.take i) ts).map V.str++[.str t.tx]))) tl=some (.lst ((txF (pat.take (i+ 1)) ts).map V.str)):=by rw[fC,tk,tG ht',bh];rfl
   have P4:=P3.fr (ft (z:= .lst ((txF (pat.take i) ts).map V.str++[.str t.tx]))) uw
   have F4:=(ft (z:= .lst ((txF (pat.take i) ts).map V.str++[.str t.tx]))).mask
   dsimp only
   generalize upd H3 tl (.lst ((txF (pat.take i) ts).map V.str++[.str t.tx]))=H4 at S4 e4 P4 F4⊢
   refine⟨nA,fun lp hlp=>⟨lp,rfl,⟨_,SqL.of fC⟩,?_⟩⟩
   have S5:=fE hlp (.lst [.int 2,.int 3,.int 4])
   have F5:fW (mask H3 (tl::wl::M)) (mask (upd H4 lp (.lst [.int 2,.int 3,.int 4])) (tl::wl::M)):=fun b u e=>gH S5 _ _ (F4 _ _ e)
   have wlp:wl≠lp:=by obtain⟨_,e,_⟩:=P4;exact fJ e hlp
   have tlp:tl≠lp:=fJ e4 hlp
   refine jo (xs:=[.int 2,.int 3,.int 4]) (fun j σ H5=>∃o7,σ=[some (.int m),some (.ref pl),some (.ref il),some (.ref tl),some (.ref wl),some (.int ((cN (pat.take i):Nat):Int)),some .non,o7]/\fW H H5/\H5 tl=some (.lst ((txF (pat.take (i+ 1)) ts).map V.str))/\H5 lp=some (.lst [.int 2,.int 3,.int 4])/\fW (mask H3 (tl::wl::M)) (mask H5 (tl::wl::M))/\PaS H5 (tl::wl::M) wl m ts (cN (pat.take i)) (j+ 2)) ⟨_,rfl,S4.trans S5,S5 _ _ e4,fC,F5,P4.fr (Fr.same S5) (fO wlp)⟩ (fun j σ H5 _ ⟨_,_,_,_,e,_⟩=>SqL.of e) ?_ ?_
   ·rintro j v σ H5 hv ⟨o7,rfl,S5,e5,el5,F5,A5,ew5,hp5⟩
    have hj:j<3:=(au.mp hv).1
    obtain⟨rfl,at1,at2,ix,st⟩:v= .int ((j+ 2:Nat):Int)/\atI [V.str "",.non,.ref (A5 2),.ref (A5 3),.ref (A5 4)] ((j+ 2:Nat):Int)=some (.ref (A5 (j+ 2)))/\atI [V.str t.tx,vi,.ref (B 2),.ref (B 3),.ref (B 4)] ((j+ 2:Nat):Int)=some (.ref (B (j+ 2)))/\ixN 5 ((j+ 2:Nat):Int)=some (j+ 2)/\∀z:Addr,([V.str "",.non,.ref (A5 2),.ref (A5 3),.ref (A5 4)]).set (j+ 2) (.ref z)=[.str "",.non,.ref (if 2=j+ 2 then z else A5 2),.ref (if 3=j+ 2 then z else A5 3),.ref (if 4=j+ 2 then z else A5 4)]:=by
     match j,hj,hv with
     |0,_,hv=>cases hv;exact⟨rfl,rfl,rfl,rfl,fun z=>rfl⟩
     |1,_,hv=>cases hv;exact⟨rfl,rfl,rfl,rfl,fun z=>rfl⟩
     |2,_,hv=>cases hv;exact⟨rfl,rfl,rfl,rfl,fun z=>rfl⟩
    obtain⟨us,eu,iu⟩:=hp5 (j+ 2) (by lia) (by lia)
    obtain⟨zs,ez,iz⟩:=hB (j+ 2) (by lia) (by lia)
    rw[fZ (by lia:¬j+ 2<j+ 2)]at iu
    have lu:=iu.length
    have lz:=iz.length
    have b1:=Ad m (j+ 2) (ts.take (cN (pat.take i)))
    have b2:=EZ (j+ 2) t
    have b3:(msX (ts.take (cN (pat.take i)))).length+t.ms.length<=(msX ts).length:=by
     conv=>rhs;rw[<-bW (cN (pat.take i)+ 1) ts,lC,tks,lC,msX,msX,aD,aO,aO]
     lia
    refine⟨_,ew5,fN at1 ⟨_,S5 _ _ ei,fN (fH hxk) ⟨_,gU _ _ (F5 _ _ eai),fN at2 ⟨_,_,_,_,rfl,rfl,gU _ _ eu,gU _ _ (F5 _ _ ez),by lia,fun p hp'=>?_⟩⟩⟩⟩
    have S6:=fE hp' (.lst (us++zs))
    have np:p∉tl::wl::M:=fun z=>by
     rcases ak.mp z with z|z
     ·rw[z,e5]at hp';cases hp'
     ·rcases ak.mp z with z|z
      ·rw[z,ew5]at hp';cases hp'
      ·exact Av hM (S5.free hp') z
    refine⟨wl,_,_,_,rfl,rfl,S6 _ _ ew5,ix,?_⟩
    rw[st]
    have F7:Fr (tl::wl::M) (upd H5 p (.lst (us++zs))) (upd (upd H5 p (.lst (us++zs))) wl (.lst [.str "",.non,.ref (if 2=j+ 2 then p else A5 2),.ref (if 3=j+ 2 then p else A5 3),.ref (if 4=j+ 2 then p else A5 4)])):=kP.le (fun a ha=>by rw[bf.mp ha];exact aj _ ah)
    have F67:fW (mask H5 (tl::wl::M)) (mask (upd (upd H5 p (.lst (us++zs))) wl (.lst [.str "",.non,.ref (if 2=j+ 2 then p else A5 2),.ref (if 3=j+ 2 then p else A5 3),.ref (if 4=j+ 2 then p else A5 4)])) (tl::wl::M)):=fun b u e=>F7.mask _ _ (gH S6 _ _ e)
    refine⟨_,rfl,gB (S5.trans S6) hwl0 _,by rw[fO ntw];exact S6 _ _ e5,by rw[fO wlp.symm];exact S6 _ _ el5,fun b u e=>F67 _ _ (F5 _ _ e),fun i=>if i=j+ 2 then p else A5 i,fC,fun i' i2 i5=>?_⟩
    dsimp only
    by_cases z:i'=j+ 2
    ·rw[gx z,gx (by lia:i'<j+ 1+ 2),z,tks,Di]
     exact⟨_,F7.mask _ _ (ie np fC),(iu.mono (fW.tk F67)).app (iz.mono (fW.tk fun b u e=>F67 _ _ (F5 _ _ e)))⟩
    ·rw[fZ z]
     obtain⟨ys,e,ii⟩:=hp5 i' i2 i5
     rw[show(if i'<j+ 1+ 2 then cN (pat.take i)+ 1 else cN (pat.take i))=if i'<j+ 2 then cN (pat.take i)+ 1 else cN (pat.take i) by split<;>split<;>lia]
     exact⟨ys,F67 _ _ e,ii.mono (fW.tk F67)⟩
   ·rintro σ H5 ⟨o7,rfl,S5,e5,_,F5,A5,ew5,hp5⟩
    refine⟨_,_,by rw[tk,oS];rfl,S5,e5,A5,ew5,fun j j2 j5=>?_⟩
    obtain⟨ys,e,i⟩:=hp5 j j2 j5
    rw[gx (show j<([V.int 2,V.int 3,V.int 4]).length+ 2 from j5)]at i
    rw[fZ (by lia:¬j<2),tk,oS]
    exact⟨ys,e,i⟩
 ·rintro σ H3 ⟨o6,o7,rfl,S3,e3,A3,ew3,hp3⟩
  rw[aC,br]at e3 hp3
  have lt:=tH pat ts
  have bt:=vT hp ht
  have l1:=Ae bt
  have l2:=xg (z:=" ") bt
  have l3:(txF pat ts).length*100000<=40*100000:=cW _ (by lia)
  have l4:(txF pat ts).length*(100000+(" ":Str).length)<=40*100001:=by rw[show(" ":Str).length=1 by decide+kernel];exact cW _ (by lia)
  refine⟨rfl," ",tl,_,rfl,rfl,SqL.of e3,by rw[show(" ":Str).length=1 by decide+kernel];lia,?_⟩
  refine⟨by rw[show("(":Str).length=1 by decide+kernel];lia,by rw[Str.length_append,show("(":Str).length=1 by decide+kernel,show(")":Str).length=1 by decide+kernel];lia,?_⟩
  refine⟨wl,_,0,0,rfl,rfl,ew3,rfl,?_⟩
  have F4:Fr (tl::wl::M) H3 (upd H3 wl (.lst [.str ("("++Str.join " " (txF pat ts)++")"),.non,.ref (A3 2),.ref (A3 3),.ref (A3 4)])):=kP.le (fun a ha=>by rw[bf.mp ha];exact aj _ ah)
  refine q wl _ (gB S3 hwl0 _) ⟨A3,hwl0,fC,fun j j2 j5=>?_⟩
  obtain⟨ys,e,i⟩:=hp3 j j2 j5
  rw[fZ (by lia:¬j<2),hc,br]at i
  have F5:fW (mask H3 (tl::wl::M)) (mask (upd H3 wl (.lst [.str ("("++Str.join " " (txF pat ts)++")"),.non,.ref (A3 2),.ref (A3 3),.ref (A3 4)])) (wl::M)):=fun b u e=>tE (fun a ha=>aj _ ha) _ _ (F4.mask _ _ e)
  exact⟨fun z=>(jV e).1 (by rw[z];exact aj _ ah),ys,F5 _ _ e,i.mono (fW.tk F5)⟩
theorem PtA.same {H0 H H':Hp} {M:List Addr} {a:Addr} {m:Int} {x:Str} {ts:List Xt} (h:PtA H0 H M a m x ts) (s:fW H H'):PtA H0 H' M a m x ts:=by
 obtain⟨A,h0,ea,hp⟩:=h
 exact⟨A,h0,s _ _ ea,fun j j2 j5=>let⟨n,xs,e,i⟩:=hp j j2 j5;⟨n,xs,gH s _ _ e,i.mono (fW.tk (gH s))⟩⟩
theorem xh {H:Hp}:∀{ps:List Int} {xs:List V},Ims H xs (ps.map kD)->xs=ps.map V.int
 |[],xs,h=>by cases h;rfl
 |p::ps,xs,h=>by
  rw[aB,kD]at h
  cases h with
  |cons h t=>
   cases h
   rw[xh t]
   rfl
inductive XVa (vs:List V) (H:Hp) (Q:VK):Prop
 |mk (H0:Hp) (M:List Addr) (a ml:Addr) (v:V) (m:Int) (x:Str) (ts:List Xt) (t:Xt) (mts:List (Int×Int×Int)) (zs:List V) (e:vs=[.ref a,v,.ref ml]) (S:fW H0 H) (hM:∀b∈M,∃o,H0 b=some o) (p:PtA H0 H M a m x ts) (iv:Im (mask H (a::M)) v t.val.d) (em:(mask H (a::M)) ml=some (.lst zs)) (im:Ims (mask H (a::M)) zs (mts.map meD)) (h1:t.tx=x) (h2:t.ms=m::msX ts) (h3:t.ha=haX ts++[(m,t.val.p)]) (h4:t.me=meX ts++mts) (hz:(msX ts).length<=1000) (hm:mts.length<=10) (q:∀H',fW H0 H'->XtA (mask H' M) (.ref a) t->Q (.ref a) H')
def rf:Sp:=fun vs H Q _=>XVa vs H Q
theorem mG (T:Txt K mg):FO P w base 1 T.d31 rf:=by
 refine T.d31.F.rd qS fun cdv A outer s H vs Q E hr h=>?_
 obtain⟨H0,M,a,ml,v,m,x,ts,t,mts,zs,rfl,S,hM,⟨A,h0,ea,hp⟩,iv,em,im,h1,h2,h3,h4,hz,hm,q⟩:=h
 refine⟨_,(fA (rC (cv 1) (rB (cv 0) fF mn))
  (fA (rC (gK uc (fV fY (cv 0) fF) (gA (fz (gC (fz (fV fY (fV fY (cv 0) fF) fF) (fz (fV fX (cv 1) (xB rE fF)) fD))) fD))) (rB (cv 0) fF mn))
  (fA (rC (gK uc (fV fY (cv 0) fF) (cv 2)) (rB (cv 0) fF mn))
  (fG (f7 (cv 0)))))),?_⟩
 have sl:=sizeLine_eq
 obtain⟨n2,x2,e2,i2⟩:=hp 2 (by decide) (by decide)
 obtain⟨n3,x3,e3,i3⟩:=hp 3 (by decide) (by decide)
 obtain⟨n4,x4,e4,i4⟩:=hp 4 (by decide) (by decide)
 have l3:=i3.length
 have l4:=i4.length
 have l5:=im.length
 rw[aC]at l5
 have b3:=Ad m 3 ts
 have b4:=Ad m 4 ts
 have hx2:x2=(m::msX ts).map V.int:=xh i2
 subst hx2
 obtain⟨tv,y,rfl,ev,_⟩:=oR iv
 refine⟨a,_,1,1,rfl,rfl,ea,rfl,?_⟩
 have F1:Fr (a::M) H (upd H a (.lst [.str x,.ref tv,.ref (A 2),.ref (A 3),.ref (A 4)])):=kP.le (fun b hb=>by rw[bf.mp hb];exact ah)
 have ea1:(upd H a (.lst [.str x,.ref tv,.ref (A 2),.ref (A 3),.ref (A 4)])) a=some (.lst [.str x,.ref tv,.ref (A 2),.ref (A 3),.ref (A 4)]):=fC
 have S1:fW H0 (upd H a (.lst [.str x,.ref tv,.ref (A 2),.ref (A 3),.ref (A 4)])):=gB S h0 _
 show ym _ _ _ [some (.ref a),some (.ref tv),some (.ref ml)] (upd H a (.lst [.str x,.ref tv,.ref (A 2),.ref (A 3),.ref (A 4)]))
 generalize upd H a (.lst [.str x,.ref tv,.ref (A 2),.ref (A 3),.ref (A 4)])=H1 at F1 ea1 S1⊢
 have K1:=F1.mask
 refine⟨_,ea1,fN (fH (j:=3) rfl) ⟨_,ea1,fN (fH (j:=2) rfl) ⟨_,gU _ _ (K1 _ _ e2),fN (fH (j:=0) rfl) ⟨_,rfl,_,gU _ _ (K1 _ _ ev),fN (by rfl) ⟨my,fun t2 k2=>⟨tO,fun lt k3=>?_⟩⟩⟩⟩⟩⟩
 have S2:=fE k2 (.tup [.int m,.int t.val.p])
 have S3:=fE k3 (.lst [.ref t2])
 have S23:=S2.trans S3
 have K2:fW (mask H (a::M)) (mask (upd (upd H1 t2 (.tup [.int m,.int t.val.p])) lt (.lst [.ref t2])) (a::M)):=fun b u e=>gH S23 _ _ (K1 _ _ e)
 have nN:∀{H':Hp} {b:Addr},fW H0 H'->H' a=some (.lst [.str x,.ref tv,.ref (A 2),.ref (A 3),.ref (A 4)])->H' b=none->b∉a::M:=fun S' e' h z=>by
  rcases ak.mp z with z|z
  ·rw[z,e']at h;cases h
  ·exact Av hM (S'.free h) z
 have et2:=ie (nN S1 ea1 k2) (S3 _ _ (fC (a:=t2) (o:= .tup [.int m,.int t.val.p])))
 refine⟨_,_,_,_,rfl,rfl,gU _ _ (K2 _ _ e3),fC,by show x3.length+ 1<=_;lia,fun p hp'=>?_⟩
 have S4:=fE hp' (.lst (x3++[.ref t2]))
 have ea4:=(S23.trans S4) _ _ ea1
 have np:=nN (S1.trans S23) (S23 _ _ ea1) hp'
 have ep:mask (upd (upd (upd H1 t2 (.tup [.int m,.int t.val.p])) lt (.lst [.ref t2])) p (.lst (x3++[.ref t2]))) (a::M) p=some (.lst (x3++[.ref t2])):=ie np fC
 have K4:fW (mask H (a::M)) (mask (upd (upd (upd H1 t2 (.tup [.int m,.int t.val.p])) lt (.lst [.ref t2])) p (.lst (x3++[.ref t2]))) (a::M)):=fun b u e=>gH S4 _ _ (K2 _ _ e)
 have ip:Ims (mask (upd (upd (upd H1 t2 (.tup [.int m,.int t.val.p])) lt (.lst [.ref t2])) p (.lst (x3++[.ref t2]))) (a::M)) (x3++[.ref t2]) (qD 3 t):=by
  show Ims _ _ (t.ha.map haD)
  rw[h3,bh]
  exact(i3.mono (fW.tk K4)).app (.cons (.tup (gH S4 _ _ et2) (.cons (.flat rfl) (.cons (.flat rfl) .nil))) .nil)
 have S04:=S1.trans (S23.trans S4)
 dsimp only
 generalize upd (upd (upd H1 t2 (.tup [.int m,.int t.val.p])) lt (.lst [.ref t2])) p (.lst (x3++[.ref t2]))=H4 at S04 K4 ea4 ep ip⊢
 refine⟨a,_,3,3,rfl,rfl,ea4,rfl,?_⟩
 have F5:Fr (a::M) H4 (upd H4 a (.lst [.str x,.ref tv,.ref (A 2),.ref p,.ref (A 4)])):=kP.le (fun b hb=>by rw[bf.mp hb];exact ah)
 have ea5:(upd H4 a (.lst [.str x,.ref tv,.ref (A 2),.ref p,.ref (A 4)])) a=some (.lst [.str x,.ref tv,.ref (A 2),.ref p,.ref (A 4)]):=fC
 have S05:fW H0 (upd H4 a (.lst [.str x,.ref tv,.ref (A 2),.ref p,.ref (A 4)])):=gB S04 h0 _
 show ym _ _ _ [some (.ref a),some (.ref tv),some (.ref ml)] (upd H4 a (.lst [.str x,.ref tv,.ref (A 2),.ref p,.ref (A 4)]))
 generalize upd H4 a (.lst [.str x,.ref tv,.ref (A 2),.ref p,.ref (A 4)])=H5 at F5 ea5 S05⊢
 have K5:fW (mask H (a::M)) (mask H5 (a::M)):=fun b u e=>F5.mask _ _ (K4 _ _ e)
 refine⟨_,ea5,fN (fH (j:=4) rfl) ⟨_,_,_,_,rfl,rfl,gU _ _ (K5 _ _ e4),gU _ _ (K5 _ _ em),by lia,fun r hr'=>?_⟩⟩
 have S6:=fE hr' (.lst (x4++zs))
 have nr:r∉a::M:=fun z=>by
  rcases ak.mp z with z|z
  ·rw[z,ea5]at hr';cases hr'
  ·exact Av hM (S05.free hr') z
 refine⟨a,_,4,4,rfl,rfl,S6 _ _ ea5,rfl,?_⟩
 have F7:Fr (a::M) (upd H5 r (.lst (x4++zs))) (upd (upd H5 r (.lst (x4++zs))) a (.lst [.str x,.ref tv,.ref (A 2),.ref p,.ref r])):=kP.le (fun b hb=>by rw[bf.mp hb];exact ah)
 have K57:fW (mask H5 (a::M)) (mask (upd (upd H5 r (.lst (x4++zs))) a (.lst [.str x,.ref tv,.ref (A 2),.ref p,.ref r])) M):=fun b u e=>tE (fun c hc=>aj _ hc) _ _ (F7.mask _ _ (gH S6 _ _ e))
 have K7:fW (mask H (a::M)) (mask (upd (upd H5 r (.lst (x4++zs))) a (.lst [.str x,.ref tv,.ref (A 2),.ref p,.ref r])) M):=fun b u e=>K57 _ _ (K5 _ _ e)
 refine q _ (gB (S05.trans S6) h0 _) ⟨a,.ref tv,fun j=>if j=2 then A 2 else if j=3 then p else r,rfl,by rw[h1];exact ie (Av hM h0) fC,iv.mono (fW.tk K7),fun j j2 j5=>?_⟩
 obtain rfl|rfl|rfl:j=2\/j=3\/j=4:=by lia
 ·exact⟨_,K7 _ _ e2,by show Ims _ _ (t.ms.map kD);rw[h2];exact i2.mono (fW.tk K7)⟩
 ·exact⟨_,K57 _ _ (F5.mask _ _ ep),ip.mono (fW.tk fun b u e=>K57 _ _ (F5.mask _ _ e))⟩
 ·exact⟨_,tE (fun c hc=>aj _ hc) _ _ (F7.mask _ _ (ie nr fC)),by show Ims _ _ (t.me.map meD);rw[h4,bh];exact(i4.mono (fW.tk K7)).app (im.mono (fW.tk K7))⟩
theorem Af {t u:TS} {D:qN} {σ:St} {H:Hp} (N:St->Hp->Prop) (h:∀nx:St->Hp->Prop,(∀σ' H',N σ' H'->nx σ' H')->t {D with nx:=nx} σ H) (k:∀σ' H',N σ' H'->u D σ' H'):ym t u D σ H:=h _ k
theorem Xt.op_tx (m:Int) (o:Str) (a b:Xt):(Xt.op m o a b).tx="("++Str.join " " (txF [some o,none,none] [a,b])++")":=rfl
theorem Xt.op_ms (m:Int) (o:Str) (a b:Xt):(Xt.op m o a b).ms=m::msX [a,b]:=by rw[ms,msX,msX,msX,aD]
theorem Xt.op_ha (m:Int) (o:Str) (a b:Xt):(Xt.op m o a b).ha=haX [a,b]++[(m,(Xt.op m o a b).val.p)]:=by rw[ha,haX,haX,haX,aD,val,CY]
theorem Xt.op_me (m:Int) (o:Str) (a b:Xt):(Xt.op m o a b).me=meX [a,b]++[(a.val.p,m,0),(b.val.p,m,1)]:=by rw[me,meX,meX,meX,aD]
inductive XSu (vs:List V) (H:Hp) (Q:VK):Prop
 |mk (M:List Addr) (fr:Addr) (n:Nat) (o:Str) (xa xb:V) (a b:Xt) (na pa nb pb:Int) (e:vs=[.ref fr,.str o,xa,xb]) (hM:∀b∈M,∃o,H b=some o) (hf:fr∈M) (ef:Fh H fr n) (hn:n<=1000) (ho:o="add"\/o="sub") (ha:XtA (mask H M) xa a) (hb:XtA (mask H M) xb b) (va:a.val= .num na pa) (vb:b.val= .num nb pb) (hz:a.ms.length+b.ms.length<=1000) (ht:a.tx.length<=100000/\b.tx.length<=100000) (q:∀x H',Fr [fr] H H'->Fh H' fr (n+ 1)->XtA (mask H' M) x (.op ((n+ 1:Nat):Int) o a b)->Q x H')
def vU:Sp:=fun vs H Q _=>XSu vs H Q
theorem XtA.num {H:Hp} {x:V} {t:Xt} {n p:Int} (h:XtA H x t) (hv:t.val= .num n p):∃(a tv:Addr) (r:List V),x= .ref a/\H a=some (.lst (.str t.tx:: .ref tv::r))/\H tv=some (.tup [.str "num",.int n,.int p]):=by
 obtain⟨a,v,A,rfl,ea,iv,_⟩:=h
 rw[hv]at iv
 obtain⟨tv,rfl,e⟩:=nX iv
 exact⟨a,tv,_,rfl,ea,e⟩
theorem vV (T:Txt K mg):FO P w base 2 T.d32 vU:=by
 have gD27:=kA (P:=P) (w:=w) (base:=base) T
 have gD30:=oT (P:=P) (w:=w) (base:=base) T
 have gD31:=mG (P:=P) (w:=w) (base:=base) T
 refine T.d32.F.rd km fun cdv A outer s H vs Q E hr h=>?_
 obtain⟨M,fr,n,o,xa,xb,a,b,na,pa,nb,pb,rfl,hM,hf,ef,hn,ho,ha,hb,va,vb,hz,ht,q⟩:=h
 refine⟨_,(fA (pS (i:=4) km.nd (pF T.d27 gD27 hr.m (fz (cv 0) fD)))
  (fA (pS (i:=5) km.nd (gK oM (fV fX (fV fY (cv 2) fF) fF) (fV fX (fV fY (cv 3) fF) fF)))
  (fA (gL (gz kF (cv 1) fQ)
   (fG (pS (i:=5) km.nd (gK zp (fV fX (fV fY (cv 2) fF) fF) (fV fX (fV fY (cv 3) fF) fF))))
   gm)
  (fA (pS (i:=6) km.nd (gA (fz (gC (fz (fV fX (fV fY (cv 2) fF) fF) (fz (cv 4) (fz fF fD)))) (fz (gC (fz (fV fX (fV fY (cv 3) fF) fF) (fz (cv 4) (fz fF fD)))) fD))))
  (fG (f7 (pF T.d31 gD31 hr.m (fz (pF T.d30 gD30 hr.m (fz (cv 4) (fz (gA (fz (cv 1) (fz lG (fz lG fD)))) (fz (gA (fz (cv 2) (fz (cv 3) fD))) fD)))) (fz (gC (fz fQ (fz (cv 5) (fz (cv 4) fD)))) (fz (cv 6) fD)))))))))),?_⟩
 refine⟨fr,n,rfl,ef,hn,?_⟩
 have ef1:Fh (upd H fr (.lst (aG (n+ 1) .non))) fr (n+ 1):=fC
 have F1:Fr [fr] H (upd H fr (.lst (aG (n+ 1) .non))):=kP
 have hM1:=qL (a:=fr) (o:= .lst (aG (n+ 1) .non)) hM
 have K1:=Fr.mask (F1.le (N:=M) (fun a ha=>by rw[bf.mp ha];exact hf))
 replace ha:=ha.same K1
 replace hb:=hb.same K1
 dsimp only[gJ]
 generalize upd H fr (.lst (aG (n+ 1) .non))=H1 at ef1 F1 hM1 ha hb⊢
 obtain⟨ia,ta,ra,rfl,eia,eta⟩:=(ha.same gU).num va
 obtain⟨ib,tb,rb,rfl,eib,etb⟩:=(hb.same gU).num vb
 refine⟨_,eia,fN (fH (j:=1) rfl) ⟨_,eta,fN (fH (j:=1) rfl) ⟨_,eib,fN (fH (j:=1) rfl) ⟨_,etb,fN (fH (j:=1) rfl) ?_⟩⟩⟩⟩
 obtain⟨nn,eo⟩:∃nn,opV o na nb ((n+ 1:Nat):Int)= .num nn ((n+ 1:Nat):Int)/\nn=if o="sub" then na-nb else na+nb:=by
  rcases ho with rfl|rfl
  ·exact⟨_,rfl,rfl⟩
  ·exact⟨_,rfl,rfl⟩
 dsimp only[cI0,gJ]
 refine Af (fun σ' H'=>σ'=[some (.ref fr),some (.str o),some (.ref ia),some (.ref ib),some (.int ((n+ 1:Nat):Int)),some (.int nn),none]/\H'=H1) ?_ ?_
 ·intro nx hnx
  show(if(false ^^ decide (o="sub"))=true then _ else _)
  rw[eT]
  by_cases z:o="sub"
  ·rw[gx z]at eo
   rw[gR z]
   exact jm ⟨_,eia,fN (fH (j:=1) rfl) ⟨_,eta,fN (fH (j:=1) rfl) ⟨_,eib,fN (fH (j:=1) rfl) ⟨_,etb,fN (fH (j:=1) rfl) (hnx _ _ ⟨by rw[eo.2];rfl,rfl⟩)⟩⟩⟩⟩
  ·rw[fZ z]at eo
   rw[ig z]
   exact iO (hnx _ _ ⟨by rw[eo.2];rfl,rfl⟩)
 rintro _ H1' ⟨rfl,eH⟩
 cases eH
 refine⟨_,eia,fN (fH (j:=1) rfl) ⟨_,eta,fN (fH (j:=2) rfl) ⟨nA,fun t1 k1=>?_⟩⟩⟩
 have S1:=fE k1 (.tup [.int pa,.int ((n+ 1:Nat):Int),.int 0])
 refine⟨_,S1 _ _ eib,fN (fH (j:=1) rfl) ⟨_,S1 _ _ etb,fN (fH (j:=2) rfl) ⟨nA,fun t2 k2=>⟨my,fun ml k3=>?_⟩⟩⟩⟩
 have S2:=fE k2 (.tup [.int pb,.int ((n+ 1:Nat):Int),.int 1])
 have S3:=fE k3 (.lst [.ref t1,.ref t2])
 have g1:=(S2.trans S3) _ _ (fC (a:=t1) (o:= .tup [.int pa,.int ((n+ 1:Nat):Int),.int 0]))
 have g2:=S3 _ _ (fC (a:=t2) (o:= .tup [.int pb,.int ((n+ 1:Nat):Int),.int 1]))
 have g3:=fC (H:=upd (upd H1 t1 (.tup [.int pa,.int ((n+ 1:Nat):Int),.int 0])) t2 (.tup [.int pb,.int ((n+ 1:Nat):Int),.int 1])) (a:=ml) (o:= .lst [.ref t1,.ref t2])
 have S13:=(S1.trans S2).trans S3
 have n2:=S1.free k2
 have n3:=(S1.trans S2).free k3
 dsimp only[gJ]
 generalize upd (upd (upd H1 t1 (.tup [.int pa,.int ((n+ 1:Nat):Int),.int 0])) t2 (.tup [.int pb,.int ((n+ 1:Nat):Int),.int 1])) ml (.lst [.ref t1,.ref t2])=H3 at g1 g2 g3 S13⊢
 refine⟨nA,fun pl k4=>⟨my,fun il k5=>?_⟩⟩
 have S4:=fE k4 (.lst [.str o,.non,.non])
 have S5:=fE k5 (.lst [.ref ia,.ref ib])
 have g4:=S5 _ _ (fC (a:=pl) (o:= .lst [.str o,.non,.non]))
 have g5:=fC (H:=upd H3 pl (.lst [.str o,.non,.non])) (a:=il) (o:= .lst [.ref ia,.ref ib])
 have S15:=S13.trans (S4.trans S5)
 have S35:=S4.trans S5
 dsimp only
 generalize upd (upd H3 pl (.lst [.str o,.non,.non])) il (.lst [.ref ia,.ref ib])=H5 at g4 g5 S15 S35⊢
 have hM5:∀b∈M,∃o,H5 b=some o:=fun b hb=>let⟨u,e⟩:=hM1 b hb;⟨u,S15 _ _ e⟩
 have nM:∀{b:Addr},H1 b=none->b∉M:=fun h=>Av hM1 h
 refine⟨M,((n+ 1:Nat):Int),pl,il,[some o,none,none],_,[a,b],rfl,hM5,g4,g5,.cons (ha.same (gH S15)) (.cons (hb.same (gH S15)) .nil),rfl,by show 3<=40;decide,?_,fun w hw=>?_,fun t ht'=>?_,fun wl H6 S6 pt=>?_⟩
 ·rw[msX,msX,msX,aD,aO];exact hz
 ·simp only[ak,cX.injEq,bB,or_false,reduceCtorEq]at hw
  rw[hw]
  rcases ho with rfl|rfl<;>decide+kernel
 ·rcases ak.mp ht' with rfl|ht'
  ·exact ht.1
  ·rw[bf.mp ht'];exact ht.2
 refine⟨nA,fun tv k7=>?_⟩
 have S7:=fE k7 (.tup [.str "num",.int nn,.int ((n+ 1:Nat):Int)])
 have S67:=S6.trans S7
 have pt7:=pt.same S7
 obtain⟨A,h0,ea,_⟩:=pt7
 have nw:∀{c:Addr} {u:HO},H5 c=some u->c∉M->mask (upd H6 tv (.tup [.str "num",.int nn,.int ((n+ 1:Nat):Int)])) (wl::M) c=some u:=fun e nm=>ie (fun z=>by rcases ak.mp z with z|z;rw[z,h0]at e;cases e;exact nm z) (S67 _ _ e)
 have etv:mask (upd H6 tv (.tup [.str "num",.int nn,.int ((n+ 1:Nat):Int)])) (wl::M) tv=some (.tup [.str "num",.int nn,.int ((n+ 1:Nat):Int)]):=ie (fun z=>by
  rcases ak.mp z with z|z
  ·rw[z]at k7;obtain⟨A,_,e,_⟩:=pt;rw[k7]at e;cases e
  ·exact Av hM5 (S6.free k7) z) fC
 refine⟨H5,M,wl,ml,.ref tv,_,_,[a,b],.op ((n+ 1:Nat):Int) o a b,_,[.ref t1,.ref t2],rfl,S67,hM5,pt.same S7,?_,nw (S35 _ _ g3) (nM n3),?_,Xt.op_tx _ _ _ _,Xt.op_ms _ _ _ _,Xt.op_ha _ _ _ _,Xt.op_me _ _ _ _,?_,by show 2<=10;decide,fun H8 S8 x=>q _ _ ?_ (S8 _ _ (S15 _ _ ef1)) x⟩
 ·rw[Xt.val,va,vb]
  show Im _ _ (opV o na nb _).d
  rw[eo.1]
  exact .tup etv (.cons (.flat rfl) (.cons (.flat rfl) (.cons (.flat rfl) .nil)))
 ·rw[va,vb]
  exact .cons (.tup (nw (S35 _ _ g1) (nM k1)) (.cons (.flat rfl) (.cons (.flat rfl) (.cons (.flat rfl) .nil)))) (.cons (.tup (nw (S35 _ _ g2) (nM n2)) (.cons (.flat rfl) (.cons (.flat rfl) (.cons (.flat rfl) .nil)))) .nil)
 ·rw[msX,msX,msX,aD,aO];exact hz
 ·exact(F1.trans (Fr.same S15)).trans (Fr.same S8)
theorem E3 (c:Int) {n:Nat} (h:1<=n):∃i:Nat,c%(n:Int)=(i:Int)/\i<n:=by
 obtain⟨i,e,l⟩:=emN c (m:=(n:Int)) (by lia)
 exact⟨i,e,by lia⟩
theorem E4 (n m:Int):atI [V.str "no",V.str "yes"] (if decide (n<m)=true then 1 else 0)=some (.str (ynS (decide (n<m)))):=by
 cases decide (n<m)<;>rfl
inductive XLe (vs:List V) (H:Hp) (Q:VK):Prop
 |mk (M:List Addr) (fr wl il:Addr) (n:Nat) (c:Int) (ws:List Str) (xs:List V) (ts:List Xt) (e:vs=[.ref fr,.ref wl,.ref il,.int c]) (hM:∀b∈M,∃o,H b=some o) (hf:fr∈M) (ef:Fh H fr n) (hn:n<=900) (ew:mask H M wl=some (.lst (ws.map V.str))) (ei:H il=some (.lst xs)) (nf:il≠fr) (hx:rX (mask H M) xs ts) (hv:∀t∈ts,∃n p,t.val= .num n p) (h1:1<=ts.length) (h12:ts.length<=ws.length) (lw:∀w∈ws,w.length<=12) (q:∀(i j:Nat) (wi wj:Str) (ti tj:Xt) x H',ws[i]?=some wi->ws[j]?=some wj->ts[i]?=some ti->ts[j]?=some tj->Fr [fr] H H'->Fh H' fr (n+ 3)->XtA (mask H' M) x (.op ((n+ 1:Nat):Int) "less" (.nam ((n+ 2:Nat):Int) wi i ti.val) (.nam ((n+ 3:Nat):Int) wj j tj.val))->Q x H')
def uS:Sp:=fun vs H Q _=>XLe vs H Q
theorem uT (T:Txt K mg):FO P w base 3 T.d40 uS:=by
 have gD27:=kA (P:=P) (w:=w) (base:=base) T
 have gD29:=nY (P:=P) (w:=w) (base:=base) T
 have gD30:=oT (P:=P) (w:=w) (base:=base) T
 have gD31:=mG (P:=P) (w:=w) (base:=base) T
 refine T.d40.F.rd iA fun cdv A outer s H vs Q E hr h=>?_
 obtain⟨M,fr,wl,il,n,c,ws,xs,ts,rfl,hM,hf,ef,hn,ew,ei,nf,hx,hv,h1,h12,lw,q⟩:=h
 refine⟨_,(fA (pS (i:=4) iA.nd (pF T.d27 gD27 hr.m (fz (cv 0) fD)))
  (fA (pS (i:=5) iA.nd (gK jY (cv 3) (gg gy rfl T.z_len jf (fz (cv 2) fD))))
  (fA (pS (i:=6) iA.nd (gK jY (gK kE (cv 3) fF) (gg gy rfl T.z_len jf (fz (cv 2) fD))))
  (fA (AO (j:=7) rfl (Gz (x:="_law_k") ["_law_words_here","_law_items_here","_law_fresh"] [("_law_words_here",1,s.heap.objs.size+ 2),("_law_items_here",2,s.heap.objs.size+ 3),("_law_fresh",0,s.heap.objs.size+ 1)]) (pO (gC (fz (cv 5) (fz (cv 6) fD)))) (fun _ _ _ _ _=>mL) (fun _ _ _ _ _=>(pF T.d29 gD29 hr.m (fz (cv 3) (fz (fV fY (cv 1) (cv 0)) (fz (fV fY (fV fY (cv 2) (cv 0)) fF) fD))))) iA.nd rfl (.inl rfl))
  (fA (pS (i:=8) iA.nd (fV fY (gA (fz fQ (fz fQ fD))) (jH yG rfl T.z_int wm (fz (kQ D9 (fV fX (fV fY (fV fY (cv 7) fF) fF) fF) (fV fX (fV fY (fV fY (cv 7) fF) fF) fF)) fD))))
  (fA (pS (i:=9) iA.nd (gA (fz (gC (fz (fV fX (fV fY (fV fY (cv 7) fF) fF) fF) (fz (cv 4) (fz fF fD)))) (fz (gC (fz (fV fX (fV fY (fV fY (cv 7) fF) fF) fF) (fz (cv 4) (fz fF fD)))) fD))))
  (fA (pS (i:=10) iA.nd (gC (fz fQ (fz (gC (fz (cv 8) (fz (gC (fz fQ (fz (gC fD) (fz (cv 4) fD)))) fD))) (fz (cv 4) fD)))))
  (fG (f7 (pF T.d31 gD31 hr.m (fz (pF T.d30 gD30 hr.m (fz (cv 4) (fz (gA (fz fQ (fz lG (fz lG fD)))) (fz (cv 7) fD)))) (fz (cv 10) (fz (cv 9) fD))))))))))))),?_⟩
 have sl:=sizeLine_eq
 refine⟨fr,n,rfl,ef,by lia,?_⟩
 have ef1:Fh (upd H fr (.lst (aG (n+ 1) .non))) fr (n+ 1):=fC
 have F1:Fr [fr] H (upd H fr (.lst (aG (n+ 1) .non))):=kP
 have hM1:=qL (a:=fr) (o:= .lst (aG (n+ 1) .non)) hM
 have K1:=Fr.mask (F1.le (N:=M) (fun a ha=>by rw[bf.mp ha];exact hf))
 replace hx:=hx.same K1
 replace ew:=K1 _ _ ew
 replace ei:=F1 _ _ ei (fun z=>nf (bf.mp z))
 dsimp only[gJ]
 generalize upd H fr (.lst (aG (n+ 1) .non))=H1 at ef1 F1 hM1 hx ew ei⊢
 have lx:=hx.len
 obtain⟨i1,ei1,li1⟩:=E3 c (n:=xs.length) (by lia)
 obtain⟨i2,ei2,li2⟩:=E3 (c/12) (n:=xs.length) (by lia)
 refine⟨il,_,rfl,.inl (SqL.of ei),(by show(0:Int)<(xs.length:Int);lia),?_⟩
 dsimp only[gJ]
 rw[ei1]
 refine⟨⟨by decide,by decide⟩,il,_,rfl,.inl (SqL.of ei),(by show(0:Int)<(xs.length:Int);lia),?_⟩
 dsimp only[gJ]
 rw[ei2]
 obtain⟨w1,hw1⟩:∃w,ws[i1]?=some w:=⟨_,bz (by lia)⟩
 obtain⟨w2,hw2⟩:∃w,ws[i2]?=some w:=⟨_,bz (by lia)⟩
 obtain⟨t1,ht1⟩:∃w,ts[i1]?=some w:=⟨_,bz (by lia)⟩
 obtain⟨t2,ht2⟩:∃w,ts[i2]?=some w:=⟨_,bz (by lia)⟩
 refine⟨my,fun tp htp=>⟨tp,rfl,⟨_,SqT.of fC⟩,fun D hD=>?_⟩⟩
 have S2:=fE htp (.tup [.int (i1:Int),.int (i2:Int)])
 have etp:(upd H1 tp (.tup [.int (i1:Int),.int (i2:Int)])) tp=some (.tup [.int (i1:Int),.int (i2:Int)]):=fC
 generalize upd H1 tp (.tup [.int (i1:Int),.int (i2:Int)])=H2 at S2 etp hD⊢
 have nD1:=S2.free hD
 have tpf:tp≠fr:=fun z=>by rw[z,show H1 fr=_ from ef1]at htp;cases htp
 have Df:D≠fr:=fun z=>by rw[z,show H1 fr=_ from ef1]at nD1;cases nD1
 have Dt:D≠tp:=fun z=>by rw[z,etp]at hD;cases hD
 let bs:List Xt:=[.nam ((n+ 2:Nat):Int) w1 i1 t1.val,.nam ((n+ 3:Nat):Int) w2 i2 t2.val]
 refine E1 2 (by lia) (fun k ys Hk=>Fr [fr] H1 Hk/\Fh Hk fr (n+ 1+k)/\Hk D=some (.lst ys)/\Hk tp=some (.tup [.int (i1:Int),.int (i2:Int)])/\rX (mask Hk (D::M)) ys (bs.take k)) rfl ?_ ?_ ?_ ?_ ?_
 ·refine⟨(Fr.same S2).trans (Fr.same (fE hD _)),by rw[Fh,fO Df.symm];exact S2 _ _ ef1,fC,by rw[fO Dt.symm];exact etp,.nil⟩
 ·rintro k ys Hk ⟨_,_,_,e,_⟩ hk
  exact zk e (fun _ _ e=>e) (by show k<2;lia)
 ·rintro ys Hk ⟨_,_,_,e,_⟩
  exact zl e (fun _ _ e=>e)
 ·rintro k ys Hk v H3 Z hk hl ⟨Fk,fk,eD,etk,xk⟩ y hz
  obtain⟨rfl,hv'⟩:=y
  have hv':=hv' _ (SqT.of etk)
  obtain⟨ii,wk,tk,rfl,hwk,htk,hbk⟩:∃(ii:Nat) (wk:Str) (tk:Xt),v= .int (ii:Int)/\ws[ii]?=some wk/\ts[ii]?=some tk/\bs.take (k+ 1)=bs.take k++[.nam ((n+ 1+k+ 1:Nat):Int) wk ii tk.val]:=by
   match k,hk,hv' with
   |0,_,hv'=>cases hv';exact⟨i1,w1,t1,rfl,hw1,ht1,rfl⟩
   |1,_,hv'=>cases hv';exact⟨i2,w2,t2,rfl,hw2,ht2,rfl⟩
  have KM:fW (mask H1 M) (mask H3 (D::M)):=fun b u e=>by
   obtain⟨e1,e2⟩:=jV e
   refine ie (fun z=>?_) (Fk _ _ e2 fun z=>e1 (by rw[bf.mp z];exact hf))
   rcases ak.mp z with z|z
   ·rw[z,nD1]at e2;cases e2
   ·exact e1 z
  obtain⟨x,hxx,hX⟩:=hx.at htk
  replace hX:=hX.same KM
  obtain⟨ai,vi,B,rfl,eai,ivi,_⟩:=hX
  refine⟨_,gU _ _ (KM _ _ ew),fN (fH (by rw[aM,hwk];rfl)) ⟨_,Fk _ _ ei (fun z=>nf (bf.mp z)),fN (fH hxx) ⟨_,gU _ _ eai,fN (fH (j:=1) rfl) ?_⟩⟩⟩
  refine⟨D::M,fr,n+ 1+k,ii,wk,vi,tk.val,rfl,fun b hb=>?_,aj _ hf,fk,by lia,ivi,fun x H5 F5 f5 x5=>hz x H5 (F5 _ _ eD (fun z=>Df (bf.mp z))) ?_⟩
  ·rcases ak.mp hb with rfl|hb
   ·exact⟨_,eD⟩
   ·by_cases z:b=fr
    ·rw[z];exact⟨_,fk⟩
    ·obtain⟨u,e⟩:=hM1 b hb
     exact⟨u,Fk _ _ e (fun y=>z (bf.mp y))⟩
  have F5D:Fr (D::M) H5 (upd H5 D (.lst (ys++[x]))):=kP.le (fun b hb=>by rw[bf.mp hb];exact ah)
  have F35:Fr (D::M) H3 H5:=F5.le (fun b hb=>by rw[bf.mp hb];exact aj _ hf)
  refine⟨fun b u e hb=>?_,by rw[Fh,fO Df.symm];exact f5,fC,by rw[fO Dt.symm];exact F5 _ _ etk (fun z=>tpf (bf.mp z)),?_⟩
  ·rw[fO (fun z=>by rw[z,nD1]at e;cases e)]
   exact F5 _ _ (Fk _ _ e hb) hb
  ·rw[hbk]
   exact((xk.same (F35.trans F5D).mask)).snoc (x5.same F5D.mask)
 rintro ys H3 hl ⟨F3,f3,eD,_,x3⟩
 obtain⟨n1,p1,v1⟩:=hv t1 (aN ht1)
 obtain⟨n2,p2,v2⟩:=hv t2 (aN ht2)
 replace x3:=x3.same (tE (H:=H3) (M:=M) (N:=D::M) fun a ha=>aj _ ha)
 have hM3:∀b∈M,∃o,H3 b=some o:=fun b hb=>by
  by_cases z:b=fr
  ·rw[z];exact⟨_,f3⟩
  ·obtain⟨u,e⟩:=hM1 b hb
   exact⟨u,F3 _ _ e (fun y=>z (bf.mp y))⟩
 obtain⟨x1,x2,rfl,xa,xb⟩:∃x1 x2,ys=[x1,x2]/\XtA (mask H3 M) x1 (.nam ((n+ 2:Nat):Int) w1 i1 t1.val)/\XtA (mask H3 M) x2 (.nam ((n+ 3:Nat):Int) w2 i2 t2.val):=by
  cases x3 with
  |cons h r=>
   cases r with
   |cons h2 r=>cases r;exact⟨_,_,rfl,h,h2⟩
 clear x3 lx
 obtain⟨ia,ta,ra,rfl,eia,eta⟩:=(xa.same gU).num v1
 obtain⟨ib,tb,rb,rfl,eib,etb⟩:=(xb.same gU).num v2
 have F03:=F1.trans F3
 dsimp only[gJ]
 refine⟨my,fun ly hly=>?_⟩
 have S4:=fE hly (.lst [.str "no",.str "yes"])
 refine⟨_,S4 _ _ eD,fN (fH (j:=0) rfl) ⟨_,S4 _ _ eia,fN (fH (j:=1) rfl) ⟨_,S4 _ _ eta,fN (fH (j:=1) rfl) ⟨_,S4 _ _ eD,fN (fH (j:=1) rfl) ⟨_,S4 _ _ eib,fN (fH (j:=1) rfl) ⟨_,S4 _ _ etb,fN (fH (j:=1) rfl) ?_⟩⟩⟩⟩⟩⟩
 refine .inr ⟨_,rfl,_,fC,fN (E4 n1 n2) ?_⟩
 show ym _ _ _ [some (.ref fr),some (.ref wl),some (.ref il),some (.int c),some (.int ((n+ 1:Nat):Int)),some (.int (i1:Int)),some (.int (i2:Int)),some (.ref D),some (.str (ynS (decide (n1<n2)))),none,none] _
 obtain⟨yn,hyn⟩:∃yn,decide (n1<n2)=yn:=⟨_,rfl⟩
 rw[hyn]
 replace eD:=S4 _ _ eD
 replace eia:=S4 _ _ eia
 replace eta:=S4 _ _ eta
 replace eib:=S4 _ _ eib
 replace etb:=S4 _ _ etb
 replace xa:=xa.same (gH S4)
 replace xb:=xb.same (gH S4)
 replace f3:=S4 _ _ f3
 replace F03:=F03.trans (Fr.same S4)
 replace hM3:∀b∈M,∃o,(upd H3 ly (.lst [.str "no",.str "yes"])) b=some o:=fun b hb=>let⟨u,e⟩:=hM3 b hb;⟨u,S4 _ _ e⟩
 generalize upd H3 ly (.lst [.str "no",.str "yes"])=H4 at eD eia eta eib etb xa xb f3 F03 hM3⊢
 clear S4 hly F3
 refine⟨_,eD,fN (fH (j:=0) rfl) ⟨_,eia,fN (fH (j:=1) rfl) ⟨_,eta,fN (fH (j:=2) rfl) ⟨nA,fun s1 k1=>?_⟩⟩⟩⟩
 have S1:=fE k1 (.tup [.int p1,.int ((n+ 1:Nat):Int),.int 0])
 refine⟨_,S1 _ _ eD,fN (fH (j:=1) rfl) ⟨_,S1 _ _ eib,fN (fH (j:=1) rfl) ⟨_,S1 _ _ etb,fN (fH (j:=2) rfl) ⟨nA,fun s2 k2=>⟨my,fun ml k3=>?_⟩⟩⟩⟩⟩
 have S2':=fE k2 (.tup [.int p2,.int ((n+ 1:Nat):Int),.int 1])
 have S3:=fE k3 (.lst [.ref s1,.ref s2])
 have g1:=(S2'.trans S3) _ _ (fC (a:=s1) (o:= .tup [.int p1,.int ((n+ 1:Nat):Int),.int 0]))
 have g2:=S3 _ _ (fC (a:=s2) (o:= .tup [.int p2,.int ((n+ 1:Nat):Int),.int 1]))
 have g3:=fC (H:=upd (upd H4 s1 (.tup [.int p1,.int ((n+ 1:Nat):Int),.int 0])) s2 (.tup [.int p2,.int ((n+ 1:Nat):Int),.int 1])) (a:=ml) (o:= .lst [.ref s1,.ref s2])
 have S13:=(S1.trans S2').trans S3
 have m2:=S1.free k2
 have m3:=(S1.trans S2').free k3
 show ym _ _ _ [some (.ref fr),some (.ref wl),some (.ref il),some (.int c),some (.int ((n+ 1:Nat):Int)),some (.int (i1:Int)),some (.int (i2:Int)),some (.ref D),some (.str (ynS yn)),some (.ref ml),none] _
 generalize upd (upd (upd H4 s1 (.tup [.int p1,.int ((n+ 1:Nat):Int),.int 0])) s2 (.tup [.int p2,.int ((n+ 1:Nat):Int),.int 1])) ml (.lst [.ref s1,.ref s2])=H5 at g1 g2 g3 S13⊢
 clear S1 S2' S3 k2 k3
 refine⟨n6,fun a1 j1=>⟨nA,fun a2 j2=>⟨my,fun a3 j3=>⟨nA,fun a4 j4=>?_⟩⟩⟩⟩
 have S1:=fE j1 (.tup [])
 have S2':=fE j2 (.tup [.str "rec",.ref a1,.int ((n+ 1:Nat):Int)])
 have S3:=fE j3 (.tup [.str (ynS yn),.ref a2])
 have S4:=fE j4 (.tup [.str "tag",.ref a3,.int ((n+ 1:Nat):Int)])
 have r1:=((S2'.trans S3).trans S4) _ _ (fC (a:=a1) (o:= .tup []))
 have r2:=(S3.trans S4) _ _ (fC (a:=a2) (o:= .tup [.str "rec",.ref a1,.int ((n+ 1:Nat):Int)]))
 have r3:=S4 _ _ (fC (a:=a3) (o:= .tup [.str (ynS yn),.ref a2]))
 have r4:=fC (H:=upd (upd (upd H5 a1 (.tup [])) a2 (.tup [.str "rec",.ref a1,.int ((n+ 1:Nat):Int)])) a3 (.tup [.str (ynS yn),.ref a2])) (a:=a4) (o:= .tup [.str "tag",.ref a3,.int ((n+ 1:Nat):Int)])
 have S58:=((S1.trans S2').trans S3).trans S4
 replace j2:=S1.free j2
 replace j3:=(S1.trans S2').free j3
 replace j4:=((S1.trans S2').trans S3).free j4
 dsimp only[gJ]
 generalize upd (upd (upd (upd H5 a1 (.tup [])) a2 (.tup [.str "rec",.ref a1,.int ((n+ 1:Nat):Int)])) a3 (.tup [.str (ynS yn),.ref a2])) a4 (.tup [.str "tag",.ref a3,.int ((n+ 1:Nat):Int)])=H8 at r1 r2 r3 r4 S58⊢
 clear S1 S2' S3 S4
 refine⟨nA,fun pl k4=>?_⟩
 have S9:=fE k4 (.lst [.str "less",.non,.non])
 have g4:=fC (H:=H8) (a:=pl) (o:= .lst [.str "less",.non,.non])
 have S49:=(S13.trans S58).trans S9
 have S59:=S58.trans S9
 dsimp only
 generalize upd H8 pl (.lst [.str "less",.non,.non])=H9 at S9 g4 S49 S59⊢
 have hM9:∀b∈M,∃o,H9 b=some o:=fun b hb=>let⟨u,e⟩:=hM3 b hb;⟨u,S49 _ _ e⟩
 have nM:∀{b:Addr},H4 b=none->b∉M:=fun h=>Av hM3 h
 have two:(msX [(.nam ((n+ 2:Nat):Int) w1 i1 t1.val:Xt),.nam ((n+ 3:Nat):Int) w2 i2 t2.val]).length<=1000:=by show 2<=1000;decide
 refine⟨M,((n+ 1:Nat):Int),pl,D,[some "less",none,none],_,[.nam ((n+ 2:Nat):Int) w1 i1 t1.val,.nam ((n+ 3:Nat):Int) w2 i2 t2.val],rfl,hM9,g4,S49 _ _ eD,.cons (xa.same (gH S49)) (.cons (xb.same (gH S49)) .nil),rfl,by show 3<=40;decide,two,fun w hw=>?_,fun t ht'=>?_,fun wl' H6 S6 pt=>?_⟩
 ·simp only[ak,cX.injEq,bB,or_false,reduceCtorEq]at hw
  rw[hw]
  decide+kernel
 ·rcases ak.mp ht' with rfl|ht'
  ·exact cw (lw w1 (aN hw1)) (by decide)
  ·rw[bf.mp ht'];exact cw (lw w2 (aN hw2)) (by decide)
 have h0:H9 wl'=none:=by obtain⟨A,h0,_,_⟩:=pt;exact h0
 have nw:∀{c:Addr} {u:HO},H9 c=some u->c∉M->mask H6 (wl'::M) c=some u:=fun e nm=>ie (fun z=>by rcases ak.mp z with z|z;rw[z,h0]at e;cases e;exact nm z) (S6 _ _ e)
 refine⟨H9,M,wl',ml,.ref a4,_,_,[.nam ((n+ 2:Nat):Int) w1 i1 t1.val,.nam ((n+ 3:Nat):Int) w2 i2 t2.val],.op ((n+ 1:Nat):Int) "less" (.nam ((n+ 2:Nat):Int) w1 i1 t1.val) (.nam ((n+ 3:Nat):Int) w2 i2 t2.val),_,[.ref s1,.ref s2],rfl,S6,hM9,pt,?_,nw (S59 _ _ g3) (nM m3),?_,Xt.op_tx _ _ _ _,Xt.op_ms _ _ _ _,Xt.op_ha _ _ _ _,Xt.op_me _ _ _ _,two,by show 2<=10;decide,fun H8' S8 x=>q i1 i2 w1 w2 t1 t2 _ _ hw1 hw2 ht1 ht2 ?_ (S8 _ _ (S49 _ _ f3)) x⟩
 ·rw[Xt.val,Xt.val,Xt.val,v1,v2]
  show Im _ _ (Vl.yes (decide (n1<n2)) _).d
  rw[hyn]
  exact .tup (nw (S9 _ _ r4) (nM (S13.free j4))) (.cons (.flat rfl) (.cons (.tup (nw (S9 _ _ r3) (nM (S13.free j3))) (.cons (.flat rfl) (.cons (.tup (nw (S9 _ _ r2) (nM (S13.free j2))) (.cons (.flat rfl) (.cons (.tup (nw (S9 _ _ r1) (nM (S13.free j1))) .nil) (.cons (.flat rfl) .nil)))) .nil))) (.cons (.flat rfl) .nil)))
 ·rw[Xt.val,Xt.val,v1,v2]
  exact .cons (.tup (nw (S59 _ _ g1) (nM k1)) (.cons (.flat rfl) (.cons (.flat rfl) (.cons (.flat rfl) .nil)))) (.cons (.tup (nw (S59 _ _ g2) (nM m2)) (.cons (.flat rfl) (.cons (.flat rfl) (.cons (.flat rfl) .nil)))) .nil)
 ·exact(F03.trans (Fr.same S49)).trans (Fr.same S8)
theorem xm {ws:List Str} {t:Xt}:∀{ts:List Xt} {vs:List Vl},okX ws vs ts->t.ok ws (vs++ts.map Xt.val)->okX ws vs (ts++[t])
 |[],vs,_,h=>⟨by rw[aU,aD]at h;exact h,trivial⟩
 |u::ts,vs,k,h=>⟨k.1,xm k.2 (by rw[bJ];exact h)⟩
structure It1 (ws:List Str) (vs:List Vl) (t:Xt) (lo j:Nat):Prop where
 ok:t.ok ws vs
 nv:∃n p,t.val= .num n p
 nd:t.ms.Nodup
 rg:∀m∈t.ms,(lo:Int)<m/\m<=((lo+ 1+ 2*j:Nat):Int)
 ns:t.tr.nest<=j+ 1
 l:t.ms.length=1+ 2*j
structure Df (ws:List Str) (ts:List Xt) (n:Nat):Prop where
 ok:okX ws [] ts
 nd:(msX ts).Nodup
 rg:∀m∈msX ts,(0:Int)<m/\m<=(n:Int)
 ns:∀t∈ts,t.tr.nest<=24
theorem Df.snoc {ws:List Str} {ts:List Xt} {t:Xt} {n n':Nat} (d:Df ws ts n) (ok:t.ok ws (ts.map Xt.val)) (nd:t.ms.Nodup) (rg:∀m∈t.ms,(n:Int)<m/\m<=(n':Int)) (hn:n<=n') (ns:t.tr.nest<=24):Df ws (ts++[t]) n':=by
 have e:msX (ts++[t])=msX ts++t.ms:=by rw[lC,msX,msX,aD]
 refine⟨xm d.ok ok,?_,fun m hm=>?_,fun u hu=>?_⟩
 ·rw[e,bX]
  refine⟨d.nd,nd,fun a ha b hb z=>?_⟩
  have:=(d.rg a ha).2
  have:=(rg b hb).1
  lia
 ·rw[e]at hm
  rcases ao.mp hm with hm|hm
  ·have:=d.rg m hm
   lia
  ·have:=rg m hm
   lia
 ·rcases ao.mp hu with hu|hu
  ·exact d.ns u hu
  ·rw[bf.mp hu];exact ns
theorem vW (m:Int) (o:Str) (a b:Xt):(Xt.op m o a b).tr.nest=1+max a.tr.nest (max b.tr.nest 0):=by rw[Xt.tr,TM.Internal.Tr.nest,TM.Internal.nests,TM.Internal.nests,TM.Internal.nests]
theorem tI (m n:Int):(Xt.num m n).tr.nest=1:=by rw[Xt.tr,TM.Internal.Tr.nest,TM.Internal.nests]
theorem tK (m:Int) (w:Str) (k:Nat) (v:Vl):(Xt.nam m w k v).tr.nest=1:=by rw[Xt.tr,TM.Internal.Tr.nest,TM.Internal.nests]
theorem Ag {o:Str} (ho:o="add"\/o="sub") (n m p:Int):∃n' p',opV o n m p= .num n' p':=by rcases ho with rfl|rfl<;>exact⟨_,_,rfl⟩
theorem It1.op {ws:List Str} {vs:List Vl} {a b:Xt} {lo j:Nat} {o:Str} {c:Int} (h:It1 ws vs a lo j) (ho:o="add"\/o="sub") (hc:0<=c/\c<10^60) (hb:b= .num ((lo+ 1+ 2*j+ 1:Nat):Int) c):It1 ws vs (.op ((lo+ 1+ 2*j+ 1+ 1:Nat):Int) o a b) lo (j+ 1)/\It1 ws vs (.op ((lo+ 1+ 2*j+ 1+ 1:Nat):Int) o b a) lo (j+ 1):=by
 subst hb
 have ho':o="add"\/o="sub"\/o="less":=by rcases ho with h|h;exact .inl h;exact .inr (.inl h)
 have rg:∀m,m=((lo+ 1+ 2*j+ 1+ 1:Nat):Int)\/m∈a.ms\/m=((lo+ 1+ 2*j+ 1:Nat):Int)->(lo:Int)<m/\m<=((lo+ 1+ 2*(j+ 1):Nat):Int):=fun m hm=>by
  rcases hm with rfl|hm|rfl
  ·lia
  ·have:=h.rg m hm
   lia
  ·lia
 have n1:((lo+ 1+ 2*j+ 1:Nat):Int)∉a.ms:=fun z=>by have:=h.rg _ z;lia
 have n2:((lo+ 1+ 2*j+ 1+ 1:Nat):Int)∉a.ms:=fun z=>by have:=h.rg _ z;lia
 have ns:=h.ns
 have hl:=h.l
 refine⟨⟨⟨ho',h.ok,hc,h.nv,_,_,rfl⟩,Ag ho _ _ _,?_,fun m hm=>rg m ?_,by rw[vW,tI];lia,?_⟩,⟨ho',hc,h.ok,⟨_,_,rfl⟩,h.nv⟩,Ag ho _ _ _,?_,fun m hm=>rg m ?_,by rw[vW,tI];lia,?_⟩
 ·rw[Xt.ms,Xt.ms,aE,bX]
  refine⟨fun z=>?_,h.nd,aE.mpr ⟨(fun z=>nomatch z),b6⟩,fun x hx y hy z=>n1 ?_⟩
  ·rcases ao.mp z with z|z
   ·exact n2 z
   ·have:=bf.mp z
    lia
  ·rw[<-bf.mp hy,<-z];exact hx
 ·rw[Xt.ms,Xt.ms]at hm
  rcases ak.mp hm with hm|hm
  ·exact .inl hm
  ·rcases ao.mp hm with hm|hm
   ·exact .inr (.inl hm)
   ·exact .inr (.inr (bf.mp hm))
 ·rw[Xt.ms,Xt.ms,az,aO,ba,hl];lia
 ·rw[Xt.ms,Xt.ms,aE]
  refine⟨fun z=>?_,aE.mpr ⟨n1,h.nd⟩⟩
  rcases ak.mp z with z|z
  ·lia
  ·exact n2 z
 ·rw[Xt.ms,Xt.ms]at hm
  rcases ak.mp hm with hm|hm
  ·exact .inl hm
  ·rcases ak.mp hm with hm|hm
   ·exact .inr (.inr hm)
   ·exact .inr (.inl hm)
 ·rw[Xt.ms,Xt.ms,az,aO,ba,hl];lia
theorem E5 {N:Int} (h1:2<=N) (h2:N<=63):1<=rsz 1 N 6/\rsz 1 N 6<=11:=by
 unfold rsz
 rw[gx (by lia)]
 lia
theorem Dl (ns:List Int) (k:Nat):∃ms:List Int,pk (ns.map V.int) (some (1+(k:Int)*6)) (some (1+(k:Int)*6+ 6))=ms.map V.int/\ms.length<=6:=by
 refine⟨(ns.drop (HT.Internal.sIx (ns.map V.int).length 0 (some (1+(k:Int)*6)))).take (HT.Internal.sIx (ns.map V.int).length (ns.map V.int).length (some (1+(k:Int)*6+ 6))-HT.Internal.sIx (ns.map V.int).length 0 (some (1+(k:Int)*6))),?_,?_⟩
 ·unfold pk
  rw[<-List.map_drop,<-List.map_take]
 ·rw[aI]
  have e:∀{d:Nat} {v:Int},0<=v->HT.Internal.sIx (ns.map V.int).length d (some v)=min v.toNat (ns.map V.int).length:=fun h=>fZ (by lia)
  rw[e (by lia),e (by lia)]
  lia
theorem nZ (ns:List Int) (lo hi:Option Int):∃ms:List Int,pk (ns.map V.int) lo hi=ms.map V.int/\ms.length<=ns.length:=by
 refine⟨(ns.drop (HT.Internal.sIx (ns.map V.int).length 0 lo)).take (HT.Internal.sIx (ns.map V.int).length (ns.map V.int).length hi-HT.Internal.sIx (ns.map V.int).length 0 lo),?_,?_⟩
 ·unfold pk
  rw[<-List.map_drop,<-List.map_take]
 ·rw[aI,aW]
  lia
open GR.Internal (isName)
theorem Dm {ws:List Str} {vs:List Vl} (hw:∀w∈ws,isName w=true) {t:Xt} (ok:t.ok ws vs) (hl:t.ms.length<=1000):t.tx.length<=100000:=by
 have:=(t.gt hw ok).1.l
 lia
structure Fin (ws:List Str) (ts:List Xt):Prop where
 ok:okX ws [] ts
 nd:(msX ts).Nodup
 ns:∀t∈ts,t.tr.nest<=24
 l1:1<=ts.length
 l12:ts.length<=12
 l:(msX ts).length<=160
theorem xn (ts:List Xt) (t:Xt):(msX (ts++[t])).length=(msX ts).length+t.ms.length:=by rw[lC,msX,msX,aD,aO]
inductive XIt (K:PySem.W.Frag) (vs:List V) (H:Hp) (Q:VK):Prop
 |mk (wl sc:Addr) (ws:List Str) (ns:List Int) (e:vs=[.ref wl,.ref sc]) (hw:Wd H wl ws) (hs:SqL K H sc (ns.map V.int)) (hl:ns.length<=63) (q:∀il xs ts H',fW H H'->H il=none->H' il=some (.lst xs)->rX H' xs ts->Fin ws ts->Q (.ref il) H')
def tL (K:PySem.W.Frag):Sp:=fun vs H Q _=>XIt K vs H Q
theorem Ah (c:Int):0<=c%10^(60:Int).toNat/\c%10^(60:Int).toNat<10^60:=⟨fc _ gq,fe _ gq⟩
theorem p60:(0:Int)<10^(60:Int).toNat:=gq
inductive ItH (H1 H':Hp) (fr il:Addr) (xs:List V) (ws:List Str) (vs:List Vl) (lo j:Nat) (x:V):Prop
 |mk (t:Xt) (F:Fr [fr] H1 H') (f:Fh H' fr (lo+ 1+ 2*j)) (X:XtA (mask H' [fr,il]) x t) (h:It1 ws vs t lo j)
theorem tM (T:Txt K mg):FO P w base 4 T.d39 (tL K):=by
 have gD28:=qZ (P:=P) (w:=w) (base:=base) T
 have gD29:=nY (P:=P) (w:=w) (base:=base) T
 have gD32:=vV (P:=P) (w:=w) (base:=base) T
 have gD40:=uT (P:=P) (w:=w) (base:=base) T
 refine T.d39.F.rd gI fun cdv A outer s H vs Q E hr h=>?_
 obtain⟨wl,sc,ws,ns,rfl,hw,hs,hl,q⟩:=h
 refine⟨_,(fA (pS (i:=2) gI.nd (gA fD))
  (fA (pS (i:=3) gI.nd (gA fD))
  (fA (iZ PassesOwn.never rfl (zw rfl T.z_range (fz fF (fz (gg (yE rfl) rfl T.z_max D8 (fz fF (fz (gg (yF rfl) rfl T.z_min D6 (fz (gg gy rfl T.z_len jf (fz (cv 1) fD)) (fz fF fD))) fD))) (fz fF fD)))) (pN (i:=4) gI.nd)
   (fA (gL (gz kF (gg gy rfl T.z_len jf (fz (cv 3) fD)) fF)
    (fG (pS (i:=5) gI.nd (pF T.d28 gD28 hr.m (fz (cv 2) (fz (gK jY (gg (lP rfl) rfl T.z_sum ug (fz (jR og (cv 1) lM (kB fF)) fD)) (gK wx fF fF)) fD)))))
    (fG (pS (i:=5) gI.nd (pF T.d29 gD29 hr.m (fz (cv 2) (fz (fV fY (cv 0) (gK zp (gg gy rfl T.z_len jf (fz (cv 3) fD)) fF)) (fz (fV fY (fV fY (cv 3) (xB rE fF)) fF) fD)))))))
   (fA (iZ PassesOwn.never rfl (jh (jR og (cv 1) (kB (cv 4)) (kB (gK oM (cv 4) fF)))) (pN (i:=6) gI.nd)
    (fA (pS (i:=7) gI.nd (pF T.d28 gD28 hr.m (fz (cv 2) (fz (gK jY (gK kE (cv 6) fF) (gK wx fF fF)) fD))))
    (fA (pS (i:=8) gI.nd (fV fY (gA (fz fQ (fz fQ fD))) (gK jY (cv 6) fF)))
    (fG (gL (gz kF (gK jY (gK kE (cv 6) fF) fF) fF)
     (fG (pS (i:=5) gI.nd (pF T.d32 gD32 hr.m (fz (cv 2) (fz (cv 8) (fz (cv 5) (fz (cv 7) fD)))))))
     (fG (pS (i:=5) gI.nd (pF T.d32 gD32 hr.m (fz (cv 2) (fz (cv 8) (fz (cv 7) (fz (cv 5) fD))))))))))))
   (fG (gh (iP (jl eG eI eJ gr (PE.mono (cv 3)) (fz (PE.mono (cv 5)) fD))))))))
  (fA (gL (gz kF (gK jY (gK kE (gg (lP rfl) rfl T.z_sum ug (fz (jR og (cv 1) lM (kB fF)) fD)) fF) fF) fF)
   (fG (gh (iP (jl eG eI eJ gr (PE.mono (cv 3)) (fz (PE.mono (pF T.d40 gD40 hr.m (fz (cv 2) (fz (cv 0) (fz (cv 3) (fz (gK jY (gg (lP rfl) rfl T.z_sum ug (fz (jR og (cv 1) lM (kB fF)) fD)) (gK wx fF fF)) fD)))))) fD)))))
   gm)
  (fG (f7 (cv 3))))))),?_⟩
 have sl:=sizeLine_eq
 refine⟨n6,fun fr hfr=>?_⟩
 have S1:=fE hfr (.lst [])
 have ef:(upd H fr (.lst [])) fr=some (.lst []):=fC
 dsimp only[gJ]
 generalize upd H fr (.lst [])=H1 at S1 ef⊢
 refine⟨n6,fun il hil=>?_⟩
 have S2:=fE hil (.lst [])
 have ei:(upd H1 il (.lst [])) il=some (.lst []):=fC
 have nif:il≠fr:=(fJ ef hil).symm
 have hil0:=S1.free hil
 have S02:=S1.trans S2
 replace ef:=S2 _ _ ef
 dsimp only[gJ]
 generalize upd H1 il (.lst [])=H2 at S02 ef ei⊢
 clear S1 S2 hil
 have mH:∀{H':Hp} {b:Addr} {u:HO},fW H H'->H b=some u->mask H' [fr,il] b=some u:=fun S e=>ie (fun z=>by
  rcases ak.mp z with z|z
  ·rw[z,hfr]at e;cases e
  ·rw[bf.mp z,hil0]at e;cases e) (S _ _ e)
 obtain⟨N,eN,N1,N2⟩:∃N:Int,(if(if(67:Int)<((ns.map V.int).length:Int)then 67 else((ns.map V.int).length:Int))>2 then(if(67:Int)<((ns.map V.int).length:Int)then 67 else((ns.map V.int).length:Int))else 2)=N/\2<=N/\N<=63:=⟨_,rfl,by rw[aC];split<;>lia,by rw[aC];split<;>(try split)<;>lia⟩
 obtain⟨r1,r2⟩:=E5 N1 N2
 refine⟨sc,_,rfl,.inl (S02.seq hs),_,_,rfl,_,_,rfl,1,N,6,by rw[<-eN],⟨by decide,by decide,by lia,by lia,by decide,by decide⟩,?_⟩
 refine AV (fun i σ H3=>∃o4 o5 o6 o7 o8 xs ts n,σ=[some (.ref wl),some (.ref sc),some (.ref fr),some (.ref il),o4,o5,o6,o7,o8]/\fW H H3/\Fh H3 fr n/\H3 il=some (.lst xs)/\rX (mask H3 [fr,il]) xs ts/\Df ws ts n/\(∀t∈ts,∃m p,t.val= .num m p)/\ts.length=i/\n<=13*i/\(msX ts).length<=13*i) ⟨none,none,none,none,none,[],[],0,rfl,S02,ef,ei,.nil,⟨trivial,b6,(fun m hm=>nomatch hm),(fun t ht=>nomatch ht)⟩,(fun t ht=>nomatch ht),rfl,cz _,cz _⟩ ?_ ?_
 ·rintro i σ H3 hi ⟨o4,o5,o6,o7,o8,xs,ts,n,rfl,S3,f3,e3,x3,d3,v3,lt,ln,lm⟩
  have lx:=x3.len
  have dom:∀{H':Hp} {k:Nat},Fh H' fr k->Fr [fr] H3 H'->∀b∈[fr,il],∃o,H' b=some o:=fun f F b hb=>by
   rcases ak.mp hb with rfl|hb
   ·exact⟨_,f⟩
   ·rw[bf.mp hb];exact⟨_,F _ _ e3 (fun z=>nif (bf.mp z))⟩
  dsimp only[gJ]
  refine Af (fun σ' H'=>∃x,σ'=[some (.ref wl),some (.ref sc),some (.ref fr),some (.ref il),some (.int (1+(i:Int)*6)),some x,o6,o7,o8]/\ItH H3 H' fr il xs ws (ts.map Xt.val) n 0 x) ?_ ?_
  ·intro nx hnx
   refine⟨il,_,rfl,.inl (SqL.of e3),?_⟩
   show(if(false ^^ decide ((xs.length:Int)=0))=true then _ else _)
   rw[eT]
   by_cases z:(xs.length:Int)=0
   ·rw[gR z]
    obtain⟨ks0,ek0,_⟩:=nZ ns none (some 1)
    refine jm ⟨_,rfl,sc,_,rfl,S3.seq hs,fun c1 hc1=>⟨c1,ks0,rfl,SqL.of (by rw[fC,ek0]),fun n0=>⟨⟨by decide,by decide,by decide⟩,p60,?_⟩⟩⟩
    have S4:=fE hc1 (.lst (pk (ns.map V.int) none (some 1)))
    refine⟨[fr,il],fr,n,_,rfl,fun b hb=>let⟨u,e⟩:=dom f3 (fun _ _ e _=>e) b hb;⟨u,S4 _ _ e⟩,ah,S4 _ _ f3,by lia,Ah n0,fun x H5 F5 f5 X5=>hnx _ _ ⟨x,rfl,_,(Fr.same S4).trans F5,f5,X5,?_⟩⟩
    exact⟨Ah n0,⟨_,_,rfl⟩,aE.mpr ⟨(fun z=>nomatch z),b6⟩,fun m hm=>by rw[bf.mp hm];lia,by rw[tI];lia,rfl⟩
   ·rw[ig z]
    obtain⟨us,u,hu⟩:∃us u,ts=us++[u]:=⟨_,_,(bG (fun e=>z (by rw[lx,e];rfl))).symm⟩
    have hk:ts[us.length]?=some u:=by rw[hu,aJ (cz _),cM];rfl
    have hul:us.length+ 1=ts.length:=by rw[hu,aO];rfl
    obtain⟨wk,hwk⟩:∃w,ws[us.length]?=some w:=⟨_,bz (by have:=hw.l;lia)⟩
    obtain⟨xu,hxu,hX⟩:=x3.at hk
    obtain⟨ys,y,hys⟩:∃ys y,xs=ys++[y]:=⟨_,_,(bG (fun e=>z (by rw[e];rfl))).symm⟩
    have hy:y=xu:=by
     have l2:ys.length=us.length:=by
      have:xs.length=ys.length+ 1:=by rw[hys,aO];rfl
      lia
     rw[hys,aJ (by lia),l2,cM]at hxu
     cases hxu
     rfl
    subst hy
    obtain⟨ai,vi,B,rfl,eai,ivi,_⟩:=hX
    refine iO ⟨il,_,rfl,.inl (SqL.of e3),_,S3 _ _ hw.e,fN (v:=V.str wk) (show atI (ws.map V.str) ((xs.length:Int)-1)=some (.str wk) by rw[show((xs.length:Int)-1)=((us.length:Nat):Int) by lia];exact fH (by rw[aM,hwk];rfl)) ⟨_,rfl,_,e3,fN (v:=V.ref ai) (by rw[hys];exact vP ys _) ⟨_,gU _ _ eai,fN (fH (j:=1) rfl) ?_⟩⟩⟩
    refine⟨[fr,il],fr,n,us.length,wk,vi,u.val,rfl,dom f3 (fun _ _ e _=>e),ah,f3,by lia,ivi,fun x H5 F5 f5 X5=>hnx _ _ ⟨x,rfl,_,F5,f5,X5,?_⟩⟩
    exact⟨⟨hwk,by rw[aM,hk];rfl⟩,v3 u (aN hk),aE.mpr ⟨(fun z=>nomatch z),b6⟩,fun m hm=>by rw[bf.mp hm];lia,by rw[tK];lia,rfl⟩
  rintro σ' H4 ⟨x,rfl,I4⟩
  obtain⟨ks,ek,lk⟩:=Dl ns i
  have S4:fW H H4:=fun b u e=>by obtain⟨_,F,_⟩:=I4;exact F _ _ (S3 _ _ e) (fun z=>by rw[bf.mp z,hfr]at e;cases e)
  refine⟨_,rfl,_,rfl,sc,_,rfl,S4.seq hs,fun cl hcl=>⟨cl,rfl,⟨_,SqL.of fC⟩,?_⟩⟩
  have ec:(upd H4 cl (.lst (pk (ns.map V.int) (some (1+(i:Int)*6)) (some (1+(i:Int)*6+ 6))))) cl=some (.lst (ks.map V.int)):=by rw[fC,ek]
  have S5:=fE hcl (.lst (pk (ns.map V.int) (some (1+(i:Int)*6)) (some (1+(i:Int)*6+ 6))))
  have ncf:cl≠fr:=by obtain⟨_,_,f,_⟩:=I4;exact(fJ f hcl).symm
  rw[ek]at S5⊢
  refine jo (xs:=ks.map V.int) (fun j σ H5=>∃o6 o7 o8 x,σ=[some (.ref wl),some (.ref sc),some (.ref fr),some (.ref il),some (.int (1+(i:Int)*6)),some x,o6,o7,o8]/\ItH H3 H5 fr il xs ws (ts.map Xt.val) n j x/\H5 cl=some (.lst (ks.map V.int))) ⟨_,_,_,x,rfl,by obtain⟨t,F,f,X,h⟩:=I4;exact⟨t,F.trans (Fr.same S5),S5 _ _ f,X.same (gH S5),h⟩,fC⟩ (fun j σ H5 _ ⟨_,_,_,_,_,_,e⟩=>SqL.of e) ?_ ?_
  ·rintro j v σ H5 hv ⟨o6,o7,o8,x,rfl,⟨t,F5,f5,X5,h5⟩,ec5⟩
   rw[aM]at hv
   obtain⟨c,hc,rfl⟩:=da.mp hv
   have hj:=(au.mp hc).1
   refine⟨⟨by decide,by decide⟩,⟨by decide,by decide,by decide⟩,p60,?_⟩
   refine⟨[fr,il],fr,n+ 1+ 2*j,_,rfl,dom f5 F5,ah,f5,by lia,Ah _,fun xo H6 F6 f6 X6=>?_⟩
   dsimp only[gJ]
   have F36:=F5.trans F6
   have K6:=(F6.le (N:=[fr,il]) (fun b hb=>by rw[bf.mp hb];exact ah)).mask
   refine⟨my,fun ly hly=>⟨(by show(0:Int)<2;decide),?_⟩⟩
   have S7:=fE hly (.lst [.str "add",.str "sub"])
   obtain⟨o,hat,ho⟩:∃o:Str,atI [V.str "add",V.str "sub"] (c%2)=some (.str o)/\(o="add"\/o="sub"):=by
    have:=fc c (show(2:Int)≠0 by decide)
    have:=fe c (show(0:Int)<2 by decide)
    obtain e|e:c%2=0\/c%2=1:=by lia
    ·rw[e];exact⟨_,rfl,.inl rfl⟩
    ·rw[e];exact⟨_,rfl,.inr rfl⟩
   refine⟨_,fC,fN hat ?_⟩
   dsimp only[gJ]
   replace F36:=F36.trans (Fr.same S7)
   replace X5:=X5.same (fun b u e=>gH S7 _ _ (K6 _ _ e))
   replace X6:=X6.same (gH S7)
   replace f6:=S7 _ _ f6
   have ec7:=S7 _ _ (F6 _ _ ec5 (fun z=>ncf (bf.mp z)))
   generalize upd H6 ly (.lst [.str "add",.str "sub"])=H7 at F36 X5 X6 f6 ec7⊢
   obtain⟨na,pa,va⟩:=h5.nv
   obtain⟨g1,g2⟩:=h5.op ho (Ah (c/4)) rfl
   have lt5:=h5.l
   have tl5:=Dm hw.n h5.ok (by lia)
   have tl6:=Dm (vs:=ts.map Xt.val) (t:= .num ((n+ 1+ 2*j+ 1:Nat):Int) (c/4%10^(60:Int).toNat)) hw.n (Ah _) (by show 1<=1000;decide)
   refine⟨⟨by decide,by decide⟩,(by show(0:Int)<2;decide),?_⟩
   dsimp only[tC,cEq,onB]
   rw[eT]
   cases decide (c/2%2=0)with
   |true=>
    refine jm ⟨[fr,il],fr,n+ 1+ 2*j+ 1,o,x,xo,t,_,na,pa,_,_,rfl,dom f6 F36,ah,f6,by lia,ho,X5,X6,va,rfl,by show _+ 1<=1000;lia,⟨tl5,tl6⟩,fun x8 H8 F8 f8 X8=>?_⟩
    exact⟨_,_,_,x8,rfl,⟨_,F36.trans F8,f8,X8,g1⟩,F8 _ _ ec7 (fun z=>ncf (bf.mp z))⟩
   |false=>
    refine iO ⟨[fr,il],fr,n+ 1+ 2*j+ 1,o,xo,x,_,t,_,_,na,pa,rfl,dom f6 F36,ah,f6,by lia,ho,X6,X5,rfl,va,by show 1+_<=1000;lia,⟨tl6,tl5⟩,fun x8 H8 F8 f8 X8=>?_⟩
    exact⟨_,_,_,x8,rfl,⟨_,F36.trans F8,f8,X8,g2⟩,F8 _ _ ec7 (fun z=>ncf (bf.mp z))⟩
  ·rintro σ H5 ⟨o6,o7,o8,x,rfl,⟨t,F5,f5,X5,h5⟩,_⟩
   rw[aC]at f5 h5
   have e5:=F5 _ _ e3 (fun z=>nif (bf.mp z))
   refine⟨⟨_,e5⟩,xs,e5,by lia,?_⟩
   have Fi:Fr [fr,il] H5 (upd H5 il (.lst (xs++[x]))):=kP.le (fun b hb=>aj _ hb)
   have Ff:Fr [fr,il] H3 H5:=F5.le (fun b hb=>by rw[bf.mp hb];exact ah)
   have S5':fW H H5:=fun b u e=>F5 _ _ (S3 _ _ e) (fun z=>by rw[bf.mp z,hfr]at e;cases e)
   have hl5:=h5.l
   have ns5:=h5.ns
   exact⟨_,_,_,_,_,xs++[x],ts++[t],n+ 1+ 2*ks.length,rfl,gB S5' hil0 _,by rw[Fh,fO nif.symm];exact f5,fC,(x3.same (Ff.trans Fi).mask).snoc (X5.same Fi.mask),d3.snoc h5.ok h5.nd h5.rg (by lia) (by lia),fun u hu=>(ao.mp hu).elim (v3 u) (fun hu=>by rw[bf.mp hu];exact h5.nv),by rw[aO,lt];rfl,by lia,by rw[xn];lia⟩
 ·rintro σ H3 ⟨o4,o5,o6,o7,o8,xs,ts,n,rfl,S3,f3,e3,x3,d3,v3,lt,ln,lm⟩
  obtain⟨ks0,ek0,_⟩:=nZ ns none (some 1)
  obtain⟨ks1,ek1,_⟩:=nZ ns none (some 2)
  have lx:=x3.len
  refine⟨_,rfl,sc,_,rfl,S3.seq hs,fun c1 hc1=>⟨c1,ks0,rfl,SqL.of (by rw[fC,ek0]),fun n0=>⟨⟨by decide,by decide⟩,(by show(0:Int)<2;decide),?_⟩⟩⟩
  have S4:=fE hc1 (.lst (pk (ns.map V.int) none (some 1)))
  replace e3:=S4 _ _ e3
  replace f3:=S4 _ _ f3
  replace x3:=x3.same (gH S4)
  replace S3:=S3.trans S4
  dsimp only[tC,cEq,onB]
  generalize upd H3 c1 (.lst (pk (ns.map V.int) none (some 1)))=H4 at e3 f3 x3 S3⊢
  clear S4 hc1
  rw[eT]
  cases decide (n0/7%2=1)with
  |false=>exact iO (q il xs ts H4 S3 hil0 e3 (x3.same gU) ⟨d3.ok,d3.nd,d3.ns,by lia,by lia,by lia⟩)
  |true=>
   refine jm ⟨⟨_,e3⟩,_,rfl,sc,_,rfl,S3.seq hs,fun c2 hc2=>⟨c2,ks1,rfl,SqL.of (by rw[fC,ek1]),fun n1=>⟨⟨by decide,by decide,by decide⟩,(by show(0:Int)<10^(9:Int).toNat;decide+kernel),?_⟩⟩⟩
   have S5:=fE hc2 (.lst (pk (ns.map V.int) none (some 2)))
   replace e3:=S5 _ _ e3
   replace f3:=S5 _ _ f3
   replace x3:=x3.same (gH S5)
   replace S3:=S3.trans S5
   dsimp only
   generalize upd H4 c2 (.lst (pk (ns.map V.int) none (some 2)))=H5 at e3 f3 x3 S3⊢
   clear S5 hc2
   refine⟨[fr,il],fr,wl,il,n,_,ws,xs,ts,rfl,fun b hb=>?_,ah,f3,by lia,mH S3 hw.e,e3,nif,x3,v3,by lia,by have:=hw.l;lia,fun w hw'=>(pI (hw.n w hw')).2,fun i j wi wj ti tj x H' hwi hwj hti htj F' f' X'=>?_⟩
   ·rcases ak.mp hb with rfl|hb
    ·exact⟨_,f3⟩
    ·rw[bf.mp hb];exact⟨_,e3⟩
   have e':=F' _ _ e3 (fun z=>nif (bf.mp z))
   have S':fW H H':=fun b u e=>F' _ _ (S3 _ _ e) (fun z=>by rw[bf.mp z,hfr]at e;cases e)
   refine⟨xs,e',by lia,?_⟩
   have Fi:Fr [fr,il] H' (upd H' il (.lst (xs++[x]))):=kP.le (fun b hb=>aj _ hb)
   have Ff:Fr [fr,il] H5 H':=F'.le (fun b hb=>by rw[bf.mp hb];exact ah)
   refine q il _ (ts++[_]) _ (gB S' hil0 _) hil0 fC (((x3.same (Ff.trans Fi).mask).snoc (X'.same Fi.mask)).same gU) ?_
   have gi:(ts.map Xt.val)[i]?=some ti.val:=by rw[aM,hti];rfl
   have gj:(ts.map Xt.val)[j]?=some tj.val:=by rw[aM,htj];rfl
   have d:=d3.snoc (t:= .op ((n+ 1:Nat):Int) "less" (.nam ((n+ 2:Nat):Int) wi i ti.val) (.nam ((n+ 3:Nat):Int) wj j tj.val)) (n':=n+ 3) ⟨.inr (.inr rfl),⟨hwi,gi⟩,⟨hwj,gj⟩,v3 ti (aN hti),v3 tj (aN htj)⟩ (by
     show[((n+ 1:Nat):Int),((n+ 2:Nat):Int),((n+ 3:Nat):Int)].Nodup
     simp only[aE,ak,bB,or_false,not_or,not_false_eq_true,and_true,b6]
     lia) (fun m hm=>by
     have hm:m∈[((n+ 1:Nat):Int),((n+ 2:Nat):Int),((n+ 3:Nat):Int)]:=hm
     simp only[ak,bB,or_false]at hm
     lia) (by lia) (by rw[vW,tK,tK];decide)
   have l3:(Xt.op ((n+ 1:Nat):Int) "less" (.nam ((n+ 2:Nat):Int) wi i ti.val) (.nam ((n+ 3:Nat):Int) wj j tj.val)).ms.length=3:=rfl
   exact⟨d.ok,d.nd,d.ns,by rw[aO,ba];lia,by rw[aO,ba];lia,by rw[xn,l3];lia⟩
def ixM:List Int->Int->Int
 |[],_=>0
 |a::l,m=>if a=m then 0 else ixM l m+ 1
theorem Ai:∀{l:List Int},l.Nodup->∀(j:Nat) (m:Int),l[j]?=some m->ixM l m=(j:Int)
 |[],_,j,m,h=>by cases h
 |a::l,nd,0,m,h=>by cases h;exact gx rfl
 |a::l,nd,j+ 1,m,h=>by
  have nd:=aE.mp nd
  rw[ixM,fZ (fun z=>nd.1 (by rw[z];exact aN (show l[j]?=some m from h))),Ai nd.2 j m h]
  lia
theorem Xt.ins {ws:List Str} {vs:List Vl} {M:List Int} (hv:∀v∈vs,v.p∈M):∀t:Xt,t.ok ws vs->(∀m∈t.ms,m∈M)->t.val.p∈M/\(∀p∈t.ha,p.1∈M/\p.2∈M)/\∀q∈t.me,q.1∈M/\q.2.1∈M
 | .num m _,_,h=>by
  have h:=h m ah
  exact⟨h,fun p hp=>by rw[bf.mp hp];exact⟨h,h⟩,fun q hq=>nomatch hq⟩
 | .nam m _ k v,ok,h=>by
  have h:=h m ah
  have h2:=hv v (aN ok.2)
  exact⟨h2,fun p hp=>by rw[bf.mp hp];exact⟨h,h2⟩,fun q hq=>nomatch hq⟩
 | .op m o a b,ok,h=>by
  have h0:=h m ah
  obtain⟨a1,a2,a3⟩:=ins hv a ok.2.1 fun x hx=>h x (aj _ (aq _ hx))
  obtain⟨b1,b2,b3⟩:=ins hv b ok.2.2.1 fun x hx=>h x (aj _ (ay _ hx))
  refine⟨by rw[val,CY];exact h0,fun p hp=>?_,fun q hq=>?_⟩
  ·rw[ha]at hp
   rcases ao.mp hp with hp|hp
   ·exact(ao.mp hp).elim (a2 p) (b2 p)
   ·rw[bf.mp hp];exact⟨h0,h0⟩
  ·rw[me]at hq
   rcases ao.mp hq with hq|hq
   ·exact(ao.mp hq).elim (a3 q) (b3 q)
   ·rcases ak.mp hq with rfl|hq
    ·exact⟨a1,h0⟩
    ·rw[bf.mp hq];exact⟨b1,h0⟩
theorem G2 {ws:List Str} {M:List Int}:∀{ts:List Xt} {vs:List Vl},(∀v∈vs,v.p∈M)->okX ws vs ts->(∀m∈msX ts,m∈M)->∀t∈ts,t.val.p∈M/\(∀p∈t.ha,p.1∈M/\p.2∈M)/\∀q∈t.me,q.1∈M/\q.2.1∈M
 |[],vs,_,_,_,t,h=>by cases h
 |u::ts,vs,hv,ok,hm,t,h=>by
  have g:=u.ins hv ok.1 fun m h=>hm m (aq _ h)
  rcases ak.mp h with rfl|h
  ·exact g
  ·exact G2 (vs:=vs++[u.val]) (fun v h=>(ao.mp h).elim (hv v) (fun h=>by rw[bf.mp h];exact g.1)) ok.2 (fun m h=>hm m (ay _ h)) t h
structure Pc (kvs:List (Key×V)) (L:List Int):Prop where
 l:kvs.length=L.length
 y:∀(j:Nat) (m:Int),L[j]?=some m->je kvs (.inl m)=some (.int (j:Int))
 n:∀m,m∉L->je kvs (.inl m)=none
theorem Pc.put {kvs:List (Key×V)} {L:List Int} {m:Int} (h:Pc kvs L) (nm:m∉L):Pc (mK kvs (.inl m) (.int (kvs.length:Int))) (L++[m]):=by
 refine⟨by rw[wc _ (h.n m nm),aO,aO,h.l];rfl,fun j x e=>?_,fun x hx=>?_⟩
 ·rw[hJ]
  by_cases z:j<L.length
  ·rw[aK z]at e
   rw[fZ (fun q=>nm (by rw[<-Sum.inl.inj q];exact aN e))]
   exact h.y j x e
  ·rw[aJ (by lia)]at e
   have hj:j-L.length=0:=by
    have:=(au.mp e).1
    rw[ba]at this
    lia
   rw[hj]at e
   cases e
   rw[gx rfl,h.l,show L.length=j by lia]
 ·rw[hJ,fZ (fun q=>hx (by rw[Sum.inl.inj q];exact ay _ (cm _)))]
  exact h.n x fun z=>hx (aq _ z)
theorem Pc.at {kvs:List (Key×V)} {L:List Int} {m:Int} (h:Pc kvs L) (nd:L.Nodup) (hm:m∈L):je kvs (.inl m)=some (.int (ixM L m)):=by
 obtain⟨j,hj⟩:=cb hm
 rw[h.y j m hj,Ai nd j m hj]
theorem xq {ts:List Xt} {t:Xt} {i:Nat} (h:ts[i]?=some t):msX (ts.take (i+ 1))=msX (ts.take i)++t.ms/\haX (ts.take (i+ 1))=haX (ts.take i)++t.ha/\meX (ts.take (i+ 1))=meX (ts.take i)++t.me:=by
 rw[bY,h]
 exact⟨by rw[lC];exact congrArg _ (aD _),by rw[sZ];exact congrArg _ (aD _),by rw[tq];exact congrArg _ (aD _)⟩
theorem Aj {K:PySem.W.Frag} {a:Addr} {te:TE} {Q:VK} {τ:St} {H1:Hp} {D:Addr} {xs:List V} {α:Type} {f g:α->Dt} {l:List α} (e:H1 a=some (.lst xs)) (I:Ims H1 xs (l.map f)) (hn:l.length<=1000) (hD:H1 D=none) (hτ:τ.set 0 none=τ)
  (ht:∀x∈l,∀(v:V) H (R:VK),fW H1 H->Im H v (f x)->(∀y H',fW H H'->Im H' y (g x)->R y H')->te (τ.set 0 (some v)) H R)
  (hq:∀H' zs,fW H1 H'->H' D=some (.lst zs)->Ims H' zs (l.map g)->Q (.ref D) H'):LcP (Itl K a) 0 p6 te Q τ H1 D:=by
 have sl:=sizeLine_eq
 have lx:=I.length
 rw[aC]at lx
 refine zj l.length (by lia) (fun ys H=>Ims H ys ((l.take ys.length).map g)) (fun xs H H' h k=>h.mono k) hD hτ (fun k H S h=>BF e S (by lia)) (fun H S=>by rw[<-lx];exact BG e S) .nil ?_ ?_
 ·intro k H v H3 ys Z S hk y hys hl hz
  obtain⟨rfl,hv⟩:=y
  have hv:=hv _ (SqL.of (S _ _ e))
  obtain⟨d,hd,him⟩:=kz I hv
  obtain⟨x,hx⟩:∃x,l[k]?=some x:=⟨_,bz hk⟩
  rw[aM,hx]at hd
  cases hd
  refine ht x (aN hx) v H3 Z S (him.mono (fW.tk S)) fun y H' S' iy=>hz _ _ S' ?_
  rw[aO,hl,ba,bY,hx,bh,<-hl]
  exact(hys.mono (fW.tk S')).app (.cons iy .nil)
 ·intro H' ys S hys hl e'
  rw[hl,br]at hys
  exact hq H' ys S e' hys
theorem im3 {H:Hp} {x:V} {a b c:Int} (h:Im H x (.tup [kD a,kD b,kD c])):∃t,x= .ref t/\H t=some (.tup [.int a,.int b,.int c]):=by
 cases h with
 |tup e i=>
  cases i with
  |cons h1 i=>
   cases i with
   |cons h2 i=>
    cases i with
    |cons h3 i=>cases i;cases h1;cases h2;cases h3;exact⟨_,rfl,e⟩
inductive PlA (H:Hp) (a:Addr) (ts:List Xt):Prop
 |mk (dp hl ml:Addr) (kvs:List (Key×V)) (ys zs:List V) (e:H a=some (.lst [.ref dp,.ref hl,.ref ml])) (ed:H dp=some (.dK kvs)) (p:Pc kvs (msX ts)) (eh:H hl=some (.lst ys)) (ih:Ims H ys ((haX ts).map fun t=>haD (p2 (ixM (msX ts)) t))) (em:H ml=some (.lst zs)) (im:Ims H zs ((meX ts).map fun t=>meD (p3 (ixM (msX ts)) t)))
inductive XPl (vs:List V) (H:Hp) (Q:VK):Prop
 |mk (il:Addr) (ws:List Str) (xs:List V) (ts:List Xt) (e:vs=[.ref il]) (ei:H il=some (.lst xs)) (hx:rX H xs ts) (F:Fin ws ts) (q:∀a H',fW H H'->PlA H' a ts->Q (.ref a) H')
def rh:Sp:=fun vs H Q _=>XPl vs H Q
theorem rj (T:Txt K mg):FO P w base 1 T.d33 rh:=by
 refine T.d33.F.rd gO fun cdv A outer s H vs Q E hr h=>?_
 have hu:=ue hr
 obtain⟨il,ws,xs,ts,rfl,ei,hx,F,q⟩:=h
 refine⟨_,(fA (pS (i:=1) gO.nd nK)
  (fA (iZ PassesOwn.never rfl (jh (cv 0)) (pN (i:=2) gO.nd)
   (fG (iZ PassesOwn.never rfl (jh (fV fY (cv 2) fF)) (pN (i:=3) gO.nd)
    (fG (lK hu (cv 1) (cv 3) (gg uf rfl T.z_len jf (fz (cv 1) fD)) rfl)))))
  (fA (pS (i:=4) gO.nd (gA fD))
  (fA (pS (i:=5) gO.nd (gA fD))
  (fA (iZ PassesOwn.never rfl (jh (cv 0)) (pN (i:=2) gO.nd)
   (fA (pS (i:=4) gO.nd (gK uc (cv 4) (uh rfl (Gz (x:="_law_pair") ["_law_places"] [("_law_places",1,s.heap.objs.size+ 1)]) (jh (fV fY (cv 2) fF)) (fun _ _ _ _ _=>mL) (fun _ _ _ _ _=>(gC (fz (lJ hu (cv 1) (fV fX (cv 0) fF)) (fz (lJ hu (cv 1) (fV fX (cv 0) fF)) fD)))))))
   (fG (pS (i:=5) gO.nd (gK uc (cv 5) (uh rfl (Gz (x:="_law_one") ["_law_places"] [("_law_places",1,s.heap.objs.size+ 1)]) (jh (fV fY (cv 2) fF)) (fun _ _ _ _ _=>mL) (fun _ _ _ _ _=>(gC (fz (lJ hu (cv 1) (fV fX (cv 0) fF)) (fz (lJ hu (cv 1) (fV fX (cv 0) fF)) (fz (fV fX (cv 0) fF) fD)))))))))))
  (fG (f7 (gA (fz (cv 1) (fz (cv 4) (fz (cv 5) fD))))))))))),?_⟩
 have sl:=sizeLine_eq
 have lz:=F.l
 have lx:=hx.len
 have l12:=F.l12
 intro dp hdp
 have S1:=fE hdp (.dK [])
 have ed:(upd H dp (.dK [])) dp=some (.dK []):=fC
 dsimp only[gJ]
 generalize upd H dp (.dK [])=H1 at S1 ed⊢
 have P0:Pc [] []:=⟨rfl,(fun j m e=>nomatch e),fun m _=>rfl⟩
 refine⟨il,rfl,⟨_,SqL.of (S1 _ _ ei)⟩,jo (xs:=xs) (fun i σ H3=>∃o2 o3 kvs,σ=[some (.ref il),some (.ref dp),o2,o3,none,none]/\fW H H3/\H3 dp=some (.dK kvs)/\Pc kvs (msX (ts.take i))) ⟨_,_,[],rfl,S1,ed,P0⟩ (fun i σ H3 _ ⟨_,_,_,_,S,_⟩=>SqL.of (S _ _ ei)) ?_ ?_⟩
 ·rintro i x σ H3 hxi ⟨o2,o3,kvs,rfl,S3,e3,p3'⟩
  have hil:=(au.mp hxi).1
  obtain⟨t,ht⟩:∃t,ts[i]?=some t:=⟨_,bz (by lia)⟩
  obtain⟨x',hx',hX⟩:=hx.at ht
  rw[hxi]at hx'
  cases hx'
  obtain⟨a,v,A,rfl,ea,_,hp⟩:=hX
  obtain⟨us,eu,iu⟩:=hp 2 (by decide) (by decide)
  cases xh iu
  obtain⟨tk,_,_⟩:=xq ht
  have nd:(msX (ts.take i)++t.ms).Nodup:=by
   rw[<-tk]
   have nd:=F.nd
   rw[<-bW (i+ 1) ts,lC]at nd
   exact(bX.mp nd).1
  have tl:(msX (ts.take i)).length+t.ms.length<=160:=by
   rw[<-aO,<-tk]
   have e:=congrArg aH (lC (ts.take (i+ 1)) (ts.drop (i+ 1)))
   rw[bW,aO]at e
   lia
  refine⟨_,S3 _ _ ea,fN (fH (j:=2) rfl) ⟨_,rfl,⟨_,SqL.of (S3 _ _ eu)⟩,jo (xs:=t.ms.map V.int) (fun j σ H4=>∃o3 kvs,σ=[some (.ref il),some (.ref dp),some (.ref a),o3,none,none]/\fW H H4/\H4 dp=some (.dK kvs)/\Pc kvs (msX (ts.take i)++t.ms.take j)) ⟨_,kvs,rfl,S3,e3,by rw[List.take_zero,aD];exact p3'⟩ (fun j σ H4 _ ⟨_,_,_,S,_⟩=>SqL.of (S _ _ eu)) ?_ ?_⟩⟩
  ·rintro j v σ H4 hv ⟨o3,kvs,rfl,S4,e4,p4⟩
   rw[aM]at hv
   obtain⟨m,hm,rfl⟩:=da.mp hv
   have nm:m∉msX (ts.take i)++t.ms.take j:=fun z=>by
    have e:msX (ts.take i)++t.ms=(msX (ts.take i)++t.ms.take j)++t.ms.drop j:=by rw[bJ,bW]
    rw[e,bX]at nd
    refine nd.2.2 m z m ?_ rfl
    obtain⟨z1,z2⟩:=au.mp hm
    rw[bK z1,z2]
    exact ah
   have kl:=p4.l
   rw[aO,aI]at kl
   refine⟨dp,_,rfl,e4,dp,_,rfl,xH.k (k:=Sum.inl m) e4 (by lia),?_⟩
   refine⟨_,_,rfl,gB S4 hdp _,fC,?_⟩
   rw[bY,hm,<-bJ]
   exact p4.put nm
  ·rintro σ H4 ⟨o3,kvs,rfl,S4,e4,p4⟩
   rw[aC,br,<-tk]at p4
   exact⟨_,_,kvs,rfl,S4,e4,p4⟩
 ·rintro σ H3 ⟨o2,o3,kvs,rfl,S3,e3,p3'⟩
  rw[lx,br]at p3'
  have dg:∀{H':Hp} {m:Int},H' dp=some (.dK kvs)->m∈msX ts->vh H' dp (.int m) (some (.int (ixM (msX ts) m))):=fun{H' m} e hm=>by
   have g:=vh.k (k:=(Sum.inl m:Key)) e
   rw[p3'.at F.nd hm]at g
   exact g
  have inn:=G2 (M:=msX ts) (vs:=[]) (fun v hv=>nomatch hv) F.ok (fun m h=>h)
  refine⟨n6,fun h0 hh0=>?_⟩
  have S4:=fE hh0 (.lst [])
  have eh0:(upd H3 h0 (.lst [])) h0=some (.lst []):=fC
  dsimp only[gJ]
  generalize upd H3 h0 (.lst [])=H4 at S4 eh0⊢
  refine⟨n6,fun m0 hm0=>?_⟩
  have S5:=fE hm0 (.lst [])
  have em0:(upd H4 m0 (.lst [])) m0=some (.lst []):=fC
  replace eh0:=S5 _ _ eh0
  replace S5:=S4.trans S5
  dsimp only[gJ]
  generalize upd H4 m0 (.lst [])=H5 at S5 eh0 em0⊢
  have S05:=S3.trans S5
  refine⟨il,rfl,⟨_,SqL.of (S05 _ _ ei)⟩,jo (xs:=xs) (fun i σ H6=>∃o2 o3 hl ml ys zs,σ=[some (.ref il),some (.ref dp),o2,o3,some (.ref hl),some (.ref ml)]/\fW H5 H6/\H6 hl=some (.lst ys)/\Ims H6 ys ((haX (ts.take i)).map fun t=>haD (p2 (ixM (msX ts)) t))/\H6 ml=some (.lst zs)/\Ims H6 zs ((meX (ts.take i)).map fun t=>meD (p3 (ixM (msX ts)) t))) ⟨_,_,h0,m0,[],[],rfl,fun _ _ e=>e,eh0,.nil,em0,.nil⟩ (fun i σ H6 _ ⟨_,_,_,_,_,_,_,S,_⟩=>SqL.of ((S05.trans S) _ _ ei)) ?_ ?_⟩
  ·rintro i x σ H6 hxi ⟨o2,o3,hl,ml,ys,zs,rfl,S6,eh,ih,em,im⟩
   have hil:=(au.mp hxi).1
   obtain⟨t,ht⟩:∃t,ts[i]?=some t:=⟨_,bz (by lia)⟩
   have S06:=S05.trans S6
   obtain⟨x',hx',hX⟩:=(hx.same S06).at ht
   rw[hxi]at hx'
   cases hx'
   obtain⟨a,v,A,rfl,ea,_,hp⟩:=hX
   obtain⟨_,i2,i3⟩:=inn t (aN ht)
   obtain⟨us,eu,iu⟩:=hp 3 (by decide) (by decide)
   obtain⟨vs',ev,iv⟩:=hp 4 (by decide) (by decide)
   obtain⟨_,tk2,tk3⟩:=xq ht
   obtain⟨lt1,lt2⟩:=t.lens
   obtain⟨lt3,lt4⟩:=Dj ts
   have ltk:=congrArg aH tk2
   have ltm:=congrArg aH tk3
   have e1:=congrArg aH (sZ (ts.take (i+ 1)) (ts.drop (i+ 1)))
   have e2:=congrArg aH (tq (ts.take (i+ 1)) (ts.drop (i+ 1)))
   rw[bW,aO]at e1 e2
   rw[aO]at ltk ltm
   have e6:=(S5.trans S6) _ _ e3
   have lh:=ih.length
   have lm':=im.length
   rw[aC]at lh lm'
   refine⟨_,ea,fN (fH (j:=3) rfl) ⟨_,rfl,⟨_,SqL.of eu⟩,fun D hD=>?_⟩⟩
   refine Aj (f:=haD) (g:=fun t=>haD (p2 (ixM (msX ts)) t)) (l:=t.ha) eu iu (by lia) hD rfl (fun p hp' v H7 R S7 im' hR=>?_) fun H7 ws' S7 eD iD=>?_
   ·obtain⟨tp,y1,y2,rfl,etp,j1,j2⟩:=vK im'
    cases j1
    cases j2
    exact⟨_,etp,fN (fH (j:=0) rfl) ⟨dp,_,rfl,dg (S7 _ _ e6) (i2 p hp').1,_,etp,fN (fH (j:=1) rfl) ⟨dp,_,rfl,dg (S7 _ _ e6) (i2 p hp').2,my,fun b hb=>hR _ _ (fE hb _) (nk hb (.cons (.flat rfl) (.cons (.flat rfl) .nil)))⟩⟩⟩
   have lw:=iD.length
   rw[aC]at lw
   refine⟨_,_,_,_,rfl,rfl,S7 _ _ eh,eD,by lia,fun h1 hh1=>?_⟩
   have S8:=fE hh1 (.lst (ys++ws'))
   have eh1:(upd H7 h1 (.lst (ys++ws'))) h1=some (.lst (ys++ws')):=fC
   have ih1:Ims (upd H7 h1 (.lst (ys++ws'))) (ys++ws') ((haX (ts.take (i+ 1))).map fun t=>haD (p2 (ixM (msX ts)) t)):=by
    rw[tk2,bh]
    exact(ih.mono (fW.tk (S7.trans S8))).app (iD.mono (fW.tk S8))
   have S68:=S7.trans S8
   dsimp only[gJ]
   generalize upd H7 h1 (.lst (ys++ws'))=H8 at S68 eh1 ih1⊢
   refine⟨_,S68 _ _ ea,fN (fH (j:=4) rfl) ⟨_,rfl,⟨_,SqL.of (S68 _ _ ev)⟩,fun D2 hD2=>?_⟩⟩
   refine Aj (f:=meD) (g:=fun t=>meD (p3 (ixM (msX ts)) t)) (l:=t.me) (S68 _ _ ev) (iv.mono (fW.tk S68)) (by lia) hD2 rfl (fun p hp' v H9 R S9 im' hR=>?_) fun H9 ws2 S9 eD2 iD2=>?_
   ·obtain⟨tp,rfl,etp⟩:=im3 im'
    exact⟨_,etp,fN (fH (j:=0) rfl) ⟨dp,_,rfl,dg ((S68.trans S9) _ _ e6) (i3 p hp').1,_,etp,fN (fH (j:=1) rfl) ⟨dp,_,rfl,dg ((S68.trans S9) _ _ e6) (i3 p hp').2,_,etp,fN (fH (j:=2) rfl) ⟨nA,fun b hb=>hR _ _ (fE hb _) (nk hb (.cons (.flat rfl) (.cons (.flat rfl) (.cons (.flat rfl) .nil))))⟩⟩⟩⟩
   have lw2:=iD2.length
   rw[aC]at lw2
   refine⟨_,_,_,_,rfl,rfl,(S68.trans S9) _ _ em,eD2,by lia,fun m1 hm1=>?_⟩
   have S10:=fE hm1 (.lst (zs++ws2))
   refine⟨_,_,h1,m1,ys++ws',zs++ws2,rfl,(S6.trans S68).trans (S9.trans S10),(S9.trans S10) _ _ eh1,ih1.mono (fW.tk (S9.trans S10)),fC,?_⟩
   rw[tk3,bh]
   exact(im.mono (fW.tk ((S68.trans S9).trans S10))).app (iD2.mono (fW.tk S10))
  ·rintro σ H6 ⟨o2,o3,hl,ml,ys,zs,rfl,S6,eh,ih,em,im⟩
   rw[lx,br]at ih im
   refine⟨nA,fun a ha=>?_⟩
   have S7:=fE ha (.lst [.ref dp,.ref hl,.ref ml])
   have k7:=fW.tk S7
   exact q a _ ((S05.trans S6).trans S7) ⟨dp,hl,ml,kvs,ys,zs,fC,((S5.trans S6).trans S7) _ _ e3,p3',S7 _ _ eh,ih.mono k7,S7 _ _ em,im.mono k7⟩
theorem BS:∀{ns:List Str} {ts:List Xt} {k:Nat} {w:Str} {t:Xt},ns[k]?=some w->ts[k]?=some t->(lnX ns ts)[k]?=some (lnS w t.tx)
 |n::ns,u::ts,0,w,t,h1,h2=>by cases h1;cases h2;rfl
 |n::ns,u::ts,k+ 1,w,t,h1,h2=>BS (ns:=ns) (ts:=ts) h1 h2
 |[],_,k,w,t,h1,_=>by cases h1
 |n::ns,[],k,w,t,_,h2=>by cases h2
theorem Ak:∀{ns:List Str} {ts:List Xt},ns.length=ts.length->(lnX ns ts).length=ts.length
 |[],[],_=>rfl
 |n::ns,t::ts,h=>congrArg (·+ 1) (Ak (ns:=ns) (ts:=ts) (by simpa using h))
theorem Dn {α:Type} {l:List α} {k:Nat} {x:α} (h:l[k]?=some x):l.take (k+ 1)=l.take k++[x]:=by rw[bY,h];rfl
theorem Am {ws:List Str}:∀{ts:List Xt} {vs:List Vl},okX ws vs ts->∀t∈ts,(∃vs',t.ok ws vs')/\t.ms.length<=(msX ts).length
 |[],vs,_,t,h=>by cases h
 |u::ts,vs,ok,t,h=>by
  rw[msX,aO]
  rcases ak.mp h with rfl|h
  ·exact⟨⟨_,ok.1⟩,cF _ _⟩
  ·obtain⟨a,b⟩:=Am ok.2 t h
   exact⟨a,by lia⟩
theorem Dp {w x:Str}:(lnS w x).length=w.length+x.length+ 7:=by
 unfold lnS
 rw[Str.length_append,Str.length_append,Str.length_append,Str.length_append,show("(def ":Str).length=5 by decide+kernel,show(" ":Str).length=1 by decide+kernel,show(")":Str).length=1 by decide+kernel]
 lia
theorem An:∀{ns:List Str} {ts:List Xt},(∀w∈ns,w.length<=12)->(∀t∈ts,t.tx.length<=100000)->∀l∈lnX ns ts,l.length<=100100
 |n::ns,t::ts,h1,h2,l,h=>by
  rcases ak.mp h with rfl|h
  ·have:=h1 n ah
   have:=h2 t ah
   rw[Dp]
   lia
  ·exact An (fun w hw=>h1 w (aj _ hw)) (fun w hw=>h2 w (aj _ hw)) l h
 |[],_,_,_,l,h=>by cases h
 |n::ns,[],_,_,l,h=>by cases h
inductive XTx (vs:List V) (H:Hp) (Q:VK):Prop
 |mk (wl il:Addr) (ws:List Str) (xs:List V) (ts:List Xt) (e:vs=[.ref wl,.ref il]) (hw:Wd H wl ws) (ei:H il=some (.lst xs)) (hx:rX H xs ts) (F:Fin ws ts) (q:∀H',fW H H'->Q (.str (Str.join "\n" (lnX (ws.take ts.length) ts))) H')
def uU:Sp:=fun vs H Q _=>XTx vs H Q
theorem uV (T:Txt K mg):FO P w base 1 T.d34 uU:=by
 refine T.d34.F.rd uG fun cdv A outer s H vs Q E hr h=>?_
 obtain⟨wl,il,ws,xs,ts,rfl,hw,ei,hx,F,q⟩:=h
 refine⟨_,(fG (f7 (jl eF eM eO zt fQ (fz (D7 (g:=FA K 2 (yw (gJ 0) (yw (gJ 1) Fy))) rfl (GA (x:="_law_k") (y:="_law_item") ["_law_words_here"] [("_law_words_here",0,s.heap.objs.size+ 1)]) (vq rfl T.z_enumerate (fz (cv 1) fD)) (pgP rfl gq rfl rfl) (fun _ _ _ _ _=>(gK kG (gK kG (gK kG (gK kG fQ (fV fY (cv 2) (cv 0))) fQ) (fV fY (cv 1) fF)) fQ))) fD)))),?_⟩
 have sl:=sizeLine_eq
 have lx:=hx.len
 have l16:=hw.l
 have l12:=F.l12
 have lnn:(ws.take ts.length).length=ts.length:=by rw[aI];lia
 have hl:=Ak (ns:=ws.take ts.length) (ts:=ts) lnn
 have txl:∀t∈ts,t.tx.length<=100000:=fun t ht=>by
  obtain⟨⟨_,o⟩,l⟩:=Am F.ok t ht
  have:=F.l
  exact Dm hw.n o (by lia)
 refine⟨rfl,il,rfl,⟨_,SqL.of ei⟩,fun D hD=>?_⟩
 refine⟨fun k m σ' H2=>m=ts.length-k/\k<=ts.length/\(∃u v,σ'=[u,v,some (.ref wl)])/\fW H H2/\H2 D=some (.lst (((lnX (ws.take ts.length) ts).take k).map V.str)),⟨ts.length,by simp,cA _,⟨none,none,rfl⟩,fE hD _,fC⟩,?_⟩
 rintro k m σ' H2 ⟨rfl,hk,⟨u,v,rfl⟩,S,eD⟩
 by_cases hlt:k<ts.length
 ·refine .inr ⟨⟨xs,xs[k]'(by lia),SqL.of (S _ _ ei),bz (by lia)⟩,?_⟩
  rintro v H3 ⟨tp,x,rfl,htp,rfl,hx'⟩
  have hx':=hx' xs (SqL.of (S _ _ ei))
  obtain⟨t,ht⟩:∃t,ts[k]?=some t:=⟨_,bz hlt⟩
  obtain⟨x2,hx2,hX⟩:=hx.at ht
  rw[hx']at hx2
  cases hx2
  obtain⟨wk,hwk⟩:∃w,ws[k]?=some w:=⟨_,bz (by lia)⟩
  obtain⟨a,v,A,rfl,ea,_,_⟩:=hX
  have S3:=fE htp (.tup [.int (k:Int),.ref a])
  have S03:=S.trans S3
  refine⟨tp,_,rfl,SqT.of fC,rfl,_,_,rfl,_,_,rfl,rfl,?_⟩
  have lw:=(pI (hw.n wk (aN hwk))).2
  have lt:=txl t (aN ht)
  refine⟨_,S03 _ _ hw.e,fN (v:=V.str wk) (fH (by rw[aM,hwk];rfl)) ⟨by rw[show("(def ":Str).length=5 by decide+kernel];lia,by rw[Str.length_append,show("(def ":Str).length=5 by decide+kernel,show(" ":Str).length=1 by decide+kernel];lia,_,S03 _ _ ea,fN (fH (j:=0) rfl) ⟨?_,?_,?_⟩⟩⟩
  ·rw[Str.length_append,Str.length_append,show("(def ":Str).length=5 by decide+kernel,show(" ":Str).length=1 by decide+kernel];lia
  ·rw[Str.length_append,Str.length_append,Str.length_append,show("(def ":Str).length=5 by decide+kernel,show(" ":Str).length=1 by decide+kernel,show(")":Str).length=1 by decide+kernel];lia
  refine⟨_,S3 _ _ eD,by rw[aC,aI];lia,ts.length-(k+ 1),by lia,rfl,hlt,⟨_,_,rfl⟩,gB S03 hD _,?_⟩
  rw[fC,Dn (BS (by rw[b9,gx hlt];exact hwk) ht),bh]
  rfl
 ·have e:k=ts.length:=by lia
  subst e
  refine .inl ⟨⟨xs,SqL.of (S _ _ ei),lx.symm⟩,?_⟩
  rw[bZ (by lia)]at eD
  have sm:=Ae (An (ns:=ws.take ts.length) (fun w hw'=>(pI (hw.n w (cc hw'))).2) txl)
  rw[hl]at sm
  have sm2:ts.length*100100<=12*100100:=cW _ l12
  exact⟨"\n",D,_,rfl,rfl,SqL.of eD,by rw[hl,show("\n":Str).length=1 by decide+kernel];lia,q _ S⟩
mutual
theorem Dq {K:PySem.W.Frag} {H:Hp}:∀{v:V} {d:Dt},Im H v d->At K H v d
 |v,_,.flat h=> .flat (by cases v<;>first|rfl|cases h)
 |_,_,.tup h hs=> .tup (SqT.of h) (tN hs)
theorem tN {K:PySem.W.Frag} {H:Hp}:∀{v:List V} {d:List Dt},Ims H v d->Ats K H v d
 |_,_,.nil=> .nil
 |_,_,.cons h hs=> .cons (Dq h) (tN hs)
end
mutual
theorem E6:∀{d:Dt},gF d=true->eqD d d=true/\oK d d=true
 | .flat v,h=>by
  cases v with
  |int n=>exact⟨by simp[eqD,eqV],by rfl⟩
  |str z=>exact⟨by simp[eqD,eqV],by rfl⟩
  |_=>simp[gF]at h
 | .tup ds,h=>by
  rw[gF,eR]at h
  exact Ao h.2
 | .lst _,h=>by simp[gF]at h
theorem Ao:∀{ds:List Dt},gFs ds=true->vp ds ds=true/\qP ds ds=true
 |[],_=>⟨rfl,rfl⟩
 |d::ds,h=>by
  rw[gFs,eR]at h
  obtain⟨a,b⟩:=E6 h.1
  obtain⟨c,e⟩:=Ao h.2
  rw[vp,qP,a,b,c,e]
  exact⟨rfl,rfl⟩
end
theorem vX {α:Type} {f:α->Dt} (h:∀a,gF (f a)=true):∀l:List α,gFs (l.map f)=true
 |[]=>rfl
 |a::l=>by rw[aB,gFs,h a,vX h l];rfl
theorem vY {α:Type} {f:α->Dt} {b:Nat} (h:∀a,p9 (f a)<=b):∀l:List α,ji (l.map f)<=b
 |[]=>cA _
 |a::l=>by rw[aB,ji];exact Nat.max_le.mpr ⟨h a,vY h l⟩
theorem G3 {H:Hp} {v:V} {ns:List Int} (h:Im H v (.tup (ns.map kD))):∃t,v= .ref t/\H t=some (.tup (ns.map V.int)):=by
 cases h with
 |tup e i=>cases xh i;exact⟨_,rfl,e⟩
theorem Dr (n:Nat):(aG n true).all id=true:=by
 induction n with
 |zero=>rfl
 |succ n ih=>rw[List.replicate_succ,aY,ih];rfl
theorem Aq {en v:V} {me ha:Addr} {bg:Int}:(fRn en v me ha bg).lookup ("end":Str)=some en/\(fRn en v me ha bg).lookup ("value":Str)=some v/\(fRn en v me ha bg).lookup ("meets":Str)=some (.ref me)/\(fRn en v me ha bg).lookup ("had":Str)=some (.ref ha)/\(fRn en v me ha bg).lookup ("begun":Str)=some (.int bg):=⟨by kernel_rfl,by kernel_rfl,by kernel_rfl,by kernel_rfl,by kernel_rfl⟩
def Bm:Sp:=fun vs H Q _=>∃n:Int,vs=[.int n]/\Q (.bl true) H
theorem lD (T:Txt K mg):FO P w base 1 T.d35 Bm:=by
 refine T.d35.F.rd sO fun cdv A0 outer s0 H vs Q E hr h=>?_
 obtain⟨n,rfl,q⟩:=h
 refine⟨_,(fG (f7 (rA (gg jG rfl T.z_isinstance gM (fz (cv 0) (fz (mB rfl T.z_int wm) fD))) (pM (DE (gg jG rfl T.z_isinstance gM (fz (cv 0) (fz (mB rfl T.z_bool Co) fD)))))))),?_⟩
 exact⟨_,_,_,_,true,rfl,fun _ r=>r,.int n,rfl,_,rfl,jm ⟨_,_,_,_,false,rfl,fun _ r=>r,.int n,rfl,_,rfl,q⟩⟩
inductive XTu (vs:List V) (H:Hp) (Q:VK):Prop
 |mk (a b:Addr) (k:Nat) (α:Type) (l:List α) (g:α->List Int) (xs ys:List V) (e:vs=[.ref a,.ref b,.int (k:Int)]) (ea:H a=some (.lst xs)) (eb:H b=some (.lst ys)) (ia:Ims H xs (l.map fun x=> .tup ((g x).map kD))) (ib:Ims H ys (l.map fun x=> .tup ((g x).map kD))) (hk:∀x,(g x).length=k) (k9:k<=9) (q:∀H',fW H H'->Q (.bl true) H')
def rk:Sp:=fun vs H Q _=>XTu vs H Q
theorem rm (T:Txt K mg):FO P w base 2 T.d36 rk:=by
 have gD35:=lD (P:=P) (w:=w) (base:=base) T
 refine T.d36.F.rd mD fun cdv A0 outer s0 H vs Q E hr h=>?_
 obtain⟨a,b,k,α,l,g,xs,ys,rfl,ea,eb,ia,ib,hk,k9,q⟩:=h
 refine⟨_,(fA (gL (jQ (jk (gg jG rfl T.z_isinstance gM (fz (cv 0) (fz (mB rfl T.z_list y0) fD)))))
   (fG (f7 rZ))
   gm)
  (fA (iZ PassesOwn.never rfl (jh (cv 0)) (pN (i:=3) mD.nd)
   (fG (gL (PW.pt (pL (jQ (jk (gg jG rfl T.z_isinstance gM (fz (cv 3) (fz (mB rfl T.z_tuple jT) fD))))) (pL (gz xR (gg gy rfl T.z_len jf (fz (cv 3) fD)) (cv 2)) (rq (jQ (jk (gg (wq rfl) rfl T.z_all Bw (fz (uh rfl (DZ (x:="_law_x") rfl gq gq rfl rfl) (pO (cv 3)) (fun _ _ _ _ _=>mL) (fun _ _ _ _ _=>(pF T.d35 gD35 hr.m (fz (cv 0) fD)))) fD))))))))
    (fG (f7 rZ))
    gm)))
  (fG (f7 (kQ (zc hr) (cv 0) (cv 1)))))),?_⟩
 have sl:=sizeLine_eq
 refine⟨_,_,_,_,true,rfl,fun _ r=>r,.lst ea,rfl,_,rfl,iO ?_⟩
 dsimp only[r9]
 refine⟨a,rfl,⟨_,SqL.of ea⟩,jo (xs:=xs) (fun i σ H3=>∃o,σ=[some (.ref a),some (.ref b),some (.int (k:Int)),o]/\fW H H3) ⟨_,rfl,fun _ _ e=>e⟩ (fun i σ H3 _ ⟨_,_,S⟩=>SqL.of (S _ _ ea)) ?_ ?_⟩
 ·rintro i v σ H3 hv ⟨o,rfl,S⟩
  obtain⟨d,hd,im⟩:=kz ia hv
  rw[aM]at hd
  obtain⟨x,hx,rfl⟩:=da.mp hd
  obtain⟨t,rfl,et⟩:=G3 (im.mono (fW.tk S))
  refine⟨_,_,_,_,true,rfl,fun _ r=>r,.tup et,rfl,_,rfl,?_⟩
  refine iO ⟨t,_,rfl,.inr (SqT.of et),?_⟩
  show(if(true ^^ decide ((((g x).map V.int).length:Int)=(k:Int)))=true then _ else _)
  rw[aC,hk,gR rfl]
  refine iO ⟨t,rfl,⟨_,SqT.of et⟩,fun D hD=>?_⟩
  have lk:((g x).map V.int).length=k:=by rw[aC];exact hk x
  refine zj k (by lia) (fun ys _=>ys=aG ys.length (.bl true)) (fun _ _ _ h _=>h) hD rfl (fun j H4 S4 hj=>zk et S4 (by lia)) (fun H4 S4=>by rw[<-lk];exact zl et S4) rfl ?_ ?_
  ·intro j H4 v H5 zs Z S4 hj y hz hl hZ
   obtain⟨rfl,hv'⟩:=y
   have hv':=hv' _ (SqT.of (S4 _ _ et))
   rw[aM]at hv'
   obtain⟨n,_,rfl⟩:=da.mp hv'
   exact⟨n,rfl,hZ _ _ (fun _ _ e=>e) (by rw[aO,ba,cj,<-hz])⟩
  ·intro H4 zs S4 hz hl eD
   refine⟨D,aG zs.length true,rfl,SqL.of (by rw[eD,List.map_replicate,<-hz]),_,rfl,?_⟩
   rw[Dr]
   exact iO ⟨_,rfl,S.trans S4⟩
 ·rintro σ H3 ⟨o,rfl,S⟩
  have hg:gFs (l.map fun x=> .tup ((g x).map kD))=true:=vX (fun x=>by rw[gF,eR];exact⟨gR (by rw[aC,hk];lia),vX (fun n=>rfl) _⟩) l
  obtain⟨e1,e2⟩:=Ao hg
  have tk:=fW.tk S
  refine⟨a,b,.lst (l.map fun x=> .tup ((g x).map kD)),.lst (l.map fun x=> .tup ((g x).map kD)),rfl,rfl,.lst (SqL.of (S _ _ ea)) (tN (ia.mono tk)),.lst (SqL.of (S _ _ eb)) (tN (ib.mono tk)),?_,?_,?_⟩
  ·rw[oK,gx rfl];exact e2
  ·rw[p9]
   have:=vY (f:=fun x=>Dt.tup ((g x).map kD)) (b:=1) (fun x=>by rw[p9];exact cP (vY (f:=kD) (b:=0) (fun n=>cz _) _)) l
   lia
  ·rw[fZ eP,eqD,e1]
   exact q _ S
open GR.Internal (isName lF)
def hoX (ws:List Str) (ts:List Xt):Nat->Option Hm:=fun k=>match(kM ts 0)[k]? with
 |some ρ=>duo (EN ws ts) k ρ
 |none=>none
theorem BU {ws:List Str} {ts:List Xt} {k:Nat} {ρ:Ro} (h:(kM ts 0)[k]?=some ρ):hoX ws ts k=duo (EN ws ts) k ρ:=by unfold hoX;rw[h]
inductive RnX (C:Addr) (H:Hp) (r:Addr) (ts:List Xt):Prop
 |mk (dx me ha:Addr) (v:V) (xs ys:List V) (t:Xt) (o:H r=some (.ins C dx (fRn (.str "done") v me ha ((msX ts).length:Int)))) (em:H me=some (.lst xs)) (im:Ims H xs ((meX ts).map fun t=>meD (p3 (ixM (msX ts)) t))) (eh:H ha=some (.lst ys)) (ih:Ims H ys ((haX ts).map fun t=>haD (p2 (ixM (msX ts)) t))) (ht:ts.getLast?=some t) (iv:Im H v (t.val.mp (ixM (msX ts))).d)
theorem E7 {j:Nat} {σ:St} {a:Str} {H:Hp} {F:Bool->Hp->Prop} (hj:σ[j]?=some (some (.str a))) (h:F false H):cV j σ H fun y H2=>cEq true (.str a) y H2 fun x H'=>onB x fun k=>F k H':=by show onV σ[j]? _;rw[hj];show F (xor true (decide (a=a))) H;rw[gR rfl];exact h
theorem E8 {j:Nat} {σ:St} {a:Int} {H:Hp} {F:Bool->Hp->Prop} (hj:σ[j]?=some (some (.int a))) (h:F false H):cV j σ H fun y H2=>cEq true (.int a) y H2 fun x H'=>onB x fun k=>F k H':=by show onV σ[j]? _;rw[hj];show F (xor true (decide (a=a))) H;rw[gR rfl];exact h
inductive XRa (C:Addr) (vs:List V) (H:Hp) (Q:VK):Prop
 |mk (ws:List Str) (ts:List Xt) (tu:Nat) (e:vs=[.str (Str.join "\n" (lnX (ws.take ts.length) ts)),.int (tu:Int)]) (hn:∀w∈ws,isName w=true) (hd:ws.Nodup) (hl:ws.length=16) (F:Fin ws ts) (ht:(msX ts).length<=tu) (q:∀r H',fW H H'->RnX C H' r ts->Q (.ref r) H')
def vZ (C:Addr):Sp:=fun vs H Q _=>XRa C vs H Q
theorem v5 (T:Txt K mg) (D:Dk P w K mg) (W:Wk P w T):FO P w base 148 T.d37 (vZ T.c6.a):=by
 have g1:=yf (P:=P) (w:=w) (base:=base) T
 have g2:=yg T g1
 have g3:=uI T g1
 have ga:=qz (P:=P) (w:=w) (base:=base) T
 have g4:=qT (P:=P) (w:=w) (base:=base) T ga
 have gc:=qU (P:=P) (w:=w) (base:=base) T
 have gp:=m8 T g4
 have gn:=m9 T g4 g2
 have ge:=zK T D ga g4 gp gn g2 g3 gc 24
 have gD16:=CM T (vE T) (nS T) ga gp gn ge gc (nh T)
 have gD18:=vI (P:=P) (w:=w) (base:=base) T
 have gD11:=EF (base:=base) T W
 clear g1 g2 g3 ga g4 gc gp gn ge
 refine T.d37.F.rd qu fun cdv A0 outer s H vs Q E hr h=>?_
 obtain⟨ws,ts,tu,rfl,hn,hd,hl,F,ht,q⟩:=h
 refine⟨_,(fA (pS (i:=2) qu.nd (n9 gD16 hr.m rfl T.d16.m T.d16.k T.d16.b .nil F0 (fz (cv 0) fD)))
  (fG (f7 (pF T.d11 gD11 hr.m (fz (cv 2) (fz (pF T.d18 gD18 hr.m (fz (cv 2) fD)) (fz (cv 1) fD))))))),?_⟩
 have l12:=F.l12
 have l160:=F.l
 have lnn:(ws.take ts.length).length=ts.length:=by rw[aI];lia
 have hn':∀n∈ws.take ts.length,isName n=true:=fun n h=>hn n (cc h)
 obtain⟨pq,_⟩:=C9 hn hn' lnn F.ok
 have et:GR.Internal.toks (Str.join "\n" (lnX (ws.take ts.length) ts))=yj (ws.take ts.length) (ts.map Xt.tr):=pq.g.op
 have rd:=GX hn hn' lnn F.ok F.ns F.l F.l1 l12
 rw[<-et]at rd
 have ql:=pq.l
 have qk:=pq.k
 refine⟨_,_,rfl,by lia,GR.Internal.toks_v _,by rw[et];exact EH (by lia) pq.o,fun names roots rows g nl tl rl rtv rwv H5 hread S5 _ _ _ pr tr tw=>?_,fun hno=>absurd (rd.symm.trans hno) (by simp)⟩
 rw[rd]at hread
 obtain⟨rfl,rfl,rfl⟩:ws.take ts.length=names/\(yk ts 0).map TM.Internal.kD=roots/\(kM ts 0).map Ro.d=rows:=by
  have:=cX.inj hread
  exact⟨congrArg Prod.fst this,congrArg (fun x=>x.2.1) this,congrArg (fun x=>x.2.2) this⟩
 have ertv:=EJ (pJ tr (ER _))
 have erwv:=pJ tw (gfX ts 0)
 obtain⟨dx,ob⟩:=pr.ob
 have prr:=pr.rt
 rw[ertv]at prr
 have prA:PrA T.c7.a H5 g nl tl rl dx rwv (ws.take ts.length) (yk ts 0) (kM ts 0):=⟨ob,pr.nm,prr,pr.rw,erwv⟩
 dsimp only[gJ]
 have gd:=EO hd l12 (by lia) F.ok F.l
 obtain⟨n,hn2,rP⟩:=HB (ρs:=kM ts 0) (ho:=hoX ws ts) (tu:=tu) (ws:=ws) (ns:=ws.take ts.length) (π:=ixM (msX ts)) (M:=msX ts) (Ai F.nd) gd.nn ts [] 0 F.ok (fun k w e h=>Aa e (by simpa using h)) (fun j x e=>by rw[cK];exact e) (fun j x e=>by rw[cK];exact e) (fun q w e _ _=>by rw[BU e];rfl) s0M rfl rfl rfl (by show 0+_<=_;lia)
 refine⟨g,nl,tl,rl,dx,rwv,_,_,_,_,rfl,prA,gd,fun lh2 ys H6 S6 _ el6 ly hoa=>?_⟩
 obtain⟨us,u,hu⟩:∃us u,ts=us++[u]:=⟨_,_,(bG (fun e=>by have:=F.l1;rw[e]at this;cases this)).symm⟩
 refine⟨g,lh2,nl,tl,rl,dx,tu,n,rwv,ys,_,(us.map Xt.val).map (Vl.mp (ixM (msX ts))),u.val.mp (ixM (msX ts)),_,_,_,hoX ws ts,rfl,prA.same S6,el6,fun i ρ hi=>?_,gd.ok,rP,by lia,rfl,?_,fun r H7 S7 _ ra=>?_⟩
 ·have hil:=(au.mp hi).1
  obtain⟨y,hy⟩:∃y,ys[i]?=some y:=⟨_,bz (by lia)⟩
  exact⟨y,hy,by rw[BU hi];exact hoa i y ρ hy hi⟩
 ·show(([]++ts.map Xt.val).map (Vl.mp (ixM (msX ts))))=_
  rw[bP]
  conv=>lhs;rw[hu,bh,bh]
  rw[hu]
  rfl
 obtain⟨dx',me,ha,v,xs1,ys1,o1,em,im,eh,ih,iv⟩:=ra
 have o1:H7 r=some (.ins T.c6.a dx' (fRn (.str "done") v me ha ((0+(msX ts).length:Nat):Int))):=o1
 rw[cK]at o1
 have im:Ims H7 xs1 ((((meX ts).map (p3 (ixM (msX ts)))).reverse++[]).reverse.map meD):=im
 have ih:Ims H7 ys1 ((((haX ts).map (p2 (ixM (msX ts)))).reverse++[]).reverse.map haD):=ih
 rw[aD,List.reverse_reverse,bA]at im ih
 exact q r H7 ((S5.trans S6).trans S7) ⟨dx',me,ha,v,xs1,ys1,u,o1,em,im,eh,ih,by rw[hu,List.getLast?_concat],iv⟩
inductive XTo (C:Addr) (vs:List V) (H:Hp) (Q:VK):Prop
 |mk (r pa:Addr) (ts:List Xt) (e:vs=[.ref r,.str "done",.int ((msX ts).length:Int),.ref pa]) (ra:RnX C H r ts) (pl:PlA H pa ts) (q:∀H',fW H H'->Q (.bl true) H')
def uW (C:Addr):Sp:=fun vs H Q _=>XTo C vs H Q
theorem uX (T:Txt K mg):FO P w base 3 T.d38 (uW T.c6.a):=by
 have gD35:=lD (P:=P) (w:=w) (base:=base) T
 have gD36:=rm (P:=P) (w:=w) (base:=base) T
 refine T.d38.F.rd uH fun cdv A0 outer s H vs Q E hr h=>?_
 obtain⟨r,pa,ts,rfl,⟨dx,me,ha,v,xs,ys,t,o,em,im,eh,ih,_,_⟩,⟨dp,hl,ml,kvs,ys2,zs2,ep,ed,_,eh2,ih2,em2,im2⟩,q⟩:=h
 refine⟨_,(fA (gL (PW.pt (pL (gz xR (gu T.c6.cl T.n6end (cv 0)) (cv 1)) (pL (jQ (jk (pF T.d35 gD35 hr.m (fz (gu T.c6.cl T.n6begun (cv 0)) fD)))) (rq (gz xR (gu T.c6.cl T.n6begun (cv 0)) (cv 2))))))
   (fG (f7 rZ))
   gm)
  (fG (f7 (rA (pF T.d36 gD36 hr.m (fz (gu T.c6.cl T.n6had (cv 0)) (fz (fV fY (cv 3) fF) (fz fF fD)))) (pM (pF T.d36 gD36 hr.m (fz (gu T.c6.cl T.n6meets (cv 0)) (fz (fV fY (cv 3) fF) (fz fF fD))))))))),?_⟩
 obtain⟨f1,f2,f3,f4,f5⟩:=Aq (en:= .str "done") (v:=v) (me:=me) (ha:=ha) (bg:=((msX ts).length:Int))
 refine⟨_,⟨_,_,o,f1⟩,?_⟩
 refine E7 rfl ?_
 refine iO ⟨_,⟨_,_,o,f5⟩,_,rfl,_,rfl,iO ⟨_,⟨_,_,o,f5⟩,?_⟩⟩
 refine E8 rfl ?_
 refine iO ?_
 dsimp only[r9]
 refine⟨_,⟨_,_,o,f4⟩,_,ep,fN (fH (j:=1) rfl) ?_⟩
 refine⟨ha,hl,2,_,haX ts,fun t=>[ixM (msX ts) t.1,ixM (msX ts) t.2],ys,ys2,rfl,eh,eh2,ih,ih2,fun _=>rfl,by decide,fun H1 S1=>⟨_,rfl,jm ?_⟩⟩
 have tk:=fW.tk S1
 refine⟨_,⟨_,_,S1 _ _ o,f3⟩,_,S1 _ _ ep,fN (fH (j:=2) rfl) ?_⟩
 exact⟨me,ml,3,_,meX ts,fun t=>[ixM (msX ts) t.1,ixM (msX ts) t.2.1,t.2.2],xs,zs2,rfl,S1 _ _ em,S1 _ _ em2,im.mono tk,im2.mono tk,fun _=>rfl,by decide,fun H2 S2=>q H2 (S1.trans S2)⟩
theorem G4 (v:Vl):gF v.d=true/\p9 v.d<=100:=by
 cases v with
 |num n p=>exact⟨by simp only[Vl.d,gF,gFs,sD,kD];rfl,by simp only[Vl.d,p9,ji,sD,kD];decide⟩
 |yes b p=>exact⟨by simp only[Vl.d,gF,gFs,sD,kD];rfl,by simp only[Vl.d,p9,ji,sD,kD];decide⟩
theorem HD {σ:St} {a:Int} {H:Hp} {F:Bool->Hp->Prop} (h:F false H):tC (.int a) σ H fun y H2=>cEq true (.int a) y H2 fun x H'=>onB x fun k=>F k H':=by show F (xor true (decide (a=a))) H;rw[gR rfl];exact h
theorem BV {H:Hp} {x:V} {b:Bool} {p:Int} (h:Im H x (Vl.yes b p).d):∃t t1 t2 t3,x= .ref t/\H t=some (.tup [.str "tag",.ref t1,.int p])/\H t1=some (.tup [.str (ynS b),.ref t2])/\H t2=some (.tup [.str "rec",.ref t3,.int p]):=by
 obtain⟨t,y,rfl,e,i⟩:=oR h
 obtain⟨t1,y1,y2,rfl,e1,i1,i2⟩:=vK (show Im H y (.tup [sD (ynS b),.tup [sD "rec",.tup [],kD p]])from i)
 cases i1
 cases i2 with
 |tup e2 i2=>
  cases i2 with
  |cons h1 i2=>
   cases i2 with
   |cons h2 i2=>
    cases i2 with
    |cons h3 i2=>
     cases i2
     cases h1
     cases h3
     cases h2
     exact⟨t,t1,_,_,rfl,e,e1,e2⟩
inductive XIv (vs:List V) (H:Hp) (Q:VK):Prop
 |mk (v d:V) (dp:Addr) (kvs:List (Key×V)) (M:List Int) (u:Vl) (e:vs=[v,d,.ref dp]) (iv:Im H v (u.mp (ixM M)).d) (id:Im H d u.d) (ed:H dp=some (.dK kvs)) (p:Pc kvs M) (nd:M.Nodup) (hm:u.p∈M) (q:∀H',fW H H'->Q (.bl true) H')
def ph:Sp:=fun vs H Q _=>XIv vs H Q
theorem pj (T:Txt K mg):FO P w base 2 T.d41 ph:=by
 have gD35:=lD (P:=P) (w:=w) (base:=base) T
 refine T.d41.F.rd jP fun cdv A0 outer s H vs Q E hr h=>?_
 have hu:=ue hr
 obtain⟨v,d,dp,kvs,M,u,rfl,iv,id,ed,p,nd,hm,q⟩:=h
 refine⟨_,(fA (gL (PW.pt (pL (jQ (jk (gg jG rfl T.z_isinstance gM (fz (cv 0) (fz (mB rfl T.z_tuple jT) fD))))) (pL (gz xR (gg gy rfl T.z_len jf (fz (cv 0) fD)) fF) (pL (jQ (jk (gg jG rfl T.z_isinstance gM (fz (fV fX (cv 0) fF) (fz (mB rfl T.z_str Bx) fD))))) (rq (jQ (jk (pF T.d35 gD35 hr.m (fz (fV fX (cv 0) fF) fD)))))))))
   (fG (f7 rZ))
   gm)
  (fA (gL (gz kF (fV fX (cv 1) fF) fQ)
   (fG (f7 (rA (pF T.d35 gD35 hr.m (fz (fV fX (cv 0) fF) fD)) (pM (kQ (zc hr) (cv 0) (gC (fz fQ (fz (fV fX (cv 1) fF) (fz (lJ hu (cv 2) (fV fX (cv 1) fF)) fD)))))))))
   gm)
  (fA (pS (i:=3) jP.nd (fV fX (cv 0) fF))
  (fA (gL (PW.pt (pL (jQ (jk (gg jG rfl T.z_isinstance gM (fz (cv 3) (fz (mB rfl T.z_tuple jT) fD))))) (pL (gz xR (gg gy rfl T.z_len jf (fz (cv 3) fD)) fF) (rq (jQ (jk (gg jG rfl T.z_isinstance gM (fz (fV fX (cv 3) fF) (fz (mB rfl T.z_tuple jT) fD)))))))))
   (fG (f7 rZ))
   gm)
  (fA (pS (i:=4) jP.nd (lJ hu (cv 2) (fV fX (cv 1) fF)))
  (fG (f7 (rA (kQ (zc hr) (cv 0) (gC (fz fQ (fz (gC (fz (fV fX (fV fX (cv 1) fF) fF) (fz (gC (fz fQ (fz (gC fD) (fz (cv 4) fD)))) fD))) (fz (cv 4) fD))))) (pM (pF T.d35 gD35 hr.m (fz (fV fX (fV fX (cv 3) fF) fF) fD))))))))))),?_⟩
 obtain⟨gv,dv⟩:=G4 (u.mp (ixM M))
 obtain⟨ge,gc⟩:=E6 gv
 have g:=vh.k (k:=(Sum.inl u.p:Key)) ed
 rw[p.at nd hm]at g
 have eqq:∀{H':Hp} {a b:Addr} {R:VK},Im H' (.ref a) (u.mp (ixM M)).d->Im H' (.ref b) (u.mp (ixM M)).d->R (.bl true) H'->Hh K false (.ref a) (.ref b) H' R:=fun{H' a b R} i1 i2 r=>⟨a,b,_,_,rfl,rfl,Dq i1,Dq i2,gc,dv,by rw[fZ eP,ge];exact r⟩
 obtain⟨tv,y,rfl,ev,_⟩:=oR iv
 refine⟨_,_,_,_,true,rfl,fun _ r=>r,.tup ev,rfl,_,rfl,iO ⟨tv,_,rfl,.inr (SqT.of ev),?_⟩⟩
 refine HD ?_
 refine iO ⟨_,ev,fN (fH (j:=0) rfl) ⟨_,_,_,_,true,rfl,fun _ r=>r,.str _,rfl,_,rfl,iO ⟨_,ev,fN (fH (j:=2) rfl) ⟨_,rfl,_,rfl,iO ?_⟩⟩⟩⟩
 dsimp only[r9]
 cases u with
 |num n m=>
  obtain⟨tv',e',ev⟩:=nX (show Im H (.ref tv) (Vl.num n (ixM M m)).d from iv)
  cases e'
  obtain⟨td,rfl,etd⟩:=nX id
  refine wW rfl etd (gR rfl) ⟨_,ev,fN (fH (j:=1) rfl) ⟨n,rfl,_,rfl,jm ?_⟩⟩
  refine⟨_,etd,fN (fH (j:=1) rfl) ⟨_,etd,fN (fH (j:=2) rfl) ⟨dp,_,rfl,g,nA,fun b hb=>?_⟩⟩⟩
  have S:=fE hb (.tup [.str "num",.int n,.int (ixM M m)])
  exact eqq (iv.mono (fW.tk S)) (nk hb (.cons (.flat rfl) (.cons (.flat rfl) (.cons (.flat rfl) .nil)))) (q _ S)
 |yes b m=>
  obtain⟨tv',t1,t2,t3,e',ev,e1,e2⟩:=BV (show Im H (.ref tv) (Vl.yes b (ixM M m)).d from iv)
  cases e'
  obtain⟨td,d1,d2,d3,rfl,etd,ed1,ed2⟩:=BV id
  refine qI rfl etd gq ⟨_,ev,fN (fH (j:=1) rfl) ?_⟩
  dsimp only[gJ]
  refine⟨_,_,_,_,true,rfl,fun _ r=>r,.tup e1,rfl,_,rfl,iO ⟨t1,_,rfl,.inr (SqT.of e1),?_⟩⟩
  refine HD ?_
  refine iO ⟨_,e1,fN (fH (j:=1) rfl) ⟨_,_,_,_,true,rfl,fun _ r=>r,.tup e2,rfl,_,rfl,iO ?_⟩⟩
  dsimp only[r9]
  refine⟨_,etd,fN (fH (j:=2) rfl) ⟨dp,_,rfl,g,?_⟩⟩
  dsimp only[gJ]
  refine⟨_,etd,fN (fH (j:=1) rfl) ⟨_,ed1,fN (fH (j:=0) rfl) ⟨n6,fun a1 j1=>⟨nA,fun a2 j2=>⟨my,fun a3 j3=>⟨nA,fun a4 j4=>?_⟩⟩⟩⟩⟩⟩
  have S1:=fE j1 (.tup [])
  have S2:=fE j2 (.tup [.str "rec",.ref a1,.int (ixM M m)])
  have S3:=fE j3 (.tup [.str (ynS b),.ref a2])
  have S4:=fE j4 (.tup [.str "tag",.ref a3,.int (ixM M m)])
  have S:=((S1.trans S2).trans S3).trans S4
  refine eqq (iv.mono (fW.tk S)) (nk j4 (.cons (.flat rfl) (.cons (nk j3 (.cons (.flat rfl) (.cons (nk j2 (.cons (.flat rfl) (.cons (nk j1 .nil) (.cons (.flat rfl) .nil)))) .nil))) (.cons (.flat rfl) .nil)))) ⟨_,rfl,jm ?_⟩
  exact⟨_,S _ _ e1,fN (fH (j:=1) rfl) ⟨_,S _ _ e2,fN (fH (j:=2) rfl) ⟨_,rfl,q _ S⟩⟩⟩
theorem Ds {f:Addr} {fd:FuncData} (T:Txt K mg) (D:Dk P w K mg) (W:Wk P w T) (F:Fun K "law" "law" sI f fd):pT P w K mg base CX0 150 f fd ["_law_script"] (wJ K):=by
 have gD26:=sY (P:=P) (w:=w) (base:=base) T
 have gD39:=tM (P:=P) (w:=w) (base:=base) T
 have gD33:=rj (P:=P) (w:=w) (base:=base) T
 have gD34:=uV (P:=P) (w:=w) (base:=base) T
 have gD37:=v5 (base:=base) T D W
 have gD38:=uX (P:=P) (w:=w) (base:=base) T
 have gD41:=pj (P:=P) (w:=w) (base:=base) T
 refine F.rd rR fun cdv A outer s H vs Q E hr h=>?_
 obtain⟨ad,ns,rfl,hsq,hlen,q⟩:=h
 refine⟨_,(fA (pS (i:=1) rR.nd (pF T.d26 gD26 hr.m (fz (gg (lP rfl) rfl T.z_sum ug (fz (jR og (cv 0) (kB (xB rE fF)) lM) fD)) fD)))
  (fA (pS (i:=2) rR.nd (pF T.d39 gD39 hr.m (fz (cv 1) (fz (cv 0) fD))))
  (fA (pS (i:=3) rR.nd (pF T.d33 gD33 hr.m (fz (cv 2) fD)))
  (fA (pS (i:=4) rR.nd (gg uf rfl T.z_len jf (fz (fV fY (cv 3) fF) fD)))
  (fA (pS (i:=5) rR.nd (pF T.d37 gD37 hr.m (fz (pF T.d34 gD34 hr.m (fz (cv 1) (fz (cv 2) fD))) (fz (gK oM (cv 4) (gK jY (gg (lP rfl) rfl T.z_sum ug (fz (jR og (cv 0) lM (kB fF)) fD)) fF)) fD))))
  (fA (gL (jQ (jk (pF T.d38 gD38 hr.m (fz (cv 5) (fz fQ (fz (cv 4) (fz (cv 3) fD)))))))
   (fG (f7 rZ))
   gm)
  (fG (f7 (pF T.d41 gD41 hr.m (fz (gu T.c6.cl T.n6value (cv 5)) (fz (fV fY (fV fY (cv 2) (xB rE fF)) fF) (fz (fV fY (cv 3) fF) fD)))))))))))),?_⟩
 obtain⟨ks0,ek0,_⟩:=nZ ns (some (-1)) none
 obtain⟨ks1,ek1,_⟩:=nZ ns none (some 1)
 refine⟨_,rfl,_,rfl,ad,_,rfl,hsq,fun c1 hc1=>⟨c1,ks0,rfl,SqL.of (by rw[fC,ek0]),fun n0=>?_⟩⟩
 have S1:=fE hc1 (.lst (pk (ns.map V.int) (some (-1)) none))
 dsimp only
 generalize upd H c1 (.lst (pk (ns.map V.int) (some (-1)) none))=H1 at S1⊢
 refine⟨n0,rfl,fun wl ws H2 S2 _ hw=>?_⟩
 dsimp only[gJ]
 have S02:=S1.trans S2
 refine⟨wl,ad,ws,ns,rfl,hw,S02.seq hsq,hlen,fun il xs ts H3 S3 _ ei hx Fi=>?_⟩
 dsimp only[gJ]
 refine⟨il,ws,xs,ts,rfl,ei,hx,Fi,fun pa H4 S4 pl=>?_⟩
 dsimp only[gJ]
 have S34:=S3.trans S4
 have S04:=S02.trans S34
 obtain⟨dp,hl,ml,kvs,ys,zs,ep,ed,pc,eh,ih,em,im⟩:=pl
 refine⟨_,ep,fN (fH (j:=0) rfl) ⟨dp,_,rfl,ed,?_⟩⟩
 dsimp only[gJ]
 have hw4:Wd H4 wl ws:=⟨S34 _ _ hw.e,hw.l,hw.n,hw.d⟩
 refine⟨wl,il,ws,xs,ts,rfl,hw4,S4 _ _ ei,hx.same S4,Fi,fun H5 S5=>?_⟩
 refine⟨_,rfl,ad,_,rfl,(S04.trans S5).seq hsq,fun c2 hc2=>⟨c2,ks1,rfl,SqL.of (by rw[fC,ek1]),fun n1=>⟨(by show(0:Int)<7;decide),?_⟩⟩⟩
 have S6:=fE hc2 (.lst (pk (ns.map V.int) none (some 1)))
 dsimp only
 generalize upd H5 c2 (.lst (pk (ns.map V.int) none (some 1)))=H6 at S6⊢
 obtain⟨k7,e7,_⟩:=emN n1 (m:=7) (by decide)
 rw[e7,pc.l]
 dsimp only[cI0]
 rw[show((msX ts).length:Int)+(k7:Int)=(((msX ts).length+k7:Nat):Int) by lia]
 refine⟨ws,ts,(msX ts).length+k7,rfl,hw.n,hw.d,hw.l,Fi,cF _ _,fun r H7 S7 ra=>?_⟩
 dsimp only[gJ]
 have S47:=(S5.trans S6).trans S7
 have k47:=fW.tk S47
 have pl7:PlA H7 pa ts:=⟨dp,hl,ml,kvs,ys,zs,S47 _ _ ep,S47 _ _ ed,pc,S47 _ _ eh,ih.mono k47,S47 _ _ em,im.mono k47⟩
 refine⟨r,pa,ts,rfl,ra,pl7,fun H8 S8=>⟨_,rfl,iO ?_⟩⟩
 dsimp only[r9]
 obtain⟨dx,me,ha,v,xs1,ys1,t,o,_,_,_,_,ht,iv⟩:=ra
 obtain⟨_,f2,_⟩:=Aq (en:= .str "done") (v:=v) (me:=me) (ha:=ha) (bg:=((msX ts).length:Int))
 have S48:=S47.trans S8
 obtain⟨us,hu⟩:∃us,ts=us++[t]:=List.getLast?_eq_some_iff.mp ht
 have tm:t∈ts:=by rw[hu];exact ay _ (cm _)
 have hk:ts[us.length]?=some t:=by rw[hu,aJ (cz _),cM];rfl
 have hx8:=hx.same (S4.trans S48)
 obtain⟨xu,hxu,hX⟩:=hx8.at hk
 have lx:=hx.len
 have lu:ts.length=us.length+ 1:=by rw[hu,aO];rfl
 obtain⟨zs',y,hys⟩:∃ys y,xs=ys++[y]:=⟨_,_,(bG (fun e=>by rw[e]at lx;rw[<-lx]at lu;cases lu)).symm⟩
 have hy:y=xu:=by
  have l2:zs'.length=us.length:=by
   have:xs.length=zs'.length+ 1:=by rw[hys,aO];rfl
   lia
  rw[hys,aJ (by lia),l2,cM]at hxu
  cases hxu
  rfl
 subst hy
 obtain⟨ai,vi,B,rfl,eai,ivi,_⟩:=hX
 refine⟨_,⟨_,_,S8 _ _ o,f2⟩,_,rfl,_,(S4.trans S48) _ _ ei,fN (v:=V.ref ai) (by rw[hys];exact vP zs' _) ⟨_,eai,fN (fH (j:=1) rfl) ⟨_,S48 _ _ ep,fN (fH (j:=0) rfl) ?_⟩⟩⟩
 exact⟨v,vi,dp,kvs,msX ts,t.val,rfl,iv.mono (fW.tk S8),ivi,S48 _ _ ed,pc,Fi.nd,(G2 (M:=msX ts) (vs:=[]) (fun v hv=>nomatch hv) Fi.ok (fun m h=>h) t tm).1,fun H9 S9=>q _⟩
open GR.Internal (stP stT)
abbrev Lt:=List (Str×Tok×Addr)
abbrev Lt.kv (l:Lt):List (Key×V):=l.map fun p=>(Sum.inr p.1,V.ref p.2.2)
inductive Al (K:PySem.W.Frag):Lt->List (Str×List Bool)->Prop
 |nil:Al K [] []
 |cons {k:Str} {t:Tok} {q:Addr} {ps:List Bool} {l:Lt} {s:List (Str×List Bool)} (h:∀H:Hp,SqT K H q (ps.map pV)) (r:Al K l s):Al K ((k,t,q)::l) ((k,ps)::s)
theorem Al.go {K:PySem.W.Frag} {h:Str}:∀{l:Lt} {s:List (Str×List Bool)},Al K l s->((s.find? fun p=>decide (p.1=h))=none->je l.kv (Sum.inr h)=none)/\∀ps,(s.find? fun p=>decide (p.1=h)).map (·.2)=some ps->∃q,je l.kv (Sum.inr h)=some (.ref q)/\∀H:Hp,SqT K H q (ps.map pV)
 |_,_,.nil=>⟨fun _=>rfl,fun _ e=>(nomatch e)⟩
 |(k,t,q)::l,_,.cons x r=>by
  obtain⟨a,b⟩:=Al.go (h:=h) r
  rw[aQ]
  by_cases e:k=h
  ·subst e
   rw[gR rfl,Lt.kv,aB,iW rfl]
   exact⟨(fun z=>nomatch z),fun ps z=>by cases z;exact⟨q,rfl,x⟩⟩
  ·rw[ig e,Lt.kv,aB,iX (fun z=>e (Sum.inr.inj z))]
   exact⟨a,b⟩
def xG {P:Program} {w:World} {K:PySem.W.Frag} {mg:Str->Option Value} {a:Addr} {n:Nat} {es:Array DictEntry} {l:Lt} (m:mg "STEADY_FORMS"=some (.ref a)) (ha:(a==sysModules)=false) (hl:K.lookup a=some ⟨.type "dict",none,.dict es n,#[]⟩) (he:es.toList=l.map fun p=>⟨PyData.keyHash w.params p.1,.str p.1 p.2.1,.ref p.2.2⟩) (hn:(l.map (·.1)).Nodup) (h:Al K l stT):Dk P w K mg:=⟨a,m,l.kv,wu ha hl he hn,fun k e=>by unfold stP at e;exact h.go.1 (Option.map_eq_none_iff.mp e),fun k ps e=>by unfold stP at e;exact h.go.2 ps e⟩
def G5 {P:Program} {w:World} {K:PySem.W.Frag} {mg:Str->Option Value} (T:Txt K mg) {a:Addr} {n:Nat} {es:Array DictEntry} {t_num t_name t_fn t_call t_let t_rec t_get t_tag t_case t_row t_at t_join t_size t_add t_sub t_less:Tok} {q_fn q_call q_let q_rec q_get q_tag q_case q_row q_at q_join q_size:Addr} (m:mg "WORKERS"=some (.ref a)) (ha:(a==sysModules)=false) (hl:K.lookup a=some ⟨.type "dict",none,.dict es n,#[]⟩) (he:es.toList=([("num",t_num,T.d6.a),("name",t_name,T.d7.a),("fn",t_fn,q_fn),("call",t_call,q_call),("let",t_let,q_let),("rec",t_rec,q_rec),("get",t_get,q_get),("tag",t_tag,q_tag),("case",t_case,q_case),("row",t_row,q_row),("at",t_at,q_at),("join",t_join,q_join),("size",t_size,q_size),("add",t_add,T.d8.a),("sub",t_sub,T.d9.a),("less",t_less,T.d10.a)]:Lt).map fun p=>⟨PyData.keyHash w.params p.1,.str p.1 p.2.1,.ref p.2.2⟩):Wk P w T:=⟨a,m,_,wu ha hl he (by show(["num","name","fn","call","let","rec","get","tag","case","row","at","join","size","add","sub","less"]:List Str).Nodup;decide+kernel),fun hw=>by
  cases hw with
  |num=>exact⟨_,_,by kernel_rfl,.num,_,rfl⟩
  |name _ _=>exact⟨_,_,by kernel_rfl,.name,_,rfl⟩
  |op ho=>
   rcases ho with rfl|rfl|rfl
   ·exact⟨_,_,by kernel_rfl,.add,_,rfl⟩
   ·exact⟨_,_,by kernel_rfl,.sub,_,rfl⟩
   ·exact⟨_,_,by kernel_rfl,.less,_,rfl⟩⟩
end K60.Internal
structure PySem.W.Fast:Prop where
 (tw5122007230918761039 tw13475790664256262128 tw13767739290619528064 tw7375657628655087456 tw7192702108686373593 tw11591024752593127634 tw7708848360830447582 tw10063028679325470076 tw17778659062002641768 tw3630063441636977142 tw8067557800177754262 tw2875611646104305861 tw9666415630174787192 tw7738548001829616194 tw4726683726925674194 tw16964436237148356359 tw15590505218628394182 tw5630912996562478037 tw13958578707206914385 tw9846138277191232537 tw6501394562280431017 tw2027194241696841972 tw4818334638081418027 tw3560943138206988674 tw2138632753690999485 tw17734310815941994235 tw2610703666384797735 tw15781691694339681529 tw5283319918746028043 tw15141036883010485381 tw12884643158506434240 tw8171621767971179524 tw12688207507017170964 tw15492948294154332895 tw7500224816020783053 tw3754344621069757698 tw3541556316700979714 tw14148298268959444375 tw15764426059903037037 tw10277471831081308253 tw11540959188448937152 tw14097562470655264805 tw14018041813001729316 tw2922154476271618473 tw429487160683085532 tw8951399556227199210 tw17197329688734091919 tw12886036353897044776 tw17487215174785990418 tw138924161705129442 tw13275814999711394907 tw3732420715183531715 tw12191634367481529019 tw16855020022856297381 tw10547558914952575407 tw10840469522764956059 tw11277418473758364951 tw4705717435063246847 tw5013057254859042836 tw9846029128349016627 tw18327353034043020908 tw7925448427264384790 tw12277862932095271466 tw3112029518953982769 tw18287093096862951051 tw12066129378906307880 tw14918941859070484798 tw18003741360575737951 tw3118008431496624571 tw1150281003874927541 tw11873649014121245586 tw8336639735456734036 tw7571411943330362583 tw13636300791989626262 tw14806152175830146918 tw7982449306857223364 tw6181595230907781846 tw2721622120975536656 tw4817233912041740992 tw12977174612499596348 tw2454571615034647580 tw2405977291368575586 tw15737764571136207006 tw5054593902763243234 tw13092303959917426295 tw14974140161349707795 tw18302369630712176948 tw11779569789929562335 tw14772024320990371236 tw1202673820859792410 tw8208277401438977147 tw15244068931894630143 tw9847044814523389187 tw14578691661881661578 tw6381586265574201373 tw10307236081930024619 tw14045306905439178926 tw16943044898085815923 tw6423142676831327767 tw12373069749276531040 tw5294548863076477019 tw9129949431553071305 tw6077419213416491675 tw6045164599682960632 tw13729723465609521995 tw17036228916063583287 tw3042968389148258447 tw4637010630445297722 tw756484109395735563 tw5838230436562922928 tw15363320877519358395 tw15472650607382346226 tw11979118871393894773 tw8328787737523247247 tw5738609502401598763 tw4278821481428887756 tw8825077671788408997 tw14368707449259870427 tw9158392357531565873 tw12077021178716540020 tw3479218545727227262 tw9259313955245715934 tw10226321217939607425 tw6356258153161621238 tw15665620046375380365 tw16637789997110902940 tw10116282152291682109 tw7835266843687974873 tw15775138975110758737 tw16017968919269522342 tw8065741027344737172 tw18013365522851524361 tw3653883043894595691 tw13832036671204109890 tw2572863209711684679 tw17577557563042478669 tw8479505293587739116 tw3452701508597575144 tw14766253280836874461 tw15466105404896250263 tw15217116026605964460 tw15582292055523983483 tw34744867156910668 tw7864641828981505423 tw16816681312463569470 tw3550880395423051932 tw3703139099843599262 tw4957550869003010179 tw16153292562987595523 tw8435781060792833035 tw11072383972693467974 tw13512382824441350936 tw410600602604262005 tw6151725329716938907 tw9961059837571967838 tw17753223901920281447 tw10639468691429502233 tw17786067101332874296 tw15949396308194588418 tw14541510020375654042 tw7153770542651819579 tw1287019194497739349 tw9641112951523911400 tw6543801079437715464 tw4323511445317360041 tw16266586987833249335 tw10778083318885077267 tw2761906586642744309 tw10013466877157666852 tw6372344100683183960 tw11028378816816678030 tw7863079426216933370 tw2522284307282518469 tw12393865377005814924 tw3460342965682669864 tw1494610814933931448 tw16249148372595892624 tw14731452847038931150 tw1255859618459599179 tw2778660751073121991 tw5295341119076423309 tw15141740041057403340 tw13835626114748973517 tw859091305106312440 tw8700979739380542903 tw10673973309474217625 tw1578983267088936634 tw6702394002428829258 tw10716084430882486824 tw9443432189965061480 tw12400834302751656861 tw9310678213682948003 tw252488164054751915 tw10451565024423280987 tw10453570364177090329 tw11345709592883131933 tw11447712357600437438 tw6363009609931118931 tw15695746078213840902 tw17687714615503565585 tw3839666359616336806 tw12518515091324433149 tw8462500254868807842 tw10688817526096324584 tw14886433463551173958 tw3205752328209733354 tw14332297805553677614 tw3732876859264356256 tw1299371833912084789 tw14396923825533126386 tw4893440160157401582 tw487455163899888921 tw13204934954184587790 tw5808244298483725928 tw13113501130423163494 tw11342520128652759425 tw5897784769355728425 tw4043154610138940555 tw2530942931192174669 tw1883912598910201082 tw7324481243524424679 tw9830126865107980113 tw13413421639383665247 tw853479043853200565 tw18129001379579883652 tw16946346874833479103 tw4997966601296255715 tw16238472788928789175 tw9847845233155719182 tw9784213354833936142 tw11513953434097363511 tw5680519530323905526 tw3900053346389231966 tw18380056353864614971 tw4597114510000126702 tw3740681529082119916 tw5330833541136252347 tw5884508554564222331 tw895088574317512102 tw12325895901208204971 tw11707162473208132437 tw7047395520114976794 tw2072871381216938204 tw5538653096308635139 tw2770181992026096586 tw14122200455221008978 tw11132671393889938422 tw13594418992612275471 tw10283768320835807637:True)
namespace K60.Internal
open PySem L2.Internal
theorem all_mk {l:PySem.W.OpenLaw} {w:World} {K:PySem.W.Frag} {h:Heap} {mg:Str->Option Value} {fa fL:Addr} (X:K.In h) (G:h.Ns mainGlobals mg) (hfa:mg "law"=some (.ref fa))
  {u1:Tok} {u2:Tok} {u3:Tok} {p4:Addr} {w4_0 w4_1 w4_2 w4_3 w4_4 w4_5 w4_6 w4_7 w4_8 w4_9 w4_10 w4_11 w4_12 w4_13 w4_14:Tok} {od4:Option Addr} {n4:Nat} {sl4:Array (Option Value)} {u5:Tok} {u6:Tok} {u7:Tok} {u8:Tok} {u9:Tok} {u10:Tok} {u11:Tok} {u12:Tok}
  {pW:Addr} {nW:Nat} {tW0 tW1 tW2 tW3 tW4 tW5 tW6 tW7 tW8 tW9 tW10 tW11 tW12 tW13 tW14 tW15:Tok} {fW0 fW1 fW2 fW3 fW4 fW5 fW6 fW7 fW8 fW9 fW10 fW11 fW12 fW13 fW14 fW15:Addr}
  {pD:Addr} {nD:Nat} {tD1 tD2 tD3 tD4 tD5 tD6 tD7 tD8 tD9 tD10 tD11:Tok} {qD1 qD2 qD3 qD4 qD5 qD6 qD7 qD8 qD9 qD10 qD11:Addr} {odD1:Option Addr} {nD1:Nat} {slD1:Array (Option Value)} {uD1_0 uD1_1:Tok} {odD2:Option Addr} {nD2:Nat} {slD2:Array (Option Value)} {uD2_0 uD2_1:Tok} {odD3:Option Addr} {nD3:Nat} {slD3:Array (Option Value)} {uD3_0 uD3_1 uD3_2:Tok} {odD4:Option Addr} {nD4:Nat} {slD4:Array (Option Value)} {uD4_0 uD4_1:Tok} {odD5:Option Addr} {nD5:Nat} {slD5:Array (Option Value)} {uD5_0 uD5_1:Tok} {odD6:Option Addr} {nD6:Nat} {slD6:Array (Option Value)} {uD6_0 uD6_1 uD6_2:Tok} {odD7:Option Addr} {nD7:Nat} {slD7:Array (Option Value)} {uD7_0 uD7_1:Tok} {odD8:Option Addr} {nD8:Nat} {slD8:Array (Option Value)} {uD8_0:Tok} {odD9:Option Addr} {nD9:Nat} {slD9:Array (Option Value)} {uD9_0 uD9_1:Tok} {odD10:Option Addr} {nD10:Nat} {slD10:Array (Option Value)} {uD10_0 uD10_1:Tok} {odD11:Option Addr} {nD11:Nat} {slD11:Array (Option Value)} {uD11_0 uD11_1:Tok}
  {fU C1 C2 C3 C4 C5 C6 C7 C8:Addr} {odL anL:Option Addr} {slL:Array (Option Value)} {ocL kVL dcL pmL cdL ctL:Value}
  (g1:dW K mainGlobals "MOST_JOINED"=some (some (.int 60 u1)))
  (g2:dW K mainGlobals "LETTERS"=some (some (.str "abcdefghijklmnopqrstuvwxyz" u2)))
  (g3:dW K mainGlobals "FIGURES"=some (some (.str "0123456789" u3)))
  (g4:dW K mainGlobals "KEPT_WORDS"=some (some (.ref p4)))
  (h4:K.lookup p4=some ⟨.type "tuple",od4,.seq #[.str "def" w4_0,.str "fn" w4_1,.str "call" w4_2,.str "let" w4_3,.str "rec" w4_4,.str "get" w4_5,.str "tag" w4_6,.str "case" w4_7,.str "row" w4_8,.str "at" w4_9,.str "join" w4_10,.str "size" w4_11,.str "add" w4_12,.str "sub" w4_13,.str "less" w4_14] n4,sl4⟩)
  (g5:dW K mainGlobals "MOST_FIGURES"=some (some (.int 60 u5)))
  (g6:dW K mainGlobals "MOST_SIGNS"=some (some (.int 12 u6)))
  (g7:dW K mainGlobals "MOST_DEFINITIONS"=some (some (.int 12 u7)))
  (g8:dW K mainGlobals "MOST_FIELDS"=some (some (.int 6 u8)))
  (g9:dW K mainGlobals "MOST_ARMS"=some (some (.int 6 u9)))
  (g10:dW K mainGlobals "MOST_THINGS"=some (some (.int 8 u10)))
  (g11:dW K mainGlobals "MOST_PLACES"=some (some (.int 160 u11)))
  (g12:dW K mainGlobals "MOST_NEST"=some (some (.int 24 u12)))
  (a1:Fm K "parts_of" oq)
  (a2:Fm K "places_in" mO)
  (a3:Fm K "flat" zE)
  (a4:Fm K "first_parts" kU)
  (a5:Fm K "held_value" lT)
  (a6:Fm K "work_num" ot)
  (a7:Fm K "work_name" mP)
  (a8:Fm K "work_add" ou)
  (a9:Fm K "work_sub" ow)
  (a10:Fm K "work_less" mQ)
  (a11:Fm K "run" CH)
  (a12:Fm K "words_of" ox)
  (a13:Fm K "is_name" qo)
  (a14:Fm K "is_number" mS)
  (a15:Fm K "made_of" qp)
  (a16:Fm K "read" zF)
  (a17:Fm K "check_count" kW)
  (a18:Fm K "homes_of" oy)
  (a19:Fm K "refuse_twice" kH)
  (a20:Fm K "words_once" lU)
  (a21:Fm K "home_of" qq)
  (a22:Fm K "root_scopes" kX)
  (a23:Fm K "inner_scopes" kI)
  (a24:Fm K "widened" qr)
  (a25:Fm K "_law_stem" mU)
  (a26:Fm K "_law_words" lV)
  (a27:Fm K "_law_mark" mV)
  (a28:Fm K "_law_number" kY)
  (a29:Fm K "_law_named" lW)
  (a30:Fm K "_law_form" mW)
  (a31:Fm K "_law_valued" kZ)
  (a32:Fm K "_law_sum" oz)
  (a33:Fm K "_law_placed" lg)
  (a34:Fm K "_law_text" mX)
  (a35:Fm K "_law_whole" lX)
  (a36:Fm K "_law_tuples" lj)
  (a37:Fm K "_law_ran" oA)
  (a38:Fm K "_law_told" mY)
  (a39:Fm K "_law_items" lY)
  (a40:Fm K "_law_less" mZ)
  (a41:Fm K "_law_is_value" kg)
  (c1:dW K mainGlobals "FlowError"=some (some (.ref C1)))
  (c2:dW K mainGlobals "BadText"=some (some (.ref C2)))
  (x2:dR K C2 [.type "ValueError",.type "Exception",.type "BaseException",.type "object"] "ValueError.__new__"=true)
  (c3:dW K mainGlobals "Twice"=some (some (.ref C3)))
  (c4:dW K mainGlobals "NoName"=some (some (.ref C4)))
  (c5:Cm K "Machine" C5)
  (n5program:du K (.ref C5) "program"=some none)
  (n5homes:du K (.ref C5) "homes"=some none)
  (n5turns:du K (.ref C5) "turns"=some none)
  (n5begun:du K (.ref C5) "begun"=some none)
  (n5end:du K (.ref C5) "end"=some none)
  (n5meets:du K (.ref C5) "meets"=some none)
  (n5had:du K (.ref C5) "had"=some none)
  (n5defined:du K (.ref C5) "defined"=some none)
  (n5steps:du K (.ref C5) "steps"=some none)
  (n5ready:du K (.ref C5) "ready"=some none)
  (e42:Mm K C5 "__init__" "Machine.__init__" jr)
  (e43:Mm K C5 "work_program" "Machine.work_program" iL)
  (e44:Mm K C5 "work_steps" "Machine.work_steps" i7)
  (e45:Mm K C5 "begin" "Machine.begin" kh)
  (e46:Mm K C5 "work_parts" "Machine.work_parts" i8)
  (e47:Mm K C5 "take_ready" "Machine.take_ready" i9)
  (e48:Mm K C5 "finish" "Machine.finish" jO)
  (e49:Mm K C5 "comes" "Machine.comes" ki)
  (e50:Mm K C5 "comes_as" "Machine.comes_as" js)
  (e51:Mm K C5 "both_come_as" "Machine.both_come_as" iM)
  (c6:Cm K "Run" C6)
  (n6end:du K (.ref C6) "end"=some none)
  (n6value:du K (.ref C6) "value"=some none)
  (n6meets:du K (.ref C6) "meets"=some none)
  (n6had:du K (.ref C6) "had"=some none)
  (n6begun:du K (.ref C6) "begun"=some none)
  (e52:Mm K C6 "__init__" "Run.__init__" kJ)
  (c7:Cm K "Program" C7)
  (n7names:du K (.ref C7) "names"=some none)
  (n7roots:du K (.ref C7) "roots"=some none)
  (n7rows:du K (.ref C7) "rows"=some none)
  (e53:Mm K C7 "__init__" "Program.__init__" jt)
  (c8:Cm K "Reader" C8)
  (n8words:du K (.ref C8) "words"=some none)
  (n8taken:du K (.ref C8) "taken"=some none)
  (n8rows:du K (.ref C8) "rows"=some none)
  (e54:Mm K C8 "__init__" "Reader.__init__" jD)
  (e55:Mm K C8 "ahead" "Reader.ahead" kK)
  (e56:Mm K C8 "take" "Reader.take" lq)
  (e57:Mm K C8 "pass_over" "Reader.pass_over" ju)
  (e58:Mm K C8 "take_name" "Reader.take_name" jv)
  (e59:Mm K C8 "take_expr" "Reader.take_expr" jw)
  (e60:Mm K C8 "take_row" "Reader.take_row" jE)
  (e61:Mm K C8 "take_form" "Reader.take_form" jx)
  (e62:Mm K C8 "take_steady" "Reader.take_steady" ja)
  (e63:Mm K C8 "take_fields" "Reader.take_fields" jb)
  (e64:Mm K C8 "take_arms" "Reader.take_arms" jy)
  (e65:Mm K C8 "take_things" "Reader.take_things" jc)
  (z_ValueError:dW K mainGlobals "ValueError"=some none)
  (z_all:dW K mainGlobals "all"=some none)
  (z_bool:dW K mainGlobals "bool"=some none)
  (z_dict:dW K mainGlobals "dict"=some none)
  (z_enumerate:dW K mainGlobals "enumerate"=some none)
  (z_int:dW K mainGlobals "int"=some none)
  (z_isinstance:dW K mainGlobals "isinstance"=some none)
  (z_len:dW K mainGlobals "len"=some none)
  (z_list:dW K mainGlobals "list"=some none)
  (z_max:dW K mainGlobals "max"=some none)
  (z_min:dW K mainGlobals "min"=some none)
  (z_range:dW K mainGlobals "range"=some none)
  (z_reversed:dW K mainGlobals "reversed"=some none)
  (z_str:dW K mainGlobals "str"=some none)
  (z_sum:dW K mainGlobals "sum"=some none)
  (z_tuple:dW K mainGlobals "tuple"=some none)
  (z_zip:dW K mainGlobals "zip"=some none)
  (w0:dW K mainGlobals "work_num"=some (some (.ref fW0)))
  (w1:dW K mainGlobals "work_name"=some (some (.ref fW1)))
  (w13:dW K mainGlobals "work_add"=some (some (.ref fW13)))
  (w14:dW K mainGlobals "work_sub"=some (some (.ref fW14)))
  (w15:dW K mainGlobals "work_less"=some (some (.ref fW15)))
  (gW:dW K mainGlobals "WORKERS"=some (some (.ref pW)))
  (sW:(pW==sysModules)=false)
  (hW:K.lookup pW=some ⟨.type "dict",none,.dict #[⟨PyData.keyHash w.params "num",.str "num" tW0,.ref fW0⟩,⟨PyData.keyHash w.params "name",.str "name" tW1,.ref fW1⟩,⟨PyData.keyHash w.params "fn",.str "fn" tW2,.ref fW2⟩,⟨PyData.keyHash w.params "call",.str "call" tW3,.ref fW3⟩,⟨PyData.keyHash w.params "let",.str "let" tW4,.ref fW4⟩,⟨PyData.keyHash w.params "rec",.str "rec" tW5,.ref fW5⟩,⟨PyData.keyHash w.params "get",.str "get" tW6,.ref fW6⟩,⟨PyData.keyHash w.params "tag",.str "tag" tW7,.ref fW7⟩,⟨PyData.keyHash w.params "case",.str "case" tW8,.ref fW8⟩,⟨PyData.keyHash w.params "row",.str "row" tW9,.ref fW9⟩,⟨PyData.keyHash w.params "at",.str "at" tW10,.ref fW10⟩,⟨PyData.keyHash w.params "join",.str "join" tW11,.ref fW11⟩,⟨PyData.keyHash w.params "size",.str "size" tW12,.ref fW12⟩,⟨PyData.keyHash w.params "add",.str "add" tW13,.ref fW13⟩,⟨PyData.keyHash w.params "sub",.str "sub" tW14,.ref fW14⟩,⟨PyData.keyHash w.params "less",.str "less" tW15,.ref fW15⟩] nW,#[]⟩)
  (gD:dW K mainGlobals "STEADY_FORMS"=some (some (.ref pD)))
  (sD:(pD==sysModules)=false)
  (hD:K.lookup pD=some ⟨.type "dict",none,.dict #[⟨PyData.keyHash w.params "fn",.str "fn" tD1,.ref qD1⟩,⟨PyData.keyHash w.params "call",.str "call" tD2,.ref qD2⟩,⟨PyData.keyHash w.params "let",.str "let" tD3,.ref qD3⟩,⟨PyData.keyHash w.params "get",.str "get" tD4,.ref qD4⟩,⟨PyData.keyHash w.params "tag",.str "tag" tD5,.ref qD5⟩,⟨PyData.keyHash w.params "at",.str "at" tD6,.ref qD6⟩,⟨PyData.keyHash w.params "join",.str "join" tD7,.ref qD7⟩,⟨PyData.keyHash w.params "size",.str "size" tD8,.ref qD8⟩,⟨PyData.keyHash w.params "add",.str "add" tD9,.ref qD9⟩,⟨PyData.keyHash w.params "sub",.str "sub" tD10,.ref qD10⟩,⟨PyData.keyHash w.params "less",.str "less" tD11,.ref qD11⟩] nD,#[]⟩)
  (hD1:K.lookup qD1=some ⟨.type "tuple",odD1,.seq #[.str "name" uD1_0,.str "expr" uD1_1] nD1,slD1⟩)
  (hD2:K.lookup qD2=some ⟨.type "tuple",odD2,.seq #[.str "expr" uD2_0,.str "expr" uD2_1] nD2,slD2⟩)
  (hD3:K.lookup qD3=some ⟨.type "tuple",odD3,.seq #[.str "name" uD3_0,.str "expr" uD3_1,.str "expr" uD3_2] nD3,slD3⟩)
  (hD4:K.lookup qD4=some ⟨.type "tuple",odD4,.seq #[.str "expr" uD4_0,.str "name" uD4_1] nD4,slD4⟩)
  (hD5:K.lookup qD5=some ⟨.type "tuple",odD5,.seq #[.str "name" uD5_0,.str "expr" uD5_1] nD5,slD5⟩)
  (hD6:K.lookup qD6=some ⟨.type "tuple",odD6,.seq #[.str "expr" uD6_0,.str "expr" uD6_1,.str "expr" uD6_2] nD6,slD6⟩)
  (hD7:K.lookup qD7=some ⟨.type "tuple",odD7,.seq #[.str "expr" uD7_0,.str "expr" uD7_1] nD7,slD7⟩)
  (hD8:K.lookup qD8=some ⟨.type "tuple",odD8,.seq #[.str "expr" uD8_0] nD8,slD8⟩)
  (hD9:K.lookup qD9=some ⟨.type "tuple",odD9,.seq #[.str "expr" uD9_0,.str "expr" uD9_1] nD9,slD9⟩)
  (hD10:K.lookup qD10=some ⟨.type "tuple",odD10,.seq #[.str "expr" uD10_0,.str "expr" uD10_1] nD10,slD10⟩)
  (hD11:K.lookup qD11=some ⟨.type "tuple",odD11,.seq #[.str "expr" uD11_0,.str "expr" uD11_1] nD11,slD11⟩)
  (aL:dW K mainGlobals "law"=some (some (.ref fL))) (lL:K.lookup fL=some ⟨ocL,odL,.func (dO "law" "law" (kC sI) (jC sI) (fK sI) .none kVL dcL pmL anL cdL ctL),slL⟩) (cL:dP K cdL "law"=true) (kL:dE K (.ref fL)=true):
  ∃fd:FuncData,(∀(s:Shared) (v:Value),BindsTo s fd ⟨[v],[]⟩ [("_law_script",v)])/\∀base:Heap,K.In base->base.Ns mainGlobals mg->pT l.prog w K mg base CX0 150 fa fd ["_law_script"] (wJ K):=by
 have e:=hfa.symm.trans (dZ X G aL)
 cases e
 have T:Txt K mg:=⟨u1,dZ X G g1,u2,dZ X G g2,u3,dZ X G g3,p4,dZ X G g4,fun _=> .inr ⟨_,_,_,h4,rfl,rfl,Fp,(.cons ⟨_,rfl⟩ (.cons ⟨_,rfl⟩ (.cons ⟨_,rfl⟩ (.cons ⟨_,rfl⟩ (.cons ⟨_,rfl⟩ (.cons ⟨_,rfl⟩ (.cons ⟨_,rfl⟩ (.cons ⟨_,rfl⟩ (.cons ⟨_,rfl⟩ (.cons ⟨_,rfl⟩ (.cons ⟨_,rfl⟩ (.cons ⟨_,rfl⟩ (.cons ⟨_,rfl⟩ (.cons ⟨_,rfl⟩ (.cons ⟨_,rfl⟩ .nil)))))))))))))))⟩,u5,dZ X G g5,u6,dZ X G g6,u7,dZ X G g7,u8,dZ X G g8,u9,dZ X G g9,u10,dZ X G g10,u11,dZ X G g11,u12,dZ X G g12,a1.x X G,a2.x X G,a3.x X G,a4.x X G,a5.x X G,a6.x X G,a7.x X G,a8.x X G,a9.x X G,a10.x X G,a11.x X G,a12.x X G,a13.x X G,a14.x X G,a15.x X G,a16.x X G,a17.x X G,a18.x X G,a19.x X G,a20.x X G,a21.x X G,a22.x X G,a23.x X G,a24.x X G,a25.x X G,a26.x X G,a27.x X G,a28.x X G,a29.x X G,a30.x X G,a31.x X G,a32.x X G,a33.x X G,a34.x X G,a35.x X G,a36.x X G,a37.x X G,a38.x X G,a39.x X G,a40.x X G,a41.x X G,⟨C1,dZ X G c1⟩,⟨C2,dZ X G c2⟩,x2,⟨C3,dZ X G c3⟩,⟨C4,dZ X G c4⟩,c5.x X G,n5program,n5homes,n5turns,n5begun,n5end,n5meets,n5had,n5defined,n5steps,n5ready,e42.x,c5.k e42.x,e43.x,e44.x,e45.x,e46.x,e47.x,e48.x,e49.x,e50.x,e51.x,c6.x X G,n6end,n6value,n6meets,n6had,n6begun,e52.x,c6.k e52.x,c7.x X G,n7names,n7roots,n7rows,e53.x,c7.k e53.x,c8.x X G,n8words,n8taken,n8rows,e54.x,c8.k e54.x,e55.x,e56.x,e57.x,e58.x,e59.x,e60.x,e61.x,e62.x,e63.x,e64.x,e65.x,ee X G z_ValueError,ee X G z_all,ee X G z_bool,ee X G z_dict,ee X G z_enumerate,ee X G z_int,ee X G z_isinstance,ee X G z_len,ee X G z_list,ee X G z_max,ee X G z_min,ee X G z_range,ee X G z_reversed,ee X G z_str,ee X G z_sum,ee X G z_tuple,ee X G z_zip⟩
 have z:=(dZ X G w0).symm.trans T.d6.m
 cases z
 have z:=(dZ X G w1).symm.trans T.d7.m
 cases z
 have z:=(dZ X G w13).symm.trans T.d8.m
 cases z
 have z:=(dZ X G w14).symm.trans T.d9.m
 cases z
 have z:=(dZ X G w15).symm.trans T.d10.m
 cases z
 exact⟨dO "law" "law" (kC sI) (jC sI) (fK sI) .none kVL dcL pmL anL cdL ctL,fun s v=> .of_eq rfl,fun base _ _=>Ds T (xG (l:=[("fn",tD1,qD1),("call",tD2,qD2),("let",tD3,qD3),("get",tD4,qD4),("tag",tD5,qD5),("at",tD6,qD6),("join",tD7,qD7),("size",tD8,qD8),("add",tD9,qD9),("sub",tD10,qD10),("less",tD11,qD11)]) (dZ X G gD) sD hD rfl (by show(["fn","call","let","get","tag","at","join","size","add","sub","less"]:List Str).Nodup;decide+kernel) (.cons (fun _=> .inr ⟨_,_,_,hD1,rfl,rfl,my,(.cons ⟨_,rfl⟩ (.cons ⟨_,rfl⟩ .nil))⟩)<| .cons (fun _=> .inr ⟨_,_,_,hD2,rfl,rfl,my,(.cons ⟨_,rfl⟩ (.cons ⟨_,rfl⟩ .nil))⟩)<| .cons (fun _=> .inr ⟨_,_,_,hD3,rfl,rfl,nA,(.cons ⟨_,rfl⟩ (.cons ⟨_,rfl⟩ (.cons ⟨_,rfl⟩ .nil)))⟩)<| .cons (fun _=> .inr ⟨_,_,_,hD4,rfl,rfl,my,(.cons ⟨_,rfl⟩ (.cons ⟨_,rfl⟩ .nil))⟩)<| .cons (fun _=> .inr ⟨_,_,_,hD5,rfl,rfl,my,(.cons ⟨_,rfl⟩ (.cons ⟨_,rfl⟩ .nil))⟩)<| .cons (fun _=> .inr ⟨_,_,_,hD6,rfl,rfl,nA,(.cons ⟨_,rfl⟩ (.cons ⟨_,rfl⟩ (.cons ⟨_,rfl⟩ .nil)))⟩)<| .cons (fun _=> .inr ⟨_,_,_,hD7,rfl,rfl,my,(.cons ⟨_,rfl⟩ (.cons ⟨_,rfl⟩ .nil))⟩)<| .cons (fun _=> .inr ⟨_,_,_,hD8,rfl,rfl,tO,(.cons ⟨_,rfl⟩ .nil)⟩)<| .cons (fun _=> .inr ⟨_,_,_,hD9,rfl,rfl,my,(.cons ⟨_,rfl⟩ (.cons ⟨_,rfl⟩ .nil))⟩)<| .cons (fun _=> .inr ⟨_,_,_,hD10,rfl,rfl,my,(.cons ⟨_,rfl⟩ (.cons ⟨_,rfl⟩ .nil))⟩)<| .cons (fun _=> .inr ⟨_,_,_,hD11,rfl,rfl,my,(.cons ⟨_,rfl⟩ (.cons ⟨_,rfl⟩ .nil))⟩)<| .nil)) (G5 T (dZ X G gW) sW hW rfl) (pZ (st:=sI) lL cL kL)⟩
theorem walk {l:PySem.W.OpenLaw} {q:Program} {loose:List Str} {XP:(Str->Option Value)->Heap->Prop} {YP:World->Heap->Prop} {d:DefRec} {K:Params->PySem.W.Frag} (hn:l.most=some 63) (hdf:d.params.defaults=[])
  (hY:∀(w:World) (h:Heap),YP w h->(K w.params).In h)
  (F:∀(w:World) (mg:Str->Option Value) (fa:Addr) (h:Heap),(K w.params).In h->h.Ns mainGlobals mg->mg d.name=some (.ref fa)->
   ∃fd:FuncData,(∀(s:Shared) (u:Value),BindsTo s fd ⟨[u],[]⟩ [("_law_script",u)])/\∀base:Heap,(K w.params).In base->base.Ns mainGlobals mg->pT l.prog w (K w.params) mg base CX0 150 fa fd ["_law_script"] (wJ (K w.params))):
  PySem.W.WalkO q loose XP YP l.row.toRowW d [] (fun f vs=>PySem.call f vs):=
 L2.Internal.walk_of (n:=63) (k:=150) (x:="_law_script") (CX:=fun _=>CX0) (sp:=fun w=>wJ (K w.params)) hn (by decide) hdf ⟨rfl,by decide,by decide⟩ hY F (fun _ _ a ns hl _ hS=>⟨a,ns,rfl,hS,hl,fun _=>rfl⟩) fun _ _ _ _ _ z=>z
end K60.Internal
open PySem PySem.W PyProof.Rows
set_option maxRecDepth 100000 in
set_option maxHeartbeats 0 in
theorem PySem.Challenge.cw_flowkinds_k60_numbers_holds : PySem.Challenge.rw_flowkinds_k60_numbers.Holds := by
 w_on; o_law; k_head; (case hw => w_witness2)
 k_fill
 refine K60.Internal.walk (l := PySem.Challenge.rw_flowkinds_k60_numbers) rfl rfl (fun w h Y => PySem.W.kIn_of Y) ?F
 case F =>
  intro w mg fa h KX G hmg
  apply K60.Internal.all_mk KX G hmg
  all_goals first | (apply K60.Internal.Fm.mk <;> k_is) | (apply K60.Internal.Mm.mk <;> k_is) | (apply K60.Internal.Cm.mk <;> k_is) | k_is | kts_exm | kit_is | k_exc | rfl | (constructor <;> first | kit_is | (constructor <;> k_is))
